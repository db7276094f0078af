/- Two edits as one: of the program. -/
import Derived.Test.YtopcbmmnjmmoiaaGreatDifO
namespace Go.Proofs.YtopcbmmnjmmoiaaGreat
open Go.RowKit
set_option linter.unusedVariables false
set_option maxRecDepth 100000

def lenOf : Value → Nat
  | .slice _ n _ => n
  | _ => 0
/-- What is asked of edits that are taken together. -/
def goodD (e : De) : Prop := okN e.1 = true ∧ smallN e.1 ∧ inD e.2 = true
set_option maxHeartbeats 3200000 in
theorem together_any (U V : Value) (a b : List De) (w : World) (hU : Dfs w U a) (hV : Dfs w V b) (ga : ∀ e ∈ a, goodD e) (gb : ∀ e ∈ b, goodD e) (la : a.length ≤ 100000) (lb : b.length ≤ 100000) :
    Calls Tryz.prog 26 #[U, V] w fun e w' => ∃ v, e = .returned v ∧ w'.ownsRow w.heap.size 42 3 v (mergeD a b).length (dfC (mergeD a b)) ∧ Below w.heap.size w w' := by
  obtain ⟨Aa, ca, rfl, -, -, -, -⟩ := hU.ex
  obtain ⟨Ab, cb, rfl, -, -, -, -⟩ := hV.ex
  have hrl := merge_len a b
  obtain ⟨na, hna⟩ : ∃ n, a.length = n := ⟨_, rfl⟩
  obtain ⟨nb, hnb⟩ : ∃ n, b.length = n := ⟨_, rfl⟩
  obtain ⟨R, hR⟩ : ∃ R, mergeD a b = R := ⟨_, rfl⟩
  rw [hR]
  rw [hR, hna, hnb] at hrl
  rw [hna] at la hU ⊢
  rw [hnb] at lb hV ⊢
  obtain ⟨r, hrr⟩ : ∃ r, R.length = r := ⟨_, rfl⟩
  rw [hrr] at hrl
  have SU := Lib.hid hU; have SV := Lib.hid hV; have GA := Lib.hid ga; have GB := Lib.hid gb; have HR0 := Lib.hid hR; have HRL := Lib.hid hrr; have HRN := Lib.hid (show r ≤ 200000 by omega)
  have e1 : ∀ args w, (callFunc 39 args).run Tryz.prog w = .ok (.enter 39 args) w := enters_of Tryz.func39 (by kernel_rfl) rfl
  clear hU hV ga gb hR hrr hna hnb hrl
  go_enter Tryz.func26, Tryz.ntmps26
  go_wp2
  go_loopw [0, 1, 5] (fun va vb v wr => ∃ (A1 A2 : Option Addr) (n1 k1 n2 k2 : Nat) (l1 l2 acc : List De), va = .slice A1 n1 k1 ∧ vb = .slice A2 n2 k2 ∧ Hid (Dfs w (.slice A1 n1 k1) l1) ∧ Hid (Dfs w (.slice A2 n2 k2) l2) ∧ Hid (∀ e ∈ l1, goodD e) ∧ Hid (∀ e ∈ l2, goodD e) ∧ Hid (acc ++ mergeD l1 l2 = R) ∧ acc.length + n1 + n2 ≤ na + nb ∧ wr.ownsRow w.heap.size 42 3 v acc.length (dfC acc) ∧ Hid (Below w.heap.size w wr)) (fun va vb _ _ => lenOf va + lenOf vb)
  case atStart => exact ⟨Aa, Ab, na, ca, nb, cb, a, b, [], rfl, rfl, SU, SV, GA, GB, HR0, by simp, dfs_row0 _ _, Lib.hid (Below.refl _ _)⟩
  case round =>
    obtain ⟨A1, A2, n1, k1, n2, k2, l1, l2, acc, rfl, rfl, D1, D2, G1, G2, HR, hlen, hown, HB⟩ := hrel
    by_cases h1 : n1 = 0
    · have hl1 : l1 = [] := List.eq_nil_of_length_eq_zero (by have := D1.out.lenE.1; omega)
      have hd1 : decide (0 < n1) = false := by rw [h1]; rfl
      have hcat : [acc, l1, l2].flatten = R := by
        rw [← HR.out]
        simp only [List.flatten_cons, List.flatten_nil, List.append_nil]
        rw [hl1, List.nil_append, merge_nilL]
      obtain ⟨a5, k5, rfl, hacc⟩ := dfsO hown
      have hln : acc.length ≤ na + nb := by omega
      obtain ⟨p, hp⟩ : ∃ p, acc.length = p := ⟨_, rfl⟩
      rw [hp] at hacc hln hown ⊢
      obtain ⟨X, g, hX, hg, hxb, hDL⟩ : ∃ X g, wr.alloc (.cells #[.slice a5 p k5, .slice A1 n1 k1, .slice A2 n2 k2] 24) = X ∧ wr.heap.size = g ∧ Below wr.heap.size wr X ∧ DfsL X (.slice (some ⟨g, 0, none⟩) 3 3) [acc, l1, l2] := by
        have hb0 : Below wr.heap.size wr (wr.alloc (.cells #[.slice a5 p k5, .slice A1 n1 k1, .slice A2 n2 k2] 24)) := (Below.refl _ _).alloc (Nat.le_refl _) _
        refine ⟨_, _, rfl, rfl, hb0, ⟨wr.heap.size, 0, 3, rfl, Nat.le_refl _, by unfold maxLen; omega, fun j hj => ?_⟩⟩
        have hj2 : j = 0 ∨ j = 1 ∨ j = 2 := by have : j < 3 := hj; omega
        rcases hj2 with rfl | rfl | rfl
        · exact ⟨_, _, _, cell_new (by simp) rfl, hacc.below hb0⟩
        · exact ⟨_, _, _, cell_new (by simp) rfl, D1.out.below (below_step HB.out hb0)⟩
        · exact ⟨_, _, _, cell_new (by simp) rfl, D2.out.below (below_step HB.out hb0)⟩
      have kc := df_concat _ [acc, l1, l2] X hDL (by simp) (by rw [hcat, HRL.out]; have := HRN.out; omega)
      rw [hcat] at kc
      have KC := Lib.hid kc; have BX := Lib.hid (below_step HB.out hxb)
      have hfin : ∀ Y, Y = wr.alloc (.cells #[.slice a5 p k5, .slice A1 n1 k1, .slice A2 n2 k2] 24) → Calls Tryz.prog 41 #[.slice (some ⟨wr.heap.size, 0, none⟩) 3 3] Y fun e w' => ∃ v, e = .returned v ∧ w'.ownsRow w.heap.size 42 3 v R.length (dfC R) ∧ Below w.heap.size w w' := by
        intro Y hY
        rw [hY, hX, hg]
        refine KC.out.mono ?_
        rintro e w3 ⟨v3, rfl, hr3, hb3⟩
        exact ⟨v3, rfl, row_base hr3 BX.out.size, below_step BX.out hb3⟩
      have HFIN := Lib.hid hfin
      clear hcat hacc hln hown hX hg hxb hDL kc hfin KC BX hp h1 hl1
      go_wp2_with (go_at_call 41; refine (HFIN.out _ rfl).mono ?_; rintro e w3 ⟨v3, rfl, hr3, hb3⟩; have HR3 := Lib.hid hr3; have HB3 := Lib.hid hb3; clear hr3 hb3)
      go_ret
      exact ⟨v3, rfl, HR3.out, HB3.out⟩
    by_cases h2 : n2 = 0
    · have hl2 : l2 = [] := List.eq_nil_of_length_eq_zero (by have := D2.out.lenE.1; omega)
      have hd2 : decide (0 < n2) = false := by rw [h2]; rfl
      have hd1 : decide (0 < n1) = true := decide_eq_true (by omega)
      have hcat : [acc, l1, l2].flatten = R := by
        rw [← HR.out]
        simp only [List.flatten_cons, List.flatten_nil, List.append_nil]
        rw [hl2, List.append_nil, merge_nil]
      obtain ⟨a5, k5, rfl, hacc⟩ := dfsO hown
      have hln : acc.length ≤ na + nb := by omega
      obtain ⟨p, hp⟩ : ∃ p, acc.length = p := ⟨_, rfl⟩
      rw [hp] at hacc hln hown ⊢
      obtain ⟨X, g, hX, hg, hxb, hDL⟩ : ∃ X g, wr.alloc (.cells #[.slice a5 p k5, .slice A1 n1 k1, .slice A2 n2 k2] 24) = X ∧ wr.heap.size = g ∧ Below wr.heap.size wr X ∧ DfsL X (.slice (some ⟨g, 0, none⟩) 3 3) [acc, l1, l2] := by
        have hb0 : Below wr.heap.size wr (wr.alloc (.cells #[.slice a5 p k5, .slice A1 n1 k1, .slice A2 n2 k2] 24)) := (Below.refl _ _).alloc (Nat.le_refl _) _
        refine ⟨_, _, rfl, rfl, hb0, ⟨wr.heap.size, 0, 3, rfl, Nat.le_refl _, by unfold maxLen; omega, fun j hj => ?_⟩⟩
        have hj2 : j = 0 ∨ j = 1 ∨ j = 2 := by have : j < 3 := hj; omega
        rcases hj2 with rfl | rfl | rfl
        · exact ⟨_, _, _, cell_new (by simp) rfl, hacc.below hb0⟩
        · exact ⟨_, _, _, cell_new (by simp) rfl, D1.out.below (below_step HB.out hb0)⟩
        · exact ⟨_, _, _, cell_new (by simp) rfl, D2.out.below (below_step HB.out hb0)⟩
      have kc := df_concat _ [acc, l1, l2] X hDL (by simp) (by rw [hcat, HRL.out]; have := HRN.out; omega)
      rw [hcat] at kc
      have KC := Lib.hid kc; have BX := Lib.hid (below_step HB.out hxb)
      have hfin : ∀ Y, Y = wr.alloc (.cells #[.slice a5 p k5, .slice A1 n1 k1, .slice A2 n2 k2] 24) → Calls Tryz.prog 41 #[.slice (some ⟨wr.heap.size, 0, none⟩) 3 3] Y fun e w' => ∃ v, e = .returned v ∧ w'.ownsRow w.heap.size 42 3 v R.length (dfC R) ∧ Below w.heap.size w w' := by
        intro Y hY
        rw [hY, hX, hg]
        refine KC.out.mono ?_
        rintro e w3 ⟨v3, rfl, hr3, hb3⟩
        exact ⟨v3, rfl, row_base hr3 BX.out.size, below_step BX.out hb3⟩
      have HFIN := Lib.hid hfin
      clear hcat hacc hln hown hX hg hxb hDL kc hfin KC BX hp h1 h2 hl2
      go_wp2_with (go_at_call 41; refine (HFIN.out _ rfl).mono ?_; rintro e w3 ⟨v3, rfl, hr3, hb3⟩; have HR3 := Lib.hid hr3; have HB3 := Lib.hid hb3; clear hr3 hb3)
      go_ret
      exact ⟨v3, rfl, HR3.out, HB3.out⟩
    · obtain ⟨⟨⟨x1, x2⟩, zx⟩, t1, rfl⟩ : ∃ x t, l1 = x :: t := by
        cases l1 with
        | nil => exact absurd D1.out.lenE.1.symm h1
        | cons x t => exact ⟨x, t, rfl⟩
      obtain ⟨⟨⟨y1, y2⟩, zy⟩, t2, rfl⟩ : ∃ x t, l2 = x :: t := by
        cases l2 with
        | nil => exact absurd D2.out.lenE.1.symm h2
        | cons x t => exact ⟨x, t, rfl⟩
      obtain ⟨b1, o1, rfl, hb1, cw0, cw1, cw2⟩ := D1.out.first
      obtain ⟨b2, o2, rfl, hb2, dw0, dw1, dw2⟩ := D2.out.first
      have c0 := cell_keep cw0 HB.out; have c1 := cell_keep cw1 HB.out; have c2 := cell_keep cw2 HB.out; have d0 := cell_keep dw0 HB.out; have d1 := cell_keep dw1 HB.out; have d2 := cell_keep dw2 HB.out
      have hD1 : Dfs w (.slice (if k1 = 1 then some ⟨b1, o1, none⟩ else some ⟨b1, o1 + 3, none⟩) (n1 - 1) (k1 - 1)) t1 := by
        have := D1.out.cut (i := 1) (by simp)
        simpa [sliced, addr_add] using this
      have hD2 : Dfs w (.slice (if k2 = 1 then some ⟨b2, o2, none⟩ else some ⟨b2, o2 + 3, none⟩) (n2 - 1) (k2 - 1)) t2 := by
        have := D2.out.cut (i := 1) (by simp)
        simpa [sliced, addr_add] using this
      obtain ⟨A1', hA1⟩ : ∃ A', (if k1 = 1 then some (⟨b1, o1, none⟩ : Addr) else some ⟨b1, o1 + 3, none⟩) = A' := ⟨_, rfl⟩
      obtain ⟨A2', hA2⟩ : ∃ A', (if k2 = 1 then some (⟨b2, o2, none⟩ : Addr) else some ⟨b2, o2 + 3, none⟩) = A' := ⟨_, rfl⟩
      rw [hA1] at hD1
      rw [hA2] at hD2
      have htl1 : ∀ w, (Instr.sliceAt 24 (.slice (some ⟨b1, o1, none⟩) n1 k1) (some (.int .i64 1)) none none).run Tryz.prog w = .ok (.slice A1' (n1 - 1) (k1 - 1)) w := fun w => by
        rw [tail_df w _ _ _ (by have := D1.out.lenE.1; simp at this; omega) D1.out.lenE.2.1, ← hA1]; simp [sliced, addr_add]
      have htl2 : ∀ w, (Instr.sliceAt 24 (.slice (some ⟨b2, o2, none⟩) n2 k2) (some (.int .i64 1)) none none).run Tryz.prog w = .ok (.slice A2' (n2 - 1) (k2 - 1)) w := fun w => by
        rw [tail_df w _ _ _ (by have := D2.out.lenE.1; simp at this; omega) D2.out.lenE.2.1, ← hA2]; simp [sliced, addr_add]
      have HA1 := Lib.hid hA1; have HA2 := Lib.hid hA2; have HTL1 := Lib.hid htl1; have HTL2 := Lib.hid htl2
      clear htl1 htl2
      have gx := G1.out _ List.mem_cons_self
      have gy := G2.out _ List.mem_cons_self
      have G1' : Hid (∀ e ∈ t1, goodD e) := Lib.hid fun e he => G1.out e (List.mem_cons_of_mem _ he)
      have G2' : Hid (∀ e ∈ t2, goodD e) := Lib.hid fun e he => G2.out e (List.mem_cons_of_mem _ he)
      have GX := Lib.hid gx; have GY := Lib.hid gy; have D1' := Lib.hid hD1; have D2' := Lib.hid hD2
      obtain ⟨C, hC⟩ : ∃ C, ordN (x1, x2) (y1, y2) = C := ⟨_, rfl⟩
      have ko := fun w => dorder_any x1 x2 y1 y2 w gx.2.1.1 gx.2.1.2 gy.2.1.1 gy.2.1.2 gx.1 gy.1
      rw [hC] at ko
      have KO := Lib.hid ko; have HC := Lib.hid hC; have HOWN := Lib.hid hown
      have hp1 : 0 < n1 := by omega
      have hp2 : 0 < n2 := by omega
      have hd1 : decide (0 < n1) = true := decide_eq_true hp1
      have hd2 : decide (0 < n2) = true := decide_eq_true hp2
      have HP1 := Lib.hid hp1; have HP2 := Lib.hid hp2; have HLEN := Lib.hid hlen
      clear h1 h2 gx gy hD1 hD2 hA1 hA2 ko hC hown hp1 hp2 hb1 hb2 hlen
      go_upto_region 3 with fail
      refine rol_run (by kernel_rfl) [[], [0], [0, 1], [0, 1, 2], [], [4], [4, 5], [4, 5, 6], [0, 1, 2, 3, 4, 5, 6, 7], [0, 1, 2, 3, 4, 5, 6, 7, 8]] (by kernel_rfl) [16, 17, 18, 19, 20, 21, 22, 23, 24, 6] [[], [0], [1], [2], [], [4], [5], [6], [3, 7], [8]] [0, 0, 0, 0, 0, 0, 0, 0, 0, 0] [0, 0, 0, 0, 0, 0, 0, 0, 0, 0] [1000, 1000, 1000, 1000, 1000, 1000, 1000, 1000, 1000, 1000] [.val 16 (.slice (some ⟨b1, o1, none⟩) n1 k1), .val 17 (.pointer (some ⟨b1, o1, none⟩)), .val 18 (.pointer (some ⟨b1, o1, none⟩)), .val 19 (.agg #[.string (mkB x1), .string (mkB x2)]), .val 20 (.slice (some ⟨b2, o2, none⟩) n2 k2), .val 21 (.pointer (some ⟨b2, o2, none⟩)), .val 22 (.pointer (some ⟨b2, o2, none⟩)), .val 23 (.agg #[.string (mkB y1), .string (mkB y2)]), .val 24 (.int .i64 C), .val 6 (.int .i64 C)] (by kernel_rfl) ?_ (wr.heap.size) (wr.heap.size) rfl (Below.refl _ _) rfl (fun _ => 0) ?_ ?_ ?_
      · intro j hj
        have hj3 : j < 10 := hj
        have hj2 : j = 0 ∨ j = 1 ∨ j = 2 ∨ j = 3 ∨ j = 4 ∨ j = 5 ∨ j = 6 ∨ j = 7 ∨ j = 8 ∨ j = 9 := by omega
        clear hj hj3
        rcases hj2 with rfl | rfl | rfl | rfl | rfl | rfl | rfl | rfl | rfl | rfl
        · exact trivial
        · exact trivial
        · exact trivial
        · exact trivial
        · exact trivial
        · exact trivial
        · exact trivial
        · exact trivial
        · exact trivial
        · exact trivial
      · intro j hj0 hj
        exact absurd hj (Nat.not_lt.2 hj0)
      · intro i hi a wx who hG hF
        have hz : a.tmps.size = 76 := hG.size
        have hi3 : i < 10 := hi
        have hi2 : i = 0 ∨ i = 1 ∨ i = 2 ∨ i = 3 ∨ i = 4 ∨ i = 5 ∨ i = 6 ∨ i = 7 ∨ i = 8 ∨ i = 9 := by omega
        clear hi hi3
        rcases hi2 with rfl | rfl | rfl | rfl | rfl | rfl | rfl | rfl | rfl | rfl
        · exact rol_val rfl rfl rfl (by rw [hz]; decide) (ex_move (Or.inl rfl) (eval_slot ((hG.slots 0 (by decide)).trans rfl))) hG.below
        · exact rol_val rfl rfl rfl (by rw [hz]; decide) (ex_index rfl (eval_slot (hF 0 (by decide))) rfl (idx0_df HP1.out)) hG.below
        · exact rol_val rfl rfl rfl (by rw [hz]; decide) (ex_field rfl (eval_slot (hF 1 (by decide))) fld_df) hG.below
        · exact rol_val rfl rfl rfl (by rw [hz]; decide) (ex_load rfl (eval_slot (hF 2 (by decide))) (ld_node (cell_keep c0 hG.below) (cell_keep c1 hG.below))) hG.below
        · exact rol_val rfl rfl rfl (by rw [hz]; decide) (ex_move (Or.inl rfl) (eval_slot ((hG.slots 1 (by decide)).trans rfl))) hG.below
        · exact rol_val rfl rfl rfl (by rw [hz]; decide) (ex_index rfl (eval_slot (hF 4 (by decide))) rfl (idx0_df HP2.out)) hG.below
        · exact rol_val rfl rfl rfl (by rw [hz]; decide) (ex_field rfl (eval_slot (hF 5 (by decide))) fld_df) hG.below
        · exact rol_val rfl rfl rfl (by rw [hz]; decide) (ex_load rfl (eval_slot (hF 6 (by decide))) (ld_node (cell_keep d0 hG.below) (cell_keep d1 hG.below))) hG.below
        · refine rol_call rfl rfl rfl (by rw [hz]; decide) (ex_call rfl (by simp [eval_slot (hF 3 (by decide)), eval_slot (hF 7 (by decide))]) e1) (KO.out wx) ?_ hG.below hG.new
          rintro e w1 ⟨rfl, hb1⟩
          exact ⟨_, rfl, hb1, .inl rfl⟩
        · exact rol_val rfl rfl rfl (by rw [hz]; decide) (ex_move (Or.inr rfl) (eval_slot (hF 8 (by decide)))) hG.below
      · intro a wx who hG hF
        have fv6 : a.tmps.getD 6 undef = .int .i64 C := eval_slot (s := 6) (hF 9 (of_decide_eq_true (by kernel_rfl)) (of_decide_eq_true (by kernel_rfl)))
        have hbx := hG.below
        have hnx := hG.new
        rw [hG.frame]
        simp only [List.foldl_cons, List.foldl_nil, List.setIfInBounds_toArray, List.set_cons_zero, List.set_cons_succ]
        generalize a.tmps.getD 16 undef = u16
        generalize a.tmps.getD 17 undef = u17
        generalize a.tmps.getD 18 undef = u18
        generalize a.tmps.getD 19 undef = u19
        generalize a.tmps.getD 20 undef = u20
        generalize a.tmps.getD 21 undef = u21
        generalize a.tmps.getD 22 undef = u22
        generalize a.tmps.getD 23 undef = u23
        generalize a.tmps.getD 24 undef = u24
        rw [fv6]
        clear hF hG fv6
        replace c0 := cell_keep c0 hbx; replace c1 := cell_keep c1 hbx; replace c2 := cell_keep c2 hbx; replace d0 := cell_keep d0 hbx; replace d1 := cell_keep d1 hbx; replace d2 := cell_keep d2 hbx
        replace HOWN := Lib.hid (ownsRow_belowB HOWN.out hbx); replace HB := Lib.hid (below_step HB.out hbx)
        clear hbx hnx
        have hp1 := HP1.out
        have hp2 := HP2.out
        obtain ⟨wv, hwv⟩ : ∃ v, v = wx := ⟨_, rfl⟩
        subst hwv
        have HBS := Lib.hid HB.out.size
        by_cases hlt : C < 0
        · have dl : decide (C < 0) = true := decide_eq_true hlt
          obtain ⟨L2, hl2⟩ : ∃ L, L = acc ++ [((x1, x2), zx)] := ⟨_, rfl⟩
          have HR2 : Hid (L2 ++ mergeD t1 (((y1, y2), zy) :: t2) = R) := Lib.hid (by
            rw [← HR.out, merge_l (show ltN (x1, x2) (y1, y2) = true by rw [ltN_iff, HC.out]; exact hlt), hl2, List.append_assoc]; rfl)
          have HL2E := Lib.hid hl2
          have HL2 : L2.length + (n1 - 1) + n2 ≤ na + nb := by have := HLEN.out; rw [hl2, List.length_append, List.length_singleton]; omega
          clear hlt hl2
          go_upto_region 9 with fail
          refine rol_run (by kernel_rfl) [[], [], [1], [1, 2], [1, 2, 3], [0, 1, 2, 3, 4], [], [6], [0, 1, 2, 3, 4, 5], [0, 1, 2, 3, 4, 5, 6, 7, 8]] (by kernel_rfl) [52, 53, 54, 55, 56, 57, 58, 59, 5, 0] [[11], [12], [1], [2], [3], [0, 4, 10], [12], [6], [5], [7]] [0, 0, 0, 0, 5, 1, 0, 0, 1, 0, 1, 0, 0] [0, 0, 0, 0, 0, 1, 0, 0, 0, 0] [1000, 1000, 1000, 1000, 1000, 1000, 1000, 1000, 1000, 1000, 5, 8, 9] [.val 52 (u5), .val 53 (.slice (some ⟨b1, o1, none⟩) n1 k1), .val 54 (.pointer (some ⟨b1, o1, none⟩)), .val 55 (.agg #[.string (mkB x1), .string (mkB x2), .int .i64 zx]), .mem 56 (blkG 42 #[.string (mkB x1), .string (mkB x2), .int .i64 zx] 1), .mem 57 (rowG w.heap.size 42 3 L2.length (dfC L2)), .val 58 (.slice (some ⟨b1, o1, none⟩) n1 k1), .val 59 (.slice A1' (n1 - 1) (k1 - 1)), .mem 5 (rowG w.heap.size 42 3 L2.length (dfC L2)), .val 0 (.slice A1' (n1 - 1) (k1 - 1)), .mem 5 (rowX u5 (w.heap.size) 42 3 acc.length (dfC acc)), .val 5 (u5), .val 0 (.slice (some ⟨b1, o1, none⟩) n1 k1)] (by kernel_rfl) ?_ (w.heap.size) (wv.heap.size) rfl HB.out rfl (fun k => if Value.ownBlock u5 = some k then 1 else 0) ?_ ?_ ?_
          · intro j hj
            have hj3 : j < 13 := hj
            have hj2 : j = 0 ∨ j = 1 ∨ j = 2 ∨ j = 3 ∨ j = 4 ∨ j = 5 ∨ j = 6 ∨ j = 7 ∨ j = 8 ∨ j = 9 ∨ j = 10 ∨ j = 11 ∨ j = 12 := by omega
            clear hj hj3
            rcases hj2 with rfl | rfl | rfl | rfl | rfl | rfl | rfl | rfl | rfl | rfl | rfl | rfl | rfl
            · exact trivial
            · exact trivial
            · exact trivial
            · exact trivial
            · exact blkG_near
            · exact rowG_near
            · exact trivial
            · exact trivial
            · exact rowG_near
            · exact trivial
            · exact rowX_near
            · exact trivial
            · exact trivial
          · intro j hj0 hj
            have hj1 : 10 ≤ j := hj0
            have hj3 : j < 13 := hj
            have hj2 : j = 10 ∨ j = 11 ∨ j = 12 := by omega
            clear hj0 hj hj1 hj3
            rcases hj2 with rfl | rfl | rfl
            · exact ⟨_, _, rfl, fun b e => ⟨(own_lt HOWN.out e).2, if_pos e⟩, HOWN.out, rfl⟩
            · exact rfl
            · exact rfl
          · intro i hi a wx who hG hF
            have hz : a.tmps.size = 76 := hG.size
            have hi3 : i < 10 := hi
            have hi2 : i = 0 ∨ i = 1 ∨ i = 2 ∨ i = 3 ∨ i = 4 ∨ i = 5 ∨ i = 6 ∨ i = 7 ∨ i = 8 ∨ i = 9 := by omega
            clear hi hi3
            rcases hi2 with rfl | rfl | rfl | rfl | rfl | rfl | rfl | rfl | rfl | rfl
            · exact rol_val rfl rfl rfl (by rw [hz]; decide) (ex_move (Or.inl rfl) (eval_slot (hF 11 (by decide)))) hG.below
            · exact rol_val rfl rfl rfl (by rw [hz]; decide) (ex_move (Or.inl rfl) (eval_slot (hF 12 (by decide)))) hG.below
            · exact rol_val rfl rfl rfl (by rw [hz]; decide) (ex_index rfl (eval_slot (hF 1 (by decide))) rfl (idx0_df HP1.out)) hG.below
            · exact rol_val rfl rfl rfl (by rw [hz]; decide) (ex_load rfl (eval_slot (hF 2 (by decide))) (ld_df (cell_keep cw0 hG.below) (cell_keep cw1 hG.below) (cell_keep cw2 hG.below))) hG.below
            · exact rol_newO rfl rfl rfl (by rw [hz]; decide) (x := .cells #[.string (mkB x1), .string (mkB x2), .int .i64 zx] 42) (v := .slice (some ⟨wx.heap.size, 0, none⟩) 1 1) (ex_slice rfl (vs := #[(0, .agg #[.string (mkB x1), .string (mkB x2), .int .i64 zx])]) (by simp only [List.map_toArray, List.map_cons, List.map_nil, eval_slot (hF 3 (by decide))]) (by go_simp)) ⟨_, rfl, rfl, heap_alloc_new _ _⟩ hG.below (Nat.le_trans HBS.out hG.new)
            · obtain ⟨v, ob, hv, hob, b, rfl, rfl, hh⟩ := hF 4 (by decide)
              exact rol_app_df rfl rfl rfl (by rw [hz]; decide) rfl (hF 10 (by decide)) (eval_slot (hF 0 (by decide))) (eval_slot hv) (blkG.dfs hh) (by have := HLEN.out; omega) hG.below (Nat.le_refl _) (Nat.le_trans HBS.out hG.new) (by rw [HL2E.out, List.length_append]; rfl) HL2E.out
            · exact rol_val rfl rfl rfl (by rw [hz]; decide) (ex_move (Or.inl rfl) (eval_slot (hF 12 (by decide)))) hG.below
            · exact rol_val rfl rfl rfl (by rw [hz]; decide) (ex_back (t := 24) (x := .tmp 58) (y := .const (.int .i64 1)) (vx := .slice (some ⟨b1, o1, none⟩) n1 k1) (vy := .int .i64 1) rfl (eval_slot (hF 6 (by decide))) rfl (HTL1.out wx)) hG.below
            · exact rol_move rfl rfl rfl (by rw [hz]; decide) (Or.inr rfl) (hF 5 (by decide)) hG.below
            · exact rol_val rfl rfl rfl (by rw [hz]; decide) (ex_move (Or.inr rfl) (eval_slot (hF 7 (by decide)))) hG.below
          · intro a wx who hG hF
            obtain ⟨v5, ob5, fv5, fo5, fp5⟩ := hF 8 (of_decide_eq_true (by kernel_rfl)) (of_decide_eq_true (by kernel_rfl))
            replace fv5 : a.tmps.getD 5 undef = v5 := eval_slot (s := 5) fv5
            have fv0 : a.tmps.getD 0 undef = .slice A1' (n1 - 1) (k1 - 1) := eval_slot (s := 0) (hF 9 (of_decide_eq_true (by kernel_rfl)) (of_decide_eq_true (by kernel_rfl)))
            have hbx := hG.below
            have hnx := hG.new
            rw [hG.frame]
            simp only [List.foldl_cons, List.foldl_nil, List.setIfInBounds_toArray, List.set_cons_zero, List.set_cons_succ]
            generalize a.tmps.getD 52 undef = u52
            generalize a.tmps.getD 53 undef = u53
            generalize a.tmps.getD 54 undef = u54
            generalize a.tmps.getD 55 undef = u55
            generalize a.tmps.getD 56 undef = u56
            generalize a.tmps.getD 57 undef = u57
            generalize a.tmps.getD 58 undef = u58
            generalize a.tmps.getD 59 undef = u59
            rw [fv5]
            rw [fv0]
            clear hF hG fv5 fv0
            obtain ⟨hrow, -⟩ := fp5
            have HRW := Lib.hid hrow; have HBN := Lib.hid hbx
            clear fo5 hrow hbx hnx hp1 hp2
            go_wp2
            go_roundw
            case rel => exact ⟨A1', _, n1 - 1, k1 - 1, n2, k2, t1, _, L2, rfl, rfl, D1', D2, G1', G2, HR2, HL2, HRW.out, HBN⟩
            case measure => have := HP1.out; simp [lenOf]; omega
        · have dl : decide (C < 0) = false := decide_eq_false hlt
          by_cases hgt : 0 < C
          · have dg : decide (0 < C) = true := decide_eq_true hgt
            obtain ⟨L2, hl2⟩ : ∃ L, L = acc ++ [((y1, y2), zy)] := ⟨_, rfl⟩
            have HR2 : Hid (L2 ++ mergeD (((x1, x2), zx) :: t1) t2 = R) := Lib.hid (by
              rw [← HR.out, merge_r (show ltN (y1, y2) (x1, x2) = true by rw [ltN_iff, ordN_swap, HC.out]; omega), hl2, List.append_assoc]; rfl)
            have HL2E := Lib.hid hl2
            have HL2 : L2.length + n1 + (n2 - 1) ≤ na + nb := by have := HLEN.out; rw [hl2, List.length_append, List.length_singleton]; omega
            clear hlt hgt hl2
            go_upto_region 11 with fail
            refine rol_run (by kernel_rfl) [[], [], [1], [1, 2], [1, 2, 3], [0, 1, 2, 3, 4], [], [6], [0, 1, 2, 3, 4, 5], [0, 1, 2, 3, 4, 5, 6, 7, 8]] (by kernel_rfl) [63, 64, 65, 66, 67, 68, 69, 70, 5, 1] [[11], [12], [1], [2], [3], [0, 4, 10], [12], [6], [5], [7]] [0, 0, 0, 0, 5, 1, 0, 0, 1, 0, 1, 0, 0] [0, 0, 0, 0, 0, 1, 0, 0, 0, 0] [1000, 1000, 1000, 1000, 1000, 1000, 1000, 1000, 1000, 1000, 5, 8, 9] [.val 63 (u5), .val 64 (.slice (some ⟨b2, o2, none⟩) n2 k2), .val 65 (.pointer (some ⟨b2, o2, none⟩)), .val 66 (.agg #[.string (mkB y1), .string (mkB y2), .int .i64 zy]), .mem 67 (blkG 42 #[.string (mkB y1), .string (mkB y2), .int .i64 zy] 1), .mem 68 (rowG w.heap.size 42 3 L2.length (dfC L2)), .val 69 (.slice (some ⟨b2, o2, none⟩) n2 k2), .val 70 (.slice A2' (n2 - 1) (k2 - 1)), .mem 5 (rowG w.heap.size 42 3 L2.length (dfC L2)), .val 1 (.slice A2' (n2 - 1) (k2 - 1)), .mem 5 (rowX u5 (w.heap.size) 42 3 acc.length (dfC acc)), .val 5 (u5), .val 1 (.slice (some ⟨b2, o2, none⟩) n2 k2)] (by kernel_rfl) ?_ (w.heap.size) (wv.heap.size) rfl HB.out rfl (fun k => if Value.ownBlock u5 = some k then 1 else 0) ?_ ?_ ?_
            · intro j hj
              have hj3 : j < 13 := hj
              have hj2 : j = 0 ∨ j = 1 ∨ j = 2 ∨ j = 3 ∨ j = 4 ∨ j = 5 ∨ j = 6 ∨ j = 7 ∨ j = 8 ∨ j = 9 ∨ j = 10 ∨ j = 11 ∨ j = 12 := by omega
              clear hj hj3
              rcases hj2 with rfl | rfl | rfl | rfl | rfl | rfl | rfl | rfl | rfl | rfl | rfl | rfl | rfl
              · exact trivial
              · exact trivial
              · exact trivial
              · exact trivial
              · exact blkG_near
              · exact rowG_near
              · exact trivial
              · exact trivial
              · exact rowG_near
              · exact trivial
              · exact rowX_near
              · exact trivial
              · exact trivial
            · intro j hj0 hj
              have hj1 : 10 ≤ j := hj0
              have hj3 : j < 13 := hj
              have hj2 : j = 10 ∨ j = 11 ∨ j = 12 := by omega
              clear hj0 hj hj1 hj3
              rcases hj2 with rfl | rfl | rfl
              · exact ⟨_, _, rfl, fun b e => ⟨(own_lt HOWN.out e).2, if_pos e⟩, HOWN.out, rfl⟩
              · exact rfl
              · exact rfl
            · intro i hi a wx who hG hF
              have hz : a.tmps.size = 76 := hG.size
              have hi3 : i < 10 := hi
              have hi2 : i = 0 ∨ i = 1 ∨ i = 2 ∨ i = 3 ∨ i = 4 ∨ i = 5 ∨ i = 6 ∨ i = 7 ∨ i = 8 ∨ i = 9 := by omega
              clear hi hi3
              rcases hi2 with rfl | rfl | rfl | rfl | rfl | rfl | rfl | rfl | rfl | rfl
              · exact rol_val rfl rfl rfl (by rw [hz]; decide) (ex_move (Or.inl rfl) (eval_slot (hF 11 (by decide)))) hG.below
              · exact rol_val rfl rfl rfl (by rw [hz]; decide) (ex_move (Or.inl rfl) (eval_slot (hF 12 (by decide)))) hG.below
              · exact rol_val rfl rfl rfl (by rw [hz]; decide) (ex_index rfl (eval_slot (hF 1 (by decide))) rfl (idx0_df HP2.out)) hG.below
              · exact rol_val rfl rfl rfl (by rw [hz]; decide) (ex_load rfl (eval_slot (hF 2 (by decide))) (ld_df (cell_keep dw0 hG.below) (cell_keep dw1 hG.below) (cell_keep dw2 hG.below))) hG.below
              · exact rol_newO rfl rfl rfl (by rw [hz]; decide) (x := .cells #[.string (mkB y1), .string (mkB y2), .int .i64 zy] 42) (v := .slice (some ⟨wx.heap.size, 0, none⟩) 1 1) (ex_slice rfl (vs := #[(0, .agg #[.string (mkB y1), .string (mkB y2), .int .i64 zy])]) (by simp only [List.map_toArray, List.map_cons, List.map_nil, eval_slot (hF 3 (by decide))]) (by go_simp)) ⟨_, rfl, rfl, heap_alloc_new _ _⟩ hG.below (Nat.le_trans HBS.out hG.new)
              · obtain ⟨v, ob, hv, hob, b, rfl, rfl, hh⟩ := hF 4 (by decide)
                exact rol_app_df rfl rfl rfl (by rw [hz]; decide) rfl (hF 10 (by decide)) (eval_slot (hF 0 (by decide))) (eval_slot hv) (blkG.dfs hh) (by have := HLEN.out; omega) hG.below (Nat.le_refl _) (Nat.le_trans HBS.out hG.new) (by rw [HL2E.out, List.length_append]; rfl) HL2E.out
              · exact rol_val rfl rfl rfl (by rw [hz]; decide) (ex_move (Or.inl rfl) (eval_slot (hF 12 (by decide)))) hG.below
              · exact rol_val rfl rfl rfl (by rw [hz]; decide) (ex_back (t := 24) (x := .tmp 69) (y := .const (.int .i64 1)) (vx := .slice (some ⟨b2, o2, none⟩) n2 k2) (vy := .int .i64 1) rfl (eval_slot (hF 6 (by decide))) rfl (HTL2.out wx)) hG.below
              · exact rol_move rfl rfl rfl (by rw [hz]; decide) (Or.inr rfl) (hF 5 (by decide)) hG.below
              · exact rol_val rfl rfl rfl (by rw [hz]; decide) (ex_move (Or.inr rfl) (eval_slot (hF 7 (by decide)))) hG.below
            · intro a wx who hG hF
              obtain ⟨v5, ob5, fv5, fo5, fp5⟩ := hF 8 (of_decide_eq_true (by kernel_rfl)) (of_decide_eq_true (by kernel_rfl))
              replace fv5 : a.tmps.getD 5 undef = v5 := eval_slot (s := 5) fv5
              have fv1 : a.tmps.getD 1 undef = .slice A2' (n2 - 1) (k2 - 1) := eval_slot (s := 1) (hF 9 (of_decide_eq_true (by kernel_rfl)) (of_decide_eq_true (by kernel_rfl)))
              have hbx := hG.below
              have hnx := hG.new
              rw [hG.frame]
              simp only [List.foldl_cons, List.foldl_nil, List.setIfInBounds_toArray, List.set_cons_zero, List.set_cons_succ]
              generalize a.tmps.getD 63 undef = u63
              generalize a.tmps.getD 64 undef = u64
              generalize a.tmps.getD 65 undef = u65
              generalize a.tmps.getD 66 undef = u66
              generalize a.tmps.getD 67 undef = u67
              generalize a.tmps.getD 68 undef = u68
              generalize a.tmps.getD 69 undef = u69
              generalize a.tmps.getD 70 undef = u70
              rw [fv5]
              rw [fv1]
              clear hF hG fv5 fv1
              obtain ⟨hrow, -⟩ := fp5
              have HRW := Lib.hid hrow; have HBN := Lib.hid hbx
              clear fo5 hrow hbx hnx hp1 hp2
              go_wp2
              go_roundw
              case rel => exact ⟨_, A2', n1, k1, n2 - 1, k2 - 1, _, t2, L2, rfl, rfl, D1, D2', G1, G2', HR2, HL2, HRW.out, HBN⟩
              case measure => have := HP2.out; simp [lenOf]; omega
          · have dg : decide (0 < C) = false := decide_eq_false hgt
            have hq : (x1, x2) = (y1, y2) := ordN_eq GX.out.1 GY.out.1 (by rw [HC.out]; omega)
            have hi1 := inD_iff.1 GX.out.2.2
            have hi2 := inD_iff.1 GY.out.2.2
            simp only at hi1 hi2
            obtain ⟨s, hs⟩ : ∃ s, zx + zy = s := ⟨_, rfl⟩
            have hwr : IntKind.i64.wrap (zx + zy) = s := (IntWalk.i64_in _ (by omega)).trans hs
            have hq1 : (1 : Int) ≤ (n1 : Int) := by omega
            have hq2 : (1 : Int) ≤ (n2 : Int) := by omega
            have hr1 : (n1 : Int) ≤ (k1 : Int) := by have := D1.out.lenE.2.1; omega
            have hr2 : (n2 : Int) ≤ (k2 : Int) := by have := D2.out.lenE.2.1; omega
            have HQ := Lib.hid hq; have HS := Lib.hid hs
            have HL2 : acc.length + (n1 - 1) + (n2 - 1) ≤ na + nb := by have := HLEN.out; omega
            clear hlt hgt hq hi1 hi2 hs
            by_cases h0 : s = 0
            · have hs0 : (s != 0) = false := by simp [h0]
              have HR2 : Hid (acc ++ mergeD t1 t2 = R) := Lib.hid (by rw [← HR.out, merge_0 (show ((x1, x2), zx).1 = ((y1, y2), zy).1 from HQ.out) (by show zx + zy = 0; rw [HS.out]; exact h0)])
              clear h0
              go_upto_region 4 with fail
              go_region
              go_upto_region 7 with fail
              go_region
              rw [HA1.out, HA2.out]
              clear hp1 hp2 hq1 hq2 hr1 hr2
              go_wp2
              go_roundw
              case rel => exact ⟨A1', A2', n1 - 1, k1 - 1, n2 - 1, k2 - 1, t1, t2, acc, rfl, rfl, D1', D2', G1', G2', HR2, HL2, HOWN.out, Lib.hid HB.out.drew.drew⟩
              case measure => have := HP2.out; have := HP1.out; simp [lenOf]; omega
            · have hs0 : (s != 0) = true := by simp [h0]
              have HR2 : Hid ((acc ++ [((x1, x2), s)]) ++ mergeD t1 t2 = R) := Lib.hid (by
                rw [← HR.out, merge_1 (show ((x1, x2), zx).1 = ((y1, y2), zy).1 from HQ.out) (by show zx + zy ≠ 0; rw [HS.out]; exact h0), List.append_assoc]
                simp only [HS.out]; rfl)
              clear h0
              go_upto_region 4 with fail
              go_region
              obtain ⟨wz, hwz⟩ : ∃ v, wv.drew = v := ⟨_, rfl⟩
              have c0z : wz.cell? ⟨b1, o1, none⟩ = some (.string (mkB x1)) := by rw [← hwz]; exact c0
              have c1z : wz.cell? ⟨b1, o1 + 1, none⟩ = some (.string (mkB x2)) := by rw [← hwz]; exact c1
              have HOZ : Hid (wz.ownsRow w.heap.size 42 3 u5 acc.length (dfC acc)) := Lib.hid (by rw [← hwz]; exact HOWN.out)
              have HBZ : Hid (Below w.heap.size w wz) := Lib.hid (by rw [← hwz]; exact HB.out.drew)
              rw [hwz]
              clear hwz c0 c1 c2 d0 d1 d2
              have hal : acc.length ≤ 200000 := by omega
              obtain ⟨na2, hna2⟩ : ∃ n, acc.length = n := ⟨_, rfl⟩
              have HNA := Lib.hid hna2
              rw [hna2] at HOZ hal
              clear hna2
              go_upto_region 7 with (at_builtin; refine wpList_append_new rfl _ _ 24 rfl w.heap.size 42 zDV 3 40 Tryz.underlying24 Tryz.info_df rfl (by decide) _ na2 _ rfl HOZ.out [.string (mkB x1), .string (mkB x2), .int .i64 s] rfl rfl rfl (by omega) (by unfold maxLen; omega) HBZ.out.size ?_; intro v' w' hown' hb'; have HO2 := Lib.hid hown'; have HB2 := Lib.hid (HBZ.out.trans hb'.toBelow); clear hown' hb')
              go_region
              rw [HA1.out, HA2.out]
              have HRW : Hid (w'.ownsRow w.heap.size 42 3 v' (acc ++ [((x1, x2), s)]).length (dfC (acc ++ [((x1, x2), s)]))) := Lib.hid (by
                rw [dfC_snoc, List.length_append, HNA.out]; exact HO2.out)
              have HL3 : (acc ++ [((x1, x2), s)]).length + (n1 - 1) + (n2 - 1) ≤ na + nb := by have := HLEN.out; rw [List.length_append, List.length_singleton]; omega
              clear hp1 hp2 hq1 hq2 hr1 hr2
              go_wp2
              go_roundw
              case rel => exact ⟨A1', A2', n1 - 1, k1 - 1, n2 - 1, k2 - 1, t1, t2, _, rfl, rfl, D1', D2', G1', G2', HR2, HL3, HRW.out, Lib.hid HB2.out.drew⟩
              case measure => have := HP2.out; have := HP1.out; simp [lenOf]; omega

theorem good_of {l : List De} (h : okD l = true) (hs : ∀ e ∈ l, smallD e) : ∀ e ∈ l, goodD e := fun e he => ⟨okD_ok h e he, (hs e he).1, okD_in h e he⟩
set_option maxHeartbeats 1600000 in
theorem both_any (U V : Value) (a b : List De) (w : World) (hU : Dfs w U a) (hV : Dfs w V b) (sa : ∀ e ∈ a, smallD e) (sb : ∀ e ∈ b, smallD e) (la : a.length ≤ 100000) (lb : b.length ≤ 100000) :
    Calls Tryz.prog 15 #[U, V] w fun e w' => ∃ v, e = .returned (.tuple #[v, .int .i64 (bothE a b).2]) ∧ w'.ownsRow w.heap.size 42 3 v (bothE a b).1.length (dfC (bothE a b).1) ∧ Below w.heap.size w w' := by
  have KA := Lib.hid fun w h => dcheck_any U a w h sa (by omega)
  have KB := Lib.hid fun w h => dcheck_any V b w h sb (by omega)
  have KT := Lib.hid fun w h h' ga gb => together_any U V a b w h h' ga gb la lb
  obtain ⟨Aa, ca, rfl, -, -, -, -⟩ := hU.ex
  obtain ⟨Ab, cb, rfl, -, -, -, -⟩ := hV.ex
  obtain ⟨na, hna⟩ : ∃ n, a.length = n := ⟨_, rfl⟩
  obtain ⟨nb, hnb⟩ : ∃ n, b.length = n := ⟨_, rfl⟩
  obtain ⟨R, hR⟩ : ∃ R, bothE a b = R := ⟨_, rfl⟩
  rw [hR]
  obtain ⟨R1, R2⟩ := R
  simp only
  rw [hna] at hU KA KT ⊢
  rw [hnb] at hV KB KT ⊢
  have SU := Lib.hid hU; have SV := Lib.hid hV
  clear hU hV hna hnb la lb
  obtain ⟨oa, hoa⟩ : ∃ o, okD a = o := ⟨_, rfl⟩
  obtain ⟨ob, hob⟩ : ∃ o, okD b = o := ⟨_, rfl⟩
  cases oa
  · rw [bothE_no (by rw [hoa]; rfl)] at hR
    obtain ⟨rfl, rfl⟩ := Prod.mk.inj hR
    rw [chkD_no hoa] at KA
    clear hR hoa hob sa sb KB KT
    go_enter Tryz.func15, Tryz.ntmps15
    go_wp2_with (go_at_call 17; refine (KA.out _ SU.out).mono ?_; rintro e w1 ⟨rfl, hb1⟩; have B := Lib.hid hb1; clear hb1)
    go_ret2
    exact ⟨_, rfl, dfs_row0 _ _, B.out⟩
  · cases ob
    · rw [bothE_no (by rw [hob, Bool.and_false])] at hR
      obtain ⟨rfl, rfl⟩ := Prod.mk.inj hR
      rw [chkD_yes hoa] at KA
      rw [chkD_no hob] at KB
      clear hR hoa hob sa sb KT
      have B := Lib.hid (Below.refl w.heap.size w)
      go_enter Tryz.func15, Tryz.ntmps15
      go_wp2_with (first
        | (go_at_call 17; refine (KA.out _ SU.out).mono ?_; rintro e w1 ⟨rfl, hb1⟩; replace B := Lib.hid (below_step B.out hb1); clear hb1 KA)
        | (go_at_call 17; refine (KB.out _ (SV.out.below B.out)).mono ?_; rintro e w1 ⟨rfl, hb1⟩; replace B := Lib.hid (below_step B.out hb1); clear hb1))
      go_ret2
      exact ⟨_, rfl, dfs_row0 _ _, B.out⟩
    · have hand : (okD a && okD b) = true := by rw [hoa, hob]; rfl
      have hmk := merge_okD hoa hob
      have hne := bothE_far hand
      have hye := bothE_yes hand
      have ga := Lib.hid (good_of hoa sa); have gb := Lib.hid (good_of hob sb)
      rw [chkD_yes hoa] at KA
      rw [chkD_yes hob] at KB
      obtain ⟨M, hM⟩ : ∃ M, mergeD a b = M := ⟨_, rfl⟩
      rw [hM] at hmk hne hye KT
      have KC := Lib.hid fun V w h => dcontf_any V M w h
      have ho : allIn M = okD M := hmk.symm
      obtain ⟨o, hoM⟩ : ∃ o, okD M = o := ⟨_, rfl⟩
      rw [hoM] at ho
      rw [ho] at KC
      obtain ⟨nm, hnm⟩ : ∃ n, M.length = n := ⟨_, rfl⟩
      have HNM := Lib.hid hnm
      clear hoa hob sa sb hand hmk hM ho
      have B := Lib.hid (Below.refl w.heap.size w)
      cases o
      · rw [hne hoM] at hR
        obtain ⟨rfl, rfl⟩ := Prod.mk.inj hR
        clear hR hne hye hoM hnm
        go_enter Tryz.func15, Tryz.ntmps15
        go_wp2_with (first
          | (go_at_call 17; refine (KA.out _ SU.out).mono ?_; rintro e w1 ⟨rfl, hb1⟩; replace B := Lib.hid (below_step B.out hb1); clear hb1 KA)
          | (go_at_call 17; refine (KB.out _ (SV.out.below B.out)).mono ?_; rintro e w1 ⟨rfl, hb1⟩; replace B := Lib.hid (below_step B.out hb1); clear hb1)
          | (go_at_call 26; refine (KT.out _ (SU.out.below B.out) (SV.out.below B.out) ga.out gb.out).mono ?_; rintro e w1 ⟨v, rfl, hrow, hb1⟩; obtain ⟨a3, c3, rfl, hd3⟩ := dfsO hrow; have D3 := Lib.hid hd3; replace B := Lib.hid (below_step B.out hb1); clear hb1 hrow hd3; rw [HNM.out] at D3 ⊢)
          | (go_at_call 27; refine (KC.out _ _ D3.out).mono ?_; rintro e w1 ⟨rfl, hb1⟩; replace B := Lib.hid (below_step B.out hb1); clear hb1))
        go_ret2
        exact ⟨_, rfl, dfs_row0 _ _, B.out⟩
      · rw [hye hoM] at hR
        obtain ⟨rfl, rfl⟩ := Prod.mk.inj hR
        clear hR hne hye hoM hnm
        go_enter Tryz.func15, Tryz.ntmps15
        go_wp2_with (first
          | (go_at_call 17; refine (KA.out _ SU.out).mono ?_; rintro e w1 ⟨rfl, hb1⟩; replace B := Lib.hid (below_step B.out hb1); clear hb1 KA)
          | (go_at_call 17; refine (KB.out _ (SV.out.below B.out)).mono ?_; rintro e w1 ⟨rfl, hb1⟩; replace B := Lib.hid (below_step B.out hb1); clear hb1)
          | (go_at_call 26; refine (KT.out _ (SU.out.below B.out) (SV.out.below B.out) ga.out gb.out).mono ?_; rintro e w1 ⟨v, rfl, hrow, hb1⟩; have HROW := Lib.hid (row_base hrow B.out.size); obtain ⟨a3, c3, rfl, hd3⟩ := dfsO hrow; have D3 := Lib.hid hd3; replace B := Lib.hid (below_step B.out hb1); clear hb1 hrow hd3; rw [HNM.out] at D3 HROW ⊢)
          | (go_at_call 27; refine (KC.out _ _ D3.out).mono ?_; rintro e w1 ⟨rfl, hb1⟩; replace HROW := Lib.hid (ownsRow_belowB HROW.out hb1); replace B := Lib.hid (below_step B.out hb1); clear hb1))
        go_ret2
        exact ⟨_, rfl, by rw [HNM.out]; exact HROW.out, B.out⟩
end Go.Proofs.YtopcbmmnjmmoiaaGreat
