/- THE TEXTS OF DifN DifP DifQ NodS DifR DifT: Two edits as one: of the program. Two lists of edits' sameness; some edits of a list; the chapter's examples. The chapter's examples. The document's own: a set with a node; the set of a list. The document's own: how often, by how many, Diff, Both. The document's own Diff, and Both. -/
import Derived.Test.YtglhjdbnpdoinaaGreatDifO
import Derived.Test.YtglhjdbnpdoinaaGreatNodN
import Derived.Deep.Draws
import Derived.Deep.QuietTactic
import Derived.BigQuiet
import Derived.Deep.RegionWith
import Derived.Deep.CutRange
import Derived.Deep.DeepCutAuto
import Derived.Deep.RegionHeld3
import Derived.Deep.DrawnRows
namespace Go.Proofs.YtglhjdbnpdoinaaGreat
open Go.RowKit
set_option linter.unusedVariables false
set_option maxRecDepth 100000

def lenOf : Value → Nat
  | .slice _ n _ => n
  | _ => 0
/-- What is asked of edits that are taken together. -/
def goodD (e : De) : Prop := okN e.1 = true ∧ smallN e.1 ∧ inD e.2 = true
set_option maxHeartbeats 3200000 in
theorem together_any (U V : Value) (a b : List De) (w : World) (hU : Dfs w U a) (hV : Dfs w V b) (ga : ∀ e ∈ a, goodD e) (gb : ∀ e ∈ b, goodD e) (la : a.length ≤ 100000) (lb : b.length ≤ 100000) :
    Calls Tryz.prog 61 #[U, V] w fun e w' => ∃ v, e = .returned v ∧ w'.ownsRow w.heap.size 56 3 v (mergeD a b).length (dfC (mergeD a b)) ∧ Below w.heap.size w w' := by
  obtain ⟨Aa, ca, rfl, -, -, -, -⟩ := hU.ex
  obtain ⟨Ab, cb, rfl, -, -, -, -⟩ := hV.ex
  have hrl := merge_len a b
  obtain ⟨na, hna⟩ : ∃ n, a.length = n := ⟨_, rfl⟩
  obtain ⟨nb, hnb⟩ : ∃ n, b.length = n := ⟨_, rfl⟩
  obtain ⟨R, hR⟩ : ∃ R, mergeD a b = R := ⟨_, rfl⟩
  rw [hR]
  rw [hR, hna, hnb] at hrl
  rw [hna] at la hU ⊢
  rw [hnb] at lb hV ⊢
  obtain ⟨r, hrr⟩ : ∃ r, R.length = r := ⟨_, rfl⟩
  rw [hrr] at hrl
  have SU := Lib.hid hU; have SV := Lib.hid hV; have GA := Lib.hid ga; have GB := Lib.hid gb; have HR0 := Lib.hid hR; have HRL := Lib.hid hrr; have HRN := Lib.hid (show r ≤ 200000 by omega)
  have e1 : ∀ args w, (callFunc 74 args).run Tryz.prog w = .ok (.enter 74 args) w := enters_of Tryz.func74 (by kernel_rfl) rfl
  clear hU hV ga gb hR hrr hna hnb hrl
  go_enter Tryz.func61, Tryz.ntmps61
  go_wp2
  go_loopw [0, 1, 5] (fun va vb v wr => ∃ (A1 A2 : Option Addr) (n1 k1 n2 k2 : Nat) (l1 l2 acc : List De), va = .slice A1 n1 k1 ∧ vb = .slice A2 n2 k2 ∧ Hid (Dfs w (.slice A1 n1 k1) l1) ∧ Hid (Dfs w (.slice A2 n2 k2) l2) ∧ Hid (∀ e ∈ l1, goodD e) ∧ Hid (∀ e ∈ l2, goodD e) ∧ Hid (acc ++ mergeD l1 l2 = R) ∧ acc.length + n1 + n2 ≤ na + nb ∧ wr.ownsRow w.heap.size 56 3 v acc.length (dfC acc) ∧ Hid (Below w.heap.size w wr)) (fun va vb _ _ => lenOf va + lenOf vb)
  case atStart => exact ⟨Aa, Ab, na, ca, nb, cb, a, b, [], rfl, rfl, SU, SV, GA, GB, HR0, by simp, dfs_row0 _ _, Lib.hid (Below.refl _ _)⟩
  case round =>
    obtain ⟨A1, A2, n1, k1, n2, k2, l1, l2, acc, rfl, rfl, D1, D2, G1, G2, HR, hlen, hown, HB⟩ := hrel
    by_cases h1 : n1 = 0
    · have hl1 : l1 = [] := List.eq_nil_of_length_eq_zero (by have := D1.out.lenE.1; omega)
      have hd1 : decide (0 < n1) = false := by rw [h1]; rfl
      have hcat : [acc, l1, l2].flatten = R := by
        rw [← HR.out]
        simp only [List.flatten_cons, List.flatten_nil, List.append_nil]
        rw [hl1, List.nil_append, merge_nilL]
      obtain ⟨a5, k5, rfl, hacc⟩ := dfsO hown
      have hln : acc.length ≤ na + nb := by omega
      obtain ⟨p, hp⟩ : ∃ p, acc.length = p := ⟨_, rfl⟩
      rw [hp] at hacc hln hown ⊢
      obtain ⟨X, g, hX, hg, hxb, hDL⟩ : ∃ X g, wr.alloc (.cells #[.slice a5 p k5, .slice A1 n1 k1, .slice A2 n2 k2] 22) = X ∧ wr.heap.size = g ∧ Below wr.heap.size wr X ∧ DfsL X (.slice (some ⟨g, 0, none⟩) 3 3) [acc, l1, l2] := by
        have hb0 : Below wr.heap.size wr (wr.alloc (.cells #[.slice a5 p k5, .slice A1 n1 k1, .slice A2 n2 k2] 22)) := (Below.refl _ _).alloc (Nat.le_refl _) _
        refine ⟨_, _, rfl, rfl, hb0, ⟨wr.heap.size, 0, 3, rfl, Nat.le_refl _, by unfold maxLen; omega, fun j hj => ?_⟩⟩
        have hj2 : j = 0 ∨ j = 1 ∨ j = 2 := by have : j < 3 := hj; omega
        rcases hj2 with rfl | rfl | rfl
        · exact ⟨_, _, _, cell_new (by simp) rfl, hacc.below hb0⟩
        · exact ⟨_, _, _, cell_new (by simp) rfl, D1.out.below (below_step HB.out hb0)⟩
        · exact ⟨_, _, _, cell_new (by simp) rfl, D2.out.below (below_step HB.out hb0)⟩
      have kc := df_concat _ [acc, l1, l2] X hDL (by simp) (by rw [hcat, HRL.out]; have := HRN.out; omega)
      rw [hcat] at kc
      have KC := Lib.hid kc; have BX := Lib.hid (below_step HB.out hxb)
      have hfin : ∀ Y, Y = wr.alloc (.cells #[.slice a5 p k5, .slice A1 n1 k1, .slice A2 n2 k2] 22) → Calls Tryz.prog 75 #[.slice (some ⟨wr.heap.size, 0, none⟩) 3 3] Y fun e w' => ∃ v, e = .returned v ∧ w'.ownsRow w.heap.size 56 3 v R.length (dfC R) ∧ Below w.heap.size w w' := by
        intro Y hY
        rw [hY, hX, hg]
        refine KC.out.mono ?_
        rintro e w3 ⟨v3, rfl, hr3, hb3⟩
        exact ⟨v3, rfl, row_base hr3 BX.out.size, below_step BX.out hb3⟩
      have HFIN := Lib.hid hfin
      clear hcat hacc hln hown hX hg hxb hDL kc hfin KC BX hp h1 hl1
      go_wp2_with (go_at_call 75; refine (HFIN.out _ rfl).mono ?_; rintro e w3 ⟨v3, rfl, hr3, hb3⟩; have HR3 := Lib.hid hr3; have HB3 := Lib.hid hb3; clear hr3 hb3)
      go_ret
      exact ⟨v3, rfl, HR3.out, HB3.out⟩
    by_cases h2 : n2 = 0
    · have hl2 : l2 = [] := List.eq_nil_of_length_eq_zero (by have := D2.out.lenE.1; omega)
      have hd2 : decide (0 < n2) = false := by rw [h2]; rfl
      have hd1 : decide (0 < n1) = true := decide_eq_true (by omega)
      have hcat : [acc, l1, l2].flatten = R := by
        rw [← HR.out]
        simp only [List.flatten_cons, List.flatten_nil, List.append_nil]
        rw [hl2, List.append_nil, merge_nil]
      obtain ⟨a5, k5, rfl, hacc⟩ := dfsO hown
      have hln : acc.length ≤ na + nb := by omega
      obtain ⟨p, hp⟩ : ∃ p, acc.length = p := ⟨_, rfl⟩
      rw [hp] at hacc hln hown ⊢
      obtain ⟨X, g, hX, hg, hxb, hDL⟩ : ∃ X g, wr.alloc (.cells #[.slice a5 p k5, .slice A1 n1 k1, .slice A2 n2 k2] 22) = X ∧ wr.heap.size = g ∧ Below wr.heap.size wr X ∧ DfsL X (.slice (some ⟨g, 0, none⟩) 3 3) [acc, l1, l2] := by
        have hb0 : Below wr.heap.size wr (wr.alloc (.cells #[.slice a5 p k5, .slice A1 n1 k1, .slice A2 n2 k2] 22)) := (Below.refl _ _).alloc (Nat.le_refl _) _
        refine ⟨_, _, rfl, rfl, hb0, ⟨wr.heap.size, 0, 3, rfl, Nat.le_refl _, by unfold maxLen; omega, fun j hj => ?_⟩⟩
        have hj2 : j = 0 ∨ j = 1 ∨ j = 2 := by have : j < 3 := hj; omega
        rcases hj2 with rfl | rfl | rfl
        · exact ⟨_, _, _, cell_new (by simp) rfl, hacc.below hb0⟩
        · exact ⟨_, _, _, cell_new (by simp) rfl, D1.out.below (below_step HB.out hb0)⟩
        · exact ⟨_, _, _, cell_new (by simp) rfl, D2.out.below (below_step HB.out hb0)⟩
      have kc := df_concat _ [acc, l1, l2] X hDL (by simp) (by rw [hcat, HRL.out]; have := HRN.out; omega)
      rw [hcat] at kc
      have KC := Lib.hid kc; have BX := Lib.hid (below_step HB.out hxb)
      have hfin : ∀ Y, Y = wr.alloc (.cells #[.slice a5 p k5, .slice A1 n1 k1, .slice A2 n2 k2] 22) → Calls Tryz.prog 75 #[.slice (some ⟨wr.heap.size, 0, none⟩) 3 3] Y fun e w' => ∃ v, e = .returned v ∧ w'.ownsRow w.heap.size 56 3 v R.length (dfC R) ∧ Below w.heap.size w w' := by
        intro Y hY
        rw [hY, hX, hg]
        refine KC.out.mono ?_
        rintro e w3 ⟨v3, rfl, hr3, hb3⟩
        exact ⟨v3, rfl, row_base hr3 BX.out.size, below_step BX.out hb3⟩
      have HFIN := Lib.hid hfin
      clear hcat hacc hln hown hX hg hxb hDL kc hfin KC BX hp h1 h2 hl2
      go_wp2_with (go_at_call 75; refine (HFIN.out _ rfl).mono ?_; rintro e w3 ⟨v3, rfl, hr3, hb3⟩; have HR3 := Lib.hid hr3; have HB3 := Lib.hid hb3; clear hr3 hb3)
      go_ret
      exact ⟨v3, rfl, HR3.out, HB3.out⟩
    · obtain ⟨⟨⟨x1, x2⟩, zx⟩, t1, rfl⟩ : ∃ x t, l1 = x :: t := by
        cases l1 with
        | nil => exact absurd D1.out.lenE.1.symm h1
        | cons x t => exact ⟨x, t, rfl⟩
      obtain ⟨⟨⟨y1, y2⟩, zy⟩, t2, rfl⟩ : ∃ x t, l2 = x :: t := by
        cases l2 with
        | nil => exact absurd D2.out.lenE.1.symm h2
        | cons x t => exact ⟨x, t, rfl⟩
      obtain ⟨b1, o1, rfl, hb1, cw0, cw1, cw2⟩ := D1.out.first
      obtain ⟨b2, o2, rfl, hb2, dw0, dw1, dw2⟩ := D2.out.first
      have c0 := cell_keep cw0 HB.out; have c1 := cell_keep cw1 HB.out; have c2 := cell_keep cw2 HB.out; have d0 := cell_keep dw0 HB.out; have d1 := cell_keep dw1 HB.out; have d2 := cell_keep dw2 HB.out
      have hD1 : Dfs w (.slice (if k1 = 1 then some ⟨b1, o1, none⟩ else some ⟨b1, o1 + 3, none⟩) (n1 - 1) (k1 - 1)) t1 := by
        have := D1.out.cut (i := 1) (by simp)
        simpa [sliced, addr_add] using this
      have hD2 : Dfs w (.slice (if k2 = 1 then some ⟨b2, o2, none⟩ else some ⟨b2, o2 + 3, none⟩) (n2 - 1) (k2 - 1)) t2 := by
        have := D2.out.cut (i := 1) (by simp)
        simpa [sliced, addr_add] using this
      obtain ⟨A1', hA1⟩ : ∃ A', (if k1 = 1 then some (⟨b1, o1, none⟩ : Addr) else some ⟨b1, o1 + 3, none⟩) = A' := ⟨_, rfl⟩
      obtain ⟨A2', hA2⟩ : ∃ A', (if k2 = 1 then some (⟨b2, o2, none⟩ : Addr) else some ⟨b2, o2 + 3, none⟩) = A' := ⟨_, rfl⟩
      rw [hA1] at hD1
      rw [hA2] at hD2
      have htl1 : ∀ w, (Instr.sliceAt 22 (.slice (some ⟨b1, o1, none⟩) n1 k1) (some (.int .i64 1)) none none).run Tryz.prog w = .ok (.slice A1' (n1 - 1) (k1 - 1)) w := fun w => by
        rw [tail_df w _ _ _ (by have := D1.out.lenE.1; simp at this; omega) D1.out.lenE.2.1, ← hA1]; simp [sliced, addr_add]
      have htl2 : ∀ w, (Instr.sliceAt 22 (.slice (some ⟨b2, o2, none⟩) n2 k2) (some (.int .i64 1)) none none).run Tryz.prog w = .ok (.slice A2' (n2 - 1) (k2 - 1)) w := fun w => by
        rw [tail_df w _ _ _ (by have := D2.out.lenE.1; simp at this; omega) D2.out.lenE.2.1, ← hA2]; simp [sliced, addr_add]
      have HA1 := Lib.hid hA1; have HA2 := Lib.hid hA2; have HTL1 := Lib.hid htl1; have HTL2 := Lib.hid htl2
      clear htl1 htl2
      have gx := G1.out _ List.mem_cons_self
      have gy := G2.out _ List.mem_cons_self
      have G1' : Hid (∀ e ∈ t1, goodD e) := Lib.hid fun e he => G1.out e (List.mem_cons_of_mem _ he)
      have G2' : Hid (∀ e ∈ t2, goodD e) := Lib.hid fun e he => G2.out e (List.mem_cons_of_mem _ he)
      have GX := Lib.hid gx; have GY := Lib.hid gy; have D1' := Lib.hid hD1; have D2' := Lib.hid hD2
      obtain ⟨C, hC⟩ : ∃ C, ordN (x1, x2) (y1, y2) = C := ⟨_, rfl⟩
      have ko := fun w => dorder_any x1 x2 y1 y2 w gx.2.1.1 gx.2.1.2 gy.2.1.1 gy.2.1.2 gx.1 gy.1
      rw [hC] at ko
      have KO := Lib.hid ko; have HC := Lib.hid hC; have HOWN := Lib.hid hown
      have hp1 : 0 < n1 := by omega
      have hp2 : 0 < n2 := by omega
      have hd1 : decide (0 < n1) = true := decide_eq_true hp1
      have hd2 : decide (0 < n2) = true := decide_eq_true hp2
      have HP1 := Lib.hid hp1; have HP2 := Lib.hid hp2; have HLEN := Lib.hid hlen
      clear h1 h2 gx gy hD1 hD2 hA1 hA2 ko hC hown hp1 hp2 hb1 hb2 hlen
      go_upto_region 3 with fail
      refine rol_run (by kernel_rfl) [[], [0], [0, 1], [0, 1, 2], [], [4], [4, 5], [4, 5, 6], [0, 1, 2, 3, 4, 5, 6, 7], [0, 1, 2, 3, 4, 5, 6, 7, 8]] (by kernel_rfl) [16, 17, 18, 19, 20, 21, 22, 23, 24, 6] [[], [0], [1], [2], [], [4], [5], [6], [3, 7], [8]] [0, 0, 0, 0, 0, 0, 0, 0, 0, 0] [0, 0, 0, 0, 0, 0, 0, 0, 0, 0] [1000, 1000, 1000, 1000, 1000, 1000, 1000, 1000, 1000, 1000] [.val 16 (.slice (some ⟨b1, o1, none⟩) n1 k1), .val 17 (.pointer (some ⟨b1, o1, none⟩)), .val 18 (.pointer (some ⟨b1, o1, none⟩)), .val 19 (.agg #[.string (mkB x1), .string (mkB x2)]), .val 20 (.slice (some ⟨b2, o2, none⟩) n2 k2), .val 21 (.pointer (some ⟨b2, o2, none⟩)), .val 22 (.pointer (some ⟨b2, o2, none⟩)), .val 23 (.agg #[.string (mkB y1), .string (mkB y2)]), .val 24 (.int .i64 C), .val 6 (.int .i64 C)] (by kernel_rfl) ?_ (wr.heap.size) (wr.heap.size) rfl (Below.refl _ _) rfl (fun _ => 0) ?_ ?_ ?_
      · intro j hj
        have hj3 : j < 10 := hj
        have hj2 : j = 0 ∨ j = 1 ∨ j = 2 ∨ j = 3 ∨ j = 4 ∨ j = 5 ∨ j = 6 ∨ j = 7 ∨ j = 8 ∨ j = 9 := by omega
        clear hj hj3
        rcases hj2 with rfl | rfl | rfl | rfl | rfl | rfl | rfl | rfl | rfl | rfl
        · exact trivial
        · exact trivial
        · exact trivial
        · exact trivial
        · exact trivial
        · exact trivial
        · exact trivial
        · exact trivial
        · exact trivial
        · exact trivial
      · intro j hj0 hj
        exact absurd hj (Nat.not_lt.2 hj0)
      · intro i hi a wx who hG hF
        have hz : a.tmps.size = 76 := hG.size
        have hi3 : i < 10 := hi
        have hi2 : i = 0 ∨ i = 1 ∨ i = 2 ∨ i = 3 ∨ i = 4 ∨ i = 5 ∨ i = 6 ∨ i = 7 ∨ i = 8 ∨ i = 9 := by omega
        clear hi hi3
        rcases hi2 with rfl | rfl | rfl | rfl | rfl | rfl | rfl | rfl | rfl | rfl
        · exact rol_val rfl rfl rfl (by rw [hz]; decide) (ex_move (Or.inl rfl) (eval_slot ((hG.slots 0 (by decide)).trans rfl))) hG.below
        · exact rol_val rfl rfl rfl (by rw [hz]; decide) (ex_index rfl (eval_slot (hF 0 (by decide))) rfl (idx0_df HP1.out)) hG.below
        · exact rol_val rfl rfl rfl (by rw [hz]; decide) (ex_field rfl (eval_slot (hF 1 (by decide))) fld_df) hG.below
        · exact rol_val rfl rfl rfl (by rw [hz]; decide) (ex_load rfl (eval_slot (hF 2 (by decide))) (ld_node (cell_keep c0 hG.below) (cell_keep c1 hG.below))) hG.below
        · exact rol_val rfl rfl rfl (by rw [hz]; decide) (ex_move (Or.inl rfl) (eval_slot ((hG.slots 1 (by decide)).trans rfl))) hG.below
        · exact rol_val rfl rfl rfl (by rw [hz]; decide) (ex_index rfl (eval_slot (hF 4 (by decide))) rfl (idx0_df HP2.out)) hG.below
        · exact rol_val rfl rfl rfl (by rw [hz]; decide) (ex_field rfl (eval_slot (hF 5 (by decide))) fld_df) hG.below
        · exact rol_val rfl rfl rfl (by rw [hz]; decide) (ex_load rfl (eval_slot (hF 6 (by decide))) (ld_node (cell_keep d0 hG.below) (cell_keep d1 hG.below))) hG.below
        · refine rol_call rfl rfl rfl (by rw [hz]; decide) (ex_call rfl (by simp [eval_slot (hF 3 (by decide)), eval_slot (hF 7 (by decide))]) e1) (KO.out wx) ?_ hG.below hG.new
          rintro e w1 ⟨rfl, hb1⟩
          exact ⟨_, rfl, hb1, .inl rfl⟩
        · exact rol_val rfl rfl rfl (by rw [hz]; decide) (ex_move (Or.inr rfl) (eval_slot (hF 8 (by decide)))) hG.below
      · intro a wx who hG hF
        have fv6 : a.tmps.getD 6 undef = .int .i64 C := eval_slot (s := 6) (hF 9 (of_decide_eq_true (by kernel_rfl)) (of_decide_eq_true (by kernel_rfl)))
        have hbx := hG.below
        have hnx := hG.new
        rw [hG.frame]
        simp only [List.foldl_cons, List.foldl_nil, List.setIfInBounds_toArray, List.set_cons_zero, List.set_cons_succ]
        generalize a.tmps.getD 16 undef = u16
        generalize a.tmps.getD 17 undef = u17
        generalize a.tmps.getD 18 undef = u18
        generalize a.tmps.getD 19 undef = u19
        generalize a.tmps.getD 20 undef = u20
        generalize a.tmps.getD 21 undef = u21
        generalize a.tmps.getD 22 undef = u22
        generalize a.tmps.getD 23 undef = u23
        generalize a.tmps.getD 24 undef = u24
        rw [fv6]
        clear hF hG fv6
        replace c0 := cell_keep c0 hbx; replace c1 := cell_keep c1 hbx; replace c2 := cell_keep c2 hbx; replace d0 := cell_keep d0 hbx; replace d1 := cell_keep d1 hbx; replace d2 := cell_keep d2 hbx
        replace HOWN := Lib.hid (ownsRow_belowB HOWN.out hbx); replace HB := Lib.hid (below_step HB.out hbx)
        clear hbx hnx
        have hp1 := HP1.out
        have hp2 := HP2.out
        obtain ⟨wv, hwv⟩ : ∃ v, v = wx := ⟨_, rfl⟩
        subst hwv
        have HBS := Lib.hid HB.out.size
        by_cases hlt : C < 0
        · have dl : decide (C < 0) = true := decide_eq_true hlt
          obtain ⟨L2, hl2⟩ : ∃ L, L = acc ++ [((x1, x2), zx)] := ⟨_, rfl⟩
          have HR2 : Hid (L2 ++ mergeD t1 (((y1, y2), zy) :: t2) = R) := Lib.hid (by
            rw [← HR.out, merge_l (show ltN (x1, x2) (y1, y2) = true by rw [ltN_iff, HC.out]; exact hlt), hl2, List.append_assoc]; rfl)
          have HL2E := Lib.hid hl2
          have HL2 : L2.length + (n1 - 1) + n2 ≤ na + nb := by have := HLEN.out; rw [hl2, List.length_append, List.length_singleton]; omega
          clear hlt hl2
          go_upto_region 9 with fail
          refine rol_run (by kernel_rfl) [[], [], [1], [1, 2], [1, 2, 3], [0, 1, 2, 3, 4], [], [6], [0, 1, 2, 3, 4, 5], [0, 1, 2, 3, 4, 5, 6, 7, 8]] (by kernel_rfl) [52, 53, 54, 55, 56, 57, 58, 59, 5, 0] [[11], [12], [1], [2], [3], [0, 4, 10], [12], [6], [5], [7]] [0, 0, 0, 0, 5, 1, 0, 0, 1, 0, 1, 0, 0] [0, 0, 0, 0, 0, 1, 0, 0, 0, 0] [1000, 1000, 1000, 1000, 1000, 1000, 1000, 1000, 1000, 1000, 5, 8, 9] [.val 52 (u5), .val 53 (.slice (some ⟨b1, o1, none⟩) n1 k1), .val 54 (.pointer (some ⟨b1, o1, none⟩)), .val 55 (.agg #[.string (mkB x1), .string (mkB x2), .int .i64 zx]), .mem 56 (blkG 56 #[.string (mkB x1), .string (mkB x2), .int .i64 zx] 1), .mem 57 (rowG w.heap.size 56 3 L2.length (dfC L2)), .val 58 (.slice (some ⟨b1, o1, none⟩) n1 k1), .val 59 (.slice A1' (n1 - 1) (k1 - 1)), .mem 5 (rowG w.heap.size 56 3 L2.length (dfC L2)), .val 0 (.slice A1' (n1 - 1) (k1 - 1)), .mem 5 (rowX u5 (w.heap.size) 56 3 acc.length (dfC acc)), .val 5 (u5), .val 0 (.slice (some ⟨b1, o1, none⟩) n1 k1)] (by kernel_rfl) ?_ (w.heap.size) (wv.heap.size) rfl HB.out rfl (fun k => if Value.ownBlock u5 = some k then 1 else 0) ?_ ?_ ?_
          · intro j hj
            have hj3 : j < 13 := hj
            have hj2 : j = 0 ∨ j = 1 ∨ j = 2 ∨ j = 3 ∨ j = 4 ∨ j = 5 ∨ j = 6 ∨ j = 7 ∨ j = 8 ∨ j = 9 ∨ j = 10 ∨ j = 11 ∨ j = 12 := by omega
            clear hj hj3
            rcases hj2 with rfl | rfl | rfl | rfl | rfl | rfl | rfl | rfl | rfl | rfl | rfl | rfl | rfl
            · exact trivial
            · exact trivial
            · exact trivial
            · exact trivial
            · exact blkG_near
            · exact rowG_near
            · exact trivial
            · exact trivial
            · exact rowG_near
            · exact trivial
            · exact rowX_near
            · exact trivial
            · exact trivial
          · intro j hj0 hj
            have hj1 : 10 ≤ j := hj0
            have hj3 : j < 13 := hj
            have hj2 : j = 10 ∨ j = 11 ∨ j = 12 := by omega
            clear hj0 hj hj1 hj3
            rcases hj2 with rfl | rfl | rfl
            · exact ⟨_, _, rfl, fun b e => ⟨(own_lt HOWN.out e).2, if_pos e⟩, HOWN.out, rfl⟩
            · exact rfl
            · exact rfl
          · intro i hi a wx who hG hF
            have hz : a.tmps.size = 76 := hG.size
            have hi3 : i < 10 := hi
            have hi2 : i = 0 ∨ i = 1 ∨ i = 2 ∨ i = 3 ∨ i = 4 ∨ i = 5 ∨ i = 6 ∨ i = 7 ∨ i = 8 ∨ i = 9 := by omega
            clear hi hi3
            rcases hi2 with rfl | rfl | rfl | rfl | rfl | rfl | rfl | rfl | rfl | rfl
            · exact rol_val rfl rfl rfl (by rw [hz]; decide) (ex_move (Or.inl rfl) (eval_slot (hF 11 (by decide)))) hG.below
            · exact rol_val rfl rfl rfl (by rw [hz]; decide) (ex_move (Or.inl rfl) (eval_slot (hF 12 (by decide)))) hG.below
            · exact rol_val rfl rfl rfl (by rw [hz]; decide) (ex_index rfl (eval_slot (hF 1 (by decide))) rfl (idx0_df HP1.out)) hG.below
            · exact rol_val rfl rfl rfl (by rw [hz]; decide) (ex_load rfl (eval_slot (hF 2 (by decide))) (ld_df (cell_keep cw0 hG.below) (cell_keep cw1 hG.below) (cell_keep cw2 hG.below))) hG.below
            · exact rol_newO rfl rfl rfl (by rw [hz]; decide) (x := .cells #[.string (mkB x1), .string (mkB x2), .int .i64 zx] 56) (v := .slice (some ⟨wx.heap.size, 0, none⟩) 1 1) (ex_slice rfl (vs := #[(0, .agg #[.string (mkB x1), .string (mkB x2), .int .i64 zx])]) (by simp only [List.map_toArray, List.map_cons, List.map_nil, eval_slot (hF 3 (by decide))]) (by go_simp)) ⟨_, rfl, rfl, heap_alloc_new _ _⟩ hG.below (Nat.le_trans HBS.out hG.new)
            · obtain ⟨v, ob, hv, hob, b, rfl, rfl, hh⟩ := hF 4 (by decide)
              exact rol_app_df rfl rfl rfl (by rw [hz]; decide) rfl (hF 10 (by decide)) (eval_slot (hF 0 (by decide))) (eval_slot hv) (blkG.dfs hh) (by have := HLEN.out; omega) hG.below (Nat.le_refl _) (Nat.le_trans HBS.out hG.new) (by rw [HL2E.out, List.length_append]; rfl) HL2E.out
            · exact rol_val rfl rfl rfl (by rw [hz]; decide) (ex_move (Or.inl rfl) (eval_slot (hF 12 (by decide)))) hG.below
            · exact rol_val rfl rfl rfl (by rw [hz]; decide) (ex_back (t := 22) (x := .tmp 58) (y := .const (.int .i64 1)) (vx := .slice (some ⟨b1, o1, none⟩) n1 k1) (vy := .int .i64 1) rfl (eval_slot (hF 6 (by decide))) rfl (HTL1.out wx)) hG.below
            · exact rol_move rfl rfl rfl (by rw [hz]; decide) (Or.inr rfl) (hF 5 (by decide)) hG.below
            · exact rol_val rfl rfl rfl (by rw [hz]; decide) (ex_move (Or.inr rfl) (eval_slot (hF 7 (by decide)))) hG.below
          · intro a wx who hG hF
            obtain ⟨v5, ob5, fv5, fo5, fp5⟩ := hF 8 (of_decide_eq_true (by kernel_rfl)) (of_decide_eq_true (by kernel_rfl))
            replace fv5 : a.tmps.getD 5 undef = v5 := eval_slot (s := 5) fv5
            have fv0 : a.tmps.getD 0 undef = .slice A1' (n1 - 1) (k1 - 1) := eval_slot (s := 0) (hF 9 (of_decide_eq_true (by kernel_rfl)) (of_decide_eq_true (by kernel_rfl)))
            have hbx := hG.below
            have hnx := hG.new
            rw [hG.frame]
            simp only [List.foldl_cons, List.foldl_nil, List.setIfInBounds_toArray, List.set_cons_zero, List.set_cons_succ]
            generalize a.tmps.getD 52 undef = u52
            generalize a.tmps.getD 53 undef = u53
            generalize a.tmps.getD 54 undef = u54
            generalize a.tmps.getD 55 undef = u55
            generalize a.tmps.getD 56 undef = u56
            generalize a.tmps.getD 57 undef = u57
            generalize a.tmps.getD 58 undef = u58
            generalize a.tmps.getD 59 undef = u59
            rw [fv5]
            rw [fv0]
            clear hF hG fv5 fv0
            obtain ⟨hrow, -⟩ := fp5
            have HRW := Lib.hid hrow; have HBN := Lib.hid hbx
            clear fo5 hrow hbx hnx hp1 hp2
            go_wp2
            go_roundw
            case rel => exact ⟨A1', _, n1 - 1, k1 - 1, n2, k2, t1, _, L2, rfl, rfl, D1', D2, G1', G2, HR2, HL2, HRW.out, HBN⟩
            case measure => have := HP1.out; simp [lenOf]; omega
        · have dl : decide (C < 0) = false := decide_eq_false hlt
          by_cases hgt : 0 < C
          · have dg : decide (0 < C) = true := decide_eq_true hgt
            obtain ⟨L2, hl2⟩ : ∃ L, L = acc ++ [((y1, y2), zy)] := ⟨_, rfl⟩
            have HR2 : Hid (L2 ++ mergeD (((x1, x2), zx) :: t1) t2 = R) := Lib.hid (by
              rw [← HR.out, merge_r (show ltN (y1, y2) (x1, x2) = true by rw [ltN_iff, ordN_swap, HC.out]; omega), hl2, List.append_assoc]; rfl)
            have HL2E := Lib.hid hl2
            have HL2 : L2.length + n1 + (n2 - 1) ≤ na + nb := by have := HLEN.out; rw [hl2, List.length_append, List.length_singleton]; omega
            clear hlt hgt hl2
            go_upto_region 11 with fail
            refine rol_run (by kernel_rfl) [[], [], [1], [1, 2], [1, 2, 3], [0, 1, 2, 3, 4], [], [6], [0, 1, 2, 3, 4, 5], [0, 1, 2, 3, 4, 5, 6, 7, 8]] (by kernel_rfl) [63, 64, 65, 66, 67, 68, 69, 70, 5, 1] [[11], [12], [1], [2], [3], [0, 4, 10], [12], [6], [5], [7]] [0, 0, 0, 0, 5, 1, 0, 0, 1, 0, 1, 0, 0] [0, 0, 0, 0, 0, 1, 0, 0, 0, 0] [1000, 1000, 1000, 1000, 1000, 1000, 1000, 1000, 1000, 1000, 5, 8, 9] [.val 63 (u5), .val 64 (.slice (some ⟨b2, o2, none⟩) n2 k2), .val 65 (.pointer (some ⟨b2, o2, none⟩)), .val 66 (.agg #[.string (mkB y1), .string (mkB y2), .int .i64 zy]), .mem 67 (blkG 56 #[.string (mkB y1), .string (mkB y2), .int .i64 zy] 1), .mem 68 (rowG w.heap.size 56 3 L2.length (dfC L2)), .val 69 (.slice (some ⟨b2, o2, none⟩) n2 k2), .val 70 (.slice A2' (n2 - 1) (k2 - 1)), .mem 5 (rowG w.heap.size 56 3 L2.length (dfC L2)), .val 1 (.slice A2' (n2 - 1) (k2 - 1)), .mem 5 (rowX u5 (w.heap.size) 56 3 acc.length (dfC acc)), .val 5 (u5), .val 1 (.slice (some ⟨b2, o2, none⟩) n2 k2)] (by kernel_rfl) ?_ (w.heap.size) (wv.heap.size) rfl HB.out rfl (fun k => if Value.ownBlock u5 = some k then 1 else 0) ?_ ?_ ?_
            · intro j hj
              have hj3 : j < 13 := hj
              have hj2 : j = 0 ∨ j = 1 ∨ j = 2 ∨ j = 3 ∨ j = 4 ∨ j = 5 ∨ j = 6 ∨ j = 7 ∨ j = 8 ∨ j = 9 ∨ j = 10 ∨ j = 11 ∨ j = 12 := by omega
              clear hj hj3
              rcases hj2 with rfl | rfl | rfl | rfl | rfl | rfl | rfl | rfl | rfl | rfl | rfl | rfl | rfl
              · exact trivial
              · exact trivial
              · exact trivial
              · exact trivial
              · exact blkG_near
              · exact rowG_near
              · exact trivial
              · exact trivial
              · exact rowG_near
              · exact trivial
              · exact rowX_near
              · exact trivial
              · exact trivial
            · intro j hj0 hj
              have hj1 : 10 ≤ j := hj0
              have hj3 : j < 13 := hj
              have hj2 : j = 10 ∨ j = 11 ∨ j = 12 := by omega
              clear hj0 hj hj1 hj3
              rcases hj2 with rfl | rfl | rfl
              · exact ⟨_, _, rfl, fun b e => ⟨(own_lt HOWN.out e).2, if_pos e⟩, HOWN.out, rfl⟩
              · exact rfl
              · exact rfl
            · intro i hi a wx who hG hF
              have hz : a.tmps.size = 76 := hG.size
              have hi3 : i < 10 := hi
              have hi2 : i = 0 ∨ i = 1 ∨ i = 2 ∨ i = 3 ∨ i = 4 ∨ i = 5 ∨ i = 6 ∨ i = 7 ∨ i = 8 ∨ i = 9 := by omega
              clear hi hi3
              rcases hi2 with rfl | rfl | rfl | rfl | rfl | rfl | rfl | rfl | rfl | rfl
              · exact rol_val rfl rfl rfl (by rw [hz]; decide) (ex_move (Or.inl rfl) (eval_slot (hF 11 (by decide)))) hG.below
              · exact rol_val rfl rfl rfl (by rw [hz]; decide) (ex_move (Or.inl rfl) (eval_slot (hF 12 (by decide)))) hG.below
              · exact rol_val rfl rfl rfl (by rw [hz]; decide) (ex_index rfl (eval_slot (hF 1 (by decide))) rfl (idx0_df HP2.out)) hG.below
              · exact rol_val rfl rfl rfl (by rw [hz]; decide) (ex_load rfl (eval_slot (hF 2 (by decide))) (ld_df (cell_keep dw0 hG.below) (cell_keep dw1 hG.below) (cell_keep dw2 hG.below))) hG.below
              · exact rol_newO rfl rfl rfl (by rw [hz]; decide) (x := .cells #[.string (mkB y1), .string (mkB y2), .int .i64 zy] 56) (v := .slice (some ⟨wx.heap.size, 0, none⟩) 1 1) (ex_slice rfl (vs := #[(0, .agg #[.string (mkB y1), .string (mkB y2), .int .i64 zy])]) (by simp only [List.map_toArray, List.map_cons, List.map_nil, eval_slot (hF 3 (by decide))]) (by go_simp)) ⟨_, rfl, rfl, heap_alloc_new _ _⟩ hG.below (Nat.le_trans HBS.out hG.new)
              · obtain ⟨v, ob, hv, hob, b, rfl, rfl, hh⟩ := hF 4 (by decide)
                exact rol_app_df rfl rfl rfl (by rw [hz]; decide) rfl (hF 10 (by decide)) (eval_slot (hF 0 (by decide))) (eval_slot hv) (blkG.dfs hh) (by have := HLEN.out; omega) hG.below (Nat.le_refl _) (Nat.le_trans HBS.out hG.new) (by rw [HL2E.out, List.length_append]; rfl) HL2E.out
              · exact rol_val rfl rfl rfl (by rw [hz]; decide) (ex_move (Or.inl rfl) (eval_slot (hF 12 (by decide)))) hG.below
              · exact rol_val rfl rfl rfl (by rw [hz]; decide) (ex_back (t := 22) (x := .tmp 69) (y := .const (.int .i64 1)) (vx := .slice (some ⟨b2, o2, none⟩) n2 k2) (vy := .int .i64 1) rfl (eval_slot (hF 6 (by decide))) rfl (HTL2.out wx)) hG.below
              · exact rol_move rfl rfl rfl (by rw [hz]; decide) (Or.inr rfl) (hF 5 (by decide)) hG.below
              · exact rol_val rfl rfl rfl (by rw [hz]; decide) (ex_move (Or.inr rfl) (eval_slot (hF 7 (by decide)))) hG.below
            · intro a wx who hG hF
              obtain ⟨v5, ob5, fv5, fo5, fp5⟩ := hF 8 (of_decide_eq_true (by kernel_rfl)) (of_decide_eq_true (by kernel_rfl))
              replace fv5 : a.tmps.getD 5 undef = v5 := eval_slot (s := 5) fv5
              have fv1 : a.tmps.getD 1 undef = .slice A2' (n2 - 1) (k2 - 1) := eval_slot (s := 1) (hF 9 (of_decide_eq_true (by kernel_rfl)) (of_decide_eq_true (by kernel_rfl)))
              have hbx := hG.below
              have hnx := hG.new
              rw [hG.frame]
              simp only [List.foldl_cons, List.foldl_nil, List.setIfInBounds_toArray, List.set_cons_zero, List.set_cons_succ]
              generalize a.tmps.getD 63 undef = u63
              generalize a.tmps.getD 64 undef = u64
              generalize a.tmps.getD 65 undef = u65
              generalize a.tmps.getD 66 undef = u66
              generalize a.tmps.getD 67 undef = u67
              generalize a.tmps.getD 68 undef = u68
              generalize a.tmps.getD 69 undef = u69
              generalize a.tmps.getD 70 undef = u70
              rw [fv5]
              rw [fv1]
              clear hF hG fv5 fv1
              obtain ⟨hrow, -⟩ := fp5
              have HRW := Lib.hid hrow; have HBN := Lib.hid hbx
              clear fo5 hrow hbx hnx hp1 hp2
              go_wp2
              go_roundw
              case rel => exact ⟨_, A2', n1, k1, n2 - 1, k2 - 1, _, t2, L2, rfl, rfl, D1, D2', G1, G2', HR2, HL2, HRW.out, HBN⟩
              case measure => have := HP2.out; simp [lenOf]; omega
          · have dg : decide (0 < C) = false := decide_eq_false hgt
            have hq : (x1, x2) = (y1, y2) := ordN_eq GX.out.1 GY.out.1 (by rw [HC.out]; omega)
            have hi1 := inD_iff.1 GX.out.2.2
            have hi2 := inD_iff.1 GY.out.2.2
            simp only at hi1 hi2
            obtain ⟨s, hs⟩ : ∃ s, zx + zy = s := ⟨_, rfl⟩
            have hwr : IntKind.i64.wrap (zx + zy) = s := (IntWalk.i64_in _ (by omega)).trans hs
            have hq1 : (1 : Int) ≤ (n1 : Int) := by omega
            have hq2 : (1 : Int) ≤ (n2 : Int) := by omega
            have hr1 : (n1 : Int) ≤ (k1 : Int) := by have := D1.out.lenE.2.1; omega
            have hr2 : (n2 : Int) ≤ (k2 : Int) := by have := D2.out.lenE.2.1; omega
            have HQ := Lib.hid hq; have HS := Lib.hid hs
            have HL2 : acc.length + (n1 - 1) + (n2 - 1) ≤ na + nb := by have := HLEN.out; omega
            clear hlt hgt hq hi1 hi2 hs
            by_cases h0 : s = 0
            · have hs0 : (s != 0) = false := by simp [h0]
              have HR2 : Hid (acc ++ mergeD t1 t2 = R) := Lib.hid (by rw [← HR.out, merge_0 (show ((x1, x2), zx).1 = ((y1, y2), zy).1 from HQ.out) (by show zx + zy = 0; rw [HS.out]; exact h0)])
              clear h0
              go_upto_region 4 with fail
              go_region
              go_upto_region 7 with fail
              go_region
              rw [HA1.out, HA2.out]
              clear hp1 hp2 hq1 hq2 hr1 hr2
              go_wp2
              go_roundw
              case rel => exact ⟨A1', A2', n1 - 1, k1 - 1, n2 - 1, k2 - 1, t1, t2, acc, rfl, rfl, D1', D2', G1', G2', HR2, HL2, HOWN.out, Lib.hid HB.out.drew.drew⟩
              case measure => have := HP2.out; have := HP1.out; simp [lenOf]; omega
            · have hs0 : (s != 0) = true := by simp [h0]
              have HR2 : Hid ((acc ++ [((x1, x2), s)]) ++ mergeD t1 t2 = R) := Lib.hid (by
                rw [← HR.out, merge_1 (show ((x1, x2), zx).1 = ((y1, y2), zy).1 from HQ.out) (by show zx + zy ≠ 0; rw [HS.out]; exact h0), List.append_assoc]
                simp only [HS.out]; rfl)
              clear h0
              go_upto_region 4 with fail
              go_region
              obtain ⟨wz, hwz⟩ : ∃ v, wv.drew = v := ⟨_, rfl⟩
              have c0z : wz.cell? ⟨b1, o1, none⟩ = some (.string (mkB x1)) := by rw [← hwz]; exact c0
              have c1z : wz.cell? ⟨b1, o1 + 1, none⟩ = some (.string (mkB x2)) := by rw [← hwz]; exact c1
              have HOZ : Hid (wz.ownsRow w.heap.size 56 3 u5 acc.length (dfC acc)) := Lib.hid (by rw [← hwz]; exact HOWN.out)
              have HBZ : Hid (Below w.heap.size w wz) := Lib.hid (by rw [← hwz]; exact HB.out.drew)
              rw [hwz]
              clear hwz c0 c1 c2 d0 d1 d2
              have hal : acc.length ≤ 200000 := by omega
              obtain ⟨na2, hna2⟩ : ∃ n, acc.length = n := ⟨_, rfl⟩
              have HNA := Lib.hid hna2
              rw [hna2] at HOZ hal
              clear hna2
              go_upto_region 7 with (at_builtin; refine wpList_append_new rfl _ _ 22 rfl w.heap.size 56 zDV 3 40 Tryz.underlying22 Tryz.info_df rfl (by decide) _ na2 _ rfl HOZ.out [.string (mkB x1), .string (mkB x2), .int .i64 s] rfl rfl rfl (by omega) (by unfold maxLen; omega) HBZ.out.size ?_; intro v' w' hown' hb'; have HO2 := Lib.hid hown'; have HB2 := Lib.hid (HBZ.out.trans hb'.toBelow); clear hown' hb')
              go_region
              rw [HA1.out, HA2.out]
              have HRW : Hid (w'.ownsRow w.heap.size 56 3 v' (acc ++ [((x1, x2), s)]).length (dfC (acc ++ [((x1, x2), s)]))) := Lib.hid (by
                rw [dfC_snoc, List.length_append, HNA.out]; exact HO2.out)
              have HL3 : (acc ++ [((x1, x2), s)]).length + (n1 - 1) + (n2 - 1) ≤ na + nb := by have := HLEN.out; rw [List.length_append, List.length_singleton]; omega
              clear hp1 hp2 hq1 hq2 hr1 hr2
              go_wp2
              go_roundw
              case rel => exact ⟨A1', A2', n1 - 1, k1 - 1, n2 - 1, k2 - 1, t1, t2, _, rfl, rfl, D1', D2', G1', G2', HR2, HL3, HRW.out, Lib.hid HB2.out.drew⟩
              case measure => have := HP2.out; have := HP1.out; simp [lenOf]; omega

theorem good_of {l : List De} (h : okD l = true) (hs : ∀ e ∈ l, smallD e) : ∀ e ∈ l, goodD e := fun e he => ⟨okD_ok h e he, (hs e he).1, okD_in h e he⟩
set_option maxHeartbeats 1600000 in
theorem both_any (U V : Value) (a b : List De) (w : World) (hU : Dfs w U a) (hV : Dfs w V b) (sa : ∀ e ∈ a, smallD e) (sb : ∀ e ∈ b, smallD e) (la : a.length ≤ 100000) (lb : b.length ≤ 100000) :
    Calls Tryz.prog 47 #[U, V] w fun e w' => ∃ v, e = .returned (.tuple #[v, .int .i64 (bothE a b).2]) ∧ w'.ownsRow w.heap.size 56 3 v (bothE a b).1.length (dfC (bothE a b).1) ∧ Below w.heap.size w w' := by
  have KA := Lib.hid fun w h => dcheck_any U a w h sa (by omega)
  have KB := Lib.hid fun w h => dcheck_any V b w h sb (by omega)
  have KT := Lib.hid fun w h h' ga gb => together_any U V a b w h h' ga gb la lb
  obtain ⟨Aa, ca, rfl, -, -, -, -⟩ := hU.ex
  obtain ⟨Ab, cb, rfl, -, -, -, -⟩ := hV.ex
  obtain ⟨na, hna⟩ : ∃ n, a.length = n := ⟨_, rfl⟩
  obtain ⟨nb, hnb⟩ : ∃ n, b.length = n := ⟨_, rfl⟩
  obtain ⟨R, hR⟩ : ∃ R, bothE a b = R := ⟨_, rfl⟩
  rw [hR]
  obtain ⟨R1, R2⟩ := R
  simp only
  rw [hna] at hU KA KT ⊢
  rw [hnb] at hV KB KT ⊢
  have SU := Lib.hid hU; have SV := Lib.hid hV
  clear hU hV hna hnb la lb
  obtain ⟨oa, hoa⟩ : ∃ o, okD a = o := ⟨_, rfl⟩
  obtain ⟨ob, hob⟩ : ∃ o, okD b = o := ⟨_, rfl⟩
  cases oa
  · rw [bothE_no (by rw [hoa]; rfl)] at hR
    obtain ⟨rfl, rfl⟩ := Prod.mk.inj hR
    rw [chkD_no hoa] at KA
    clear hR hoa hob sa sb KB KT
    go_enter Tryz.func47, Tryz.ntmps47
    go_wp2_with (go_at_call 36; refine (KA.out _ SU.out).mono ?_; rintro e w1 ⟨rfl, hb1⟩; have B := Lib.hid hb1; clear hb1)
    go_ret2
    exact ⟨_, rfl, dfs_row0 _ _, B.out⟩
  · cases ob
    · rw [bothE_no (by rw [hob, Bool.and_false])] at hR
      obtain ⟨rfl, rfl⟩ := Prod.mk.inj hR
      rw [chkD_yes hoa] at KA
      rw [chkD_no hob] at KB
      clear hR hoa hob sa sb KT
      have B := Lib.hid (Below.refl w.heap.size w)
      go_enter Tryz.func47, Tryz.ntmps47
      go_wp2_with (first
        | (go_at_call 36; refine (KA.out _ SU.out).mono ?_; rintro e w1 ⟨rfl, hb1⟩; replace B := Lib.hid (below_step B.out hb1); clear hb1 KA)
        | (go_at_call 36; refine (KB.out _ (SV.out.below B.out)).mono ?_; rintro e w1 ⟨rfl, hb1⟩; replace B := Lib.hid (below_step B.out hb1); clear hb1))
      go_ret2
      exact ⟨_, rfl, dfs_row0 _ _, B.out⟩
    · have hand : (okD a && okD b) = true := by rw [hoa, hob]; rfl
      have hmk := merge_okD hoa hob
      have hne := bothE_far hand
      have hye := bothE_yes hand
      have ga := Lib.hid (good_of hoa sa); have gb := Lib.hid (good_of hob sb)
      rw [chkD_yes hoa] at KA
      rw [chkD_yes hob] at KB
      obtain ⟨M, hM⟩ : ∃ M, mergeD a b = M := ⟨_, rfl⟩
      rw [hM] at hmk hne hye KT
      have KC := Lib.hid fun V w h => dcontf_any V M w h
      have ho : allIn M = okD M := hmk.symm
      obtain ⟨o, hoM⟩ : ∃ o, okD M = o := ⟨_, rfl⟩
      rw [hoM] at ho
      rw [ho] at KC
      obtain ⟨nm, hnm⟩ : ∃ n, M.length = n := ⟨_, rfl⟩
      have HNM := Lib.hid hnm
      clear hoa hob sa sb hand hmk hM ho
      have B := Lib.hid (Below.refl w.heap.size w)
      cases o
      · rw [hne hoM] at hR
        obtain ⟨rfl, rfl⟩ := Prod.mk.inj hR
        clear hR hne hye hoM hnm
        go_enter Tryz.func47, Tryz.ntmps47
        go_wp2_with (first
          | (go_at_call 36; refine (KA.out _ SU.out).mono ?_; rintro e w1 ⟨rfl, hb1⟩; replace B := Lib.hid (below_step B.out hb1); clear hb1 KA)
          | (go_at_call 36; refine (KB.out _ (SV.out.below B.out)).mono ?_; rintro e w1 ⟨rfl, hb1⟩; replace B := Lib.hid (below_step B.out hb1); clear hb1)
          | (go_at_call 61; refine (KT.out _ (SU.out.below B.out) (SV.out.below B.out) ga.out gb.out).mono ?_; rintro e w1 ⟨v, rfl, hrow, hb1⟩; obtain ⟨a3, c3, rfl, hd3⟩ := dfsO hrow; have D3 := Lib.hid hd3; replace B := Lib.hid (below_step B.out hb1); clear hb1 hrow hd3; rw [HNM.out] at D3 ⊢)
          | (go_at_call 34; refine (KC.out _ _ D3.out).mono ?_; rintro e w1 ⟨rfl, hb1⟩; replace B := Lib.hid (below_step B.out hb1); clear hb1))
        go_ret2
        exact ⟨_, rfl, dfs_row0 _ _, B.out⟩
      · rw [hye hoM] at hR
        obtain ⟨rfl, rfl⟩ := Prod.mk.inj hR
        clear hR hne hye hoM hnm
        go_enter Tryz.func47, Tryz.ntmps47
        go_wp2_with (first
          | (go_at_call 36; refine (KA.out _ SU.out).mono ?_; rintro e w1 ⟨rfl, hb1⟩; replace B := Lib.hid (below_step B.out hb1); clear hb1 KA)
          | (go_at_call 36; refine (KB.out _ (SV.out.below B.out)).mono ?_; rintro e w1 ⟨rfl, hb1⟩; replace B := Lib.hid (below_step B.out hb1); clear hb1)
          | (go_at_call 61; refine (KT.out _ (SU.out.below B.out) (SV.out.below B.out) ga.out gb.out).mono ?_; rintro e w1 ⟨v, rfl, hrow, hb1⟩; have HROW := Lib.hid (row_base hrow B.out.size); obtain ⟨a3, c3, rfl, hd3⟩ := dfsO hrow; have D3 := Lib.hid hd3; replace B := Lib.hid (below_step B.out hb1); clear hb1 hrow hd3; rw [HNM.out] at D3 HROW ⊢)
          | (go_at_call 34; refine (KC.out _ _ D3.out).mono ?_; rintro e w1 ⟨rfl, hb1⟩; replace HROW := Lib.hid (ownsRow_belowB HROW.out hb1); replace B := Lib.hid (below_step B.out hb1); clear hb1))
        go_ret2
        exact ⟨_, rfl, by rw [HNM.out]; exact HROW.out, B.out⟩
end Go.Proofs.YtglhjdbnpdoinaaGreat

namespace Go.Proofs.YtglhjdbnpdoinaaGreat
open Go.RowKit
set_option linter.unusedVariables false
set_option maxRecDepth 100000

/-! ### Are two lists the same -/
set_option maxHeartbeats 1600000 in
theorem dsame_any (U V : Value) (ns ms : List De) (w : World) (hu : Dfs w U ns) (hv : Dfs w V ms) :
    Calls Tryz.prog 39 #[U, V] w fun e w' => e = .returned (.bool (decide (ns = ms))) ∧ Below w.heap.size w w' := by
  obtain ⟨a, c, rfl, h1, h2, -, -⟩ := hu.ex
  obtain ⟨a', c', rfl, h1', h2', -, -⟩ := hv.ex
  unfold maxLen at h2 h2'
  obtain ⟨n, hn⟩ : ∃ n, ns.length = n := ⟨_, rfl⟩
  obtain ⟨m, hm⟩ : ∃ m, ms.length = m := ⟨_, rfl⟩
  rw [hn] at h1 hu ⊢
  rw [hm] at h1' hv ⊢
  obtain ⟨R, hR⟩ : ∃ R, decide (ns = ms) = R := ⟨_, rfl⟩
  rw [hR]
  have HN := Lib.hid hn; have HM := Lib.hid hm; have SU := Lib.hid hu; have SV := Lib.hid hv; have HR := Lib.hid hR
  clear hu hv hn hm hR
  by_cases hl : n = m
  · subst hl
    have h0 : ((n : Int) != (n : Int)) = false := by simp
    go_enter Tryz.func39, Tryz.ntmps39
    go_wp2
    go_loopw [5] (fun i wr => ∃ k q : Nat, k ≤ n ∧ i = .int .i64 k ∧ wr = w.drewN q ∧ Hid (ns.take k = ms.take k)) (fun i _ => n - (intOf i).toNat)
    case atStart => exact ⟨0, 0, Nat.zero_le _, rfl, rfl, Lib.hid (by simp)⟩
    case round =>
      obtain ⟨k, q, hk, rfl, rfl, H⟩ := hrel
      by_cases hlt : k < n
      · have hkl : k < ns.length := by rw [HN.out]; exact hlt
        have hkm : k < ms.length := by rw [HM.out]; exact hlt
        obtain ⟨Wq, hWq⟩ : ∃ Wq, w.drewN q = Wq := ⟨_, rfl⟩
        have hbq : Below w.heap.size w Wq := by rw [← hWq]; exact below_q ⟨q, rfl⟩
        obtain ⟨b, off, rfl, -, hc0, hc1, hc2⟩ := (SU.out.below hbq).at k hkl
        obtain ⟨b', off', rfl, -, hd0, hd1, hd2⟩ := (SV.out.below hbq).at k hkm
        obtain ⟨x, hx⟩ : ∃ x, x = ns.getD k zD := ⟨_, rfl⟩
        obtain ⟨y, hy⟩ : ∃ y, y = ms.getD k zD := ⟨_, rfl⟩
        rw [← hx] at hc0 hc1 hc2
        rw [← hy] at hd0 hd1 hd2
        have e1 : ns.take (k + 1) = ns.take k ++ [x] := by rw [List.take_succ_eq_append_getElem hkl, hx, df_getD hkl]
        have e2 : ms.take (k + 1) = ms.take k ++ [y] := by rw [List.take_succ_eq_append_getElem hkm, hy, df_getD hkm]
        obtain ⟨⟨x1, x2⟩, x3⟩ := x
        obtain ⟨⟨y1, y2⟩, y3⟩ := y
        simp only at hc0 hc1 hc2 hd0 hd1 hd2
        rw [hWq]
        have HWq := Lib.hid hWq; have E1 := Lib.hid e1; have E2 := Lib.hid e2; clear hx hy hbq hWq e1 e2
        have hgd := guard_df
        have heq := neq_df x1 x2 y1 y2 x3 y3
        obtain ⟨o, ho⟩ : ∃ o, decide (((x1, x2), x3) = ((y1, y2), y3)) = o := ⟨_, rfl⟩
        rw [ho] at heq
        have HO := Lib.hid ho; clear ho
        have hkb : (k : Int) < (n : Int) := by omega
        cases o
        · simp only [Bool.not_false] at heq
          go_wp2_with fail
          go_quiet (fail)
          go_wp2
          go_ret
          refine ⟨?_, below_step (below_q ⟨q, HWq.out.symm⟩) (below_q ⟨nq, rfl⟩)⟩
          rw [← HR.out, decide_eq_false fun e => ?_]
          · rfl
          · have h5 := E1.out
            rw [e, E2.out] at h5
            have h6 := List.append_inj_right' h5 rfl
            simp only [List.cons.injEq, and_true] at h6
            have := of_decide_eq_false HO.out
            exact this h6.symm
        · simp only [Bool.not_true] at heq
          go_wp2_with fail
          go_quiet (fail)
          go_wp2
          have H5 : Hid (ns.take (k + 1) = ms.take (k + 1)) := Lib.hid (by rw [E1.out, E2.out, H.out, of_decide_eq_true HO.out])
          go_roundw
          case rel => exact ⟨k + 1, q + nq, by omega, by go_num, by rw [← HWq.out, World.drewN_drewN], H5⟩
          case measure => simp [intOf]; omega
      · go_wp2
        go_ret
        refine ⟨?_, below_q ⟨q, rfl⟩⟩
        have e : k = n := by omega
        subst e
        have h5 := H.out
        rw [List.take_of_length_le (by rw [HN.out]; exact Nat.le_refl _), List.take_of_length_le (by rw [HM.out]; exact Nat.le_refl _)] at h5
        rw [← HR.out, decide_eq_true h5]; rfl
  · have h0 : ((n : Int) != (m : Int)) = true := by simp; omega
    have HL := Lib.hid hl; clear hl
    go_enter Tryz.func39, Tryz.ntmps39
    go_wp2
    go_ret
    refine ⟨?_, Below.refl _ _⟩
    rw [← HR.out, decide_eq_false fun e => HL.out (by rw [← HN.out, ← HM.out, e])]; rfl

/-! ### Some edits of a list -/
def fewDs (l : List De) : List De := (l.take 20).map fun e => (oneN e.1, e.2)
theorem fewDs_len (l : List De) : (fewDs l).length ≤ 20 := by unfold fewDs; rw [List.length_map, List.length_take]; omega
theorem fewDs_small {l : List De} (h : ∀ e ∈ l, fitD e) : ∀ e ∈ fewDs l, smallD e := fun e he => by
  obtain ⟨x, hx, rfl⟩ := List.mem_map.1 he
  exact ⟨oneN_small x.1, (h x (List.mem_of_mem_take hx)).2⟩
theorem fewDs_succ {l : List De} {k : Nat} (h : k < l.length) : (l.take (k + 1)).map (fun e : De => (oneN e.1, e.2)) = (l.take k).map (fun e : De => (oneN e.1, e.2)) ++ [(oneN (l.getD k zD).1, (l.getD k zD).2)] := by
  rw [List.take_succ_eq_append_getElem h, List.map_append, df_getD h]; rfl
set_option maxHeartbeats 3200000 in
theorem dfewo_any (V : Value) (l : List De) (w : World) (hV : Dfs w V l) (hf : ∀ e ∈ l, fitD e) :
    Calls Tryz.prog 29 #[V] w fun e w' => ∃ v, e = .returned v ∧ w'.ownsRow w.heap.size 56 3 v (fewDs l).length (dfC (fewDs l)) ∧ Below w.heap.size w w' := by
  obtain ⟨a, c, rfl, h1, h2, -, -⟩ := hV.ex
  unfold maxLen at h2
  obtain ⟨n, hn⟩ : ∃ n, l.length = n := ⟨_, rfl⟩
  obtain ⟨L, hL⟩ : ∃ L, fewDs l = L := ⟨_, rfl⟩
  rw [hL]
  rw [hn] at h1 hV ⊢
  have SV := Lib.hid hV; have HN := Lib.hid hn; have HF := Lib.hid hf; have HL := Lib.hid hL
  have e1 : ∀ args w, (callFunc 11 args).run Tryz.prog w = .ok (.enter 11 args) w := enters_of Tryz.func11 (by kernel_rfl) rfl
  clear hV hn hf hL
  go_enter Tryz.func29, Tryz.ntmps29
  go_wp2
  go_loopw [3, 4] (fun v i wr => ∃ (k : Nat) (acc : List De), k ≤ n ∧ k ≤ 20 ∧ i = .int .i64 k ∧ acc.length = k ∧ Hid (acc = (l.take k).map fun e : De => (oneN e.1, e.2)) ∧ wr.ownsRow w.heap.size 56 3 v acc.length (dfC acc) ∧ Hid (Below w.heap.size w wr)) (fun _ i _ => n - (intOf i).toNat)
  case atStart => exact ⟨0, [], Nat.zero_le _, Nat.zero_le _, rfl, rfl, Lib.hid (by simp), dfs_row0 _ _, Lib.hid (Below.refl _ _)⟩
  case round =>
    obtain ⟨k, acc, hkn, hk8, rfl, hal, HACC, hown, HB⟩ := hrel
    by_cases hlt : k < n
    · by_cases h8 : k < 20
      · have hkl : k < l.length := by rw [HN.out]; exact hlt
        obtain ⟨b, off, rfl, -, cw0, cw1, cw2⟩ := SV.out.at k hkl
        have htk := fewDs_succ hkl
        have hsy : fitD (l.getD k zD) := HF.out _ (df_mem hkl)
        obtain ⟨y, hy⟩ : ∃ y, y = l.getD k zD := ⟨_, rfl⟩
        rw [← hy] at cw0 cw1 cw2 htk hsy
        obtain ⟨⟨y1, y2⟩, z⟩ := y
        simp only at cw0 cw1 cw2
        have KO := Lib.hid fun w => one_any y1 y2 w hsy.1.1 hsy.1.2
        obtain ⟨L2, hl2⟩ : ∃ L, L = acc ++ [((fewL y1, fewL y2), z)] := ⟨_, rfl⟩
        have HL2E := Lib.hid hl2; have HOWN := Lib.hid hown; have HTK := Lib.hid htk; have HAL := Lib.hid hal; have HLT := Lib.hid hlt; have HBS := Lib.hid HB.out.size
        have hl2n : L2.length = k + 1 := by rw [hl2, List.length_append, hal]; rfl
        have HLN := Lib.hid hl2n
        have hacn : acc.length ≤ 20 := by omega
        clear hy hsy htk hl2 hl2n hown hal
        go_upto_region 5 with fail
        refine rol_run (by kernel_rfl) [[], [], [], [1, 2], [1, 2, 3], [1, 2, 3, 4], [1, 2, 3, 4, 5], [], [], [7, 8], [7, 8, 9], [7, 8, 9, 10], [1, 2, 3, 4, 5, 6, 7, 8, 9, 10, 11], [1, 2, 3, 4, 5, 6, 7, 8, 9, 10, 11, 12], [0, 1, 2, 3, 4, 5, 6, 7, 8, 9, 10, 11, 12, 13], [0, 1, 2, 3, 4, 5, 6, 7, 8, 9, 10, 11, 12, 13, 14]] (by kernel_rfl) [15, 16, 17, 18, 19, 20, 21, 22, 23, 24, 25, 26, 27, 28, 29, 3] [[17], [], [], [1, 2], [3], [4], [5], [], [], [7, 8], [9], [10], [6, 11], [12], [0, 13, 16], [14]] [0, 0, 0, 0, 0, 0, 0, 0, 0, 0, 0, 0, 0, 5, 1, 1, 1, 0] [0, 0, 0, 0, 0, 0, 0, 0, 0, 0, 0, 0, 0, 0, 1, 0] [1000, 1000, 1000, 1000, 1000, 1000, 1000, 1000, 1000, 1000, 1000, 1000, 1000, 1000, 1000, 1000, 14, 15] [.val 15 (u3), .val 16 (.slice (some ⟨b, off, none⟩) n c), .val 17 (.int .i64 (k : Int)), .val 18 (.pointer (some ⟨b, off + k * 3, none⟩)), .val 19 (.pointer (some ⟨b, off + k * 3, none⟩)), .val 20 (.agg #[.string (mkB y1), .string (mkB y2)]), .val 21 (.agg #[.string (mkB (fewL y1)), .string (mkB (fewL y2))]), .val 22 (.slice (some ⟨b, off, none⟩) n c), .val 23 (.int .i64 (k : Int)), .val 24 (.pointer (some ⟨b, off + k * 3, none⟩)), .val 25 (.pointer (some ⟨b, off + k * 3 + 2, none⟩)), .val 26 (.int .i64 z), .val 27 (.agg #[.string (mkB (fewL y1)), .string (mkB (fewL y2)), .int .i64 z]), .mem 28 (blkG 56 #[.string (mkB (fewL y1)), .string (mkB (fewL y2)), .int .i64 z] 1), .mem 29 (rowG w.heap.size 56 3 L2.length (dfC L2)), .mem 3 (rowG w.heap.size 56 3 L2.length (dfC L2)), .mem 3 (rowX u3 (w.heap.size) 56 3 acc.length (dfC acc)), .val 3 (u3)] (by kernel_rfl) ?_ (w.heap.size) (wr.heap.size) rfl HB.out rfl (fun k => if Value.ownBlock u3 = some k then 1 else 0) ?_ ?_ ?_
        · intro j hj
          have hj3 : j < 18 := hj
          have hj2 : j = 0 ∨ j = 1 ∨ j = 2 ∨ j = 3 ∨ j = 4 ∨ j = 5 ∨ j = 6 ∨ j = 7 ∨ j = 8 ∨ j = 9 ∨ j = 10 ∨ j = 11 ∨ j = 12 ∨ j = 13 ∨ j = 14 ∨ j = 15 ∨ j = 16 ∨ j = 17 := by omega
          clear hj hj3
          rcases hj2 with rfl | rfl | rfl | rfl | rfl | rfl | rfl | rfl | rfl | rfl | rfl | rfl | rfl | rfl | rfl | rfl | rfl | rfl
          · exact trivial
          · exact trivial
          · exact trivial
          · exact trivial
          · exact trivial
          · exact trivial
          · exact trivial
          · exact trivial
          · exact trivial
          · exact trivial
          · exact trivial
          · exact trivial
          · exact trivial
          · exact blkG_near
          · exact rowG_near
          · exact rowG_near
          · exact rowX_near
          · exact trivial
        · intro j hj0 hj
          have hj1 : 16 ≤ j := hj0
          have hj3 : j < 18 := hj
          have hj2 : j = 16 ∨ j = 17 := by omega
          clear hj0 hj hj1 hj3
          rcases hj2 with rfl | rfl
          · exact ⟨_, _, rfl, fun b e => ⟨(own_lt HOWN.out e).2, if_pos e⟩, HOWN.out, rfl⟩
          · exact rfl
        · intro i hi a wx who hG hF
          have hz : a.tmps.size = 31 := hG.size
          have hi3 : i < 16 := hi
          have hi2 : i = 0 ∨ i = 1 ∨ i = 2 ∨ i = 3 ∨ i = 4 ∨ i = 5 ∨ i = 6 ∨ i = 7 ∨ i = 8 ∨ i = 9 ∨ i = 10 ∨ i = 11 ∨ i = 12 ∨ i = 13 ∨ i = 14 ∨ i = 15 := by omega
          clear hi hi3
          rcases hi2 with rfl | rfl | rfl | rfl | rfl | rfl | rfl | rfl | rfl | rfl | rfl | rfl | rfl | rfl | rfl | rfl
          · exact rol_val rfl rfl rfl (by rw [hz]; decide) (ex_move (Or.inl rfl) (eval_slot (hF 17 (by decide)))) hG.below
          · exact rol_val rfl rfl rfl (by rw [hz]; decide) (ex_move (Or.inl rfl) (eval_slot ((hG.slots 0 (by decide)).trans rfl))) hG.below
          · exact rol_val rfl rfl rfl (by rw [hz]; decide) (ex_move (Or.inl rfl) (eval_slot ((hG.slots 4 (by decide)).trans rfl))) hG.below
          · exact rol_val rfl rfl rfl (by rw [hz]; decide) (ex_index rfl (eval_slot (hF 1 (by decide))) (eval_slot (hF 2 (by decide))) (idx_df HLT.out)) hG.below
          · exact rol_val rfl rfl rfl (by rw [hz]; decide) (ex_field rfl (eval_slot (hF 3 (by decide))) fld_df) hG.below
          · exact rol_val rfl rfl rfl (by rw [hz]; decide) (ex_load rfl (eval_slot (hF 4 (by decide))) (ld_node (cell_keep cw0 hG.below) (cell_keep cw1 hG.below))) hG.below
          · refine rol_calls rfl rfl rfl (by rw [hz]; decide) (ex_call rfl (by simp [eval_slot (hF 5 (by decide))]) e1) (KO.out wx) ?_ hG.below (Nat.le_trans HBS.out hG.new)
            rintro e w1 ⟨rfl, hb1⟩
            exact ⟨_, rfl, hb1, .inl rfl⟩
          · exact rol_val rfl rfl rfl (by rw [hz]; decide) (ex_move (Or.inl rfl) (eval_slot ((hG.slots 0 (by decide)).trans rfl))) hG.below
          · exact rol_val rfl rfl rfl (by rw [hz]; decide) (ex_move (Or.inl rfl) (eval_slot ((hG.slots 4 (by decide)).trans rfl))) hG.below
          · exact rol_val rfl rfl rfl (by rw [hz]; decide) (ex_index rfl (eval_slot (hF 7 (by decide))) (eval_slot (hF 8 (by decide))) (idx_df HLT.out)) hG.below
          · exact rol_val rfl rfl rfl (by rw [hz]; decide) (ex_field rfl (eval_slot (hF 9 (by decide))) fld2_df) hG.below
          · exact rol_val rfl rfl rfl (by rw [hz]; decide) (ex_load rfl (eval_slot (hF 10 (by decide))) (ld_num (cell_keep cw2 hG.below))) hG.below
          · exact rol_val rfl rfl rfl (by rw [hz]; decide) (ex_build rfl (vs := #[(0, .agg #[.string (mkB (fewL y1)), .string (mkB (fewL y2))]), (1, .int .i64 z)]) (by simp only [List.map_toArray, List.map_cons, List.map_nil, eval_slot (hF 6 (by decide)), eval_slot (hF 11 (by decide))]) build_df) hG.below
          · exact rol_newO rfl rfl rfl (by rw [hz]; decide) (x := .cells #[.string (mkB (fewL y1)), .string (mkB (fewL y2)), .int .i64 z] 56) (v := .slice (some ⟨wx.heap.size, 0, none⟩) 1 1) (ex_slice rfl (vs := #[(0, .agg #[.string (mkB (fewL y1)), .string (mkB (fewL y2)), .int .i64 z])]) (by simp only [List.map_toArray, List.map_cons, List.map_nil, eval_slot (hF 12 (by decide))]) (by go_simp)) ⟨_, rfl, rfl, heap_alloc_new _ _⟩ hG.below (Nat.le_trans HBS.out hG.new)
          · obtain ⟨v, ob, hv, hob, b, rfl, rfl, hh⟩ := hF 13 (by decide)
            exact rol_app_df rfl rfl rfl (by rw [hz]; decide) rfl (hF 16 (by decide)) (eval_slot (hF 0 (by decide))) (eval_slot hv) (blkG.dfs hh) (by omega) hG.below (Nat.le_refl _) (Nat.le_trans HBS.out hG.new) (by rw [HL2E.out, List.length_append]; rfl) HL2E.out
          · exact rol_move rfl rfl rfl (by rw [hz]; decide) (Or.inr rfl) (hF 14 (by decide)) hG.below
        · intro a wx who hG hF
          obtain ⟨v3, ob3, fv3, fo3, fp3⟩ := hF 15 (of_decide_eq_true (by kernel_rfl)) (of_decide_eq_true (by kernel_rfl))
          replace fv3 : a.tmps.getD 3 undef = v3 := eval_slot (s := 3) fv3
          have hbx := hG.below
          have hnx := hG.new
          rw [hG.frame]
          simp only [List.foldl_cons, List.foldl_nil, List.setIfInBounds_toArray, List.set_cons_zero, List.set_cons_succ]
          generalize a.tmps.getD 15 undef = u15
          generalize a.tmps.getD 16 undef = u16
          generalize a.tmps.getD 17 undef = u17
          generalize a.tmps.getD 18 undef = u18
          generalize a.tmps.getD 19 undef = u19
          generalize a.tmps.getD 20 undef = u20
          generalize a.tmps.getD 21 undef = u21
          generalize a.tmps.getD 22 undef = u22
          generalize a.tmps.getD 23 undef = u23
          generalize a.tmps.getD 24 undef = u24
          generalize a.tmps.getD 25 undef = u25
          generalize a.tmps.getD 26 undef = u26
          generalize a.tmps.getD 27 undef = u27
          generalize a.tmps.getD 28 undef = u28
          generalize a.tmps.getD 29 undef = u29
          rw [fv3]
          clear hF hG fv3
          obtain ⟨hrow, -⟩ := fp3
          have HRW := Lib.hid hrow; have HBN := Lib.hid hbx
          clear fo3 hrow hbx hnx
          go_wp2
          go_roundw
          case rel => exact ⟨k + 1, L2, by omega, by omega, by go_num, HLN.out, Lib.hid (by rw [HTK.out, HL2E.out, HACC.out]; rfl), HRW.out, HBN⟩
          case measure => simp [intOf]; omega
      · have hout : acc = L := by
          rw [HACC.out, ← HL.out]
          unfold fewDs
          have : k = 20 := by omega
          rw [this]
        subst hout
        go_wp2
        go_ret
        exact ⟨_, rfl, hown, HB.out⟩
    · have hout : acc = L := by
        have e : k = n := by omega
        rw [HACC.out, ← HL.out]
        unfold fewDs
        rw [List.take_of_length_le (i := k) (by rw [HN.out]; omega), List.take_of_length_le (i := 20) (by rw [HN.out]; omega)]
      subst hout
      go_wp2
      go_ret
      exact ⟨_, rfl, hown, HB.out⟩
end Go.Proofs.YtglhjdbnpdoinaaGreat

namespace Go.Proofs.YtglhjdbnpdoinaaGreat
open Go.RowKit
set_option linter.unusedVariables false
set_option maxRecDepth 100000

theorem nds_blk {w : World} {b : Nat} {l : List Nd} (h : w.heap[b]? = some (.cells (ndsC l).toArray 26 (0, 0))) (hl : l.length ≤ 1000) : Nds w (.slice (some ⟨b, 0, none⟩) l.length l.length) l :=
  Nds.owned (base := 0) (e := 26) ⟨ndsC_len l, .inr ⟨b, l.length, _, rfl, Nat.zero_le _, h, Nat.le_refl _, by unfold maxLen; omega, by rw [List.size_toArray, ndsC_len], by rw [List.take_of_length_le (by simp [ndsC_len])]⟩⟩
theorem dfs_blk {w : World} {b : Nat} {l : List De} (h : w.heap[b]? = some (.cells (dfC l).toArray 56 (0, 0))) (hl : l.length ≤ 1000) : Dfs w (.slice (some ⟨b, 0, none⟩) l.length l.length) l :=
  Dfs.owned (base := 0) (e := 56) (rowC_own h rfl (by omega) (Nat.zero_le _))
theorem turn_small {l : List De} (h : ∀ e ∈ l, smallD e) (o : okD l = true) : ∀ e ∈ turnD l, smallD e := fun e he => by
  obtain ⟨x, hx, rfl⟩ := List.mem_map.1 he
  have h1 := inD_iff.1 (okD_in o x hx)
  exact ⟨(h x hx).1, by unfold fitI; simp only; omega⟩
def vOne : List UInt8 := [118, 49, 46, 48, 46, 48]
abbrev nA : Nd := ([97], [118, 49, 46, 48, 46, 48])
abbrev nB : Nd := ([98], [118, 49, 46, 48, 46, 48])
abbrev nC : Nd := ([99], [118, 49, 46, 48, 46, 48])
theorem exD1 : diffE [nA, nA, nB] [nB, nC] = ([(nA, -2), (nC, 1)], 0) := by decide +kernel
theorem mergeD_ex : mergeD [(nA, 1)] [(nA, -1)] = [] := by
  rw [merge_0 (x := (nA, 1)) (y := (nA, -1)) (a := []) (b := []) rfl (by decide), merge_nilL]
theorem exD2 : bothE [(nA, 1)] [(nA, -1)] = ([], 0) := by
  have h1 : (okD [(nA, 1)] && okD [(nA, -1)]) = true := by decide +kernel
  have h2 : okD (mergeD [(nA, 1)] [(nA, -1)]) = true := by rw [mergeD_ex]; rfl
  rw [bothE_yes h1 h2, mergeD_ex]
theorem smA : smallN nA := ⟨by decide, by decide⟩
theorem smB : smallN nB := ⟨by decide, by decide⟩
theorem smC : smallN nC := ⟨by decide, by decide⟩
theorem boxN3 (w : World) (a b c d e f : Value) (t : TypeId) : ∃ W g1 g2 g3, ((w.alloc (.cells #[a, b] t)).alloc (.cells #[c, d] t)).alloc (.cells #[e, f] t) = W ∧ w.heap.size = g1 ∧ w.heap.size + 1 = g2 ∧ w.heap.size + 1 + 1 = g3 ∧ W.cell? ⟨g1, 0, none⟩ = some a ∧ W.cell? ⟨g1, 1, none⟩ = some b ∧ W.cell? ⟨g2, 0, none⟩ = some c ∧ W.cell? ⟨g2, 1, none⟩ = some d ∧ W.cell? ⟨g3, 0, none⟩ = some e ∧ W.cell? ⟨g3, 1, none⟩ = some f ∧ Below w.heap.size w W :=
  ⟨_, _, _, _, rfl, rfl, rfl, rfl, cell_alloc (cell_alloc (cell_new rfl rfl) _) _, cell_alloc (cell_alloc (cell_new rfl rfl) _) _, cell_alloc (cell_new (by simp) rfl) _, cell_alloc (cell_new (by simp) rfl) _, cell_new (by simp) rfl, cell_new (by simp) rfl, (((Below.refl _ _).alloc (Nat.le_refl _) _).alloc (by simp) _).alloc (by simp; omega) _⟩

end Go.Proofs.YtglhjdbnpdoinaaGreat

namespace Go.Proofs.YtglhjdbnpdoinaaGreat
open Go.RowKit
set_option maxRecDepth 100000
attribute [local go_sem ↓] Go.wp_at_zero Go.wp_at_succ

theorem filter_take_succ {l : List Nd} {k : Nat} {f : Nd → Bool} (h : k < l.length) : (l.take (k + 1)).filter f = (l.take k).filter f ++ (if f (l.getD k ([], [])) = true then [l.getD k ([], [])] else []) := by
  rw [List.take_succ_eq_append_getElem h, List.filter_append, nd_getD h]
  congr 1
  cases e : f l[k] <;> simp [e]

set_option maxHeartbeats 6400000 in
theorem refnwith_any (U : Value) (l : List Nd) (p v : List UInt8) (w : World) (hU : Nds w U l) (sl : ∀ n ∈ l, smallN n) (ol : ∀ n ∈ l, okN n = true) (hp : p.length ≤ 1000000000) (hv : v.length ≤ 1000000000) (on : okN (p, v) = true) (hl : l.length ≤ 1000000) :
    Calls Tryz.prog 65 #[U, .agg #[.string (mkB p), .string (mkB v)]] w fun e w' => ∃ a c, e = .returned (.slice a (withN l (p, v)).length c) ∧ Nds w' (.slice a (withN l (p, v)).length c) (withN l (p, v)) ∧ Below w.heap.size w w' := by
  obtain ⟨a, c, rfl, h1, h2, -, -⟩ := hU.ex
  unfold maxLen at h2
  obtain ⟨n, hn⟩ : ∃ n, l.length = n := ⟨_, rfl⟩
  rw [hn] at h1 hU hl ⊢
  obtain ⟨R, hR⟩ : ∃ R, withN l (p, v) = R := ⟨_, rfl⟩
  rw [hR]
  have SU := Lib.hid hU; have HN := Lib.hid hn; have HR := Lib.hid hR; have SL := Lib.hid sl; have OL := Lib.hid ol; have HP := Lib.hid hp; have HV := Lib.hid hv; have ON := Lib.hid on
  clear hU hn hR sl ol hp hv on
  obtain ⟨W, g, hW, hg, d0, d1, hb⟩ := boxB1 w (.string (mkB p)) (.string (mkB v)) 26
  have HW := Lib.hid hW; have HG := Lib.hid hg; have BW := Lib.hid hb; have D0 := Lib.hid d0; have D1 := Lib.hid d1
  clear hW hg hb d0 d1
  go_enter Tryz.func65, Tryz.ntmps65
  go_upto_region 1 with fail
  rw [HW.out, HG.out]
  go_wp2
  go_loopw [5, 6] (fun o i wr => ∃ (k : Nat) (acc : List Nd), k ≤ n ∧ i = .int .i64 k ∧ acc.length ≤ k ∧ Hid (acc = ((l.take k).filter fun x => ltN x (p, v))) ∧ wr.ownsRow W.heap.size 26 2 o acc.length (ndsC acc) ∧ Hid (Below W.heap.size W wr)) (fun _ i _ => n - (intOf i).toNat)
  case atStart => exact ⟨0, [], Nat.zero_le _, rfl, Nat.le_refl _, Lib.hid rfl, World.ownsRow_nil _ _ _ _, Lib.hid (Below.refl _ _)⟩
  case round =>
    obtain ⟨k, acc, hk, rfl, hal, HACC, hown, HB⟩ := hrel
    by_cases hlt : k < n
    · have hkl : k < l.length := by rw [HN.out]; exact hlt
      obtain ⟨b, off, rfl, -, hc0, hc1⟩ := (SU.out.below (below_step BW.out HB.out)).at k hkl
      have d0 := cell_keep D0.out HB.out
      have d1 := cell_keep D1.out HB.out
      have htk := filter_take_succ (f := fun x => ltN x (p, v)) hkl
      obtain ⟨y, hy⟩ : ∃ y, y = l.getD k ([], []) := ⟨_, rfl⟩
      have hsy : smallN y := by rw [hy]; exact SL.out _ (nd_mem hkl)
      have hoy : okN y = true := by rw [hy]; exact OL.out _ (nd_mem hkl)
      rw [← hy] at hc0 hc1 htk
      obtain ⟨y1, y2⟩ := y
      simp only at hc0 hc1
      obtain ⟨o, ho⟩ : ∃ o, ltN (y1, y2) (p, v) = o := ⟨_, rfl⟩
      rw [ho] at htk
      have hless := fun w => refless_any y1 y2 p v w hsy.1 hsy.2 HP.out HV.out hoy ON.out
      have ho' : ltN (y1, y2) (p, v) = o := ho
      rw [ho'] at hless
      have HTK := Lib.hid htk; have HOWN := Lib.hid hown
      have hkn : (k : Int) < (n : Int) := by omega
      clear hy hsy hoy htk ho ho' hown
      cases o
      · go_upto_region 5 with fail
        refine wp_region_held_drew (S := fun w' => w'.cell? ⟨b, off + k * 2, none⟩ = some (.string (mkB y1)) ∧ w'.cell? ⟨b, off + k * 2 + 1, none⟩ = some (.string (mkB y2)) ∧ w'.cell? ⟨g, 0, none⟩ = some (.string (mkB p)) ∧ w'.cell? ⟨g, 1, none⟩ = some (.string (mkB v)) ∧ Below wr.heap.size wr w') (by kernel_rfl) (by exact ⟨cell_drew hc0, cell_drew hc1, cell_drew d0, cell_drew d1, below_q ⟨1, rfl⟩⟩) (fun hS => ?_)
        refine wpAnyH_take (i := 0) (v := ?_) rfl (by kernel_rfl) (by kernel_rfl) (by kernel_rfl) (fun _ _ _ h => h) (Or.inl ⟨by kernel_rfl, ?_⟩) hS ?_
        rotate_left
        · intro w hSw; (try dsimp only at hSw); go_simp; try (with_reducible rfl)
        simp only [Act.put, List.getElem_toArray, List.getElem_cons_zero, List.setIfInBounds_toArray, List.set_cons_zero, List.set_cons_succ]
        refine wpAnyH_take (i := 1) (v := ?_) rfl (by kernel_rfl) (by kernel_rfl) (by kernel_rfl) (fun _ _ _ h => h) (Or.inl ⟨by kernel_rfl, ?_⟩) hS ?_
        rotate_left
        · intro w hSw; (try dsimp only at hSw); go_simp; try (with_reducible rfl)
        simp only [Act.put, List.getElem_toArray, List.getElem_cons_succ, List.getElem_cons_zero, List.setIfInBounds_toArray, List.set_cons_zero, List.set_cons_succ]
        refine wpAnyH_take (i := 2) (v := ?_) rfl (by kernel_rfl) (by kernel_rfl) (by kernel_rfl) (fun _ _ _ h => h) (Or.inl ⟨by kernel_rfl, ?_⟩) hS ?_
        rotate_left
        · intro w hSw; (try dsimp only at hSw); go_simp; try (with_reducible rfl)
        simp only [Act.put, List.getElem_toArray, List.getElem_cons_succ, List.getElem_cons_zero, List.setIfInBounds_toArray, List.set_cons_zero, List.set_cons_succ]
        refine wpAnyH_take (i := 3) (v := ?_) rfl (by kernel_rfl) (by kernel_rfl) (by kernel_rfl) (fun _ _ _ h => h) (Or.inl ⟨by kernel_rfl, ?_⟩) hS ?_
        rotate_left
        · intro w hSw; (try dsimp only at hSw); go_simp; try (with_reducible rfl)
        simp only [Act.put, List.getElem_toArray, List.getElem_cons_succ, List.getElem_cons_zero, List.setIfInBounds_toArray, List.set_cons_zero, List.set_cons_succ]
        refine wpAnyH_take (i := 4) (v := ?_) rfl (by kernel_rfl) (by kernel_rfl) (by kernel_rfl) (fun _ _ _ h => h) (Or.inl ⟨by kernel_rfl, ?_⟩) hS ?_
        rotate_left
        · intro w hSw; (try dsimp only at hSw); go_simp; try (with_reducible rfl)
        simp only [Act.put, List.getElem_toArray, List.getElem_cons_succ, List.getElem_cons_zero, List.setIfInBounds_toArray, List.set_cons_zero, List.set_cons_succ]
        refine wpAnyH_ready (rs := [5]) (by kernel_rfl) (by simp) (AllReadyH.cons rfl (fun K hK => ?_) AllReadyH.nil)
        go_simp
        go_at_call 51; refine (hless _).mono ?_; rintro e w1 ⟨rfl, hb1⟩; clear hless
        refine hK.out _ _ (by exact ⟨cell_keep hS.1 hb1, cell_keep hS.2.1 hb1, cell_keep hS.2.2.1 hb1, cell_keep hS.2.2.2.1 hb1, below_step hS.2.2.2.2 hb1⟩) (fun hS => ?_)
        clear hK K
        try simp only [Act.put, List.getElem_toArray, List.getElem_cons_succ, List.getElem_cons_zero, List.setIfInBounds_toArray, List.set_cons_zero, List.set_cons_succ]
        refine wpAnyH_done (by kernel_rfl) ?_ _
        obtain ⟨hc0, hc1, -, -, hbw⟩ := hS
        have HB1 := Lib.hid (HB.out.trans (hbw.mono HB.out.size)); have HOWN1 := Lib.hid (ownsRow_belowB HOWN.out hbw)
        clear hbw
        have HAC : Hid (acc = ((l.take (k + 1)).filter fun x => ltN x (p, v))) := Lib.hid (by rw [HTK.out, HACC.out]; simp)
        go_wp2
        go_roundw
        case rel => exact ⟨k + 1, acc, by omega, by go_num, by omega, HAC, HOWN1.out, HB1⟩
        case measure => simp [intOf]; omega
      · go_upto_region 5 with fail
        refine wp_region_held_drew (S := fun w' => w'.cell? ⟨b, off + k * 2, none⟩ = some (.string (mkB y1)) ∧ w'.cell? ⟨b, off + k * 2 + 1, none⟩ = some (.string (mkB y2)) ∧ w'.cell? ⟨g, 0, none⟩ = some (.string (mkB p)) ∧ w'.cell? ⟨g, 1, none⟩ = some (.string (mkB v)) ∧ Below wr.heap.size wr w') (by kernel_rfl) (by exact ⟨cell_drew hc0, cell_drew hc1, cell_drew d0, cell_drew d1, below_q ⟨1, rfl⟩⟩) (fun hS => ?_)
        refine wpAnyH_take (i := 0) (v := ?_) rfl (by kernel_rfl) (by kernel_rfl) (by kernel_rfl) (fun _ _ _ h => h) (Or.inl ⟨by kernel_rfl, ?_⟩) hS ?_
        rotate_left
        · intro w hSw; (try dsimp only at hSw); go_simp; try (with_reducible rfl)
        simp only [Act.put, List.getElem_toArray, List.getElem_cons_zero, List.setIfInBounds_toArray, List.set_cons_zero, List.set_cons_succ]
        refine wpAnyH_take (i := 1) (v := ?_) rfl (by kernel_rfl) (by kernel_rfl) (by kernel_rfl) (fun _ _ _ h => h) (Or.inl ⟨by kernel_rfl, ?_⟩) hS ?_
        rotate_left
        · intro w hSw; (try dsimp only at hSw); go_simp; try (with_reducible rfl)
        simp only [Act.put, List.getElem_toArray, List.getElem_cons_succ, List.getElem_cons_zero, List.setIfInBounds_toArray, List.set_cons_zero, List.set_cons_succ]
        refine wpAnyH_take (i := 2) (v := ?_) rfl (by kernel_rfl) (by kernel_rfl) (by kernel_rfl) (fun _ _ _ h => h) (Or.inl ⟨by kernel_rfl, ?_⟩) hS ?_
        rotate_left
        · intro w hSw; (try dsimp only at hSw); go_simp; try (with_reducible rfl)
        simp only [Act.put, List.getElem_toArray, List.getElem_cons_succ, List.getElem_cons_zero, List.setIfInBounds_toArray, List.set_cons_zero, List.set_cons_succ]
        refine wpAnyH_take (i := 3) (v := ?_) rfl (by kernel_rfl) (by kernel_rfl) (by kernel_rfl) (fun _ _ _ h => h) (Or.inl ⟨by kernel_rfl, ?_⟩) hS ?_
        rotate_left
        · intro w hSw; (try dsimp only at hSw); go_simp; try (with_reducible rfl)
        simp only [Act.put, List.getElem_toArray, List.getElem_cons_succ, List.getElem_cons_zero, List.setIfInBounds_toArray, List.set_cons_zero, List.set_cons_succ]
        refine wpAnyH_take (i := 4) (v := ?_) rfl (by kernel_rfl) (by kernel_rfl) (by kernel_rfl) (fun _ _ _ h => h) (Or.inl ⟨by kernel_rfl, ?_⟩) hS ?_
        rotate_left
        · intro w hSw; (try dsimp only at hSw); go_simp; try (with_reducible rfl)
        simp only [Act.put, List.getElem_toArray, List.getElem_cons_succ, List.getElem_cons_zero, List.setIfInBounds_toArray, List.set_cons_zero, List.set_cons_succ]
        refine wpAnyH_ready (rs := [5]) (by kernel_rfl) (by simp) (AllReadyH.cons rfl (fun K hK => ?_) AllReadyH.nil)
        go_simp
        go_at_call 51; refine (hless _).mono ?_; rintro e w1 ⟨rfl, hb1⟩; clear hless
        refine hK.out _ _ (by exact ⟨cell_keep hS.1 hb1, cell_keep hS.2.1 hb1, cell_keep hS.2.2.1 hb1, cell_keep hS.2.2.2.1 hb1, below_step hS.2.2.2.2 hb1⟩) (fun hS => ?_)
        clear hK K
        try simp only [Act.put, List.getElem_toArray, List.getElem_cons_succ, List.getElem_cons_zero, List.setIfInBounds_toArray, List.set_cons_zero, List.set_cons_succ]
        refine wpAnyH_done (by kernel_rfl) ?_ _
        obtain ⟨hc0, hc1, -, -, hbw⟩ := hS
        have HB1 := Lib.hid (HB.out.trans (hbw.mono HB.out.size)); have HOWN1 := Lib.hid (ownsRow_belowB HOWN.out hbw)
        clear hbw
        go_wp2_with (at_builtin; refine wpList_append_new rfl _ _ 27 rfl W.heap.size 26 (.agg #[.string ByteArray.empty, .string ByteArray.empty]) 2 32 Tryz.underlying27 Tryz.info_node rfl (by decide) _ _ _ rfl HOWN1.out [.string (mkB y1), .string (mkB y2)] rfl rfl rfl (by omega) (by unfold maxLen; omega) HB1.out.size ?_)
        intro v' w' hown' hb'
        have e2 : ndsC acc ++ [.string (mkB y1), .string (mkB y2)] = ndsC (acc ++ [(y1, y2)]) := (ndsC_snoc acc (y1, y2)).symm
        rw [e2] at hown'
        have ho2 : w'.ownsRow W.heap.size 26 2 v' (acc ++ [(y1, y2)]).length (ndsC (acc ++ [(y1, y2)])) := by simpa using hown'
        have HO2 := Lib.hid ho2; have HBN := Lib.hid (HB1.out.trans hb'.toBelow)
        have HAC : Hid (acc ++ [(y1, y2)] = ((l.take (k + 1)).filter fun x => ltN x (p, v))) := Lib.hid (by rw [HTK.out, HACC.out]; simp)
        clear ho2 hown' hb'
        go_wp2
        go_roundw
        case rel => exact ⟨k + 1, acc ++ [(y1, y2)], by omega, by go_num, by simp; omega, HAC, HO2.out, HBN⟩
        case measure => simp [intOf]; omega
    · have e : n = k := by omega
      subst e
      have hac := HACC.out
      rw [List.take_of_length_le (i := n) (by rw [HN.out]; exact Nat.le_refl _)] at hac
      have d0 := cell_keep D0.out HB.out
      have d1 := cell_keep D1.out HB.out
      have HOWN := Lib.hid hown; have HAC0 := Lib.hid hac
      clear hown hac HACC
      go_wp2_with (at_builtin; refine wpList_append_new rfl _ _ 27 rfl W.heap.size 26 (.agg #[.string ByteArray.empty, .string ByteArray.empty]) 2 32 Tryz.underlying27 Tryz.info_node rfl (by decide) _ _ _ rfl HOWN.out [.string (mkB p), .string (mkB v)] rfl rfl rfl (by omega) (by unfold maxLen; omega) HB.out.size ?_)
      intro v' w' hown' hb'
      have e2 : ndsC acc ++ [.string (mkB p), .string (mkB v)] = ndsC (acc ++ [(p, v)]) := (ndsC_snoc acc (p, v)).symm
      rw [e2] at hown'
      have ho2 : w'.ownsRow W.heap.size 26 2 v' (acc ++ [(p, v)]).length (ndsC (acc ++ [(p, v)])) := by simpa using hown'
      have HO0 := Lib.hid ho2; have HB0 := Lib.hid (HB.out.trans hb'.toBelow)
      obtain ⟨P, hP⟩ : ∃ P, acc ++ [(p, v)] = P := ⟨_, rfl⟩
      have hPl : P.length ≤ n + 1 := by rw [← hP]; simp; omega
      rw [hP] at HO0
      have HPRE : Hid (P = (l.filter fun x => ltN x (p, v)) ++ [(p, v)]) := Lib.hid (by rw [← hP, HAC0.out])
      clear ho2 hown' hb' hP HAC0 e2 d0 d1 HOWN HB hal
      go_wp2
      go_loopw [5, 7] (fun o i wr => ∃ (k : Nat) (acc : List Nd), k ≤ n ∧ i = .int .i64 k ∧ acc.length ≤ n + 1 + k ∧ Hid (acc = (l.filter fun x => ltN x (p, v)) ++ [(p, v)] ++ ((l.take k).filter fun x => ltN (p, v) x)) ∧ wr.ownsRow W.heap.size 26 2 o acc.length (ndsC acc) ∧ Hid (Below W.heap.size W wr)) (fun _ i _ => n - (intOf i).toNat)
      case atStart => exact ⟨0, _, Nat.zero_le _, rfl, by simp; omega, Lib.hid (by rw [HPRE.out]; simp), HO0.out, HB0⟩
      case round =>
        obtain ⟨k, acc, hk, rfl, hal, HACC, hown, HB⟩ := hrel
        by_cases hlt : k < n
        · have hkl : k < l.length := by rw [HN.out]; exact hlt
          obtain ⟨b, off, rfl, -, hc0, hc1⟩ := (SU.out.below (below_step BW.out HB.out)).at k hkl
          have d0 := cell_keep D0.out HB.out
          have d1 := cell_keep D1.out HB.out
          have htk := filter_take_succ (f := fun x => ltN (p, v) x) hkl
          obtain ⟨y, hy⟩ : ∃ y, y = l.getD k ([], []) := ⟨_, rfl⟩
          have hsy : smallN y := by rw [hy]; exact SL.out _ (nd_mem hkl)
          have hoy : okN y = true := by rw [hy]; exact OL.out _ (nd_mem hkl)
          rw [← hy] at hc0 hc1 htk
          obtain ⟨y1, y2⟩ := y
          simp only at hc0 hc1
          obtain ⟨o, ho⟩ : ∃ o, ltN (p, v) (y1, y2) = o := ⟨_, rfl⟩
          rw [ho] at htk
          have hless := fun w => refless_any p v y1 y2 w HP.out HV.out hsy.1 hsy.2 ON.out hoy
          have ho' : ltN (p, v) (y1, y2) = o := ho
          rw [ho'] at hless
          have HTK := Lib.hid htk; have HOWN := Lib.hid hown
          have hkn : (k : Int) < (n : Int) := by omega
          clear hy hsy hoy htk ho ho' hown
          cases o
          · go_upto_region 11 with fail
            refine wp_region_held_drew (S := fun w' => w'.cell? ⟨b, off + k * 2, none⟩ = some (.string (mkB y1)) ∧ w'.cell? ⟨b, off + k * 2 + 1, none⟩ = some (.string (mkB y2)) ∧ w'.cell? ⟨g, 0, none⟩ = some (.string (mkB p)) ∧ w'.cell? ⟨g, 1, none⟩ = some (.string (mkB v)) ∧ Below wr.heap.size wr w') (by kernel_rfl) (by exact ⟨cell_drew hc0, cell_drew hc1, cell_drew d0, cell_drew d1, below_q ⟨1, rfl⟩⟩) (fun hS => ?_)
            refine wpAnyH_take (i := 0) (v := ?_) rfl (by kernel_rfl) (by kernel_rfl) (by kernel_rfl) (fun _ _ _ h => h) (Or.inl ⟨by kernel_rfl, ?_⟩) hS ?_
            rotate_left
            · intro w hSw; (try dsimp only at hSw); go_simp; try (with_reducible rfl)
            simp only [Act.put, List.getElem_toArray, List.getElem_cons_zero, List.setIfInBounds_toArray, List.set_cons_zero, List.set_cons_succ]
            refine wpAnyH_take (i := 1) (v := ?_) rfl (by kernel_rfl) (by kernel_rfl) (by kernel_rfl) (fun _ _ _ h => h) (Or.inl ⟨by kernel_rfl, ?_⟩) hS ?_
            rotate_left
            · intro w hSw; (try dsimp only at hSw); go_simp; try (with_reducible rfl)
            simp only [Act.put, List.getElem_toArray, List.getElem_cons_succ, List.getElem_cons_zero, List.setIfInBounds_toArray, List.set_cons_zero, List.set_cons_succ]
            refine wpAnyH_take (i := 2) (v := ?_) rfl (by kernel_rfl) (by kernel_rfl) (by kernel_rfl) (fun _ _ _ h => h) (Or.inl ⟨by kernel_rfl, ?_⟩) hS ?_
            rotate_left
            · intro w hSw; (try dsimp only at hSw); go_simp; try (with_reducible rfl)
            simp only [Act.put, List.getElem_toArray, List.getElem_cons_succ, List.getElem_cons_zero, List.setIfInBounds_toArray, List.set_cons_zero, List.set_cons_succ]
            refine wpAnyH_take (i := 3) (v := ?_) rfl (by kernel_rfl) (by kernel_rfl) (by kernel_rfl) (fun _ _ _ h => h) (Or.inl ⟨by kernel_rfl, ?_⟩) hS ?_
            rotate_left
            · intro w hSw; (try dsimp only at hSw); go_simp; try (with_reducible rfl)
            simp only [Act.put, List.getElem_toArray, List.getElem_cons_succ, List.getElem_cons_zero, List.setIfInBounds_toArray, List.set_cons_zero, List.set_cons_succ]
            refine wpAnyH_take (i := 4) (v := ?_) rfl (by kernel_rfl) (by kernel_rfl) (by kernel_rfl) (fun _ _ _ h => h) (Or.inl ⟨by kernel_rfl, ?_⟩) hS ?_
            rotate_left
            · intro w hSw; (try dsimp only at hSw); go_simp; try (with_reducible rfl)
            simp only [Act.put, List.getElem_toArray, List.getElem_cons_succ, List.getElem_cons_zero, List.setIfInBounds_toArray, List.set_cons_zero, List.set_cons_succ]
            refine wpAnyH_ready (rs := [5]) (by kernel_rfl) (by simp) (AllReadyH.cons rfl (fun K hK => ?_) AllReadyH.nil)
            go_simp
            go_at_call 51; refine (hless _).mono ?_; rintro e w1 ⟨rfl, hb1⟩; clear hless
            refine hK.out _ _ (by exact ⟨cell_keep hS.1 hb1, cell_keep hS.2.1 hb1, cell_keep hS.2.2.1 hb1, cell_keep hS.2.2.2.1 hb1, below_step hS.2.2.2.2 hb1⟩) (fun hS => ?_)
            clear hK K
            try simp only [Act.put, List.getElem_toArray, List.getElem_cons_succ, List.getElem_cons_zero, List.setIfInBounds_toArray, List.set_cons_zero, List.set_cons_succ]
            refine wpAnyH_done (by kernel_rfl) ?_ _
            obtain ⟨hc0, hc1, -, -, hbw⟩ := hS
            have HB1 := Lib.hid (HB.out.trans (hbw.mono HB.out.size)); have HOWN1 := Lib.hid (ownsRow_belowB HOWN.out hbw)
            clear hbw
            have HAC : Hid (acc = (l.filter fun x => ltN x (p, v)) ++ [(p, v)] ++ ((l.take (k + 1)).filter fun x => ltN (p, v) x)) := Lib.hid (by rw [HTK.out, HACC.out]; simp)
            go_wp2
            go_roundw
            case rel => exact ⟨k + 1, acc, by omega, by go_num, by omega, HAC, HOWN1.out, HB1⟩
            case measure => simp [intOf]; omega
          · go_upto_region 11 with fail
            refine wp_region_held_drew (S := fun w' => w'.cell? ⟨b, off + k * 2, none⟩ = some (.string (mkB y1)) ∧ w'.cell? ⟨b, off + k * 2 + 1, none⟩ = some (.string (mkB y2)) ∧ w'.cell? ⟨g, 0, none⟩ = some (.string (mkB p)) ∧ w'.cell? ⟨g, 1, none⟩ = some (.string (mkB v)) ∧ Below wr.heap.size wr w') (by kernel_rfl) (by exact ⟨cell_drew hc0, cell_drew hc1, cell_drew d0, cell_drew d1, below_q ⟨1, rfl⟩⟩) (fun hS => ?_)
            refine wpAnyH_take (i := 0) (v := ?_) rfl (by kernel_rfl) (by kernel_rfl) (by kernel_rfl) (fun _ _ _ h => h) (Or.inl ⟨by kernel_rfl, ?_⟩) hS ?_
            rotate_left
            · intro w hSw; (try dsimp only at hSw); go_simp; try (with_reducible rfl)
            simp only [Act.put, List.getElem_toArray, List.getElem_cons_zero, List.setIfInBounds_toArray, List.set_cons_zero, List.set_cons_succ]
            refine wpAnyH_take (i := 1) (v := ?_) rfl (by kernel_rfl) (by kernel_rfl) (by kernel_rfl) (fun _ _ _ h => h) (Or.inl ⟨by kernel_rfl, ?_⟩) hS ?_
            rotate_left
            · intro w hSw; (try dsimp only at hSw); go_simp; try (with_reducible rfl)
            simp only [Act.put, List.getElem_toArray, List.getElem_cons_succ, List.getElem_cons_zero, List.setIfInBounds_toArray, List.set_cons_zero, List.set_cons_succ]
            refine wpAnyH_take (i := 2) (v := ?_) rfl (by kernel_rfl) (by kernel_rfl) (by kernel_rfl) (fun _ _ _ h => h) (Or.inl ⟨by kernel_rfl, ?_⟩) hS ?_
            rotate_left
            · intro w hSw; (try dsimp only at hSw); go_simp; try (with_reducible rfl)
            simp only [Act.put, List.getElem_toArray, List.getElem_cons_succ, List.getElem_cons_zero, List.setIfInBounds_toArray, List.set_cons_zero, List.set_cons_succ]
            refine wpAnyH_take (i := 3) (v := ?_) rfl (by kernel_rfl) (by kernel_rfl) (by kernel_rfl) (fun _ _ _ h => h) (Or.inl ⟨by kernel_rfl, ?_⟩) hS ?_
            rotate_left
            · intro w hSw; (try dsimp only at hSw); go_simp; try (with_reducible rfl)
            simp only [Act.put, List.getElem_toArray, List.getElem_cons_succ, List.getElem_cons_zero, List.setIfInBounds_toArray, List.set_cons_zero, List.set_cons_succ]
            refine wpAnyH_take (i := 4) (v := ?_) rfl (by kernel_rfl) (by kernel_rfl) (by kernel_rfl) (fun _ _ _ h => h) (Or.inl ⟨by kernel_rfl, ?_⟩) hS ?_
            rotate_left
            · intro w hSw; (try dsimp only at hSw); go_simp; try (with_reducible rfl)
            simp only [Act.put, List.getElem_toArray, List.getElem_cons_succ, List.getElem_cons_zero, List.setIfInBounds_toArray, List.set_cons_zero, List.set_cons_succ]
            refine wpAnyH_ready (rs := [5]) (by kernel_rfl) (by simp) (AllReadyH.cons rfl (fun K hK => ?_) AllReadyH.nil)
            go_simp
            go_at_call 51; refine (hless _).mono ?_; rintro e w1 ⟨rfl, hb1⟩; clear hless
            refine hK.out _ _ (by exact ⟨cell_keep hS.1 hb1, cell_keep hS.2.1 hb1, cell_keep hS.2.2.1 hb1, cell_keep hS.2.2.2.1 hb1, below_step hS.2.2.2.2 hb1⟩) (fun hS => ?_)
            clear hK K
            try simp only [Act.put, List.getElem_toArray, List.getElem_cons_succ, List.getElem_cons_zero, List.setIfInBounds_toArray, List.set_cons_zero, List.set_cons_succ]
            refine wpAnyH_done (by kernel_rfl) ?_ _
            obtain ⟨hc0, hc1, -, -, hbw⟩ := hS
            have HB1 := Lib.hid (HB.out.trans (hbw.mono HB.out.size)); have HOWN1 := Lib.hid (ownsRow_belowB HOWN.out hbw)
            clear hbw
            go_wp2_with (at_builtin; refine wpList_append_new rfl _ _ 27 rfl W.heap.size 26 (.agg #[.string ByteArray.empty, .string ByteArray.empty]) 2 32 Tryz.underlying27 Tryz.info_node rfl (by decide) _ _ _ rfl HOWN1.out [.string (mkB y1), .string (mkB y2)] rfl rfl rfl (by omega) (by unfold maxLen; omega) HB1.out.size ?_)
            intro v' w' hown' hb'
            have e2 : ndsC acc ++ [.string (mkB y1), .string (mkB y2)] = ndsC (acc ++ [(y1, y2)]) := (ndsC_snoc acc (y1, y2)).symm
            rw [e2] at hown'
            have ho2 : w'.ownsRow W.heap.size 26 2 v' (acc ++ [(y1, y2)]).length (ndsC (acc ++ [(y1, y2)])) := by simpa using hown'
            have HO2 := Lib.hid ho2; have HBN := Lib.hid (HB1.out.trans hb'.toBelow)
            have HAC : Hid (acc ++ [(y1, y2)] = (l.filter fun x => ltN x (p, v)) ++ [(p, v)] ++ ((l.take (k + 1)).filter fun x => ltN (p, v) x)) := Lib.hid (by rw [HTK.out, HACC.out]; simp)
            clear ho2 hown' hb'
            go_wp2
            go_roundw
            case rel => exact ⟨k + 1, acc ++ [(y1, y2)], by omega, by go_num, by simp; omega, HAC, HO2.out, HBN⟩
            case measure => simp [intOf]; omega
        · have e : n = k := by omega
          subst e
          have hac := HACC.out
          rw [List.take_of_length_le (i := n) (by rw [HN.out]; exact Nat.le_refl _)] at hac
          have hfin : acc = R := by
            rw [hac, ← HR.out]; unfold withN; simp
          subst hfin
          obtain ⟨a2, c2, rfl, hnd⟩ := ndsO hown
          go_wp2
          go_ret
          exact ⟨a2, c2, rfl, hnd, below_step BW.out HB.out⟩

/-! ### The set of a list -/
set_option maxHeartbeats 1600000 in
theorem refnset_any (U : Value) (l : List Nd) (w : World) (hU : Nds w U l) (sl : ∀ n ∈ l, smallN n) (ol : ∀ n ∈ l, okN n = true) (hl : l.length ≤ 1000000) :
    Calls Tryz.prog 52 #[U] w fun e w' => ∃ a c, e = .returned (.slice a (setN l).length c) ∧ Nds w' (.slice a (setN l).length c) (setN l) ∧ Below w.heap.size w w' := by
  obtain ⟨a, c, rfl, h1, h2, -, -⟩ := hU.ex
  unfold maxLen at h2
  obtain ⟨n, hn⟩ : ∃ n, l.length = n := ⟨_, rfl⟩
  rw [hn] at h1 hU hl ⊢
  obtain ⟨R, hR⟩ : ∃ R, setN l = R := ⟨_, rfl⟩
  rw [hR]
  have SU := Lib.hid hU; have HN := Lib.hid hn; have HR := Lib.hid hR; have SL := Lib.hid sl; have OL := Lib.hid ol
  clear hU hn hR sl ol
  go_enter Tryz.func52, Tryz.ntmps52
  go_wp2
  go_loopw [3, 4] (fun o i wr => ∃ (k m : Nat) (ao : Option Addr) (co : Nat), k ≤ n ∧ i = .int .i64 k ∧ o = .slice ao m co ∧ m ≤ k ∧ Hid ((setN (l.take k)).length = m ∧ Nds wr (.slice ao m co) (setN (l.take k))) ∧ Hid (Below w.heap.size w wr)) (fun _ i _ => n - (intOf i).toNat)
  case atStart => exact ⟨0, 0, none, 0, Nat.zero_le _, rfl, rfl, Nat.le_refl _, Lib.hid ⟨rfl, nds_none _⟩, Lib.hid (Below.refl _ _)⟩
  case round =>
    obtain ⟨k, m, ao, co, hk, rfl, rfl, hm, HS, HB⟩ := hrel
    by_cases hlt : k < n
    · have hkl : k < l.length := by rw [HN.out]; exact hlt
      obtain ⟨b, off, rfl, -, hc0, hc1⟩ := (SU.out.below HB.out).at k hkl
      have hts := setN_take_succ hkl
      obtain ⟨y, hy⟩ : ∃ y, y = l.getD k ([], []) := ⟨_, rfl⟩
      have hsy : smallN y := by rw [hy]; exact SL.out _ (nd_mem hkl)
      have hoy : okN y = true := by rw [hy]; exact OL.out _ (nd_mem hkl)
      rw [← hy] at hc0 hc1 hts
      obtain ⟨y1, y2⟩ := y
      simp only at hc0 hc1
      have htl : ∀ n ∈ l.take k, okN n = true := fun n hn => OL.out n (List.mem_of_mem_take hn)
      have hso : ∀ n ∈ setN (l.take k), okN n = true := fun n hn => htl n ((setN_mem htl n).1 hn)
      have hss : ∀ n ∈ setN (l.take k), smallN n := fun n hn => SL.out n (List.mem_of_mem_take ((setN_mem htl n).1 hn))
      have hnx : (setN (l.take (k + 1))).length ≤ k + 1 := Nat.le_trans (setN_len _) (by rw [List.length_take]; omega)
      have hw := fun w h => refnwith_any (.slice ao m co) (setN (l.take k)) y1 y2 w h hss hso hsy.1 hsy.2 hoy (by rw [HS.out.1]; omega)
      rw [← hts] at hw
      obtain ⟨m2, hm2⟩ : ∃ m2, (setN (l.take (k + 1))).length = m2 := ⟨_, rfl⟩
      rw [hm2] at hw hnx
      have HM2 := Lib.hid hm2
      clear hts hy hsy hoy htl hso hss hm2
      go_wp2_with (go_at_call 65; refine (hw _ HS.out.2).mono ?_; rintro e w1 ⟨a1, c1, rfl, hn1, hb1⟩; have S1 := Lib.hid hn1; have B1 := Lib.hid (below_step HB.out hb1); clear hb1 hn1 hw)
      go_roundw
      case rel => exact ⟨k + 1, m2, a1, c1, by omega, by go_num, rfl, hnx, Lib.hid ⟨HM2.out, S1.out⟩, B1⟩
      case measure => simp [intOf]; omega
    · have e : k = n := by omega
      subst e
      have hs := HS.out
      rw [List.take_of_length_le (i := k) (by rw [HN.out]; exact Nat.le_refl _), HR.out] at hs
      obtain ⟨rfl, hs⟩ := hs
      go_wp2
      go_ret
      exact ⟨ao, co, rfl, hs, HB.out⟩
end Go.Proofs.YtglhjdbnpdoinaaGreat

namespace Go.Proofs.YtglhjdbnpdoinaaGreat
open Go.RowKit
set_option linter.unusedVariables false
set_option maxRecDepth 100000

set_option maxHeartbeats 1600000 in
theorem refmany_any (V : Value) (ns : List Nd) (p v : List UInt8) (w : World) (h : Nds w V ns) (hl : ns.length ≤ 1000000) :
    Calls Tryz.prog 66 #[V, .agg #[.string (mkB p), .string (mkB v)]] w fun e w' => e = .returned (.int .i64 (cntN ns (p, v) : Int)) ∧ Below w.heap.size w w' := by
  obtain ⟨a, c, rfl, h1, h2, -, -⟩ := h.ex
  unfold maxLen at h2
  obtain ⟨n, hn⟩ : ∃ n, ns.length = n := ⟨_, rfl⟩
  rw [hn] at h1 h hl ⊢
  obtain ⟨R, hR⟩ : ∃ R, cntN ns (p, v) = R := ⟨_, rfl⟩
  rw [hR]
  have HN := Lib.hid hn; have ST := Lib.hid h; have HR := Lib.hid hR
  clear h hn hR
  obtain ⟨W, g, hW, hg, d0, d1, hb⟩ := boxB1 w (.string (mkB p)) (.string (mkB v)) 26
  have HW := Lib.hid hW; have HG := Lib.hid hg; have B := Lib.hid hb; have D0 := Lib.hid d0; have D1 := Lib.hid d1
  clear hW hg hb d0 d1
  go_enter Tryz.func66, Tryz.ntmps66
  go_upto_region 1 with fail
  rw [HW.out, HG.out]
  go_wp2
  go_loopw [5, 6] (fun s i wr => ∃ k q m : Nat, k ≤ n ∧ m ≤ k ∧ i = .int .i64 k ∧ s = .int .i64 m ∧ wr = W.drewN q ∧ Hid (cntN (ns.take k) (p, v) = m)) (fun _ i _ => n - (intOf i).toNat)
  case atStart => exact ⟨0, 0, 0, Nat.zero_le _, Nat.le_refl _, rfl, rfl, rfl, Lib.hid rfl⟩
  case round =>
    obtain ⟨k, q, m, hk, hm, rfl, rfl, rfl, H⟩ := hrel
    by_cases hlt : k < n
    · have hkl : k < ns.length := by rw [HN.out]; exact hlt
      obtain ⟨Wq, hWq⟩ : ∃ Wq, W.drewN q = Wq := ⟨_, rfl⟩
      have hbq : Below W.heap.size W Wq := by rw [← hWq]; exact below_q ⟨q, rfl⟩
      obtain ⟨b, off, rfl, -, hc0, hc1⟩ := ((ST.out.below B.out).below hbq).at k hkl
      have d0 := cell_keep D0.out hbq
      have d1 := cell_keep D1.out hbq
      have hd := cntN_take hkl (p, v)
      obtain ⟨y, hy⟩ : ∃ y, y = ns.getD k ([], []) := ⟨_, rfl⟩
      rw [← hy] at hc0 hc1 hd
      obtain ⟨y1, y2⟩ := y
      simp only at hc0 hc1
      rw [hWq]
      have HWq := Lib.hid hWq; have HD := Lib.hid hd; clear hy hd hbq hWq
      have hgd := guard_nd
      have heq := eq_nd y1 y2 p v
      obtain ⟨o, ho⟩ : ∃ o, decide ((y1, y2) = (p, v)) = o := ⟨_, rfl⟩
      rw [ho] at heq
      have HO := Lib.hid ho; clear ho
      have hkb : (k : Int) < (n : Int) := by omega
      cases o
      · go_wp2_with fail
        go_quiet (fail)
        go_wp2
        have H5 : Hid (cntN (ns.take (k + 1)) (p, v) = m) := Lib.hid (by rw [HD.out, H.out, if_neg (of_decide_eq_false HO.out)]; rfl)
        go_roundw
        case rel => exact ⟨k + 1, q + nq, m, by omega, by omega, by go_num, rfl, by rw [← HWq.out, World.drewN_drewN], H5⟩
        case measure => simp [intOf]; omega
      · go_wp2_with fail
        go_quiet (fail)
        go_wp2
        have H5 : Hid (cntN (ns.take (k + 1)) (p, v) = m + 1) := Lib.hid (by rw [HD.out, H.out, if_pos (of_decide_eq_true HO.out)])
        go_roundw
        case rel => exact ⟨k + 1, q + nq, m + 1, by omega, by omega, by go_num, by go_num, by rw [← HWq.out, World.drewN_drewN], H5⟩
        case measure => simp [intOf]; omega
    · have e : m = R := by rw [← HR.out, ← H.out, List.take_of_length_le (by rw [HN.out]; omega)]
      have HE := Lib.hid e
      clear e
      go_wp2
      go_ret
      exact ⟨by rw [← HE.out]; rfl, below_step B.out (below_q ⟨q, rfl⟩)⟩

theorem byD_bound {l : List De} (h : ∀ e ∈ l, inD e.2 = true) (n : Nd) : -(1099511627776 * (l.length : Int)) ≤ byD l n ∧ byD l n ≤ 1099511627776 * (l.length : Int) := by
  induction l with
  | nil => simp [byD]
  | cons e l ih =>
    have h1 := inD_iff.1 (h e List.mem_cons_self)
    have h2 := ih fun x hx => h x (List.mem_cons_of_mem _ hx)
    rw [byD_cons]
    simp only [List.length_cons]
    have h3 : (1099511627776 : Int) * ((l.length + 1 : Nat) : Int) = 1099511627776 * l.length + 1099511627776 := by rw [Int.natCast_add, Int.mul_add]; simp
    rw [h3]
    split <;> omega
theorem take_in {l : List De} (h : ∀ e ∈ l, inD e.2 = true) (k : Nat) : ∀ e ∈ l.take k, inD e.2 = true := fun e he => h e (List.mem_of_mem_take he)
set_option maxHeartbeats 1600000 in
theorem refby_any (V : Value) (l : List De) (p v : List UInt8) (w : World) (h : Dfs w V l) (hl : l.length ≤ 1000) (hi : ∀ e ∈ l, inD e.2 = true) :
    Calls Tryz.prog 53 #[V, .agg #[.string (mkB p), .string (mkB v)]] w fun e w' => e = .returned (.int .i64 (byD l (p, v))) ∧ Below w.heap.size w w' := by
  obtain ⟨a, c, rfl, h1, h2, -, -⟩ := h.ex
  unfold maxLen at h2
  obtain ⟨n, hn⟩ : ∃ n, l.length = n := ⟨_, rfl⟩
  rw [hn] at h1 h hl ⊢
  obtain ⟨R, hR⟩ : ∃ R, byD l (p, v) = R := ⟨_, rfl⟩
  rw [hR]
  have HN := Lib.hid hn; have ST := Lib.hid h; have HR := Lib.hid hR; have HI := Lib.hid hi
  clear h hn hR hi
  obtain ⟨W, g, hW, hg, d0, d1, hb⟩ := boxB1 w (.string (mkB p)) (.string (mkB v)) 26
  have HW := Lib.hid hW; have HG := Lib.hid hg; have B := Lib.hid hb; have D0 := Lib.hid d0; have D1 := Lib.hid d1
  clear hW hg hb d0 d1
  go_enter Tryz.func53, Tryz.ntmps53
  go_upto_region 1 with fail
  rw [HW.out, HG.out]
  go_wp2
  go_loopw [5, 6] (fun s i wr => ∃ (k q : Nat) (z : Int), k ≤ n ∧ i = .int .i64 k ∧ s = .int .i64 z ∧ wr = W.drewN q ∧ Hid (byD (l.take k) (p, v) = z)) (fun _ i _ => n - (intOf i).toNat)
  case atStart => exact ⟨0, 0, 0, Nat.zero_le _, rfl, rfl, rfl, Lib.hid rfl⟩
  case round =>
    obtain ⟨k, q, z, hk, rfl, rfl, rfl, H⟩ := hrel
    by_cases hlt : k < n
    · have hkl : k < l.length := by rw [HN.out]; exact hlt
      obtain ⟨Wq, hWq⟩ : ∃ Wq, W.drewN q = Wq := ⟨_, rfl⟩
      have hbq : Below W.heap.size W Wq := by rw [← hWq]; exact below_q ⟨q, rfl⟩
      obtain ⟨b, off, rfl, -, hc0, hc1, hc2⟩ := ((ST.out.below B.out).below hbq).at k hkl
      have d0 := cell_keep D0.out hbq
      have d1 := cell_keep D1.out hbq
      have hd := byD_take hkl (p, v)
      have hbd := byD_bound (take_in HI.out k) (p, v)
      have hin := inD_iff.1 (HI.out _ (df_mem hkl))
      rw [H.out, List.length_take] at hbd
      obtain ⟨y, hy⟩ : ∃ y, y = l.getD k zD := ⟨_, rfl⟩
      rw [← hy] at hc0 hc1 hc2 hd hin
      obtain ⟨⟨y1, y2⟩, u⟩ := y
      simp only at hc0 hc1 hc2 hd hin
      rw [hWq]
      have hwr : IntKind.i64.wrap (z + u) = z + u := IntWalk.i64_in _ (by omega)
      have HWq := Lib.hid hWq; have HD := Lib.hid hd; clear hy hd hbq hWq hbd hin
      have hgd := guard_nd
      have heq := eq_nd y1 y2 p v
      obtain ⟨o, ho⟩ : ∃ o, decide ((y1, y2) = (p, v)) = o := ⟨_, rfl⟩
      rw [ho] at heq
      have HO := Lib.hid ho; clear ho
      have hkb : (k : Int) < (n : Int) := by omega
      cases o
      · go_wp2_with fail
        go_quiet (fail)
        go_wp2
        have H5 : Hid (byD (l.take (k + 1)) (p, v) = z) := Lib.hid (by rw [HD.out, H.out, if_neg (of_decide_eq_false HO.out)]; omega)
        go_roundw
        case rel => exact ⟨k + 1, q + nq, z, by omega, by go_num, rfl, by rw [← HWq.out, World.drewN_drewN], H5⟩
        case measure => simp [intOf]; omega
      · go_wp2_with fail
        go_quiet (fail)
        go_wp2
        have H5 : Hid (byD (l.take (k + 1)) (p, v) = z + u) := Lib.hid (by rw [HD.out, H.out, if_pos (of_decide_eq_true HO.out)])
        go_roundw
        case rel => exact ⟨k + 1, q + nq, z + u, by omega, by go_num, rfl, by rw [← HWq.out, World.drewN_drewN], H5⟩
        case measure => simp [intOf]; omega
    · have e : z = R := by rw [← HR.out, ← H.out, List.take_of_length_le (by rw [HN.out]; omega)]
      have HE := Lib.hid e
      clear e
      go_wp2
      go_ret
      exact ⟨by rw [← HE.out]; rfl, below_step B.out (below_q ⟨q, rfl⟩)⟩
end Go.Proofs.YtglhjdbnpdoinaaGreat

namespace Go.Proofs.YtglhjdbnpdoinaaGreat
open Go.RowKit
set_option linter.unusedVariables false
set_option maxRecDepth 100000

theorem bin_sub {w : World} {a b z : Int} (h : IntKind.i64.wrap (a - b) = z) : Sem.run Tryz.prog (binOp .sub 3 (.int .i64 a) (.int .i64 b)) w = .ok (.int .i64 z) w := by
  go_simp
theorem bin_add {w : World} {a b z : Int} (h : IntKind.i64.wrap (a + b) = z) : Sem.run Tryz.prog (binOp .add 3 (.int .i64 a) (.int .i64 b)) w = .ok (.int .i64 z) w := by
  go_simp
theorem nds_row0 (w : World) : (w.alloc (.cells #[] 26)).ownsRow w.heap.size 26 2 (.slice (some ⟨w.heap.size, 0, none⟩) 0 0) 0 [] :=
  ⟨rfl, .inr ⟨w.heap.size, 0, #[], rfl, Nat.le_refl _, heap_alloc_new _ _, Nat.le_refl _, Nat.zero_le _, rfl, rfl⟩⟩
theorem small_app {l m : List Nd} (h : ∀ n ∈ l, smallN n) (k : ∀ n ∈ m, smallN n) : ∀ n ∈ l ++ m, smallN n := fun n hn => (List.mem_append.1 hn).elim (h n) (k n)
theorem small_set {l : List Nd} (o : ∀ n ∈ l, okN n = true) (h : ∀ n ∈ l, smallN n) : ∀ n ∈ setN l, smallN n := fun n hn => h n ((setN_mem o n).1 hn)

set_option maxHeartbeats 3200000 in
theorem refdiff_any (U V : Value) (old now : List Nd) (w : World) (hU : Nds w U old) (hV : Nds w V now) (so : ∀ n ∈ old, smallN n) (sn : ∀ n ∈ now, smallN n) (oo : ∀ n ∈ old ++ now, okN n = true) (lo : old.length ≤ 100000) (ln : now.length ≤ 100000) :
    Calls Tryz.prog 54 #[U, V] w fun e w' => ∃ v, e = .returned v ∧ w'.ownsRow w.heap.size 56 3 v (difL old now).length (dfC (difL old now)) ∧ Below w.heap.size w w' := by
  obtain ⟨Aa, ca, rfl, h1, h2, -, -⟩ := hU.ex
  obtain ⟨Ab, cb, rfl, h1', h2', -, -⟩ := hV.ex
  unfold maxLen at h2 h2'
  obtain ⟨p, hp⟩ : ∃ n, old.length = n := ⟨_, rfl⟩
  obtain ⟨m, hm⟩ : ∃ n, now.length = n := ⟨_, rfl⟩
  have hap : (old ++ now).length = p + m := by rw [List.length_append, hp, hm]
  have ks := fun V w h => refnset_any V (old ++ now) w h (small_app so sn) oo (by rw [hap]; omega)
  have hso := small_set oo (small_app so sn)
  have hsl := setN_len (old ++ now)
  rw [hap] at hsl
  obtain ⟨S, hS⟩ : ∃ S, setN (old ++ now) = S := ⟨_, rfl⟩
  obtain ⟨F, hF⟩ : ∃ F, difF old now = F := ⟨_, rfl⟩
  obtain ⟨R, hR⟩ : ∃ R, difL old now = R := ⟨_, rfl⟩
  rw [hR]
  have hR2 : mkD S F = R := by rw [← hR, ← hS, ← hF]; rfl
  rw [hS] at ks hso hsl
  obtain ⟨n, hn⟩ : ∃ n, S.length = n := ⟨_, rfl⟩
  rw [hn] at ks hsl
  rw [hp] at hU h1 lo ⊢
  rw [hm] at hV h1' ln ⊢
  have SU := Lib.hid hU; have SV := Lib.hid hV; have HP := Lib.hid hp; have HM := Lib.hid hm; have KS := Lib.hid ks; have HSO := Lib.hid hso; have HNS := Lib.hid hn; have HR := Lib.hid hR2; have HFF := Lib.hid hF; have HAP := Lib.hid hap
  have e1 : ∀ args w, (callFunc 66 args).run Tryz.prog w = .ok (.enter 66 args) w := enters_of Tryz.func66 (by kernel_rfl) rfl
  obtain ⟨X, hX⟩ : ∃ X, w.alloc (.cells #[] 26) = X := ⟨_, rfl⟩
  have ho0 := nds_row0 w
  have hbX : Below w.heap.size w (w.alloc (.cells #[] 26)) := (Below.refl _ _).alloc (Nat.le_refl _) _
  have HO0 := Lib.hid ho0; have BX := Lib.hid hbX
  clear hU hV hp hm ks hso hn hR hR2 hF hap hS so sn oo ho0 hbX hX
  go_enter Tryz.func54, Tryz.ntmps54
  go_wp2_with (first
    | (at_builtin; refine wpList_append_src rfl _ _ 27 rfl w.heap.size 26 (.agg #[.string ByteArray.empty, .string ByteArray.empty]) 2 32 Tryz.underlying27 Tryz.info_node rfl (by decide) _ 0 [] rfl HO0.out Aa p ca (ndsC old) rfl (by rw [ndsC_len, HP.out]) (SU.out.below BX.out).nil (SU.out.below BX.out).src (ndsC_one _) (by omega) (by unfold maxLen; omega) BX.out.size ?_; intro v1 w1 ho1 hb1; rw [Nat.zero_add, List.nil_append] at ho1; have HO1 := Lib.hid ho1; have B1 := Lib.hid (BX.out.trans hb1.toBelow); clear ho1 hb1 HO0)
    | (at_builtin; refine wpList_append_src rfl _ _ 27 rfl w.heap.size 26 (.agg #[.string ByteArray.empty, .string ByteArray.empty]) 2 32 Tryz.underlying27 Tryz.info_node rfl (by decide) _ p _ rfl HO1.out Ab m cb (ndsC now) rfl (by rw [ndsC_len, HM.out]) (SV.out.below B1.out).nil (SV.out.below B1.out).src (ndsC_one _) (by omega) (by unfold maxLen; omega) B1.out.size ?_; intro v2 w2 ho2 hb2; have hq2 : w2.ownsRow w.heap.size 26 2 v2 (old ++ now).length (ndsC (old ++ now)) := (by rw [HAP.out, ndsC_app]; exact ho2); obtain ⟨a2, c2, rfl, hnd⟩ := ndsO hq2; rw [HAP.out] at hnd ⊢; have SA := Lib.hid hnd; have B2 := Lib.hid (B1.out.trans hb2.toBelow); clear ho2 hb2 hq2 hnd)
    | (go_at_call 52; refine (KS.out _ _ SA.out).mono ?_; rintro e w3 ⟨a3, c3, rfl, hnd, hb3⟩; have SS0 := Lib.hid hnd; have B3 := Lib.hid (below_step B2.out hb3); clear hnd hb3))
  have SS := SS0
  go_loopw [6, 7] (fun v i wr => ∃ (k : Nat) (acc : List De), k ≤ n ∧ i = .int .i64 k ∧ acc.length ≤ k ∧ Hid (acc = mkD (S.take k) F) ∧ wr.ownsRow w3.heap.size 56 3 v acc.length (dfC acc) ∧ Hid (Below w3.heap.size w3 wr)) (fun _ i _ => n - (intOf i).toNat)
  case atStart => exact ⟨0, [], Nat.zero_le _, rfl, Nat.le_refl _, Lib.hid rfl, dfs_row0 _ _, Lib.hid (Below.refl _ _)⟩
  case round =>
    obtain ⟨k, acc, hk, rfl, hal, HACC, hown, HB⟩ := hrel
    by_cases hlt : k < n
    · have hkl : k < S.length := by rw [HNS.out]; exact hlt
      obtain ⟨bb, off, rfl, -, cw0, cw1⟩ := (SS.out.below HB.out).at k hkl
      have htk := mkD_take hkl F
      have hsm := HSO.out _ (nd_mem hkl)
      obtain ⟨y, hy⟩ : ∃ y, y = S.getD k ([], []) := ⟨_, rfl⟩
      rw [← hy] at cw0 cw1 htk hsm
      obtain ⟨y1, y2⟩ := y
      simp only at cw0 cw1
      obtain ⟨z1, hz1⟩ : ∃ z, cntN now (y1, y2) = z := ⟨_, rfl⟩
      obtain ⟨z2, hz2⟩ : ∃ z, cntN old (y1, y2) = z := ⟨_, rfl⟩
      have k1 := fun wx (hb : Below wr.heap.size wr wx) => refmany_any (.slice Ab m cb) now y1 y2 wx (SV.out.below (below_step (below_step B3.out HB.out) hb)) (by rw [HM.out]; omega)
      have k2 := fun wx (hb : Below wr.heap.size wr wx) => refmany_any (.slice Aa p ca) old y1 y2 wx (SU.out.below (below_step (below_step B3.out HB.out) hb)) (by rw [HP.out]; omega)
      have l1 := cntN_le now (y1, y2)
      have l2 := cntN_le old (y1, y2)
      rw [hz1] at k1 l1
      rw [hz2] at k2 l2
      rw [HM.out] at l1
      rw [HP.out] at l2
      have KM1 := Lib.hid k1; have KM2 := Lib.hid k2
      have hfz : F (y1, y2) = (z1 : Int) - z2 := by rw [← HFF.out, ← hz1, ← hz2]; rfl
      obtain ⟨z, hz⟩ : ∃ z, F (y1, y2) = z := ⟨_, rfl⟩
      rw [hz] at htk
      have hwz : IntKind.i64.wrap ((z1 : Int) - (z2 : Int)) = z := by rw [← hz, hfz]; exact IntWalk.i64_in _ (by omega)
      have HZ := Lib.hid hwz
      clear hwz hfz k1 k2 l1 l2 hz1 hz2
      have HTK := Lib.hid htk; have HOWN := Lib.hid hown; have HLT := Lib.hid hlt; have HSM := Lib.hid hsm
      clear hy htk hz hown hsm
      have hkb : (k : Int) < (n : Int) := by omega
      go_upto_region 6 with fail
      refine rol_run (by kernel_rfl) [[], [], [], [1, 2], [1, 2, 3], [0, 1, 2, 3, 4], [], [], [], [7, 8], [7, 8, 9], [0, 1, 2, 3, 4, 5, 6, 7, 8, 9, 10], [0, 1, 2, 3, 4, 5, 6, 7, 8, 9, 10, 11], [0, 1, 2, 3, 4, 5, 6, 7, 8, 9, 10, 11, 12]] (by kernel_rfl) [21, 22, 23, 24, 25, 26, 27, 28, 29, 30, 31, 32, 33, 8] [[], [], [], [1, 2], [3], [0, 4], [], [], [], [7, 8], [9], [6, 10], [5, 11], [12]] [0, 0, 0, 0, 0, 0, 0, 0, 0, 0, 0, 0, 0, 0] [0, 0, 0, 0, 0, 0, 0, 0, 0, 0, 0, 0, 0, 0] [1000, 1000, 1000, 1000, 1000, 1000, 1000, 1000, 1000, 1000, 1000, 1000, 1000, 1000] [.val 21 (.slice Ab m cb), .val 22 (.slice (some ⟨bb, off, none⟩) n c3), .val 23 (.int .i64 (k : Int)), .val 24 (.pointer (some ⟨bb, off + k * 2, none⟩)), .val 25 (.agg #[.string (mkB y1), .string (mkB y2)]), .val 26 (.int .i64 (z1 : Int)), .val 27 (.slice Aa p ca), .val 28 (.slice (some ⟨bb, off, none⟩) n c3), .val 29 (.int .i64 (k : Int)), .val 30 (.pointer (some ⟨bb, off + k * 2, none⟩)), .val 31 (.agg #[.string (mkB y1), .string (mkB y2)]), .val 32 (.int .i64 (z2 : Int)), .val 33 (.int .i64 z), .val 8 (.int .i64 z)] (by kernel_rfl) ?_ (wr.heap.size) (wr.heap.size) rfl (Below.refl _ _) rfl (fun _ => 0) ?_ ?_ ?_
      · intro j hj
        have hj3 : j < 14 := hj
        have hj2 : j = 0 ∨ j = 1 ∨ j = 2 ∨ j = 3 ∨ j = 4 ∨ j = 5 ∨ j = 6 ∨ j = 7 ∨ j = 8 ∨ j = 9 ∨ j = 10 ∨ j = 11 ∨ j = 12 ∨ j = 13 := by omega
        clear hj hj3
        rcases hj2 with rfl | rfl | rfl | rfl | rfl | rfl | rfl | rfl | rfl | rfl | rfl | rfl | rfl | rfl
        · exact trivial
        · exact trivial
        · exact trivial
        · exact trivial
        · exact trivial
        · exact trivial
        · exact trivial
        · exact trivial
        · exact trivial
        · exact trivial
        · exact trivial
        · exact trivial
        · exact trivial
        · exact trivial
      · intro j hj0 hj
        exact absurd hj (Nat.not_lt.2 hj0)
      · intro i hi a wx who hG hF
        have hz : a.tmps.size = 46 := hG.size
        have hi3 : i < 14 := hi
        have hi2 : i = 0 ∨ i = 1 ∨ i = 2 ∨ i = 3 ∨ i = 4 ∨ i = 5 ∨ i = 6 ∨ i = 7 ∨ i = 8 ∨ i = 9 ∨ i = 10 ∨ i = 11 ∨ i = 12 ∨ i = 13 := by omega
        clear hi hi3
        rcases hi2 with rfl | rfl | rfl | rfl | rfl | rfl | rfl | rfl | rfl | rfl | rfl | rfl | rfl | rfl
        · exact rol_val rfl rfl rfl (by rw [hz]; decide) (ex_move (Or.inl rfl) (eval_slot ((hG.slots 1 (by decide)).trans rfl))) hG.below
        · exact rol_val rfl rfl rfl (by rw [hz]; decide) (ex_move (Or.inl rfl) (eval_slot ((hG.slots 5 (by decide)).trans rfl))) hG.below
        · exact rol_val rfl rfl rfl (by rw [hz]; decide) (ex_move (Or.inl rfl) (eval_slot ((hG.slots 7 (by decide)).trans rfl))) hG.below
        · exact rol_val rfl rfl rfl (by rw [hz]; decide) (ex_index rfl (eval_slot (hF 1 (by decide))) (eval_slot (hF 2 (by decide))) (idx_nds HLT.out)) hG.below
        · exact rol_val rfl rfl rfl (by rw [hz]; decide) (ex_load rfl (eval_slot (hF 3 (by decide))) (ld_node (cell_keep cw0 hG.below) (cell_keep cw1 hG.below))) hG.below
        · refine rol_call rfl rfl rfl (by rw [hz]; decide) (ex_call rfl (by simp [eval_slot (hF 0 (by decide)), eval_slot (hF 4 (by decide))]) e1) (KM1.out wx hG.below) ?_ hG.below hG.new
          rintro e w1 ⟨rfl, hb1⟩
          exact ⟨_, rfl, hb1, .inl rfl⟩
        · exact rol_val rfl rfl rfl (by rw [hz]; decide) (ex_move (Or.inl rfl) (eval_slot ((hG.slots 0 (by decide)).trans rfl))) hG.below
        · exact rol_val rfl rfl rfl (by rw [hz]; decide) (ex_move (Or.inl rfl) (eval_slot ((hG.slots 5 (by decide)).trans rfl))) hG.below
        · exact rol_val rfl rfl rfl (by rw [hz]; decide) (ex_move (Or.inl rfl) (eval_slot ((hG.slots 7 (by decide)).trans rfl))) hG.below
        · exact rol_val rfl rfl rfl (by rw [hz]; decide) (ex_index rfl (eval_slot (hF 7 (by decide))) (eval_slot (hF 8 (by decide))) (idx_nds HLT.out)) hG.below
        · exact rol_val rfl rfl rfl (by rw [hz]; decide) (ex_load rfl (eval_slot (hF 9 (by decide))) (ld_node (cell_keep cw0 hG.below) (cell_keep cw1 hG.below))) hG.below
        · refine rol_call rfl rfl rfl (by rw [hz]; decide) (ex_call rfl (by simp [eval_slot (hF 6 (by decide)), eval_slot (hF 10 (by decide))]) e1) (KM2.out wx hG.below) ?_ hG.below hG.new
          rintro e w1 ⟨rfl, hb1⟩
          exact ⟨_, rfl, hb1, .inl rfl⟩
        · exact rol_val rfl rfl rfl (by rw [hz]; decide) (ex_bin rfl (eval_slot (hF 5 (by decide))) (eval_slot (hF 11 (by decide))) (by go_simp) (bin_sub HZ.out)) hG.below
        · exact rol_val rfl rfl rfl (by rw [hz]; decide) (ex_move (Or.inr rfl) (eval_slot (hF 12 (by decide)))) hG.below
      · intro a wx who hG hF
        have fv8 : a.tmps.getD 8 undef = .int .i64 z := eval_slot (s := 8) (hF 13 (of_decide_eq_true (by kernel_rfl)) (of_decide_eq_true (by kernel_rfl)))
        have hbx := hG.below
        have hnx := hG.new
        rw [hG.frame]
        simp only [List.foldl_cons, List.foldl_nil, List.setIfInBounds_toArray, List.set_cons_zero, List.set_cons_succ]
        generalize a.tmps.getD 21 undef = u21
        generalize a.tmps.getD 22 undef = u22
        generalize a.tmps.getD 23 undef = u23
        generalize a.tmps.getD 24 undef = u24
        generalize a.tmps.getD 25 undef = u25
        generalize a.tmps.getD 26 undef = u26
        generalize a.tmps.getD 27 undef = u27
        generalize a.tmps.getD 28 undef = u28
        generalize a.tmps.getD 29 undef = u29
        generalize a.tmps.getD 30 undef = u30
        generalize a.tmps.getD 31 undef = u31
        generalize a.tmps.getD 32 undef = u32
        generalize a.tmps.getD 33 undef = u33
        rw [fv8]
        clear hF hG fv8
        replace cw0 := cell_keep cw0 hbx; replace cw1 := cell_keep cw1 hbx
        replace HOWN := Lib.hid (ownsRow_belowB HOWN.out hbx); replace HB := Lib.hid (below_step HB.out hbx)
        clear hbx hnx
        by_cases h0 : z = 0
        · have hz1 : (z != 0) = false := by simp [h0]
          have HAC : Hid (acc = mkD (S.take (k + 1)) F) := Lib.hid (by rw [HTK.out, HACC.out, if_pos h0, List.append_nil])
          clear h0
          go_wp2
          go_roundw
          case rel => exact ⟨k + 1, acc, by omega, by go_num, by omega, HAC, HOWN.out, HB⟩
          case measure => simp [intOf]; omega
        · have hz1 : (z != 0) = true := by simp [h0]
          have HAC : Hid (acc ++ [((y1, y2), z)] = mkD (S.take (k + 1)) F) := Lib.hid (by rw [HTK.out, HACC.out, if_neg h0])
          clear h0
          go_wp2_with (at_builtin; refine wpList_append_new rfl _ _ 22 rfl w3.heap.size 56 zDV 3 40 Tryz.underlying22 Tryz.info_df rfl (by decide) _ _ _ rfl HOWN.out [.string (mkB y1), .string (mkB y2), .int .i64 z] rfl rfl rfl (by omega) (by unfold maxLen; omega) HB.out.size ?_)
          intro v' w' hown' hb'
          have e2 : dfC acc ++ [.string (mkB y1), .string (mkB y2), .int .i64 z] = dfC (acc ++ [((y1, y2), z)]) := (dfC_snoc acc ((y1, y2), z)).symm
          rw [e2] at hown'
          have ho2 : w'.ownsRow w3.heap.size 56 3 v' (acc ++ [((y1, y2), z)]).length (dfC (acc ++ [((y1, y2), z)])) := by rw [List.length_append]; exact hown'
          have HO2 := Lib.hid ho2; have HBN := Lib.hid (HB.out.trans hb'.toBelow)
          clear ho2 hown' hb'
          go_wp2
          go_roundw
          case rel => exact ⟨k + 1, acc ++ [((y1, y2), z)], by omega, by go_num, by simp; omega, HAC, HO2.out, HBN⟩
          case measure => simp [intOf]; omega
    · have e : k = n := by omega
      subst e
      have hac := HACC.out
      rw [List.take_of_length_le (by rw [HNS.out]; exact Nat.le_refl _), HR.out] at hac
      subst hac
      go_wp2
      go_ret
      exact ⟨_, rfl, row_base hown B3.out.size, below_step B3.out HB.out⟩

set_option maxHeartbeats 3200000 in
theorem refboth_any (U V : Value) (a b : List De) (w : World) (hU : Dfs w U a) (hV : Dfs w V b) (sa : ∀ e ∈ a, smallD e) (sb : ∀ e ∈ b, smallD e) (oa : okD a = true) (ob : okD b = true) (la : a.length ≤ 1000) (lb : b.length ≤ 1000) :
    Calls Tryz.prog 40 #[U, V] w fun e w' => ∃ v, e = .returned v ∧ w'.ownsRow w.heap.size 56 3 v (mergeD a b).length (dfC (mergeD a b)) ∧ Below w.heap.size w w' := by
  obtain ⟨Aa, ca, rfl, h1, h2, -, -⟩ := hU.ex
  obtain ⟨Ab, cb, rfl, h1', h2', -, -⟩ := hV.ex
  unfold maxLen at h2 h2'
  have hdoc := merge_doc oa ob
  have ia := okD_in oa
  have ib := okD_in ob
  have hok : ∀ n ∈ keyD a ++ keyD b, okN n = true := fun n hn => by
    rcases List.mem_append.1 hn with q | q
    · exact checkN_ok (okD_parts oa).2 n q
    · exact checkN_ok (okD_parts ob).2 n q
  have hsm : ∀ n ∈ keyD a ++ keyD b, smallN n := fun n hn => by
    rcases List.mem_append.1 hn with q | q
    · obtain ⟨e, he, rfl⟩ := List.mem_map.1 q; exact (sa e he).1
    · obtain ⟨e, he, rfl⟩ := List.mem_map.1 q; exact (sb e he).1
  obtain ⟨p, hp⟩ : ∃ n, a.length = n := ⟨_, rfl⟩
  obtain ⟨m, hm⟩ : ∃ n, b.length = n := ⟨_, rfl⟩
  have hap : (keyD a ++ keyD b).length = p + m := by rw [List.length_append]; unfold keyD; rw [List.length_map, List.length_map, hp, hm]
  have ks := fun V w h => refnset_any V (keyD a ++ keyD b) w h hsm hok (by rw [hap]; omega)
  have hso := small_set hok hsm
  have hsl := setN_len (keyD a ++ keyD b)
  rw [hap] at hsl
  obtain ⟨S, hS⟩ : ∃ S, setN (keyD a ++ keyD b) = S := ⟨_, rfl⟩
  obtain ⟨F, hF⟩ : ∃ F, (fun n => byD a n + byD b n) = F := ⟨_, rfl⟩
  obtain ⟨R, hR⟩ : ∃ R, mergeD a b = R := ⟨_, rfl⟩
  rw [hR, hS, hF] at hdoc
  rw [hR]
  rw [hS] at ks hso hsl
  obtain ⟨n, hn⟩ : ∃ n, S.length = n := ⟨_, rfl⟩
  rw [hn] at ks hsl
  rw [hp] at hU h1 la ⊢
  rw [hm] at hV h1' lb ⊢
  have SU := Lib.hid hU; have SV := Lib.hid hV; have HP := Lib.hid hp; have HM := Lib.hid hm; have KS := Lib.hid ks; have HSO := Lib.hid hso; have HNS := Lib.hid hn; have HR := Lib.hid hdoc; have HFF := Lib.hid hF; have HAP := Lib.hid hap; have IA := Lib.hid ia; have IB := Lib.hid ib
  have e1 : ∀ args w, (callFunc 53 args).run Tryz.prog w = .ok (.enter 53 args) w := enters_of Tryz.func53 (by kernel_rfl) rfl
  clear hU hV hp hm ks hso hn hR hdoc hF hap hS sa sb oa ob ia ib hok hsm
  go_enter Tryz.func40, Tryz.ntmps40
  go_wp2
  go_loopw [5, 6] (fun v i wr => ∃ (k : Nat) (acc : List Nd), k ≤ p ∧ i = .int .i64 k ∧ acc.length = k ∧ Hid (acc = keyD (a.take k)) ∧ wr.ownsRow w.heap.size 26 2 v acc.length (ndsC acc) ∧ Hid (Below w.heap.size w wr)) (fun _ i _ => p - (intOf i).toNat)
  case atStart => exact ⟨0, [], Nat.zero_le _, rfl, rfl, Lib.hid rfl, World.ownsRow_nil _ _ _ _, Lib.hid (Below.refl _ _)⟩
  case round =>
    obtain ⟨k, acc, hk, rfl, hal, HACC, hown, HB⟩ := hrel
    by_cases hlt : k < p
    · have hkl : k < a.length := by rw [HP.out]; exact hlt
      obtain ⟨b0, off, rfl, -, hc0, hc1, hc2⟩ := (SU.out.below HB.out).at k hkl
      have hz3 := keyD_take hkl
      obtain ⟨y, hy⟩ : ∃ y, y = a.getD k zD := ⟨_, rfl⟩
      rw [← hy] at hc0 hc1 hc2 hz3
      obtain ⟨⟨y1, y2⟩, z⟩ := y
      simp only at hc0 hc1 hc2 hz3
      have Z3 := Lib.hid hz3; have HOWN := Lib.hid hown; have HAL := Lib.hid hal
      clear hz3 hy hown
      have hkb : (k : Int) < (p : Int) := by omega
      go_wp2_with (at_builtin; refine wpList_append_new rfl _ _ 27 rfl w.heap.size 26 (.agg #[.string ByteArray.empty, .string ByteArray.empty]) 2 32 Tryz.underlying27 Tryz.info_node rfl (by decide) _ _ _ rfl HOWN.out [.string (mkB y1), .string (mkB y2)] rfl rfl rfl (by omega) (by unfold maxLen; omega) HB.out.size ?_)
      intro v' w' hown' hb'
      have e2 : ndsC acc ++ [.string (mkB y1), .string (mkB y2)] = ndsC (acc ++ [(y1, y2)]) := (ndsC_snoc acc (y1, y2)).symm
      rw [e2] at hown'
      have ho2 : w'.ownsRow w.heap.size 26 2 v' (acc ++ [(y1, y2)]).length (ndsC (acc ++ [(y1, y2)])) := by rw [List.length_append, HAL.out]; exact hown'
      have HO2 := Lib.hid ho2; have HBN := Lib.hid (HB.out.trans hb'.toBelow)
      have HAC : Hid (acc ++ [(y1, y2)] = keyD (a.take (k + 1))) := Lib.hid (by rw [Z3.out, HACC.out])
      clear ho2 hown' hb'
      go_wp2
      go_roundw
      case rel => exact ⟨k + 1, acc ++ [(y1, y2)], by omega, by go_num, by rw [List.length_append, HAL.out]; rfl, HAC, HO2.out, HBN⟩
      case measure => simp [intOf]; omega
    · have e : k = p := by omega
      subst e
      have hac := HACC.out
      rw [List.take_of_length_le (by rw [HP.out]; exact Nat.le_refl _)] at hac
      subst hac
      have HB0 := HB; have HO0 := Lib.hid hown; have HAL0 := Lib.hid hal
      clear hown hal HACC HB
      go_wp2
      go_loopw [5, 7] (fun v i wr => ∃ (k2 : Nat) (acc : List Nd), k2 ≤ m ∧ i = .int .i64 k2 ∧ acc.length = k + k2 ∧ Hid (acc = keyD a ++ keyD (b.take k2)) ∧ wr.ownsRow w.heap.size 26 2 v acc.length (ndsC acc) ∧ Hid (Below w.heap.size w wr)) (fun _ i _ => m - (intOf i).toNat)
      case atStart => exact ⟨0, keyD a, Nat.zero_le _, rfl, HAL0.out, Lib.hid (by simp [keyD]), HO0.out, HB0⟩
      case round =>
        obtain ⟨k2, acc, hk, rfl, hal, HACC, hown, HB⟩ := hrel
        by_cases hlt2 : k2 < m
        · have hkl : k2 < b.length := by rw [HM.out]; exact hlt2
          obtain ⟨b0, off, rfl, -, hc0, hc1, hc2⟩ := (SV.out.below HB.out).at k2 hkl
          have hz3 := keyD_take hkl
          obtain ⟨y, hy⟩ : ∃ y, y = b.getD k2 zD := ⟨_, rfl⟩
          rw [← hy] at hc0 hc1 hc2 hz3
          obtain ⟨⟨y1, y2⟩, z⟩ := y
          simp only at hc0 hc1 hc2 hz3
          have Z3 := Lib.hid hz3; have HOWN := Lib.hid hown; have HAL := Lib.hid hal
          clear hz3 hy hown
          have hkb : (k2 : Int) < (m : Int) := by omega
          go_wp2_with (at_builtin; refine wpList_append_new rfl _ _ 27 rfl w.heap.size 26 (.agg #[.string ByteArray.empty, .string ByteArray.empty]) 2 32 Tryz.underlying27 Tryz.info_node rfl (by decide) _ _ _ rfl HOWN.out [.string (mkB y1), .string (mkB y2)] rfl rfl rfl (by omega) (by unfold maxLen; omega) HB.out.size ?_)
          intro v' w' hown' hb'
          have e2 : ndsC acc ++ [.string (mkB y1), .string (mkB y2)] = ndsC (acc ++ [(y1, y2)]) := (ndsC_snoc acc (y1, y2)).symm
          rw [e2] at hown'
          have ho2 : w'.ownsRow w.heap.size 26 2 v' (acc ++ [(y1, y2)]).length (ndsC (acc ++ [(y1, y2)])) := by rw [List.length_append, HAL.out]; exact hown'
          have HO2 := Lib.hid ho2; have HBN := Lib.hid (HB.out.trans hb'.toBelow)
          have HAC : Hid (acc ++ [(y1, y2)] = keyD a ++ keyD (b.take (k2 + 1))) := Lib.hid (by rw [Z3.out, HACC.out]; exact List.append_assoc _ _ _)
          clear ho2 hown' hb'
          go_wp2
          go_roundw
          case rel => exact ⟨k2 + 1, acc ++ [(y1, y2)], by omega, by go_num, by rw [List.length_append, HAL.out]; rfl, HAC, HO2.out, HBN⟩
          case measure => simp [intOf]; omega
        · have e : k2 = m := by omega
          subst e
          have hac := HACC.out
          rw [List.take_of_length_le (by rw [HM.out]; exact Nat.le_refl _)] at hac
          subst hac
          obtain ⟨a2, c2, rfl, hnd⟩ := ndsO hown
          rw [HAP.out] at hnd ⊢
          have SA := Lib.hid hnd; have B2 := HB
          clear hown hnd hal HACC
          go_upto_region 13 with (go_at_call 52; refine (KS.out _ _ SA.out).mono ?_; rintro e w3 ⟨a3, c3, rfl, hnd, hb3⟩; have SS0 := Lib.hid hnd; have B3 := Lib.hid (below_step B2.out hb3); clear hnd hb3)
          have SS := SS0
          clear SA SS0
          go_loopw [8, 9] (fun v i wr => ∃ (k3 : Nat) (acc : List De), k3 ≤ n ∧ i = .int .i64 k3 ∧ acc.length ≤ k3 ∧ Hid (acc = mkD (S.take k3) F) ∧ wr.ownsRow w3.heap.size 56 3 v acc.length (dfC acc) ∧ Hid (Below w3.heap.size w3 wr)) (fun _ i _ => n - (intOf i).toNat)
          case atStart => exact ⟨0, [], Nat.zero_le _, rfl, Nat.le_refl _, Lib.hid rfl, dfs_row0 _ _, Lib.hid (Below.refl _ _)⟩
          case round =>
            obtain ⟨k3, acc, hk, rfl, hal, HACC, hown, HB⟩ := hrel
            by_cases hlt3 : k3 < n
            · have hkl : k3 < S.length := by rw [HNS.out]; exact hlt3
              obtain ⟨bb, off, rfl, -, cw0, cw1⟩ := (SS.out.below HB.out).at k3 hkl
              have htk := mkD_take hkl F
              have hsm := HSO.out _ (nd_mem hkl)
              obtain ⟨y, hy⟩ : ∃ y, y = S.getD k3 ([], []) := ⟨_, rfl⟩
              rw [← hy] at cw0 cw1 htk hsm
              obtain ⟨y1, y2⟩ := y
              simp only at cw0 cw1
              obtain ⟨z1, hz1⟩ : ∃ z, byD a (y1, y2) = z := ⟨_, rfl⟩
              obtain ⟨z2, hz2⟩ : ∃ z, byD b (y1, y2) = z := ⟨_, rfl⟩
              have k1 := fun wx (hb : Below wr.heap.size wr wx) => refby_any (.slice Aa k ca) a y1 y2 wx (SU.out.below (below_step (below_step B3.out HB.out) hb)) (by rw [HP.out]; omega) IA.out
              have k2 := fun wx (hb : Below wr.heap.size wr wx) => refby_any (.slice Ab k2 cb) b y1 y2 wx (SV.out.below (below_step (below_step B3.out HB.out) hb)) (by rw [HM.out]; omega) IB.out
              have l1 := byD_bound IA.out (y1, y2)
              have l2 := byD_bound IB.out (y1, y2)
              rw [hz1] at k1 l1
              rw [hz2] at k2 l2
              rw [HP.out] at l1
              rw [HM.out] at l2
              have KM1 := Lib.hid k1; have KM2 := Lib.hid k2
              have hfz : F (y1, y2) = z1 + z2 := by rw [← HFF.out, ← hz1, ← hz2]
              obtain ⟨z, hz⟩ : ∃ z, F (y1, y2) = z := ⟨_, rfl⟩
              rw [hz] at htk
              have hwz : IntKind.i64.wrap (z1 + z2) = z := by rw [← hz, hfz]; exact IntWalk.i64_in _ (by omega)
              have HZ := Lib.hid hwz
              clear hwz hfz k1 k2 l1 l2 hz1 hz2
              have HTK := Lib.hid htk; have HOWN := Lib.hid hown; have HLT := Lib.hid hlt3; have HSM := Lib.hid hsm
              clear hy htk hz hown hsm
              have hkb : (k3 : Int) < (n : Int) := by omega
              go_upto_region 15 with fail
              refine rol_run (by kernel_rfl) [[], [], [], [1, 2], [1, 2, 3], [0, 1, 2, 3, 4], [], [], [], [7, 8], [7, 8, 9], [0, 1, 2, 3, 4, 5, 6, 7, 8, 9, 10], [0, 1, 2, 3, 4, 5, 6, 7, 8, 9, 10, 11], [0, 1, 2, 3, 4, 5, 6, 7, 8, 9, 10, 11, 12]] (by kernel_rfl) [47, 48, 49, 50, 51, 52, 53, 54, 55, 56, 57, 58, 59, 10] [[], [], [], [1, 2], [3], [0, 4], [], [], [], [7, 8], [9], [6, 10], [5, 11], [12]] [0, 0, 0, 0, 0, 0, 0, 0, 0, 0, 0, 0, 0, 0] [0, 0, 0, 0, 0, 0, 0, 0, 0, 0, 0, 0, 0, 0] [1000, 1000, 1000, 1000, 1000, 1000, 1000, 1000, 1000, 1000, 1000, 1000, 1000, 1000] [.val 47 (.slice Aa k ca), .val 48 (.slice (some ⟨bb, off, none⟩) n c3), .val 49 (.int .i64 (k3 : Int)), .val 50 (.pointer (some ⟨bb, off + k3 * 2, none⟩)), .val 51 (.agg #[.string (mkB y1), .string (mkB y2)]), .val 52 (.int .i64 z1), .val 53 (.slice Ab k2 cb), .val 54 (.slice (some ⟨bb, off, none⟩) n c3), .val 55 (.int .i64 (k3 : Int)), .val 56 (.pointer (some ⟨bb, off + k3 * 2, none⟩)), .val 57 (.agg #[.string (mkB y1), .string (mkB y2)]), .val 58 (.int .i64 z2), .val 59 (.int .i64 z), .val 10 (.int .i64 z)] (by kernel_rfl) ?_ (wr.heap.size) (wr.heap.size) rfl (Below.refl _ _) rfl (fun _ => 0) ?_ ?_ ?_
              · intro j hj
                have hj3 : j < 14 := hj
                have hj2 : j = 0 ∨ j = 1 ∨ j = 2 ∨ j = 3 ∨ j = 4 ∨ j = 5 ∨ j = 6 ∨ j = 7 ∨ j = 8 ∨ j = 9 ∨ j = 10 ∨ j = 11 ∨ j = 12 ∨ j = 13 := by omega
                clear hj hj3
                rcases hj2 with rfl | rfl | rfl | rfl | rfl | rfl | rfl | rfl | rfl | rfl | rfl | rfl | rfl | rfl
                · exact trivial
                · exact trivial
                · exact trivial
                · exact trivial
                · exact trivial
                · exact trivial
                · exact trivial
                · exact trivial
                · exact trivial
                · exact trivial
                · exact trivial
                · exact trivial
                · exact trivial
                · exact trivial
              · intro j hj0 hj
                exact absurd hj (Nat.not_lt.2 hj0)
              · intro i hi a wx who hG hF
                have hz : a.tmps.size = 72 := hG.size
                have hi3 : i < 14 := hi
                have hi2 : i = 0 ∨ i = 1 ∨ i = 2 ∨ i = 3 ∨ i = 4 ∨ i = 5 ∨ i = 6 ∨ i = 7 ∨ i = 8 ∨ i = 9 ∨ i = 10 ∨ i = 11 ∨ i = 12 ∨ i = 13 := by omega
                clear hi hi3
                rcases hi2 with rfl | rfl | rfl | rfl | rfl | rfl | rfl | rfl | rfl | rfl | rfl | rfl | rfl | rfl
                · exact rol_val rfl rfl rfl (by rw [hz]; decide) (ex_move (Or.inl rfl) (eval_slot ((hG.slots 0 (by decide)).trans rfl))) hG.below
                · exact rol_val rfl rfl rfl (by rw [hz]; decide) (ex_move (Or.inl rfl) (eval_slot ((hG.slots 5 (by decide)).trans rfl))) hG.below
                · exact rol_val rfl rfl rfl (by rw [hz]; decide) (ex_move (Or.inl rfl) (eval_slot ((hG.slots 9 (by decide)).trans rfl))) hG.below
                · exact rol_val rfl rfl rfl (by rw [hz]; decide) (ex_index rfl (eval_slot (hF 1 (by decide))) (eval_slot (hF 2 (by decide))) (idx_nds HLT.out)) hG.below
                · exact rol_val rfl rfl rfl (by rw [hz]; decide) (ex_load rfl (eval_slot (hF 3 (by decide))) (ld_node (cell_keep cw0 hG.below) (cell_keep cw1 hG.below))) hG.below
                · refine rol_call rfl rfl rfl (by rw [hz]; decide) (ex_call rfl (by simp [eval_slot (hF 0 (by decide)), eval_slot (hF 4 (by decide))]) e1) (KM1.out wx hG.below) ?_ hG.below hG.new
                  rintro e w1 ⟨rfl, hb1⟩
                  exact ⟨_, rfl, hb1, .inl rfl⟩
                · exact rol_val rfl rfl rfl (by rw [hz]; decide) (ex_move (Or.inl rfl) (eval_slot ((hG.slots 1 (by decide)).trans rfl))) hG.below
                · exact rol_val rfl rfl rfl (by rw [hz]; decide) (ex_move (Or.inl rfl) (eval_slot ((hG.slots 5 (by decide)).trans rfl))) hG.below
                · exact rol_val rfl rfl rfl (by rw [hz]; decide) (ex_move (Or.inl rfl) (eval_slot ((hG.slots 9 (by decide)).trans rfl))) hG.below
                · exact rol_val rfl rfl rfl (by rw [hz]; decide) (ex_index rfl (eval_slot (hF 7 (by decide))) (eval_slot (hF 8 (by decide))) (idx_nds HLT.out)) hG.below
                · exact rol_val rfl rfl rfl (by rw [hz]; decide) (ex_load rfl (eval_slot (hF 9 (by decide))) (ld_node (cell_keep cw0 hG.below) (cell_keep cw1 hG.below))) hG.below
                · refine rol_call rfl rfl rfl (by rw [hz]; decide) (ex_call rfl (by simp [eval_slot (hF 6 (by decide)), eval_slot (hF 10 (by decide))]) e1) (KM2.out wx hG.below) ?_ hG.below hG.new
                  rintro e w1 ⟨rfl, hb1⟩
                  exact ⟨_, rfl, hb1, .inl rfl⟩
                · exact rol_val rfl rfl rfl (by rw [hz]; decide) (ex_bin rfl (eval_slot (hF 5 (by decide))) (eval_slot (hF 11 (by decide))) (by go_simp) (bin_add HZ.out)) hG.below
                · exact rol_val rfl rfl rfl (by rw [hz]; decide) (ex_move (Or.inr rfl) (eval_slot (hF 12 (by decide)))) hG.below
              · intro a wx who hG hF
                have fv10 : a.tmps.getD 10 undef = .int .i64 z := eval_slot (s := 10) (hF 13 (of_decide_eq_true (by kernel_rfl)) (of_decide_eq_true (by kernel_rfl)))
                have hbx := hG.below
                have hnx := hG.new
                rw [hG.frame]
                simp only [List.foldl_cons, List.foldl_nil, List.setIfInBounds_toArray, List.set_cons_zero, List.set_cons_succ]
                generalize a.tmps.getD 47 undef = u47
                generalize a.tmps.getD 48 undef = u48
                generalize a.tmps.getD 49 undef = u49
                generalize a.tmps.getD 50 undef = u50
                generalize a.tmps.getD 51 undef = u51
                generalize a.tmps.getD 52 undef = u52
                generalize a.tmps.getD 53 undef = u53
                generalize a.tmps.getD 54 undef = u54
                generalize a.tmps.getD 55 undef = u55
                generalize a.tmps.getD 56 undef = u56
                generalize a.tmps.getD 57 undef = u57
                generalize a.tmps.getD 58 undef = u58
                generalize a.tmps.getD 59 undef = u59
                rw [fv10]
                clear hF hG fv10
                replace cw0 := cell_keep cw0 hbx; replace cw1 := cell_keep cw1 hbx
                replace HOWN := Lib.hid (ownsRow_belowB HOWN.out hbx); replace HB := Lib.hid (below_step HB.out hbx)
                clear hbx hnx
                by_cases h0 : z = 0
                · have hz1 : (z != 0) = false := by simp [h0]
                  have HAC : Hid (acc = mkD (S.take (k3 + 1)) F) := Lib.hid (by rw [HTK.out, HACC.out, if_pos h0, List.append_nil])
                  clear h0
                  go_wp2
                  go_roundw
                  case rel => exact ⟨k3 + 1, acc, by omega, by go_num, by omega, HAC, HOWN.out, HB⟩
                  case measure => simp [intOf]; omega
                · have hz1 : (z != 0) = true := by simp [h0]
                  have HAC : Hid (acc ++ [((y1, y2), z)] = mkD (S.take (k3 + 1)) F) := Lib.hid (by rw [HTK.out, HACC.out, if_neg h0])
                  clear h0
                  go_wp2_with (at_builtin; refine wpList_append_new rfl _ _ 22 rfl w3.heap.size 56 zDV 3 40 Tryz.underlying22 Tryz.info_df rfl (by decide) _ _ _ rfl HOWN.out [.string (mkB y1), .string (mkB y2), .int .i64 z] rfl rfl rfl (by omega) (by unfold maxLen; omega) HB.out.size ?_)
                  intro v' w' hown' hb'
                  have e2 : dfC acc ++ [.string (mkB y1), .string (mkB y2), .int .i64 z] = dfC (acc ++ [((y1, y2), z)]) := (dfC_snoc acc ((y1, y2), z)).symm
                  rw [e2] at hown'
                  have ho2 : w'.ownsRow w3.heap.size 56 3 v' (acc ++ [((y1, y2), z)]).length (dfC (acc ++ [((y1, y2), z)])) := by rw [List.length_append]; exact hown'
                  have HO2 := Lib.hid ho2; have HBN := Lib.hid (HB.out.trans hb'.toBelow)
                  clear ho2 hown' hb'
                  go_wp2
                  go_roundw
                  case rel => exact ⟨k3 + 1, acc ++ [((y1, y2), z)], by omega, by go_num, by simp; omega, HAC, HO2.out, HBN⟩
                  case measure => simp [intOf]; omega
            · have e : k3 = n := by omega
              subst e
              have hac := HACC.out
              rw [List.take_of_length_le (by rw [HNS.out]; exact Nat.le_refl _), HR.out] at hac
              subst hac
              go_wp2
              go_ret
              exact ⟨_, rfl, row_base hown B3.out.size, below_step B3.out HB.out⟩
end Go.Proofs.YtglhjdbnpdoinaaGreat
