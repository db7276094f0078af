/- THE TEXTS OF LisQ LisR: Some changes of a list; the chapter's examples of lists. What the laws of lists lean on: plain facts. -/
import Derived.Test.YtlbibgofhhdgoaaGreatLisE
import Derived.Test.YtlbibgofhhdgoaaGreatLisI
import Derived.Test.YtlbibgofhhdgoaaGreatNodN
namespace Go.Proofs.YtlbibgofhhdgoaaGreat
open Go.RowKit
set_option linter.unusedVariables false
set_option maxRecDepth 100000

section
variable {ops : Array Oper} {Q : Exit → Act → World → Prop} {a : Act} {w w0 : World} {who : Nat → Nat} {i B r ro : Nat} {o : Oper}
/-- 'append(l, x)', x a change of the region's own. -/
theorem rol_pushC (ho : ops[i]? = some o) (hw : Region.wanted o (yielded ops a.tmps) = true) {s : Nat} (hd : o.dst = some s) (hs : s < a.tmps.size) {y : Operand} {q : Nat} (hop : o.op = .call { callee := .builtin .append, args := #[y, .tmp q], argTypes := #[41, 41] })
    {N t n : Nat} {K : List Ch} {Y : Value} (h : (RLeaf.mem t (rowX Y N 69 3 n (chC K))).holds r a w who) (hy : a.eval y = Y) {p v u : Tx} {r2 : Nat} (hq : (RLeaf.mem q (blkG 69 #[.string (mkB p), .string (mkB v), .string (mkB u)] 1)).holds r2 a w who) (hlen : n ≤ 1000000) (hb : Below B w0 w) (hB : B ≤ N) (hNw : N ≤ w.heap.size) {n' : Nat} (hn : n' = n + 1) {K' : List Ch} (hv : K' = K ++ [(p, v, u)]) :
    wpOp Tryz.prog ops Q i (RPost ops i r r (.mem s (rowG N 69 3 n' (chC K'))) B w0 a w who) a w := by
  subst hn hv
  obtain ⟨_, ob, -, hob, hrow, rfl⟩ := h
  obtain ⟨u2, ob2, hu, -, b, rfl, rfl, hh⟩ := hq
  obtain ⟨v', w', hr, h2, h3, h5⟩ := run_app_ch hrow (blkG.chs hh) (m := 1) (c := 1) (by omega) hNw o.type
  exact rol_grow ho hw hd hs (ex_append hop hy (eval_slot hu) hr) h3 hob h5 ⟨h2, rfl⟩ hb (Nat.le_trans hB hNw) (fun b e => Nat.le_trans hB (own_lt hrow e).1)
end
def fewC (x : Ch) : Ch := (fewL x.1, fewL x.2.1, fewL x.2.2)
def fewCs (l : List Ch) : List Ch := (l.take 20).map fewC
theorem fewCs_len (l : List Ch) : (fewCs l).length ≤ 20 := by unfold fewCs; rw [List.length_map, List.length_take]; omega
theorem fewC_small (x : Ch) : smallC (fewC x) := ⟨Nat.le_trans (fewL_len _) (by decide), Nat.le_trans (fewL_len _) (by decide), Nat.le_trans (fewL_len _) (by decide)⟩
theorem fewCs_small (l : List Ch) : ∀ x ∈ fewCs l, smallC x := fun x h => by
  obtain ⟨m, _, rfl⟩ := List.mem_map.1 h; exact fewC_small m
theorem fewCs_succ {l : List Ch} {k : Nat} (h : k < l.length) : (l.take (k + 1)).map fewC = (l.take k).map fewC ++ [fewC (l.getD k zC)] := by
  rw [List.take_succ_eq_append_getElem h, List.map_append, gd_at h]; rfl
set_option maxHeartbeats 3200000 in
theorem few17_any (V : Value) (l : List Ch) (w : World) (hV : Chs w V l) (hf : ∀ x ∈ l, fitC x) :
    Calls Tryz.prog 20 #[V] w fun e w' => ∃ v, e = .returned v ∧ w'.ownsRow w.heap.size 69 3 v (fewCs l).length (chC (fewCs l)) ∧ Below w.heap.size w w' := by
  obtain ⟨A, c, rfl, h1, h2, -, -⟩ := hV.ex
  unfold maxLen at h2
  obtain ⟨n, hn⟩ : ∃ n, l.length = n := ⟨_, rfl⟩
  obtain ⟨L, hL⟩ : ∃ L, fewCs l = L := ⟨_, rfl⟩
  rw [hL]
  rw [hn] at h1 hV ⊢
  obtain ⟨N0, hN0⟩ : ∃ N, w.heap.size = N := ⟨_, rfl⟩
  have HN0 := Lib.hid hN0
  rw [hN0]
  have SV := Lib.hid hV; have HN := Lib.hid hn; have HF := Lib.hid hf; have HL := Lib.hid hL
  clear hV hn hf hL hN0
  have e1 : ∀ args w, (callFunc 9 args).run Tryz.prog w = .ok (.enter 9 args) w := enters_of Tryz.func9 (by kernel_rfl) rfl
  go_enter Tryz.func20, Tryz.ntmps20
  go_wp2
  go_loopw [3, 4] (fun v i wr => ∃ (k : Nat) (X : Value), k ≤ n ∧ k ≤ 20 ∧ i = .int .i64 k ∧ X = v ∧ Hid (wr.ownsRow N0 69 3 X k (chC ((l.take k).map fewC))) ∧ Hid (Below N0 w wr)) (fun _ i _ => n - (intOf i).toNat)
  case atStart => exact ⟨0, _, Nat.zero_le _, Nat.zero_le _, rfl, rfl, Lib.hid (World.ownsRow_nil _ _ _ _), Lib.hid (Below.refl _ _)⟩
  case round =>
    obtain ⟨k, X, hkn, hk8, rfl, rfl, HX, HB⟩ := hrel
    by_cases hlt : k < n
    · by_cases h8 : k < 20
      · have hkl : k < l.length := by rw [HN.out]; exact hlt
        have hbw : Below w.heap.size w wr := by rw [HN0.out]; exact HB.out
        obtain ⟨bl, off, rfl, -, c0, c1, c2⟩ := SV.out.at k hkl
        have htk := fewCs_succ hkl
        have hfy := HF.out _ (gd_in (z := zC) hkl)
        obtain ⟨y, hy⟩ : ∃ y, l.getD k zC = y := ⟨_, rfl⟩
        rw [hy] at c0 c1 c2 htk hfy
        obtain ⟨y0, y1, y2⟩ := y
        simp only at c0 c1 c2
        have k0 := fun w => few_l y0 w hfy.1
        have k1 := fun w => few_l y1 w hfy.2.1
        have k2 := fun w => few_l y2 w hfy.2.2
        unfold fewC at htk
        obtain ⟨z0, hz0⟩ : ∃ z, fewL y0 = z := ⟨_, rfl⟩
        obtain ⟨z1, hz1⟩ : ∃ z, fewL y1 = z := ⟨_, rfl⟩
        obtain ⟨z2, hz2⟩ : ∃ z, fewL y2 = z := ⟨_, rfl⟩
        simp only [hz0, hz1, hz2] at htk
        rw [hz0] at k0; rw [hz1] at k1; rw [hz2] at k2
        obtain ⟨P, hP⟩ : ∃ P, (l.take k).map fewC = P := ⟨_, rfl⟩
        have hP2 : List.map (fun x : Ch => (fewL x.1, fewL x.2.1, fewL x.2.2)) (l.take k) = P := hP
        have htk2 : (l.take (k + 1)).map fewC = P ++ [(z0, z1, z2)] := htk.trans (by rw [hP2])
        rw [hP] at HX
        obtain ⟨K2, hK2⟩ : ∃ K2, K2 = P ++ [(z0, z1, z2)] := ⟨_, rfl⟩
        have HTK := Lib.hid htk2; have K0 := Lib.hid k0; have K1 := Lib.hid k1; have KF2 := Lib.hid k2; have HK2 := Lib.hid hK2
        have C0 := Lib.hid c0; have C1 := Lib.hid c1; have C2 := Lib.hid c2; have HKN := Lib.hid hlt; have HQB := Lib.hid (show k ≤ 1000000 by omega); have HNS := Lib.hid (show N0 ≤ wr.heap.size by rw [← HN0.out]; exact hbw.size)
        clear hkl hbw c0 c1 c2 htk hfy hy k0 k1 k2 hz0 hz1 hz2 hP hP2 htk2 hK2
        go_upto_region 5 with fail
        refine rol_run (by kernel_rfl) [[], [], [], [1, 2], [1, 2, 3], [1, 2, 3, 4], [1, 2, 3, 4, 5], [], [], [7, 8], [7, 8, 9], [7, 8, 9, 10], [1, 2, 3, 4, 5, 6, 7, 8, 9, 10, 11], [], [], [13, 14], [13, 14, 15], [13, 14, 15, 16], [1, 2, 3, 4, 5, 6, 7, 8, 9, 10, 11, 12, 13, 14, 15, 16, 17], [1, 2, 3, 4, 5, 6, 7, 8, 9, 10, 11, 12, 13, 14, 15, 16, 17, 18], [1, 2, 3, 4, 5, 6, 7, 8, 9, 10, 11, 12, 13, 14, 15, 16, 17, 18, 19], [0, 1, 2, 3, 4, 5, 6, 7, 8, 9, 10, 11, 12, 13, 14, 15, 16, 17, 18, 19, 20], [0, 1, 2, 3, 4, 5, 6, 7, 8, 9, 10, 11, 12, 13, 14, 15, 16, 17, 18, 19, 20, 21]] (by kernel_rfl) [15, 16, 17, 18, 19, 20, 21, 22, 23, 24, 25, 26, 27, 28, 29, 30, 31, 32, 33, 34, 35, 36, 3] [[24], [], [], [1, 2], [3], [4], [5], [], [], [7, 8], [9], [10], [11], [], [], [13, 14], [15], [16], [17], [6, 12, 18], [19], [0, 20, 23], [21]] [0, 0, 0, 0, 0, 0, 0, 0, 0, 0, 0, 0, 0, 0, 0, 0, 0, 0, 0, 0, 2, 1, 1, 1, 0] [0, 0, 0, 0, 0, 0, 0, 0, 0, 0, 0, 0, 0, 0, 0, 0, 0, 0, 0, 0, 0, 1, 0] [1000, 1000, 1000, 1000, 1000, 1000, 1000, 1000, 1000, 1000, 1000, 1000, 1000, 1000, 1000, 1000, 1000, 1000, 1000, 1000, 1000, 1000, 1000, 21, 22] [.val 15 (X), .val 16 (.slice (some ⟨bl, off, none⟩) n c), .val 17 (.int .i64 (k : Int)), .val 18 (.pointer (some ⟨bl, off + k * 3, none⟩)), .val 19 (.pointer (some ⟨bl, off + k * 3, none⟩)), .val 20 (.string (mkB y0)), .val 21 (.string (mkB z0)), .val 22 (.slice (some ⟨bl, off, none⟩) n c), .val 23 (.int .i64 (k : Int)), .val 24 (.pointer (some ⟨bl, off + k * 3, none⟩)), .val 25 (.pointer (some ⟨bl, off + k * 3 + 1, none⟩)), .val 26 (.string (mkB y1)), .val 27 (.string (mkB z1)), .val 28 (.slice (some ⟨bl, off, none⟩) n c), .val 29 (.int .i64 (k : Int)), .val 30 (.pointer (some ⟨bl, off + k * 3, none⟩)), .val 31 (.pointer (some ⟨bl, off + k * 3 + 2, none⟩)), .val 32 (.string (mkB y2)), .val 33 (.string (mkB z2)), .val 34 (.agg #[.string (mkB z0), .string (mkB z1), .string (mkB z2)]), .mem 35 (blkG 69 #[.string (mkB z0), .string (mkB z1), .string (mkB z2)] 1), .mem 36 (rowG N0 69 3 (k + 1) (chC K2)), .mem 3 (rowG N0 69 3 (k + 1) (chC K2)), .mem 3 (rowX X N0 69 3 k (chC P)), .val 3 X] (by kernel_rfl) ?_ (N0) (wr.heap.size) rfl HB.out rfl (fun _ => 1) ?_ ?_ ?_
        · intro j hj
          have hj3 : j < 25 := hj
          have hj2 : j = 0 ∨ j = 1 ∨ j = 2 ∨ j = 3 ∨ j = 4 ∨ j = 5 ∨ j = 6 ∨ j = 7 ∨ j = 8 ∨ j = 9 ∨ j = 10 ∨ j = 11 ∨ j = 12 ∨ j = 13 ∨ j = 14 ∨ j = 15 ∨ j = 16 ∨ j = 17 ∨ j = 18 ∨ j = 19 ∨ j = 20 ∨ j = 21 ∨ j = 22 ∨ j = 23 ∨ j = 24 := by omega
          clear hj hj3
          rcases hj2 with rfl | rfl | rfl | rfl | rfl | rfl | rfl | rfl | rfl | rfl | rfl | rfl | rfl | rfl | rfl | rfl | rfl | rfl | rfl | rfl | rfl | rfl | rfl | rfl | rfl
          · exact trivial
          · exact trivial
          · exact trivial
          · exact trivial
          · exact trivial
          · exact trivial
          · exact trivial
          · exact trivial
          · exact trivial
          · exact trivial
          · exact trivial
          · exact trivial
          · exact trivial
          · exact trivial
          · exact trivial
          · exact trivial
          · exact trivial
          · exact trivial
          · exact trivial
          · exact trivial
          · exact blkG_near
          · exact rowG_near
          · exact rowG_near
          · exact rowX_near
          · exact trivial
        · intro j hj0 hj
          have hj1 : 23 ≤ j := hj0
          have hj3 : j < 25 := hj
          have hj2 : j = 23 ∨ j = 24 := by omega
          clear hj0 hj hj1 hj3
          rcases hj2 with rfl | rfl
          · exact ⟨_, _, rfl, fun b e => ⟨(own_lt HX.out e).2, rfl⟩, HX.out, rfl⟩
          · exact rfl
        · intro i hi a wx who hG hF
          have hz : a.tmps.size = 38 := hG.size
          have hi3 : i < 23 := hi
          have hi2 : i = 0 ∨ i = 1 ∨ i = 2 ∨ i = 3 ∨ i = 4 ∨ i = 5 ∨ i = 6 ∨ i = 7 ∨ i = 8 ∨ i = 9 ∨ i = 10 ∨ i = 11 ∨ i = 12 ∨ i = 13 ∨ i = 14 ∨ i = 15 ∨ i = 16 ∨ i = 17 ∨ i = 18 ∨ i = 19 ∨ i = 20 ∨ i = 21 ∨ i = 22 := by omega
          clear hi hi3
          rcases hi2 with rfl | rfl | rfl | rfl | rfl | rfl | rfl | rfl | rfl | rfl | rfl | rfl | rfl | rfl | rfl | rfl | rfl | rfl | rfl | rfl | rfl | rfl | rfl
          · exact rol_val rfl rfl rfl (by rw [hz]; decide) (ex_move (Or.inl rfl) (eval_slot (hF 24 (by decide)))) hG.below
          · exact rol_val rfl rfl rfl (by rw [hz]; decide) (ex_move (Or.inl rfl) (eval_slot ((hG.slots 0 (by decide)).trans rfl))) hG.below
          · exact rol_val rfl rfl rfl (by rw [hz]; decide) (ex_move (Or.inl rfl) (eval_slot ((hG.slots 4 (by decide)).trans rfl))) hG.below
          · exact rol_val rfl rfl rfl (by rw [hz]; decide) (ex_index rfl (eval_slot (hF 1 (by decide))) (eval_slot (hF 2 (by decide))) (idx_ch HKN.out)) hG.below
          · exact rol_val rfl rfl rfl (by rw [hz]; decide) (ex_field rfl (eval_slot (hF 3 (by decide))) (by go_simp)) hG.below
          · exact rol_val rfl rfl rfl (by rw [hz]; decide) (ex_load rfl (eval_slot (hF 4 (by decide))) (ld_strT (cell_keep C0.out (by rw [HN0.out]; exact hG.below)))) hG.below
          · refine rol_call rfl rfl rfl (by rw [hz]; decide) (ex_call rfl (by simp [eval_slot (hF 5 (by decide))]) e1) (K0.out wx) ?_ hG.below (Nat.le_trans HNS.out hG.new)
            rintro e w1 ⟨rfl, rfl⟩
            exact ⟨_, rfl, Below.refl _ _, .inl rfl⟩
          · exact rol_val rfl rfl rfl (by rw [hz]; decide) (ex_move (Or.inl rfl) (eval_slot ((hG.slots 0 (by decide)).trans rfl))) hG.below
          · exact rol_val rfl rfl rfl (by rw [hz]; decide) (ex_move (Or.inl rfl) (eval_slot ((hG.slots 4 (by decide)).trans rfl))) hG.below
          · exact rol_val rfl rfl rfl (by rw [hz]; decide) (ex_index rfl (eval_slot (hF 7 (by decide))) (eval_slot (hF 8 (by decide))) (idx_ch HKN.out)) hG.below
          · exact rol_val rfl rfl rfl (by rw [hz]; decide) (ex_field rfl (eval_slot (hF 9 (by decide))) (by go_simp)) hG.below
          · exact rol_val rfl rfl rfl (by rw [hz]; decide) (ex_load rfl (eval_slot (hF 10 (by decide))) (ld_strT (cell_keep C1.out (by rw [HN0.out]; exact hG.below)))) hG.below
          · refine rol_call rfl rfl rfl (by rw [hz]; decide) (ex_call rfl (by simp [eval_slot (hF 11 (by decide))]) e1) (K1.out wx) ?_ hG.below (Nat.le_trans HNS.out hG.new)
            rintro e w1 ⟨rfl, rfl⟩
            exact ⟨_, rfl, Below.refl _ _, .inl rfl⟩
          · exact rol_val rfl rfl rfl (by rw [hz]; decide) (ex_move (Or.inl rfl) (eval_slot ((hG.slots 0 (by decide)).trans rfl))) hG.below
          · exact rol_val rfl rfl rfl (by rw [hz]; decide) (ex_move (Or.inl rfl) (eval_slot ((hG.slots 4 (by decide)).trans rfl))) hG.below
          · exact rol_val rfl rfl rfl (by rw [hz]; decide) (ex_index rfl (eval_slot (hF 13 (by decide))) (eval_slot (hF 14 (by decide))) (idx_ch HKN.out)) hG.below
          · exact rol_val rfl rfl rfl (by rw [hz]; decide) (ex_field rfl (eval_slot (hF 15 (by decide))) (by go_simp)) hG.below
          · exact rol_val rfl rfl rfl (by rw [hz]; decide) (ex_load rfl (eval_slot (hF 16 (by decide))) (ld_strT (cell_keep C2.out (by rw [HN0.out]; exact hG.below)))) hG.below
          · refine rol_call rfl rfl rfl (by rw [hz]; decide) (ex_call rfl (by simp [eval_slot (hF 17 (by decide))]) e1) (KF2.out wx) ?_ hG.below (Nat.le_trans HNS.out hG.new)
            rintro e w1 ⟨rfl, rfl⟩
            exact ⟨_, rfl, Below.refl _ _, .inl rfl⟩
          · exact rol_val rfl rfl rfl (by rw [hz]; decide) (ex_build rfl (vs := #[(0, .string (mkB z0)), (1, .string (mkB z1)), (2, .string (mkB z2))]) (by simp only [List.map_toArray, List.map_cons, List.map_nil, eval_slot (hF 6 (by decide)), eval_slot (hF 12 (by decide)), eval_slot (hF 18 (by decide))]) build_ch) hG.below
          · exact rol_newO rfl rfl rfl (by rw [hz]; decide) (x := .cells #[.string (mkB z0), .string (mkB z1), .string (mkB z2)] 69) (v := .slice (some ⟨wx.heap.size, 0, none⟩) 1 1) (ex_slice rfl (vs := #[(0, .agg #[.string (mkB z0), .string (mkB z1), .string (mkB z2)])]) (by simp only [List.map_toArray, List.map_cons, List.map_nil, eval_slot (hF 19 (by decide))]) (by go_simp)) ⟨_, rfl, rfl, heap_alloc_new _ _⟩ hG.below (Nat.le_trans HNS.out hG.new)
          · exact rol_pushC rfl rfl rfl (by rw [hz]; decide) rfl (hF 23 (by decide)) (eval_slot (hF 0 (by decide))) (hF 20 (by decide)) HQB.out hG.below (Nat.le_refl _) (Nat.le_trans HNS.out hG.new) rfl HK2.out
          · exact rol_move rfl rfl rfl (by rw [hz]; decide) (Or.inr rfl) (hF 21 (by decide)) hG.below
        · intro a wx who hG hF
          obtain ⟨v3, ob3, fv3, fo3, fp3⟩ := hF 22 (of_decide_eq_true (by kernel_rfl)) (of_decide_eq_true (by kernel_rfl))
          replace fv3 : a.tmps.getD 3 undef = v3 := eval_slot (s := 3) fv3
          have hbx := hG.below
          have hnx := hG.new
          rw [hG.frame]
          simp only [List.foldl_cons, List.foldl_nil, List.setIfInBounds_toArray, List.set_cons_zero, List.set_cons_succ]
          generalize a.tmps.getD 15 undef = u15
          generalize a.tmps.getD 16 undef = u16
          generalize a.tmps.getD 17 undef = u17
          generalize a.tmps.getD 18 undef = u18
          generalize a.tmps.getD 19 undef = u19
          generalize a.tmps.getD 20 undef = u20
          generalize a.tmps.getD 21 undef = u21
          generalize a.tmps.getD 22 undef = u22
          generalize a.tmps.getD 23 undef = u23
          generalize a.tmps.getD 24 undef = u24
          generalize a.tmps.getD 25 undef = u25
          generalize a.tmps.getD 26 undef = u26
          generalize a.tmps.getD 27 undef = u27
          generalize a.tmps.getD 28 undef = u28
          generalize a.tmps.getD 29 undef = u29
          generalize a.tmps.getD 30 undef = u30
          generalize a.tmps.getD 31 undef = u31
          generalize a.tmps.getD 32 undef = u32
          generalize a.tmps.getD 33 undef = u33
          generalize a.tmps.getD 34 undef = u34
          generalize a.tmps.getD 35 undef = u35
          generalize a.tmps.getD 36 undef = u36
          rw [fv3]
          clear hF hG fv3
          have HBN := Lib.hid hbx; have HRW := Lib.hid fp3.1
          clear fo3 fp3 hbx hnx
          go_wp2
          go_roundw
          case rel => exact ⟨k + 1, _, by omega, by omega, by go_num, rfl, Lib.hid (by rw [HTK.out, ← HK2.out]; exact HRW.out), HBN⟩
          case measure => simp [intOf]; omega
      · have hk20 : k = 20 := by omega
        have hout : (l.take k).map fewC = L := by rw [← HL.out]; unfold fewCs; rw [hk20]
        have hll : L.length = k := by rw [← hout, List.length_map, List.length_take, HN.out]; omega
        rw [hout] at HX
        have HLL := Lib.hid hll
        clear hout hll hk20
        go_wp2
        go_ret
        exact ⟨_, rfl, by rw [HLL.out]; exact HX.out, HB.out⟩
    · have hout : (l.take k).map fewC = L := by
        rw [← HL.out]
        unfold fewCs
        rw [List.take_of_length_le (i := k) (by rw [HN.out]; omega), List.take_of_length_le (i := 20) (by rw [HN.out]; omega)]
      have hll : L.length = k := by rw [← hout, List.length_map, List.length_take, HN.out]; omega
      rw [hout] at HX
      have HLL := Lib.hid hll
      clear hout hll
      go_wp2
      go_ret
      exact ⟨_, rfl, by rw [HLL.out]; exact HX.out, HB.out⟩

/-! ### The chapter's examples -/
def xA : Tx := [97]
def xB : Tx := [98]
def x10 : Tx := [118, 49, 46, 48, 46, 48]
def x11 : Tx := [118, 49, 46, 49, 46, 48]
theorem exL1 : buildE [(xA, [x10, x11])] = ([(xA, x11)], 0) := by decide +kernel
theorem exL2 : (deltaE [(xA, x10)] [(xB, x10)]).1.length = 2 ∧ (deltaE [(xA, x10)] [(xB, x10)]).2 = 0 := by decide +kernel
theorem exL3 : pickE [(xA, x11)] xB = ([], 2) := by decide +kernel
theorem exL4 : ((mkB x11).toList == [118, 49, 46, 49, 46, 48]) = true := by rw [Lib.toList_data, mkB_list]; decide
theorem exS1 : ∀ n ∈ ([(xA, x10)] : List Nd), smallN n := fun n hn => by rw [List.mem_singleton.1 hn]; exact ⟨by decide, by decide⟩
theorem exS2 : ∀ n ∈ ([(xB, x10)] : List Nd), smallN n := fun n hn => by rw [List.mem_singleton.1 hn]; exact ⟨by decide, by decide⟩
theorem exS3 : ∀ n ∈ ([(xA, x11)] : List Nd), smallN n := fun n hn => by rw [List.mem_singleton.1 hn]; exact ⟨by decide, by decide⟩
theorem exR1 : ∀ r ∈ ([(xA, [x10, x11])] : List Rw), r.2.length ≤ 100000 := fun r hr => by rw [List.mem_singleton.1 hr]; decide
theorem exR2 : ∀ r ∈ ([(xA, [x10, x11])] : List Rw), r.1.length ≤ 1000000000 := fun r hr => by rw [List.mem_singleton.1 hr]; decide
theorem exR3 : ∀ r ∈ ([(xA, [x10, x11])] : List Rw), ∀ x ∈ r.2, x.length ≤ 1000000000 := fun r hr x hx => by
  rw [List.mem_singleton.1 hr] at hx
  rcases List.mem_cons.1 hx with rfl | hx
  · decide
  · rw [List.mem_singleton.1 hx]; decide
theorem rws_lit (w : World) (p u v : Tx) : Rws ((w.alloc (.cells #[.string (mkB u), .string (mkB v)] 9)).alloc (.cells #[.string (mkB p), .slice (some ⟨w.heap.size, 0, none⟩) 2 2] 63)) (.slice (some ⟨w.heap.size + 1, 0, none⟩) 1 1) [(p, [u, v])] :=
  ⟨some ⟨w.heap.size + 1, 0, none⟩, 1, rfl, Nat.le_refl _, by unfold maxLen; omega, (fun h => by cases h), fun _ => ⟨w.heap.size + 1, 0, rfl, fun j hj => by
    have hj2 : j = 0 := by simp at hj; omega
    subst hj2
    refine ⟨some ⟨w.heap.size, 0, none⟩, 2, 2, cell_new (by simp) rfl, cell_new (by simp) rfl, ⟨some ⟨w.heap.size, 0, none⟩, 2, rfl, Nat.le_refl _, by unfold maxLen; omega, (fun h => by cases h), fun _ => ⟨w.heap.size, 0, rfl, by simp; omega, fun i hi => ?_⟩⟩⟩
    have hi2 : i = 0 ∨ i = 1 := by simp at hi; omega
    rcases hi2 with rfl | rfl
    · exact cell_alloc (cell_new rfl rfl) _
    · exact cell_alloc (cell_new rfl rfl) _⟩⟩
set_option maxHeartbeats 3200000 in
theorem lawake_any (w : World) : Calls Tryz.prog 18 #[] w fun e w' => e = .returned (.bool true) ∧ Below w.heap.size w w' := by
  have h1 := fun V w h => lbuild_any V [(xA, [x10, x11])] w h (by decide) exR1 exR2 exR3
  have h2 := fun U V w h h' => ldelta_any U V [(xA, x10)] [(xB, x10)] w h h' exS1 exS2 (by decide) (by decide)
  have h3 := fun V w h => lpick_any V [(xA, x11)] xB w h exS3 (by decide)
  rw [exL1] at h1
  rw [exL3] at h3
  obtain ⟨D, hD⟩ : ∃ D, deltaE [(xA, x10)] [(xB, x10)] = D := ⟨_, rfl⟩
  have hd := exL2
  rw [hD] at h2 hd
  obtain ⟨dl, de⟩ := D
  simp only at h1 h2 h3 hd
  obtain ⟨hdl, rfl⟩ := hd
  rw [hdl] at h2
  have H1 := Lib.hid h1; have H2 := Lib.hid h2; have H3 := Lib.hid h3
  have R0 := Lib.hid (rws_lit w xA x10 x11)
  have B0 := Lib.hid (((Below.refl w.heap.size w).alloc (Nat.le_refl _) (.cells #[.string (mkB x10), .string (mkB x11)] 9)).alloc (by simp) (.cells #[.string (mkB xA), .slice (some ⟨w.heap.size, 0, none⟩) 2 2] 63))
  clear h1 h2 h3 hD
  go_enter Tryz.func18, Tryz.ntmps18
  go_upto_region 2 with (go_at_call 10; refine (H1.out _ _ R0.out).mono ?_; rintro e w1 ⟨v1, rfl, ho1, hb1⟩; obtain ⟨k1, c1, rfl, hd⟩ := ndsO (ns := [(xA, x11)]) ho1; have S1 := Lib.hid hd; have BB := Lib.hid (below_step B0.out hb1); clear hb1 ho1 hd)
  obtain ⟨w5, hw5⟩ : ∃ v, v = w1 := ⟨_, rfl⟩
  subst hw5
  have N1 := Lib.hid (nds_one w5 xA x10)
  obtain ⟨W, hW⟩ : ∃ W, w5.alloc (.cells #[.string (mkB xA), .string (mkB x10)] 55) = W := ⟨_, rfl⟩
  have N2 := Lib.hid (nds_one W xB x10)
  have hbx1 : Below w5.heap.size w5 W := by rw [← hW]; exact (Below.refl _ _).alloc (Nat.le_refl _) _
  have hbx2 : Below W.heap.size W (W.alloc (.cells #[.string (mkB xB), .string (mkB x10)] 55)) := (Below.refl _ _).alloc (Nat.le_refl _) _
  have hws : W.heap.size = w5.heap.size + 1 := by rw [← hW]; simp
  rw [hW] at N1
  have M1 := Lib.hid (N1.out.below hbx2)
  have BX := Lib.hid (below_step hbx1 hbx2)
  rw [hws] at N2
  rw [← hW] at M1 N2 BX
  clear hbx1 hbx2 hW hws
  go_upto_region 3 with (go_at_call 21; refine (H2.out _ _ _ M1.out N2.out).mono ?_; rintro e w2 ⟨v2, rfl, hr2, hb2⟩; obtain ⟨k2, c2, rfl, hd⟩ := chsO (es := dl) (by rw [hdl]; exact hr2); rw [hdl]; have hbw := below_step BX.out hb2; replace BB := Lib.hid (below_step BB.out hbw); replace S1 := Lib.hid (S1.out.below hbw); clear hb2 hr2 hbw hd)
  have hdl2 := hdl
  clear hdl
  go_upto_region 4 with (go_at_call 11; refine (H3.out _ _ S1.out).mono ?_; rintro e w3 ⟨rfl, hb3⟩; replace BB := Lib.hid (below_step BB.out hb3); replace S1 := Lib.hid (S1.out.below hb3); clear hb3)
  obtain ⟨b1, o1, rfl, -, -, q1⟩ := S1.out.at 0 (by decide)
  have q2 : w3.cell? ⟨b1, o1 + 1, none⟩ = some (.string (mkB x11)) := by simpa using q1
  have q3 := exL4
  clear q1
  go_wp2_with fail
  try go_quiet (fail)
  try go_wp2
  go_ret
  exact ⟨rfl, by first | exact BB.out | exact below_step BB.out (below_q ⟨1, rfl⟩) | exact below_step BB.out (below_q ⟨nq, rfl⟩)⟩
end Go.Proofs.YtlbibgofhhdgoaaGreat

namespace Go.Proofs.YtlbibgofhhdgoaaGreat
set_option linter.unusedVariables false
set_option maxRecDepth 100000

theorem decChs (l : List Ch) : decide (l = l) = true := decide_eq_true rfl
theorem decNds (l : List Nd) : decide (l = l) = true := decide_eq_true rfl
/-! ### What was, with the difference, is what is -/
/-! ### Above -/
/-! ### How many change -/
end Go.Proofs.YtlbibgofhhdgoaaGreat
