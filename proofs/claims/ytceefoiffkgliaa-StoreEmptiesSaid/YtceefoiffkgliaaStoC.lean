/- A list with these in the stead of what stands from the one place up to the other; a store in memory of its own: of the program. -/
import Derived.Test.YtceefoiffkgliaaStoB
namespace Go.Proofs.Ytceefoiffkgliaa
open Go.RowKit
set_option linter.unusedVariables false
set_option maxRecDepth 100000

theorem Nds.frontE {w : World} {A : Option Addr} {n c : Nat} {l : List Nd} (h : Nds w (.slice A n c) l) {i : Nat} (hi : i ≤ n) : ∃ A', sliced A 0 i c 2 = .slice A' i c ∧ ∀ w', Nds w' (.slice A n c) l → Nds w' (.slice A' i c) (l.take i) := by
  refine ⟨_, rfl, fun w' h' => ?_⟩
  obtain ⟨hl, hnc, -⟩ := h.lenE
  obtain ⟨_, _, hv, h1, h2, h3, h4⟩ := h'.ex
  injection hv with e1 e2 e3
  subst e1 e3
  have hli : (l.take i).length = i := by rw [List.length_take]; omega
  refine ⟨_, c, by rw [hli], by omega, h2, fun e => ?_, fun hp => ?_⟩
  · by_cases hc : c = 0
    · exact hc
    · rw [if_neg hc] at e
      exact h3 (by cases A with | none => rfl | some x => cases e)
  · rw [hli] at hp
    obtain ⟨b, off, rfl, hb, hc⟩ := h4 (by omega)
    refine ⟨b, off, ?_, hb, fun j hj => ?_⟩
    · rw [if_neg (by omega)]; simp [addr_add]
    · rw [hli] at hj
      have hg : (l.take i).getD j ([], []) = l.getD j ([], []) := by simp [List.getD_eq_getElem?_getD, hj]
      rw [hg]; exact hc j (by omega)
theorem Strs.frontE {w : World} {A : Option Addr} {n c : Nat} {l : List (List UInt8)} (h : Strs w (.slice A n c) l) {i : Nat} (hi : i ≤ n) : ∃ A', sliced A 0 i c 1 = .slice A' i c ∧ ∀ w', Strs w' (.slice A n c) l → Strs w' (.slice A' i c) (l.take i) := by
  refine ⟨_, rfl, fun w' h' => ?_⟩
  obtain ⟨hl, hnc, -⟩ := h.lenE
  obtain ⟨_, _, hv, h1, h2, h3, h4⟩ := h'.ex
  injection hv with e1 e2 e3
  subst e1 e3
  have hli : (l.take i).length = i := by rw [List.length_take]; omega
  refine ⟨_, c, by rw [hli], by omega, h2, fun e => ?_, fun hp => ?_⟩
  · by_cases hc : c = 0
    · exact hc
    · rw [if_neg hc] at e
      exact h3 (by cases A with | none => rfl | some x => cases e)
  · rw [hli] at hp
    obtain ⟨b, off, rfl, hb, hc⟩ := h4 (by omega)
    refine ⟨b, off, ?_, hb, fun j hj => ?_⟩
    · rw [if_neg (by omega)]; simp [addr_add]
    · rw [hli] at hj
      have hg : (l.take i).getD j [] = l.getD j [] := by simp [List.getD_eq_getElem?_getD, hj]
      rw [hg]; exact hc j (by omega)
theorem Nds.backE {w : World} {A : Option Addr} {n c : Nat} {l : List Nd} (h : Nds w (.slice A n c) l) {i : Nat} (hi : i ≤ n) : ∃ A', sliced A i n c 2 = .slice A' (n - i) (c - i) ∧ ∀ w', Nds w' (.slice A n c) l → Nds w' (.slice A' (n - i) (c - i)) (l.drop i) := by
  refine ⟨_, rfl, fun w' h' => ?_⟩
  obtain ⟨hl, hnc, -⟩ := h.lenE
  obtain ⟨_, _, hv, h1, h2, h3, h4⟩ := h'.ex
  injection hv with e1 e2 e3
  subst e1 e3
  have hli : (l.drop i).length = n - i := by rw [List.length_drop, hl]
  refine ⟨_, c - i, by rw [hli], by omega, by omega, fun e => ?_, fun hp => ?_⟩
  · by_cases hc : c = i
    · omega
    · rw [if_neg hc] at e
      have := h3 (by cases A with | none => rfl | some x => cases e)
      omega
  · rw [hli] at hp
    obtain ⟨b, off, rfl, hb, hc⟩ := h4 (by omega)
    refine ⟨b, off + i * 2, ?_, hb, fun j hj => ?_⟩
    · rw [if_neg (by omega)]; simp [addr_add]
    · rw [hli] at hj
      have hg : (l.drop i).getD j ([], []) = l.getD (i + j) ([], []) := by simp [List.getD_eq_getElem?_getD, List.getElem?_drop]
      rw [hg, show off + i * 2 + j * 2 = off + (i + j) * 2 by omega]; exact hc (i + j) (by omega)
theorem Strs.backE {w : World} {A : Option Addr} {n c : Nat} {l : List (List UInt8)} (h : Strs w (.slice A n c) l) {i : Nat} (hi : i ≤ n) : ∃ A', sliced A i n c 1 = .slice A' (n - i) (c - i) ∧ ∀ w', Strs w' (.slice A n c) l → Strs w' (.slice A' (n - i) (c - i)) (l.drop i) := by
  refine ⟨_, rfl, fun w' h' => ?_⟩
  obtain ⟨hl, hnc, -⟩ := h.lenE
  obtain ⟨_, _, hv, h1, h2, h3, h4⟩ := h'.ex
  injection hv with e1 e2 e3
  subst e1 e3
  have hli : (l.drop i).length = n - i := by rw [List.length_drop, hl]
  refine ⟨_, c - i, by rw [hli], by omega, by omega, fun e => ?_, fun hp => ?_⟩
  · by_cases hc : c = i
    · omega
    · rw [if_neg hc] at e
      have := h3 (by cases A with | none => rfl | some x => cases e)
      omega
  · rw [hli] at hp
    obtain ⟨b, off, rfl, hb, hc⟩ := h4 (by omega)
    refine ⟨b, off + i * 1, ?_, hb, fun j hj => ?_⟩
    · rw [if_neg (by omega)]; simp [addr_add]
    · rw [hli] at hj
      have hg : (l.drop i).getD j [] = l.getD (i + j) [] := by simp [List.getD_eq_getElem?_getD, List.getElem?_drop]
      rw [hg, show off + i * 1 + j = off + (i + j) by omega]; exact hc (i + j) (by omega)
theorem blkG.cell {t : TypeId} {cs : Array Value} {w : World} {b : Nat} (h : w.heap[b]? = some (.cells cs t (0, 0))) {j : Nat} {u : Value} (hu : cs[j]? = some u) : w.cell? ⟨b, 0 + j, none⟩ = some u := by
  unfold World.cell?; rw [Nat.zero_add]; simp only [h]; exact hu

set_option maxHeartbeats 1600000 in
theorem nd_with (A : Option Addr) (n c : Nat) (l : List (Nd)) (i j : Nat) (A2 : Option Addr) (n2 c2 : Nat) (M : List (Nd)) (w : World) (hU : Nds w (.slice A n c) l) (hM : Nds w (.slice A2 n2 c2) M) (hi : i ≤ n) (hj : j ≤ n) (hl : n ≤ 600000) (hm : n2 ≤ 600000) :
    Calls Try.prog 27 #[.slice A n c, .int .i64 (i : Int), .int .i64 (j : Int), .slice A2 n2 c2] w fun e w' => ∃ v, e = .returned v ∧ w'.ownsRow w.heap.size 27 2 v (l.take i ++ M ++ l.drop j).length (ndsC (l.take i ++ M ++ l.drop j)) ∧ Below w.heap.size w w' := by
  obtain ⟨X, hX⟩ : ∃ X, l.take i ++ M ++ l.drop j = X := ⟨_, rfl⟩
  have hXL : X.length ≤ 2000000 := by
    rw [← hX, List.length_append, List.length_append, List.length_take, List.length_drop, hU.lenE.1, hM.lenE.1]; omega
  have hXF : [l.take i, M, l.drop j].flatten = X := by rw [← hX]; simp
  rw [hX]
  obtain ⟨A1, hA1, hN1⟩ := hU.frontE hi
  obtain ⟨A3, hA3, hN3⟩ := hU.backE hj
  have hlU := hU.lenE
  have HI := Lib.hid (Nat.le_trans hi hlU.2.1); have HJ := Lib.hid hj; have HNC := Lib.hid hlU.2.1; have HA1 := Lib.hid hA1; have HA3 := Lib.hid hA3; have N1 := Lib.hid hN1; have N3 := Lib.hid hN3; have SU := Lib.hid hU; have SM := Lib.hid hM; have HX := Lib.hid hXF; have HXL := Lib.hid hXL
  clear hX hXL hXF hA1 hA3 hN1 hN3 hlU hU hM hi hj hl hm
  have e1 : ∀ args w, (callFunc 42 args).run Try.prog w = .ok (.enter 42 args) w := enters_of Try.func42 (by kernel_rfl) rfl
  go_enter Try.func27, Try.ntmps27
  go_upto_region 1 with fail
  refine rol_run (by kernel_rfl) [[], [], [0, 1], [], [], [], [4, 5], [0, 1, 2, 3, 4, 5, 6], [0, 1, 2, 3, 4, 5, 6, 7], [0, 1, 2, 3, 4, 5, 6, 7, 8]] (by kernel_rfl) [9, 10, 11, 12, 13, 14, 15, 16, 17, 8] [[], [], [0, 1], [], [], [], [4, 5], [2, 3, 6], [7], [8]] [0, 0, 0, 0, 0, 0, 0, 1, 1, 1] [0, 0, 0, 0, 0, 0, 0, 0, 0, 0] [1000, 1000, 1000, 1000, 1000, 1000, 1000, 1000, 1000, 1000] [.val 9 (.slice A n c), .val 10 (.int .i64 (i : Int)), .val 11 (.slice A1 i c), .val 12 (.slice A2 n2 c2), .val 13 (.slice A n c), .val 14 (.int .i64 (j : Int)), .val 15 (.slice A3 (n - j) (c - j)), .mem 16 (blkG 22 #[.slice A1 i c, .slice A2 n2 c2, .slice A3 (n - j) (c - j)] 3), .mem 17 (rowG w.heap.size 27 2 X.length (ndsC X)), .mem 8 (rowG w.heap.size 27 2 X.length (ndsC X))] (by kernel_rfl) ?_ (w.heap.size) (w.heap.size) rfl (Below.refl _ _) rfl (fun _ => 0) ?_ ?_ ?_
  · intro j hj
    have hj3 : j < 10 := hj
    have hj2 : j = 0 ∨ j = 1 ∨ j = 2 ∨ j = 3 ∨ j = 4 ∨ j = 5 ∨ j = 6 ∨ j = 7 ∨ j = 8 ∨ j = 9 := by omega
    clear hj hj3
    rcases hj2 with rfl | rfl | rfl | rfl | rfl | rfl | rfl | rfl | rfl | rfl
    · exact trivial
    · exact trivial
    · exact trivial
    · exact trivial
    · exact trivial
    · exact trivial
    · exact trivial
    · exact blkG_near
    · exact rowG_near
    · exact rowG_near
  · intro j hj0 hj
    exact absurd hj (Nat.not_lt.2 hj0)
  · intro i hi a wx who hG hF
    have hz : a.tmps.size = 18 := hG.size
    have hi3 : i < 10 := hi
    have hi2 : i = 0 ∨ i = 1 ∨ i = 2 ∨ i = 3 ∨ i = 4 ∨ i = 5 ∨ i = 6 ∨ i = 7 ∨ i = 8 ∨ i = 9 := by omega
    clear hi hi3
    rcases hi2 with rfl | rfl | rfl | rfl | rfl | rfl | rfl | rfl | rfl | rfl
    · exact rol_val rfl rfl rfl (by rw [hz]; decide) (ex_move (Or.inl rfl) (eval_slot ((hG.slots 0 (by decide)).trans rfl))) hG.below
    · exact rol_val rfl rfl rfl (by rw [hz]; decide) (ex_move (Or.inl rfl) (eval_slot ((hG.slots 1 (by decide)).trans rfl))) hG.below
    · exact rol_val rfl rfl rfl (by rw [hz]; decide) (ex_cut rfl (eval_slot (hF 0 (by decide))) (eval_slot (hF 1 (by decide))) ((nd_front wx A n c i HI.out).trans (by rw [HA1.out]))) hG.below
    · exact rol_val rfl rfl rfl (by rw [hz]; decide) (ex_move (Or.inl rfl) (eval_slot ((hG.slots 3 (by decide)).trans rfl))) hG.below
    · exact rol_val rfl rfl rfl (by rw [hz]; decide) (ex_move (Or.inl rfl) (eval_slot ((hG.slots 0 (by decide)).trans rfl))) hG.below
    · exact rol_val rfl rfl rfl (by rw [hz]; decide) (ex_move (Or.inl rfl) (eval_slot ((hG.slots 2 (by decide)).trans rfl))) hG.below
    · exact rol_val rfl rfl rfl (by rw [hz]; decide) (ex_back rfl (eval_slot (hF 4 (by decide))) (eval_slot (hF 5 (by decide))) ((nd_back wx A n c j HJ.out HNC.out).trans (by rw [HA3.out]))) hG.below
    · exact rol_newO rfl rfl rfl (by rw [hz]; decide) (x := .cells #[.slice A1 i c, .slice A2 n2 c2, .slice A3 (n - j) (c - j)] 22) (v := .slice (some ⟨wx.heap.size, 0, none⟩) 3 3) (ex_slice rfl (vs := #[(0, .slice A1 i c), (1, .slice A2 n2 c2), (2, .slice A3 (n - j) (c - j))]) (by simp only [List.map_toArray, List.map_cons, List.map_nil, eval_slot (hF 2 (by decide)), eval_slot (hF 3 (by decide)), eval_slot (hF 6 (by decide))]) (by go_simp)) ⟨_, rfl, rfl, heap_alloc_new _ _⟩ hG.below hG.new
    · obtain ⟨v, ob, hv, hob, b, rfl, rfl, hh⟩ := hF 7 (by decide)
      have hL : NdsL wx (.slice (some ⟨b, 0, none⟩) 3 3) [l.take i, M, l.drop j] := ⟨b, 0, 3, rfl, Nat.le_refl _, by unfold maxLen; omega, fun t ht => by
        have ht2 : t = 0 ∨ t = 1 ∨ t = 2 := by simp at ht; omega
        rcases ht2 with rfl | rfl | rfl
        · exact ⟨_, _, _, blkG.cell hh rfl, N1.out wx (Nds.below SU.out hG.below)⟩
        · exact ⟨_, _, _, blkG.cell hh rfl, Nds.below SM.out hG.below⟩
        · exact ⟨_, _, _, blkG.cell hh rfl, N3.out wx (Nds.below SU.out hG.below)⟩⟩
      refine rol_calls rfl rfl rfl (by rw [hz]; decide) (ex_call rfl (by simp [eval_slot hv]) e1) (nd_concat _ [l.take i, M, l.drop j] wx hL (by simp) (by rw [HX.out]; exact HXL.out)) ?_ hG.below hG.new
      rintro e w1 ⟨u, rfl, hown, hb1⟩
      rw [HX.out] at hown
      exact ⟨u, rfl, hb1, .inr (.inl ⟨_, u.ownBlock, rfl, fun b e => hown.lt b e, row_base hown hG.new, rfl⟩)⟩
    · exact rol_move rfl rfl rfl (by rw [hz]; decide) (Or.inr rfl) (hF 8 (by decide)) hG.below
  · intro a wx who hG hF
    obtain ⟨v8, ob8, fv8, fo8, fp8⟩ := hF 9 (of_decide_eq_true (by kernel_rfl)) (of_decide_eq_true (by kernel_rfl))
    replace fv8 : a.tmps.getD 8 undef = v8 := eval_slot (s := 8) fv8
    have hbx := hG.below
    have hnx := hG.new
    rw [hG.frame]
    simp only [List.foldl_cons, List.foldl_nil, List.setIfInBounds_toArray, List.set_cons_zero, List.set_cons_succ]
    generalize a.tmps.getD 9 undef = u9
    generalize a.tmps.getD 10 undef = u10
    generalize a.tmps.getD 11 undef = u11
    generalize a.tmps.getD 12 undef = u12
    generalize a.tmps.getD 13 undef = u13
    generalize a.tmps.getD 14 undef = u14
    generalize a.tmps.getD 15 undef = u15
    generalize a.tmps.getD 16 undef = u16
    generalize a.tmps.getD 17 undef = u17
    rw [fv8]
    clear hF hG fv8
    obtain ⟨hrow, -⟩ := fp8
    have HR := Lib.hid hrow
    clear hrow fo8
    go_wp2
    go_ret
    exact ⟨_, rfl, HR.out, hbx⟩

set_option maxHeartbeats 1600000 in
theorem st_with (A : Option Addr) (n c : Nat) (l : List (List UInt8)) (i j : Nat) (A2 : Option Addr) (n2 c2 : Nat) (M : List (List UInt8)) (w : World) (hU : Strs w (.slice A n c) l) (hM : Strs w (.slice A2 n2 c2) M) (hi : i ≤ n) (hj : j ≤ n) (hl : n ≤ 600000) (hm : n2 ≤ 600000) :
    Calls Try.prog 28 #[.slice A n c, .int .i64 (i : Int), .int .i64 (j : Int), .slice A2 n2 c2] w fun e w' => ∃ v, e = .returned v ∧ w'.ownsRow w.heap.size 9 1 v (l.take i ++ M ++ l.drop j).length (strC (l.take i ++ M ++ l.drop j)) ∧ Below w.heap.size w w' := by
  obtain ⟨X, hX⟩ : ∃ X, l.take i ++ M ++ l.drop j = X := ⟨_, rfl⟩
  have hXL : X.length ≤ 2000000 := by
    rw [← hX, List.length_append, List.length_append, List.length_take, List.length_drop, hU.lenE.1, hM.lenE.1]; omega
  have hXF : [l.take i, M, l.drop j].flatten = X := by rw [← hX]; simp
  rw [hX]
  obtain ⟨A1, hA1, hN1⟩ := hU.frontE hi
  obtain ⟨A3, hA3, hN3⟩ := hU.backE hj
  have hlU := hU.lenE
  have HI := Lib.hid (Nat.le_trans hi hlU.2.1); have HJ := Lib.hid hj; have HNC := Lib.hid hlU.2.1; have HA1 := Lib.hid hA1; have HA3 := Lib.hid hA3; have N1 := Lib.hid hN1; have N3 := Lib.hid hN3; have SU := Lib.hid hU; have SM := Lib.hid hM; have HX := Lib.hid hXF; have HXL := Lib.hid hXL
  clear hX hXL hXF hA1 hA3 hN1 hN3 hlU hU hM hi hj hl hm
  have e1 : ∀ args w, (callFunc 43 args).run Try.prog w = .ok (.enter 43 args) w := enters_of Try.func43 (by kernel_rfl) rfl
  go_enter Try.func28, Try.ntmps28
  go_upto_region 1 with fail
  refine rol_run (by kernel_rfl) [[], [], [0, 1], [], [], [], [4, 5], [0, 1, 2, 3, 4, 5, 6], [0, 1, 2, 3, 4, 5, 6, 7], [0, 1, 2, 3, 4, 5, 6, 7, 8]] (by kernel_rfl) [9, 10, 11, 12, 13, 14, 15, 16, 17, 8] [[], [], [0, 1], [], [], [], [4, 5], [2, 3, 6], [7], [8]] [0, 0, 0, 0, 0, 0, 0, 1, 1, 1] [0, 0, 0, 0, 0, 0, 0, 0, 0, 0] [1000, 1000, 1000, 1000, 1000, 1000, 1000, 1000, 1000, 1000] [.val 9 (.slice A n c), .val 10 (.int .i64 (i : Int)), .val 11 (.slice A1 i c), .val 12 (.slice A2 n2 c2), .val 13 (.slice A n c), .val 14 (.int .i64 (j : Int)), .val 15 (.slice A3 (n - j) (c - j)), .mem 16 (blkG 23 #[.slice A1 i c, .slice A2 n2 c2, .slice A3 (n - j) (c - j)] 3), .mem 17 (rowG w.heap.size 9 1 X.length (strC X)), .mem 8 (rowG w.heap.size 9 1 X.length (strC X))] (by kernel_rfl) ?_ (w.heap.size) (w.heap.size) rfl (Below.refl _ _) rfl (fun _ => 0) ?_ ?_ ?_
  · intro j hj
    have hj3 : j < 10 := hj
    have hj2 : j = 0 ∨ j = 1 ∨ j = 2 ∨ j = 3 ∨ j = 4 ∨ j = 5 ∨ j = 6 ∨ j = 7 ∨ j = 8 ∨ j = 9 := by omega
    clear hj hj3
    rcases hj2 with rfl | rfl | rfl | rfl | rfl | rfl | rfl | rfl | rfl | rfl
    · exact trivial
    · exact trivial
    · exact trivial
    · exact trivial
    · exact trivial
    · exact trivial
    · exact trivial
    · exact blkG_near
    · exact rowG_near
    · exact rowG_near
  · intro j hj0 hj
    exact absurd hj (Nat.not_lt.2 hj0)
  · intro i hi a wx who hG hF
    have hz : a.tmps.size = 18 := hG.size
    have hi3 : i < 10 := hi
    have hi2 : i = 0 ∨ i = 1 ∨ i = 2 ∨ i = 3 ∨ i = 4 ∨ i = 5 ∨ i = 6 ∨ i = 7 ∨ i = 8 ∨ i = 9 := by omega
    clear hi hi3
    rcases hi2 with rfl | rfl | rfl | rfl | rfl | rfl | rfl | rfl | rfl | rfl
    · exact rol_val rfl rfl rfl (by rw [hz]; decide) (ex_move (Or.inl rfl) (eval_slot ((hG.slots 0 (by decide)).trans rfl))) hG.below
    · exact rol_val rfl rfl rfl (by rw [hz]; decide) (ex_move (Or.inl rfl) (eval_slot ((hG.slots 1 (by decide)).trans rfl))) hG.below
    · exact rol_val rfl rfl rfl (by rw [hz]; decide) (ex_cut rfl (eval_slot (hF 0 (by decide))) (eval_slot (hF 1 (by decide))) ((st_front wx A n c i HI.out).trans (by rw [HA1.out]))) hG.below
    · exact rol_val rfl rfl rfl (by rw [hz]; decide) (ex_move (Or.inl rfl) (eval_slot ((hG.slots 3 (by decide)).trans rfl))) hG.below
    · exact rol_val rfl rfl rfl (by rw [hz]; decide) (ex_move (Or.inl rfl) (eval_slot ((hG.slots 0 (by decide)).trans rfl))) hG.below
    · exact rol_val rfl rfl rfl (by rw [hz]; decide) (ex_move (Or.inl rfl) (eval_slot ((hG.slots 2 (by decide)).trans rfl))) hG.below
    · exact rol_val rfl rfl rfl (by rw [hz]; decide) (ex_back rfl (eval_slot (hF 4 (by decide))) (eval_slot (hF 5 (by decide))) ((st_back wx A n c j HJ.out HNC.out).trans (by rw [HA3.out]))) hG.below
    · exact rol_newO rfl rfl rfl (by rw [hz]; decide) (x := .cells #[.slice A1 i c, .slice A2 n2 c2, .slice A3 (n - j) (c - j)] 23) (v := .slice (some ⟨wx.heap.size, 0, none⟩) 3 3) (ex_slice rfl (vs := #[(0, .slice A1 i c), (1, .slice A2 n2 c2), (2, .slice A3 (n - j) (c - j))]) (by simp only [List.map_toArray, List.map_cons, List.map_nil, eval_slot (hF 2 (by decide)), eval_slot (hF 3 (by decide)), eval_slot (hF 6 (by decide))]) (by go_simp)) ⟨_, rfl, rfl, heap_alloc_new _ _⟩ hG.below hG.new
    · obtain ⟨v, ob, hv, hob, b, rfl, rfl, hh⟩ := hF 7 (by decide)
      have hL : StrsL wx (.slice (some ⟨b, 0, none⟩) 3 3) [l.take i, M, l.drop j] := ⟨b, 0, 3, rfl, Nat.le_refl _, by unfold maxLen; omega, fun t ht => by
        have ht2 : t = 0 ∨ t = 1 ∨ t = 2 := by simp at ht; omega
        rcases ht2 with rfl | rfl | rfl
        · exact ⟨_, _, _, blkG.cell hh rfl, N1.out wx (Strs.belowB SU.out hG.below)⟩
        · exact ⟨_, _, _, blkG.cell hh rfl, Strs.belowB SM.out hG.below⟩
        · exact ⟨_, _, _, blkG.cell hh rfl, N3.out wx (Strs.belowB SU.out hG.below)⟩⟩
      refine rol_calls rfl rfl rfl (by rw [hz]; decide) (ex_call rfl (by simp [eval_slot hv]) e1) (st_concat _ [l.take i, M, l.drop j] wx hL (by simp) (by rw [HX.out]; exact HXL.out)) ?_ hG.below hG.new
      rintro e w1 ⟨u, rfl, hown, hb1⟩
      rw [HX.out] at hown
      exact ⟨u, rfl, hb1, .inr (.inl ⟨_, u.ownBlock, rfl, fun b e => hown.lt b e, row_base hown hG.new, rfl⟩)⟩
    · exact rol_move rfl rfl rfl (by rw [hz]; decide) (Or.inr rfl) (hF 8 (by decide)) hG.below
  · intro a wx who hG hF
    obtain ⟨v8, ob8, fv8, fo8, fp8⟩ := hF 9 (of_decide_eq_true (by kernel_rfl)) (of_decide_eq_true (by kernel_rfl))
    replace fv8 : a.tmps.getD 8 undef = v8 := eval_slot (s := 8) fv8
    have hbx := hG.below
    have hnx := hG.new
    rw [hG.frame]
    simp only [List.foldl_cons, List.foldl_nil, List.setIfInBounds_toArray, List.set_cons_zero, List.set_cons_succ]
    generalize a.tmps.getD 9 undef = u9
    generalize a.tmps.getD 10 undef = u10
    generalize a.tmps.getD 11 undef = u11
    generalize a.tmps.getD 12 undef = u12
    generalize a.tmps.getD 13 undef = u13
    generalize a.tmps.getD 14 undef = u14
    generalize a.tmps.getD 15 undef = u15
    generalize a.tmps.getD 16 undef = u16
    generalize a.tmps.getD 17 undef = u17
    rw [fv8]
    clear hF hG fv8
    obtain ⟨hrow, -⟩ := fp8
    have HR := Lib.hid hrow
    clear hrow fo8
    go_wp2
    go_ret
    exact ⟨_, rfl, HR.out, hbx⟩
end Go.Proofs.Ytceefoiffkgliaa
