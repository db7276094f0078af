/- A graph in memory of its own: of the program. -/
import Derived.Test.YtfkbpkjejnpaiaaReaG
namespace Go.Proofs.Ytfkbpkjejnpaiaa
open Go.RowKit
set_option linter.unusedVariables false
set_option maxRecDepth 100000

theorem ld_eds {w : World} {g i n c : Nat} {a : Option Addr} (h : w.cell? ⟨g, i, none⟩ = some (.slice a n c)) : Sem.run Try.prog (Instr.loadAt 22 (.pointer (some ⟨g, i, none⟩))) w = .ok (.slice a n c) w := by
  go_simp
theorem ld_ints {w : World} {g i n c : Nat} {a : Option Addr} (h : w.cell? ⟨g, i, none⟩ = some (.slice a n c)) : Sem.run Try.prog (Instr.loadAt 23 (.pointer (some ⟨g, i, none⟩))) w = .ok (.slice a n c) w := by
  go_simp
theorem ld_gra {w : World} {g n c m d : Nat} {a b : Option Addr} (h : w.cell? ⟨g, 0, none⟩ = some (.slice a n c)) (h' : w.cell? ⟨g, 1, none⟩ = some (.slice b m d)) : Sem.run Try.prog (Instr.loadAt 25 (.pointer (some ⟨g, 0, none⟩))) w = .ok (.agg #[.slice a n c, .slice b m d]) w := by
  go_simp
theorem blkR.cell {t : TypeId} {cs : Array Value} {w : World} {b : Nat} (h : w.heap[b]? = some (.cells cs t (0, 0))) {j : Nat} {u : Value} (hu : cs[j]? = some u) : w.cell? ⟨b, 0 + j, none⟩ = some u := by
  unfold World.cell?; rw [Nat.zero_add]; simp only [h]; exact hu
theorem boxR1 (w : World) (x y : Value) (t : TypeId) : ∃ W g, w.alloc (.cells #[x, y] t) = W ∧ w.heap.size = g ∧ W.heap[g]? = some (.cells #[x, y] t (0, 0)) ∧ Below w.heap.size w W :=
  ⟨_, _, rfl, rfl, heap_alloc_new _ _, (Below.refl _ _).alloc (Nat.le_refl _) _⟩
theorem boxR2 (w : World) (x y x' y' : Value) (t t' : TypeId) : ∃ W g g', (w.alloc (.cells #[x, y] t)).alloc (.cells #[x', y'] t') = W ∧ w.heap.size = g ∧ w.heap.size + 1 = g' ∧ W.heap[g]? = some (.cells #[x, y] t (0, 0)) ∧ W.heap[g']? = some (.cells #[x', y'] t' (0, 0)) ∧ Below w.heap.size w W :=
  ⟨_, _, _, rfl, rfl, rfl, row_keepB (heap_alloc_new _ _) ((Below.refl _ _).alloc (Nat.le_refl _) _), by have := heap_alloc_new (w.alloc (.cells #[x, y] t)) (.cells #[x', y'] t'); simpa using this, ((Below.refl _ _).alloc (Nat.le_refl _) _).alloc (by simp) _⟩
theorem Try.size_gra : (Try.prog.info? 25).map (·.size) = some 2 := by kernel_rfl
section
variable {P : Program}
theorem results_ctR {fn : Func} {q r : Tmp} {ty : TypeId} (h : fn.results = #[.cell q ty, .tmp r]) (tmps : Array Value) (w : World) (g : Nat) (t : TypeId) (cs : Array Value) (fr : Nat × Nat) (d : TypeDesc)
    (hp : tmps.getD q undef = .pointer (some ⟨g, 0, none⟩)) (hg : w.heap[g]? = some (.cells cs t fr))
    (hu : P.underlying ty = some d) (hd : (match d with | .struct _ | .array _ _ => true | _ => false) = true) (hi : (P.info? ty).map (·.size) = some cs.size) :
    (results fn tmps).run P w = .ok (.tuple #[.agg cs, tmps.getD r undef]) w := by
  have hp' : tmps[q]?.getD undef = .pointer (some ⟨g, 0, none⟩) := by simpa using hp
  simp [results, h, hp', asAddr, run_loadVar_row w g t ty cs fr d hg hu hd hi]
end

set_option maxHeartbeats 1600000 in
theorem rown_any (A B : Option Addr) (n c m d : Nat) (K : List Ed) (T : List Int) (w : World) (hk : Eds w (.slice A n c) K) (ht : Ints w (.slice B m d) T) (hn : n ≤ 600000) (hm : m ≤ 600000) :
    Calls Try.prog 41 #[.agg #[.slice A n c, .slice B m d]] w fun e w' => ∃ v, e = .returned v ∧ GraO w' (w.heap.size + 1) v K T ∧ Below w.heap.size w w' := by
  obtain ⟨W, g, g', hW, hg, hg', r0, r1, hb⟩ := boxR2 w (.slice A n c) (.slice B m d) (.slice none 0 0) (.slice none 0 0) 25 25
  have hkl : K.length ≤ 2000000 := by rw [hk.lenE.1]; omega
  have htl : T.length ≤ 2000000 := by rw [ht.lenE.1]; omega
  have hw2 : w.heap.size + 1 ≤ W.heap.size := by have := (Array.getElem?_eq_some_iff.1 r1).1; omega
  have SK := Lib.hid hk; have ST := Lib.hid ht; have HKL := Lib.hid hkl; have HTL := Lib.hid htl
  have HW := Lib.hid hW; have HG := Lib.hid hg; have HG' := Lib.hid hg'; have BB := Lib.hid hb; have R0 := Lib.hid r0; have R1 := Lib.hid r1; have HGL := Lib.hid (show w.heap.size ≤ g' by omega); have HNE := Lib.hid (show ¬ g = g' by omega); have HW2 := Lib.hid hw2
  clear hk ht hkl htl hW hg hg' hb r0 r1 hn hm hw2
  have e1 : ∀ args w, (callFunc 33 args).run Try.prog w = .ok (.enter 33 args) w := enters_of Try.func33 (by kernel_rfl) rfl
  have e2 : ∀ args w, (callFunc 55 args).run Try.prog w = .ok (.enter 55 args) w := enters_of Try.func55 (by kernel_rfl) rfl
  go_enter Try.func41, Try.ntmps41
  go_upto_region 1 with fail
  rw [HW.out, HG'.out, HG.out]
  refine rol_run (by kernel_rfl) [[], [0], [0, 1], [0, 1, 2], [], [4], [4, 5], [0, 1, 2, 3, 4, 5, 6], [0, 1, 2, 3, 4, 5, 6, 7], [0, 1, 2, 3, 4, 5, 6, 7, 8]] (by kernel_rfl) [3, 4, 5, 6, 7, 8, 9, 10, 11] [[], [0, 10], [1], [2], [], [4, 10], [5], [6], [3, 7], [8, 11]] [0, 0, 1, 1, 0, 0, 1, 1, 1, 2, 3, 2] [0, 0, 0, 0, 0, 0, 0, 0, 0, 2] [1000, 1000, 1000, 1000, 1000, 1000, 1000, 1000, 1000, 1000, 1000, 9] [.val 3 (.pointer (some ⟨g, 0, none⟩)), .val 4 (.slice A n c), .mem 5 (blkR 22 #[.slice A n c] 1), .mem 6 (rowR W.heap.size 43 3 K.length (edC K)), .val 7 (.pointer (some ⟨g, 1, none⟩)), .val 8 (.slice B m d), .mem 9 (blkR 23 #[.slice B m d] 1), .mem 10 (rowR W.heap.size 3 1 T.length (intZ T)), .mems 11 (graR W.heap.size K T), .mem 11 (boxR g' 25), .box (g) (.cells #[.slice A n c, .slice B m d] 25), .box (g') (.cells #[.slice none 0 0, .slice none 0 0] 25)] (by kernel_rfl) ?_ (w.heap.size) (W.heap.size) rfl BB.out rfl (fun k => if k = g' then 2 else 3) ?_ ?_ ?_
  · intro j hj
    have hj3 : j < 12 := hj
    have hj2 : j = 0 ∨ j = 1 ∨ j = 2 ∨ j = 3 ∨ j = 4 ∨ j = 5 ∨ j = 6 ∨ j = 7 ∨ j = 8 ∨ j = 9 ∨ j = 10 ∨ j = 11 := by omega
    clear hj hj3
    rcases hj2 with rfl | rfl | rfl | rfl | rfl | rfl | rfl | rfl | rfl | rfl | rfl | rfl
    · exact trivial
    · exact trivial
    · exact blkR_near
    · exact rowR_near
    · exact trivial
    · exact trivial
    · exact blkR_near
    · exact rowR_near
    · exact graR_near
    · exact boxR_near
    · exact trivial
    · exact trivial
  · intro j hj0 hj
    have hj1 : 10 ≤ j := hj0
    have hj3 : j < 12 := hj
    have hj2 : j = 10 ∨ j = 11 := by omega
    clear hj0 hj hj1 hj3
    rcases hj2 with rfl | rfl
    · exact ⟨R0.out, if_neg HNE.out⟩
    · exact ⟨R1.out, if_pos rfl⟩
  · intro i hi a wx who hG hF
    have hz : a.tmps.size = 12 := hG.size
    have hi3 : i < 10 := hi
    have hi2 : i = 0 ∨ i = 1 ∨ i = 2 ∨ i = 3 ∨ i = 4 ∨ i = 5 ∨ i = 6 ∨ i = 7 ∨ i = 8 ∨ i = 9 := by omega
    clear hi hi3
    rcases hi2 with rfl | rfl | rfl | rfl | rfl | rfl | rfl | rfl | rfl | rfl
    · exact rol_val rfl rfl rfl (by rw [hz]; decide) (ex_field rfl (eval_slot ((hG.slots 1 (by decide)).trans rfl)) (by go_simp)) hG.below
    · exact rol_val rfl rfl rfl (by rw [hz]; decide) (ex_load rfl (eval_slot (hF 0 (by decide))) (ld_eds (row2 (hF 10 (by decide)).1).1)) hG.below
    · exact rol_newO rfl rfl rfl (by rw [hz]; decide) (x := .cells #[.slice A n c] 22) (v := .slice (some ⟨wx.heap.size, 0, none⟩) 1 1) (ex_slice rfl (vs := #[(0, .slice A n c)]) (by simp only [List.map_toArray, List.map_cons, List.map_nil, eval_slot (hF 1 (by decide))]) (by go_simp)) ⟨_, rfl, rfl, heap_alloc_new _ _⟩ hG.below (Nat.le_trans BB.out.size hG.new)
    · obtain ⟨v, ob, hv, hob, b, rfl, rfl, hh⟩ := hF 2 (by decide)
      have hL : EdsL wx (.slice (some ⟨b, 0, none⟩) 1 1) [K] := ⟨b, 0, 1, rfl, Nat.le_refl _, by unfold maxLen; omega, fun t ht => by
        have ht2 : t = 0 := by simp at ht; omega
        subst ht2
        exact ⟨_, _, _, blkR.cell hh rfl, Eds.below SK.out hG.below⟩⟩
      refine rol_calls rfl rfl rfl (by rw [hz]; decide) (ex_call rfl (by simp [eval_slot hv]) e1) (ed_concat _ [K] wx hL (by simp) (by simpa using HKL.out)) ?_ hG.below (Nat.le_trans BB.out.size hG.new)
      rintro e w1 ⟨u, rfl, hown, hb1⟩
      rw [show [K].flatten = K by simp] at hown
      exact ⟨u, rfl, hb1, .inr (.inl ⟨_, u.ownBlock, rfl, fun b e => hown.lt b e, row_base hown hG.new, rfl⟩)⟩
    · exact rol_val rfl rfl rfl (by rw [hz]; decide) (ex_field rfl (eval_slot ((hG.slots 1 (by decide)).trans rfl)) (by go_simp)) hG.below
    · exact rol_val rfl rfl rfl (by rw [hz]; decide) (ex_load rfl (eval_slot (hF 4 (by decide))) (ld_ints (row2 (hF 10 (by decide)).1).2.1)) hG.below
    · exact rol_newO rfl rfl rfl (by rw [hz]; decide) (x := .cells #[.slice B m d] 23) (v := .slice (some ⟨wx.heap.size, 0, none⟩) 1 1) (ex_slice rfl (vs := #[(0, .slice B m d)]) (by simp only [List.map_toArray, List.map_cons, List.map_nil, eval_slot (hF 5 (by decide))]) (by go_simp)) ⟨_, rfl, rfl, heap_alloc_new _ _⟩ hG.below (Nat.le_trans BB.out.size hG.new)
    · obtain ⟨v, ob, hv, hob, b, rfl, rfl, hh⟩ := hF 6 (by decide)
      have hL : IntsL wx (.slice (some ⟨b, 0, none⟩) 1 1) [T] := ⟨b, 0, 1, rfl, Nat.le_refl _, by unfold maxLen; omega, fun t ht => by
        have ht2 : t = 0 := by simp at ht; omega
        subst ht2
        exact ⟨_, _, _, blkR.cell hh rfl, Ints.belowB ST.out hG.below⟩⟩
      refine rol_calls rfl rfl rfl (by rw [hz]; decide) (ex_call rfl (by simp [eval_slot hv]) e2) (iz_concat _ [T] wx hL (by simp) (by simpa using HTL.out)) ?_ hG.below (Nat.le_trans BB.out.size hG.new)
      rintro e w1 ⟨u, rfl, hown, hb1⟩
      rw [show [T].flatten = T by simp] at hown
      exact ⟨u, rfl, hb1, .inr (.inl ⟨_, u.ownBlock, rfl, fun b e => hown.lt b e, row_base hown hG.new, rfl⟩)⟩
    · exact rol_aggR rfl rfl rfl (by rw [hz]; decide) rfl rfl rfl (hF 3 (by decide)) (hF 7 (by decide)) hG.below
    · exact rol_boxR rfl rfl rfl rfl (eval_slot ((hG.slots 2 (by decide)).trans rfl)) (hF 8 (by decide)) (hF 11 (by decide)) hG.below HGL.out
  · intro a wx who hG hF
    obtain ⟨v11, bs11, fv11, fo11, fp11⟩ := hF 8 (of_decide_eq_true (by kernel_rfl)) (of_decide_eq_true (by kernel_rfl))
    replace fv11 : a.tmps.getD 11 undef = v11 := eval_slot (s := 11) fv11
    have hbox := hF 9 (of_decide_eq_true (by kernel_rfl)) (of_decide_eq_true (by kernel_rfl))
    obtain ⟨p11, ob11, hp11, -, -, x11, y11, hv11, hrow11⟩ := hbox
    have e11 : v11 = p11 := fv11.symm.trans (eval_slot hp11)
    subst e11
    clear hp11 ob11
    have hbx := hG.below
    have hnx := hG.new
    rw [hG.frame]
    simp only [List.foldl_cons, List.foldl_nil, List.setIfInBounds_toArray, List.set_cons_zero, List.set_cons_succ]
    generalize a.tmps.getD 3 undef = u3
    generalize a.tmps.getD 4 undef = u4
    generalize a.tmps.getD 5 undef = u5
    generalize a.tmps.getD 6 undef = u6
    generalize a.tmps.getD 7 undef = u7
    generalize a.tmps.getD 8 undef = u8
    generalize a.tmps.getD 9 undef = u9
    generalize a.tmps.getD 10 undef = u10
    rw [fv11]
    clear hF hG fv11
    have hso := fp11.own
    obtain ⟨a1, c1, b1, d1, hv1, -, -⟩ := hso.forms
    rw [hv11] at hv1
    injection hv1 with hv1
    injection hv1 with hv1
    injection hv1 with hv1 hv2
    injection hv2 with hv2
    subst hv1 hv2 hv11
    have HSO := Lib.hid (hso.base HW2.out)
    have HROW := Lib.hid hrow11
    clear fp11 fo11 hso hrow11
    go_wp2
    try simp only [Exit.inBlock, Exit.then]
    refine bodyPost_ret (v := .agg #[.slice a1 K.length c1, .slice b1 T.length d1]) (results_cell_row (fn := Try.f41) (p := 2) (ty := 25) rfl _ _ g' 25 #[.slice a1 K.length c1, .slice b1 T.length d1] (0, 0) _ rfl HROW.out Try.underlying25 rfl Try.size_gra) rfl ?_
    exact ⟨_, rfl, HSO.out, hbx⟩
end Go.Proofs.Ytfkbpkjejnpaiaa
