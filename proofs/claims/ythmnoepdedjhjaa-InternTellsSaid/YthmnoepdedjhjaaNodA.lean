/- May a node be; two nodes' order; a node's text: of the program and of the document. -/
import Derived.Test.YthmnoepdedjhjaaNodM
import Derived.Test.YthmnoepdedjhjaaPatF
import Derived.Test.YthmnoepdedjhjaaVerL
import Derived.Laws.StructEq
namespace Go.Proofs.Ythmnoepdedjhjaa
open Go.RowKit
set_option maxRecDepth 100000

theorem pmay_l (p : List UInt8) (w : World) (h : p.length ≤ 1000000000) :
    Calls Try.prog 36 #[.string (mkB p)] w fun e w' => e = .returned (.bool (pathB p)) ∧ Bel w.heap.size w w' := pmay_m p w h
theorem vmay_l (p : List UInt8) (w : World) (h : p.length ≤ 1000000000) :
    Calls Try.prog 37 #[.string (mkB p)] w fun e w' => e = .returned (.bool (okV p)) ∧ Bel w.heap.size w w' := by
  have := vmay_any (mkB p) w (by rw [mkB_size]; exact h)
  rwa [mkB_list] at this
theorem refpmay_l (p : List UInt8) (w : World) (h : p.length ≤ 1000000000) :
    Calls Try.prog 28 #[.string (mkB p)] w fun e w' => e = .returned (.bool (pathB p)) ∧ Bel w.heap.size w w' := refpmay_m p w h
theorem refvmay_l (p : List UInt8) (w : World) (h : p.length ≤ 1000000000) :
    Calls Try.prog 29 #[.string (mkB p)] w fun e w' => e = .returned (.bool (okV p)) ∧ Bel w.heap.size w w' := by
  have := refvmay_any (mkB p) w (by rw [mkB_size]; exact h)
  rwa [mkB_list] at this
/-- A parameter's own cells, just laid; the world named. -/
theorem box1 (w : World) (x y : Value) (t : TypeId) : ∃ W p, w.alloc (.cells #[x, y] t) = W ∧ w.heap.size = p ∧ W.cell? ⟨p, 0, none⟩ = some x ∧ W.cell? ⟨p, 1, none⟩ = some y ∧ Bel w.heap.size w W :=
  ⟨_, _, rfl, rfl, cell_new rfl rfl, cell_new rfl rfl, (Bel.refl _ _).alloc (Nat.le_refl _) _⟩
theorem box2 (w : World) (x y x' y' : Value) (t : TypeId) : ∃ W p q, (w.alloc (.cells #[x, y] t)).alloc (.cells #[x', y'] t) = W ∧ w.heap.size = p ∧ w.heap.size + 1 = q ∧ W.cell? ⟨p, 0, none⟩ = some x ∧ W.cell? ⟨p, 1, none⟩ = some y ∧ W.cell? ⟨q, 0, none⟩ = some x' ∧ W.cell? ⟨q, 1, none⟩ = some y' ∧ Bel w.heap.size w W :=
  ⟨_, _, _, rfl, rfl, rfl, cell_alloc (cell_new rfl rfl) _, cell_alloc (cell_new rfl rfl) _, cell_new (by simp) rfl, cell_new (by simp) rfl, ((Bel.refl _ _).alloc (Nat.le_refl _) _).alloc (by simp) _⟩

set_option maxHeartbeats 400000 in
theorem nmay_bel (p v : List UInt8) (w : World) (hp : p.length ≤ 1000000000) (hv : v.length ≤ 1000000000) :
    Calls Try.prog 31 #[.agg #[.string (mkB p), .string (mkB v)]] w fun e w' => e = .returned (.bool (okN (p, v))) ∧ Bel w.heap.size w w' := by
  obtain ⟨x, hx⟩ : ∃ r, pathB p = r := ⟨_, rfl⟩
  obtain ⟨y, hy⟩ : ∃ r, okV v = r := ⟨_, rfl⟩
  have e : okN (p, v) = (x && y) := by unfold okN; rw [hx, hy]
  have HX := Lib.hid hx; have HY := Lib.hid hy
  rw [e]
  clear e hx hy
  obtain ⟨W, g, hW, hg, c0, c1, hb⟩ := box1 w (.string (mkB p)) (.string (mkB v)) 26
  have B := Lib.hid hb; have HW := Lib.hid hW; have HG := Lib.hid hg; clear hb hW hg
  cases x
  · go_enter Try.func31, Try.ntmps31
    go_upto_region 1 with fail
    rw [HW.out, HG.out]
    go_wp2_with (go_at_call 36; refine (pmay_l _ _ hp).mono ?_; rintro e w1 ⟨rfl, hb1⟩; rw [HX.out]; replace B := Lib.hid (bel_step B.out hb1); clear hb1)
    go_ret
    exact ⟨rfl, B.out⟩
  · cases y
    all_goals
      go_enter Try.func31, Try.ntmps31
      go_upto_region 1 with fail
      rw [HW.out, HG.out]
      go_wp2_with (first
        | (go_at_call 36; refine (pmay_l _ _ hp).mono ?_; rintro e w1 ⟨rfl, hb1⟩; rw [HX.out]; replace B := Lib.hid (bel_step B.out hb1); replace c1 := bel_keep c1 hb1; clear hb1 c0)
        | (go_at_call 37; refine (vmay_l _ _ hv).mono ?_; rintro e w2 ⟨rfl, hb2⟩; rw [HY.out]; replace B := Lib.hid (bel_step B.out hb2); clear hb2))
      go_ret
      exact ⟨rfl, B.out⟩
set_option maxHeartbeats 400000 in
theorem refnmay_bel (p v : List UInt8) (w : World) (hp : p.length ≤ 1000000000) (hv : v.length ≤ 1000000000) :
    Calls Try.prog 18 #[.agg #[.string (mkB p), .string (mkB v)]] w fun e w' => e = .returned (.bool (okN (p, v))) ∧ Bel w.heap.size w w' := by
  obtain ⟨x, hx⟩ : ∃ r, pathB p = r := ⟨_, rfl⟩
  obtain ⟨y, hy⟩ : ∃ r, okV v = r := ⟨_, rfl⟩
  have e : okN (p, v) = (x && y) := by unfold okN; rw [hx, hy]
  have HX := Lib.hid hx; have HY := Lib.hid hy
  rw [e]
  clear e hx hy
  obtain ⟨W, g, hW, hg, c0, c1, hb⟩ := box1 w (.string (mkB p)) (.string (mkB v)) 26
  have B := Lib.hid hb; have HW := Lib.hid hW; have HG := Lib.hid hg; clear hb hW hg
  cases x
  · go_enter Try.func18, Try.ntmps18
    go_upto_region 1 with fail
    rw [HW.out, HG.out]
    go_wp2_with (go_at_call 28; refine (refpmay_l _ _ hp).mono ?_; rintro e w1 ⟨rfl, hb1⟩; rw [HX.out]; replace B := Lib.hid (bel_step B.out hb1); clear hb1)
    go_ret
    exact ⟨rfl, B.out⟩
  · cases y
    all_goals
      go_enter Try.func18, Try.ntmps18
      go_upto_region 1 with fail
      rw [HW.out, HG.out]
      go_wp2_with (first
        | (go_at_call 28; refine (refpmay_l _ _ hp).mono ?_; rintro e w1 ⟨rfl, hb1⟩; rw [HX.out]; replace B := Lib.hid (bel_step B.out hb1); replace c1 := bel_keep c1 hb1; clear hb1 c0)
        | (go_at_call 29; refine (refvmay_l _ _ hv).mono ?_; rintro e w2 ⟨rfl, hb2⟩; rw [HY.out]; replace B := Lib.hid (bel_step B.out hb2); clear hb2))
      go_ret
      exact ⟨rfl, B.out⟩

end Go.Proofs.Ythmnoepdedjhjaa
