/- May a node be; two nodes' order; a node's text: of the program and of the document. -/
import Derived.Test.YtglhjdbnpdoinaaGreatNodM
import Derived.Test.YtglhjdbnpdoinaaGreatPatF
import Derived.Test.YtglhjdbnpdoinaaGreatVerL
import Derived.Laws.StructEq
namespace Go.Proofs.YtglhjdbnpdoinaaGreat
open Go.RowKit
set_option maxRecDepth 100000

theorem pmay_l (p : List UInt8) (w : World) (h : p.length ≤ 1000000000) :
    Calls Tryz.prog 70 #[.string (mkB p)] w fun e w' => e = .returned (.bool (pathB p)) ∧ Bel w.heap.size w w' := pmay_m p w h
theorem vmay_l (p : List UInt8) (w : World) (h : p.length ≤ 1000000000) :
    Calls Tryz.prog 71 #[.string (mkB p)] w fun e w' => e = .returned (.bool (okV p)) ∧ Bel w.heap.size w w' := by
  have := vmay_any (mkB p) w (by rw [mkB_size]; exact h)
  rwa [mkB_list] at this
theorem refpmay_l (p : List UInt8) (w : World) (h : p.length ≤ 1000000000) :
    Calls Tryz.prog 42 #[.string (mkB p)] w fun e w' => e = .returned (.bool (pathB p)) ∧ Bel w.heap.size w w' := refpmay_m p w h
theorem refvmay_l (p : List UInt8) (w : World) (h : p.length ≤ 1000000000) :
    Calls Tryz.prog 43 #[.string (mkB p)] w fun e w' => e = .returned (.bool (okV p)) ∧ Bel w.heap.size w w' := by
  have := refvmay_any (mkB p) w (by rw [mkB_size]; exact h)
  rwa [mkB_list] at this
theorem ocmp_l (p q : List UInt8) (w : World) :
    Calls Tryz.prog 76 #[.string (mkB p), .string (mkB q)] w fun e w' => e = .returned (.int .i64 (Lib.compareBytes p q)) ∧ w = w' := by
  have := cmp_any (mkB p) (mkB q) w
  rwa [mkB_list, mkB_list] at this
theorem vcmp_l (p q : List UInt8) (w : World) (hp : p.length ≤ 1000000000) (hq : q.length ≤ 1000000000) (op : okV p = true) (oq : okV q = true) :
    Calls Tryz.prog 77 #[.string (mkB p), .string (mkB q)] w fun e w' => e = .returned (.tuple #[.int .i64 (cmpT p q), .int .i64 0]) ∧ Bel w.heap.size w w' := by
  have := vcmp_any (mkB p) (mkB q) w (by rw [mkB_size]; exact hp) (by rw [mkB_size]; exact hq)
  rw [mkB_list, mkB_list] at this
  have e : vcmpE p q = (cmpT p q, 0) := by unfold vcmpE; rw [op, oq]; rfl
  rwa [e] at this

/-- A parameter's own cells, just laid; the world named. -/
theorem box1 (w : World) (x y : Value) (t : TypeId) : ∃ W p, w.alloc (.cells #[x, y] t) = W ∧ w.heap.size = p ∧ W.cell? ⟨p, 0, none⟩ = some x ∧ W.cell? ⟨p, 1, none⟩ = some y ∧ Bel w.heap.size w W :=
  ⟨_, _, rfl, rfl, cell_new rfl rfl, cell_new rfl rfl, (Bel.refl _ _).alloc (Nat.le_refl _) _⟩
theorem box2 (w : World) (x y x' y' : Value) (t : TypeId) : ∃ W p q, (w.alloc (.cells #[x, y] t)).alloc (.cells #[x', y'] t) = W ∧ w.heap.size = p ∧ w.heap.size + 1 = q ∧ W.cell? ⟨p, 0, none⟩ = some x ∧ W.cell? ⟨p, 1, none⟩ = some y ∧ W.cell? ⟨q, 0, none⟩ = some x' ∧ W.cell? ⟨q, 1, none⟩ = some y' ∧ Bel w.heap.size w W :=
  ⟨_, _, _, rfl, rfl, rfl, cell_alloc (cell_new rfl rfl) _, cell_alloc (cell_new rfl rfl) _, cell_new (by simp) rfl, cell_new (by simp) rfl, ((Bel.refl _ _).alloc (Nat.le_refl _) _).alloc (by simp) _⟩

set_option maxHeartbeats 400000 in
theorem nmay_bel (p v : List UInt8) (w : World) (hp : p.length ≤ 1000000000) (hv : v.length ≤ 1000000000) :
    Calls Tryz.prog 58 #[.agg #[.string (mkB p), .string (mkB v)]] w fun e w' => e = .returned (.bool (okN (p, v))) ∧ Bel w.heap.size w w' := by
  obtain ⟨x, hx⟩ : ∃ r, pathB p = r := ⟨_, rfl⟩
  obtain ⟨y, hy⟩ : ∃ r, okV v = r := ⟨_, rfl⟩
  have e : okN (p, v) = (x && y) := by unfold okN; rw [hx, hy]
  have HX := Lib.hid hx; have HY := Lib.hid hy
  rw [e]
  clear e hx hy
  obtain ⟨W, g, hW, hg, c0, c1, hb⟩ := box1 w (.string (mkB p)) (.string (mkB v)) 26
  have B := Lib.hid hb; have HW := Lib.hid hW; have HG := Lib.hid hg; clear hb hW hg
  cases x
  · go_enter Tryz.func58, Tryz.ntmps58
    go_upto_region 1 with fail
    rw [HW.out, HG.out]
    go_wp2_with (go_at_call 70; refine (pmay_l _ _ hp).mono ?_; rintro e w1 ⟨rfl, hb1⟩; rw [HX.out]; replace B := Lib.hid (bel_step B.out hb1); clear hb1)
    go_ret
    exact ⟨rfl, B.out⟩
  · cases y
    all_goals
      go_enter Tryz.func58, Tryz.ntmps58
      go_upto_region 1 with fail
      rw [HW.out, HG.out]
      go_wp2_with (first
        | (go_at_call 70; refine (pmay_l _ _ hp).mono ?_; rintro e w1 ⟨rfl, hb1⟩; rw [HX.out]; replace B := Lib.hid (bel_step B.out hb1); replace c1 := bel_keep c1 hb1; clear hb1 c0)
        | (go_at_call 71; refine (vmay_l _ _ hv).mono ?_; rintro e w2 ⟨rfl, hb2⟩; rw [HY.out]; replace B := Lib.hid (bel_step B.out hb2); clear hb2))
      go_ret
      exact ⟨rfl, B.out⟩
set_option maxHeartbeats 400000 in
theorem refnmay_bel (p v : List UInt8) (w : World) (hp : p.length ≤ 1000000000) (hv : v.length ≤ 1000000000) :
    Calls Tryz.prog 25 #[.agg #[.string (mkB p), .string (mkB v)]] w fun e w' => e = .returned (.bool (okN (p, v))) ∧ Bel w.heap.size w w' := by
  obtain ⟨x, hx⟩ : ∃ r, pathB p = r := ⟨_, rfl⟩
  obtain ⟨y, hy⟩ : ∃ r, okV v = r := ⟨_, rfl⟩
  have e : okN (p, v) = (x && y) := by unfold okN; rw [hx, hy]
  have HX := Lib.hid hx; have HY := Lib.hid hy
  rw [e]
  clear e hx hy
  obtain ⟨W, g, hW, hg, c0, c1, hb⟩ := box1 w (.string (mkB p)) (.string (mkB v)) 26
  have B := Lib.hid hb; have HW := Lib.hid hW; have HG := Lib.hid hg; clear hb hW hg
  cases x
  · go_enter Tryz.func25, Tryz.ntmps25
    go_upto_region 1 with fail
    rw [HW.out, HG.out]
    go_wp2_with (go_at_call 42; refine (refpmay_l _ _ hp).mono ?_; rintro e w1 ⟨rfl, hb1⟩; rw [HX.out]; replace B := Lib.hid (bel_step B.out hb1); clear hb1)
    go_ret
    exact ⟨rfl, B.out⟩
  · cases y
    all_goals
      go_enter Tryz.func25, Tryz.ntmps25
      go_upto_region 1 with fail
      rw [HW.out, HG.out]
      go_wp2_with (first
        | (go_at_call 42; refine (refpmay_l _ _ hp).mono ?_; rintro e w1 ⟨rfl, hb1⟩; rw [HX.out]; replace B := Lib.hid (bel_step B.out hb1); replace c1 := bel_keep c1 hb1; clear hb1 c0)
        | (go_at_call 43; refine (refvmay_l _ _ hv).mono ?_; rintro e w2 ⟨rfl, hb2⟩; rw [HY.out]; replace B := Lib.hid (bel_step B.out hb2); clear hb2))
      go_ret
      exact ⟨rfl, B.out⟩

set_option maxHeartbeats 800000 in
theorem norder_bel (p v p' v' : List UInt8) (w : World) (hv : v.length ≤ 1000000000) (hv' : v'.length ≤ 1000000000) (o : okN (p, v) = true) (o' : okN (p', v') = true) :
    Calls Tryz.prog 62 #[.agg #[.string (mkB p), .string (mkB v)], .agg #[.string (mkB p'), .string (mkB v')]] w fun e w' => e = .returned (.int .i64 (ordN (p, v) (p', v'))) ∧ Bel w.heap.size w w' := by
  have OV := Lib.hid (okN_parts o).2; have OV' := Lib.hid (okN_parts o').2; clear o o'
  obtain ⟨W, g, g', hW, hg, hg', c0, c1, d0, d1, hb⟩ := box2 w (.string (mkB p)) (.string (mkB v)) (.string (mkB p')) (.string (mkB v')) 26
  have B := Lib.hid hb; have HW := Lib.hid hW; have HG := Lib.hid hg; have HG' := Lib.hid hg'; clear hb hW hg hg'
  obtain ⟨T, hT⟩ : ∃ T, ordN (p, v) (p', v') = T := ⟨_, rfl⟩
  have hne := mk_beq p p'
  by_cases he : p = p'
  · have hq : ordN (p, v) (p', v') = cmpT v v' := by unfold ordN; rw [if_pos he]
    rw [hT] at hq ⊢
    have HQ := Lib.hid hq; clear hq hT
    rw [decide_eq_true he] at hne
    have hne' : (!(mkB p).toList == (mkB p').toList) = false := by rw [hne]; rfl
    clear hne he
    go_enter Tryz.func62, Tryz.ntmps62
    go_upto_region 1 with fail
    rw [HW.out, HG'.out, HG.out]
    go_wp2_with (go_at_call 77; refine (vcmp_l _ _ _ hv hv' OV.out OV'.out).mono ?_; rintro e w1 ⟨rfl, hb1⟩; rw [← HQ.out]; replace B := Lib.hid (bel_step B.out hb1); clear hb1)
    go_ret
    exact ⟨rfl, B.out⟩
  · have hq : ordN (p, v) (p', v') = Lib.compareBytes p p' := by unfold ordN; rw [if_neg he]
    rw [hT] at hq ⊢
    have HQ := Lib.hid hq; clear hq hT
    rw [decide_eq_false he] at hne
    have hne' : (!(mkB p).toList == (mkB p').toList) = true := by rw [hne]; rfl
    clear hne he
    go_enter Tryz.func62, Tryz.ntmps62
    go_upto_region 1 with fail
    rw [HW.out, HG'.out, HG.out]
    go_wp2_with (go_at_call 76; refine (ocmp_l _ _ _).mono ?_; rintro e w1 ⟨rfl, rfl⟩; rw [← HQ.out])
    go_ret
    exact ⟨rfl, B.out⟩
end Go.Proofs.YtglhjdbnpdoinaaGreat
