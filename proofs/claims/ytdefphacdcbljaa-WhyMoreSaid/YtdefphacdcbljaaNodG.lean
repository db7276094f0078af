/- THE TEXTS OF NodA NodB NodD NodG: May a node be; two nodes' order; a node's text: of the program and of the document. Two nodes held against one another; a node's text, and a text's node: of the program and of the document. Lists of nodes in memory. Two nodes' sameness; whether a node is in a list: of the program and of the document; two lists' sameness. -/
import Derived.Test.YtdefphacdcbljaaNodM
import Derived.Test.YtdefphacdcbljaaPatF
import Derived.Test.YtdefphacdcbljaaVerL
import Derived.Laws.StructEq
import Derived.Test.YtdefphacdcbljaaRolL
import Derived.Test.YtdefphacdcbljaaNodC
import Derived.Deep.QuietTactic
import Derived.BigQuiet
namespace Go.Proofs.Ytdefphacdcbljaa
open Go.RowKit
set_option maxRecDepth 100000

theorem pmay_l (p : List UInt8) (w : World) (h : p.length ≤ 1000000000) :
    Calls Try.prog 30 #[.string (mkB p)] w fun e w' => e = .returned (.bool (pathB p)) ∧ Bel w.heap.size w w' := pmay_m p w h
theorem vmay_l (p : List UInt8) (w : World) (h : p.length ≤ 1000000000) :
    Calls Try.prog 31 #[.string (mkB p)] w fun e w' => e = .returned (.bool (okV p)) ∧ Bel w.heap.size w w' := by
  have := vmay_any (mkB p) w (by rw [mkB_size]; exact h)
  rwa [mkB_list] at this
theorem refpmay_l (p : List UInt8) (w : World) (h : p.length ≤ 1000000000) :
    Calls Try.prog 27 #[.string (mkB p)] w fun e w' => e = .returned (.bool (pathB p)) ∧ Bel w.heap.size w w' := refpmay_m p w h
theorem refvmay_l (p : List UInt8) (w : World) (h : p.length ≤ 1000000000) :
    Calls Try.prog 28 #[.string (mkB p)] w fun e w' => e = .returned (.bool (okV p)) ∧ Bel w.heap.size w w' := by
  have := refvmay_any (mkB p) w (by rw [mkB_size]; exact h)
  rwa [mkB_list] at this
theorem ocmp_l (p q : List UInt8) (w : World) :
    Calls Try.prog 60 #[.string (mkB p), .string (mkB q)] w fun e w' => e = .returned (.int .i64 (Lib.compareBytes p q)) ∧ w = w' := by
  have := cmp_any (mkB p) (mkB q) w
  rwa [mkB_list, mkB_list] at this
theorem vcmp_l (p q : List UInt8) (w : World) (hp : p.length ≤ 1000000000) (hq : q.length ≤ 1000000000) (op : okV p = true) (oq : okV q = true) :
    Calls Try.prog 61 #[.string (mkB p), .string (mkB q)] w fun e w' => e = .returned (.tuple #[.int .i64 (cmpT p q), .int .i64 0]) ∧ Bel w.heap.size w w' := by
  have := vcmp_any (mkB p) (mkB q) w (by rw [mkB_size]; exact hp) (by rw [mkB_size]; exact hq)
  rw [mkB_list, mkB_list] at this
  have e : vcmpE p q = (cmpT p q, 0) := by unfold vcmpE; rw [op, oq]; rfl
  rwa [e] at this

/-- A parameter's own cells, just laid; the world named. -/
theorem box1 (w : World) (x y : Value) (t : TypeId) : ∃ W p, w.alloc (.cells #[x, y] t) = W ∧ w.heap.size = p ∧ W.cell? ⟨p, 0, none⟩ = some x ∧ W.cell? ⟨p, 1, none⟩ = some y ∧ Bel w.heap.size w W :=
  ⟨_, _, rfl, rfl, cell_new rfl rfl, cell_new rfl rfl, (Bel.refl _ _).alloc (Nat.le_refl _) _⟩
theorem box2 (w : World) (x y x' y' : Value) (t : TypeId) : ∃ W p q, (w.alloc (.cells #[x, y] t)).alloc (.cells #[x', y'] t) = W ∧ w.heap.size = p ∧ w.heap.size + 1 = q ∧ W.cell? ⟨p, 0, none⟩ = some x ∧ W.cell? ⟨p, 1, none⟩ = some y ∧ W.cell? ⟨q, 0, none⟩ = some x' ∧ W.cell? ⟨q, 1, none⟩ = some y' ∧ Bel w.heap.size w W :=
  ⟨_, _, _, rfl, rfl, rfl, cell_alloc (cell_new rfl rfl) _, cell_alloc (cell_new rfl rfl) _, cell_new (by simp) rfl, cell_new (by simp) rfl, ((Bel.refl _ _).alloc (Nat.le_refl _) _).alloc (by simp) _⟩

set_option maxHeartbeats 400000 in
theorem nmay_bel (p v : List UInt8) (w : World) (hp : p.length ≤ 1000000000) (hv : v.length ≤ 1000000000) :
    Calls Try.prog 18 #[.agg #[.string (mkB p), .string (mkB v)]] w fun e w' => e = .returned (.bool (okN (p, v))) ∧ Bel w.heap.size w w' := by
  obtain ⟨x, hx⟩ : ∃ r, pathB p = r := ⟨_, rfl⟩
  obtain ⟨y, hy⟩ : ∃ r, okV v = r := ⟨_, rfl⟩
  have e : okN (p, v) = (x && y) := by unfold okN; rw [hx, hy]
  have HX := Lib.hid hx; have HY := Lib.hid hy
  rw [e]
  clear e hx hy
  obtain ⟨W, g, hW, hg, c0, c1, hb⟩ := box1 w (.string (mkB p)) (.string (mkB v)) 24
  have B := Lib.hid hb; have HW := Lib.hid hW; have HG := Lib.hid hg; clear hb hW hg
  cases x
  · go_enter Try.func18, Try.ntmps18
    go_upto_region 1 with fail
    rw [HW.out, HG.out]
    go_wp2_with (go_at_call 30; refine (pmay_l _ _ hp).mono ?_; rintro e w1 ⟨rfl, hb1⟩; rw [HX.out]; replace B := Lib.hid (bel_step B.out hb1); clear hb1)
    go_ret
    exact ⟨rfl, B.out⟩
  · cases y
    all_goals
      go_enter Try.func18, Try.ntmps18
      go_upto_region 1 with fail
      rw [HW.out, HG.out]
      go_wp2_with (first
        | (go_at_call 30; refine (pmay_l _ _ hp).mono ?_; rintro e w1 ⟨rfl, hb1⟩; rw [HX.out]; replace B := Lib.hid (bel_step B.out hb1); replace c1 := bel_keep c1 hb1; clear hb1 c0)
        | (go_at_call 31; refine (vmay_l _ _ hv).mono ?_; rintro e w2 ⟨rfl, hb2⟩; rw [HY.out]; replace B := Lib.hid (bel_step B.out hb2); clear hb2))
      go_ret
      exact ⟨rfl, B.out⟩
set_option maxHeartbeats 400000 in
theorem refnmay_bel (p v : List UInt8) (w : World) (hp : p.length ≤ 1000000000) (hv : v.length ≤ 1000000000) :
    Calls Try.prog 15 #[.agg #[.string (mkB p), .string (mkB v)]] w fun e w' => e = .returned (.bool (okN (p, v))) ∧ Bel w.heap.size w w' := by
  obtain ⟨x, hx⟩ : ∃ r, pathB p = r := ⟨_, rfl⟩
  obtain ⟨y, hy⟩ : ∃ r, okV v = r := ⟨_, rfl⟩
  have e : okN (p, v) = (x && y) := by unfold okN; rw [hx, hy]
  have HX := Lib.hid hx; have HY := Lib.hid hy
  rw [e]
  clear e hx hy
  obtain ⟨W, g, hW, hg, c0, c1, hb⟩ := box1 w (.string (mkB p)) (.string (mkB v)) 24
  have B := Lib.hid hb; have HW := Lib.hid hW; have HG := Lib.hid hg; clear hb hW hg
  cases x
  · go_enter Try.func15, Try.ntmps15
    go_upto_region 1 with fail
    rw [HW.out, HG.out]
    go_wp2_with (go_at_call 27; refine (refpmay_l _ _ hp).mono ?_; rintro e w1 ⟨rfl, hb1⟩; rw [HX.out]; replace B := Lib.hid (bel_step B.out hb1); clear hb1)
    go_ret
    exact ⟨rfl, B.out⟩
  · cases y
    all_goals
      go_enter Try.func15, Try.ntmps15
      go_upto_region 1 with fail
      rw [HW.out, HG.out]
      go_wp2_with (first
        | (go_at_call 27; refine (refpmay_l _ _ hp).mono ?_; rintro e w1 ⟨rfl, hb1⟩; rw [HX.out]; replace B := Lib.hid (bel_step B.out hb1); replace c1 := bel_keep c1 hb1; clear hb1 c0)
        | (go_at_call 28; refine (refvmay_l _ _ hv).mono ?_; rintro e w2 ⟨rfl, hb2⟩; rw [HY.out]; replace B := Lib.hid (bel_step B.out hb2); clear hb2))
      go_ret
      exact ⟨rfl, B.out⟩

set_option maxHeartbeats 800000 in
theorem norder_bel (p v p' v' : List UInt8) (w : World) (hv : v.length ≤ 1000000000) (hv' : v'.length ≤ 1000000000) (o : okN (p, v) = true) (o' : okN (p', v') = true) :
    Calls Try.prog 49 #[.agg #[.string (mkB p), .string (mkB v)], .agg #[.string (mkB p'), .string (mkB v')]] w fun e w' => e = .returned (.int .i64 (ordN (p, v) (p', v'))) ∧ Bel w.heap.size w w' := by
  have OV := Lib.hid (okN_parts o).2; have OV' := Lib.hid (okN_parts o').2; clear o o'
  obtain ⟨W, g, g', hW, hg, hg', c0, c1, d0, d1, hb⟩ := box2 w (.string (mkB p)) (.string (mkB v)) (.string (mkB p')) (.string (mkB v')) 24
  have B := Lib.hid hb; have HW := Lib.hid hW; have HG := Lib.hid hg; have HG' := Lib.hid hg'; clear hb hW hg hg'
  obtain ⟨T, hT⟩ : ∃ T, ordN (p, v) (p', v') = T := ⟨_, rfl⟩
  have hne := mk_beq p p'
  by_cases he : p = p'
  · have hq : ordN (p, v) (p', v') = cmpT v v' := by unfold ordN; rw [if_pos he]
    rw [hT] at hq ⊢
    have HQ := Lib.hid hq; clear hq hT
    rw [decide_eq_true he] at hne
    have hne' : (!(mkB p).toList == (mkB p').toList) = false := by rw [hne]; rfl
    clear hne he
    go_enter Try.func49, Try.ntmps49
    go_upto_region 1 with fail
    rw [HW.out, HG'.out, HG.out]
    go_wp2_with (go_at_call 61; refine (vcmp_l _ _ _ hv hv' OV.out OV'.out).mono ?_; rintro e w1 ⟨rfl, hb1⟩; rw [← HQ.out]; replace B := Lib.hid (bel_step B.out hb1); clear hb1)
    go_ret
    exact ⟨rfl, B.out⟩
  · have hq : ordN (p, v) (p', v') = Lib.compareBytes p p' := by unfold ordN; rw [if_neg he]
    rw [hT] at hq ⊢
    have HQ := Lib.hid hq; clear hq hT
    rw [decide_eq_false he] at hne
    have hne' : (!(mkB p).toList == (mkB p').toList) = true := by rw [hne]; rfl
    clear hne he
    go_enter Try.func49, Try.ntmps49
    go_upto_region 1 with fail
    rw [HW.out, HG'.out, HG.out]
    go_wp2_with (go_at_call 60; refine (ocmp_l _ _ _).mono ?_; rintro e w1 ⟨rfl, rfl⟩; rw [← HQ.out])
    go_ret
    exact ⟨rfl, B.out⟩
end Go.Proofs.Ytdefphacdcbljaa

namespace Go.Proofs.Ytdefphacdcbljaa
open Go.RowKit
set_option maxRecDepth 100000

/-- A parameter's own cells, just laid; the world named. -/
theorem boxB1 (w : World) (x y : Value) (t : TypeId) : ∃ W p, w.alloc (.cells #[x, y] t) = W ∧ w.heap.size = p ∧ W.cell? ⟨p, 0, none⟩ = some x ∧ W.cell? ⟨p, 1, none⟩ = some y ∧ Below w.heap.size w W :=
  let ⟨W, p, h1, h2, h3, h4, h5⟩ := box1 w x y t; ⟨W, p, h1, h2, h3, h4, h5.toBelow⟩
theorem boxB2 (w : World) (x y x' y' : Value) (t : TypeId) : ∃ W p q, (w.alloc (.cells #[x, y] t)).alloc (.cells #[x', y'] t) = W ∧ w.heap.size = p ∧ w.heap.size + 1 = q ∧ W.cell? ⟨p, 0, none⟩ = some x ∧ W.cell? ⟨p, 1, none⟩ = some y ∧ W.cell? ⟨q, 0, none⟩ = some x' ∧ W.cell? ⟨q, 1, none⟩ = some y' ∧ Below w.heap.size w W :=
  let ⟨W, p, q, h1, h2, h3, h4, h5, h6, h7, h8⟩ := box2 w x y x' y' t; ⟨W, p, q, h1, h2, h3, h4, h5, h6, h7, h8.toBelow⟩

theorem nmay_any (p v : List UInt8) (w : World) (hp : p.length ≤ 1000000000) (hv : v.length ≤ 1000000000) :
    Calls Try.prog 18 #[.agg #[.string (mkB p), .string (mkB v)]] w fun e w' => e = .returned (.bool (okN (p, v))) ∧ Below w.heap.size w w' := (nmay_bel p v w hp hv).mono fun _ _ ⟨h, k⟩ => ⟨h, k.toBelow⟩
theorem refnmay_any (p v : List UInt8) (w : World) (hp : p.length ≤ 1000000000) (hv : v.length ≤ 1000000000) :
    Calls Try.prog 15 #[.agg #[.string (mkB p), .string (mkB v)]] w fun e w' => e = .returned (.bool (okN (p, v))) ∧ Below w.heap.size w w' := (refnmay_bel p v w hp hv).mono fun _ _ ⟨h, k⟩ => ⟨h, k.toBelow⟩
theorem norder_any (p v p' v' : List UInt8) (w : World) (hv : v.length ≤ 1000000000) (hv' : v'.length ≤ 1000000000) (o : okN (p, v) = true) (o' : okN (p', v') = true) :
    Calls Try.prog 49 #[.agg #[.string (mkB p), .string (mkB v)], .agg #[.string (mkB p'), .string (mkB v')]] w fun e w' => e = .returned (.int .i64 (ordN (p, v) (p', v'))) ∧ Below w.heap.size w w' := (norder_bel p v p' v' w hv hv' o o').mono fun _ _ ⟨h, k⟩ => ⟨h, k.toBelow⟩
def cmpNE (a b : Nd) : Int × Int := if (okN a && okN b) = true then (ordN a b, 0) else (0, 1)
theorem cmpNE_yes {a b : Nd} (h : okN a = true) (k : okN b = true) : cmpNE a b = (ordN a b, 0) := by unfold cmpNE; rw [h, k]; rfl
theorem cmpNE_no {a b : Nd} (h : (okN a && okN b) = false) : cmpNE a b = (0, 1) := by unfold cmpNE; rw [h]; rfl

set_option maxHeartbeats 800000 in
theorem ncmp_any (p v p' v' : List UInt8) (w : World) (hp : p.length ≤ 1000000000) (hv : v.length ≤ 1000000000) (hp' : p'.length ≤ 1000000000) (hv' : v'.length ≤ 1000000000) :
    Calls Try.prog 39 #[.agg #[.string (mkB p), .string (mkB v)], .agg #[.string (mkB p'), .string (mkB v')]] w fun e w' => e = .returned (.tuple #[.int .i64 (cmpNE (p, v) (p', v')).1, .int .i64 (cmpNE (p, v) (p', v')).2]) ∧ Below w.heap.size w w' := by
  obtain ⟨W, g, g', hW, hg, hg', c0, c1, d0, d1, hb⟩ := boxB2 w (.string (mkB p)) (.string (mkB v)) (.string (mkB p')) (.string (mkB v')) 24
  have B := Lib.hid hb; have HW := Lib.hid hW; have HG := Lib.hid hg; have HG' := Lib.hid hg'; clear hb hW hg hg'
  obtain ⟨x, hx⟩ : ∃ r, okN (p, v) = r := ⟨_, rfl⟩
  obtain ⟨y, hy⟩ : ∃ r, okN (p', v') = r := ⟨_, rfl⟩
  cases x
  · have he := cmpNE_no (a := (p, v)) (b := (p', v')) (by rw [hx]; rfl)
    rw [he]
    have HX := Lib.hid hx; have HY := Lib.hid hy; clear hx hy he
    go_enter Try.func39, Try.ntmps39
    go_upto_region 1 with fail
    rw [HW.out, HG'.out, HG.out]
    go_wp2_with (go_at_call 18; refine (nmay_any _ _ _ hp hv).mono ?_; rintro e w1 ⟨rfl, hb1⟩; rw [HX.out]; replace B := Lib.hid (below_step B.out hb1); clear hb1)
    go_ret2
    exact ⟨rfl, B.out⟩
  · cases y
    · have he := cmpNE_no (a := (p, v)) (b := (p', v')) (by rw [hx, hy]; rfl)
      rw [he]
      have HX := Lib.hid hx; have HY := Lib.hid hy; clear hx hy he
      go_enter Try.func39, Try.ntmps39
      go_upto_region 1 with fail
      rw [HW.out, HG'.out, HG.out]
      go_wp2_with (go_at_call 18; refine (nmay_any _ _ _ (by first | exact hp | exact hp') (by first | exact hv | exact hv')).mono ?_; rintro e w1 ⟨rfl, hb1⟩; (first | rw [HX.out] | rw [HY.out]); replace B := Lib.hid (below_step B.out hb1); replace d0 := cell_keep d0 hb1; replace d1 := cell_keep d1 hb1; replace c0 := cell_keep c0 hb1; replace c1 := cell_keep c1 hb1; clear hb1)
      go_ret2
      exact ⟨rfl, B.out⟩
    · have he := cmpNE_yes hx hy
      rw [he]
      obtain ⟨T, hT⟩ : ∃ T, ordN (p, v) (p', v') = T := ⟨_, rfl⟩
      rw [hT]
      have HX := Lib.hid hx; have HY := Lib.hid hy; have HT := Lib.hid hT; clear hx hy he hT
      go_enter Try.func39, Try.ntmps39
      go_upto_region 1 with fail
      rw [HW.out, HG'.out, HG.out]
      go_wp2_with (first
        | (go_at_call 18; refine (nmay_any _ _ _ (by first | exact hp | exact hp') (by first | exact hv | exact hv')).mono ?_; rintro e w1 ⟨rfl, hb1⟩; (first | rw [HX.out] | rw [HY.out]); replace B := Lib.hid (below_step B.out hb1); replace d0 := cell_keep d0 hb1; replace d1 := cell_keep d1 hb1; replace c0 := cell_keep c0 hb1; replace c1 := cell_keep c1 hb1; clear hb1)
        | (go_at_call 49; refine (norder_any _ _ _ _ _ hv hv' HX.out HY.out).mono ?_; rintro e w1 ⟨rfl, hb1⟩; rw [HT.out]; replace B := Lib.hid (below_step B.out hb1); clear hb1))
      go_ret2
      exact ⟨rfl, B.out⟩

theorem refcmp_l (p q : List UInt8) (w : World) (hp : p.length ≤ 1000000000) (hq : q.length ≤ 1000000000) :
    Calls Try.prog 41 #[.string (mkB p), .string (mkB q)] w fun e w' => e = .returned (.int .i64 (Lib.compareBytes p q)) ∧ Below w.heap.size w w' := by
  have := refcmp_any (mkB p) (mkB q) w (by rw [mkB_size]; unfold maxLen; omega) (by rw [mkB_size]; unfold maxLen; omega)
  rw [mkB_list, mkB_list] at this
  exact this.mono fun _ _ ⟨h, k⟩ => ⟨h, below_q k⟩
theorem refvcmp_l (p q : List UInt8) (w : World) (hp : p.length ≤ 1000000000) (hq : q.length ≤ 1000000000) (op : okV p = true) (oq : okV q = true) :
    Calls Try.prog 42 #[.string (mkB p), .string (mkB q)] w fun e w' => e = .returned (.int .i64 (cmpT p q)) ∧ Below w.heap.size w w' := by
  have := refvcmp_any (mkB p) (mkB q) w (by rw [mkB_size]; exact hp) (by rw [mkB_size]; exact hq) (by rw [mkB_list]; exact op) (by rw [mkB_list]; exact oq)
  rw [mkB_list, mkB_list] at this
  exact this.mono fun _ _ ⟨h, k⟩ => ⟨h, k.toBelow⟩

set_option maxHeartbeats 800000 in
theorem refless_any (p v p' v' : List UInt8) (w : World) (hp : p.length ≤ 1000000000) (hv : v.length ≤ 1000000000) (hp' : p'.length ≤ 1000000000) (hv' : v'.length ≤ 1000000000) (o : okN (p, v) = true) (o' : okN (p', v') = true) :
    Calls Try.prog 26 #[.agg #[.string (mkB p), .string (mkB v)], .agg #[.string (mkB p'), .string (mkB v')]] w fun e w' => e = .returned (.bool (ltN (p, v) (p', v'))) ∧ Below w.heap.size w w' := by
  have OV := Lib.hid (okN_parts o).2; have OV' := Lib.hid (okN_parts o').2; clear o o'
  obtain ⟨W, g, g', hW, hg, hg', c0, c1, d0, d1, hb⟩ := boxB2 w (.string (mkB p)) (.string (mkB v)) (.string (mkB p')) (.string (mkB v')) 24
  have B := Lib.hid hb; have HW := Lib.hid hW; have HG := Lib.hid hg; have HG' := Lib.hid hg'; clear hb hW hg hg'
  obtain ⟨L, hL⟩ : ∃ L, ltN (p, v) (p', v') = L := ⟨_, rfl⟩
  rw [hL]
  have hcb := cb_vals p p'
  obtain ⟨C, hC⟩ : ∃ C, Lib.compareBytes p p' = C := ⟨_, rfl⟩
  rw [hC] at hcb
  by_cases he : p = p'
  · have hC0 : C = 0 := by rw [← hC, he, cb_self]
    have hq : ltN (p, v) (p', v') = decide (cmpT v v' < 0) := by unfold ltN ordN; rw [if_pos he]
    rw [hL] at hq
    obtain ⟨T, hT⟩ : ∃ T, cmpT v v' = T := ⟨_, rfl⟩
    rw [hT] at hq
    rw [hC0] at hC
    have HC := Lib.hid hC; have HT := Lib.hid hT; have HQ := Lib.hid hq
    clear hL hq hT hC hC0 hcb he
    go_enter Try.func26, Try.ntmps26
    go_upto_region 1 with fail
    rw [HW.out, HG'.out, HG.out]
    go_wp2_with (first
      | (go_at_call 41; refine (refcmp_l _ _ _ hp hp').mono ?_; rintro e w1 ⟨rfl, hb1⟩; rw [HC.out]; replace B := Lib.hid (below_step B.out hb1); replace d0 := cell_keep d0 hb1; replace d1 := cell_keep d1 hb1; replace c0 := cell_keep c0 hb1; replace c1 := cell_keep c1 hb1; clear hb1)
      | (go_at_call 42; refine (refvcmp_l _ _ _ hv hv' OV.out OV'.out).mono ?_; rintro e w1 ⟨rfl, hb1⟩; rw [HT.out]; replace B := Lib.hid (below_step B.out hb1); clear hb1))
    go_ret
    exact ⟨by rw [HQ.out]; rfl, B.out⟩
  · have hC0 : C ≠ 0 := fun e => he (cb_zero _ _ (by rw [hC]; exact e))
    have hq : ltN (p, v) (p', v') = decide (C < 0) := by unfold ltN ordN; rw [if_neg he, hC]
    rw [hL] at hq
    have HC := Lib.hid hC; have HQ := Lib.hid hq
    have hcc : (C = -1) ∨ (C = 1) := by omega
    clear hL hq hC hC0 hcb he
    rcases hcc with rfl | rfl
    all_goals
      go_enter Try.func26, Try.ntmps26
      go_upto_region 1 with fail
      rw [HW.out, HG'.out, HG.out]
      go_wp2_with (go_at_call 41; refine (refcmp_l _ _ _ hp hp').mono ?_; rintro e w1 ⟨rfl, hb1⟩; rw [HC.out]; replace B := Lib.hid (below_step B.out hb1); clear hb1)
      go_ret
      exact ⟨by rw [HQ.out]; rfl, B.out⟩

theorem at_txt (x y : List UInt8) : mkB x ++ (⟨#[64]⟩ : ByteArray) ++ mkB y = mkB (textN (x, y)) := mkB_of' (by simp only [cat_list, mkB_list, textN]; simp)
/-! ### A text's node -/
set_option maxHeartbeats 400000 in
theorem lcut64_any (s : ByteArray) (w : World) (hs : s.size ≤ 1000000000) :
    Calls Try.prog 66 #[.string s, .string ⟨#[64]⟩] w fun e w' => e = .returned (.tuple #[.string (mkB (cutA s.data.toList).1), .string (mkB (cutA s.data.toList).2), .bool (decide (ixA s.data.toList < s.data.toList.length))]) ∧ ∃ n, w' = w.drewN n := by
  unfold cutA
  obtain ⟨i, hi⟩ : ∃ i, ixA s.data.toList = i := ⟨_, rfl⟩
  have hle := ixA_le s.data.toList
  have hib := indexByte_A s.data.toList
  have hl := Lib.size_eq s
  rw [hi] at hle hib ⊢
  rw [← hl] at hle hib ⊢
  by_cases h : i < s.size
  · rw [if_pos h] at hib
    have HIB := Lib.hid hib
    have e1 : s.data.toList.take i = (s.data.toList.drop 0).take (i - 0) := by simp
    have e2 : s.data.toList.drop (i + 1) = (s.data.toList.drop (i + 1)).take (s.size - (i + 1)) := by rw [List.take_of_length_le (by simp)]
    have E1 := Lib.hid e1; have E2 := Lib.hid e2
    clear hib hi hl e1 e2
    have k1 : (0 : Int) ≤ (i : Int) := by omega
    have k2 : (i : Int) ≤ (s.size : Int) := by omega
    have k3 : IntKind.i64.wrap ((i : Int) + 1) = (i : Int) + 1 := IntWalk.i64_in _ (by omega)
    have k4 : (0 : Int) ≤ (i : Int) + 1 := by omega
    have k5 : (i : Int) + 1 ≤ (s.size : Int) := by omega
    have k6 : ((i : Int) + 1).toNat = i + 1 := by omega
    go_enter Try.func66, Try.ntmps66
    go_wp2_with (go_at_call 74; refine (Try.stringslite_Index_one s 64 w).mono ?_; rintro e w' ⟨rfl, rfl⟩; rw [HIB.out])
    go_quiet (fail)
    go_wp2
    ((try simp only [Exit.inBlock, Exit.then]); refine bodyPost_ret (results_tmp3 rfl _ _ _) rfl ?_)
    exact ⟨by rw [decide_eq_true h, strV_mk, strV_mk, ← E1.out, ← E2.out]; rfl, _, rfl⟩
  · rw [if_neg h] at hib
    have HIB := Lib.hid hib
    have e1 : s.data.toList.take i = s.data.toList := List.take_of_length_le (by omega)
    have e2 : s.data.toList.drop (i + 1) = [] := List.drop_eq_nil_of_le (by omega)
    have E1 := Lib.hid e1; have E2 := Lib.hid e2
    clear hib hi hl e1 e2
    go_enter Try.func66, Try.ntmps66
    go_wp2_with (go_at_call 74; refine (Try.stringslite_Index_one s 64 w).mono ?_; rintro e w' ⟨rfl, rfl⟩; rw [HIB.out])
    ((try simp only [Exit.inBlock, Exit.then]); refine bodyPost_ret (results_tmp3 rfl _ _ _) rfl ?_)
    exact ⟨by rw [decide_eq_false h, E1.out, E2.out]; rfl, 0, rfl⟩
set_option maxHeartbeats 400000 in
theorem cut64_any (l p v : List UInt8) (h : cutA l = (p, v)) (w : World) (hs : l.length ≤ 1000000000) :
    Calls Try.prog 58 #[.string (mkB l), .string ⟨#[64]⟩] w fun e w' => e = .returned (.tuple #[.string (mkB p), .string (mkB v), .bool (decide (ixA l < l.length))]) ∧ Below w.heap.size w w' := by
  have hc := lcut64_any (mkB l) w (by rw [mkB_size]; exact hs)
  rw [mkB_list, h] at hc
  have HC := Lib.hid hc; clear hc
  go_enter Try.func58, Try.ntmps58
  go_wp2_with (go_at_call 66; refine HC.out.mono ?_; rintro e w' ⟨rfl, hq⟩; have hb := below_q hq; clear hq)
  ((try simp only [Exit.inBlock, Exit.then]); refine bodyPost_ret (results_tmp3 rfl _ _ _) rfl ?_)
  exact ⟨rfl, hb⟩
def zeroN : Array Value := #[.string ⟨#[]⟩, .string ⟨#[]⟩]

end Go.Proofs.Ytdefphacdcbljaa

namespace Go.Proofs.Ytdefphacdcbljaa
open Go.RowKit
set_option maxRecDepth 100000

/-- A slice of nodes, in memory: nil, empty, or cells that hold them, two each. -/
structure Nds (w : World) (v : Value) (ns : List Nd) : Prop where
  ex : ∃ a c, v = .slice a ns.length c ∧ ns.length ≤ c ∧ c ≤ maxLen ∧ (a = none → c = 0) ∧ (0 < ns.length → ∃ b off, a = some ⟨b, off, none⟩ ∧ b < w.heap.size ∧ ∀ j, j < ns.length →
    w.cell? ⟨b, off + j * 2, none⟩ = some (.string (mkB (ns.getD j ([], [])).1)) ∧ w.cell? ⟨b, off + j * 2 + 1, none⟩ = some (.string (mkB (ns.getD j ([], [])).2)))
theorem Nds.below {w w' : World} {v : Value} {zs : List Nd} (h : Nds w v zs) (hb : Below w.heap.size w w') : Nds w' v zs := by
  obtain ⟨a, c, hv, h1, h2, hn, h3⟩ := h.ex
  refine ⟨a, c, hv, h1, h2, hn, fun hp => ?_⟩
  obtain ⟨b, off, ha, hlt, hc⟩ := h3 hp
  exact ⟨b, off, ha, Nat.lt_of_lt_of_le hlt hb.size, fun j hj => ⟨by rw [hb.cell (by exact hlt)]; exact (hc j hj).1, by rw [hb.cell (by exact hlt)]; exact (hc j hj).2⟩⟩

end Go.Proofs.Ytdefphacdcbljaa

namespace Go.Proofs.Ytdefphacdcbljaa
open Go.RowKit
set_option maxRecDepth 100000

theorem Nds.at {w : World} {a : Option Addr} {n c : Nat} {ns : List Nd} (h : Nds w (.slice a n c) ns) (k : Nat) (hk : k < ns.length) :
    ∃ b off, a = some ⟨b, off, none⟩ ∧ b < w.heap.size ∧ w.cell? ⟨b, off + k * 2, none⟩ = some (.string (mkB (ns.getD k ([], [])).1)) ∧ w.cell? ⟨b, off + k * 2 + 1, none⟩ = some (.string (mkB (ns.getD k ([], [])).2)) := by
  obtain ⟨a', c', hv, _, _, _, h3⟩ := h.ex
  injection hv with e1 e2 e3
  subst e1
  obtain ⟨b, off, ha, hlt, hc⟩ := h3 (by omega)
  exact ⟨b, off, ha, hlt, (hc k hk).1, (hc k hk).2⟩
/-- Nodes that are not too long to be looked at. -/
def smallN (n : Nd) : Prop := n.1.length ≤ 1000000000 ∧ n.2.length ≤ 1000000000
theorem nd_fields : Try.prog.underlying 24 = some (.struct (Try.prog.fieldsOf 24)) := by kernel_rfl
theorem nd_held : Try.prog.stoodInHeld 24 = false := by kernel_rfl
theorem eqin_nd (p v p' v' : List UInt8) (w : World) : Sem.run Try.prog (Op.equalIn 10000 24 (.agg #[.string (mkB p), .string (mkB v)]) (.agg #[.string (mkB p'), .string (mkB v')])) w = .ok (decide ((p, v) = (p', v'))) w := by
  have hs := fun a b w => str_eq 9998 a b w
  have ha : ∀ w, Sem.run Try.prog (isAgg 9) w = .ok false w := by intro w; kernel_rfl
  have hz : ∀ w, Sem.run Try.prog (sizeOf 9) w = .ok 1 w := by intro w; kernel_rfl
  rw [show (10000 : Nat) = 9999 + 1 from rfl, run_equalIn_agg w 9999 24 _ _ nd_fields nd_held]
  simp only [Program.fieldsOf, Try.underlying24]
  go_simp
  simp only [mkB_beq]
  by_cases h1 : p = p' <;> by_cases h2 : v = v' <;> simp [h1, h2]
theorem eq_nd (p v p' v' : List UInt8) (w : World) : Sem.run Try.prog (binOp .eql 24 (.agg #[.string (mkB p), .string (mkB v)]) (.agg #[.string (mkB p'), .string (mkB v')])) w = .ok (.bool (decide ((p, v) = (p', v')))) w := by
  rw [run_eql_struct, eqin_nd]; rfl
theorem neq_nd (p v p' v' : List UInt8) (w : World) : Sem.run Try.prog (binOp .neq 24 (.agg #[.string (mkB p), .string (mkB v)]) (.agg #[.string (mkB p'), .string (mkB v')])) w = .ok (.bool (!decide ((p, v) = (p', v')))) w := by
  rw [run_neq_struct, eqin_nd]; rfl
theorem guard_nd (op : BinOp) (a b : Operand) (xs ys : Array Value) (w : World) : Sem.run Try.prog (eqGuard op 24 a b (.agg xs) (.agg ys)) w = .ok () w := run_eqGuard_agg w op _ a b xs ys (by kernel_rfl)

theorem hasN_drop (ns : List Nd) (k : Nat) (x : Nd) (h : k < ns.length) : hasN (ns.drop k) x = (decide (x = ns.getD k ([], [])) || hasN (ns.drop (k + 1)) x) := by
  unfold hasN
  rw [nd_getD h, List.drop_eq_getElem_cons h]
  simp only [List.mem_cons]
  by_cases hx : x = ns[k] <;> simp [hx]
theorem hasN_end (ns : List Nd) (k : Nat) (x : Nd) (h : ns.length ≤ k) : hasN (ns.drop k) x = false := by
  unfold hasN; rw [List.drop_eq_nil_of_le h]; simp

end Go.Proofs.Ytdefphacdcbljaa
