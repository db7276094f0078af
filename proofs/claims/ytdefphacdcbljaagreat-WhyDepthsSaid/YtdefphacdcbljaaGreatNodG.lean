/- THE TEXTS OF NodA NodB NodD NodG: May a node be; two nodes' order; a node's text: of the program and of the document. Two nodes held against one another; a node's text, and a text's node: of the program and of the document. Lists of nodes in memory. Two nodes' sameness; whether a node is in a list: of the program and of the document; two lists' sameness. -/
import Derived.Test.YtdefphacdcbljaaGreatNodM
import Derived.Test.YtdefphacdcbljaaGreatPatF
import Derived.Test.YtdefphacdcbljaaGreatVerL
import Derived.Laws.StructEq
import Derived.Test.YtdefphacdcbljaaGreatRolL
import Derived.Test.YtdefphacdcbljaaGreatNodC
import Derived.Deep.QuietTactic
import Derived.BigQuiet
namespace Go.Proofs.YtdefphacdcbljaaGreat
open Go.RowKit
set_option maxRecDepth 100000

theorem pmay_l (p : List UInt8) (w : World) (h : p.length ≤ 1000000000) :
    Calls Tryz.prog 46 #[.string (mkB p)] w fun e w' => e = .returned (.bool (pathB p)) ∧ Bel w.heap.size w w' := pmay_m p w h
theorem vmay_l (p : List UInt8) (w : World) (h : p.length ≤ 1000000000) :
    Calls Tryz.prog 47 #[.string (mkB p)] w fun e w' => e = .returned (.bool (okV p)) ∧ Bel w.heap.size w w' := by
  have := vmay_any (mkB p) w (by rw [mkB_size]; exact h)
  rwa [mkB_list] at this
theorem refpmay_l (p : List UInt8) (w : World) (h : p.length ≤ 1000000000) :
    Calls Tryz.prog 31 #[.string (mkB p)] w fun e w' => e = .returned (.bool (pathB p)) ∧ Bel w.heap.size w w' := refpmay_m p w h
theorem refvmay_l (p : List UInt8) (w : World) (h : p.length ≤ 1000000000) :
    Calls Tryz.prog 32 #[.string (mkB p)] w fun e w' => e = .returned (.bool (okV p)) ∧ Bel w.heap.size w w' := by
  have := refvmay_any (mkB p) w (by rw [mkB_size]; exact h)
  rwa [mkB_list] at this
theorem ocmp_l (p q : List UInt8) (w : World) :
    Calls Tryz.prog 62 #[.string (mkB p), .string (mkB q)] w fun e w' => e = .returned (.int .i64 (Lib.compareBytes p q)) ∧ w = w' := by
  have := cmp_any (mkB p) (mkB q) w
  rwa [mkB_list, mkB_list] at this
theorem vcmp_l (p q : List UInt8) (w : World) (hp : p.length ≤ 1000000000) (hq : q.length ≤ 1000000000) (op : okV p = true) (oq : okV q = true) :
    Calls Tryz.prog 63 #[.string (mkB p), .string (mkB q)] w fun e w' => e = .returned (.tuple #[.int .i64 (cmpT p q), .int .i64 0]) ∧ Bel w.heap.size w w' := by
  have := vcmp_any (mkB p) (mkB q) w (by rw [mkB_size]; exact hp) (by rw [mkB_size]; exact hq)
  rw [mkB_list, mkB_list] at this
  have e : vcmpE p q = (cmpT p q, 0) := by unfold vcmpE; rw [op, oq]; rfl
  rwa [e] at this

/-- A parameter's own cells, just laid; the world named. -/
theorem box1 (w : World) (x y : Value) (t : TypeId) : ∃ W p, w.alloc (.cells #[x, y] t) = W ∧ w.heap.size = p ∧ W.cell? ⟨p, 0, none⟩ = some x ∧ W.cell? ⟨p, 1, none⟩ = some y ∧ Bel w.heap.size w W :=
  ⟨_, _, rfl, rfl, cell_new rfl rfl, cell_new rfl rfl, (Bel.refl _ _).alloc (Nat.le_refl _) _⟩
theorem box2 (w : World) (x y x' y' : Value) (t : TypeId) : ∃ W p q, (w.alloc (.cells #[x, y] t)).alloc (.cells #[x', y'] t) = W ∧ w.heap.size = p ∧ w.heap.size + 1 = q ∧ W.cell? ⟨p, 0, none⟩ = some x ∧ W.cell? ⟨p, 1, none⟩ = some y ∧ W.cell? ⟨q, 0, none⟩ = some x' ∧ W.cell? ⟨q, 1, none⟩ = some y' ∧ Bel w.heap.size w W :=
  ⟨_, _, _, rfl, rfl, rfl, cell_alloc (cell_new rfl rfl) _, cell_alloc (cell_new rfl rfl) _, cell_new (by simp) rfl, cell_new (by simp) rfl, ((Bel.refl _ _).alloc (Nat.le_refl _) _).alloc (by simp) _⟩

set_option maxHeartbeats 400000 in
theorem nmay_bel (p v : List UInt8) (w : World) (hp : p.length ≤ 1000000000) (hv : v.length ≤ 1000000000) :
    Calls Tryz.prog 25 #[.agg #[.string (mkB p), .string (mkB v)]] w fun e w' => e = .returned (.bool (okN (p, v))) ∧ Bel w.heap.size w w' := by
  obtain ⟨x, hx⟩ : ∃ r, pathB p = r := ⟨_, rfl⟩
  obtain ⟨y, hy⟩ : ∃ r, okV v = r := ⟨_, rfl⟩
  have e : okN (p, v) = (x && y) := by unfold okN; rw [hx, hy]
  have HX := Lib.hid hx; have HY := Lib.hid hy
  rw [e]
  clear e hx hy
  obtain ⟨W, g, hW, hg, c0, c1, hb⟩ := box1 w (.string (mkB p)) (.string (mkB v)) 24
  have B := Lib.hid hb; have HW := Lib.hid hW; have HG := Lib.hid hg; clear hb hW hg
  cases x
  · go_enter Tryz.func25, Tryz.ntmps25
    go_upto_region 1 with fail
    rw [HW.out, HG.out]
    go_wp2_with (go_at_call 46; refine (pmay_l _ _ hp).mono ?_; rintro e w1 ⟨rfl, hb1⟩; rw [HX.out]; replace B := Lib.hid (bel_step B.out hb1); clear hb1)
    go_ret
    exact ⟨rfl, B.out⟩
  · cases y
    all_goals
      go_enter Tryz.func25, Tryz.ntmps25
      go_upto_region 1 with fail
      rw [HW.out, HG.out]
      go_wp2_with (first
        | (go_at_call 46; refine (pmay_l _ _ hp).mono ?_; rintro e w1 ⟨rfl, hb1⟩; rw [HX.out]; replace B := Lib.hid (bel_step B.out hb1); replace c1 := bel_keep c1 hb1; clear hb1 c0)
        | (go_at_call 47; refine (vmay_l _ _ hv).mono ?_; rintro e w2 ⟨rfl, hb2⟩; rw [HY.out]; replace B := Lib.hid (bel_step B.out hb2); clear hb2))
      go_ret
      exact ⟨rfl, B.out⟩
set_option maxHeartbeats 400000 in
theorem refnmay_bel (p v : List UInt8) (w : World) (hp : p.length ≤ 1000000000) (hv : v.length ≤ 1000000000) :
    Calls Tryz.prog 13 #[.agg #[.string (mkB p), .string (mkB v)]] w fun e w' => e = .returned (.bool (okN (p, v))) ∧ Bel w.heap.size w w' := by
  obtain ⟨x, hx⟩ : ∃ r, pathB p = r := ⟨_, rfl⟩
  obtain ⟨y, hy⟩ : ∃ r, okV v = r := ⟨_, rfl⟩
  have e : okN (p, v) = (x && y) := by unfold okN; rw [hx, hy]
  have HX := Lib.hid hx; have HY := Lib.hid hy
  rw [e]
  clear e hx hy
  obtain ⟨W, g, hW, hg, c0, c1, hb⟩ := box1 w (.string (mkB p)) (.string (mkB v)) 24
  have B := Lib.hid hb; have HW := Lib.hid hW; have HG := Lib.hid hg; clear hb hW hg
  cases x
  · go_enter Tryz.func13, Tryz.ntmps13
    go_upto_region 1 with fail
    rw [HW.out, HG.out]
    go_wp2_with (go_at_call 31; refine (refpmay_l _ _ hp).mono ?_; rintro e w1 ⟨rfl, hb1⟩; rw [HX.out]; replace B := Lib.hid (bel_step B.out hb1); clear hb1)
    go_ret
    exact ⟨rfl, B.out⟩
  · cases y
    all_goals
      go_enter Tryz.func13, Tryz.ntmps13
      go_upto_region 1 with fail
      rw [HW.out, HG.out]
      go_wp2_with (first
        | (go_at_call 31; refine (refpmay_l _ _ hp).mono ?_; rintro e w1 ⟨rfl, hb1⟩; rw [HX.out]; replace B := Lib.hid (bel_step B.out hb1); replace c1 := bel_keep c1 hb1; clear hb1 c0)
        | (go_at_call 32; refine (refvmay_l _ _ hv).mono ?_; rintro e w2 ⟨rfl, hb2⟩; rw [HY.out]; replace B := Lib.hid (bel_step B.out hb2); clear hb2))
      go_ret
      exact ⟨rfl, B.out⟩

set_option maxHeartbeats 800000 in
theorem norder_bel (p v p' v' : List UInt8) (w : World) (hv : v.length ≤ 1000000000) (hv' : v'.length ≤ 1000000000) (o : okN (p, v) = true) (o' : okN (p', v') = true) :
    Calls Tryz.prog 43 #[.agg #[.string (mkB p), .string (mkB v)], .agg #[.string (mkB p'), .string (mkB v')]] w fun e w' => e = .returned (.int .i64 (ordN (p, v) (p', v'))) ∧ Bel w.heap.size w w' := by
  have OV := Lib.hid (okN_parts o).2; have OV' := Lib.hid (okN_parts o').2; clear o o'
  obtain ⟨W, g, g', hW, hg, hg', c0, c1, d0, d1, hb⟩ := box2 w (.string (mkB p)) (.string (mkB v)) (.string (mkB p')) (.string (mkB v')) 24
  have B := Lib.hid hb; have HW := Lib.hid hW; have HG := Lib.hid hg; have HG' := Lib.hid hg'; clear hb hW hg hg'
  obtain ⟨T, hT⟩ : ∃ T, ordN (p, v) (p', v') = T := ⟨_, rfl⟩
  have hne := mk_beq p p'
  by_cases he : p = p'
  · have hq : ordN (p, v) (p', v') = cmpT v v' := by unfold ordN; rw [if_pos he]
    rw [hT] at hq ⊢
    have HQ := Lib.hid hq; clear hq hT
    rw [decide_eq_true he] at hne
    have hne' : (!(mkB p).toList == (mkB p').toList) = false := by rw [hne]; rfl
    clear hne he
    go_enter Tryz.func43, Tryz.ntmps43
    go_upto_region 1 with fail
    rw [HW.out, HG'.out, HG.out]
    go_wp2_with (go_at_call 63; refine (vcmp_l _ _ _ hv hv' OV.out OV'.out).mono ?_; rintro e w1 ⟨rfl, hb1⟩; rw [← HQ.out]; replace B := Lib.hid (bel_step B.out hb1); clear hb1)
    go_ret
    exact ⟨rfl, B.out⟩
  · have hq : ordN (p, v) (p', v') = Lib.compareBytes p p' := by unfold ordN; rw [if_neg he]
    rw [hT] at hq ⊢
    have HQ := Lib.hid hq; clear hq hT
    rw [decide_eq_false he] at hne
    have hne' : (!(mkB p).toList == (mkB p').toList) = true := by rw [hne]; rfl
    clear hne he
    go_enter Tryz.func43, Tryz.ntmps43
    go_upto_region 1 with fail
    rw [HW.out, HG'.out, HG.out]
    go_wp2_with (go_at_call 62; refine (ocmp_l _ _ _).mono ?_; rintro e w1 ⟨rfl, rfl⟩; rw [← HQ.out])
    go_ret
    exact ⟨rfl, B.out⟩
end Go.Proofs.YtdefphacdcbljaaGreat

namespace Go.Proofs.YtdefphacdcbljaaGreat
open Go.RowKit
set_option maxRecDepth 100000

/-- A parameter's own cells, just laid; the world named. -/
theorem boxB1 (w : World) (x y : Value) (t : TypeId) : ∃ W p, w.alloc (.cells #[x, y] t) = W ∧ w.heap.size = p ∧ W.cell? ⟨p, 0, none⟩ = some x ∧ W.cell? ⟨p, 1, none⟩ = some y ∧ Below w.heap.size w W :=
  let ⟨W, p, h1, h2, h3, h4, h5⟩ := box1 w x y t; ⟨W, p, h1, h2, h3, h4, h5.toBelow⟩
theorem boxB2 (w : World) (x y x' y' : Value) (t : TypeId) : ∃ W p q, (w.alloc (.cells #[x, y] t)).alloc (.cells #[x', y'] t) = W ∧ w.heap.size = p ∧ w.heap.size + 1 = q ∧ W.cell? ⟨p, 0, none⟩ = some x ∧ W.cell? ⟨p, 1, none⟩ = some y ∧ W.cell? ⟨q, 0, none⟩ = some x' ∧ W.cell? ⟨q, 1, none⟩ = some y' ∧ Below w.heap.size w W :=
  let ⟨W, p, q, h1, h2, h3, h4, h5, h6, h7, h8⟩ := box2 w x y x' y' t; ⟨W, p, q, h1, h2, h3, h4, h5, h6, h7, h8.toBelow⟩

theorem nmay_any (p v : List UInt8) (w : World) (hp : p.length ≤ 1000000000) (hv : v.length ≤ 1000000000) :
    Calls Tryz.prog 25 #[.agg #[.string (mkB p), .string (mkB v)]] w fun e w' => e = .returned (.bool (okN (p, v))) ∧ Below w.heap.size w w' := (nmay_bel p v w hp hv).mono fun _ _ ⟨h, k⟩ => ⟨h, k.toBelow⟩
theorem refnmay_any (p v : List UInt8) (w : World) (hp : p.length ≤ 1000000000) (hv : v.length ≤ 1000000000) :
    Calls Tryz.prog 13 #[.agg #[.string (mkB p), .string (mkB v)]] w fun e w' => e = .returned (.bool (okN (p, v))) ∧ Below w.heap.size w w' := (refnmay_bel p v w hp hv).mono fun _ _ ⟨h, k⟩ => ⟨h, k.toBelow⟩
theorem norder_any (p v p' v' : List UInt8) (w : World) (hv : v.length ≤ 1000000000) (hv' : v'.length ≤ 1000000000) (o : okN (p, v) = true) (o' : okN (p', v') = true) :
    Calls Tryz.prog 43 #[.agg #[.string (mkB p), .string (mkB v)], .agg #[.string (mkB p'), .string (mkB v')]] w fun e w' => e = .returned (.int .i64 (ordN (p, v) (p', v'))) ∧ Below w.heap.size w w' := (norder_bel p v p' v' w hv hv' o o').mono fun _ _ ⟨h, k⟩ => ⟨h, k.toBelow⟩
def cmpNE (a b : Nd) : Int × Int := if (okN a && okN b) = true then (ordN a b, 0) else (0, 1)
theorem cmpNE_yes {a b : Nd} (h : okN a = true) (k : okN b = true) : cmpNE a b = (ordN a b, 0) := by unfold cmpNE; rw [h, k]; rfl
theorem cmpNE_no {a b : Nd} (h : (okN a && okN b) = false) : cmpNE a b = (0, 1) := by unfold cmpNE; rw [h]; rfl

set_option maxHeartbeats 800000 in
theorem ncmp_any (p v p' v' : List UInt8) (w : World) (hp : p.length ≤ 1000000000) (hv : v.length ≤ 1000000000) (hp' : p'.length ≤ 1000000000) (hv' : v'.length ≤ 1000000000) :
    Calls Tryz.prog 54 #[.agg #[.string (mkB p), .string (mkB v)], .agg #[.string (mkB p'), .string (mkB v')]] w fun e w' => e = .returned (.tuple #[.int .i64 (cmpNE (p, v) (p', v')).1, .int .i64 (cmpNE (p, v) (p', v')).2]) ∧ Below w.heap.size w w' := by
  obtain ⟨W, g, g', hW, hg, hg', c0, c1, d0, d1, hb⟩ := boxB2 w (.string (mkB p)) (.string (mkB v)) (.string (mkB p')) (.string (mkB v')) 24
  have B := Lib.hid hb; have HW := Lib.hid hW; have HG := Lib.hid hg; have HG' := Lib.hid hg'; clear hb hW hg hg'
  obtain ⟨x, hx⟩ : ∃ r, okN (p, v) = r := ⟨_, rfl⟩
  obtain ⟨y, hy⟩ : ∃ r, okN (p', v') = r := ⟨_, rfl⟩
  cases x
  · have he := cmpNE_no (a := (p, v)) (b := (p', v')) (by rw [hx]; rfl)
    rw [he]
    have HX := Lib.hid hx; have HY := Lib.hid hy; clear hx hy he
    go_enter Tryz.func54, Tryz.ntmps54
    go_upto_region 1 with fail
    rw [HW.out, HG'.out, HG.out]
    go_wp2_with (go_at_call 25; refine (nmay_any _ _ _ hp hv).mono ?_; rintro e w1 ⟨rfl, hb1⟩; rw [HX.out]; replace B := Lib.hid (below_step B.out hb1); clear hb1)
    go_ret2
    exact ⟨rfl, B.out⟩
  · cases y
    · have he := cmpNE_no (a := (p, v)) (b := (p', v')) (by rw [hx, hy]; rfl)
      rw [he]
      have HX := Lib.hid hx; have HY := Lib.hid hy; clear hx hy he
      go_enter Tryz.func54, Tryz.ntmps54
      go_upto_region 1 with fail
      rw [HW.out, HG'.out, HG.out]
      go_wp2_with (go_at_call 25; refine (nmay_any _ _ _ (by first | exact hp | exact hp') (by first | exact hv | exact hv')).mono ?_; rintro e w1 ⟨rfl, hb1⟩; (first | rw [HX.out] | rw [HY.out]); replace B := Lib.hid (below_step B.out hb1); replace d0 := cell_keep d0 hb1; replace d1 := cell_keep d1 hb1; replace c0 := cell_keep c0 hb1; replace c1 := cell_keep c1 hb1; clear hb1)
      go_ret2
      exact ⟨rfl, B.out⟩
    · have he := cmpNE_yes hx hy
      rw [he]
      obtain ⟨T, hT⟩ : ∃ T, ordN (p, v) (p', v') = T := ⟨_, rfl⟩
      rw [hT]
      have HX := Lib.hid hx; have HY := Lib.hid hy; have HT := Lib.hid hT; clear hx hy he hT
      go_enter Tryz.func54, Tryz.ntmps54
      go_upto_region 1 with fail
      rw [HW.out, HG'.out, HG.out]
      go_wp2_with (first
        | (go_at_call 25; refine (nmay_any _ _ _ (by first | exact hp | exact hp') (by first | exact hv | exact hv')).mono ?_; rintro e w1 ⟨rfl, hb1⟩; (first | rw [HX.out] | rw [HY.out]); replace B := Lib.hid (below_step B.out hb1); replace d0 := cell_keep d0 hb1; replace d1 := cell_keep d1 hb1; replace c0 := cell_keep c0 hb1; replace c1 := cell_keep c1 hb1; clear hb1)
        | (go_at_call 43; refine (norder_any _ _ _ _ _ hv hv' HX.out HY.out).mono ?_; rintro e w1 ⟨rfl, hb1⟩; rw [HT.out]; replace B := Lib.hid (below_step B.out hb1); clear hb1))
      go_ret2
      exact ⟨rfl, B.out⟩

theorem refcmp_l (p q : List UInt8) (w : World) (hp : p.length ≤ 1000000000) (hq : q.length ≤ 1000000000) :
    Calls Tryz.prog 36 #[.string (mkB p), .string (mkB q)] w fun e w' => e = .returned (.int .i64 (Lib.compareBytes p q)) ∧ Below w.heap.size w w' := by
  have := refcmp_any (mkB p) (mkB q) w (by rw [mkB_size]; unfold maxLen; omega) (by rw [mkB_size]; unfold maxLen; omega)
  rw [mkB_list, mkB_list] at this
  exact this.mono fun _ _ ⟨h, k⟩ => ⟨h, below_q k⟩
theorem refvcmp_l (p q : List UInt8) (w : World) (hp : p.length ≤ 1000000000) (hq : q.length ≤ 1000000000) (op : okV p = true) (oq : okV q = true) :
    Calls Tryz.prog 37 #[.string (mkB p), .string (mkB q)] w fun e w' => e = .returned (.int .i64 (cmpT p q)) ∧ Below w.heap.size w w' := by
  have := refvcmp_any (mkB p) (mkB q) w (by rw [mkB_size]; exact hp) (by rw [mkB_size]; exact hq) (by rw [mkB_list]; exact op) (by rw [mkB_list]; exact oq)
  rw [mkB_list, mkB_list] at this
  exact this.mono fun _ _ ⟨h, k⟩ => ⟨h, k.toBelow⟩

set_option maxHeartbeats 800000 in
theorem refless_any (p v p' v' : List UInt8) (w : World) (hp : p.length ≤ 1000000000) (hv : v.length ≤ 1000000000) (hp' : p'.length ≤ 1000000000) (hv' : v'.length ≤ 1000000000) (o : okN (p, v) = true) (o' : okN (p', v') = true) :
    Calls Tryz.prog 18 #[.agg #[.string (mkB p), .string (mkB v)], .agg #[.string (mkB p'), .string (mkB v')]] w fun e w' => e = .returned (.bool (ltN (p, v) (p', v'))) ∧ Below w.heap.size w w' := by
  have OV := Lib.hid (okN_parts o).2; have OV' := Lib.hid (okN_parts o').2; clear o o'
  obtain ⟨W, g, g', hW, hg, hg', c0, c1, d0, d1, hb⟩ := boxB2 w (.string (mkB p)) (.string (mkB v)) (.string (mkB p')) (.string (mkB v')) 24
  have B := Lib.hid hb; have HW := Lib.hid hW; have HG := Lib.hid hg; have HG' := Lib.hid hg'; clear hb hW hg hg'
  obtain ⟨L, hL⟩ : ∃ L, ltN (p, v) (p', v') = L := ⟨_, rfl⟩
  rw [hL]
  have hcb := cb_vals p p'
  obtain ⟨C, hC⟩ : ∃ C, Lib.compareBytes p p' = C := ⟨_, rfl⟩
  rw [hC] at hcb
  by_cases he : p = p'
  · have hC0 : C = 0 := by rw [← hC, he, cb_self]
    have hq : ltN (p, v) (p', v') = decide (cmpT v v' < 0) := by unfold ltN ordN; rw [if_pos he]
    rw [hL] at hq
    obtain ⟨T, hT⟩ : ∃ T, cmpT v v' = T := ⟨_, rfl⟩
    rw [hT] at hq
    rw [hC0] at hC
    have HC := Lib.hid hC; have HT := Lib.hid hT; have HQ := Lib.hid hq
    clear hL hq hT hC hC0 hcb he
    go_enter Tryz.func18, Tryz.ntmps18
    go_upto_region 1 with fail
    rw [HW.out, HG'.out, HG.out]
    go_wp2_with (first
      | (go_at_call 36; refine (refcmp_l _ _ _ hp hp').mono ?_; rintro e w1 ⟨rfl, hb1⟩; rw [HC.out]; replace B := Lib.hid (below_step B.out hb1); replace d0 := cell_keep d0 hb1; replace d1 := cell_keep d1 hb1; replace c0 := cell_keep c0 hb1; replace c1 := cell_keep c1 hb1; clear hb1)
      | (go_at_call 37; refine (refvcmp_l _ _ _ hv hv' OV.out OV'.out).mono ?_; rintro e w1 ⟨rfl, hb1⟩; rw [HT.out]; replace B := Lib.hid (below_step B.out hb1); clear hb1))
    go_ret
    exact ⟨by rw [HQ.out]; rfl, B.out⟩
  · have hC0 : C ≠ 0 := fun e => he (cb_zero _ _ (by rw [hC]; exact e))
    have hq : ltN (p, v) (p', v') = decide (C < 0) := by unfold ltN ordN; rw [if_neg he, hC]
    rw [hL] at hq
    have HC := Lib.hid hC; have HQ := Lib.hid hq
    have hcc : (C = -1) ∨ (C = 1) := by omega
    clear hL hq hC hC0 hcb he
    rcases hcc with rfl | rfl
    all_goals
      go_enter Tryz.func18, Tryz.ntmps18
      go_upto_region 1 with fail
      rw [HW.out, HG'.out, HG.out]
      go_wp2_with (go_at_call 36; refine (refcmp_l _ _ _ hp hp').mono ?_; rintro e w1 ⟨rfl, hb1⟩; rw [HC.out]; replace B := Lib.hid (below_step B.out hb1); clear hb1)
      go_ret
      exact ⟨by rw [HQ.out]; rfl, B.out⟩

theorem at_txt (x y : List UInt8) : mkB x ++ (⟨#[64]⟩ : ByteArray) ++ mkB y = mkB (textN (x, y)) := mkB_of' (by simp only [cat_list, mkB_list, textN]; simp)
/-! ### A text's node -/
set_option maxHeartbeats 400000 in
theorem lcut64_any (s : ByteArray) (w : World) (hs : s.size ≤ 1000000000) :
    Calls Tryz.prog 99 #[.string s, .string ⟨#[64]⟩] w fun e w' => e = .returned (.tuple #[.string (mkB (cutA s.data.toList).1), .string (mkB (cutA s.data.toList).2), .bool (decide (ixA s.data.toList < s.data.toList.length))]) ∧ ∃ n, w' = w.drewN n := by
  unfold cutA
  obtain ⟨i, hi⟩ : ∃ i, ixA s.data.toList = i := ⟨_, rfl⟩
  have hle := ixA_le s.data.toList
  have hib := indexByte_A s.data.toList
  have hl := Lib.size_eq s
  rw [hi] at hle hib ⊢
  rw [← hl] at hle hib ⊢
  by_cases h : i < s.size
  · rw [if_pos h] at hib
    have HIB := Lib.hid hib
    have e1 : s.data.toList.take i = (s.data.toList.drop 0).take (i - 0) := by simp
    have e2 : s.data.toList.drop (i + 1) = (s.data.toList.drop (i + 1)).take (s.size - (i + 1)) := by rw [List.take_of_length_le (by simp)]
    have E1 := Lib.hid e1; have E2 := Lib.hid e2
    clear hib hi hl e1 e2
    have k1 : (0 : Int) ≤ (i : Int) := by omega
    have k2 : (i : Int) ≤ (s.size : Int) := by omega
    have k3 : IntKind.i64.wrap ((i : Int) + 1) = (i : Int) + 1 := IntWalk.i64_in _ (by omega)
    have k4 : (0 : Int) ≤ (i : Int) + 1 := by omega
    have k5 : (i : Int) + 1 ≤ (s.size : Int) := by omega
    have k6 : ((i : Int) + 1).toNat = i + 1 := by omega
    go_enter Tryz.func99, Tryz.ntmps99
    go_wp2_with (go_at_call 112; refine (Tryz.stringslite_Index_one s 64 w).mono ?_; rintro e w' ⟨rfl, rfl⟩; rw [HIB.out])
    go_quiet (fail)
    go_wp2
    ((try simp only [Exit.inBlock, Exit.then]); refine bodyPost_ret (results_tmp3 rfl _ _ _) rfl ?_)
    exact ⟨by rw [decide_eq_true h, strV_mk, strV_mk, ← E1.out, ← E2.out]; rfl, _, rfl⟩
  · rw [if_neg h] at hib
    have HIB := Lib.hid hib
    have e1 : s.data.toList.take i = s.data.toList := List.take_of_length_le (by omega)
    have e2 : s.data.toList.drop (i + 1) = [] := List.drop_eq_nil_of_le (by omega)
    have E1 := Lib.hid e1; have E2 := Lib.hid e2
    clear hib hi hl e1 e2
    go_enter Tryz.func99, Tryz.ntmps99
    go_wp2_with (go_at_call 112; refine (Tryz.stringslite_Index_one s 64 w).mono ?_; rintro e w' ⟨rfl, rfl⟩; rw [HIB.out])
    ((try simp only [Exit.inBlock, Exit.then]); refine bodyPost_ret (results_tmp3 rfl _ _ _) rfl ?_)
    exact ⟨by rw [decide_eq_false h, E1.out, E2.out]; rfl, 0, rfl⟩
set_option maxHeartbeats 400000 in
theorem cut64_any (l p v : List UInt8) (h : cutA l = (p, v)) (w : World) (hs : l.length ≤ 1000000000) :
    Calls Tryz.prog 78 #[.string (mkB l), .string ⟨#[64]⟩] w fun e w' => e = .returned (.tuple #[.string (mkB p), .string (mkB v), .bool (decide (ixA l < l.length))]) ∧ Below w.heap.size w w' := by
  have hc := lcut64_any (mkB l) w (by rw [mkB_size]; exact hs)
  rw [mkB_list, h] at hc
  have HC := Lib.hid hc; clear hc
  go_enter Tryz.func78, Tryz.ntmps78
  go_wp2_with (go_at_call 99; refine HC.out.mono ?_; rintro e w' ⟨rfl, hq⟩; have hb := below_q hq; clear hq)
  ((try simp only [Exit.inBlock, Exit.then]); refine bodyPost_ret (results_tmp3 rfl _ _ _) rfl ?_)
  exact ⟨rfl, hb⟩
def zeroN : Array Value := #[.string ⟨#[]⟩, .string ⟨#[]⟩]

end Go.Proofs.YtdefphacdcbljaaGreat

namespace Go.Proofs.YtdefphacdcbljaaGreat
open Go.RowKit
set_option maxRecDepth 100000

/-- A slice of nodes, in memory: nil, empty, or cells that hold them, two each. -/
structure Nds (w : World) (v : Value) (ns : List Nd) : Prop where
  ex : ∃ a c, v = .slice a ns.length c ∧ ns.length ≤ c ∧ c ≤ maxLen ∧ (a = none → c = 0) ∧ (0 < ns.length → ∃ b off, a = some ⟨b, off, none⟩ ∧ b < w.heap.size ∧ ∀ j, j < ns.length →
    w.cell? ⟨b, off + j * 2, none⟩ = some (.string (mkB (ns.getD j ([], [])).1)) ∧ w.cell? ⟨b, off + j * 2 + 1, none⟩ = some (.string (mkB (ns.getD j ([], [])).2)))
theorem Nds.below {w w' : World} {v : Value} {zs : List Nd} (h : Nds w v zs) (hb : Below w.heap.size w w') : Nds w' v zs := by
  obtain ⟨a, c, hv, h1, h2, hn, h3⟩ := h.ex
  refine ⟨a, c, hv, h1, h2, hn, fun hp => ?_⟩
  obtain ⟨b, off, ha, hlt, hc⟩ := h3 hp
  exact ⟨b, off, ha, Nat.lt_of_lt_of_le hlt hb.size, fun j hj => ⟨by rw [hb.cell (by exact hlt)]; exact (hc j hj).1, by rw [hb.cell (by exact hlt)]; exact (hc j hj).2⟩⟩

theorem make_map (n : Int) (w : World) : (Instr.makeMap 74 (some (.int .i64 n))).run Tryz.prog w = .ok (.map (some w.heap.size)) (w.alloc (.map #[] 0)) := by
  simp [Instr.makeMap, run_underlying Tryz.underlying74, asInt, asIntOf, Result.andThen]

set_option maxHeartbeats 800000 in
theorem gather_any (v : Value) (ns : List Nd) (w : World) (h : Nds w v ns) (hf : ∀ n ∈ ns, fitsN n) :
    Calls Tryz.prog 42 #[v] w fun e w' => ∃ b, e = .returned (.map (some b)) ∧ NMap w' b ns.length ns ∧ w.heap.size ≤ b ∧ Below w.heap.size w w' := by
  obtain ⟨a, c, rfl, h1, h2, _, h3⟩ := h.ex
  clear h
  unfold maxLen at h2
  have hmm := make_map
  obtain ⟨n, hn⟩ : ∃ n, ns.length = n := ⟨_, rfl⟩
  rw [hn] at h1 h3 ⊢
  have H3 := Lib.hid h3; have HF := Lib.hid hf; have HN := Lib.hid hn
  clear h3 hf hn
  go_enter Tryz.func42, Tryz.ntmps42
  go_wp2
  obtain ⟨W, hW⟩ : ∃ W, w.alloc (.map #[] 0) = W := ⟨_, rfl⟩
  have M0 := Lib.hid (NMap.made w)
  have B0 := Lib.hid ((Below.refl w.heap.size w).alloc (Nat.le_refl _) (.map #[] 0))
  rw [hW] at M0 B0 ⊢
  obtain ⟨g, hg⟩ : ∃ g, w.heap.size = g := ⟨_, rfl⟩
  have HG := Lib.hid hg
  rw [hg] at M0 B0 H3 ⊢
  clear hW hg
  go_loopw [11] (fun i wr => ∃ k : Nat, k ≤ n ∧ i = .int .i64 k ∧ Hid (NMap wr g k (ns.take k)) ∧ Hid (Below g w wr)) (fun i _ => n - (intOf i).toNat)
  case atStart => exact ⟨0, Nat.zero_le _, rfl, Lib.hid (by simpa using M0.out), B0⟩
  case round =>
    obtain ⟨k, hk, rfl, HM, HB⟩ := hrel
    by_cases hlt : k < n
    · obtain ⟨b, off, rfl, hbk, hc⟩ := H3.out (by omega)
      obtain ⟨y, hy⟩ : ∃ y, y = ns.getD k ([], []) := ⟨_, rfl⟩
      have hck := hc k hlt
      rw [← hy] at hck
      have hc0 := (HB.out.cell (p := ⟨b, off + k * 2, none⟩) hbk).trans hck.1
      have hc1 := (HB.out.cell (p := ⟨b, off + k * 2 + 1, none⟩) hbk).trans hck.2
      clear hc hck
      have HY := Lib.hid hy; clear hy
      have hyf : fitsN y := by rw [HY.out]; exact HF.out _ (nd_mem (by rw [HN.out]; exact hlt))
      have htk : ns.take (k + 1) = ns.take k ++ [y] := by
        have hl : k < ns.length := by rw [HN.out]; exact hlt
        rw [List.take_succ_eq_append_getElem hl, HY.out, nd_getD hl]
      have HTK := Lib.hid htk; have HYF := Lib.hid hyf; clear htk hyf
      obtain ⟨hfk, D, hown, hD⟩ := HM.out
      have HFK := Lib.hid hfk; have HD := Lib.hid hD; clear hfk hD
      go_wp2_with (at_mapUpdate; refine wpList_mapUpdate_own _ rfl _ _ _ 74 rfl 24 75 node_keyed Tryz.underlying74 unitElem g k D rfl (hown.alloc _) (by unfold maxLen; omega) _ _ (litN y) rfl rfl (key_n y HYF.out.1 HYF.out.2) (.agg []) [] unitElem_mk ?_; intro w1 hown1 hgrow1)
      have hM : NMap w1 g (k + 1) (ns.take (k + 1)) := by
        rw [HTK.out]
        exact ⟨fits_step HFK.out HYF.out, _, hown1, has_step hown.isMap HYF.out HD.out⟩
      have hB : Below g w w1 := by
        have hgs : g ≤ w.heap.size := by rw [HG.out]; exact Nat.le_refl _
        have h0 : g ≤ wr.heap.size := Nat.le_trans hgs HB.out.size
        exact (HB.out.alloc h0 _).grown hgrow1 (by simp; omega) (fun j e => by cases e; exact Nat.le_refl _)
      have HMN := Lib.hid hM; have HBN := Lib.hid hB
      clear hM hB hown1 hgrow1 hown
      go_roundw
      case rel => exact ⟨k + 1, by omega, by go_num, HMN, HBN⟩
      case measure => simp [intOf]; omega
    · go_wp2
      go_ret
      have e : k = n := by omega
      subst e
      have hM := HM.out
      rw [List.take_of_length_le (by rw [HN.out]; exact Nat.le_refl _)] at hM
      exact ⟨g, rfl, hM, by rw [HG.out]; exact Nat.le_refl _, by rw [HG.out]; exact HB.out⟩
end Go.Proofs.YtdefphacdcbljaaGreat

namespace Go.Proofs.YtdefphacdcbljaaGreat
open Go.RowKit
set_option maxRecDepth 100000

theorem Nds.at {w : World} {a : Option Addr} {n c : Nat} {ns : List Nd} (h : Nds w (.slice a n c) ns) (k : Nat) (hk : k < ns.length) :
    ∃ b off, a = some ⟨b, off, none⟩ ∧ b < w.heap.size ∧ w.cell? ⟨b, off + k * 2, none⟩ = some (.string (mkB (ns.getD k ([], [])).1)) ∧ w.cell? ⟨b, off + k * 2 + 1, none⟩ = some (.string (mkB (ns.getD k ([], [])).2)) := by
  obtain ⟨a', c', hv, _, _, _, h3⟩ := h.ex
  injection hv with e1 e2 e3
  subst e1
  obtain ⟨b, off, ha, hlt, hc⟩ := h3 (by omega)
  exact ⟨b, off, ha, hlt, (hc k hk).1, (hc k hk).2⟩
/-- Nodes that are not too long to be looked at. -/
def smallN (n : Nd) : Prop := n.1.length ≤ 1000000000 ∧ n.2.length ≤ 1000000000
theorem nd_fields : Tryz.prog.underlying 24 = some (.struct (Tryz.prog.fieldsOf 24)) := by kernel_rfl
theorem nd_held : Tryz.prog.stoodInHeld 24 = false := by kernel_rfl
theorem eqin_nd (p v p' v' : List UInt8) (w : World) : Sem.run Tryz.prog (Op.equalIn 10000 24 (.agg #[.string (mkB p), .string (mkB v)]) (.agg #[.string (mkB p'), .string (mkB v')])) w = .ok (decide ((p, v) = (p', v'))) w := by
  have hs := fun a b w => str_eq 9998 a b w
  have ha : ∀ w, Sem.run Tryz.prog (isAgg 9) w = .ok false w := by intro w; kernel_rfl
  have hz : ∀ w, Sem.run Tryz.prog (sizeOf 9) w = .ok 1 w := by intro w; kernel_rfl
  rw [show (10000 : Nat) = 9999 + 1 from rfl, run_equalIn_agg w 9999 24 _ _ nd_fields nd_held]
  simp only [Program.fieldsOf, Tryz.underlying24]
  go_simp
  simp only [mkB_beq]
  by_cases h1 : p = p' <;> by_cases h2 : v = v' <;> simp [h1, h2]
theorem eq_nd (p v p' v' : List UInt8) (w : World) : Sem.run Tryz.prog (binOp .eql 24 (.agg #[.string (mkB p), .string (mkB v)]) (.agg #[.string (mkB p'), .string (mkB v')])) w = .ok (.bool (decide ((p, v) = (p', v')))) w := by
  rw [run_eql_struct, eqin_nd]; rfl
theorem neq_nd (p v p' v' : List UInt8) (w : World) : Sem.run Tryz.prog (binOp .neq 24 (.agg #[.string (mkB p), .string (mkB v)]) (.agg #[.string (mkB p'), .string (mkB v')])) w = .ok (.bool (!decide ((p, v) = (p', v')))) w := by
  rw [run_neq_struct, eqin_nd]; rfl
theorem guard_nd (op : BinOp) (a b : Operand) (xs ys : Array Value) (w : World) : Sem.run Tryz.prog (eqGuard op 24 a b (.agg xs) (.agg ys)) w = .ok () w := run_eqGuard_agg w op _ a b xs ys (by kernel_rfl)

theorem hasN_drop (ns : List Nd) (k : Nat) (x : Nd) (h : k < ns.length) : hasN (ns.drop k) x = (decide (x = ns.getD k ([], [])) || hasN (ns.drop (k + 1)) x) := by
  unfold hasN
  rw [nd_getD h, List.drop_eq_getElem_cons h]
  simp only [List.mem_cons]
  by_cases hx : x = ns[k] <;> simp [hx]
theorem hasN_end (ns : List Nd) (k : Nat) (x : Nd) (h : ns.length ≤ k) : hasN (ns.drop k) x = false := by
  unfold hasN; rw [List.drop_eq_nil_of_le h]; simp

end Go.Proofs.YtdefphacdcbljaaGreat
