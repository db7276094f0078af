/- THE TEXTS OF NodA NodB NodD NodG: May a node be; two nodes' order; a node's text: of the program and of the document. Two nodes held against one another; a node's text, and a text's node: of the program and of the document. Lists of nodes in memory. Two nodes' sameness; whether a node is in a list: of the program and of the document; two lists' sameness. -/
import Derived.Test.YtlbibgofhhdgoaaGreatNodM
import Derived.Test.YtlbibgofhhdgoaaGreatPatF
import Derived.Test.YtlbibgofhhdgoaaGreatVerL
import Derived.Laws.StructEq
import Derived.Test.YtlbibgofhhdgoaaGreatRolL
import Derived.Test.YtlbibgofhhdgoaaGreatNodC
import Derived.Deep.QuietTactic
import Derived.BigQuiet
namespace Go.Proofs.YtlbibgofhhdgoaaGreat
open Go.RowKit
set_option maxRecDepth 100000

theorem pmay_l (p : List UInt8) (w : World) (h : p.length ≤ 1000000000) :
    Calls Tryz.prog 33 #[.string (mkB p)] w fun e w' => e = .returned (.bool (pathB p)) ∧ Bel w.heap.size w w' := pmay_m p w h
theorem vmay_l (p : List UInt8) (w : World) (h : p.length ≤ 1000000000) :
    Calls Tryz.prog 75 #[.string (mkB p)] w fun e w' => e = .returned (.bool (okV p)) ∧ Bel w.heap.size w w' := by
  have := vmay_any (mkB p) w (by rw [mkB_size]; exact h)
  rwa [mkB_list] at this
theorem refpmay_l (p : List UInt8) (w : World) (h : p.length ≤ 1000000000) :
    Calls Tryz.prog 17 #[.string (mkB p)] w fun e w' => e = .returned (.bool (pathB p)) ∧ Bel w.heap.size w w' := refpmay_m p w h
theorem refvmay_l (p : List UInt8) (w : World) (h : p.length ≤ 1000000000) :
    Calls Tryz.prog 44 #[.string (mkB p)] w fun e w' => e = .returned (.bool (okV p)) ∧ Bel w.heap.size w w' := by
  have := refvmay_any (mkB p) w (by rw [mkB_size]; exact h)
  rwa [mkB_list] at this
theorem ocmp_l (p q : List UInt8) (w : World) :
    Calls Tryz.prog 60 #[.string (mkB p), .string (mkB q)] w fun e w' => e = .returned (.int .i64 (Lib.compareBytes p q)) ∧ w = w' := by
  have := cmp_any (mkB p) (mkB q) w
  rwa [mkB_list, mkB_list] at this
theorem vcmp_l (p q : List UInt8) (w : World) (hp : p.length ≤ 1000000000) (hq : q.length ≤ 1000000000) (op : okV p = true) (oq : okV q = true) :
    Calls Tryz.prog 72 #[.string (mkB p), .string (mkB q)] w fun e w' => e = .returned (.tuple #[.int .i64 (cmpT p q), .int .i64 0]) ∧ Bel w.heap.size w w' := by
  have := vcmp_any (mkB p) (mkB q) w (by rw [mkB_size]; exact hp) (by rw [mkB_size]; exact hq)
  rw [mkB_list, mkB_list] at this
  have e : vcmpE p q = (cmpT p q, 0) := by unfold vcmpE; rw [op, oq]; rfl
  rwa [e] at this

/-- A parameter's own cells, just laid; the world named. -/
theorem box1 (w : World) (x y : Value) (t : TypeId) : ∃ W p, w.alloc (.cells #[x, y] t) = W ∧ w.heap.size = p ∧ W.cell? ⟨p, 0, none⟩ = some x ∧ W.cell? ⟨p, 1, none⟩ = some y ∧ Bel w.heap.size w W :=
  ⟨_, _, rfl, rfl, cell_new rfl rfl, cell_new rfl rfl, (Bel.refl _ _).alloc (Nat.le_refl _) _⟩
theorem box2 (w : World) (x y x' y' : Value) (t : TypeId) : ∃ W p q, (w.alloc (.cells #[x, y] t)).alloc (.cells #[x', y'] t) = W ∧ w.heap.size = p ∧ w.heap.size + 1 = q ∧ W.cell? ⟨p, 0, none⟩ = some x ∧ W.cell? ⟨p, 1, none⟩ = some y ∧ W.cell? ⟨q, 0, none⟩ = some x' ∧ W.cell? ⟨q, 1, none⟩ = some y' ∧ Bel w.heap.size w W :=
  ⟨_, _, _, rfl, rfl, rfl, cell_alloc (cell_new rfl rfl) _, cell_alloc (cell_new rfl rfl) _, cell_new (by simp) rfl, cell_new (by simp) rfl, ((Bel.refl _ _).alloc (Nat.le_refl _) _).alloc (by simp) _⟩

set_option maxHeartbeats 400000 in
theorem nmay_bel (p v : List UInt8) (w : World) (hp : p.length ≤ 1000000000) (hv : v.length ≤ 1000000000) :
    Calls Tryz.prog 51 #[.agg #[.string (mkB p), .string (mkB v)]] w fun e w' => e = .returned (.bool (okN (p, v))) ∧ Bel w.heap.size w w' := by
  obtain ⟨x, hx⟩ : ∃ r, pathB p = r := ⟨_, rfl⟩
  obtain ⟨y, hy⟩ : ∃ r, okV v = r := ⟨_, rfl⟩
  have e : okN (p, v) = (x && y) := by unfold okN; rw [hx, hy]
  have HX := Lib.hid hx; have HY := Lib.hid hy
  rw [e]
  clear e hx hy
  obtain ⟨W, g, hW, hg, c0, c1, hb⟩ := box1 w (.string (mkB p)) (.string (mkB v)) 55
  have B := Lib.hid hb; have HW := Lib.hid hW; have HG := Lib.hid hg; clear hb hW hg
  cases x
  · go_enter Tryz.func51, Tryz.ntmps51
    go_upto_region 1 with fail
    rw [HW.out, HG.out]
    go_wp2_with (go_at_call 33; refine (pmay_l _ _ hp).mono ?_; rintro e w1 ⟨rfl, hb1⟩; rw [HX.out]; replace B := Lib.hid (bel_step B.out hb1); clear hb1)
    go_ret
    exact ⟨rfl, B.out⟩
  · cases y
    all_goals
      go_enter Tryz.func51, Tryz.ntmps51
      go_upto_region 1 with fail
      rw [HW.out, HG.out]
      go_wp2_with (first
        | (go_at_call 33; refine (pmay_l _ _ hp).mono ?_; rintro e w1 ⟨rfl, hb1⟩; rw [HX.out]; replace B := Lib.hid (bel_step B.out hb1); replace c1 := bel_keep c1 hb1; clear hb1 c0)
        | (go_at_call 75; refine (vmay_l _ _ hv).mono ?_; rintro e w2 ⟨rfl, hb2⟩; rw [HY.out]; replace B := Lib.hid (bel_step B.out hb2); clear hb2))
      go_ret
      exact ⟨rfl, B.out⟩
set_option maxHeartbeats 400000 in
theorem refnmay_bel (p v : List UInt8) (w : World) (hp : p.length ≤ 1000000000) (hv : v.length ≤ 1000000000) :
    Calls Tryz.prog 63 #[.agg #[.string (mkB p), .string (mkB v)]] w fun e w' => e = .returned (.bool (okN (p, v))) ∧ Bel w.heap.size w w' := by
  obtain ⟨x, hx⟩ : ∃ r, pathB p = r := ⟨_, rfl⟩
  obtain ⟨y, hy⟩ : ∃ r, okV v = r := ⟨_, rfl⟩
  have e : okN (p, v) = (x && y) := by unfold okN; rw [hx, hy]
  have HX := Lib.hid hx; have HY := Lib.hid hy
  rw [e]
  clear e hx hy
  obtain ⟨W, g, hW, hg, c0, c1, hb⟩ := box1 w (.string (mkB p)) (.string (mkB v)) 55
  have B := Lib.hid hb; have HW := Lib.hid hW; have HG := Lib.hid hg; clear hb hW hg
  cases x
  · go_enter Tryz.func63, Tryz.ntmps63
    go_upto_region 1 with fail
    rw [HW.out, HG.out]
    go_wp2_with (go_at_call 17; refine (refpmay_l _ _ hp).mono ?_; rintro e w1 ⟨rfl, hb1⟩; rw [HX.out]; replace B := Lib.hid (bel_step B.out hb1); clear hb1)
    go_ret
    exact ⟨rfl, B.out⟩
  · cases y
    all_goals
      go_enter Tryz.func63, Tryz.ntmps63
      go_upto_region 1 with fail
      rw [HW.out, HG.out]
      go_wp2_with (first
        | (go_at_call 17; refine (refpmay_l _ _ hp).mono ?_; rintro e w1 ⟨rfl, hb1⟩; rw [HX.out]; replace B := Lib.hid (bel_step B.out hb1); replace c1 := bel_keep c1 hb1; clear hb1 c0)
        | (go_at_call 44; refine (refvmay_l _ _ hv).mono ?_; rintro e w2 ⟨rfl, hb2⟩; rw [HY.out]; replace B := Lib.hid (bel_step B.out hb2); clear hb2))
      go_ret
      exact ⟨rfl, B.out⟩

set_option maxHeartbeats 800000 in
theorem norder_bel (p v p' v' : List UInt8) (w : World) (hv : v.length ≤ 1000000000) (hv' : v'.length ≤ 1000000000) (o : okN (p, v) = true) (o' : okN (p', v') = true) :
    Calls Tryz.prog 62 #[.agg #[.string (mkB p), .string (mkB v)], .agg #[.string (mkB p'), .string (mkB v')]] w fun e w' => e = .returned (.int .i64 (ordN (p, v) (p', v'))) ∧ Bel w.heap.size w w' := by
  have OV := Lib.hid (okN_parts o).2; have OV' := Lib.hid (okN_parts o').2; clear o o'
  obtain ⟨W, g, g', hW, hg, hg', c0, c1, d0, d1, hb⟩ := box2 w (.string (mkB p)) (.string (mkB v)) (.string (mkB p')) (.string (mkB v')) 55
  have B := Lib.hid hb; have HW := Lib.hid hW; have HG := Lib.hid hg; have HG' := Lib.hid hg'; clear hb hW hg hg'
  obtain ⟨T, hT⟩ : ∃ T, ordN (p, v) (p', v') = T := ⟨_, rfl⟩
  have hne := mk_beq p p'
  by_cases he : p = p'
  · have hq : ordN (p, v) (p', v') = cmpT v v' := by unfold ordN; rw [if_pos he]
    rw [hT] at hq ⊢
    have HQ := Lib.hid hq; clear hq hT
    rw [decide_eq_true he] at hne
    have hne' : (!(mkB p).toList == (mkB p').toList) = false := by rw [hne]; rfl
    clear hne he
    go_enter Tryz.func62, Tryz.ntmps62
    go_upto_region 1 with fail
    rw [HW.out, HG'.out, HG.out]
    go_wp2_with (go_at_call 72; refine (vcmp_l _ _ _ hv hv' OV.out OV'.out).mono ?_; rintro e w1 ⟨rfl, hb1⟩; rw [← HQ.out]; replace B := Lib.hid (bel_step B.out hb1); clear hb1)
    go_ret
    exact ⟨rfl, B.out⟩
  · have hq : ordN (p, v) (p', v') = Lib.compareBytes p p' := by unfold ordN; rw [if_neg he]
    rw [hT] at hq ⊢
    have HQ := Lib.hid hq; clear hq hT
    rw [decide_eq_false he] at hne
    have hne' : (!(mkB p).toList == (mkB p').toList) = true := by rw [hne]; rfl
    clear hne he
    go_enter Tryz.func62, Tryz.ntmps62
    go_upto_region 1 with fail
    rw [HW.out, HG'.out, HG.out]
    go_wp2_with (go_at_call 60; refine (ocmp_l _ _ _).mono ?_; rintro e w1 ⟨rfl, rfl⟩; rw [← HQ.out])
    go_ret
    exact ⟨rfl, B.out⟩
end Go.Proofs.YtlbibgofhhdgoaaGreat

namespace Go.Proofs.YtlbibgofhhdgoaaGreat
open Go.RowKit
set_option maxRecDepth 100000

/-- A parameter's own cells, just laid; the world named. -/
theorem boxB1 (w : World) (x y : Value) (t : TypeId) : ∃ W p, w.alloc (.cells #[x, y] t) = W ∧ w.heap.size = p ∧ W.cell? ⟨p, 0, none⟩ = some x ∧ W.cell? ⟨p, 1, none⟩ = some y ∧ Below w.heap.size w W :=
  let ⟨W, p, h1, h2, h3, h4, h5⟩ := box1 w x y t; ⟨W, p, h1, h2, h3, h4, h5.toBelow⟩
theorem boxB2 (w : World) (x y x' y' : Value) (t : TypeId) : ∃ W p q, (w.alloc (.cells #[x, y] t)).alloc (.cells #[x', y'] t) = W ∧ w.heap.size = p ∧ w.heap.size + 1 = q ∧ W.cell? ⟨p, 0, none⟩ = some x ∧ W.cell? ⟨p, 1, none⟩ = some y ∧ W.cell? ⟨q, 0, none⟩ = some x' ∧ W.cell? ⟨q, 1, none⟩ = some y' ∧ Below w.heap.size w W :=
  let ⟨W, p, q, h1, h2, h3, h4, h5, h6, h7, h8⟩ := box2 w x y x' y' t; ⟨W, p, q, h1, h2, h3, h4, h5, h6, h7, h8.toBelow⟩

theorem nmay_any (p v : List UInt8) (w : World) (hp : p.length ≤ 1000000000) (hv : v.length ≤ 1000000000) :
    Calls Tryz.prog 51 #[.agg #[.string (mkB p), .string (mkB v)]] w fun e w' => e = .returned (.bool (okN (p, v))) ∧ Below w.heap.size w w' := (nmay_bel p v w hp hv).mono fun _ _ ⟨h, k⟩ => ⟨h, k.toBelow⟩
theorem refnmay_any (p v : List UInt8) (w : World) (hp : p.length ≤ 1000000000) (hv : v.length ≤ 1000000000) :
    Calls Tryz.prog 63 #[.agg #[.string (mkB p), .string (mkB v)]] w fun e w' => e = .returned (.bool (okN (p, v))) ∧ Below w.heap.size w w' := (refnmay_bel p v w hp hv).mono fun _ _ ⟨h, k⟩ => ⟨h, k.toBelow⟩
theorem norder_any (p v p' v' : List UInt8) (w : World) (hv : v.length ≤ 1000000000) (hv' : v'.length ≤ 1000000000) (o : okN (p, v) = true) (o' : okN (p', v') = true) :
    Calls Tryz.prog 62 #[.agg #[.string (mkB p), .string (mkB v)], .agg #[.string (mkB p'), .string (mkB v')]] w fun e w' => e = .returned (.int .i64 (ordN (p, v) (p', v'))) ∧ Below w.heap.size w w' := (norder_bel p v p' v' w hv hv' o o').mono fun _ _ ⟨h, k⟩ => ⟨h, k.toBelow⟩
theorem refcmp_l (p q : List UInt8) (w : World) (hp : p.length ≤ 1000000000) (hq : q.length ≤ 1000000000) :
    Calls Tryz.prog 45 #[.string (mkB p), .string (mkB q)] w fun e w' => e = .returned (.int .i64 (Lib.compareBytes p q)) ∧ Below w.heap.size w w' := by
  have := refcmp_any (mkB p) (mkB q) w (by rw [mkB_size]; unfold maxLen; omega) (by rw [mkB_size]; unfold maxLen; omega)
  rw [mkB_list, mkB_list] at this
  exact this.mono fun _ _ ⟨h, k⟩ => ⟨h, below_q k⟩
theorem refvcmp_l (p q : List UInt8) (w : World) (hp : p.length ≤ 1000000000) (hq : q.length ≤ 1000000000) (op : okV p = true) (oq : okV q = true) :
    Calls Tryz.prog 50 #[.string (mkB p), .string (mkB q)] w fun e w' => e = .returned (.int .i64 (cmpT p q)) ∧ Below w.heap.size w w' := by
  have := refvcmp_any (mkB p) (mkB q) w (by rw [mkB_size]; exact hp) (by rw [mkB_size]; exact hq) (by rw [mkB_list]; exact op) (by rw [mkB_list]; exact oq)
  rw [mkB_list, mkB_list] at this
  exact this.mono fun _ _ ⟨h, k⟩ => ⟨h, k.toBelow⟩

set_option maxHeartbeats 800000 in
theorem refless_any (p v p' v' : List UInt8) (w : World) (hp : p.length ≤ 1000000000) (hv : v.length ≤ 1000000000) (hp' : p'.length ≤ 1000000000) (hv' : v'.length ≤ 1000000000) (o : okN (p, v) = true) (o' : okN (p', v') = true) :
    Calls Tryz.prog 64 #[.agg #[.string (mkB p), .string (mkB v)], .agg #[.string (mkB p'), .string (mkB v')]] w fun e w' => e = .returned (.bool (ltN (p, v) (p', v'))) ∧ Below w.heap.size w w' := by
  have OV := Lib.hid (okN_parts o).2; have OV' := Lib.hid (okN_parts o').2; clear o o'
  obtain ⟨W, g, g', hW, hg, hg', c0, c1, d0, d1, hb⟩ := boxB2 w (.string (mkB p)) (.string (mkB v)) (.string (mkB p')) (.string (mkB v')) 55
  have B := Lib.hid hb; have HW := Lib.hid hW; have HG := Lib.hid hg; have HG' := Lib.hid hg'; clear hb hW hg hg'
  obtain ⟨L, hL⟩ : ∃ L, ltN (p, v) (p', v') = L := ⟨_, rfl⟩
  rw [hL]
  have hcb := cb_vals p p'
  obtain ⟨C, hC⟩ : ∃ C, Lib.compareBytes p p' = C := ⟨_, rfl⟩
  rw [hC] at hcb
  by_cases he : p = p'
  · have hC0 : C = 0 := by rw [← hC, he, cb_self]
    have hq : ltN (p, v) (p', v') = decide (cmpT v v' < 0) := by unfold ltN ordN; rw [if_pos he]
    rw [hL] at hq
    obtain ⟨T, hT⟩ : ∃ T, cmpT v v' = T := ⟨_, rfl⟩
    rw [hT] at hq
    rw [hC0] at hC
    have HC := Lib.hid hC; have HT := Lib.hid hT; have HQ := Lib.hid hq
    clear hL hq hT hC hC0 hcb he
    go_enter Tryz.func64, Tryz.ntmps64
    go_upto_region 1 with fail
    rw [HW.out, HG'.out, HG.out]
    go_wp2_with (first
      | (go_at_call 45; refine (refcmp_l _ _ _ hp hp').mono ?_; rintro e w1 ⟨rfl, hb1⟩; rw [HC.out]; replace B := Lib.hid (below_step B.out hb1); replace d0 := cell_keep d0 hb1; replace d1 := cell_keep d1 hb1; replace c0 := cell_keep c0 hb1; replace c1 := cell_keep c1 hb1; clear hb1)
      | (go_at_call 50; refine (refvcmp_l _ _ _ hv hv' OV.out OV'.out).mono ?_; rintro e w1 ⟨rfl, hb1⟩; rw [HT.out]; replace B := Lib.hid (below_step B.out hb1); clear hb1))
    go_ret
    exact ⟨by rw [HQ.out]; rfl, B.out⟩
  · have hC0 : C ≠ 0 := fun e => he (cb_zero _ _ (by rw [hC]; exact e))
    have hq : ltN (p, v) (p', v') = decide (C < 0) := by unfold ltN ordN; rw [if_neg he, hC]
    rw [hL] at hq
    have HC := Lib.hid hC; have HQ := Lib.hid hq
    have hcc : (C = -1) ∨ (C = 1) := by omega
    clear hL hq hC hC0 hcb he
    rcases hcc with rfl | rfl
    all_goals
      go_enter Tryz.func64, Tryz.ntmps64
      go_upto_region 1 with fail
      rw [HW.out, HG'.out, HG.out]
      go_wp2_with (go_at_call 45; refine (refcmp_l _ _ _ hp hp').mono ?_; rintro e w1 ⟨rfl, hb1⟩; rw [HC.out]; replace B := Lib.hid (below_step B.out hb1); clear hb1)
      go_ret
      exact ⟨by rw [HQ.out]; rfl, B.out⟩

/-! ### A text's node -/
def zeroN : Array Value := #[.string ⟨#[]⟩, .string ⟨#[]⟩]

end Go.Proofs.YtlbibgofhhdgoaaGreat

namespace Go.Proofs.YtlbibgofhhdgoaaGreat
open Go.RowKit
set_option maxRecDepth 100000

/-- A slice of nodes, in memory: nil, empty, or cells that hold them, two each. -/
structure Nds (w : World) (v : Value) (ns : List Nd) : Prop where
  ex : ∃ a c, v = .slice a ns.length c ∧ ns.length ≤ c ∧ c ≤ maxLen ∧ (a = none → c = 0) ∧ (0 < ns.length → ∃ b off, a = some ⟨b, off, none⟩ ∧ b < w.heap.size ∧ ∀ j, j < ns.length →
    w.cell? ⟨b, off + j * 2, none⟩ = some (.string (mkB (ns.getD j ([], [])).1)) ∧ w.cell? ⟨b, off + j * 2 + 1, none⟩ = some (.string (mkB (ns.getD j ([], [])).2)))
theorem Nds.below {w w' : World} {v : Value} {zs : List Nd} (h : Nds w v zs) (hb : Below w.heap.size w w') : Nds w' v zs := by
  obtain ⟨a, c, hv, h1, h2, hn, h3⟩ := h.ex
  refine ⟨a, c, hv, h1, h2, hn, fun hp => ?_⟩
  obtain ⟨b, off, ha, hlt, hc⟩ := h3 hp
  exact ⟨b, off, ha, Nat.lt_of_lt_of_le hlt hb.size, fun j hj => ⟨by rw [hb.cell (by exact hlt)]; exact (hc j hj).1, by rw [hb.cell (by exact hlt)]; exact (hc j hj).2⟩⟩

end Go.Proofs.YtlbibgofhhdgoaaGreat

namespace Go.Proofs.YtlbibgofhhdgoaaGreat
open Go.RowKit
set_option maxRecDepth 100000

theorem Nds.at {w : World} {a : Option Addr} {n c : Nat} {ns : List Nd} (h : Nds w (.slice a n c) ns) (k : Nat) (hk : k < ns.length) :
    ∃ b off, a = some ⟨b, off, none⟩ ∧ b < w.heap.size ∧ w.cell? ⟨b, off + k * 2, none⟩ = some (.string (mkB (ns.getD k ([], [])).1)) ∧ w.cell? ⟨b, off + k * 2 + 1, none⟩ = some (.string (mkB (ns.getD k ([], [])).2)) := by
  obtain ⟨a', c', hv, _, _, _, h3⟩ := h.ex
  injection hv with e1 e2 e3
  subst e1
  obtain ⟨b, off, ha, hlt, hc⟩ := h3 (by omega)
  exact ⟨b, off, ha, hlt, (hc k hk).1, (hc k hk).2⟩
/-- Nodes that are not too long to be looked at. -/
def smallN (n : Nd) : Prop := n.1.length ≤ 1000000000 ∧ n.2.length ≤ 1000000000
theorem nd_fields : Tryz.prog.underlying 55 = some (.struct (Tryz.prog.fieldsOf 55)) := by kernel_rfl
theorem nd_held : Tryz.prog.stoodInHeld 55 = false := by kernel_rfl
theorem eqin_nd (p v p' v' : List UInt8) (w : World) : Sem.run Tryz.prog (Op.equalIn 10000 55 (.agg #[.string (mkB p), .string (mkB v)]) (.agg #[.string (mkB p'), .string (mkB v')])) w = .ok (decide ((p, v) = (p', v'))) w := by
  have hs := fun a b w => str_eq 9998 a b w
  have ha : ∀ w, Sem.run Tryz.prog (isAgg 9) w = .ok false w := by intro w; kernel_rfl
  have hz : ∀ w, Sem.run Tryz.prog (sizeOf 9) w = .ok 1 w := by intro w; kernel_rfl
  rw [show (10000 : Nat) = 9999 + 1 from rfl, run_equalIn_agg w 9999 55 _ _ nd_fields nd_held]
  simp only [Program.fieldsOf, Tryz.underlying55]
  go_simp
  simp only [mkB_beq]
  by_cases h1 : p = p' <;> by_cases h2 : v = v' <;> simp [h1, h2]
theorem eq_nd (p v p' v' : List UInt8) (w : World) : Sem.run Tryz.prog (binOp .eql 55 (.agg #[.string (mkB p), .string (mkB v)]) (.agg #[.string (mkB p'), .string (mkB v')])) w = .ok (.bool (decide ((p, v) = (p', v')))) w := by
  rw [run_eql_struct, eqin_nd]; rfl
theorem neq_nd (p v p' v' : List UInt8) (w : World) : Sem.run Tryz.prog (binOp .neq 55 (.agg #[.string (mkB p), .string (mkB v)]) (.agg #[.string (mkB p'), .string (mkB v')])) w = .ok (.bool (!decide ((p, v) = (p', v')))) w := by
  rw [run_neq_struct, eqin_nd]; rfl
theorem guard_nd (op : BinOp) (a b : Operand) (xs ys : Array Value) (w : World) : Sem.run Tryz.prog (eqGuard op 55 a b (.agg xs) (.agg ys)) w = .ok () w := run_eqGuard_agg w op _ a b xs ys (by kernel_rfl)

theorem hasN_drop (ns : List Nd) (k : Nat) (x : Nd) (h : k < ns.length) : hasN (ns.drop k) x = (decide (x = ns.getD k ([], [])) || hasN (ns.drop (k + 1)) x) := by
  unfold hasN
  rw [nd_getD h, List.drop_eq_getElem_cons h]
  simp only [List.mem_cons]
  by_cases hx : x = ns[k] <;> simp [hx]
theorem hasN_end (ns : List Nd) (k : Nat) (x : Nd) (h : ns.length ≤ k) : hasN (ns.drop k) x = false := by
  unfold hasN; rw [List.drop_eq_nil_of_le h]; simp

end Go.Proofs.YtlbibgofhhdgoaaGreat
