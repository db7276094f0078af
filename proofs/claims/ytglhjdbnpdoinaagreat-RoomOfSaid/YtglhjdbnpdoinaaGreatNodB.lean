/- Two nodes held against one another; a node's text, and a text's node: of the program and of the document. -/
import Derived.Test.YtglhjdbnpdoinaaGreatRolL
import Derived.Test.YtglhjdbnpdoinaaGreatNodA
namespace Go.Proofs.YtglhjdbnpdoinaaGreat
open Go.RowKit
set_option maxRecDepth 100000

/-- A parameter's own cells, just laid; the world named. -/
theorem boxB1 (w : World) (x y : Value) (t : TypeId) : ∃ W p, w.alloc (.cells #[x, y] t) = W ∧ w.heap.size = p ∧ W.cell? ⟨p, 0, none⟩ = some x ∧ W.cell? ⟨p, 1, none⟩ = some y ∧ Below w.heap.size w W :=
  let ⟨W, p, h1, h2, h3, h4, h5⟩ := box1 w x y t; ⟨W, p, h1, h2, h3, h4, h5.toBelow⟩
theorem boxB2 (w : World) (x y x' y' : Value) (t : TypeId) : ∃ W p q, (w.alloc (.cells #[x, y] t)).alloc (.cells #[x', y'] t) = W ∧ w.heap.size = p ∧ w.heap.size + 1 = q ∧ W.cell? ⟨p, 0, none⟩ = some x ∧ W.cell? ⟨p, 1, none⟩ = some y ∧ W.cell? ⟨q, 0, none⟩ = some x' ∧ W.cell? ⟨q, 1, none⟩ = some y' ∧ Below w.heap.size w W :=
  let ⟨W, p, q, h1, h2, h3, h4, h5, h6, h7, h8⟩ := box2 w x y x' y' t; ⟨W, p, q, h1, h2, h3, h4, h5, h6, h7, h8.toBelow⟩

theorem nmay_any (p v : List UInt8) (w : World) (hp : p.length ≤ 1000000000) (hv : v.length ≤ 1000000000) :
    Calls Tryz.prog 58 #[.agg #[.string (mkB p), .string (mkB v)]] w fun e w' => e = .returned (.bool (okN (p, v))) ∧ Below w.heap.size w w' := (nmay_bel p v w hp hv).mono fun _ _ ⟨h, k⟩ => ⟨h, k.toBelow⟩
theorem refnmay_any (p v : List UInt8) (w : World) (hp : p.length ≤ 1000000000) (hv : v.length ≤ 1000000000) :
    Calls Tryz.prog 25 #[.agg #[.string (mkB p), .string (mkB v)]] w fun e w' => e = .returned (.bool (okN (p, v))) ∧ Below w.heap.size w w' := (refnmay_bel p v w hp hv).mono fun _ _ ⟨h, k⟩ => ⟨h, k.toBelow⟩
theorem norder_any (p v p' v' : List UInt8) (w : World) (hv : v.length ≤ 1000000000) (hv' : v'.length ≤ 1000000000) (o : okN (p, v) = true) (o' : okN (p', v') = true) :
    Calls Tryz.prog 62 #[.agg #[.string (mkB p), .string (mkB v)], .agg #[.string (mkB p'), .string (mkB v')]] w fun e w' => e = .returned (.int .i64 (ordN (p, v) (p', v'))) ∧ Below w.heap.size w w' := (norder_bel p v p' v' w hv hv' o o').mono fun _ _ ⟨h, k⟩ => ⟨h, k.toBelow⟩
def cmpNE (a b : Nd) : Int × Int := if (okN a && okN b) = true then (ordN a b, 0) else (0, 1)
theorem cmpNE_yes {a b : Nd} (h : okN a = true) (k : okN b = true) : cmpNE a b = (ordN a b, 0) := by unfold cmpNE; rw [h, k]; rfl
theorem cmpNE_no {a b : Nd} (h : (okN a && okN b) = false) : cmpNE a b = (0, 1) := by unfold cmpNE; rw [h]; rfl

set_option maxHeartbeats 800000 in
theorem ncmp_any (p v p' v' : List UInt8) (w : World) (hp : p.length ≤ 1000000000) (hv : v.length ≤ 1000000000) (hp' : p'.length ≤ 1000000000) (hv' : v'.length ≤ 1000000000) :
    Calls Tryz.prog 86 #[.agg #[.string (mkB p), .string (mkB v)], .agg #[.string (mkB p'), .string (mkB v')]] w fun e w' => e = .returned (.tuple #[.int .i64 (cmpNE (p, v) (p', v')).1, .int .i64 (cmpNE (p, v) (p', v')).2]) ∧ Below w.heap.size w w' := by
  obtain ⟨W, g, g', hW, hg, hg', c0, c1, d0, d1, hb⟩ := boxB2 w (.string (mkB p)) (.string (mkB v)) (.string (mkB p')) (.string (mkB v')) 26
  have B := Lib.hid hb; have HW := Lib.hid hW; have HG := Lib.hid hg; have HG' := Lib.hid hg'; clear hb hW hg hg'
  obtain ⟨x, hx⟩ : ∃ r, okN (p, v) = r := ⟨_, rfl⟩
  obtain ⟨y, hy⟩ : ∃ r, okN (p', v') = r := ⟨_, rfl⟩
  cases x
  · have he := cmpNE_no (a := (p, v)) (b := (p', v')) (by rw [hx]; rfl)
    rw [he]
    have HX := Lib.hid hx; have HY := Lib.hid hy; clear hx hy he
    go_enter Tryz.func86, Tryz.ntmps86
    go_upto_region 1 with fail
    rw [HW.out, HG'.out, HG.out]
    go_wp2_with (go_at_call 58; refine (nmay_any _ _ _ hp hv).mono ?_; rintro e w1 ⟨rfl, hb1⟩; rw [HX.out]; replace B := Lib.hid (below_step B.out hb1); clear hb1)
    go_ret2
    exact ⟨rfl, B.out⟩
  · cases y
    · have he := cmpNE_no (a := (p, v)) (b := (p', v')) (by rw [hx, hy]; rfl)
      rw [he]
      have HX := Lib.hid hx; have HY := Lib.hid hy; clear hx hy he
      go_enter Tryz.func86, Tryz.ntmps86
      go_upto_region 1 with fail
      rw [HW.out, HG'.out, HG.out]
      go_wp2_with (go_at_call 58; refine (nmay_any _ _ _ (by first | exact hp | exact hp') (by first | exact hv | exact hv')).mono ?_; rintro e w1 ⟨rfl, hb1⟩; (first | rw [HX.out] | rw [HY.out]); replace B := Lib.hid (below_step B.out hb1); replace d0 := cell_keep d0 hb1; replace d1 := cell_keep d1 hb1; replace c0 := cell_keep c0 hb1; replace c1 := cell_keep c1 hb1; clear hb1)
      go_ret2
      exact ⟨rfl, B.out⟩
    · have he := cmpNE_yes hx hy
      rw [he]
      obtain ⟨T, hT⟩ : ∃ T, ordN (p, v) (p', v') = T := ⟨_, rfl⟩
      rw [hT]
      have HX := Lib.hid hx; have HY := Lib.hid hy; have HT := Lib.hid hT; clear hx hy he hT
      go_enter Tryz.func86, Tryz.ntmps86
      go_upto_region 1 with fail
      rw [HW.out, HG'.out, HG.out]
      go_wp2_with (first
        | (go_at_call 58; refine (nmay_any _ _ _ (by first | exact hp | exact hp') (by first | exact hv | exact hv')).mono ?_; rintro e w1 ⟨rfl, hb1⟩; (first | rw [HX.out] | rw [HY.out]); replace B := Lib.hid (below_step B.out hb1); replace d0 := cell_keep d0 hb1; replace d1 := cell_keep d1 hb1; replace c0 := cell_keep c0 hb1; replace c1 := cell_keep c1 hb1; clear hb1)
        | (go_at_call 62; refine (norder_any _ _ _ _ _ hv hv' HX.out HY.out).mono ?_; rintro e w1 ⟨rfl, hb1⟩; rw [HT.out]; replace B := Lib.hid (below_step B.out hb1); clear hb1))
      go_ret2
      exact ⟨rfl, B.out⟩

theorem refcmp_l (p q : List UInt8) (w : World) (hp : p.length ≤ 1000000000) (hq : q.length ≤ 1000000000) :
    Calls Tryz.prog 63 #[.string (mkB p), .string (mkB q)] w fun e w' => e = .returned (.int .i64 (Lib.compareBytes p q)) ∧ Below w.heap.size w w' := by
  have := refcmp_any (mkB p) (mkB q) w (by rw [mkB_size]; unfold maxLen; omega) (by rw [mkB_size]; unfold maxLen; omega)
  rw [mkB_list, mkB_list] at this
  exact this.mono fun _ _ ⟨h, k⟩ => ⟨h, below_q k⟩
theorem refvcmp_l (p q : List UInt8) (w : World) (hp : p.length ≤ 1000000000) (hq : q.length ≤ 1000000000) (op : okV p = true) (oq : okV q = true) :
    Calls Tryz.prog 64 #[.string (mkB p), .string (mkB q)] w fun e w' => e = .returned (.int .i64 (cmpT p q)) ∧ Below w.heap.size w w' := by
  have := refvcmp_any (mkB p) (mkB q) w (by rw [mkB_size]; exact hp) (by rw [mkB_size]; exact hq) (by rw [mkB_list]; exact op) (by rw [mkB_list]; exact oq)
  rw [mkB_list, mkB_list] at this
  exact this.mono fun _ _ ⟨h, k⟩ => ⟨h, k.toBelow⟩

set_option maxHeartbeats 800000 in
theorem refless_any (p v p' v' : List UInt8) (w : World) (hp : p.length ≤ 1000000000) (hv : v.length ≤ 1000000000) (hp' : p'.length ≤ 1000000000) (hv' : v'.length ≤ 1000000000) (o : okN (p, v) = true) (o' : okN (p', v') = true) :
    Calls Tryz.prog 51 #[.agg #[.string (mkB p), .string (mkB v)], .agg #[.string (mkB p'), .string (mkB v')]] w fun e w' => e = .returned (.bool (ltN (p, v) (p', v'))) ∧ Below w.heap.size w w' := by
  have OV := Lib.hid (okN_parts o).2; have OV' := Lib.hid (okN_parts o').2; clear o o'
  obtain ⟨W, g, g', hW, hg, hg', c0, c1, d0, d1, hb⟩ := boxB2 w (.string (mkB p)) (.string (mkB v)) (.string (mkB p')) (.string (mkB v')) 26
  have B := Lib.hid hb; have HW := Lib.hid hW; have HG := Lib.hid hg; have HG' := Lib.hid hg'; clear hb hW hg hg'
  obtain ⟨L, hL⟩ : ∃ L, ltN (p, v) (p', v') = L := ⟨_, rfl⟩
  rw [hL]
  have hcb := cb_vals p p'
  obtain ⟨C, hC⟩ : ∃ C, Lib.compareBytes p p' = C := ⟨_, rfl⟩
  rw [hC] at hcb
  by_cases he : p = p'
  · have hC0 : C = 0 := by rw [← hC, he, cb_self]
    have hq : ltN (p, v) (p', v') = decide (cmpT v v' < 0) := by unfold ltN ordN; rw [if_pos he]
    rw [hL] at hq
    obtain ⟨T, hT⟩ : ∃ T, cmpT v v' = T := ⟨_, rfl⟩
    rw [hT] at hq
    rw [hC0] at hC
    have HC := Lib.hid hC; have HT := Lib.hid hT; have HQ := Lib.hid hq
    clear hL hq hT hC hC0 hcb he
    go_enter Tryz.func51, Tryz.ntmps51
    go_upto_region 1 with fail
    rw [HW.out, HG'.out, HG.out]
    go_wp2_with (first
      | (go_at_call 63; refine (refcmp_l _ _ _ hp hp').mono ?_; rintro e w1 ⟨rfl, hb1⟩; rw [HC.out]; replace B := Lib.hid (below_step B.out hb1); replace d0 := cell_keep d0 hb1; replace d1 := cell_keep d1 hb1; replace c0 := cell_keep c0 hb1; replace c1 := cell_keep c1 hb1; clear hb1)
      | (go_at_call 64; refine (refvcmp_l _ _ _ hv hv' OV.out OV'.out).mono ?_; rintro e w1 ⟨rfl, hb1⟩; rw [HT.out]; replace B := Lib.hid (below_step B.out hb1); clear hb1))
    go_ret
    exact ⟨by rw [HQ.out]; rfl, B.out⟩
  · have hC0 : C ≠ 0 := fun e => he (cb_zero _ _ (by rw [hC]; exact e))
    have hq : ltN (p, v) (p', v') = decide (C < 0) := by unfold ltN ordN; rw [if_neg he, hC]
    rw [hL] at hq
    have HC := Lib.hid hC; have HQ := Lib.hid hq
    have hcc : (C = -1) ∨ (C = 1) := by omega
    clear hL hq hC hC0 hcb he
    rcases hcc with rfl | rfl
    all_goals
      go_enter Tryz.func51, Tryz.ntmps51
      go_upto_region 1 with fail
      rw [HW.out, HG'.out, HG.out]
      go_wp2_with (go_at_call 63; refine (refcmp_l _ _ _ hp hp').mono ?_; rintro e w1 ⟨rfl, hb1⟩; rw [HC.out]; replace B := Lib.hid (below_step B.out hb1); clear hb1)
      go_ret
      exact ⟨by rw [HQ.out]; rfl, B.out⟩

theorem at_txt (x y : List UInt8) : mkB x ++ (⟨#[64]⟩ : ByteArray) ++ mkB y = mkB (textN (x, y)) := mkB_of' (by simp only [cat_list, mkB_list, textN]; simp)
/-! ### A text's node -/
set_option maxHeartbeats 400000 in
theorem lcut64_any (s : ByteArray) (w : World) (hs : s.size ≤ 1000000000) :
    Calls Tryz.prog 107 #[.string s, .string ⟨#[64]⟩] w fun e w' => e = .returned (.tuple #[.string (mkB (cutA s.data.toList).1), .string (mkB (cutA s.data.toList).2), .bool (decide (ixA s.data.toList < s.data.toList.length))]) ∧ ∃ n, w' = w.drewN n := by
  unfold cutA
  obtain ⟨i, hi⟩ : ∃ i, ixA s.data.toList = i := ⟨_, rfl⟩
  have hle := ixA_le s.data.toList
  have hib := indexByte_A s.data.toList
  have hl := Lib.size_eq s
  rw [hi] at hle hib ⊢
  rw [← hl] at hle hib ⊢
  by_cases h : i < s.size
  · rw [if_pos h] at hib
    have HIB := Lib.hid hib
    have e1 : s.data.toList.take i = (s.data.toList.drop 0).take (i - 0) := by simp
    have e2 : s.data.toList.drop (i + 1) = (s.data.toList.drop (i + 1)).take (s.size - (i + 1)) := by rw [List.take_of_length_le (by simp)]
    have E1 := Lib.hid e1; have E2 := Lib.hid e2
    clear hib hi hl e1 e2
    have k1 : (0 : Int) ≤ (i : Int) := by omega
    have k2 : (i : Int) ≤ (s.size : Int) := by omega
    have k3 : IntKind.i64.wrap ((i : Int) + 1) = (i : Int) + 1 := IntWalk.i64_in _ (by omega)
    have k4 : (0 : Int) ≤ (i : Int) + 1 := by omega
    have k5 : (i : Int) + 1 ≤ (s.size : Int) := by omega
    have k6 : ((i : Int) + 1).toNat = i + 1 := by omega
    go_enter Tryz.func107, Tryz.ntmps107
    go_wp2_with (go_at_call 125; refine (Tryz.stringslite_Index_one s 64 w).mono ?_; rintro e w' ⟨rfl, rfl⟩; rw [HIB.out])
    go_quiet (fail)
    go_wp2
    ((try simp only [Exit.inBlock, Exit.then]); refine bodyPost_ret (results_tmp3 rfl _ _ _) rfl ?_)
    exact ⟨by rw [decide_eq_true h, strV_mk, strV_mk, ← E1.out, ← E2.out]; rfl, _, rfl⟩
  · rw [if_neg h] at hib
    have HIB := Lib.hid hib
    have e1 : s.data.toList.take i = s.data.toList := List.take_of_length_le (by omega)
    have e2 : s.data.toList.drop (i + 1) = [] := List.drop_eq_nil_of_le (by omega)
    have E1 := Lib.hid e1; have E2 := Lib.hid e2
    clear hib hi hl e1 e2
    go_enter Tryz.func107, Tryz.ntmps107
    go_wp2_with (go_at_call 125; refine (Tryz.stringslite_Index_one s 64 w).mono ?_; rintro e w' ⟨rfl, rfl⟩; rw [HIB.out])
    ((try simp only [Exit.inBlock, Exit.then]); refine bodyPost_ret (results_tmp3 rfl _ _ _) rfl ?_)
    exact ⟨by rw [decide_eq_false h, E1.out, E2.out]; rfl, 0, rfl⟩
set_option maxHeartbeats 400000 in
theorem cut64_any (l p v : List UInt8) (h : cutA l = (p, v)) (w : World) (hs : l.length ≤ 1000000000) :
    Calls Tryz.prog 94 #[.string (mkB l), .string ⟨#[64]⟩] w fun e w' => e = .returned (.tuple #[.string (mkB p), .string (mkB v), .bool (decide (ixA l < l.length))]) ∧ Below w.heap.size w w' := by
  have hc := lcut64_any (mkB l) w (by rw [mkB_size]; exact hs)
  rw [mkB_list, h] at hc
  have HC := Lib.hid hc; clear hc
  go_enter Tryz.func94, Tryz.ntmps94
  go_wp2_with (go_at_call 107; refine HC.out.mono ?_; rintro e w' ⟨rfl, hq⟩; have hb := below_q hq; clear hq)
  ((try simp only [Exit.inBlock, Exit.then]); refine bodyPost_ret (results_tmp3 rfl _ _ _) rfl ?_)
  exact ⟨rfl, hb⟩
def zeroN : Array Value := #[.string ⟨#[]⟩, .string ⟨#[]⟩]

end Go.Proofs.YtglhjdbnpdoinaaGreat
