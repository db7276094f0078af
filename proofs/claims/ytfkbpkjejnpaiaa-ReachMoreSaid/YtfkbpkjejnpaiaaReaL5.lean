/- Of every graph (no more of it than is looked at) and every pair: a pair more reaches no less, and then once less it is as it was; what is reached has one that is reached, or Root, ahead of it; no condition. -/
import Derived.Test.YtfkbpkjejnpaiaaRows
import Derived.Test.YtfkbpkjejnpaiaaReaV
import Derived.ProofKit
import Derived.OpenShut
import Derived.ShutString
import Derived.ChangeOld
namespace Go.Proofs.Ytfkbpkjejnpaiaa.reachMore
open Go.ChangeShapes Go.WideShapes Go.ChangeAt Go.RowKit
open Go.ChangeMaps (open_string shut_string)
set_option maxRecDepth 100000
set_option linter.unusedVariables false

theorem link_no {g : Gr} {f t : Int} (h : linkK g f t ≠ 0) : linkG g f t = g ∧ linkD g f t = [] := by
  unfold linkG linkD; rw [if_neg h, if_neg h]; exact ⟨rfl, rfl⟩
theorem link_with {g : Gr} {f t : Int} (h : linkK g f t = 0) : okG g = true ∧ -1 ≤ f ∧ 0 ≤ t ∧ manyE g.1 f t ≠ topE ∧ linkL g f t = withE g.1 (f, t, manyE g.1 f t + 1) := by
  unfold linkK at h
  unfold linkL
  by_cases ho : okG g = true
  · rw [if_pos ho] at h ⊢
    have h2 := h
    unfold addK at h
    by_cases hm : mayE g.1 f t = true
    · rw [if_pos hm] at h
      obtain ⟨-, h3, h4⟩ := mayE_ok hm
      refine ⟨ho, h3, h4, (fun e => by rw [if_pos e] at h; cases h), ?_⟩
      unfold addL; rw [if_pos h2]
    · rw [if_neg hm] at h; cases h
  · rw [if_neg ho] at h; cases h
theorem fil_len (p : Int → Bool) (l : List Int) : l.length = (l.filter p).length + (l.filter fun z => !p z).length := by
  induction l with
  | nil => rfl
  | cons x l ih => cases h : p x <;> simp [h] <;> omega
theorem more_sub {g : Gr} {f t : Int} (h : linkK g f t = 0) : ∀ z ∈ g.2, z ∈ liveE (linkL g f t) := fun z hz => by
  have hl := (link_ok h).1
  rw [(okG_iff.1 hl.okg).2] at hz
  obtain ⟨h1, h2⟩ := live_mem.1 hz
  exact live_mem.2 ⟨h1, h2.mono fun x y k => (hl.ed x y).2 (.inl k)⟩
theorem more_len {g : Gr} {f t : Int} (h : linkK g f t = 0) : (liveE (linkL g f t)).length = g.2.length + (minusI (liveE (linkL g f t)) g.2).length := by
  have h1 := fil_len (hasB g.2) (liveE (linkL g f t))
  have h2 : (liveE (linkL g f t)).filter (hasB g.2) = g.2 := by
    have hl := (link_ok h).1
    refine rises_uniq ((live_pw _).sublist List.filter_sublist) (by rw [(okG_iff.1 hl.okg).2]; exact live_pw _) fun z => ?_
    rw [List.mem_filter]
    unfold hasB
    rw [decide_eq_true_eq]
    exact ⟨fun h => h.2, fun hz => ⟨more_sub h z hz, hz⟩⟩
  rw [h2] at h1
  exact h1
theorem more_back {g : Gr} {f t : Int} (h : linkK g f t = 0) : unlkK (linkL g f t, liveE (linkL g f t)) f t = 0 ∧ unlkG (linkL g f t, liveE (linkL g f t)) f t = g ∧ unlkD (linkL g f t, liveE (linkL g f t)) f t = minusI (liveE (linkL g f t)) g.2 := by
  obtain ⟨hl, -⟩ := link_ok h
  obtain ⟨hok, h1, h2, h3, h4⟩ := link_with h
  obtain ⟨h5, h6⟩ := okG_iff.1 hok
  have hb := many_bd h5 f t
  have hM : okG (linkL g f t, liveE (linkL g f t)) = true := okG_iff.2 ⟨hl.ok, rfl⟩
  have hmy : manyE (linkL g f t) f t = manyE g.1 f t + 1 := by
    rw [h4, with_many (by show 0 ≤ manyE g.1 f t + 1; omega), if_pos (show isP f t (f, t, manyE g.1 f t + 1) = true from isP_iff.2 ⟨rfl, rfl⟩)]
  have hmay : mayE (linkL g f t) f t = true := by unfold mayE ableE; rw [hl.ok, decide_eq_true h1, decide_eq_true h2]; rfl
  have hK : dropK (linkL g f t) f t = 0 := by unfold dropK; rw [if_pos hmay, if_neg (by rw [hmy]; omega)]
  have hE : dropL (linkL g f t) f t = g.1 := by
    unfold dropL
    rw [if_pos hK]
    refine edges_ext (with_ok hl.ok h1 h2 (by show manyE _ f t - 1 ≤ topE; rw [hmy]; omega)) h5 fun x y => ?_
    rw [with_many (by show 0 ≤ manyE _ f t - 1; rw [hmy]; omega)]
    by_cases e : isP x y (f, t, manyE (linkL g f t) f t - 1) = true
    · rw [if_pos e]
      obtain ⟨e1, e2⟩ := isP_iff.1 e
      simp only at e1 e2 ⊢
      rw [hmy, ← e1, ← e2]; omega
    · rw [if_neg e, h4, with_many (by show 0 ≤ manyE g.1 f t + 1; omega)]
      rw [if_neg (show ¬ isP x y (f, t, manyE g.1 f t + 1) = true from fun k => e (isP_iff.2 (isP_iff.1 k)))]
  obtain ⟨u1, u2⟩ := unlkL_of hM f t
  have hk0 : unlkK (linkL g f t, liveE (linkL g f t)) f t = 0 := by rw [u2]; exact hK
  obtain ⟨v1, v2⟩ := unlk_vals hk0 (E := g.1) (by rw [u1]; exact hE) (L := g.2) h6.symm
  exact ⟨hk0, v1, v2⟩
def aheadB (Lx B : List Int) : Bool := B.any fun b => decide (b = -1) || hasB Lx b
theorem ahead_snoc (Lx B : List Int) (y : Int) : aheadB Lx (B ++ [y]) = (aheadB Lx B || (decide (y = -1) || hasB Lx y)) := by unfold aheadB; rw [List.any_append]; simp
theorem ahead_yes {M : List Ed} {z : Int} (h : z ∈ liveE M) : aheadB (liveE M) (backE M z) = true := by
  obtain ⟨h1, h2⟩ := live_mem.1 h
  rcases h2.last with e | ⟨y, hy, e, he, hey, hez⟩
  · exact absurd e h1
  · unfold aheadB
    rw [List.any_eq_true]
    refine ⟨y, ?_, ?_⟩
    · unfold backE
      exact List.mem_map.2 ⟨e, List.mem_filter.2 ⟨he, by simpa using hez⟩, hey⟩
    · by_cases e : y = -1
      · simp [e]
      · have : y ∈ liveE M := live_mem.2 ⟨e, hy⟩
        simp [hasB, this]
set_option maxRecDepth 100000 in
set_option maxHeartbeats 6400000 in
theorem walk (V : Value) (g0 : Gr) (f t : Int) (w : World) (hV : GraIn w V g0) (hf : (Lit.int .i64 f).wf = true) (ht : (Lit.int .i64 t).wf = true) :
    Calls Try.prog 7 #[V, .int .i64 f, .int .i64 t] w fun e w' => e = .returned (.bool true) ∧ Below w.heap.size w w' := by
  obtain ⟨hV, fV⟩ := hV
  obtain ⟨a0, c0, b0, d0, rfl, -⟩ := hV.ex
  obtain ⟨g, hg⟩ : ∃ g, fewG g0 = g := ⟨_, rfl⟩
  have kf := fun V w h => gfew_any V g0 w h
  have hfg : ∀ e ∈ g.1, fitE e := by rw [← hg]; exact fun e he => fV e (List.mem_of_mem_take he)
  have hl := fewG_len g0
  rw [hg] at kf hl
  obtain ⟨E, Lv⟩ := g
  simp only at hfg hl
  obtain ⟨n, hn⟩ : ∃ n, E.length = n := ⟨_, rfl⟩
  obtain ⟨m, hm⟩ : ∃ m, Lv.length = m := ⟨_, rfl⟩
  have hl1 := hl.1
  have hl2 := hl.2
  have hff := fit_wf hf
  have hft := fit_wf ht
  have kx := fun V w h => link_any V (E, Lv) f t w h (by show E.length ≤ _; omega) (by show Lv.length ≤ _; omega) hfg hff hft
  have ks := fun U V w h h' => refgsame_any U V (E, Lv) (E, Lv) w h h'
  have kp := fun U V w h h' => gsame_any U V (E, Lv) (E, Lv) w h h'
  simp only [decide_true] at ks kp
  clear hf ht
  obtain ⟨n0, hn0⟩ : ∃ n, g0.1.length = n := ⟨_, rfl⟩
  obtain ⟨m0, hm0⟩ : ∃ m, g0.2.length = m := ⟨_, rfl⟩
  rw [hn0, hm0] at hV ⊢
  obtain ⟨W, pP, hW, hp, r0, hb⟩ := boxR1 w (.slice a0 n0 c0) (.slice b0 m0 d0) 25
  have GP := Lib.hid (hV.below hb); have HW := Lib.hid hW; have HP := Lib.hid hp; have BB := Lib.hid hb; have RP := Lib.hid r0; have LP := Lib.hid (show w.heap.size ≤ pP by omega); have HN := Lib.hid hn; have HM := Lib.hid hm; have KF := Lib.hid kf; have HFG := Lib.hid hfg
  obtain ⟨p0, p1, -, -⟩ := row2 r0
  rw [hn] at hl1
  rw [hm] at hl2
  clear hV fV hW hp r0 hb hg hn hm hn0 hm0 kf hfg hl
  have KSM := Lib.hid ks; have KP := Lib.hid kp
  clear ks kp
  obtain ⟨K, hK⟩ : ∃ k, linkK (E, Lv) f t = k := ⟨_, rfl⟩
  by_cases hk : K = 0
  · rw [hk] at hK
    obtain ⟨hb1, hb2, hb3⟩ := more_back hK
    have hlen := more_len hK
    obtain ⟨hgg, hdd⟩ := link_vals hK (E := linkL (E, Lv) f t) rfl (L := liveE (linkL (E, Lv) f t)) rfl
    have hMl := (link_ok hK).1.len
    have hMf := (link_ok hK).2 HFG.out hff hft
    rw [hK, hgg, hdd] at kx
    obtain ⟨M, hM⟩ : ∃ M, linkL (E, Lv) f t = M := ⟨_, rfl⟩
    rw [hM] at kx hb1 hb2 hb3 hlen hMl hMf
    simp only at hMl hb3 hlen kx
    rw [HN.out] at hMl
    have hll := live_len M
    have ky := fun V w h => unlk_any V (M, liveE M) f t w h (by show M.length ≤ _; omega) (by show (liveE M).length ≤ _; omega) hMf hff hft
    rw [hb1, hb2, hb3] at ky
    have hah : ∀ z ∈ liveE M, aheadB (liveE M) (backE M z) = true := fun z hz => ahead_yes hz
    obtain ⟨R, hR⟩ : ∃ R, liveE M = R := ⟨_, rfl⟩
    rw [hR] at kx ky hlen hll hah
    obtain ⟨D, hD⟩ : ∃ D, minusI R Lv = D := ⟨_, rfl⟩
    rw [hD] at kx ky hlen
    have ki := fun U V w h h' => refints_any U V D D w h h'
    simp only [decide_true] at ki
    have kb := fun V z w h => refback_any V M z w h (by omega)
    obtain ⟨nM, hnM⟩ : ∃ x, M.length = x := ⟨_, rfl⟩
    obtain ⟨nR, hnR⟩ : ∃ x, R.length = x := ⟨_, rfl⟩
    obtain ⟨nD, hnD⟩ : ∃ x, D.length = x := ⟨_, rfl⟩
    rw [hnM] at hMl hll
    rw [hnR] at hll hlen
    rw [HM.out, hnD] at hlen
    have hle3 : ((nR : Nat) : Int) = (m : Int) + (nD : Int) := by omega
    have HL3 := Lib.hid hle3; have HAH := Lib.hid hah; have KX := Lib.hid kx; have KY := Lib.hid ky; have KI := Lib.hid ki; have KB := Lib.hid kb; have HNM := Lib.hid hnM; have HNR := Lib.hid hnR; have HND := Lib.hid hnD
    clear kx ky ki kb hK hM hMf hgg hdd hb1 hb2 hb3 hR hD hnM hnR hnD hff hft hk hlen hle3 hah
    go_enter Try.func7, Try.ntmps7
    go_upto_region 1 with fail
    rw [HW.out, HP.out]
    go_upto_region 2 with (go_at_call 11; refine (KF.out _ _ GP.out).mono ?_; rintro e w1 ⟨v1, rfl, hg1, hb1⟩; obtain ⟨aF, cF, bF, dF, rfl, hG1⟩ := hg1.lens HN.out HM.out; replace RP := Lib.hid (row_keepB RP.out hb1); clear p0 p1; replace BB := Lib.hid (below_step BB.out hb1); have GF := Lib.hid hG1; obtain ⟨p0, p1, ff0, ff1⟩ := row2 RP.out; clear hg1 hG1 hb1 KF GP)
    obtain ⟨WY, hWY⟩ : ∃ r, (w1.setCell ⟨pP, 0, none⟩ (.slice aF n cF)).setCell ⟨pP, 1, none⟩ (.slice bF m dF) = r := ⟨_, rfl⟩
    have hRI := RP.out
    have hRN := row2_set hRI (.slice aF n cF) (.slice bF m dF)
    have hGF := Gra.set (a' := aF) (n' := n) (c' := cF) (b' := bF) (m' := m) (d' := dF) GF.out hRI
    have hBN := (BB.out.setCell (p := ⟨pP, 0, none⟩) LP.out (.slice aF n cF)).setCell (p := ⟨pP, 1, none⟩) LP.out (.slice bF m dF)
    rw [hWY] at hRN hBN hGF ⊢
    clear hWY hRI ff0 ff1 p0 p1
    replace GF := Lib.hid hGF
    replace RP := Lib.hid hRN
    replace BB := Lib.hid hBN
    clear hRN hBN hGF
    obtain ⟨p0, p1, -, -⟩ := row2 RP.out
    go_upto_region 3 with (go_at_call 20; refine (KX.out _ _ GF.out).mono ?_; rintro e w1 ⟨v1, u1, rfl, hg1, hu1, hb1⟩; obtain ⟨aX, cX, bX, dX, rfl, hG1⟩ := hg1.lens (n := nM) (m := nR) HNM.out HNR.out; obtain ⟨aU, cU, rfl, hU1⟩ := intsR hu1 (n := nD) HND.out; replace p0 := cell_keep p0 hb1; replace p1 := cell_keep p1 hb1; replace RP := Lib.hid (row_keepB RP.out hb1); replace GF := Lib.hid (GF.out.below hb1); replace BB := Lib.hid (below_step BB.out hb1); have GX := Lib.hid hG1; have SU := Lib.hid hU1; clear hg1 hu1 hG1 hU1 hb1 KX)
    obtain ⟨WX, pX, hW2, hp2, hr2, hb1⟩ := boxR1 w1 (.slice aX nM cX) (.slice bX nR dX) 25
    rw [hW2, hp2]
    have LX := Lib.hid (show w.heap.size ≤ pX from by rw [← hp2]; exact BB.out.size)
    replace p0 := cell_keep p0 hb1
    replace p1 := cell_keep p1 hb1
    replace RP := Lib.hid (row_keepB RP.out hb1)
    replace GF := Lib.hid (GF.out.below hb1)
    replace GX := Lib.hid (GX.out.below hb1)
    replace SU := Lib.hid (SU.out.belowB hb1)
    replace BB := Lib.hid (below_step BB.out hb1)
    obtain ⟨x0, x1, -, -⟩ := row2 hr2
    have RX := Lib.hid hr2
    clear hW2 hp2 hr2 hb1
    go_upto_region 6 with (go_at_call 25; refine (KY.out _ _ GX.out).mono ?_; rintro e w1 ⟨v1, u1, rfl, hg1, hu1, hb1⟩; obtain ⟨aY, cY, bY, dY, rfl, hG1⟩ := hg1.lens (n := n) (m := m) HN.out HM.out; obtain ⟨aQ, cQ, rfl, hU1⟩ := intsR hu1 (n := nD) HND.out; replace p0 := cell_keep p0 hb1; replace p1 := cell_keep p1 hb1; replace x0 := cell_keep x0 hb1; replace x1 := cell_keep x1 hb1; replace RP := Lib.hid (row_keepB RP.out hb1); replace RX := Lib.hid (row_keepB RX.out hb1); replace GF := Lib.hid (GF.out.below hb1); replace GX := Lib.hid (GX.out.below hb1); replace SU := Lib.hid (SU.out.belowB hb1); replace BB := Lib.hid (below_step BB.out hb1); have GY := Lib.hid hG1; have SQ := Lib.hid hU1; clear hg1 hu1 hG1 hU1 hb1 KY)
    obtain ⟨WY, pY, hW2, hp2, hr2, hb1⟩ := boxR1 w1 (.slice aY n cY) (.slice bY m dY) 25
    rw [hW2, hp2]
    have LY := Lib.hid (show w.heap.size ≤ pY from by rw [← hp2]; exact BB.out.size)
    replace p0 := cell_keep p0 hb1
    replace p1 := cell_keep p1 hb1
    replace x0 := cell_keep x0 hb1
    replace x1 := cell_keep x1 hb1
    replace RP := Lib.hid (row_keepB RP.out hb1)
    replace RX := Lib.hid (row_keepB RX.out hb1)
    replace GF := Lib.hid (GF.out.below hb1)
    replace GX := Lib.hid (GX.out.below hb1)
    replace GY := Lib.hid (GY.out.below hb1)
    replace SU := Lib.hid (SU.out.belowB hb1)
    replace SQ := Lib.hid (SQ.out.belowB hb1)
    replace BB := Lib.hid (below_step BB.out hb1)
    obtain ⟨y0, y1, -, -⟩ := row2 hr2
    have RY := Lib.hid hr2
    clear hW2 hp2 hr2 hb1
    have hw3 : IntKind.i64.wrap ((m : Int) + (nD : Int)) = (nR : Int) := by rw [IntKind.wrap_i64]; have := HL3.out; omega
    have hnn : ((nR : Int) != (nR : Int)) = false := by simp
    have hadd : (m : Int) + (nD : Int) = (nR : Int) := HL3.out.symm
    go_upto_region 8 with (first
        | (go_at_call 15; refine (KP.out _ _ _ GY.out GF.out).mono ?_; rintro e w9 ⟨rfl, hb1⟩; replace p0 := cell_keep p0 hb1; replace p1 := cell_keep p1 hb1; replace x0 := cell_keep x0 hb1; replace x1 := cell_keep x1 hb1; replace y0 := cell_keep y0 hb1; replace y1 := cell_keep y1 hb1; replace RP := Lib.hid (row_keepB RP.out hb1); replace RX := Lib.hid (row_keepB RX.out hb1); replace RY := Lib.hid (row_keepB RY.out hb1); replace GF := Lib.hid (GF.out.below hb1); replace GX := Lib.hid (GX.out.below hb1); replace GY := Lib.hid (GY.out.below hb1); replace SU := Lib.hid (SU.out.belowB hb1); replace SQ := Lib.hid (SQ.out.belowB hb1); replace BB := Lib.hid (below_step BB.out hb1); clear hb1)
        | (go_at_call 23; refine (KI.out _ _ _ SU.out SQ.out).mono ?_; rintro e w9 ⟨rfl, hb1⟩; replace p0 := cell_keep p0 hb1; replace p1 := cell_keep p1 hb1; replace x0 := cell_keep x0 hb1; replace x1 := cell_keep x1 hb1; replace y0 := cell_keep y0 hb1; replace y1 := cell_keep y1 hb1; replace RP := Lib.hid (row_keepB RP.out hb1); replace RX := Lib.hid (row_keepB RX.out hb1); replace RY := Lib.hid (row_keepB RY.out hb1); replace GF := Lib.hid (GF.out.below hb1); replace GX := Lib.hid (GX.out.below hb1); replace GY := Lib.hid (GY.out.below hb1); replace SU := Lib.hid (SU.out.belowB hb1); replace SQ := Lib.hid (SQ.out.belowB hb1); replace BB := Lib.hid (below_step BB.out hb1); clear hb1))
    obtain ⟨wz, hwz⟩ : ∃ r, r = w9 := ⟨_, rfl⟩
    subst hwz
    clear x0 x1 p0 p1 y0 y1 hw3 hnn hadd
    have e1 : ∀ args w, (callFunc 26 args).run Try.prog w = .ok (.enter 26 args) w := enters_of Try.func26 (by kernel_rfl) rfl
    go_wp2
    go_loopw [13] (fun i wr => ∃ k : Nat, k ≤ nR ∧ i = .int .i64 k ∧ Hid (Below wz.heap.size wz wr)) (fun i _ => nR - (numR i).toNat)
    case atStart => exact ⟨0, Nat.zero_le _, rfl, Lib.hid (Below.refl _ _)⟩
    case round =>
      obtain ⟨k, hk, rfl, HB⟩ := hrel
      have RXk := Lib.hid (row_keepB RX.out HB.out); have GXk := Lib.hid (GX.out.below HB.out); have BBk := Lib.hid (below_step BB.out HB.out)
      obtain ⟨x0, x1, -, -⟩ := row2 RXk.out
      by_cases hlt : k < nR
      · have hkl : k < R.length := by rw [HNR.out]; exact hlt
        have hlv := gra_snd GXk.out
        obtain ⟨gb, go, rfl⟩ := hlv.some (by omega)
        have hck := hlv.cell k hlt
        have hah := HAH.out _ (int_mem hkl)
        obtain ⟨z, hz⟩ : ∃ z, z = R.getD k 0 := ⟨_, rfl⟩
        rw [← hz] at hck hah
        have hbl := backE_len M z
        obtain ⟨Bk, hBk⟩ : ∃ b, backE M z = b := ⟨_, rfl⟩
        rw [hBk] at hah hbl
        obtain ⟨nb, hnb⟩ : ∃ n, Bk.length = n := ⟨_, rfl⟩
        rw [hnb, HNM.out] at hbl
        have HBK := Lib.hid hBk; have HNB := Lib.hid hnb; have HAZ := Lib.hid hah
        have hkm : (k : Int) < (nR : Int) := by omega
        clear hz hBk hnb hah hlv
        go_upto_region 11 with fail
        refine rol_run (by kernel_rfl) [[], [0], [], [2], [], [2, 3, 4], [2, 3, 4, 5], [0, 1, 2, 3, 4, 5, 6], [0, 1, 2, 3, 4, 5, 6, 7]] (by kernel_rfl) [76, 77, 78, 79, 80, 81, 82, 83, 14] [[], [0, 9], [], [2, 9], [], [3, 4], [5], [1, 6], [7]] [0, 0, 0, 0, 0, 0, 0, 1, 1, 3] [0, 0, 0, 0, 0, 0, 0, 0, 0] [1000, 1000, 1000, 1000, 1000, 1000, 1000, 1000, 1000, 1000] [.val 76 (.pointer (some ⟨pX, 0, none⟩)), .val 77 (.slice aX nM cX), .val 78 (.pointer (some ⟨pX, 1, none⟩)), .val 79 (.slice (some ⟨gb, go, none⟩) nR dX), .val 80 (.int .i64 (k : Int)), .val 81 (.pointer (some ⟨gb, go + k, none⟩)), .val 82 (.int .i64 z), .mem 83 (rowR wr.heap.size 3 1 Bk.length (intZ Bk)), .mem 14 (rowR wr.heap.size 3 1 Bk.length (intZ Bk)), .box (pX) (.cells #[.slice aX nM cX, .slice (some ⟨gb, go, none⟩) nR dX] 25)] (by kernel_rfl) ?_ (wr.heap.size) (wr.heap.size) rfl (Below.refl _ _) rfl (fun _ => 3) ?_ ?_ ?_
        · intro j hj
          have hj3 : j < 10 := hj
          have hj2 : j = 0 ∨ j = 1 ∨ j = 2 ∨ j = 3 ∨ j = 4 ∨ j = 5 ∨ j = 6 ∨ j = 7 ∨ j = 8 ∨ j = 9 := by omega
          clear hj hj3
          rcases hj2 with rfl | rfl | rfl | rfl | rfl | rfl | rfl | rfl | rfl | rfl
          · exact trivial
          · exact trivial
          · exact trivial
          · exact trivial
          · exact trivial
          · exact trivial
          · exact trivial
          · exact rowR_near
          · exact rowR_near
          · exact trivial
        · intro j hj0 hj
          have hj1 : 9 ≤ j := hj0
          have hj3 : j < 10 := hj
          have hj2 : j = 9 := by omega
          clear hj0 hj hj1 hj3
          rcases hj2 with rfl
          · exact ⟨RXk.out, rfl⟩
        · intro i hi a wx who hG hF
          have hz : a.tmps.size = 110 := hG.size
          have hi3 : i < 9 := hi
          have hi2 : i = 0 ∨ i = 1 ∨ i = 2 ∨ i = 3 ∨ i = 4 ∨ i = 5 ∨ i = 6 ∨ i = 7 ∨ i = 8 := by omega
          clear hi hi3
          rcases hi2 with rfl | rfl | rfl | rfl | rfl | rfl | rfl | rfl | rfl
          · exact rol_val rfl rfl rfl (by rw [hz]; decide) (ex_field rfl (eval_slot ((hG.slots 7 (by decide)).trans rfl)) (by go_simp)) hG.below
          · exact rol_val rfl rfl rfl (by rw [hz]; decide) (ex_load rfl (eval_slot (hF 0 (by decide))) (ld_eds (row2 (hF 9 (by decide)).1).1)) hG.below
          · exact rol_val rfl rfl rfl (by rw [hz]; decide) (ex_field rfl (eval_slot ((hG.slots 7 (by decide)).trans rfl)) (by go_simp)) hG.below
          · exact rol_val rfl rfl rfl (by rw [hz]; decide) (ex_load rfl (eval_slot (hF 2 (by decide))) (ld_ints (row2 (hF 9 (by decide)).1).2.1)) hG.below
          · exact rol_val rfl rfl rfl (by rw [hz]; decide) (ex_move (Or.inl rfl) (eval_slot ((hG.slots 13 (by decide)).trans rfl))) hG.below
          · exact rol_val rfl rfl rfl (by rw [hz]; decide) (ex_index rfl (eval_slot (hF 3 (by decide))) (eval_slot (hF 4 (by decide))) (idxR hlt)) hG.below
          · exact rol_val rfl rfl rfl (by rw [hz]; decide) (ex_load rfl (eval_slot (hF 5 (by decide))) (ld_numR (cell_keep hck hG.below))) hG.below
          · refine rol_calls rfl rfl rfl (by rw [hz]; decide) (ex_call rfl (by simp [eval_slot (hF 1 (by decide)), eval_slot (hF 6 (by decide))]) e1) (KB.out _ z wx (gra_fst (GXk.out.below hG.below))) ?_ hG.below hG.new
            rw [HBK.out]
            rintro e w1 ⟨u, rfl, hown, hb1⟩
            exact ⟨u, rfl, hb1, .inr (.inl ⟨_, u.ownBlock, rfl, fun b e => hown.lt b e, row_base hown hG.new, rfl⟩)⟩
          · exact rol_move rfl rfl rfl (by rw [hz]; decide) (Or.inr rfl) (hF 7 (by decide)) hG.below
        · intro a wx who hG hF
          obtain ⟨v14, ob14, fv14, fo14, fp14⟩ := hF 8 (of_decide_eq_true (by kernel_rfl)) (of_decide_eq_true (by kernel_rfl))
          replace fv14 : a.tmps.getD 14 undef = v14 := eval_slot (s := 14) fv14
          have hbx := hG.below
          have hnx := hG.new
          rw [hG.frame]
          simp only [List.foldl_cons, List.foldl_nil, List.setIfInBounds_toArray, List.set_cons_zero, List.set_cons_succ]
          generalize a.tmps.getD 76 undef = u76
          generalize a.tmps.getD 77 undef = u77
          generalize a.tmps.getD 78 undef = u78
          generalize a.tmps.getD 79 undef = u79
          generalize a.tmps.getD 80 undef = u80
          generalize a.tmps.getD 81 undef = u81
          generalize a.tmps.getD 82 undef = u82
          generalize a.tmps.getD 83 undef = u83
          rw [fv14]
          clear hF hG fv14
          obtain ⟨hrow14, -⟩ := fp14
          obtain ⟨aB, cB, rfl, hIB⟩ := intsR hrow14 HNB.out
          have SB := Lib.hid hIB; have RXx := Lib.hid (row_keepB RXk.out hbx); have GXx := Lib.hid (GXk.out.below hbx); have BBx := Lib.hid (below_step HB.out hbx)
          clear hrow14 hIB fo14 hbx hnx x0 x1
          obtain ⟨w7, hw7⟩ : ∃ r, r = wx := ⟨_, rfl⟩
          subst hw7
          go_wp2
          go_loopw [15, 16] (fun v i wr2 => ∃ (j q : Nat), j ≤ nb ∧ i = .int .i64 j ∧ v = .bool (aheadB R (Bk.take j)) ∧ wr2 = w7.drewN q) (fun _ i _ => nb - (numR i).toNat)
          case atStart => exact ⟨0, 0, Nat.zero_le _, rfl, by simp [aheadB], rfl⟩
          case round =>
            obtain ⟨j, q, hj, rfl, rfl, rfl⟩ := hrel
            obtain ⟨Wq, hWq⟩ : ∃ Wq, w7.drewN q = Wq := ⟨_, rfl⟩
            have hbq : Below w7.heap.size w7 Wq := by rw [← hWq]; exact below_q ⟨q, rfl⟩
            have HWQ := Lib.hid hWq
            rw [hWq]
            have RXq := Lib.hid (row_keepB RXx.out hbq); have GXq := Lib.hid (GXx.out.below hbq); have SBq := Lib.hid (SB.out.belowB hbq); have BBq := Lib.hid (below_step BBx.out hbq)
            clear hbq hWq
            obtain ⟨x0, x1, -, -⟩ := row2 RXq.out
            by_cases hjl : j < nb
            · obtain ⟨tb, to0, rfl⟩ := SBq.out.some (by omega)
              have hct := SBq.out.cell j hjl
              have hjB : j < Bk.length := by rw [HNB.out]; exact hjl
              have hsn : aheadB R (Bk.take (j + 1)) = (aheadB R (Bk.take j) || (decide (Bk.getD j 0 = -1) || hasB R (Bk.getD j 0))) := by rw [int_take hjB, ahead_snoc]
              obtain ⟨y, hy⟩ : ∃ y, y = Bk.getD j 0 := ⟨_, rfl⟩
              rw [← hy] at hct hsn
              have hjr : (j : Int) < (nb : Int) := by omega
              obtain ⟨mt, hmt⟩ : ∃ b, aheadB R (Bk.take j) = b := ⟨_, rfl⟩
              rw [hmt] at hsn ⊢
              clear hy hjB hmt
              cases mt
              · by_cases hy1 : y = -1
                · have hd1 : (y == -1) = true := by simp [hy1]
                  have hs2 : aheadB R (Bk.take (j + 1)) = true := by rw [hsn, hy1]; simp
                  have HS := Lib.hid hs2
                  clear hy1 hsn hs2
                  go_wp2_with fail
                  go_quiet (fail)
                  go_wp2
                  go_roundw
                  case rel => exact ⟨j + 1, q + nq, by omega, by go_num, by rw [HS.out], by rw [← HWQ.out, World.drewN_drewN]⟩
                  case measure => simp [numR]; omega
                · have hd1 : (y == -1) = false := by simp [hy1]
                  have kh := fun V w h => refhasz_any V R y w h
                  obtain ⟨o, ho⟩ : ∃ o, hasB R y = o := ⟨_, rfl⟩
                  rw [ho] at kh hsn
                  have hs2 : aheadB R (Bk.take (j + 1)) = o := by rw [hsn]; simp [hy1]
                  have HS := Lib.hid hs2
                  have SLq := Lib.hid (gra_snd GXq.out)
                  clear hy1 hsn hs2 ho
                  go_wp2_with fail
                  go_quiet ((go_at_call 27; refine Calls.quiet_of_same (kh _ _ (SLq.out.belowB (below_q ⟨_, rfl⟩)))))
                  go_wp2
                  go_roundw
                  case rel => exact ⟨j + 1, q + nq, by omega, by go_num, by rw [HS.out], by rw [← HWQ.out, World.drewN_drewN]⟩
                  case measure => simp [numR]; omega
              · have hs2 : aheadB R (Bk.take (j + 1)) = true := by rw [hsn]; rfl
                have HS := Lib.hid hs2
                clear hsn hs2
                go_wp2_with fail
                go_quiet (fail)
                go_wp2
                go_roundw
                case rel => exact ⟨j + 1, q + nq, by omega, by go_num, by rw [HS.out], by rw [← HWQ.out, World.drewN_drewN]⟩
                case measure => simp [numR]; omega
            · have hall : aheadB R (Bk.take j) = true := by rw [List.take_of_length_le (by rw [HNB.out]; omega)]; exact HAZ.out
              rw [hall]
              clear hall
              go_wp2
              go_roundw
              case rel => exact ⟨k + 1, by omega, by go_num, BBq⟩
              case measure => simp [numR]; omega
      · replace BB := BBk
        go_wp2_with (go_at_call 18; refine (gawake_any _).mono ?_; rintro e w9 ⟨rfl, hb1⟩; replace BB := Lib.hid (below_step BB.out hb1); clear hb1)
        go_ret
        exact ⟨rfl, BB.out⟩
  · obtain ⟨hgg, hdd⟩ := link_no (g := (E, Lv)) (f := f) (t := t) (by rw [hK]; exact hk)
    rw [hK, hgg, hdd] at kx
    have hkb : (K != 0) = true := by simp [hk]
    have KX := Lib.hid kx
    clear kx hK hgg hdd hff hft hk
    go_enter Try.func7, Try.ntmps7
    go_upto_region 1 with fail
    rw [HW.out, HP.out]
    go_upto_region 2 with (go_at_call 11; refine (KF.out _ _ GP.out).mono ?_; rintro e w1 ⟨v1, rfl, hg1, hb1⟩; obtain ⟨aF, cF, bF, dF, rfl, hG1⟩ := hg1.lens HN.out HM.out; replace RP := Lib.hid (row_keepB RP.out hb1); clear p0 p1; replace BB := Lib.hid (below_step BB.out hb1); have GF := Lib.hid hG1; obtain ⟨p0, p1, ff0, ff1⟩ := row2 RP.out; clear hg1 hG1 hb1 KF GP)
    obtain ⟨WY, hWY⟩ : ∃ r, (w1.setCell ⟨pP, 0, none⟩ (.slice aF n cF)).setCell ⟨pP, 1, none⟩ (.slice bF m dF) = r := ⟨_, rfl⟩
    have hRI := RP.out
    have hRN := row2_set hRI (.slice aF n cF) (.slice bF m dF)
    have hGF := Gra.set (a' := aF) (n' := n) (c' := cF) (b' := bF) (m' := m) (d' := dF) GF.out hRI
    have hBN := (BB.out.setCell (p := ⟨pP, 0, none⟩) LP.out (.slice aF n cF)).setCell (p := ⟨pP, 1, none⟩) LP.out (.slice bF m dF)
    rw [hWY] at hRN hBN hGF ⊢
    clear hWY hRI ff0 ff1 p0 p1
    replace GF := Lib.hid hGF
    replace RP := Lib.hid hRN
    replace BB := Lib.hid hBN
    clear hRN hBN hGF
    obtain ⟨p0, p1, -, -⟩ := row2 RP.out
    go_upto_region 3 with (go_at_call 20; refine (KX.out _ _ GF.out).mono ?_; rintro e w1 ⟨v1, u1, rfl, hg1, hu1, hb1⟩; obtain ⟨aX, cX, bX, dX, rfl, hG1⟩ := hg1.lens (n := n) (m := m) HN.out HM.out; obtain ⟨aU, cU, rfl, hU1⟩ := intsR hu1 (n := 0) rfl; replace p0 := cell_keep p0 hb1; replace p1 := cell_keep p1 hb1; replace RP := Lib.hid (row_keepB RP.out hb1); replace GF := Lib.hid (GF.out.below hb1); replace BB := Lib.hid (below_step BB.out hb1); have GX := Lib.hid hG1; have SU := Lib.hid hU1; clear hg1 hu1 hG1 hU1 hb1 KX)
    obtain ⟨WX, pX, hW2, hp2, hr2, hb1⟩ := boxR1 w1 (.slice aX n cX) (.slice bX m dX) 25
    rw [hW2, hp2]
    have LX := Lib.hid (show w.heap.size ≤ pX from by rw [← hp2]; exact BB.out.size)
    replace p0 := cell_keep p0 hb1
    replace p1 := cell_keep p1 hb1
    replace RP := Lib.hid (row_keepB RP.out hb1)
    replace GF := Lib.hid (GF.out.below hb1)
    replace GX := Lib.hid (GX.out.below hb1)
    replace SU := Lib.hid (SU.out.belowB hb1)
    replace BB := Lib.hid (below_step BB.out hb1)
    obtain ⟨x0, x1, -, -⟩ := row2 hr2
    have RX := Lib.hid hr2
    clear hW2 hp2 hr2 hb1
    go_wp2_with (first
        | (go_at_call 16; refine (KSM.out _ _ _ GX.out GF.out).mono ?_; rintro e w9 ⟨rfl, hb1⟩; replace p0 := cell_keep p0 hb1; replace p1 := cell_keep p1 hb1; replace x0 := cell_keep x0 hb1; replace x1 := cell_keep x1 hb1; replace RP := Lib.hid (row_keepB RP.out hb1); replace RX := Lib.hid (row_keepB RX.out hb1); replace GF := Lib.hid (GF.out.below hb1); replace GX := Lib.hid (GX.out.below hb1); replace SU := Lib.hid (SU.out.belowB hb1); replace BB := Lib.hid (below_step BB.out hb1); clear hb1)
        | (go_at_call 18; refine (gawake_any _).mono ?_; rintro e w9 ⟨rfl, hb1⟩; replace p0 := cell_keep p0 hb1; replace p1 := cell_keep p1 hb1; replace x0 := cell_keep x0 hb1; replace x1 := cell_keep x1 hb1; replace RP := Lib.hid (row_keepB RP.out hb1); replace RX := Lib.hid (row_keepB RX.out hb1); replace GF := Lib.hid (GF.out.below hb1); replace GX := Lib.hid (GX.out.below hb1); replace SU := Lib.hid (SU.out.belowB hb1); replace BB := Lib.hid (below_step BB.out hb1); clear hb1))
    go_ret
    exact ⟨rfl, BB.out⟩

theorem own : ownKnob Try.prog.godebug = none := by kernel_rfl
theorem laidOut : laidOutB Try.prog = true := by kernel_rfl

set_option maxRecDepth 100000 in
theorem lifted (os : Os) (started : os.Started) (H : Type) (enc : TypeId × Value → H) :
    ReturnsInHanded {} Try.checked os 7 .any (Rows.reachMoreSpec.pre6 enc Try.prog Try.f7 Rows.reachMoreRow.domain false) (Rows.reachMoreSpec.post enc Try.prog Try.f7 false true false false) := by
  refine returnsInHanded_of_change (C := Try.checked) own started (by kernel_rfl) Try.func7
    (ChangeSpec.witness6 (enc := enc) (C := Try.checked) false ⟨#[], #[.agg #[.slice none 0 0, .slice none 0 0], .int .i64 0, .int .i64 0], []⟩ 8 (by kernel_rfl) (by kernel_rfl) (by kernel_rfl) (by kernel_rfl)) ?_
  intro W base args ds gs before hval0 hW hcnd _
  have hval : ∀ (j : Nat) t v, Try.f7.params[j]? = some t → args[j]? = some v → Value.okWide Try.prog W .any base t v := hval0
  have hW' := hW
  obtain ⟨p, q, hA0, hV, rfl, hfz, hnd⟩ := hW
  have hA : DataW.TrodAll enc Try.prog W 0 (fun _ => true) true Try.f7.params.toList args.toList ds p := hA0
  rw [Try.params7] at hA hval
  obtain ⟨v0, vs0, d0, ds0, p0, q0, hargs, rfl, rfl, h0, r0⟩ := trodAll_cons hA
  obtain ⟨v1, vs1, d1, ds1, p1, q1, rfl, rfl, rfl, h1, r1⟩ := trodAll_cons r0
  obtain ⟨v2, vs2, d2, ds2, p2, q2, rfl, rfl, rfl, h2, r2⟩ := trodAll_cons r1
  obtain ⟨rfl, rfl, rfl⟩ := trodAll_nil r2
  obtain rfl : args = #[v0, v1, v2] := by cases args; simp_all
  obtain ⟨rfl, rfl⟩ := trodVars_none hV
  have k0 := h0
  have lt0 : ∀ x ∈ p0, x.block < W.heap.size := by obtain ⟨m, hm⟩ := k0; exact DataW.trod_lt m _ _ _ hm
  obtain ⟨z0, w0⟩ := gra_open (hval 0 25 v0 rfl rfl) h0
  obtain ⟨a1, rfl, rfl, rfl, w1⟩ := open_int Try.underlying3 (hval 1 3 v1 rfl rfl) h1
  obtain ⟨a2, rfl, rfl, rfl, w2⟩ := open_int Try.underlying3 (hval 2 3 v2 rfl rfl) h2
  clear hA0 hval0
  refine (walk _ z0 a1 a2 W w0 w1 w2).mono fun e W' ⟨he, bel⟩ => ?_
  subst he
  exact ⟨_, rfl, _, _, _, [], _, [], hW', trodAll_mk1 (shut_bool Try.underlying4 _), (trodAll_cons_mk (Below.trod laidOut (by kernel_rfl) (of_decide_eq_true (by kernel_rfl)) k0 bel lt0) (trodAll_cons_mk (shut_int Try.underlying3 w1) (trodAll_cons_mk (shut_int Try.underlying3 w2) trodAll_mk0))), rfl, bel.frame _, fun h => by cases h⟩

-- the given statement
theorem proved : Rows.ReachMoreSaid :=
  OpenClaim.holds_of_wide 7 Try.f7 rfl rfl rfl rfl rfl rfl rfl ⟨rfl, rfl, rfl, rfl, rfl⟩ rfl rfl rfl rfl rfl (by kernel_rfl) Try.func7 (by kernel_rfl)
    (of_decide_eq_true (by kernel_rfl)) (by unfold Func.isWrapper; first | (rw [if_pos (by decide +kernel)]; kernel_rfl) | (rw [if_neg (by decide +kernel)]; exact ⟨rfl, rfl⟩))
    (fun os started H enc _ => lifted os started H enc)
end Go.Proofs.Ytfkbpkjejnpaiaa.reachMore
