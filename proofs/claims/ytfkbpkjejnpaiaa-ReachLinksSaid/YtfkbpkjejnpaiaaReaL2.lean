/- Of every graph (no more of it than is looked at) and every pair: Link answers as the document says, what is reached from the beginning, and what came, errors too; no condition. -/
import Derived.Test.YtfkbpkjejnpaiaaRows
import Derived.Test.YtfkbpkjejnpaiaaReaV
import Derived.ProofKit
import Derived.OpenShut
import Derived.ShutString
import Derived.ChangeOld
namespace Go.Proofs.Ytfkbpkjejnpaiaa.reachLinks
open Go.ChangeShapes Go.WideShapes Go.ChangeAt Go.RowKit
open Go.ChangeMaps (open_string shut_string)
set_option maxRecDepth 100000
set_option linter.unusedVariables false

theorem link_bad {g : Gr} {f t : Int} (h : okG g = false ∨ f < -1 ∨ t < 0) : linkK g f t = 1 := by
  unfold linkK
  by_cases ho : okG g = true
  · rw [if_pos ho]
    have hm : mayE g.1 f t = false := by
      unfold mayE ableE
      rcases h with h | h | h
      · rw [h] at ho; cases ho
      · rw [decide_eq_false (show ¬ -1 ≤ f by omega)]; rfl
      · rw [decide_eq_false (show ¬ 0 ≤ t by omega), Bool.and_false]; rfl
    unfold addK
    rw [hm]; rfl
  · rw [if_neg ho]
theorem may_yes {g : Gr} {f t : Int} (h : okG g = true) (h1 : -1 ≤ f) (h2 : 0 ≤ t) : mayE g.1 f t = true := by
  unfold mayE ableE; rw [(okG_iff.1 h).1, decide_eq_true h1, decide_eq_true h2]; rfl
theorem link_far {g : Gr} {f t : Int} (h : okG g = true) (h1 : -1 ≤ f) (h2 : 0 ≤ t) (h3 : manyE g.1 f t = topE) : linkK g f t = 4 := by
  unfold linkK addK
  rw [if_pos h, if_pos (may_yes h h1 h2), if_pos h3]
theorem link_ok2 {g : Gr} {f t : Int} (h : okG g = true) (h1 : -1 ≤ f) (h2 : 0 ≤ t) (h3 : manyE g.1 f t ≠ topE) : linkK g f t = 0 ∧ linkL g f t = withE g.1 (f, t, manyE g.1 f t + 1) := by
  have hk : addK g.1 f t = 0 := by unfold addK; rw [if_pos (may_yes h h1 h2), if_neg h3]
  unfold linkK linkL addL
  rw [if_pos h, if_pos h, if_pos hk]
  exact ⟨hk, rfl⟩
theorem link_no {g : Gr} {f t : Int} (h : linkK g f t ≠ 0) : linkG g f t = g ∧ linkD g f t = [] := by
  unfold linkG linkD; rw [if_neg h, if_neg h]; exact ⟨rfl, rfl⟩
set_option maxRecDepth 100000 in
set_option maxHeartbeats 6400000 in
theorem walk (V : Value) (g0 : Gr) (f t : Int) (w : World) (hV : GraIn w V g0) (hf : (Lit.int .i64 f).wf = true) (ht : (Lit.int .i64 t).wf = true) :
    Calls Try.prog 4 #[V, .int .i64 f, .int .i64 t] w fun e w' => e = .returned (.bool true) ∧ Below w.heap.size w w' := by
  obtain ⟨hV, fV⟩ := hV
  obtain ⟨a0, c0, b0, d0, rfl, -⟩ := hV.ex
  obtain ⟨g, hg⟩ : ∃ g, fewG g0 = g := ⟨_, rfl⟩
  have kf := fun V w h => gfew_any V g0 w h
  have hfg : ∀ e ∈ g.1, fitE e := by rw [← hg]; exact fun e he => fV e (List.mem_of_mem_take he)
  have hl := fewG_len g0
  rw [hg] at kf hl
  obtain ⟨E, Lv⟩ := g
  simp only at hfg hl
  obtain ⟨n, hn⟩ : ∃ n, E.length = n := ⟨_, rfl⟩
  obtain ⟨m, hm⟩ : ∃ m, Lv.length = m := ⟨_, rfl⟩
  have hl1 := hl.1
  have hl2 := hl.2
  have hff := fit_wf hf
  have hft := fit_wf ht
  have kx := fun V w h => link_any V (E, Lv) f t w h (by show E.length ≤ _; omega) (by show Lv.length ≤ _; omega) hfg hff hft
  have km := fun V w h => refgmay_any V (E, Lv) w h (show E.length ≤ 1000000 by omega)
  have ks := fun U V w h h' => refgsame_any U V (E, Lv) (E, Lv) w h h'
  simp only [decide_true] at ks
  clear hf ht
  obtain ⟨n0, hn0⟩ : ∃ n, g0.1.length = n := ⟨_, rfl⟩
  obtain ⟨m0, hm0⟩ : ∃ m, g0.2.length = m := ⟨_, rfl⟩
  rw [hn0, hm0] at hV ⊢
  obtain ⟨W, pP, hW, hp, r0, hb⟩ := boxR1 w (.slice a0 n0 c0) (.slice b0 m0 d0) 25
  have GP := Lib.hid (hV.below hb); have HW := Lib.hid hW; have HP := Lib.hid hp; have BB := Lib.hid hb; have RP := Lib.hid r0; have LP := Lib.hid (show w.heap.size ≤ pP by omega); have HN := Lib.hid hn; have HM := Lib.hid hm; have KF := Lib.hid kf; have HFG := Lib.hid hfg
  obtain ⟨p0, p1, -, -⟩ := row2 r0
  rw [hn] at hl1
  rw [hm] at hl2
  clear hV fV hW hp r0 hb hg hn hm hn0 hm0 kf hfg hl
  have KSM := Lib.hid ks
  clear ks
  obtain ⟨o, ho⟩ : ∃ o, okG (E, Lv) = o := ⟨_, rfl⟩
  rw [ho] at km
  have KM := Lib.hid km
  clear km
  cases o
  · have hK : linkK (E, Lv) f t = 1 := link_bad (.inl ho)
    obtain ⟨hgg, hdd⟩ := link_no (g := (E, Lv)) (f := f) (t := t) (by rw [hK]; decide)
    rw [hK, hgg, hdd] at kx
    have KX := Lib.hid kx
    clear kx hK hgg hdd hff hft ho
    go_enter Try.func4, Try.ntmps4
    go_upto_region 1 with fail
    rw [HW.out, HP.out]
    go_upto_region 2 with (go_at_call 11; refine (KF.out _ _ GP.out).mono ?_; rintro e w1 ⟨v1, rfl, hg1, hb1⟩; obtain ⟨aF, cF, bF, dF, rfl, hG1⟩ := hg1.lens HN.out HM.out; replace RP := Lib.hid (row_keepB RP.out hb1); clear p0 p1; replace BB := Lib.hid (below_step BB.out hb1); have GF := Lib.hid hG1; obtain ⟨p0, p1, ff0, ff1⟩ := row2 RP.out; clear hg1 hG1 hb1 KF GP)
    obtain ⟨WY, hWY⟩ : ∃ r, (w1.setCell ⟨pP, 0, none⟩ (.slice aF n cF)).setCell ⟨pP, 1, none⟩ (.slice bF m dF) = r := ⟨_, rfl⟩
    have hRI := RP.out
    have hRN := row2_set hRI (.slice aF n cF) (.slice bF m dF)
    have hGF := Gra.set (a' := aF) (n' := n) (c' := cF) (b' := bF) (m' := m) (d' := dF) GF.out hRI
    have hBN := (BB.out.setCell (p := ⟨pP, 0, none⟩) LP.out (.slice aF n cF)).setCell (p := ⟨pP, 1, none⟩) LP.out (.slice bF m dF)
    rw [hWY] at hRN hBN hGF ⊢
    clear hWY hRI ff0 ff1 p0 p1
    replace GF := Lib.hid hGF
    replace RP := Lib.hid hRN
    replace BB := Lib.hid hBN
    clear hRN hBN hGF
    obtain ⟨p0, p1, -, -⟩ := row2 RP.out
    go_upto_region 3 with (go_at_call 20; refine (KX.out _ _ GF.out).mono ?_; rintro e w1 ⟨v1, u1, rfl, hg1, hu1, hb1⟩; obtain ⟨aX, cX, bX, dX, rfl, hG1⟩ := hg1.lens (n := n) (m := m) HN.out HM.out; obtain ⟨aU, cU, rfl, hU1⟩ := intsR hu1 (n := 0) rfl; replace p0 := cell_keep p0 hb1; replace p1 := cell_keep p1 hb1; replace RP := Lib.hid (row_keepB RP.out hb1); replace GF := Lib.hid (GF.out.below hb1); replace BB := Lib.hid (below_step BB.out hb1); have GX := Lib.hid hG1; have SU := Lib.hid hU1; clear hg1 hu1 hG1 hU1 hb1 KX)
    obtain ⟨WX, pX, hW2, hp2, hr2, hb1⟩ := boxR1 w1 (.slice aX n cX) (.slice bX m dX) 25
    rw [hW2, hp2]
    have LX := Lib.hid (show w.heap.size ≤ pX from by rw [← hp2]; exact BB.out.size)
    replace p0 := cell_keep p0 hb1
    replace p1 := cell_keep p1 hb1
    replace RP := Lib.hid (row_keepB RP.out hb1)
    replace GF := Lib.hid (GF.out.below hb1)
    replace GX := Lib.hid (GX.out.below hb1)
    replace SU := Lib.hid (SU.out.belowB hb1)
    replace BB := Lib.hid (below_step BB.out hb1)
    obtain ⟨x0, x1, -, -⟩ := row2 hr2
    have RX := Lib.hid hr2
    clear hW2 hp2 hr2 hb1
    go_upto_region 4 with (go_at_call 14; refine (KM.out _ _ GF.out).mono ?_; rintro e w9 ⟨rfl, hb1⟩; replace p0 := cell_keep p0 hb1; replace p1 := cell_keep p1 hb1; replace x0 := cell_keep x0 hb1; replace x1 := cell_keep x1 hb1; replace RP := Lib.hid (row_keepB RP.out hb1); replace RX := Lib.hid (row_keepB RX.out hb1); replace GF := Lib.hid (GF.out.below hb1); replace GX := Lib.hid (GX.out.below hb1); replace SU := Lib.hid (SU.out.belowB hb1); replace BB := Lib.hid (below_step BB.out hb1); clear hb1 )
    go_wp2_with (first
        | (go_at_call 16; refine (KSM.out _ _ _ GX.out GF.out).mono ?_; rintro e w9 ⟨rfl, hb1⟩; replace p0 := cell_keep p0 hb1; replace p1 := cell_keep p1 hb1; replace x0 := cell_keep x0 hb1; replace x1 := cell_keep x1 hb1; replace RP := Lib.hid (row_keepB RP.out hb1); replace RX := Lib.hid (row_keepB RX.out hb1); replace GF := Lib.hid (GF.out.below hb1); replace GX := Lib.hid (GX.out.below hb1); replace SU := Lib.hid (SU.out.belowB hb1); replace BB := Lib.hid (below_step BB.out hb1); clear hb1)
        | (go_at_call 18; refine (gawake_any _).mono ?_; rintro e w9 ⟨rfl, hb1⟩; replace p0 := cell_keep p0 hb1; replace p1 := cell_keep p1 hb1; replace x0 := cell_keep x0 hb1; replace x1 := cell_keep x1 hb1; replace RP := Lib.hid (row_keepB RP.out hb1); replace RX := Lib.hid (row_keepB RX.out hb1); replace GF := Lib.hid (GF.out.below hb1); replace GX := Lib.hid (GX.out.below hb1); replace SU := Lib.hid (SU.out.belowB hb1); replace BB := Lib.hid (below_step BB.out hb1); clear hb1))
    go_ret
    exact ⟨rfl, BB.out⟩
  · by_cases h1 : f < -1
    · have hK : linkK (E, Lv) f t = 1 := link_bad (.inr (.inl h1))
      have hd1 : decide (f < -1) = true := by simp [h1]
      clear h1
      obtain ⟨hgg, hdd⟩ := link_no (g := (E, Lv)) (f := f) (t := t) (by rw [hK]; decide)
      rw [hK, hgg, hdd] at kx
      have KX := Lib.hid kx
      clear kx hK hgg hdd hff hft ho
      go_enter Try.func4, Try.ntmps4
      go_upto_region 1 with fail
      rw [HW.out, HP.out]
      go_upto_region 2 with (go_at_call 11; refine (KF.out _ _ GP.out).mono ?_; rintro e w1 ⟨v1, rfl, hg1, hb1⟩; obtain ⟨aF, cF, bF, dF, rfl, hG1⟩ := hg1.lens HN.out HM.out; replace RP := Lib.hid (row_keepB RP.out hb1); clear p0 p1; replace BB := Lib.hid (below_step BB.out hb1); have GF := Lib.hid hG1; obtain ⟨p0, p1, ff0, ff1⟩ := row2 RP.out; clear hg1 hG1 hb1 KF GP)
      obtain ⟨WY, hWY⟩ : ∃ r, (w1.setCell ⟨pP, 0, none⟩ (.slice aF n cF)).setCell ⟨pP, 1, none⟩ (.slice bF m dF) = r := ⟨_, rfl⟩
      have hRI := RP.out
      have hRN := row2_set hRI (.slice aF n cF) (.slice bF m dF)
      have hGF := Gra.set (a' := aF) (n' := n) (c' := cF) (b' := bF) (m' := m) (d' := dF) GF.out hRI
      have hBN := (BB.out.setCell (p := ⟨pP, 0, none⟩) LP.out (.slice aF n cF)).setCell (p := ⟨pP, 1, none⟩) LP.out (.slice bF m dF)
      rw [hWY] at hRN hBN hGF ⊢
      clear hWY hRI ff0 ff1 p0 p1
      replace GF := Lib.hid hGF
      replace RP := Lib.hid hRN
      replace BB := Lib.hid hBN
      clear hRN hBN hGF
      obtain ⟨p0, p1, -, -⟩ := row2 RP.out
      go_upto_region 3 with (go_at_call 20; refine (KX.out _ _ GF.out).mono ?_; rintro e w1 ⟨v1, u1, rfl, hg1, hu1, hb1⟩; obtain ⟨aX, cX, bX, dX, rfl, hG1⟩ := hg1.lens (n := n) (m := m) HN.out HM.out; obtain ⟨aU, cU, rfl, hU1⟩ := intsR hu1 (n := 0) rfl; replace p0 := cell_keep p0 hb1; replace p1 := cell_keep p1 hb1; replace RP := Lib.hid (row_keepB RP.out hb1); replace GF := Lib.hid (GF.out.below hb1); replace BB := Lib.hid (below_step BB.out hb1); have GX := Lib.hid hG1; have SU := Lib.hid hU1; clear hg1 hu1 hG1 hU1 hb1 KX)
      obtain ⟨WX, pX, hW2, hp2, hr2, hb1⟩ := boxR1 w1 (.slice aX n cX) (.slice bX m dX) 25
      rw [hW2, hp2]
      have LX := Lib.hid (show w.heap.size ≤ pX from by rw [← hp2]; exact BB.out.size)
      replace p0 := cell_keep p0 hb1
      replace p1 := cell_keep p1 hb1
      replace RP := Lib.hid (row_keepB RP.out hb1)
      replace GF := Lib.hid (GF.out.below hb1)
      replace GX := Lib.hid (GX.out.below hb1)
      replace SU := Lib.hid (SU.out.belowB hb1)
      replace BB := Lib.hid (below_step BB.out hb1)
      obtain ⟨x0, x1, -, -⟩ := row2 hr2
      have RX := Lib.hid hr2
      clear hW2 hp2 hr2 hb1
      go_upto_region 4 with (go_at_call 14; refine (KM.out _ _ GF.out).mono ?_; rintro e w9 ⟨rfl, hb1⟩; replace p0 := cell_keep p0 hb1; replace p1 := cell_keep p1 hb1; replace x0 := cell_keep x0 hb1; replace x1 := cell_keep x1 hb1; replace RP := Lib.hid (row_keepB RP.out hb1); replace RX := Lib.hid (row_keepB RX.out hb1); replace GF := Lib.hid (GF.out.below hb1); replace GX := Lib.hid (GX.out.below hb1); replace SU := Lib.hid (SU.out.belowB hb1); replace BB := Lib.hid (below_step BB.out hb1); clear hb1 )
      go_wp2_with (first
          | (go_at_call 16; refine (KSM.out _ _ _ GX.out GF.out).mono ?_; rintro e w9 ⟨rfl, hb1⟩; replace p0 := cell_keep p0 hb1; replace p1 := cell_keep p1 hb1; replace x0 := cell_keep x0 hb1; replace x1 := cell_keep x1 hb1; replace RP := Lib.hid (row_keepB RP.out hb1); replace RX := Lib.hid (row_keepB RX.out hb1); replace GF := Lib.hid (GF.out.below hb1); replace GX := Lib.hid (GX.out.below hb1); replace SU := Lib.hid (SU.out.belowB hb1); replace BB := Lib.hid (below_step BB.out hb1); clear hb1)
          | (go_at_call 18; refine (gawake_any _).mono ?_; rintro e w9 ⟨rfl, hb1⟩; replace p0 := cell_keep p0 hb1; replace p1 := cell_keep p1 hb1; replace x0 := cell_keep x0 hb1; replace x1 := cell_keep x1 hb1; replace RP := Lib.hid (row_keepB RP.out hb1); replace RX := Lib.hid (row_keepB RX.out hb1); replace GF := Lib.hid (GF.out.below hb1); replace GX := Lib.hid (GX.out.below hb1); replace SU := Lib.hid (SU.out.belowB hb1); replace BB := Lib.hid (below_step BB.out hb1); clear hb1))
      go_ret
      exact ⟨rfl, BB.out⟩
    · have hd1 : decide (f < -1) = false := by simp [h1]
      by_cases h2 : t < 0
      · have hK : linkK (E, Lv) f t = 1 := link_bad (.inr (.inr h2))
        have hd2 : decide (t < 0) = true := by simp [h2]
        clear h1 h2
        obtain ⟨hgg, hdd⟩ := link_no (g := (E, Lv)) (f := f) (t := t) (by rw [hK]; decide)
        rw [hK, hgg, hdd] at kx
        have KX := Lib.hid kx
        clear kx hK hgg hdd hff hft ho
        go_enter Try.func4, Try.ntmps4
        go_upto_region 1 with fail
        rw [HW.out, HP.out]
        go_upto_region 2 with (go_at_call 11; refine (KF.out _ _ GP.out).mono ?_; rintro e w1 ⟨v1, rfl, hg1, hb1⟩; obtain ⟨aF, cF, bF, dF, rfl, hG1⟩ := hg1.lens HN.out HM.out; replace RP := Lib.hid (row_keepB RP.out hb1); clear p0 p1; replace BB := Lib.hid (below_step BB.out hb1); have GF := Lib.hid hG1; obtain ⟨p0, p1, ff0, ff1⟩ := row2 RP.out; clear hg1 hG1 hb1 KF GP)
        obtain ⟨WY, hWY⟩ : ∃ r, (w1.setCell ⟨pP, 0, none⟩ (.slice aF n cF)).setCell ⟨pP, 1, none⟩ (.slice bF m dF) = r := ⟨_, rfl⟩
        have hRI := RP.out
        have hRN := row2_set hRI (.slice aF n cF) (.slice bF m dF)
        have hGF := Gra.set (a' := aF) (n' := n) (c' := cF) (b' := bF) (m' := m) (d' := dF) GF.out hRI
        have hBN := (BB.out.setCell (p := ⟨pP, 0, none⟩) LP.out (.slice aF n cF)).setCell (p := ⟨pP, 1, none⟩) LP.out (.slice bF m dF)
        rw [hWY] at hRN hBN hGF ⊢
        clear hWY hRI ff0 ff1 p0 p1
        replace GF := Lib.hid hGF
        replace RP := Lib.hid hRN
        replace BB := Lib.hid hBN
        clear hRN hBN hGF
        obtain ⟨p0, p1, -, -⟩ := row2 RP.out
        go_upto_region 3 with (go_at_call 20; refine (KX.out _ _ GF.out).mono ?_; rintro e w1 ⟨v1, u1, rfl, hg1, hu1, hb1⟩; obtain ⟨aX, cX, bX, dX, rfl, hG1⟩ := hg1.lens (n := n) (m := m) HN.out HM.out; obtain ⟨aU, cU, rfl, hU1⟩ := intsR hu1 (n := 0) rfl; replace p0 := cell_keep p0 hb1; replace p1 := cell_keep p1 hb1; replace RP := Lib.hid (row_keepB RP.out hb1); replace GF := Lib.hid (GF.out.below hb1); replace BB := Lib.hid (below_step BB.out hb1); have GX := Lib.hid hG1; have SU := Lib.hid hU1; clear hg1 hu1 hG1 hU1 hb1 KX)
        obtain ⟨WX, pX, hW2, hp2, hr2, hb1⟩ := boxR1 w1 (.slice aX n cX) (.slice bX m dX) 25
        rw [hW2, hp2]
        have LX := Lib.hid (show w.heap.size ≤ pX from by rw [← hp2]; exact BB.out.size)
        replace p0 := cell_keep p0 hb1
        replace p1 := cell_keep p1 hb1
        replace RP := Lib.hid (row_keepB RP.out hb1)
        replace GF := Lib.hid (GF.out.below hb1)
        replace GX := Lib.hid (GX.out.below hb1)
        replace SU := Lib.hid (SU.out.belowB hb1)
        replace BB := Lib.hid (below_step BB.out hb1)
        obtain ⟨x0, x1, -, -⟩ := row2 hr2
        have RX := Lib.hid hr2
        clear hW2 hp2 hr2 hb1
        go_upto_region 4 with (go_at_call 14; refine (KM.out _ _ GF.out).mono ?_; rintro e w9 ⟨rfl, hb1⟩; replace p0 := cell_keep p0 hb1; replace p1 := cell_keep p1 hb1; replace x0 := cell_keep x0 hb1; replace x1 := cell_keep x1 hb1; replace RP := Lib.hid (row_keepB RP.out hb1); replace RX := Lib.hid (row_keepB RX.out hb1); replace GF := Lib.hid (GF.out.below hb1); replace GX := Lib.hid (GX.out.below hb1); replace SU := Lib.hid (SU.out.belowB hb1); replace BB := Lib.hid (below_step BB.out hb1); clear hb1 )
        go_wp2_with (first
            | (go_at_call 16; refine (KSM.out _ _ _ GX.out GF.out).mono ?_; rintro e w9 ⟨rfl, hb1⟩; replace p0 := cell_keep p0 hb1; replace p1 := cell_keep p1 hb1; replace x0 := cell_keep x0 hb1; replace x1 := cell_keep x1 hb1; replace RP := Lib.hid (row_keepB RP.out hb1); replace RX := Lib.hid (row_keepB RX.out hb1); replace GF := Lib.hid (GF.out.below hb1); replace GX := Lib.hid (GX.out.below hb1); replace SU := Lib.hid (SU.out.belowB hb1); replace BB := Lib.hid (below_step BB.out hb1); clear hb1)
            | (go_at_call 18; refine (gawake_any _).mono ?_; rintro e w9 ⟨rfl, hb1⟩; replace p0 := cell_keep p0 hb1; replace p1 := cell_keep p1 hb1; replace x0 := cell_keep x0 hb1; replace x1 := cell_keep x1 hb1; replace RP := Lib.hid (row_keepB RP.out hb1); replace RX := Lib.hid (row_keepB RX.out hb1); replace GF := Lib.hid (GF.out.below hb1); replace GX := Lib.hid (GX.out.below hb1); replace SU := Lib.hid (SU.out.belowB hb1); replace BB := Lib.hid (below_step BB.out hb1); clear hb1))
        go_ret
        exact ⟨rfl, BB.out⟩
      · have hd2 : decide (t < 0) = false := by simp [h2]
        have hok := (okG_iff.1 ho).1
        simp only at hok
        have kn := fun V w h => refmany_any V E f t w h hok
        have hbd := many_bd hok f t
        obtain ⟨c1, hc1⟩ : ∃ c, manyE E f t = c := ⟨_, rfl⟩
        rw [hc1] at kn hbd
        have KN := Lib.hid kn
        clear kn
        by_cases h3 : c1 = topE
        · have hK : linkK (E, Lv) f t = 4 := link_far ho (by omega) (by omega) (by show manyE E f t = _; rw [hc1]; exact h3)
          have hd3 : (c1 == 1099511627776) = true := by simp [h3, topE]
          obtain ⟨hgg, hdd⟩ := link_no (g := (E, Lv)) (f := f) (t := t) (by rw [hK]; decide)
          rw [hK, hgg, hdd] at kx
          have KX := Lib.hid kx
          clear kx hK hgg hdd hff hft ho h1 h2 h3 hbd hc1 hok
          go_enter Try.func4, Try.ntmps4
          go_upto_region 1 with fail
          rw [HW.out, HP.out]
          go_upto_region 2 with (go_at_call 11; refine (KF.out _ _ GP.out).mono ?_; rintro e w1 ⟨v1, rfl, hg1, hb1⟩; obtain ⟨aF, cF, bF, dF, rfl, hG1⟩ := hg1.lens HN.out HM.out; replace RP := Lib.hid (row_keepB RP.out hb1); clear p0 p1; replace BB := Lib.hid (below_step BB.out hb1); have GF := Lib.hid hG1; obtain ⟨p0, p1, ff0, ff1⟩ := row2 RP.out; clear hg1 hG1 hb1 KF GP)
          obtain ⟨WY, hWY⟩ : ∃ r, (w1.setCell ⟨pP, 0, none⟩ (.slice aF n cF)).setCell ⟨pP, 1, none⟩ (.slice bF m dF) = r := ⟨_, rfl⟩
          have hRI := RP.out
          have hRN := row2_set hRI (.slice aF n cF) (.slice bF m dF)
          have hGF := Gra.set (a' := aF) (n' := n) (c' := cF) (b' := bF) (m' := m) (d' := dF) GF.out hRI
          have hBN := (BB.out.setCell (p := ⟨pP, 0, none⟩) LP.out (.slice aF n cF)).setCell (p := ⟨pP, 1, none⟩) LP.out (.slice bF m dF)
          rw [hWY] at hRN hBN hGF ⊢
          clear hWY hRI ff0 ff1 p0 p1
          replace GF := Lib.hid hGF
          replace RP := Lib.hid hRN
          replace BB := Lib.hid hBN
          clear hRN hBN hGF
          obtain ⟨p0, p1, -, -⟩ := row2 RP.out
          go_upto_region 3 with (go_at_call 20; refine (KX.out _ _ GF.out).mono ?_; rintro e w1 ⟨v1, u1, rfl, hg1, hu1, hb1⟩; obtain ⟨aX, cX, bX, dX, rfl, hG1⟩ := hg1.lens (n := n) (m := m) HN.out HM.out; obtain ⟨aU, cU, rfl, hU1⟩ := intsR hu1 (n := 0) rfl; replace p0 := cell_keep p0 hb1; replace p1 := cell_keep p1 hb1; replace RP := Lib.hid (row_keepB RP.out hb1); replace GF := Lib.hid (GF.out.below hb1); replace BB := Lib.hid (below_step BB.out hb1); have GX := Lib.hid hG1; have SU := Lib.hid hU1; clear hg1 hu1 hG1 hU1 hb1 KX)
          obtain ⟨WX, pX, hW2, hp2, hr2, hb1⟩ := boxR1 w1 (.slice aX n cX) (.slice bX m dX) 25
          rw [hW2, hp2]
          have LX := Lib.hid (show w.heap.size ≤ pX from by rw [← hp2]; exact BB.out.size)
          replace p0 := cell_keep p0 hb1
          replace p1 := cell_keep p1 hb1
          replace RP := Lib.hid (row_keepB RP.out hb1)
          replace GF := Lib.hid (GF.out.below hb1)
          replace GX := Lib.hid (GX.out.below hb1)
          replace SU := Lib.hid (SU.out.belowB hb1)
          replace BB := Lib.hid (below_step BB.out hb1)
          obtain ⟨x0, x1, -, -⟩ := row2 hr2
          have RX := Lib.hid hr2
          clear hW2 hp2 hr2 hb1
          go_upto_region 5 with (go_at_call 14; refine (KM.out _ _ GF.out).mono ?_; rintro e w9 ⟨rfl, hb1⟩; replace p0 := cell_keep p0 hb1; replace p1 := cell_keep p1 hb1; replace x0 := cell_keep x0 hb1; replace x1 := cell_keep x1 hb1; replace RP := Lib.hid (row_keepB RP.out hb1); replace RX := Lib.hid (row_keepB RX.out hb1); replace GF := Lib.hid (GF.out.below hb1); replace GX := Lib.hid (GX.out.below hb1); replace SU := Lib.hid (SU.out.belowB hb1); replace BB := Lib.hid (below_step BB.out hb1); clear hb1 )
          obtain ⟨_, _, _, _, hgv, SG1, SG2⟩ := GF.out.ex
          simp only [HN.out, HM.out] at hgv SG1 SG2
          have SE := Lib.hid (gra_fst GF.out)
          clear hgv SG1 SG2
          go_upto_region 6 with (go_at_call 21; refine (KN.out _ _ SE.out).mono ?_; rintro e w9 ⟨rfl, rfl⟩)
          go_wp2_with (first
              | (go_at_call 16; refine (KSM.out _ _ _ GX.out GF.out).mono ?_; rintro e w9 ⟨rfl, hb1⟩; replace p0 := cell_keep p0 hb1; replace p1 := cell_keep p1 hb1; replace x0 := cell_keep x0 hb1; replace x1 := cell_keep x1 hb1; replace RP := Lib.hid (row_keepB RP.out hb1); replace RX := Lib.hid (row_keepB RX.out hb1); replace GF := Lib.hid (GF.out.below hb1); replace GX := Lib.hid (GX.out.below hb1); replace SE := Lib.hid (SE.out.below hb1); replace SU := Lib.hid (SU.out.belowB hb1); replace BB := Lib.hid (below_step BB.out hb1); clear hb1)
              | (go_at_call 18; refine (gawake_any _).mono ?_; rintro e w9 ⟨rfl, hb1⟩; replace p0 := cell_keep p0 hb1; replace p1 := cell_keep p1 hb1; replace x0 := cell_keep x0 hb1; replace x1 := cell_keep x1 hb1; replace RP := Lib.hid (row_keepB RP.out hb1); replace RX := Lib.hid (row_keepB RX.out hb1); replace GF := Lib.hid (GF.out.below hb1); replace GX := Lib.hid (GX.out.below hb1); replace SE := Lib.hid (SE.out.below hb1); replace SU := Lib.hid (SU.out.belowB hb1); replace BB := Lib.hid (below_step BB.out hb1); clear hb1))
          go_ret
          exact ⟨rfl, BB.out⟩
        · have hd3 : (c1 == 1099511627776) = false := by simp [h3]
          obtain ⟨hK, hL⟩ := link_ok2 (g := (E, Lv)) ho (show -1 ≤ f by omega) (show 0 ≤ t by omega) (by show manyE E f t ≠ _; rw [hc1]; exact h3)
          simp only [hc1] at hL
          obtain ⟨M, hM⟩ : ∃ M, withE E (f, t, c1 + 1) = M := ⟨_, rfl⟩
          rw [hM] at hL
          have hMok : okE M = true := by rw [← hL]; exact (link_ok hK).1.ok
          have hMl : M.length ≤ 81 := by rw [← hM]; have := withE_len E (f, t, c1 + 1); rw [HN.out] at this; omega
          obtain ⟨hgg, hdd⟩ := link_vals hK hL (L := liveE M) rfl
          rw [hK, hgg, hdd] at kx
          have kw := fun V w h => refwith_any V E f t (c1 + 1) w h (by rw [HN.out]; omega)
          rw [hM] at kw
          have kl := fun V w h => reflive_any V M w h hMok (by omega)
          have hll := live_len M
          have ks2 := fun U V w h h' => refgsame_any U V (M, liveE M) (M, liveE M) w h h'
          simp only [decide_true] at ks2
          obtain ⟨R, hR⟩ : ∃ R, liveE M = R := ⟨_, rfl⟩
          simp only [hR] at kx kl hll ks2
          obtain ⟨D, hD⟩ : ∃ D, minusI R Lv = D := ⟨_, rfl⟩
          rw [hD] at kx
          have kmi := fun U V w h h' => refminus_any U V R Lv w h h' (by first | (rw [HM.out]; omega) | omega)
          rw [hD] at kmi
          have ki := fun U V w h h' => refints_any U V D D w h h'
          simp only [decide_true] at ki
          obtain ⟨nM, hnM⟩ : ∃ x, M.length = x := ⟨_, rfl⟩
          obtain ⟨nR, hnR⟩ : ∃ x, R.length = x := ⟨_, rfl⟩
          obtain ⟨nD, hnD⟩ : ∃ x, D.length = x := ⟨_, rfl⟩
          rw [hnM] at hMl hll
          rw [hnR] at hll
          have KX := Lib.hid kx; have KW := Lib.hid kw; have KL := Lib.hid kl; have KS2 := Lib.hid ks2; have KMI := Lib.hid kmi; have KI := Lib.hid ki; have HNM := Lib.hid hnM; have HNR := Lib.hid hnR; have HND := Lib.hid hnD
          clear kx kw kl ks2 kmi ki hK hL hM hMok hgg hdd hR hD hnM hnR hnD hff hft ho h1 h2 h3 hc1 hok
          go_enter Try.func4, Try.ntmps4
          go_upto_region 1 with fail
          rw [HW.out, HP.out]
          go_upto_region 2 with (go_at_call 11; refine (KF.out _ _ GP.out).mono ?_; rintro e w1 ⟨v1, rfl, hg1, hb1⟩; obtain ⟨aF, cF, bF, dF, rfl, hG1⟩ := hg1.lens HN.out HM.out; replace RP := Lib.hid (row_keepB RP.out hb1); clear p0 p1; replace BB := Lib.hid (below_step BB.out hb1); have GF := Lib.hid hG1; obtain ⟨p0, p1, ff0, ff1⟩ := row2 RP.out; clear hg1 hG1 hb1 KF GP)
          obtain ⟨WY, hWY⟩ : ∃ r, (w1.setCell ⟨pP, 0, none⟩ (.slice aF n cF)).setCell ⟨pP, 1, none⟩ (.slice bF m dF) = r := ⟨_, rfl⟩
          have hRI := RP.out
          have hRN := row2_set hRI (.slice aF n cF) (.slice bF m dF)
          have hGF := Gra.set (a' := aF) (n' := n) (c' := cF) (b' := bF) (m' := m) (d' := dF) GF.out hRI
          have hBN := (BB.out.setCell (p := ⟨pP, 0, none⟩) LP.out (.slice aF n cF)).setCell (p := ⟨pP, 1, none⟩) LP.out (.slice bF m dF)
          rw [hWY] at hRN hBN hGF ⊢
          clear hWY hRI ff0 ff1 p0 p1
          replace GF := Lib.hid hGF
          replace RP := Lib.hid hRN
          replace BB := Lib.hid hBN
          clear hRN hBN hGF
          obtain ⟨p0, p1, -, -⟩ := row2 RP.out
          go_upto_region 3 with (go_at_call 20; refine (KX.out _ _ GF.out).mono ?_; rintro e w1 ⟨v1, u1, rfl, hg1, hu1, hb1⟩; obtain ⟨aX, cX, bX, dX, rfl, hG1⟩ := hg1.lens (n := nM) (m := nR) HNM.out HNR.out; obtain ⟨aU, cU, rfl, hU1⟩ := intsR hu1 (n := nD) HND.out; replace p0 := cell_keep p0 hb1; replace p1 := cell_keep p1 hb1; replace RP := Lib.hid (row_keepB RP.out hb1); replace GF := Lib.hid (GF.out.below hb1); replace BB := Lib.hid (below_step BB.out hb1); have GX := Lib.hid hG1; have SU := Lib.hid hU1; clear hg1 hu1 hG1 hU1 hb1 KX)
          obtain ⟨WX, pX, hW2, hp2, hr2, hb1⟩ := boxR1 w1 (.slice aX nM cX) (.slice bX nR dX) 25
          rw [hW2, hp2]
          have LX := Lib.hid (show w.heap.size ≤ pX from by rw [← hp2]; exact BB.out.size)
          replace p0 := cell_keep p0 hb1
          replace p1 := cell_keep p1 hb1
          replace RP := Lib.hid (row_keepB RP.out hb1)
          replace GF := Lib.hid (GF.out.below hb1)
          replace GX := Lib.hid (GX.out.below hb1)
          replace SU := Lib.hid (SU.out.belowB hb1)
          replace BB := Lib.hid (below_step BB.out hb1)
          obtain ⟨x0, x1, -, -⟩ := row2 hr2
          have RX := Lib.hid hr2
          clear hW2 hp2 hr2 hb1
          go_upto_region 5 with (go_at_call 14; refine (KM.out _ _ GF.out).mono ?_; rintro e w9 ⟨rfl, hb1⟩; replace p0 := cell_keep p0 hb1; replace p1 := cell_keep p1 hb1; replace x0 := cell_keep x0 hb1; replace x1 := cell_keep x1 hb1; replace RP := Lib.hid (row_keepB RP.out hb1); replace RX := Lib.hid (row_keepB RX.out hb1); replace GF := Lib.hid (GF.out.below hb1); replace GX := Lib.hid (GX.out.below hb1); replace SU := Lib.hid (SU.out.belowB hb1); replace BB := Lib.hid (below_step BB.out hb1); clear hb1 )
          have SE := Lib.hid (gra_fst GF.out); have SL := Lib.hid (gra_snd GF.out)
          go_upto_region 8 with (go_at_call 21; refine (KN.out _ _ SE.out).mono ?_; rintro e w9 ⟨rfl, rfl⟩)
          have hcw : IntKind.i64.wrap (c1 + 1) = c1 + 1 := by rw [IntKind.wrap_i64]; have e : topE = 1099511627776 := rfl; rw [e] at hbd; omega
          clear hbd
          go_upto_region 9 with (go_at_call 22; refine (KW.out _ _ SE.out).mono ?_; rintro e w1 ⟨v1, rfl, hrow, hb1⟩; replace p0 := cell_keep p0 hb1; replace p1 := cell_keep p1 hb1; replace x0 := cell_keep x0 hb1; replace x1 := cell_keep x1 hb1; replace RP := Lib.hid (row_keepB RP.out hb1); replace RX := Lib.hid (row_keepB RX.out hb1); replace GF := Lib.hid (GF.out.below hb1); replace GX := Lib.hid (GX.out.below hb1); replace SE := Lib.hid (SE.out.below hb1); replace SU := Lib.hid (SU.out.belowB hb1); replace SL := Lib.hid (SL.out.belowB hb1); replace BB := Lib.hid (below_step BB.out hb1); obtain ⟨aM, cM, rfl, hd⟩ := edsR hrow HNM.out; have SM := Lib.hid hd; clear hrow hd hb1 )
          go_upto_region 10 with (go_at_call 19; refine (KL.out _ _ SM.out).mono ?_; rintro e w1 ⟨v1, rfl, hrow, hb1⟩; replace p0 := cell_keep p0 hb1; replace p1 := cell_keep p1 hb1; replace x0 := cell_keep x0 hb1; replace x1 := cell_keep x1 hb1; replace RP := Lib.hid (row_keepB RP.out hb1); replace RX := Lib.hid (row_keepB RX.out hb1); replace GF := Lib.hid (GF.out.below hb1); replace GX := Lib.hid (GX.out.below hb1); replace SE := Lib.hid (SE.out.below hb1); replace SM := Lib.hid (SM.out.below hb1); replace SU := Lib.hid (SU.out.belowB hb1); replace SL := Lib.hid (SL.out.belowB hb1); replace BB := Lib.hid (below_step BB.out hb1); obtain ⟨aR, cR, rfl, hd⟩ := intsR hrow HNR.out; have SR := Lib.hid hd; clear hrow hd hb1 )
          have GZ := Lib.hid (Gra.mk' SM.out SR.out)
          go_wp2_with (first
              | (go_at_call 16; refine (KS2.out _ _ _ GX.out GZ.out).mono ?_; rintro e w9 ⟨rfl, hb1⟩; replace p0 := cell_keep p0 hb1; replace p1 := cell_keep p1 hb1; replace x0 := cell_keep x0 hb1; replace x1 := cell_keep x1 hb1; replace RP := Lib.hid (row_keepB RP.out hb1); replace RX := Lib.hid (row_keepB RX.out hb1); replace GF := Lib.hid (GF.out.below hb1); replace GX := Lib.hid (GX.out.below hb1); replace GZ := Lib.hid (GZ.out.below hb1); replace SE := Lib.hid (SE.out.below hb1); replace SM := Lib.hid (SM.out.below hb1); replace SU := Lib.hid (SU.out.belowB hb1); replace SL := Lib.hid (SL.out.belowB hb1); replace SR := Lib.hid (SR.out.belowB hb1); replace BB := Lib.hid (below_step BB.out hb1); clear hb1)
              | (go_at_call 24; refine (KMI.out _ _ _ SR.out SL.out).mono ?_; rintro e w1 ⟨v1, rfl, hrow, hb1⟩; replace p0 := cell_keep p0 hb1; replace p1 := cell_keep p1 hb1; replace x0 := cell_keep x0 hb1; replace x1 := cell_keep x1 hb1; replace RP := Lib.hid (row_keepB RP.out hb1); replace RX := Lib.hid (row_keepB RX.out hb1); replace GF := Lib.hid (GF.out.below hb1); replace GX := Lib.hid (GX.out.below hb1); replace GZ := Lib.hid (GZ.out.below hb1); replace SE := Lib.hid (SE.out.below hb1); replace SM := Lib.hid (SM.out.below hb1); replace SU := Lib.hid (SU.out.belowB hb1); replace SL := Lib.hid (SL.out.belowB hb1); replace SR := Lib.hid (SR.out.belowB hb1); replace BB := Lib.hid (below_step BB.out hb1); obtain ⟨aQ, cQ, rfl, hd⟩ := intsR hrow HND.out; have SQ := Lib.hid hd; clear hrow hd hb1)
              | (go_at_call 23; refine (KI.out _ _ _ SU.out SQ.out).mono ?_; rintro e w9 ⟨rfl, hb1⟩; replace p0 := cell_keep p0 hb1; replace p1 := cell_keep p1 hb1; replace x0 := cell_keep x0 hb1; replace x1 := cell_keep x1 hb1; replace RP := Lib.hid (row_keepB RP.out hb1); replace RX := Lib.hid (row_keepB RX.out hb1); replace GF := Lib.hid (GF.out.below hb1); replace GX := Lib.hid (GX.out.below hb1); replace GZ := Lib.hid (GZ.out.below hb1); replace SE := Lib.hid (SE.out.below hb1); replace SM := Lib.hid (SM.out.below hb1); replace SU := Lib.hid (SU.out.belowB hb1); replace SL := Lib.hid (SL.out.belowB hb1); replace SR := Lib.hid (SR.out.belowB hb1); replace SQ := Lib.hid (SQ.out.belowB hb1); replace BB := Lib.hid (below_step BB.out hb1); clear hb1)
              | (go_at_call 18; refine (gawake_any _).mono ?_; rintro e w9 ⟨rfl, hb1⟩; replace p0 := cell_keep p0 hb1; replace p1 := cell_keep p1 hb1; replace x0 := cell_keep x0 hb1; replace x1 := cell_keep x1 hb1; replace RP := Lib.hid (row_keepB RP.out hb1); replace RX := Lib.hid (row_keepB RX.out hb1); replace GF := Lib.hid (GF.out.below hb1); replace GX := Lib.hid (GX.out.below hb1); replace GZ := Lib.hid (GZ.out.below hb1); replace SE := Lib.hid (SE.out.below hb1); replace SM := Lib.hid (SM.out.below hb1); replace SU := Lib.hid (SU.out.belowB hb1); replace SL := Lib.hid (SL.out.belowB hb1); replace SR := Lib.hid (SR.out.belowB hb1); replace SQ := Lib.hid (SQ.out.belowB hb1); replace BB := Lib.hid (below_step BB.out hb1); clear hb1))
          go_ret
          exact ⟨rfl, BB.out⟩

theorem own : ownKnob Try.prog.godebug = none := by kernel_rfl
theorem laidOut : laidOutB Try.prog = true := by kernel_rfl

set_option maxRecDepth 100000 in
theorem lifted (os : Os) (started : os.Started) (H : Type) (enc : TypeId × Value → H) :
    ReturnsInHanded {} Try.checked os 4 .any (Rows.reachLinksSpec.pre6 enc Try.prog Try.f4 Rows.reachLinksRow.domain false) (Rows.reachLinksSpec.post enc Try.prog Try.f4 false true false false) := by
  refine returnsInHanded_of_change (C := Try.checked) own started (by kernel_rfl) Try.func4
    (ChangeSpec.witness6 (enc := enc) (C := Try.checked) false ⟨#[], #[.agg #[.slice none 0 0, .slice none 0 0], .int .i64 0, .int .i64 0], []⟩ 8 (by kernel_rfl) (by kernel_rfl) (by kernel_rfl) (by kernel_rfl)) ?_
  intro W base args ds gs before hval0 hW hcnd _
  have hval : ∀ (j : Nat) t v, Try.f4.params[j]? = some t → args[j]? = some v → Value.okWide Try.prog W .any base t v := hval0
  have hW' := hW
  obtain ⟨p, q, hA0, hV, rfl, hfz, hnd⟩ := hW
  have hA : DataW.TrodAll enc Try.prog W 0 (fun _ => true) true Try.f4.params.toList args.toList ds p := hA0
  rw [Try.params4] at hA hval
  obtain ⟨v0, vs0, d0, ds0, p0, q0, hargs, rfl, rfl, h0, r0⟩ := trodAll_cons hA
  obtain ⟨v1, vs1, d1, ds1, p1, q1, rfl, rfl, rfl, h1, r1⟩ := trodAll_cons r0
  obtain ⟨v2, vs2, d2, ds2, p2, q2, rfl, rfl, rfl, h2, r2⟩ := trodAll_cons r1
  obtain ⟨rfl, rfl, rfl⟩ := trodAll_nil r2
  obtain rfl : args = #[v0, v1, v2] := by cases args; simp_all
  obtain ⟨rfl, rfl⟩ := trodVars_none hV
  have k0 := h0
  have lt0 : ∀ x ∈ p0, x.block < W.heap.size := by obtain ⟨m, hm⟩ := k0; exact DataW.trod_lt m _ _ _ hm
  obtain ⟨z0, w0⟩ := gra_open (hval 0 25 v0 rfl rfl) h0
  obtain ⟨a1, rfl, rfl, rfl, w1⟩ := open_int Try.underlying3 (hval 1 3 v1 rfl rfl) h1
  obtain ⟨a2, rfl, rfl, rfl, w2⟩ := open_int Try.underlying3 (hval 2 3 v2 rfl rfl) h2
  clear hA0 hval0
  refine (walk _ z0 a1 a2 W w0 w1 w2).mono fun e W' ⟨he, bel⟩ => ?_
  subst he
  exact ⟨_, rfl, _, _, _, [], _, [], hW', trodAll_mk1 (shut_bool Try.underlying4 _), (trodAll_cons_mk (Below.trod laidOut (by kernel_rfl) (of_decide_eq_true (by kernel_rfl)) k0 bel lt0) (trodAll_cons_mk (shut_int Try.underlying3 w1) (trodAll_cons_mk (shut_int Try.underlying3 w2) trodAll_mk0))), rfl, bel.frame _, fun h => by cases h⟩

-- the given statement
theorem proved : Rows.ReachLinksSaid :=
  OpenClaim.holds_of_wide 4 Try.f4 rfl rfl rfl rfl rfl rfl rfl ⟨rfl, rfl, rfl, rfl, rfl⟩ rfl rfl rfl rfl rfl (by kernel_rfl) Try.func4 (by kernel_rfl)
    (of_decide_eq_true (by kernel_rfl)) (by unfold Func.isWrapper; first | (rw [if_pos (by decide +kernel)]; kernel_rfl) | (rw [if_neg (by decide +kernel)]; exact ⟨rfl, rfl⟩))
    (fun os started H enc _ => lifted os started H enc)
end Go.Proofs.Ytfkbpkjejnpaiaa.reachLinks
