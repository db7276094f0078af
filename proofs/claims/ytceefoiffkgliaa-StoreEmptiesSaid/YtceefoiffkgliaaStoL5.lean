/- Of every store (no more, and no longer, than is looked at) and every turn: all of its keys dropped, in whatever order, nothing is left; put again it is the same store; no condition. -/
import Derived.Test.YtceefoiffkgliaaRows
import Derived.Test.YtceefoiffkgliaaStoT
import Derived.ProofKit
import Derived.OpenShut
import Derived.ShutString
import Derived.ChangeOld
namespace Go.Proofs.Ytceefoiffkgliaa.storeEmpties
open Go.ChangeShapes Go.WideShapes Go.ChangeAt Go.RowKit
open Go.ChangeMaps (open_string shut_string)
set_option maxRecDepth 100000
set_option linter.unusedVariables false

set_option maxRecDepth 100000 in
set_option maxHeartbeats 6400000 in
theorem walk (M : Value) (x : List Nd × List (List UInt8)) (tz : Int) (w : World) (hM : StoIn w M x.1 x.2) (wt : (Lit.int .u8 tz).wf = true) :
    Calls Try.prog 7 #[M, .int .u8 tz] w fun e w' => e = .returned (.bool true) ∧ Below w.heap.size w w' := by
  obtain ⟨⟨A, n, c, B, m, d, rfl, hk, ht⟩, fK, fT⟩ := hM
  obtain ⟨K0, T0⟩ := x
  simp only at hk ht fK fT
  obtain ⟨f0, f1⟩ := bounds_u8 wt
  obtain ⟨tn, rfl⟩ := Int.eq_ofNat_of_zero_le f0
  have hkl := fewNs_len K0; have htl := fewTs_len T0; have hks := fewNs_small K0
  have hfw := fun w h h' => sfew_any A B n c m d K0 T0 w h h' fK fT
  obtain ⟨K, hK⟩ : ∃ r, fewNs K0 = r := ⟨_, rfl⟩
  obtain ⟨T, hT⟩ : ∃ r, fewTs T0 = r := ⟨_, rfl⟩
  rw [hK] at hkl hks hfw
  rw [hT] at htl hfw
  obtain ⟨nK, hnK⟩ : ∃ r, K.length = r := ⟨_, rfl⟩
  obtain ⟨nT, hnT⟩ : ∃ r, T.length = r := ⟨_, rfl⟩
  rw [hnK] at hkl
  rw [hnT] at htl
  obtain ⟨W, gs, hW, hg, r0, s0, s1, hb⟩ := boxS w (.slice A n c) (.slice B m d) 25
  have SK0 := Lib.hid (hk.below hb); have ST0 := Lib.hid (ht.belowB hb); have RS := Lib.hid r0; have HFW := Lib.hid hfw; have HNK := Lib.hid hnK; have HNT := Lib.hid hnT; have HSK := Lib.hid hks
  have HLgs := Lib.hid (show w.heap.size ≤ gs by omega); have HGW := Lib.hid (show gs < W.heap.size from (Array.getElem?_eq_some_iff.1 r0).1)
  have BB := Lib.hid hb; have HW := Lib.hid hW; have HG := Lib.hid hg
  clear hk ht r0 hfw hnK hnT hks hb hW hg hK hT fK fT wt f0
  go_enter Try.func7, Try.ntmps7
  go_upto_region 1 with fail
  rw [HW.out, HG.out]
  go_upto_region 2 with (go_at_call 8; refine (HFW.out _ SK0.out ST0.out).mono ?_; rintro e w1 ⟨u, rfl, hso, hb1⟩; obtain ⟨aK, cK, aT, cT, rfl, -, -⟩ := hso.forms; rw [HNK.out, HNT.out] at hso ⊢; have HSO := Lib.hid hso; have HR1 := Lib.hid (row_keepB RS.out hb1); obtain ⟨q0, q1, qf0, qf1⟩ := row2 HR1.out; replace BB := Lib.hid (below_step BB.out hb1); clear hb1 hso s0 s1)
  obtain ⟨w2, hw2⟩ : ∃ r, (w1.setCell ⟨gs, 0, none⟩ (.slice aK nK cK)).setCell ⟨gs, 1, none⟩ (.slice aT nT cT) = r := ⟨_, rfl⟩
  have hr2 := row2_set HR1.out (.slice aK nK cK) (.slice aT nT cT)
  have hs2 := ((HSO.out.far (g := gs) (i := 0) HGW.out (.slice aK nK cK)).far (g := gs) (i := 1) HGW.out (.slice aT nT cT)).parts
  have hb2 : Below w.heap.size w ((w1.setCell ⟨gs, 0, none⟩ (.slice aK nK cK)).setCell ⟨gs, 1, none⟩ (.slice aT nT cT)) := (BB.out.setCell HLgs.out _).setCell HLgs.out _
  rw [hw2] at hr2 hs2 hb2 ⊢
  obtain ⟨s0, s1, -, -⟩ := row2 hr2
  have SK := Lib.hid hs2.1; have ST := Lib.hid hs2.2
  replace BB := Lib.hid hb2
  clear hw2 hr2 hs2 hb2 q0 q1 qf0 qf1 HSO HR1 HFW SK0 ST0 RS HW HG
  have kc := fun w h h' => schk_any aK aT nK cK nT cT K T w h h' HSK.out
  cases hx : okS K T
  · have hc : chkS K T = 1 := by unfold chkS; rw [hx]; rfl
    rw [hc] at kc
    have KC := Lib.hid kc; clear kc hc hx
    go_wp2_with (first
      | (go_at_call 13; refine (KC.out _ SK.out ST.out).mono ?_; rintro e w9 ⟨rfl, hb9⟩; replace BB := Lib.hid (below_step BB.out hb9); clear hb9)
      | (go_at_call 18; refine (sawake_any _).mono ?_; rintro e w9 ⟨rfl, hb9⟩; replace BB := Lib.hid (below_step BB.out hb9); clear hb9))
    go_ret
    exact ⟨rfl, BB.out⟩
  · have hc : chkS K T = 0 := by unfold chkS; rw [hx]; rfl
    rw [hc] at kc
    have hnn : nK = nT := by
      have := hx
      unfold okS at this
      rw [Bool.and_eq_true, decide_eq_true_iff] at this
      rw [← HNK.out, ← HNT.out]; exact this.2
    subst hnn
    have KC := Lib.hid kc; have HX := Lib.hid hx; clear kc hc hx
    go_upto_region 4 with (go_at_call 13; refine (KC.out _ SK.out ST.out).mono ?_; rintro e w3 ⟨rfl, hb9⟩; replace s0 := cell_keep s0 hb9; replace s1 := cell_keep s1 hb9; replace SK := Lib.hid (SK.out.below hb9); replace ST := Lib.hid (ST.out.belowB hb9); replace BB := Lib.hid (below_step BB.out hb9); clear hb9 KC)
    go_upto_region 5 with fail
    go_upto_region 6 with fail
    obtain ⟨W5, gx, gy, hW5, hgx, hgy, rx, ry, hb5⟩ := boxS2 w3 (.slice aK nK cK) (.slice aT nK cT) (.slice none 0 0) (.slice none 0 0) 25 25
    rw [hW5, hgy, hgx]
    obtain ⟨z1, z2, z3⟩ := okS_zip HX.out
    obtain ⟨S, hS⟩ : ∃ r, K.zip T = r := ⟨_, rfl⟩
    rw [hS] at z1 z2 z3
    have hSl : S.length = nK := by
      have := congrArg List.length z1
      rw [List.length_map, HNK.out] at this; exact this
    have hSs : ∀ x ∈ S, smallN x.1 := fun x hx => HSK.out _ (by rw [← z1]; exact List.mem_map_of_mem hx)
    have S0 := Lib.hid s0; have S1 := Lib.hid s1; have Z1 := Lib.hid z1; have Z2 := Lib.hid z2; have Z3 := Lib.hid z3; have HSL := Lib.hid hSl; have HSS := Lib.hid hSs
    have HGX := Lib.hid hgx; have HXY := Lib.hid (show gx < gy by omega)
    have HX1 := Lib.hid (show Nds W5 (.slice aK nK cK) ((outR S tn 0).map Prod.fst) by show Nds W5 _ (S.map Prod.fst); rw [z1]; exact SK.out.below hb5)
    have HX2 := Lib.hid (show Strs W5 (.slice aT nK cT) ((outR S tn 0).map Prod.snd) by show Strs W5 _ (S.map Prod.snd); rw [z2]; exact ST.out.belowB hb5)
    have HRX5 := Lib.hid rx; have HRY5 := Lib.hid ry; have HB5 := Lib.hid hb5
    have HLX := Lib.hid (show w.heap.size ≤ gx by rw [← hgx]; exact BB.out.size)
    clear hW5 hgx hgy rx ry hb5 z1 z2 z3 hS hSl hSs HX
    go_wp2
    go_loopw [8] (fun i wr => ∃ (k nx ny : Nat) (xa xb ya yb : Option Addr) (xc xd yc yd : Nat), k ≤ nK ∧ i = .int .i64 (k : Int) ∧ Hid ((outR S tn k).length = nx) ∧ Hid ((inR S tn k).length = ny) ∧ Hid (wr.heap[gx]? = some (.cells #[.slice xa nx xc, .slice xb nx xd] 25 (0, 0))) ∧ Hid (wr.heap[gy]? = some (.cells #[.slice ya ny yc, .slice yb ny yd] 25 (0, 0))) ∧ Hid (Nds wr (.slice xa nx xc) ((outR S tn k).map Prod.fst)) ∧ Hid (Strs wr (.slice xb nx xd) ((outR S tn k).map Prod.snd)) ∧ Hid (Nds wr (.slice ya ny yc) ((inR S tn k).map Prod.fst)) ∧ Hid (Strs wr (.slice yb ny yd) ((inR S tn k).map Prod.snd)) ∧ Hid (Below w3.heap.size w3 wr)) (fun i _ => nK - (intOf i).toNat)
    case atStart => exact ⟨0, nK, 0, aK, aT, none, none, cK, cT, 0, 0, Nat.zero_le _, rfl, HSL, Lib.hid rfl, HRX5, HRY5, HX1, HX2, Lib.hid (nds_none _), Lib.hid (strs_none _), HB5⟩
    case round =>
      obtain ⟨k, nx, ny, xa, xb, ya, yb, xc, xd, yc, yd, hk, rfl, HNX, HNY, HRX, HRY, SX, SX2, SY, SY2, HB⟩ := hrel
      have s0 := cell_keep S0.out HB.out
      have s1 := cell_keep S1.out HB.out
      obtain ⟨x0, x1, -, -⟩ := row2 HRX.out
      obtain ⟨y0, y1, -, -⟩ := row2 HRY.out
      have HYW0 := Lib.hid (show gy < wr.heap.size from (Array.getElem?_eq_some_iff.1 HRY.out).1)
      by_cases hlt : k < nK
      · obtain ⟨kk, hkk⟩ : ∃ r, (k + tn) % nK = r := ⟨_, rfl⟩
        have hkn : kk < nK := by rw [← hkk]; exact rot_lt (by omega)
        have hkK : kk < K.length := by rw [HNK.out]; exact hkn
        have hkT : kk < T.length := by rw [HNT.out]; exact hkn
        have hn0 : 0 < S.length := by rw [HSL.out]; omega
        have hks : k < S.length := by rw [HSL.out]; exact hlt
        have hkey : keyR S tn k = (K.getD kk ([], []), T.getD kk []) := by
          obtain ⟨h1, e1⟩ := keyR_at (S := S) (t := tn) (i := k) hn0
          have hkk2 : (k + tn) % S.length = kk := by rw [HSL.out]; exact hkk
          have hks2 : kk < S.length := by rw [HSL.out]; exact hkn
          have e2 : K.getD kk ([], []) = (S[kk]).1 := by rw [← Z1.out]; simp [List.getD_eq_getElem?_getD, hks2]
          have e3 : T.getD kk [] = (S[kk]).2 := by rw [← Z2.out]; simp [List.getD_eq_getElem?_getD, hks2]
          rw [e1, e2, e3]
          simp only [hkk2]
        have hout : outR S tn (k + 1) = dropP (outR S tn k) (keyR S tn k).1 := rfl
        have hin : inR S tn (k + 1) = putP (inR S tn k) (keyR S tn k).1 (keyR S tn k).2 := rfl
        have hok := okP_ok Z3.out _ (keyR_mem (t := tn) (i := k) hn0)
        have hhas := outR_has Z3.out (t := tn) hks
        have hsq := HSS.out _ (keyR_mem (t := tn) (i := k) hn0)
        rw [hkey] at hout hin hok hhas hsq
        obtain ⟨bK, qK, hbK, -, hy0, hy1⟩ := SK.out.at kk hkK
        obtain ⟨bT, qT, hbT, -, hyt⟩ := strs_at ST.out kk hkT
        obtain ⟨yn, hyn⟩ : ∃ r, K.getD kk ([], []) = r := ⟨_, rfl⟩
        obtain ⟨yt, hytn⟩ : ∃ r, T.getD kk [] = r := ⟨_, rfl⟩
        rw [hyn] at hy0 hy1 hout hin hok hhas hsq
        rw [hytn] at hyt hin
        obtain ⟨y1', y2'⟩ := yn
        simp only at hy0 hy1 hout hin hok hhas hsq
        subst hbK hbT
        have exd := dropE_yes (outR_ok Z3.out tn k) hok
        have exp := putE_yes (S := inR S tn k) (t := yt) (inR_ok Z3.out hn0 k) hok
        rw [hhas, if_pos rfl, ← hout] at exd
        rw [← hin] at exp
        have hlx := outR_len (S := S) (t := tn) k
        have hly := inR_len Z3.out (t := tn) hn0 k
        rw [HNX.out, HSL.out] at hlx
        rw [HNY.out] at hly
        have kd := fun w h h' => sdrop_any xa xb nx xc nx xd ((outR S tn k).map Prod.fst) ((outR S tn k).map Prod.snd) y1' y2' w h h' (outR_small (t := tn) HSS.out k) hsq (by omega) (by omega)
        have kp := fun w h h' => sput_any ya yb ny yc ny yd ((inR S tn k).map Prod.fst) ((inR S tn k).map Prod.snd) y1' y2' yt w h h' (inR_small Z3.out (t := tn) hn0 HSS.out k) hsq (by omega) (by omega)
        rw [exd] at kd
        rw [exp] at kp
        simp only at kd kp
        obtain ⟨A1, hA1⟩ : ∃ r, (outR S tn (k + 1)).map Prod.fst = r := ⟨_, rfl⟩
        obtain ⟨A2, hA2⟩ : ∃ r, (outR S tn (k + 1)).map Prod.snd = r := ⟨_, rfl⟩
        obtain ⟨B1, hB1⟩ : ∃ r, (inR S tn (k + 1)).map Prod.fst = r := ⟨_, rfl⟩
        obtain ⟨B2, hB2⟩ : ∃ r, (inR S tn (k + 1)).map Prod.snd = r := ⟨_, rfl⟩
        rw [hA1, hA2] at kd
        rw [hB1, hB2] at kp
        obtain ⟨na, hna⟩ : ∃ r, (outR S tn (k + 1)).length = r := ⟨_, rfl⟩
        obtain ⟨nb, hnb⟩ : ∃ r, (inR S tn (k + 1)).length = r := ⟨_, rfl⟩
        have hla1 : A1.length = na := by rw [← hA1, List.length_map]; exact hna
        have hla2 : A2.length = na := by rw [← hA2, List.length_map]; exact hna
        have hlb1 : B1.length = nb := by rw [← hB1, List.length_map]; exact hnb
        have hlb2 : B2.length = nb := by rw [← hB2, List.length_map]; exact hnb
        have htm : Int.tmod ((k : Int) + (tn : Int)) (nK : Int) = (kk : Int) := by
          rw [cast_modS _ _ (by omega), show ((k : Int) + (tn : Int)).toNat = k + tn by omega, hkk]
        have hnz : ¬ nK = 0 := by omega
        have KD := Lib.hid kd; have KP := Lib.hid kp; have HA1 := Lib.hid hA1; have HA2 := Lib.hid hA2; have HB1 := Lib.hid hB1; have HB2 := Lib.hid hB2; have HNA := Lib.hid hna; have HNB := Lib.hid hnb; have LA1 := Lib.hid hla1; have LA2 := Lib.hid hla2; have LB1 := Lib.hid hlb1; have LB2 := Lib.hid hlb2; have HKN := Lib.hid hkn
        have Y0 := Lib.hid (cell_keep hy0 HB.out); have Y1 := Lib.hid (cell_keep hy1 HB.out); have YT := Lib.hid (cell_keep hyt HB.out)
        have e3 : ∀ args w, (callFunc 12 args).run Try.prog w = .ok (.enter 12 args) w := enters_of Try.func12 (by kernel_rfl) rfl
        have e4 : ∀ args w, (callFunc 11 args).run Try.prog w = .ok (.enter 11 args) w := enters_of Try.func11 (by kernel_rfl) rfl
        have hkI : (k : Int) < (nK : Int) := by omega
        clear kd kp exd exp hA1 hA2 hB1 hB2 hna hnb hla1 hla2 hlb1 hlb2 hkn hy0 hy1 hyt hout hin hok hhas hsq hkey hyn hytn hkk hkK hkT hn0 hks hlx hly
        go_upto_region 10 with fail
        refine rol_run (by kernel_rfl) [[], [], [1], [], [1, 2, 3], [1, 2, 3, 4], [0, 1, 2, 3, 4, 5], [0, 1, 2, 3, 4, 5, 6], [0, 1, 2, 3, 4, 5, 6, 7], [0, 1, 2, 3, 4, 5, 6, 7], [], [0, 1, 2, 3, 4, 5, 6, 7, 8, 10], [0, 1, 2, 3, 4, 5, 6, 7, 8, 9, 10, 11]] (by kernel_rfl) [41, 42, 43, 44, 45, 46, 47, 40, 48, 49, 10, 11] [[], [], [1], [], [2, 3], [4], [0, 5], [6], [7], [7], [], [8, 10], [9]] [0, 0, 0, 0, 0, 0, 1, 1, 1, 0, 2, 2, 0] [0, 0, 0, 0, 0, 0, 0, 0, 0, 0, 0, 2, 0] [1000, 1000, 1000, 1000, 1000, 1000, 1000, 1000, 1000, 1000, 11, 1000, 1000] [.val 41 (.agg #[.slice xa nx xc, .slice xb nx xd]), .val 42 (.pointer (some ⟨gs, 0, none⟩)), .val 43 (.slice (some ⟨bK, qK, none⟩) nK cK), .val 44 (.int .i64 (kk : Int)), .val 45 (.pointer (some ⟨bK, qK + kk * 2, none⟩)), .val 46 (.agg #[.string (mkB y1'), .string (mkB y2')]), .mems 47 (tupG wr.heap.size A1 A2 (.int .i64 0)), .mems 40 (tupG wr.heap.size A1 A2 (.int .i64 0)), .mems 48 (stoG wr.heap.size A1 A2), .val 49 (.int .i64 0), .mem 10 (cell2P wr.heap.size 25 (.slice none 0 0) (.slice none 0 0)), .mem2 10 48 (tie2P wr.heap.size 25), .val 11 (.int .i64 0)] (by kernel_rfl) ?_ (wr.heap.size) (wr.heap.size) rfl (Below.refl _ _) rfl (fun _ => 0) ?_ ?_ ?_
        · intro j hj
          have hj3 : j < 13 := hj
          have hj2 : j = 0 ∨ j = 1 ∨ j = 2 ∨ j = 3 ∨ j = 4 ∨ j = 5 ∨ j = 6 ∨ j = 7 ∨ j = 8 ∨ j = 9 ∨ j = 10 ∨ j = 11 ∨ j = 12 := by omega
          clear hj hj3
          rcases hj2 with rfl | rfl | rfl | rfl | rfl | rfl | rfl | rfl | rfl | rfl | rfl | rfl | rfl
          · exact trivial
          · exact trivial
          · exact trivial
          · exact trivial
          · exact trivial
          · exact trivial
          · exact tupG_near
          · exact tupG_near
          · exact stoG_near
          · exact trivial
          · exact cell2P_near
          · exact tie2P_near
          · exact trivial
        · intro j hj0 hj
          exact absurd hj (Nat.not_lt.2 hj0)
        · intro i hi a wx who hG hF
          have hz : a.tmps.size = 91 := hG.size
          have hi3 : i < 13 := hi
          have hi2 : i = 0 ∨ i = 1 ∨ i = 2 ∨ i = 3 ∨ i = 4 ∨ i = 5 ∨ i = 6 ∨ i = 7 ∨ i = 8 ∨ i = 9 ∨ i = 10 ∨ i = 11 ∨ i = 12 := by omega
          clear hi hi3
          rcases hi2 with rfl | rfl | rfl | rfl | rfl | rfl | rfl | rfl | rfl | rfl | rfl | rfl | rfl
          · exact rol_val rfl rfl rfl (by rw [hz]; decide) (ex_load rfl (eval_slot ((hG.slots 6 (by decide)).trans rfl)) (ld_sto (cell_keep x0 hG.below) (cell_keep x1 hG.below))) hG.below
          · exact rol_val rfl rfl rfl (by rw [hz]; decide) (ex_field rfl (eval_slot ((hG.slots 2 (by decide)).trans rfl)) (by go_simp)) hG.below
          · exact rol_val rfl rfl rfl (by rw [hz]; decide) (ex_load rfl (eval_slot (hF 1 (by decide))) (ld_nds (cell_keep s0 hG.below))) hG.below
          · exact rol_val rfl rfl rfl (by rw [hz]; decide) (ex_move (Or.inl rfl) (eval_slot ((hG.slots 9 (by decide)).trans rfl))) hG.below
          · exact rol_val rfl rfl rfl (by rw [hz]; decide) (ex_index rfl (eval_slot (hF 2 (by decide))) (eval_slot (hF 3 (by decide))) (idx_nds HKN.out)) hG.below
          · exact rol_val rfl rfl rfl (by rw [hz]; decide) (ex_load rfl (eval_slot (hF 4 (by decide))) (ld_node (cell_keep Y0.out hG.below) (cell_keep Y1.out hG.below))) hG.below
          · refine rol_calls rfl rfl rfl (by rw [hz]; decide) (ex_call rfl (by simp [eval_slot (hF 0 (by decide)), eval_slot (hF 5 (by decide))]) e3) (KD.out wx (SX.out.below hG.below) (SX2.out.belowB hG.below)) ?_ hG.below hG.new
            rintro e w1 ⟨u, rfl, hso, hb1⟩
            obtain ⟨bs, hbs, hg⟩ := hso.toG hG.new
            exact ⟨_, rfl, hb1, .inr (.inr ⟨_, bs, rfl, hbs, u, rfl, hg⟩)⟩
          · exact rol_moves rfl rfl rfl (by rw [hz]; decide) (Or.inl rfl) (hF 6 (by decide)) hG.below
          · exact rol_ext_sto rfl rfl rfl (by rw [hz]; decide) rfl (hF 7 (by decide)) hG.below
          · exact rol_ext_err rfl rfl rfl (by rw [hz]; decide) rfl (hF 7 (by decide)) hG.below
          · exact rol_alloc_sto rfl rfl rfl (by rw [hz]; decide) rfl hG.below (Nat.le_refl _) hG.new
          · exact rol_fill_sto rfl rfl rfl rfl (hF 10 (by decide)) (hF 8 (by decide)) hG.below (Nat.le_refl _)
          · exact rol_val rfl rfl rfl (by rw [hz]; decide) (ex_move (Or.inr rfl) (eval_slot (hF 9 (by decide)))) hG.below
        · intro a wx who hG hF
          obtain ⟨v48, bs48, fv48, fo48, fp48⟩ := hF 8 (of_decide_eq_true (by kernel_rfl)) (of_decide_eq_true (by kernel_rfl))
          replace fv48 : a.tmps.getD 48 undef = v48 := eval_slot (s := 48) fv48
          have fv11 : a.tmps.getD 11 undef = .int .i64 0 := eval_slot (s := 11) (hF 12 (of_decide_eq_true (by kernel_rfl)) (of_decide_eq_true (by kernel_rfl)))
          have htie := hF 11 (of_decide_eq_true (by kernel_rfl)) (of_decide_eq_true (by kernel_rfl))
          obtain ⟨p10, u10, ob10, hp10, hu10, -, ga, x10, y10, rfl, -, rfl, hN10, hrow10⟩ := htie
          have e9 : v48 = .agg #[x10, y10] := fv48.symm.trans (eval_slot hu10)
          have fv10 : a.tmps.getD 10 undef = .pointer (some ⟨ga, 0, none⟩) := eval_slot (s := 10) hp10
          clear hp10 hu10 ob10
          have hbx := hG.below
          have hnx := hG.new
          rw [hG.frame]
          simp only [List.foldl_cons, List.foldl_nil, List.setIfInBounds_toArray, List.set_cons_zero, List.set_cons_succ]
          generalize a.tmps.getD 41 undef = u41
          generalize a.tmps.getD 42 undef = u42
          generalize a.tmps.getD 43 undef = u43
          generalize a.tmps.getD 44 undef = u44
          generalize a.tmps.getD 45 undef = u45
          generalize a.tmps.getD 46 undef = u46
          generalize a.tmps.getD 47 undef = u47
          generalize a.tmps.getD 40 undef = u40
          rw [fv48]
          generalize a.tmps.getD 49 undef = u49
          rw [fv10]
          rw [fv11]
          clear hF hG fv48 fv11 fv10
          obtain ⟨aa, ac, ab, ad, hv1, -, -⟩ := fp48.own.forms
          rw [e9] at hv1
          injection hv1 with hv1
          injection hv1 with hv1
          injection hv1 with hv1 hv2
          injection hv2 with hv2
          subst hv1 hv2
          subst e9
          have hso := fp48.own
          clear fp48 fo48
          rw [LA1.out, LA2.out] at hso hrow10 ⊢
          obtain ⟨wq, hwq⟩ : ∃ r, r = wx := ⟨_, rfl⟩
          subst hwq
          have HSA := Lib.hid hso; have HRA := Lib.hid hrow10; have HWA := Lib.hid (show wr.heap.size ≤ ga from hN10)
          replace s0 := cell_keep s0 hbx; replace s1 := cell_keep s1 hbx; replace y0 := cell_keep y0 hbx; replace y1 := cell_keep y1 hbx
          replace Y0 := Lib.hid (cell_keep Y0.out hbx); replace Y1 := Lib.hid (cell_keep Y1.out hbx); replace YT := Lib.hid (cell_keep YT.out hbx)
          replace SY := Lib.hid (SY.out.below hbx); replace SY2 := Lib.hid (SY2.out.belowB hbx); replace HRX := Lib.hid (row_keepB HRX.out hbx); replace HRY := Lib.hid (row_keepB HRY.out hbx)
          have HYW := HYW0
          have HWQ := Lib.hid hbx.size
          replace HB := Lib.hid (below_step HB.out hbx)
          have HAQ := Lib.hid (show ga < wq.heap.size from (Array.getElem?_eq_some_iff.1 hrow10).1)
          clear hso hrow10 hbx hnx hN10 x0 x1 SX SX2
          go_upto_region 11 with fail
          refine rol_run (by kernel_rfl) [[], [], [1], [], [1, 2, 3], [1, 2, 3, 4], [], [6], [], [6, 7, 8], [6, 7, 8, 9], [0, 1, 2, 3, 4, 5, 6, 7, 8, 9, 10], [0, 1, 2, 3, 4, 5, 6, 7, 8, 9, 10, 11], [0, 1, 2, 3, 4, 5, 6, 7, 8, 9, 10, 11, 12], [0, 1, 2, 3, 4, 5, 6, 7, 8, 9, 10, 11, 12], [], [0, 1, 2, 3, 4, 5, 6, 7, 8, 9, 10, 11, 12, 13, 15], [0, 1, 2, 3, 4, 5, 6, 7, 8, 9, 10, 11, 12, 13, 14, 15, 16]] (by kernel_rfl) [51, 52, 53, 54, 55, 56, 57, 58, 59, 60, 61, 62, 50, 63, 64, 12, 13] [[], [], [1], [], [2, 3], [4], [], [6], [], [7, 8], [9], [0, 5, 10], [11], [12], [12], [], [13, 15], [14]] [0, 0, 0, 0, 0, 0, 0, 0, 0, 0, 0, 1, 1, 1, 0, 2, 2, 0] [0, 0, 0, 0, 0, 0, 0, 0, 0, 0, 0, 0, 0, 0, 0, 0, 2, 0] [1000, 1000, 1000, 1000, 1000, 1000, 1000, 1000, 1000, 1000, 1000, 1000, 1000, 1000, 1000, 16, 1000, 1000] [.val 51 (.agg #[.slice ya ny yc, .slice yb ny yd]), .val 52 (.pointer (some ⟨gs, 0, none⟩)), .val 53 (.slice (some ⟨bK, qK, none⟩) nK cK), .val 54 (.int .i64 (kk : Int)), .val 55 (.pointer (some ⟨bK, qK + kk * 2, none⟩)), .val 56 (.agg #[.string (mkB y1'), .string (mkB y2')]), .val 57 (.pointer (some ⟨gs, 1, none⟩)), .val 58 (.slice (some ⟨bT, qT, none⟩) nK cT), .val 59 (.int .i64 (kk : Int)), .val 60 (.pointer (some ⟨bT, qT + kk, none⟩)), .val 61 (.string (mkB yt)), .mems 62 (tupG wq.heap.size B1 B2 (.int .i64 0)), .mems 50 (tupG wq.heap.size B1 B2 (.int .i64 0)), .mems 63 (stoG wq.heap.size B1 B2), .val 64 (.int .i64 0), .mem 12 (cell2P wq.heap.size 25 (.slice none 0 0) (.slice none 0 0)), .mem2 12 63 (tie2P wq.heap.size 25), .val 13 (.int .i64 0)] (by kernel_rfl) ?_ (wq.heap.size) (wq.heap.size) rfl (Below.refl _ _) rfl (fun _ => 0) ?_ ?_ ?_
          · intro j hj
            have hj3 : j < 18 := hj
            have hj2 : j = 0 ∨ j = 1 ∨ j = 2 ∨ j = 3 ∨ j = 4 ∨ j = 5 ∨ j = 6 ∨ j = 7 ∨ j = 8 ∨ j = 9 ∨ j = 10 ∨ j = 11 ∨ j = 12 ∨ j = 13 ∨ j = 14 ∨ j = 15 ∨ j = 16 ∨ j = 17 := by omega
            clear hj hj3
            rcases hj2 with rfl | rfl | rfl | rfl | rfl | rfl | rfl | rfl | rfl | rfl | rfl | rfl | rfl | rfl | rfl | rfl | rfl | rfl
            · exact trivial
            · exact trivial
            · exact trivial
            · exact trivial
            · exact trivial
            · exact trivial
            · exact trivial
            · exact trivial
            · exact trivial
            · exact trivial
            · exact trivial
            · exact tupG_near
            · exact tupG_near
            · exact stoG_near
            · exact trivial
            · exact cell2P_near
            · exact tie2P_near
            · exact trivial
          · intro j hj0 hj
            exact absurd hj (Nat.not_lt.2 hj0)
          · intro i hi a wx who hG hF
            have hz : a.tmps.size = 91 := hG.size
            have hi3 : i < 18 := hi
            have hi2 : i = 0 ∨ i = 1 ∨ i = 2 ∨ i = 3 ∨ i = 4 ∨ i = 5 ∨ i = 6 ∨ i = 7 ∨ i = 8 ∨ i = 9 ∨ i = 10 ∨ i = 11 ∨ i = 12 ∨ i = 13 ∨ i = 14 ∨ i = 15 ∨ i = 16 ∨ i = 17 := by omega
            clear hi hi3
            rcases hi2 with rfl | rfl | rfl | rfl | rfl | rfl | rfl | rfl | rfl | rfl | rfl | rfl | rfl | rfl | rfl | rfl | rfl | rfl
            · exact rol_val rfl rfl rfl (by rw [hz]; decide) (ex_load rfl (eval_slot ((hG.slots 7 (by decide)).trans rfl)) (ld_sto (cell_keep y0 hG.below) (cell_keep y1 hG.below))) hG.below
            · exact rol_val rfl rfl rfl (by rw [hz]; decide) (ex_field rfl (eval_slot ((hG.slots 2 (by decide)).trans rfl)) (by go_simp)) hG.below
            · exact rol_val rfl rfl rfl (by rw [hz]; decide) (ex_load rfl (eval_slot (hF 1 (by decide))) (ld_nds (cell_keep s0 hG.below))) hG.below
            · exact rol_val rfl rfl rfl (by rw [hz]; decide) (ex_move (Or.inl rfl) (eval_slot ((hG.slots 9 (by decide)).trans rfl))) hG.below
            · exact rol_val rfl rfl rfl (by rw [hz]; decide) (ex_index rfl (eval_slot (hF 2 (by decide))) (eval_slot (hF 3 (by decide))) (idx_nds HKN.out)) hG.below
            · exact rol_val rfl rfl rfl (by rw [hz]; decide) (ex_load rfl (eval_slot (hF 4 (by decide))) (ld_node (cell_keep Y0.out hG.below) (cell_keep Y1.out hG.below))) hG.below
            · exact rol_val rfl rfl rfl (by rw [hz]; decide) (ex_field rfl (eval_slot ((hG.slots 2 (by decide)).trans rfl)) (by go_simp)) hG.below
            · exact rol_val rfl rfl rfl (by rw [hz]; decide) (ex_load rfl (eval_slot (hF 6 (by decide))) (ld_sts (cell_keep s1 hG.below))) hG.below
            · exact rol_val rfl rfl rfl (by rw [hz]; decide) (ex_move (Or.inl rfl) (eval_slot ((hG.slots 9 (by decide)).trans rfl))) hG.below
            · exact rol_val rfl rfl rfl (by rw [hz]; decide) (ex_index rfl (eval_slot (hF 7 (by decide))) (eval_slot (hF 8 (by decide))) (idx_sts HKN.out)) hG.below
            · exact rol_val rfl rfl rfl (by rw [hz]; decide) (ex_load rfl (eval_slot (hF 9 (by decide))) (ld_str (cell_keep YT.out hG.below))) hG.below
            · refine rol_calls rfl rfl rfl (by rw [hz]; decide) (ex_call rfl (by simp [eval_slot (hF 0 (by decide)), eval_slot (hF 5 (by decide)), eval_slot (hF 10 (by decide))]) e4) (KP.out wx (SY.out.below hG.below) (SY2.out.belowB hG.below)) ?_ hG.below hG.new
              rintro e w1 ⟨u, rfl, hso, hb1⟩
              obtain ⟨bs, hbs, hg⟩ := hso.toG hG.new
              exact ⟨_, rfl, hb1, .inr (.inr ⟨_, bs, rfl, hbs, u, rfl, hg⟩)⟩
            · exact rol_moves rfl rfl rfl (by rw [hz]; decide) (Or.inl rfl) (hF 11 (by decide)) hG.below
            · exact rol_ext_sto rfl rfl rfl (by rw [hz]; decide) rfl (hF 12 (by decide)) hG.below
            · exact rol_ext_err rfl rfl rfl (by rw [hz]; decide) rfl (hF 12 (by decide)) hG.below
            · exact rol_alloc_sto rfl rfl rfl (by rw [hz]; decide) rfl hG.below (Nat.le_refl _) hG.new
            · exact rol_fill_sto rfl rfl rfl rfl (hF 15 (by decide)) (hF 13 (by decide)) hG.below (Nat.le_refl _)
            · exact rol_val rfl rfl rfl (by rw [hz]; decide) (ex_move (Or.inr rfl) (eval_slot (hF 14 (by decide)))) hG.below
          · intro a wx who hG hF
            obtain ⟨v63, bs63, fv63, fo63, fp63⟩ := hF 13 (of_decide_eq_true (by kernel_rfl)) (of_decide_eq_true (by kernel_rfl))
            replace fv63 : a.tmps.getD 63 undef = v63 := eval_slot (s := 63) fv63
            have fv13 : a.tmps.getD 13 undef = .int .i64 0 := eval_slot (s := 13) (hF 17 (of_decide_eq_true (by kernel_rfl)) (of_decide_eq_true (by kernel_rfl)))
            have htie := hF 16 (of_decide_eq_true (by kernel_rfl)) (of_decide_eq_true (by kernel_rfl))
            obtain ⟨p10, u10, ob10, hp10, hu10, -, gb, x10, y10, rfl, -, rfl, hN10, hrow10⟩ := htie
            have e9 : v63 = .agg #[x10, y10] := fv63.symm.trans (eval_slot hu10)
            have fv12 : a.tmps.getD 12 undef = .pointer (some ⟨gb, 0, none⟩) := eval_slot (s := 12) hp10
            clear hp10 hu10 ob10
            have hbx := hG.below
            have hnx := hG.new
            rw [hG.frame]
            simp only [List.foldl_cons, List.foldl_nil, List.setIfInBounds_toArray, List.set_cons_zero, List.set_cons_succ]
            generalize a.tmps.getD 51 undef = u51
            generalize a.tmps.getD 52 undef = u52
            generalize a.tmps.getD 53 undef = u53
            generalize a.tmps.getD 54 undef = u54
            generalize a.tmps.getD 55 undef = u55
            generalize a.tmps.getD 56 undef = u56
            generalize a.tmps.getD 57 undef = u57
            generalize a.tmps.getD 58 undef = u58
            generalize a.tmps.getD 59 undef = u59
            generalize a.tmps.getD 60 undef = u60
            generalize a.tmps.getD 61 undef = u61
            generalize a.tmps.getD 62 undef = u62
            generalize a.tmps.getD 50 undef = u50
            rw [fv63]
            generalize a.tmps.getD 64 undef = u64
            rw [fv12]
            rw [fv13]
            clear hF hG fv63 fv13 fv12
            obtain ⟨ba, bc, bb, bd, hv1, -, -⟩ := fp63.own.forms
            rw [e9] at hv1
            injection hv1 with hv1
            injection hv1 with hv1
            injection hv1 with hv1 hv2
            injection hv2 with hv2
            subst hv1 hv2
            subst e9
            have hso := fp63.own
            clear fp63 fo63
            rw [LB1.out, LB2.out] at hso hrow10 ⊢
            obtain ⟨wv, hwv⟩ : ∃ r, r = wx := ⟨_, rfl⟩
            subst hwv
            have HSB := Lib.hid hso; have HRB := Lib.hid hrow10; have HQB := Lib.hid (show wq.heap.size ≤ gb from hN10)
            replace HSA := Lib.hid (HSA.out.below hbx); replace HRA := Lib.hid (row_keepB HRA.out hbx); replace HRX := Lib.hid (row_keepB HRX.out hbx); replace HRY := Lib.hid (row_keepB HRY.out hbx)
            replace HB := Lib.hid (below_step HB.out hbx)
            obtain ⟨a0, a1, -, -⟩ := row2 HRA.out
            obtain ⟨b0, b1, -, -⟩ := row2 HRB.out
            have NXY := Lib.hid (show ¬ gy = gx by have := HXY.out; omega)
            have NXA := Lib.hid (show ¬ ga = gx by have := HXY.out; have := HYW.out; have := HWA.out; omega)
            have NYA := Lib.hid (show ¬ ga = gy by have := HYW.out; have := HWA.out; omega)
            have NXB := Lib.hid (show ¬ gb = gx by have := HXY.out; have := HYW.out; have := HWQ.out; have := HQB.out; omega)
            have NYB := Lib.hid (show ¬ gb = gy by have := HYW.out; have := HWQ.out; have := HQB.out; omega)
            have NAB := Lib.hid (show ¬ gb = ga by have := HAQ.out; have := HQB.out; omega)
            have HLEX := Lib.hid (Nat.le_of_eq HGX.out); have HLEY := Lib.hid (show w3.heap.size ≤ gy by have := HGX.out; have := HXY.out; omega)
            clear hso hrow10 hbx hnx hN10 s0 s1 y0 y1 Y0 Y1 YT SY SY2
            go_upto_region 14 with fail
            refine rol_run (by kernel_rfl) [[], [], [0], [0, 1, 2]] (by kernel_rfl) [71, 72] [[6], [7], [0, 4], [1, 5]] [0, 0, 3, 4, 3, 4, 5, 6, 7, 7] [0, 0, 3, 4] [1000, 1000, 1000, 1000, 2, 3, 1000, 1000, 1000, 1000] [.val 71 (.agg #[.slice aa na ac, .slice ab na ad]), .val 72 (.agg #[.slice ba nb bc, .slice bb nb bd]), .box (gx) (.cells #[.slice aa na ac, .slice ab na ad] 25), .box (gy) (.cells #[.slice ba nb bc, .slice bb nb bd] 25), .box (gx) (.cells #[.slice xa nx xc, .slice xb nx xd] 25), .box (gy) (.cells #[.slice ya ny yc, .slice yb ny yd] 25), .box (ga) (.cells #[.slice aa na ac, .slice ab na ad] 25), .box (gb) (.cells #[.slice ba nb bc, .slice bb nb bd] 25), .mems 6 (stoX (.agg #[.slice aa na ac, .slice ab na ad]) wr.heap.size A1 A2), .mems 6 (stoX (.agg #[.slice ba nb bc, .slice bb nb bd]) wq.heap.size B1 B2)] (by kernel_rfl) ?_ (w3.heap.size) (wv.heap.size) rfl HB.out rfl (fun k => if k = gx then 3 else if k = gy then 4 else if k = ga then 5 else if k = gb then 6 else 7) ?_ ?_ ?_
            · intro j hj
              have hj3 : j < 10 := hj
              have hj2 : j = 0 ∨ j = 1 ∨ j = 2 ∨ j = 3 ∨ j = 4 ∨ j = 5 ∨ j = 6 ∨ j = 7 ∨ j = 8 ∨ j = 9 := by omega
              clear hj hj3
              rcases hj2 with rfl | rfl | rfl | rfl | rfl | rfl | rfl | rfl | rfl | rfl
              · exact trivial
              · exact trivial
              · exact trivial
              · exact trivial
              · exact trivial
              · exact trivial
              · exact trivial
              · exact trivial
              · exact stoX_near
              · exact stoX_near
            · intro j hj0 hj
              have hj1 : 4 ≤ j := hj0
              have hj3 : j < 10 := hj
              have hj2 : j = 4 ∨ j = 5 ∨ j = 6 ∨ j = 7 ∨ j = 8 ∨ j = 9 := by omega
              clear hj0 hj hj1 hj3
              rcases hj2 with rfl | rfl | rfl | rfl | rfl | rfl
              · exact ⟨HRX.out, if_pos rfl⟩
              · exact ⟨HRY.out, (if_neg NXY.out).trans (if_pos rfl)⟩
              · exact ⟨HRA.out, (if_neg NXA.out).trans ((if_neg NYA.out).trans (if_pos rfl))⟩
              · exact ⟨HRB.out, (if_neg NXB.out).trans ((if_neg NYB.out).trans ((if_neg NAB.out).trans (if_pos rfl)))⟩
              · obtain ⟨bs, h1, h2⟩ := HSA.out.toX; exact ⟨_, bs, rfl, fun b e => ⟨(h1 b e).1, (if_neg (fun h => (h1 b e).2 _ ((congrArg (fun j => wv.heap[j]?) h).trans HRX.out))).trans ((if_neg (fun h => (h1 b e).2 _ ((congrArg (fun j => wv.heap[j]?) h).trans HRY.out))).trans ((if_neg (fun h => (h1 b e).2 _ ((congrArg (fun j => wv.heap[j]?) h).trans HRA.out))).trans (if_neg (fun h => (h1 b e).2 _ ((congrArg (fun j => wv.heap[j]?) h).trans HRB.out)))))⟩, h2⟩
              · obtain ⟨bs, h1, h2⟩ := HSB.out.toX; exact ⟨_, bs, rfl, fun b e => ⟨(h1 b e).1, (if_neg (fun h => (h1 b e).2 _ ((congrArg (fun j => wv.heap[j]?) h).trans HRX.out))).trans ((if_neg (fun h => (h1 b e).2 _ ((congrArg (fun j => wv.heap[j]?) h).trans HRY.out))).trans ((if_neg (fun h => (h1 b e).2 _ ((congrArg (fun j => wv.heap[j]?) h).trans HRA.out))).trans (if_neg (fun h => (h1 b e).2 _ ((congrArg (fun j => wv.heap[j]?) h).trans HRB.out)))))⟩, h2⟩
            · intro i hi a wx who hG hF
              have hz : a.tmps.size = 91 := hG.size
              have hi3 : i < 4 := hi
              have hi2 : i = 0 ∨ i = 1 ∨ i = 2 ∨ i = 3 := by omega
              clear hi hi3
              rcases hi2 with rfl | rfl | rfl | rfl
              · exact rol_val rfl rfl rfl (by rw [hz]; decide) (ex_load rfl (eval_slot ((hG.slots 10 (by decide)).trans rfl)) (ld_sto (row2 (hF 6 (by decide)).1).1 (row2 (hF 6 (by decide)).1).2.1)) hG.below
              · exact rol_val rfl rfl rfl (by rw [hz]; decide) (ex_load rfl (eval_slot ((hG.slots 12 (by decide)).trans rfl)) (ld_sto (row2 (hF 7 (by decide)).1).1 (row2 (hF 7 (by decide)).1).2.1)) hG.below
              · exact rol_box_val rfl rfl rfl rfl (eval_slot ((hG.slots 6 (by decide)).trans rfl)) (eval_slot (hF 0 (by decide))) (hF 4 (by decide)) hG.below HLEX.out
              · exact rol_box_val rfl rfl rfl rfl (eval_slot ((hG.slots 7 (by decide)).trans rfl)) (eval_slot (hF 1 (by decide))) (hF 5 (by decide)) hG.below HLEY.out
            · intro a wx who hG hF
              have hgx := hF 2 (of_decide_eq_true (by kernel_rfl)) (of_decide_eq_true (by kernel_rfl))
              have hgy := hF 3 (of_decide_eq_true (by kernel_rfl)) (of_decide_eq_true (by kernel_rfl))
              have hA := hF 8 (of_decide_eq_true (by kernel_rfl)) (of_decide_eq_true (by kernel_rfl))
              have hB := hF 9 (of_decide_eq_true (by kernel_rfl)) (of_decide_eq_true (by kernel_rfl))
              have hbx := hG.below
              have hnx := hG.new
              rw [hG.frame]
              simp only [List.foldl_cons, List.foldl_nil, List.setIfInBounds_toArray, List.set_cons_zero, List.set_cons_succ]
              generalize a.tmps.getD 71 undef = u71
              generalize a.tmps.getD 72 undef = u72
              clear hF hG
              obtain ⟨_, _, _, _, hA⟩ := hA
              obtain ⟨_, _, _, _, hB⟩ := hB
              have hpA := (show stoG wr.heap.size A1 A2 wx (.agg #[.slice aa na ac, .slice ab na ad]) _ from hA).own.parts
              have hpB := (show stoG wq.heap.size B1 B2 wx (.agg #[.slice ba nb bc, .slice bb nb bd]) _ from hB).own.parts
              have R1 := Lib.hid hgx.1; have R2 := Lib.hid hgy.1; have P1 := Lib.hid hpA.1; have P2 := Lib.hid hpA.2; have P3 := Lib.hid hpB.1; have P4 := Lib.hid hpB.2; have HB9 := Lib.hid hbx
              rw [← HA1.out] at P1
              rw [← HA2.out] at P2
              rw [← HB1.out] at P3
              rw [← HB2.out] at P4
              clear hA hB hpA hpB hgx hgy hbx hnx a0 a1 b0 b1
              go_wp2
              go_roundw
              case rel => exact ⟨k + 1, na, nb, aa, ab, ba, bb, ac, ad, bc, bd, by omega, by go_num, HNA, HNB, R1, R2, P1, P2, P3, P4, HB9⟩
              case measure => simp [intOf]; omega
      · have hkn : k = nK := by omega
        have hx0 : nx = 0 := by rw [← HNX.out, hkn, ← HSL.out, outR_all]; rfl
        subst hx0
        have hinK : inR S tn k = S := by
          by_cases h0 : 0 < S.length
          · rw [hkn, ← HSL.out]; exact inR_all Z3.out tn h0
          · have e0 : S = [] := List.eq_nil_of_length_eq_zero (by omega)
            have : k = 0 := by rw [hkn, ← HSL.out]; omega
            rw [this, e0]; rfl
        rw [hinK] at SY SY2
        rw [Z1.out] at SY
        rw [Z2.out] at SY2
        replace SK := Lib.hid (SK.out.below HB.out); replace ST := Lib.hid (ST.out.belowB HB.out); replace BB := Lib.hid (below_step BB.out HB.out)
        clear hkn hinK
        go_wp2_with (first
          | (go_at_call 15; refine (ssame_any ya yb aK aT ny yc ny yd nK cK nK cT K K T T _ SY.out SY2.out SK.out ST.out).mono ?_; rintro e w9 ⟨rfl, hb9⟩; rw [sameS_self]; replace BB := Lib.hid (below_step BB.out hb9); clear hb9)
          | (go_at_call 18; refine (sawake_any _).mono ?_; rintro e w9 ⟨rfl, hb9⟩; replace BB := Lib.hid (below_step BB.out hb9); clear hb9))
        go_ret
        exact ⟨rfl, BB.out⟩

theorem own : ownKnob Try.prog.godebug = none := by kernel_rfl
theorem laidOut : laidOutB Try.prog = true := by kernel_rfl

set_option maxRecDepth 100000 in
theorem lifted (os : Os) (started : os.Started) (H : Type) (enc : TypeId × Value → H) :
    ReturnsInHanded {} Try.checked os 7 .any (Rows.storeEmptiesSpec.pre6 enc Try.prog Try.f7 Rows.storeEmptiesRow.domain false) (Rows.storeEmptiesSpec.post enc Try.prog Try.f7 false true false false) := by
  refine returnsInHanded_of_change (C := Try.checked) own started (by kernel_rfl) Try.func7
    (ChangeSpec.witness6 (enc := enc) (C := Try.checked) false ⟨#[], #[.agg #[.slice none 0 0, .slice none 0 0], .int .u8 0], []⟩ 8 (by kernel_rfl) (by kernel_rfl) (by kernel_rfl) (by kernel_rfl)) ?_
  intro W base args ds gs before hval0 hW hcnd _
  have hval : ∀ (j : Nat) t v, Try.f7.params[j]? = some t → args[j]? = some v → Value.okWide Try.prog W .any base t v := hval0
  have hW' := hW
  obtain ⟨p, q, hA0, hV, rfl, hfz, hnd⟩ := hW
  have hA : DataW.TrodAll enc Try.prog W 0 (fun _ => true) true Try.f7.params.toList args.toList ds p := hA0
  rw [Try.params7] at hA hval
  obtain ⟨v0, vs0, d0, ds0, p0, q0, hargs, rfl, rfl, h0, r0⟩ := trodAll_cons hA
  obtain ⟨v1, vs1, d1, ds1, p1, q1, rfl, rfl, rfl, h1, r1⟩ := trodAll_cons r0
  obtain ⟨rfl, rfl, rfl⟩ := trodAll_nil r1
  obtain rfl : args = #[v0, v1] := by cases args; simp_all
  obtain ⟨rfl, rfl⟩ := trodVars_none hV
  have k0 := h0
  have lt0 : ∀ x ∈ p0, x.block < W.heap.size := by obtain ⟨m, hm⟩ := k0; exact DataW.trod_lt m _ _ _ hm
  obtain ⟨z0, w0⟩ := sto_open (hval 0 25 v0 rfl rfl) h0
  obtain ⟨a1, rfl, rfl, rfl, w1⟩ := open_int Try.underlying5 (hval 1 5 v1 rfl rfl) h1
  clear hA0 hval0
  refine (walk _ z0 a1 W w0 w1).mono fun e W' ⟨he, bel⟩ => ?_
  subst he
  exact ⟨_, rfl, _, _, _, [], _, [], hW', trodAll_mk1 (shut_bool Try.underlying4 _), (trodAll_cons_mk (Below.trod laidOut (by kernel_rfl) (of_decide_eq_true (by kernel_rfl)) k0 bel lt0) (trodAll_cons_mk (shut_int Try.underlying5 w1) trodAll_mk0)), rfl, bel.frame _, fun h => by cases h⟩

-- the given statement
theorem proved : Rows.StoreEmptiesSaid :=
  OpenClaim.holds_of_wide 7 Try.f7 rfl rfl rfl rfl rfl rfl rfl ⟨rfl, rfl, rfl, rfl, rfl⟩ rfl rfl rfl rfl rfl (by kernel_rfl) Try.func7 (by kernel_rfl)
    (of_decide_eq_true (by kernel_rfl)) (by unfold Func.isWrapper; first | (rw [if_pos (by decide +kernel)]; kernel_rfl) | (rw [if_neg (by decide +kernel)]; exact ⟨rfl, rfl⟩))
    (fun os started H enc _ => lifted os started H enc)
end Go.Proofs.Ytceefoiffkgliaa.storeEmpties
