/- THE TEXTS OF LisF LisG LisH LisI: What changes from a list to another one; whether it has all of it, no lower: of the program. Whether a list has all of another one, no lower; a list that changes: of the program. A list that changes: of the program. The build list of rows: of the program and of the document. -/
import Derived.Test.YtlbibgofhhdgoaaGreatLisE
import Derived.Test.YtlbibgofhhdgoaaGreatTalN
namespace Go.Proofs.YtlbibgofhhdgoaaGreat
open Go.RowKit Go.Maps
set_option linter.unusedVariables false
set_option maxRecDepth 100000

theorem fits_of_small {l : List Nd} (h : ∀ n ∈ l, smallN n) : ∀ n ∈ l, fitsN n := fun n hn => fits_small (h n hn)
theorem pick_len {l : List Nd} (h : ∀ n ∈ l, smallN n) (p : Tx) : (pickL l p).length ≤ 1000000000 := pick_small (fun n hn => (h n hn).2) p
theorem okL_rise {l : List Nd} (h : okL l = true) : RiseP l := (okL_iff.1 h).2

set_option maxHeartbeats 3200000 in
theorem ldelta_any (U V : Value) (a b : List Nd) (w : World) (hU : Nds w U a) (hV : Nds w V b) (sa : ∀ n ∈ a, smallN n) (sb : ∀ n ∈ b, smallN n) (la : a.length ≤ 100000) (lb : b.length ≤ 100000) :
    Calls Tryz.prog 21 #[U, V] w fun e w' => ∃ x, e = .returned (.tuple #[x, .int .i64 (deltaE a b).2]) ∧ w'.ownsRow w.heap.size 69 3 x (deltaE a b).1.length (chC (deltaE a b).1) ∧ Below w.heap.size w w' := by
  obtain ⟨A, c, rfl, h1, h2, -, -⟩ := hU.ex
  obtain ⟨A', c', rfl, h1', h2', -, -⟩ := hV.ex
  unfold maxLen at h2 h2'
  have ka := fun w h => lcheck_any (.slice A a.length c) a w h sa
  have kb := fun w h => lcheck_any (.slice A' b.length c') b w h sb
  have kbes := fun w h h' ra rb => beside_any (.slice A a.length c) (.slice A' b.length c') a b w h h' (fits_of_small sa) (fits_of_small sb) ra rb (by omega) (by omega)
  have hdl := deltaL_len a b
  have hkl := pathsL_len a b
  obtain ⟨n, hn⟩ : ∃ n, a.length = n := ⟨_, rfl⟩
  obtain ⟨m, hm⟩ : ∃ m, b.length = m := ⟨_, rfl⟩
  rw [hn] at h1 hU ka kbes la hdl hkl ⊢
  rw [hm] at h1' hV kb kbes lb hdl hkl ⊢
  have SU := Lib.hid hU; have SV := Lib.hid hV
  obtain ⟨N0, hN0⟩ : ∃ N, w.heap.size = N := ⟨_, rfl⟩
  have HN0 := Lib.hid hN0
  rw [hN0]
  obtain ⟨C1, hC1⟩ : ∃ C, lchkE a = C := ⟨_, rfl⟩
  obtain ⟨C2, hC2⟩ : ∃ C, lchkE b = C := ⟨_, rfl⟩
  rw [hC1] at ka
  rw [hC2] at kb
  cases oa : okL a with
  | false =>
    rw [deltaE_no (by rw [oa]; rfl)]
    obtain rfl : C1 = 1 := by rw [← hC1]; exact lchkE_no oa
    have KA := Lib.hid ka
    clear ka kb kbes hdl hkl hU hV hn hm sa sb oa hC1 hC2 hN0
    go_enter Tryz.func21, Tryz.ntmps21
    go_wp2_with (go_at_call 12; refine (KA.out _ SU.out).mono ?_; rintro e w1 ⟨rfl, hb1⟩; rw [HN0.out] at hb1; have B := Lib.hid hb1; clear hb1)
    go_ret2
    exact ⟨_, rfl, World.ownsRow_nil _ _ _ _, B.out⟩
  | true =>
    obtain rfl : C1 = 0 := by rw [← hC1]; exact lchkE_yes oa
    cases ob : okL b with
    | false =>
      rw [deltaE_no (by rw [oa, ob]; rfl)]
      obtain rfl : C2 = 1 := by rw [← hC2]; exact lchkE_no ob
      have KA := Lib.hid ka; have KB := Lib.hid kb
      clear ka kb kbes hdl hkl hU hV hn hm sa sb oa ob hC1 hC2 hN0
      go_enter Tryz.func21, Tryz.ntmps21
      go_upto_region 2 with (first
        | (go_at_call 12; refine (KA.out _ SU.out).mono ?_; rintro e w1 ⟨rfl, hb1⟩; rw [HN0.out] at hb1; have B := Lib.hid hb1; clear hb1 KA)
        | (go_at_call 12; refine (KB.out _ (SV.out.below (by rw [HN0.out]; exact B.out))).mono ?_; rintro e w1 ⟨rfl, hb1⟩; replace B := Lib.hid (show Below N0 w w1 by have h := B.out; rw [← HN0.out] at h ⊢; exact below_step h hb1); clear hb1))
      go_wp2
      go_ret2
      exact ⟨_, rfl, World.ownsRow_nil _ _ _ _, B.out⟩
    | true =>
      obtain rfl : C2 = 0 := by rw [← hC2]; exact lchkE_yes ob
      rw [deltaE_yes oa ob]
      obtain ⟨D, hD⟩ : ∃ D, deltaL a b = D := ⟨_, rfl⟩
      rw [hD] at hdl ⊢
      have kbes2 := fun w h h' => kbes w h h' (okL_rise oa) (okL_rise ob)
      obtain ⟨K, hK⟩ : ∃ K, pathsL a b = K := ⟨_, rfl⟩
      rw [hK] at hkl
      have hDK : D = deltaP K (pickL a) (pickL b) := by rw [← hD, ← hK]; rfl
      have hK2 : setT (a.map (·.1) ++ b.map (·.1)) = K := hK
      have hpa := pick_len sa
      have hpb := pick_len sb
      obtain ⟨q, hq⟩ : ∃ q, K.length = q := ⟨_, rfl⟩
      rw [hq] at hkl
      have KA := Lib.hid ka; have KB := Lib.hid kb; have KBES := Lib.hid kbes2; have HD := Lib.hid hDK; have HK := Lib.hid hK2; have HQ := Lib.hid hq; have HDL := Lib.hid hdl
      clear ka kb kbes kbes2 hdl hU hV hn hm sa sb oa ob hC1 hC2 hN0 hD hK hDK hK2 hq hpa hpb
      go_enter Tryz.func21, Tryz.ntmps21
      go_upto_region 3 with (first
        | (go_at_call 12; refine (KA.out _ SU.out).mono ?_; rintro e w1 ⟨rfl, hb1⟩; rw [HN0.out] at hb1; have B := Lib.hid hb1; clear hb1 KA)
        | (go_at_call 12; refine (KB.out _ (SV.out.below (by rw [HN0.out]; exact B.out))).mono ?_; rintro e w1 ⟨rfl, hb1⟩; replace B := Lib.hid (show Below N0 w w1 by have h := B.out; rw [← HN0.out] at h ⊢; exact below_step h hb1); clear hb1))
      go_upto_region 4 with (go_at_call 41; refine (KBES.out _ (SU.out.below (by rw [HN0.out]; exact B.out)) (SV.out.below (by rw [HN0.out]; exact B.out))).mono ?_; rintro e w2 ⟨G, rfl, hP, -, hb2⟩; replace B := Lib.hid (show Below N0 w w2 by have h := B.out; rw [← HN0.out] at h ⊢; exact below_step h hb2); have HP := Lib.hid hP; clear hb2 hP KBES)
      go_upto_region 6 with (go_at_call 42; refine (inorder_any _ _ _ _ _ HP.out (by omega)).mono ?_; rintro e w3 ⟨v1, rfl, hr1, hb3⟩; rw [HK.out] at hr1; obtain ⟨aK, cK, rfl, hS⟩ := stsO hr1; rw [HQ.out] at hS ⊢; have hSl := hS.lenE; replace B := Lib.hid (show Below N0 w w3 by have h := B.out; rw [← HN0.out] at h ⊢; exact below_step h hb3); replace HP := Lib.hid (HP.out.below hb3); have SK := Lib.hid hS; clear hr1 hS hb3)
      obtain ⟨-, hq1, hq2⟩ := hSl
      unfold maxLen at hq2
      obtain ⟨w4, hw4⟩ : ∃ v, v = w3 := ⟨_, rfl⟩
      subst hw4
      go_loopw [7, 25] (fun v7 i wr => ∃ (k : Nat) (X : Value), k ≤ q ∧ i = .int .i64 k ∧ X = v7 ∧ Hid (wr.ownsRow w4.heap.size 69 3 X (deltaP (K.take k) (pickL a) (pickL b)).length (chC (deltaP (K.take k) (pickL a) (pickL b)))) ∧ Hid (Below w4.heap.size w4 wr)) (fun _ i _ => q - (intOf i).toNat)
      case atStart => exact ⟨0, _, Nat.zero_le _, rfl, rfl, Lib.hid (World.ownsRow_nil _ _ _ _), Lib.hid (Below.refl _ _)⟩
      case round =>
        obtain ⟨k, X, hk, rfl, rfl, HX, HB⟩ := hrel
        by_cases hlt : k < q
        · have hkl2 : k < K.length := by rw [HQ.out]; exact hlt
          have hkb : (k : Int) < (q : Int) := by omega
          obtain ⟨bk, ok, rfl, ck⟩ := (SK.out.belowB HB.out).atT k hkl2
          have hsu := deltaP_succ (f := pickL a) (g := pickL b) hkl2
          have hin : K.getD k [] ∈ a.map (·.1) ++ b.map (·.1) := by rw [← setT_mem, HK.out]; exact gd_in hkl2
          have hpf := HP.out.fits _ hin
          obtain ⟨p, hp⟩ : ∃ p, K.getD k [] = p := ⟨_, rfl⟩
          rw [hp] at ck hsu hpf
          have hlook := look_pmap (HP.out.below HB.out) hpf
          simp only at hlook
          obtain ⟨x, hx⟩ : ∃ x, pickL a p = x := ⟨_, rfl⟩
          obtain ⟨y, hy⟩ : ∃ y, pickL b p = y := ⟨_, rfl⟩
          rw [hx, hy] at hlook
          rw [hx, hy] at hsu
          obtain ⟨P, hP⟩ : ∃ P, deltaP (K.take k) (pickL a) (pickL b) = P := ⟨_, rfl⟩
          have hPl : P.length ≤ 200000 := by rw [← hP]; have h3 := deltaP_len (K.take k) (pickL a) (pickL b); rw [List.length_take] at h3; omega
          rw [hP] at HX hsu
          obtain ⟨np, hnp⟩ : ∃ np, P.length = np := ⟨_, rfl⟩
          rw [hnp] at HX hPl
          have hns : w4.heap.size ≤ wr.heap.size := HB.out.size
          obtain ⟨o, ho⟩ : ∃ o, decide (x = y) = o := ⟨_, rfl⟩
          have hpq := mk_beq x y
          rw [ho] at hpq
          have HSU := Lib.hid hsu; have HO := Lib.hid ho; have HNP := Lib.hid hnp
          clear hkl2 hin hpf hp hx hy hP hsu ho hnp
          go_upto_region 9 with fail
          obtain ⟨W5, gk, hW5, hgk, r5, hb5⟩ := boxT wr (.string (mkB x)) (.string (mkB y)) 73
          rw [hW5, hgk]
          obtain ⟨d0, d1, -, -⟩ := row2 r5
          have HX5 := Lib.hid (ownsRow_belowB HX.out hb5)
          have HB5 := Lib.hid (HB.out.trans (hb5.mono hns))
          have hns5 : w4.heap.size ≤ W5.heap.size := Nat.le_trans hns hb5.size
          have HNS := Lib.hid hns5
          clear hW5 hgk r5 hb5 hlook ck hns hns5
          cases o with
          | true =>
            have HS2 := Lib.hid (show deltaP (K.take (k + 1)) (pickL a) (pickL b) = P by rw [HSU.out, if_pos (of_decide_eq_true HO.out), List.append_nil])
            go_wp2
            go_roundw
            case rel => exact ⟨k + 1, _, by omega, by go_num, rfl, Lib.hid (by rw [HS2.out, HNP.out]; exact HX5.out), HB5⟩
            case measure => simp [intOf]; omega
          | false =>
            have HS2 := Lib.hid (show deltaP (K.take (k + 1)) (pickL a) (pickL b) = P ++ [(p, x, y)] by rw [HSU.out, if_neg (of_decide_eq_false HO.out)])
            go_wp2_with (at_builtin; refine wpList_push_ch rfl _ _ rfl w4.heap.size X P np HNP.out rfl HX5.out p x y _ rfl rfl (by omega) HNS.out ?_; intro a7 c7 w7 h7 hg7; have HX7 := Lib.hid h7; have HB7 := Lib.hid (HB5.out.grown hg7 HNS.out (fun b e => (own_lt HX5.out e).1)); clear h7 hg7 d0 d1)
            go_roundw
            case rel => exact ⟨k + 1, _, by omega, by go_num, rfl, Lib.hid (by rw [HS2.out, List.length_append, HNP.out]; exact HX7.out), HB7⟩
            case measure => simp [intOf]; omega
        · have e : k = q := by omega
          subst e
          have hP : deltaP (K.take k) (pickL a) (pickL b) = D := by rw [List.take_of_length_le (by rw [HQ.out]; exact Nat.le_refl _)]; exact HD.out.symm
          rw [hP] at HX
          clear hP
          go_wp2
          go_ret2
          have hb := B.out
          rw [← HN0.out] at hb
          exact ⟨_, rfl, row_base HX.out (by rw [← HN0.out]; exact hb.size), by rw [← HN0.out]; exact below_step hb HB.out⟩
end Go.Proofs.YtlbibgofhhdgoaaGreat

namespace Go.Proofs.YtlbibgofhhdgoaaGreat
open Go.RowKit Go.Maps
set_option linter.unusedVariables false
set_option maxRecDepth 100000

end Go.Proofs.YtlbibgofhhdgoaaGreat

namespace Go.Proofs.YtlbibgofhhdgoaaGreat
open Go.RowKit Go.Maps
set_option linter.unusedVariables false
set_option maxRecDepth 100000

theorem updF_take {f : Tx → Tx} {c : List Ch} {k : Nat} (h : k < c.length) (p : Tx) : updF f (c.take (k + 1)) p = if p = (c.getD k zC).1 then (c.getD k zC).2.2 else updF f (c.take k) p := by
  rw [List.take_succ_eq_append_getElem h, updF_snoc, gd_at h]; rfl
theorem smallC_fits {x : Ch} (h : smallC x) : x.1.length ≤ maxLen := Nat.le_trans h.1 (by unfold maxLen; decide)

set_option maxHeartbeats 6400000 in
theorem lapply_any (U V : Value) (l : List Nd) (c : List Ch) (w : World) (hU : Nds w U l) (hV : Chs w V c) (sl : ∀ n ∈ l, smallN n) (sc : ∀ x ∈ c, smallC x) (ll : l.length ≤ 100000) (lc : c.length ≤ 100000) :
    Calls Tryz.prog 22 #[U, V] w fun e w' => ∃ x, e = .returned (.tuple #[x, .int .i64 (applyE l c).2]) ∧ w'.ownsRow w.heap.size 55 2 x (applyE l c).1.length (ndsC (applyE l c).1) ∧ Below w.heap.size w w' := by
  obtain ⟨A, d, rfl, h1, h2, -, -⟩ := hU.ex
  obtain ⟨A', d', rfl, h1', h2', -, -⟩ := hV.ex
  unfold maxLen at h2 h2'
  have ka := fun w h => lcheck_any (.slice A l.length d) l w h sl
  have kb := fun w h => lfit_any (.slice A' c.length d') c w h sc (by omega)
  have kbes := fun w h ra => beside_any (.slice A l.length d) (.slice A l.length d) l l w h h (fits_of_small sl) (fits_of_small sl) ra ra (by omega) (by omega)
  obtain ⟨n, hn⟩ : ∃ n, l.length = n := ⟨_, rfl⟩
  obtain ⟨m, hm⟩ : ∃ m, c.length = m := ⟨_, rfl⟩
  have hal := apply_len l c
  rw [hn] at h1 hU ka kbes ll hal ⊢
  rw [hm] at h1' hV kb lc hal ⊢
  have SU := Lib.hid hU; have SV := Lib.hid hV; have HN := Lib.hid hn; have HM := Lib.hid hm
  obtain ⟨N0, hN0⟩ : ∃ N, w.heap.size = N := ⟨_, rfl⟩
  have HN0 := Lib.hid hN0
  rw [hN0]
  obtain ⟨C1, hC1⟩ : ∃ C, lchkE l = C := ⟨_, rfl⟩
  rw [hC1] at ka
  cases oa : okL l with
  | false =>
    rw [applyE_no (by rw [oa]; rfl)]
    obtain rfl : C1 = 1 := by rw [← hC1]; exact lchkE_no oa
    have KA := Lib.hid ka
    clear ka kb kbes hal hU hV hn hm sl sc oa hC1 hN0
    go_enter Tryz.func22, Tryz.ntmps22
    go_wp2_with (go_at_call 12; refine (KA.out _ SU.out).mono ?_; rintro e w1 ⟨rfl, hb1⟩; rw [HN0.out] at hb1; have B := Lib.hid hb1; clear hb1)
    go_ret2
    exact ⟨_, rfl, World.ownsRow_nil _ _ _ _, B.out⟩
  | true =>
    obtain rfl : C1 = 0 := by rw [← hC1]; exact lchkE_yes oa
    cases ob : okCs c with
    | false =>
      rw [applyE_no (by rw [oa, ob]; rfl)]
      rw [ob] at kb
      have KA := Lib.hid ka; have KB := Lib.hid kb
      clear ka kb kbes hal hU hV hn hm sl sc oa ob hC1 hN0
      go_enter Tryz.func22, Tryz.ntmps22
      go_upto_region 2 with (first
        | (go_at_call 12; refine (KA.out _ SU.out).mono ?_; rintro e w1 ⟨rfl, hb1⟩; rw [HN0.out] at hb1; have B := Lib.hid hb1; clear hb1 KA)
        | (go_at_call 43; refine (KB.out _ (SV.out.below (by rw [HN0.out]; exact B.out))).mono ?_; rintro e w1 ⟨rfl, hb1⟩; replace B := Lib.hid (show Below N0 w w1 by have h := B.out; rw [← HN0.out] at h ⊢; exact below_step h hb1); clear hb1))
      go_wp2
      go_ret2
      exact ⟨_, rfl, World.ownsRow_nil _ _ _ _, B.out⟩
    | true =>
      rw [ob] at kb
      have kbes2 := fun w h => kbes w h (okL_rise oa)
      obtain ⟨E, hE⟩ : ∃ E, applyE l c = E := ⟨_, rfl⟩
      rw [hE]
      have hEn := fun q => hE.symm.trans (applyE_off oa ob q)
      have hEy := fun q => hE.symm.trans (applyE_yes oa ob q)
      have KA := Lib.hid ka; have KB := Lib.hid kb; have KBES := Lib.hid kbes2; have HEN := Lib.hid hEn; have HEY := Lib.hid hEy; have SC := Lib.hid sc; have HAL := Lib.hid hal; have SL := Lib.hid sl
      clear ka kb kbes kbes2 hal hU hV hn hm sl sc oa ob hC1 hN0 hE hEn hEy
      go_enter Tryz.func22, Tryz.ntmps22
      go_upto_region 3 with (first
        | (go_at_call 12; refine (KA.out _ SU.out).mono ?_; rintro e w1 ⟨rfl, hb1⟩; rw [HN0.out] at hb1; have B := Lib.hid hb1; clear hb1 KA)
        | (go_at_call 43; refine (KB.out _ (SV.out.below (by rw [HN0.out]; exact B.out))).mono ?_; rintro e w1 ⟨rfl, hb1⟩; replace B := Lib.hid (show Below N0 w w1 by have h := B.out; rw [← HN0.out] at h ⊢; exact below_step h hb1); clear hb1))
      go_upto_region 5 with (go_at_call 41; refine (KBES.out _ (SU.out.below (by rw [HN0.out]; exact B.out))).mono ?_; rintro e w2 ⟨G, rfl, hP, hG, hb2⟩; have HGN := Lib.hid (show N0 ≤ G by have h := B.out; rw [← HN0.out] at h ⊢; exact Nat.le_trans h.size hG); replace B := Lib.hid (show Below N0 w w2 by have h := B.out; rw [← HN0.out] at h ⊢; exact below_step h hb2); have HP := Lib.hid hP; clear hb2 hP hG KBES)
      go_loopw [26] (fun i wr => ∃ k : Nat, k ≤ m ∧ i = .int .i64 k ∧ Hid (∀ j, j < k → pickL l (c.getD j zC).1 = (c.getD j zC).2.1) ∧ Hid (PMap wr G (n + n + k) (l.map (·.1) ++ l.map (·.1) ++ (c.take k).map (·.1)) (fun p => (pickL l p, updF (pickL l) (c.take k) p))) ∧ Hid (Below N0 w wr)) (fun i _ => m - (intOf i).toNat)
      case atStart => exact ⟨0, Nat.zero_le _, rfl, Lib.hid fun j hj => absurd hj (Nat.not_lt_zero j), Lib.hid (by simpa [updF] using HP.out), B⟩
      case round =>
        obtain ⟨k, hk, rfl, HF, HP2, HB⟩ := hrel
        have hbw : Below w.heap.size w wr := by rw [HN0.out]; exact HB.out
        have hsz := hbw.size
        by_cases hlt : k < m
        · have hkl : k < c.length := by rw [HM.out]; exact hlt
          have hkb : (k : Int) < (m : Int) := by omega
          obtain ⟨bl, off, rfl, -, c0, c1, c2⟩ := (SV.out.below hbw).at k hkl
          have hsy := SC.out _ (gd_in (z := zC) hkl)
          have htk : (c.take (k + 1)).map (·.1) = (c.take k).map (·.1) ++ [(c.getD k zC).1] := by rw [List.take_succ_eq_append_getElem hkl, List.map_append, gd_at hkl]; rfl
          have hup := fun p => updF_take (f := pickL l) hkl p
          have hno := fun q => fitsL_no (l := l) hkl q
          obtain ⟨y, hy⟩ : ∃ y, c.getD k zC = y := ⟨_, rfl⟩
          rw [hy] at c0 c1 c2 hsy htk hup hno
          obtain ⟨y0, y1, y2⟩ := y
          simp only at c0 c1 c2 htk hup hno
          obtain ⟨z, hz⟩ : ∃ z, pickL l y0 = z := ⟨_, rfl⟩
          have hpq := mk_beq z y1
          obtain ⟨o, ho⟩ : ∃ o, decide (z = y1) = o := ⟨_, rfl⟩
          rw [ho] at hpq
          have HY := Lib.hid hy; have HSY := Lib.hid hsy; have HTK := Lib.hid htk; have HUP := Lib.hid hup; have HNO := Lib.hid hno; have HO := Lib.hid ho; have HZ := Lib.hid hz
          clear hy hsy htk hup hno ho hkl hbw
          go_upto_region 7 with fail
          obtain ⟨W5, gk, hW5, hgk, d0, d1, d2, hb5⟩ := boxC1 wr (.string (mkB y0)) (.string (mkB y1)) (.string (mkB y2)) 69
          rw [hW5, hgk]
          have HP5 := Lib.hid (HP2.out.below hb5)
          have hb6 : Below N0 w W5 := HB.out.trans (hb5.mono (by rw [← HN0.out]; exact hsz))
          have HS6 := Lib.hid (show N0 ≤ W5.heap.size by rw [← HN0.out]; exact Nat.le_trans hsz hb5.size)
          have HB6 := Lib.hid hb6
          have hlook := look_pmap HP5.out (smallC_fits HSY.out)
          obtain ⟨z2, hz2⟩ : ∃ z2, updF (pickL l) (c.take k) y0 = z2 := ⟨_, rfl⟩
          simp only [hz, hz2] at hlook
          have hix := ix_two
          clear hW5 hgk hb5 c0 c1 c2 hb6 hz hz2
          cases o with
          | false =>
            have HE := Lib.hid (HEN.out (HNO.out (by rw [HZ.out]; exact of_decide_eq_false HO.out)))
            go_wp2
            go_ret2
            exact ⟨_, (by rw [HE.out]; try rfl), by rw [HE.out]; exact World.ownsRow_nil _ _ _ _, HB6.out⟩
          | true =>
            have he : z = y1 := of_decide_eq_true HO.out
            have HF2 : Hid (∀ j, j < k + 1 → pickL l (c.getD j zC).1 = (c.getD j zC).2.1) := Lib.hid fun j hj => by
              rcases Nat.lt_succ_iff_lt_or_eq.1 hj with q | rfl
              · exact HF.out j q
              · rw [HY.out]; show pickL l y0 = y1; rw [HZ.out]; exact he
            have HE := Lib.hid he
            clear he
            go_wp2_with (at_mapUpdate; refine wpList_put_pmap rfl _ _ _ rfl G (n + n + k) _ _ rfl HP5.out (by unfold maxLen; omega) y0 y1 y2 rfl rfl (smallC_fits HSY.out) ?_; intro w1 hM1 hg1; have HM1 := Lib.hid hM1; have HB1 := Lib.hid (HB6.out.grown hg1 HS6.out (fun j e => by cases e; exact HGN.out)); clear hM1 hg1)
            go_roundw
            case rel => exact ⟨k + 1, by omega, by go_num, HF2, Lib.hid ((HM1.out.keys (by rw [HTK.out, List.append_assoc])).congr fun p => by
              rw [HUP.out p]
              by_cases e : p = y0
              · rw [if_pos e, if_pos e, e, HZ.out, HE.out]
              · rw [if_neg e, if_neg e]), HB1⟩
            case measure => simp [intOf]; omega
        · have e : k = m := by omega
          subst e
          have htc : c.take k = c := List.take_of_length_le (by rw [HM.out]; exact Nat.le_refl _)
          rw [htc] at HP2
          have hfit : fitsL l c = true := fitsL_iff.2 fun x hx => by
            obtain ⟨j, hj, rfl⟩ := List.getElem_of_mem hx
            have := HF.out j (by rw [← HM.out]; exact hj)
            rwa [gd_at hj] at this
          have hE := HEY.out hfit
          obtain ⟨K, hK⟩ : ∃ K, pathsC l c = K := ⟨_, rfl⟩
          have hK2 : setT (l.map (·.1) ++ l.map (·.1) ++ c.map (·.1)) = K := by
            rw [← hK]; exact setT_congr fun x => by simp only [List.mem_append]; constructor
                                                    · rintro ((h | h) | h)
                                                      · exact .inl h
                                                      · exact .inl h
                                                      · exact .inr h
                                                    · rintro (h | h)
                                                      · exact .inl (.inl h)
                                                      · exact .inr h
          obtain ⟨F, hF⟩ : ∃ F, updF (pickL l) c = F := ⟨_, rfl⟩
          have hEK : E = (ofP K F, 0) := by rw [hE, ← hK, ← hF]; rfl
          rw [hF] at HP2
          have hkl := setT_len (l.map (·.1) ++ c.map (·.1))
          rw [List.length_append, List.length_map, List.length_map, HN.out, HM.out] at hkl
          obtain ⟨q, hq⟩ : ∃ q, K.length = q := ⟨_, rfl⟩
          have hqk : q ≤ n + k := by rw [← hq, ← hK]; exact hkl
          have HK := Lib.hid hK2; have HQ := Lib.hid hq; have HE := Lib.hid hEK
          clear htc hfit hE hK hK2 hF hEK hkl hq hbw
          go_upto_region 13 with (go_at_call 42; refine (inorder_any _ _ _ _ _ HP2.out (by omega)).mono ?_; rintro e w3 ⟨v1, rfl, hr1, hb3⟩; rw [HK.out] at hr1; obtain ⟨aK, cK, rfl, hS⟩ := stsO hr1; rw [HQ.out] at hS ⊢; have hSl := hS.lenE; have B3 := Lib.hid (show Below N0 w w3 by have h := HB.out; rw [← HN0.out] at h ⊢; exact below_step h hb3); replace HP2 := Lib.hid (HP2.out.below hb3); have SK := Lib.hid hS; clear hr1 hS hb3)
          obtain ⟨-, hq1, hq2⟩ := hSl
          unfold maxLen at hq2
          obtain ⟨w4, hw4⟩ : ∃ v, v = w3 := ⟨_, rfl⟩
          subst hw4
          go_loopw [9, 50] (fun v9 i wr => ∃ (j : Nat) (X : Value), j ≤ q ∧ i = .int .i64 j ∧ X = v9 ∧ Hid (wr.ownsRow w4.heap.size 55 2 X (ofP (K.take j) F).length (ndsC (ofP (K.take j) F))) ∧ Hid (Below w4.heap.size w4 wr)) (fun _ i _ => q - (intOf i).toNat)
          case atStart => exact ⟨0, _, Nat.zero_le _, rfl, rfl, Lib.hid (World.ownsRow_nil _ _ _ _), Lib.hid (Below.refl _ _)⟩
          case round =>
            obtain ⟨j, X, hj, rfl, rfl, HX, HB2⟩ := hrel
            by_cases hlt2 : j < q
            · have hkl2 : j < K.length := by rw [HQ.out]; exact hlt2
              have hjb : (j : Int) < (q : Int) := by omega
              obtain ⟨bk, ok, rfl, ck⟩ := (SK.out.belowB HB2.out).atT j hkl2
              have hsu := ofP_succ (f := F) hkl2
              have hin : K.getD j [] ∈ l.map (·.1) ++ l.map (·.1) ++ c.map (·.1) := by rw [← setT_mem, HK.out]; exact gd_in hkl2
              have hpf := HP2.out.fits _ hin
              obtain ⟨p, hp⟩ : ∃ p, K.getD j [] = p := ⟨_, rfl⟩
              rw [hp] at ck hsu hpf
              have hlook := look_pmap (HP2.out.below HB2.out) hpf
              simp only at hlook
              obtain ⟨x, hx⟩ : ∃ x, pickL l p = x := ⟨_, rfl⟩
              obtain ⟨y, hy⟩ : ∃ y, F p = y := ⟨_, rfl⟩
              rw [hx, hy] at hlook
              rw [hy] at hsu
              obtain ⟨P, hP⟩ : ∃ P, ofP (K.take j) F = P := ⟨_, rfl⟩
              have hPl : P.length ≤ 200000 := by rw [← hP]; have h3 := ofP_len (K.take j) F; rw [List.length_take] at h3; omega
              rw [hP] at HX hsu
              obtain ⟨np, hnp⟩ : ∃ np, P.length = np := ⟨_, rfl⟩
              rw [hnp] at HX hPl
              have HNS := Lib.hid HB2.out.size
              obtain ⟨o, ho⟩ : ∃ o, decide (y = []) = o := ⟨_, rfl⟩
              have hnz := nil_beq y
              rw [ho] at hnz
              have hix := ix_two1
              have HSU := Lib.hid hsu; have HO := Lib.hid ho; have HNP := Lib.hid hnp
              clear hkl2 hin hpf hp hx hy hP hsu ho hnp
              cases o with
              | true =>
                have HS2 := Lib.hid (show ofP (K.take (j + 1)) F = P by rw [HSU.out, if_pos (of_decide_eq_true HO.out), List.append_nil])
                go_wp2
                go_roundw
                case rel => exact ⟨j + 1, _, by omega, by go_num, rfl, Lib.hid (by rw [HS2.out, HNP.out]; exact HX.out), HB2⟩
                case measure => simp [intOf]; omega
              | false =>
                have HS2 := Lib.hid (show ofP (K.take (j + 1)) F = P ++ [(p, y)] by rw [HSU.out, if_neg (of_decide_eq_false HO.out)])
                go_wp2_with (at_builtin; refine wpList_push_ndT rfl _ _ rfl w4.heap.size X P np rfl HX.out p y _ rfl rfl (by omega) HNS.out ?_; intro a7 c7 w7 h7 hg7; have HX7 := Lib.hid h7; have HB7 := Lib.hid (HB2.out.grown hg7 HNS.out (fun b e => (own_lt HX.out e).1)); clear h7 hg7 ck hlook)
                go_roundw
                case rel => exact ⟨j + 1, _, by omega, by go_num, rfl, Lib.hid (by rw [HS2.out, List.length_append, HNP.out]; exact HX7.out), HB7⟩
                case measure => simp [intOf]; omega
            · have e : j = q := by omega
              subst e
              have hP : E = (ofP (K.take j) F, 0) := by rw [List.take_of_length_le (by rw [HQ.out]; exact Nat.le_refl _)]; exact HE.out
              have HE3 := Lib.hid hP
              clear hP
              go_wp2
              go_ret2
              have hb := B3.out
              rw [← HN0.out] at hb
              exact ⟨_, (by rw [HE3.out]; try rfl), by rw [HE3.out]; exact row_base HX.out (by rw [← HN0.out]; exact hb.size), by rw [← HN0.out]; exact below_step hb HB2.out⟩
end Go.Proofs.YtlbibgofhhdgoaaGreat

namespace Go.Proofs.YtlbibgofhhdgoaaGreat
open Go.RowKit Go.Maps
set_option linter.unusedVariables false
set_option maxRecDepth 100000

theorem buildL_len (l : List Rw) : (buildL l).length = l.length := by unfold buildL; rw [List.length_map]
theorem buildL_take {l : List Rw} {k : Nat} (h : k < l.length) : buildL (l.take (k + 1)) = buildL (l.take k) ++ [((l.getD k zR).1, lastV (l.getD k zR).2)] := by
  unfold buildL
  rw [List.take_succ_eq_append_getElem h, List.map_append, gd_at h]; rfl
theorem okR_some {l : List Rw} (h : okR l = true) {k : Nat} (hk : k < l.length) : 0 < (l.getD k zR).2.length := List.length_pos_iff.2 (fitV_iff.1 ((okR_iff.1 h).1 _ (gd_in hk)).2).2.2

set_option maxHeartbeats 3200000 in
theorem lbuild_any (V : Value) (l : List Rw) (w : World) (hV : Rws w V l) (hl : l.length ≤ 1000) (hv : ∀ r ∈ l, r.2.length ≤ 100000) (hp : ∀ r ∈ l, r.1.length ≤ 1000000000) (hs : ∀ r ∈ l, ∀ x ∈ r.2, x.length ≤ 1000000000) :
    Calls Tryz.prog 10 #[V] w fun e w' => ∃ x, e = .returned (.tuple #[x, .int .i64 (buildE l).2]) ∧ w'.ownsRow w.heap.size 55 2 x (buildE l).1.length (ndsC (buildE l).1) ∧ Below w.heap.size w w' := by
  obtain ⟨Al, cl, rfl, hl1, hl2, -, -⟩ := hV.ex
  unfold maxLen at hl2
  have kc := fun w h => tcheck_any (.slice Al l.length cl) l w h (by omega) hp hs
  obtain ⟨n, hn⟩ : ∃ n, l.length = n := ⟨_, rfl⟩
  rw [hn] at hl hl1 hV kc ⊢
  have SV := Lib.hid hV; have HN := Lib.hid hn; have HV := Lib.hid hv
  obtain ⟨N0, hN0⟩ : ∃ N, w.heap.size = N := ⟨_, rfl⟩
  have HN0 := Lib.hid hN0
  rw [hN0]
  cases ho : okR l with
  | false =>
    have KC := Lib.hid kc
    have HE := Lib.hid (show (if okR l = true then (0 : Int) else 1) = 1 by rw [ho]; rfl)
    rw [buildE_no ho]
    clear hV hn hv hp hs kc ho hN0
    go_enter Tryz.func10, Tryz.ntmps10
    go_wp2_with (go_at_call 32; refine (KC.out _ SV.out).mono ?_; rintro e w1 ⟨rfl, hb1⟩; rw [HE.out]; rw [HN0.out] at hb1; have B := Lib.hid hb1; clear hb1)
    go_ret2
    exact ⟨_, rfl, World.ownsRow_nil _ _ _ _, B.out⟩
  | true =>
    have KC := Lib.hid kc
    have HE := Lib.hid (show (if okR l = true then (0 : Int) else 1) = 0 by rw [ho]; rfl)
    rw [buildE_yes ho]
    obtain ⟨D, hD⟩ : ∃ D, buildL l = D := ⟨_, rfl⟩
    rw [hD]
    have HD := Lib.hid hD; have HO := Lib.hid ho
    clear hV hn hv hp hs kc ho hD hN0
    go_enter Tryz.func10, Tryz.ntmps10
    go_wp2_with (go_at_call 32; refine (KC.out _ SV.out).mono ?_; rintro e w1 ⟨rfl, hb1⟩; rw [HE.out]; rw [HN0.out] at hb1; have B := Lib.hid hb1; clear hb1)
    go_loopw [5, 15] (fun v5 i wr => ∃ (k : Nat) (X : Value), k ≤ n ∧ i = .int .i64 k ∧ X = v5 ∧ Hid (wr.ownsRow N0 55 2 X (buildL (l.take k)).length (ndsC (buildL (l.take k)))) ∧ Hid (Below N0 w wr)) (fun _ i _ => n - (intOf i).toNat)
    case atStart => exact ⟨0, _, Nat.zero_le _, rfl, rfl, Lib.hid (World.ownsRow_nil _ _ _ _), B⟩
    case round =>
      obtain ⟨k, X, hk, rfl, rfl, HX, HB⟩ := hrel
      by_cases hlt : k < n
      · have hkl : k < l.length := by rw [HN.out]; exact hlt
        obtain ⟨bl, ol, ay, ny, cy, rfl, c0, c1, hsy⟩ := SV.out.at k hkl
        have hpos := okR_some HO.out hkl
        have htk := buildL_take hkl
        have hvy := HV.out _ (gd_in (z := zR) hkl)
        obtain ⟨y, hy⟩ : ∃ y, y = l.getD k zR := ⟨_, rfl⟩
        rw [← hy] at c0 hsy htk hvy hpos
        obtain ⟨p, vs⟩ := y
        simp only at c0 c1 hsy hvy htk hpos
        obtain ⟨hny0, hny1, hny3⟩ := hsy.lenE
        rw [hny0] at hpos hvy
        unfold maxLen at hny3
        have hkb : (k : Int) < (n : Int) := by omega
        obtain ⟨m, hm⟩ : ∃ m, ny = m + 1 := ⟨ny - 1, by omega⟩
        obtain ⟨bz, oz, rfl, hcz⟩ := hsy.atT m (by rw [hny0]; omega)
        have hl5 : vs.getD m [] = lastV vs := by unfold lastV; rw [hny0, hm]; rfl
        rw [hl5] at hcz
        obtain ⟨x, hx⟩ : ∃ x, lastV vs = x := ⟨_, rfl⟩
        rw [hx] at hcz htk
        obtain ⟨P, hP⟩ : ∃ P, buildL (l.take k) = P := ⟨_, rfl⟩
        have hPl : P.length = k := by rw [← hP, buildL_len, List.length_take]; omega
        rw [hP] at HX htk
        obtain ⟨q, hq⟩ : ∃ q, P.length = q := ⟨_, rfl⟩
        rw [hq] at HX hPl
        obtain ⟨K2, hK2⟩ : ∃ K2, K2 = P ++ [(p, x)] := ⟨_, rfl⟩
        have HTK := Lib.hid htk; have HM := Lib.hid hm; have HNB := Lib.hid (show ny ≤ 1000000 by omega); have HMN := Lib.hid (show m < ny by omega); have CX := Lib.hid hcz; have HK2 := Lib.hid hK2; have HQB := Lib.hid (show q ≤ 100000000 by omega); have HPQ := Lib.hid hq
        have hbw : Below w.heap.size w wr := by rw [HN0.out]; exact HB.out
        have HNS := Lib.hid (show N0 ≤ wr.heap.size by rw [← HN0.out]; exact hbw.size)
        have hc0 := cell_keep c0 hbw
        have hc1 := cell_keep c1 hbw
        clear hy htk hvy hsy c0 c1 hP hm hl5 hx hcz hK2 hq hPl hpos
        go_upto_region 8 with fail
        obtain ⟨W5, gk, hW5, hgk, r5, hb5⟩ := boxT wr (.string (mkB p)) (.slice (some ⟨bz, oz, none⟩) ny cy) 63
        rw [hW5, hgk]
        have RK := Lib.hid r5; have HX5 := Lib.hid (ownsRow_belowB HX.out hb5); have HB5 := Lib.hid (HB.out.trans (hb5.mono HNS.out)); replace HNS := Lib.hid (Nat.le_trans HNS.out hb5.size)
        clear hW5 hgk r5 hb5 hc0 hc1 hbw HB HX
        refine rol_run (by kernel_rfl) [[], [], [1], [], [3], [], [5], [5, 6], [5, 6, 7], [3, 4, 5, 6, 7, 8], [3, 4, 5, 6, 7, 8, 9], [1, 2, 3, 4, 5, 6, 7, 8, 9, 10], [1, 2, 3, 4, 5, 6, 7, 8, 9, 10, 11], [0, 1, 2, 3, 4, 5, 6, 7, 8, 9, 10, 11, 12], [0, 1, 2, 3, 4, 5, 6, 7, 8, 9, 10, 11, 12, 13]] (by kernel_rfl) [19, 20, 21, 22, 23, 24, 25, 26, 27, 28, 29, 30, 31, 32, 5] [[17], [], [1, 15], [], [3, 15], [], [5, 15], [6], [7], [4, 8], [9], [2, 10], [11], [0, 12, 16], [13]] [0, 0, 0, 0, 0, 0, 0, 0, 0, 0, 0, 0, 2, 1, 1, 3, 1, 0] [0, 0, 0, 0, 0, 0, 0, 0, 0, 0, 0, 0, 0, 1, 0] [1000, 1000, 1000, 1000, 1000, 1000, 1000, 1000, 1000, 1000, 1000, 1000, 1000, 1000, 1000, 1000, 13, 14] [.val 19 (X), .val 20 (.pointer (some ⟨gk, 0, none⟩)), .val 21 (.string (mkB p)), .val 22 (.pointer (some ⟨gk, 1, none⟩)), .val 23 (.slice (some ⟨bz, oz, none⟩) ny cy), .val 24 (.pointer (some ⟨gk, 1, none⟩)), .val 25 (.slice (some ⟨bz, oz, none⟩) ny cy), .val 26 (.int .i64 (ny : Int)), .val 27 (.int .i64 (m : Int)), .val 28 (.pointer (some ⟨bz, oz + m, none⟩)), .val 29 (.string (mkB x)), .val 30 (.agg #[.string (mkB p), .string (mkB x)]), .mem 31 (blkG 55 #[.string (mkB p), .string (mkB x)] 1), .mem 32 (rowG N0 55 2 (q + 1) (ndsC K2)), .mem 5 (rowG N0 55 2 (q + 1) (ndsC K2)), .box (gk) (.cells #[.string (mkB p), .slice (some ⟨bz, oz, none⟩) ny cy] 63), .mem 5 (rowX X N0 55 2 q (ndsC P)), .val 5 X] (by kernel_rfl) ?_ (N0) (W5.heap.size) rfl HB5.out rfl (fun k => if k = gk then 3 else 1) ?_ ?_ ?_
        · intro j hj
          have hj3 : j < 18 := hj
          have hj2 : j = 0 ∨ j = 1 ∨ j = 2 ∨ j = 3 ∨ j = 4 ∨ j = 5 ∨ j = 6 ∨ j = 7 ∨ j = 8 ∨ j = 9 ∨ j = 10 ∨ j = 11 ∨ j = 12 ∨ j = 13 ∨ j = 14 ∨ j = 15 ∨ j = 16 ∨ j = 17 := by omega
          clear hj hj3
          rcases hj2 with rfl | rfl | rfl | rfl | rfl | rfl | rfl | rfl | rfl | rfl | rfl | rfl | rfl | rfl | rfl | rfl | rfl | rfl
          · exact trivial
          · exact trivial
          · exact trivial
          · exact trivial
          · exact trivial
          · exact trivial
          · exact trivial
          · exact trivial
          · exact trivial
          · exact trivial
          · exact trivial
          · exact trivial
          · exact blkG_near
          · exact rowG_near
          · exact rowG_near
          · exact trivial
          · exact rowX_near
          · exact trivial
        · intro j hj0 hj
          have hj1 : 15 ≤ j := hj0
          have hj3 : j < 18 := hj
          have hj2 : j = 15 ∨ j = 16 ∨ j = 17 := by omega
          clear hj0 hj hj1 hj3
          rcases hj2 with rfl | rfl | rfl
          · exact ⟨RK.out, if_pos rfl⟩
          · exact ⟨_, _, rfl, fun b e => ⟨(own_lt HX5.out e).2, if_neg (fun q2 => own_nebox HX5.out RK.out (by decide) (by rw [← q2]; exact e))⟩, HX5.out, rfl⟩
          · exact rfl
        · intro i hi a wx who hG hF
          have hz : a.tmps.size = 35 := hG.size
          have hi3 : i < 15 := hi
          have hi2 : i = 0 ∨ i = 1 ∨ i = 2 ∨ i = 3 ∨ i = 4 ∨ i = 5 ∨ i = 6 ∨ i = 7 ∨ i = 8 ∨ i = 9 ∨ i = 10 ∨ i = 11 ∨ i = 12 ∨ i = 13 ∨ i = 14 := by omega
          clear hi hi3
          rcases hi2 with rfl | rfl | rfl | rfl | rfl | rfl | rfl | rfl | rfl | rfl | rfl | rfl | rfl | rfl | rfl
          · exact rol_val rfl rfl rfl (by rw [hz]; decide) (ex_move (Or.inl rfl) (eval_slot (hF 17 (by decide)))) hG.below
          · exact rol_val rfl rfl rfl (by rw [hz]; decide) (ex_field rfl (eval_slot ((hG.slots 7 (by decide)).trans rfl)) (by go_simp)) hG.below
          · exact rol_val rfl rfl rfl (by rw [hz]; decide) (ex_load rfl (eval_slot (hF 1 (by decide))) (ld_strT (row2 (hF 15 (by decide)).1).1)) hG.below
          · exact rol_val rfl rfl rfl (by rw [hz]; decide) (ex_field rfl (eval_slot ((hG.slots 7 (by decide)).trans rfl)) (by go_simp)) hG.below
          · exact rol_val rfl rfl rfl (by rw [hz]; decide) (ex_load rfl (eval_slot (hF 3 (by decide))) (ld_stsT (row2 (hF 15 (by decide)).1).2.1)) hG.below
          · exact rol_val rfl rfl rfl (by rw [hz]; decide) (ex_field rfl (eval_slot ((hG.slots 7 (by decide)).trans rfl)) (by go_simp)) hG.below
          · exact rol_val rfl rfl rfl (by rw [hz]; decide) (ex_load rfl (eval_slot (hF 5 (by decide))) (ld_stsT (row2 (hF 15 (by decide)).1).2.1)) hG.below
          · exact rol_val rfl rfl rfl (by rw [hz]; decide) (ex_len rfl (eval_slot (hF 6 (by decide))) (by go_simp)) hG.below
          · exact rol_val rfl rfl rfl (by rw [hz]; decide) (ex_bin rfl (eval_slot (hF 7 (by decide))) rfl (by go_simp) (bin_sub1 HM.out HNB.out)) hG.below
          · exact rol_val rfl rfl rfl (by rw [hz]; decide) (ex_index rfl (eval_slot (hF 4 (by decide))) (eval_slot (hF 8 (by decide))) (idx_stsT HMN.out)) hG.below
          · exact rol_val rfl rfl rfl (by rw [hz]; decide) (ex_load rfl (eval_slot (hF 9 (by decide))) (ld_strT (cell_keep CX.out (by rw [HN0.out]; exact hG.below)))) hG.below
          · exact rol_val rfl rfl rfl (by rw [hz]; decide) (ex_build rfl (vs := #[(0, .string (mkB p)), (1, .string (mkB x))]) (by simp only [List.map_toArray, List.map_cons, List.map_nil, eval_slot (hF 2 (by decide)), eval_slot (hF 10 (by decide))]) build_ndT) hG.below
          · exact rol_newO rfl rfl rfl (by rw [hz]; decide) (x := .cells #[.string (mkB p), .string (mkB x)] 55) (v := .slice (some ⟨wx.heap.size, 0, none⟩) 1 1) (ex_slice rfl (vs := #[(0, .agg #[.string (mkB p), .string (mkB x)])]) (by simp only [List.map_toArray, List.map_cons, List.map_nil, eval_slot (hF 11 (by decide))]) (by go_simp)) ⟨_, rfl, rfl, heap_alloc_new _ _⟩ hG.below (Nat.le_trans HNS.out hG.new)
          · exact rol_pushN rfl rfl rfl (by rw [hz]; decide) rfl (hF 16 (by decide)) (eval_slot (hF 0 (by decide))) (hF 12 (by decide)) HQB.out hG.below (Nat.le_refl _) (Nat.le_trans HNS.out hG.new) rfl HK2.out
          · exact rol_move rfl rfl rfl (by rw [hz]; decide) (Or.inr rfl) (hF 13 (by decide)) hG.below
        · intro a wx who hG hF
          obtain ⟨v5, ob5, fv5, fo5, fp5⟩ := hF 14 (of_decide_eq_true (by kernel_rfl)) (of_decide_eq_true (by kernel_rfl))
          replace fv5 : a.tmps.getD 5 undef = v5 := eval_slot (s := 5) fv5
          have hbx := hG.below
          have hnx := hG.new
          rw [hG.frame]
          simp only [List.foldl_cons, List.foldl_nil, List.setIfInBounds_toArray, List.set_cons_zero, List.set_cons_succ]
          generalize a.tmps.getD 19 undef = u19
          generalize a.tmps.getD 20 undef = u20
          generalize a.tmps.getD 21 undef = u21
          generalize a.tmps.getD 22 undef = u22
          generalize a.tmps.getD 23 undef = u23
          generalize a.tmps.getD 24 undef = u24
          generalize a.tmps.getD 25 undef = u25
          generalize a.tmps.getD 26 undef = u26
          generalize a.tmps.getD 27 undef = u27
          generalize a.tmps.getD 28 undef = u28
          generalize a.tmps.getD 29 undef = u29
          generalize a.tmps.getD 30 undef = u30
          generalize a.tmps.getD 31 undef = u31
          generalize a.tmps.getD 32 undef = u32
          rw [fv5]
          clear hF hG fv5
          have HBN := Lib.hid hbx; have HRW := Lib.hid fp5.1
          clear fo5 fp5 hbx hnx
          go_wp2
          go_roundw
          case rel => exact ⟨k + 1, _, by omega, by go_num, rfl, Lib.hid (by rw [HTK.out, ← HK2.out, show K2.length = q + 1 by rw [HK2.out, List.length_append, HPQ.out]; rfl]; exact HRW.out), HBN⟩
          case measure => simp [intOf]; omega
      · have e : k = n := by omega
        subst e
        have hP : buildL (l.take k) = D := by rw [List.take_of_length_le (by rw [HN.out]; exact Nat.le_refl _)]; exact HD.out
        rw [hP] at HX
        clear hP
        go_wp2
        go_ret2
        exact ⟨_, rfl, HX.out, HB.out⟩

end Go.Proofs.YtlbibgofhhdgoaaGreat
