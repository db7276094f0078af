/- Of every three lists of nodes (no more than are looked at): what was, and the difference, come to what is; turned about it is the other one's; by way of a third list it is the same; no condition. -/
import Derived.Test.YtopcbmmnjmmoiaaGreatRows
import Derived.Test.YtopcbmmnjmmoiaaGreatDifU
import Derived.ProofKit
import Derived.OpenShut
import Derived.ShutString
import Derived.ChangeOld
namespace Go.Proofs.YtopcbmmnjmmoiaaGreat.diffGoes
open Go.ChangeShapes Go.WideShapes Go.ChangeAt Go.RowKit
open Go.ChangeMaps (open_string shut_string)
set_option maxRecDepth 100000
set_option linter.unusedVariables false

theorem dif_small {old now : List Nd} (h : ∀ n ∈ old ++ now, okN n = true) (so : ∀ n ∈ old, smallN n) (sn : ∀ n ∈ now, smallN n) (lo : old.length ≤ 1000000) (ln : now.length ≤ 1000000) : ∀ e ∈ difL old now, smallD e := fun e he => by
  have o := dif_okD h lo ln
  have h1 := mkD_mem.1 (show e ∈ mkD _ _ from he)
  have h2 := inD_iff.1 (okD_in o e he)
  have hs : smallN e.1 := by
    rcases List.mem_append.1 ((setN_mem h e.1).1 h1.1) with k | k
    · exact so _ k
    · exact sn _ k
  exact ⟨hs, by unfold fitI; omega⟩
theorem ok_app {l m : List Nd} (h : ∀ n ∈ l, okN n = true) (k : ∀ n ∈ m, okN n = true) : ∀ n ∈ l ++ m, okN n = true := fun n hn => (List.mem_append.1 hn).elim (h n) (k n)
set_option maxHeartbeats 3200000 in
theorem walk (U : Value) (A : List Nd) (V : Value) (B : List Nd) (Q : Value) (C : List Nd) (w : World) (hU0 : Nds w U A ∧ ∀ n ∈ A, fitsN n) (hV0 : Nds w V B ∧ ∀ n ∈ B, fitsN n) (hQ0 : Nds w Q C ∧ ∀ n ∈ C, fitsN n) :
    Calls Tryz.prog 5 #[U, V, Q] w fun e w' => e = .returned (.bool true) ∧ Below w.heap.size w w' := by
  obtain ⟨hU, fA⟩ := hU0
  have kfa := fun w h => nfewo_any U A w h fA
  have la := fewNs_len A
  have sa := fewNs_small A
  obtain ⟨pU, cU, rfl, -⟩ := hU.ex
  obtain ⟨mU, hmU⟩ : ∃ n, A.length = n := ⟨_, rfl⟩
  rw [hmU] at hU kfa ⊢
  obtain ⟨a, ha⟩ : ∃ l, fewNs A = l := ⟨_, rfl⟩
  rw [ha] at kfa la sa
  obtain ⟨na, hna⟩ : ∃ n, a.length = n := ⟨_, rfl⟩
  rw [hna] at la
  have SU := Lib.hid hU; have KFa := Lib.hid kfa; have Hna := Lib.hid hna; have SMa := Lib.hid sa
  clear hU fA kfa hmU ha hna sa
  obtain ⟨hV, fB⟩ := hV0
  have kfb := fun w h => nfewo_any V B w h fB
  have lb := fewNs_len B
  have sb := fewNs_small B
  obtain ⟨pV, cV, rfl, -⟩ := hV.ex
  obtain ⟨mV, hmV⟩ : ∃ n, B.length = n := ⟨_, rfl⟩
  rw [hmV] at hV kfb ⊢
  obtain ⟨b, hb⟩ : ∃ l, fewNs B = l := ⟨_, rfl⟩
  rw [hb] at kfb lb sb
  obtain ⟨nb, hnb⟩ : ∃ n, b.length = n := ⟨_, rfl⟩
  rw [hnb] at lb
  have SV := Lib.hid hV; have KFb := Lib.hid kfb; have Hnb := Lib.hid hnb; have SMb := Lib.hid sb
  clear hV fB kfb hmV hb hnb sb
  obtain ⟨hQ, fC⟩ := hQ0
  have kfc := fun w h => nfewo_any Q C w h fC
  have lc := fewNs_len C
  have sc := fewNs_small C
  obtain ⟨pQ, cQ, rfl, -⟩ := hQ.ex
  obtain ⟨mQ, hmQ⟩ : ∃ n, C.length = n := ⟨_, rfl⟩
  rw [hmQ] at hQ kfc ⊢
  obtain ⟨c, hc⟩ : ∃ l, fewNs C = l := ⟨_, rfl⟩
  rw [hc] at kfc lc sc
  obtain ⟨nc, hnc⟩ : ∃ n, c.length = n := ⟨_, rfl⟩
  rw [hnc] at lc
  have SQ := Lib.hid hQ; have KFc := Lib.hid kfc; have Hnc := Lib.hid hnc; have SMc := Lib.hid sc
  clear hQ fC kfc hmQ hc hnc sc
  have kc1 := fun V w h => count_any V a w h SMa.out (by rw [Hna.out]; omega)
  have kc2 := fun V w h => count_any V b w h SMb.out (by rw [Hnb.out]; omega)
  have kd1 := fun U V w h h' => diff_any U V a b w h h' SMa.out SMb.out (by rw [Hna.out]; omega) (by rw [Hnb.out]; omega)
  have kd2 := fun U V w h h' => diff_any U V a c w h h' SMa.out SMc.out (by rw [Hna.out]; omega) (by rw [Hnc.out]; omega)
  have kd3 := fun U V w h h' => diff_any U V c b w h h' SMc.out SMb.out (by rw [Hnc.out]; omega) (by rw [Hnb.out]; omega)
  have kd4 := fun U V w h h' => diff_any U V b a w h h' SMb.out SMa.out (by rw [Hnb.out]; omega) (by rw [Hna.out]; omega)
  have ko := fun V w h => lall_any V a w h SMa.out
  have kn := fun V w h => lall_any V b w h SMb.out
  have km := fun V w h => lall_any V c w h SMc.out
  have BB := Lib.hid (Below.refl w.heap.size w)
  obtain ⟨o, ho⟩ : ∃ o, allN2 a = o := ⟨_, rfl⟩
  obtain ⟨p, hp⟩ : ∃ o, allN2 b = o := ⟨_, rfl⟩
  obtain ⟨q, hq⟩ : ∃ o, allN2 c = o := ⟨_, rfl⟩
  rw [ho] at ko; rw [hp] at kn; rw [hq] at km
  cases o
  · rw [diffE_nil, ho, if_neg (by simp)] at kc1
    obtain ⟨R, hR⟩ : ∃ R, diffE [] b = R := ⟨_, rfl⟩
    rw [hR] at kc2
    obtain ⟨X2, E2⟩ := R
    simp only at kc2
    obtain ⟨n2, hn2⟩ : ∃ n, X2.length = n := ⟨_, rfl⟩
    have Hn2 := Lib.hid hn2
    clear hR hn2
    obtain ⟨R, hR⟩ : ∃ R, diffE a b = R := ⟨_, rfl⟩
    rw [hR] at kd1
    obtain ⟨X3, E3⟩ := R
    simp only at kd1
    obtain ⟨n3, hn3⟩ : ∃ n, X3.length = n := ⟨_, rfl⟩
    have Hn3 := Lib.hid hn3
    clear hR hn3
    obtain ⟨R, hR⟩ : ∃ R, diffE a c = R := ⟨_, rfl⟩
    rw [hR] at kd2
    obtain ⟨X4, E4⟩ := R
    simp only at kd2
    obtain ⟨n4, hn4⟩ : ∃ n, X4.length = n := ⟨_, rfl⟩
    have Hn4 := Lib.hid hn4
    clear hR hn4
    obtain ⟨R, hR⟩ : ∃ R, diffE c b = R := ⟨_, rfl⟩
    rw [hR] at kd3
    obtain ⟨X5, E5⟩ := R
    simp only at kd3
    obtain ⟨n5, hn5⟩ : ∃ n, X5.length = n := ⟨_, rfl⟩
    have Hn5 := Lib.hid hn5
    clear hR hn5
    have KC1 := Lib.hid kc1; have KC2 := Lib.hid kc2; have KD1 := Lib.hid kd1; have KD2 := Lib.hid kd2; have KD3 := Lib.hid kd3; have KO := Lib.hid ko; have KN := Lib.hid kn; have KM := Lib.hid km
    clear kc1 kc2 kd1 kd2 kd3 ko kn km
    clear ho hp hq kd4
    go_enter Tryz.func5, Tryz.ntmps5
    go_upto_region 2 with (first
      | (go_at_call 7; refine (KFa.out _ SU.out).mono ?_; rintro e w1 ⟨v1, rfl, hrow, hb1⟩; replace SU := Lib.hid (SU.out.below hb1); replace SV := Lib.hid (SV.out.below hb1); replace SQ := Lib.hid (SQ.out.below hb1); replace BB := Lib.hid (below_step BB.out hb1); obtain ⟨pSa, cSa, rfl, hd⟩ := ndsO hrow; rw [Hna.out] at hd ⊢; have Sa := Lib.hid hd; clear hrow hd hb1 KFa)
      | (go_at_call 7; refine (KFb.out _ SV.out).mono ?_; rintro e w1 ⟨v1, rfl, hrow, hb1⟩; replace SQ := Lib.hid (SQ.out.below hb1); replace Sa := Lib.hid (Sa.out.below hb1); replace BB := Lib.hid (below_step BB.out hb1); obtain ⟨pSb, cSb, rfl, hd⟩ := ndsO hrow; rw [Hnb.out] at hd ⊢; have Sb := Lib.hid hd; clear hrow hd hb1 KFb)
      | (go_at_call 7; refine (KFc.out _ SQ.out).mono ?_; rintro e w1 ⟨v1, rfl, hrow, hb1⟩; replace Sa := Lib.hid (Sa.out.below hb1); replace Sb := Lib.hid (Sb.out.below hb1); replace BB := Lib.hid (below_step BB.out hb1); obtain ⟨pSc, cSc, rfl, hd⟩ := ndsO hrow; rw [Hnc.out] at hd ⊢; have Sc := Lib.hid hd; clear hrow hd hb1 KFc))
    go_upto_region 3 with (go_at_call 9; refine (KC1.out _ _ Sa.out).mono ?_; rintro e w1 ⟨v1, rfl, hrow, hb1⟩; replace Sa := Lib.hid (Sa.out.below hb1); replace Sb := Lib.hid (Sb.out.below hb1); replace Sc := Lib.hid (Sc.out.below hb1); replace BB := Lib.hid (below_step BB.out hb1); obtain ⟨pSw, cSw, rfl, hd⟩ := dfsO hrow; rw [List.length_nil] at hd ⊢; have Sw := Lib.hid hd; clear hrow hd hb1 KC1)
    go_upto_region 4 with (go_at_call 9; refine (KC2.out _ _ Sb.out).mono ?_; rintro e w1 ⟨v1, rfl, hrow, hb1⟩; replace Sa := Lib.hid (Sa.out.below hb1); replace Sb := Lib.hid (Sb.out.below hb1); replace Sc := Lib.hid (Sc.out.below hb1); replace Sw := Lib.hid (Sw.out.below hb1); replace BB := Lib.hid (below_step BB.out hb1); obtain ⟨pSi, cSi, rfl, hd⟩ := dfsO hrow; rw [Hn2.out] at hd ⊢; have Si := Lib.hid hd; clear hrow hd hb1 KC2)
    go_upto_region 5 with (go_at_call 8; refine (KD1.out _ _ _ Sa.out Sb.out).mono ?_; rintro e w1 ⟨v1, rfl, hrow, hb1⟩; replace Sa := Lib.hid (Sa.out.below hb1); replace Sb := Lib.hid (Sb.out.below hb1); replace Sc := Lib.hid (Sc.out.below hb1); replace Sw := Lib.hid (Sw.out.below hb1); replace Si := Lib.hid (Si.out.below hb1); replace BB := Lib.hid (below_step BB.out hb1); obtain ⟨pSd, cSd, rfl, hd⟩ := dfsO hrow; rw [Hn3.out] at hd ⊢; have Sd := Lib.hid hd; clear hrow hd hb1 KD1)
    go_upto_region 6 with (go_at_call 8; refine (KD2.out _ _ _ Sa.out Sc.out).mono ?_; rintro e w1 ⟨v1, rfl, hrow, hb1⟩; replace Sa := Lib.hid (Sa.out.below hb1); replace Sb := Lib.hid (Sb.out.below hb1); replace Sc := Lib.hid (Sc.out.below hb1); replace Sw := Lib.hid (Sw.out.below hb1); replace Si := Lib.hid (Si.out.below hb1); replace Sd := Lib.hid (Sd.out.below hb1); replace BB := Lib.hid (below_step BB.out hb1); obtain ⟨pSm, cSm, rfl, hd⟩ := dfsO hrow; rw [Hn4.out] at hd ⊢; have Sm := Lib.hid hd; clear hrow hd hb1 KD2)
    go_upto_region 7 with (go_at_call 8; refine (KD3.out _ _ _ Sc.out Sb.out).mono ?_; rintro e w1 ⟨v1, rfl, hrow, hb1⟩; replace Sa := Lib.hid (Sa.out.below hb1); replace Sb := Lib.hid (Sb.out.below hb1); replace Sc := Lib.hid (Sc.out.below hb1); replace Sw := Lib.hid (Sw.out.below hb1); replace Si := Lib.hid (Si.out.below hb1); replace Sd := Lib.hid (Sd.out.below hb1); replace Sm := Lib.hid (Sm.out.below hb1); replace BB := Lib.hid (below_step BB.out hb1); obtain ⟨pSn, cSn, rfl, hd⟩ := dfsO hrow; rw [Hn5.out] at hd ⊢; have Sn := Lib.hid hd; clear hrow hd hb1 KD3)
    go_wp2_with (first
      | (go_at_call 10; refine (KO.out _ _ Sa.out).mono ?_; rintro e w1 ⟨rfl, hb1⟩; replace Sb := Lib.hid (Sb.out.below hb1); replace Sc := Lib.hid (Sc.out.below hb1); replace BB := Lib.hid (below_step BB.out hb1); clear hb1 KO)
      | (go_at_call 10; refine (KN.out _ _ Sb.out).mono ?_; rintro e w1 ⟨rfl, hb1⟩; replace Sc := Lib.hid (Sc.out.below hb1); replace BB := Lib.hid (below_step BB.out hb1); clear hb1 KN)
      | (go_at_call 10; refine (KM.out _ _ Sc.out).mono ?_; rintro e w1 ⟨rfl, hb1⟩; replace BB := Lib.hid (below_step BB.out hb1); clear hb1 KM)
      | (go_at_call 13; refine (dawake_any _).mono ?_; rintro e w1 ⟨rfl, hb1⟩; replace BB := Lib.hid (below_step BB.out hb1); clear hb1))
    go_ret
    exact ⟨rfl, BB.out⟩
  · cases p
    · rw [diffE_nil, ho, if_pos rfl] at kc1
      rw [diffE_nil, hp, if_neg (by simp)] at kc2
      obtain ⟨X1, hX1⟩ : ∃ X, difL [] a = X := ⟨_, rfl⟩
      rw [hX1] at kc1
      obtain ⟨n1, hn1⟩ : ∃ n, X1.length = n := ⟨_, rfl⟩
      have Hn1 := Lib.hid hn1
      clear hX1 hn1
      obtain ⟨R, hR⟩ : ∃ R, diffE a b = R := ⟨_, rfl⟩
      rw [hR] at kd1
      obtain ⟨X3, E3⟩ := R
      simp only at kd1
      obtain ⟨n3, hn3⟩ : ∃ n, X3.length = n := ⟨_, rfl⟩
      have Hn3 := Lib.hid hn3
      clear hR hn3
      obtain ⟨R, hR⟩ : ∃ R, diffE a c = R := ⟨_, rfl⟩
      rw [hR] at kd2
      obtain ⟨X4, E4⟩ := R
      simp only at kd2
      obtain ⟨n4, hn4⟩ : ∃ n, X4.length = n := ⟨_, rfl⟩
      have Hn4 := Lib.hid hn4
      clear hR hn4
      obtain ⟨R, hR⟩ : ∃ R, diffE c b = R := ⟨_, rfl⟩
      rw [hR] at kd3
      obtain ⟨X5, E5⟩ := R
      simp only at kd3
      obtain ⟨n5, hn5⟩ : ∃ n, X5.length = n := ⟨_, rfl⟩
      have Hn5 := Lib.hid hn5
      clear hR hn5
      have KC1 := Lib.hid kc1; have KC2 := Lib.hid kc2; have KD1 := Lib.hid kd1; have KD2 := Lib.hid kd2; have KD3 := Lib.hid kd3; have KO := Lib.hid ko; have KN := Lib.hid kn; have KM := Lib.hid km
      clear kc1 kc2 kd1 kd2 kd3 ko kn km
      clear ho hp hq kd4
      go_enter Tryz.func5, Tryz.ntmps5
      go_upto_region 2 with (first
        | (go_at_call 7; refine (KFa.out _ SU.out).mono ?_; rintro e w1 ⟨v1, rfl, hrow, hb1⟩; replace SU := Lib.hid (SU.out.below hb1); replace SV := Lib.hid (SV.out.below hb1); replace SQ := Lib.hid (SQ.out.below hb1); replace BB := Lib.hid (below_step BB.out hb1); obtain ⟨pSa, cSa, rfl, hd⟩ := ndsO hrow; rw [Hna.out] at hd ⊢; have Sa := Lib.hid hd; clear hrow hd hb1 KFa)
        | (go_at_call 7; refine (KFb.out _ SV.out).mono ?_; rintro e w1 ⟨v1, rfl, hrow, hb1⟩; replace SQ := Lib.hid (SQ.out.below hb1); replace Sa := Lib.hid (Sa.out.below hb1); replace BB := Lib.hid (below_step BB.out hb1); obtain ⟨pSb, cSb, rfl, hd⟩ := ndsO hrow; rw [Hnb.out] at hd ⊢; have Sb := Lib.hid hd; clear hrow hd hb1 KFb)
        | (go_at_call 7; refine (KFc.out _ SQ.out).mono ?_; rintro e w1 ⟨v1, rfl, hrow, hb1⟩; replace Sa := Lib.hid (Sa.out.below hb1); replace Sb := Lib.hid (Sb.out.below hb1); replace BB := Lib.hid (below_step BB.out hb1); obtain ⟨pSc, cSc, rfl, hd⟩ := ndsO hrow; rw [Hnc.out] at hd ⊢; have Sc := Lib.hid hd; clear hrow hd hb1 KFc))
      go_upto_region 3 with (go_at_call 9; refine (KC1.out _ _ Sa.out).mono ?_; rintro e w1 ⟨v1, rfl, hrow, hb1⟩; replace Sa := Lib.hid (Sa.out.below hb1); replace Sb := Lib.hid (Sb.out.below hb1); replace Sc := Lib.hid (Sc.out.below hb1); replace BB := Lib.hid (below_step BB.out hb1); obtain ⟨pSw, cSw, rfl, hd⟩ := dfsO hrow; rw [Hn1.out] at hd ⊢; have Sw := Lib.hid hd; clear hrow hd hb1 KC1)
      go_upto_region 4 with (go_at_call 9; refine (KC2.out _ _ Sb.out).mono ?_; rintro e w1 ⟨v1, rfl, hrow, hb1⟩; replace Sa := Lib.hid (Sa.out.below hb1); replace Sb := Lib.hid (Sb.out.below hb1); replace Sc := Lib.hid (Sc.out.below hb1); replace Sw := Lib.hid (Sw.out.below hb1); replace BB := Lib.hid (below_step BB.out hb1); obtain ⟨pSi, cSi, rfl, hd⟩ := dfsO hrow; rw [List.length_nil] at hd ⊢; have Si := Lib.hid hd; clear hrow hd hb1 KC2)
      go_upto_region 5 with (go_at_call 8; refine (KD1.out _ _ _ Sa.out Sb.out).mono ?_; rintro e w1 ⟨v1, rfl, hrow, hb1⟩; replace Sa := Lib.hid (Sa.out.below hb1); replace Sb := Lib.hid (Sb.out.below hb1); replace Sc := Lib.hid (Sc.out.below hb1); replace Sw := Lib.hid (Sw.out.below hb1); replace Si := Lib.hid (Si.out.below hb1); replace BB := Lib.hid (below_step BB.out hb1); obtain ⟨pSd, cSd, rfl, hd⟩ := dfsO hrow; rw [Hn3.out] at hd ⊢; have Sd := Lib.hid hd; clear hrow hd hb1 KD1)
      go_upto_region 6 with (go_at_call 8; refine (KD2.out _ _ _ Sa.out Sc.out).mono ?_; rintro e w1 ⟨v1, rfl, hrow, hb1⟩; replace Sa := Lib.hid (Sa.out.below hb1); replace Sb := Lib.hid (Sb.out.below hb1); replace Sc := Lib.hid (Sc.out.below hb1); replace Sw := Lib.hid (Sw.out.below hb1); replace Si := Lib.hid (Si.out.below hb1); replace Sd := Lib.hid (Sd.out.below hb1); replace BB := Lib.hid (below_step BB.out hb1); obtain ⟨pSm, cSm, rfl, hd⟩ := dfsO hrow; rw [Hn4.out] at hd ⊢; have Sm := Lib.hid hd; clear hrow hd hb1 KD2)
      go_upto_region 7 with (go_at_call 8; refine (KD3.out _ _ _ Sc.out Sb.out).mono ?_; rintro e w1 ⟨v1, rfl, hrow, hb1⟩; replace Sa := Lib.hid (Sa.out.below hb1); replace Sb := Lib.hid (Sb.out.below hb1); replace Sc := Lib.hid (Sc.out.below hb1); replace Sw := Lib.hid (Sw.out.below hb1); replace Si := Lib.hid (Si.out.below hb1); replace Sd := Lib.hid (Sd.out.below hb1); replace Sm := Lib.hid (Sm.out.below hb1); replace BB := Lib.hid (below_step BB.out hb1); obtain ⟨pSn, cSn, rfl, hd⟩ := dfsO hrow; rw [Hn5.out] at hd ⊢; have Sn := Lib.hid hd; clear hrow hd hb1 KD3)
      go_wp2_with (first
        | (go_at_call 10; refine (KO.out _ _ Sa.out).mono ?_; rintro e w1 ⟨rfl, hb1⟩; replace Sb := Lib.hid (Sb.out.below hb1); replace Sc := Lib.hid (Sc.out.below hb1); replace BB := Lib.hid (below_step BB.out hb1); clear hb1 KO)
        | (go_at_call 10; refine (KN.out _ _ Sb.out).mono ?_; rintro e w1 ⟨rfl, hb1⟩; replace Sc := Lib.hid (Sc.out.below hb1); replace BB := Lib.hid (below_step BB.out hb1); clear hb1 KN)
        | (go_at_call 10; refine (KM.out _ _ Sc.out).mono ?_; rintro e w1 ⟨rfl, hb1⟩; replace BB := Lib.hid (below_step BB.out hb1); clear hb1 KM)
        | (go_at_call 13; refine (dawake_any _).mono ?_; rintro e w1 ⟨rfl, hb1⟩; replace BB := Lib.hid (below_step BB.out hb1); clear hb1))
      go_ret
      exact ⟨rfl, BB.out⟩
    · cases q
      · rw [diffE_nil, ho, if_pos rfl] at kc1
        rw [diffE_nil, hp, if_pos rfl] at kc2
        rw [diffE_yes (by rw [ho, hp]; rfl)] at kd1
        rw [diffE_no (by rw [hq, Bool.and_false])] at kd2
        obtain ⟨X1, hX1⟩ : ∃ X, difL [] a = X := ⟨_, rfl⟩
        rw [hX1] at kc1
        obtain ⟨n1, hn1⟩ : ∃ n, X1.length = n := ⟨_, rfl⟩
        have Hn1 := Lib.hid hn1
        clear hX1 hn1
        obtain ⟨X2, hX2⟩ : ∃ X, difL [] b = X := ⟨_, rfl⟩
        rw [hX2] at kc2
        obtain ⟨n2, hn2⟩ : ∃ n, X2.length = n := ⟨_, rfl⟩
        have Hn2 := Lib.hid hn2
        clear hX2 hn2
        obtain ⟨X3, hX3⟩ : ∃ X, difL a b = X := ⟨_, rfl⟩
        rw [hX3] at kd1
        obtain ⟨n3, hn3⟩ : ∃ n, X3.length = n := ⟨_, rfl⟩
        have Hn3 := Lib.hid hn3
        clear hX3 hn3
        obtain ⟨R, hR⟩ : ∃ R, diffE c b = R := ⟨_, rfl⟩
        rw [hR] at kd3
        obtain ⟨X5, E5⟩ := R
        simp only at kd3
        obtain ⟨n5, hn5⟩ : ∃ n, X5.length = n := ⟨_, rfl⟩
        have Hn5 := Lib.hid hn5
        clear hR hn5
        have KC1 := Lib.hid kc1; have KC2 := Lib.hid kc2; have KD1 := Lib.hid kd1; have KD2 := Lib.hid kd2; have KD3 := Lib.hid kd3; have KO := Lib.hid ko; have KN := Lib.hid kn; have KM := Lib.hid km
        clear kc1 kc2 kd1 kd2 kd3 ko kn km
        clear ho hp hq kd4
        go_enter Tryz.func5, Tryz.ntmps5
        go_upto_region 2 with (first
          | (go_at_call 7; refine (KFa.out _ SU.out).mono ?_; rintro e w1 ⟨v1, rfl, hrow, hb1⟩; replace SU := Lib.hid (SU.out.below hb1); replace SV := Lib.hid (SV.out.below hb1); replace SQ := Lib.hid (SQ.out.below hb1); replace BB := Lib.hid (below_step BB.out hb1); obtain ⟨pSa, cSa, rfl, hd⟩ := ndsO hrow; rw [Hna.out] at hd ⊢; have Sa := Lib.hid hd; clear hrow hd hb1 KFa)
          | (go_at_call 7; refine (KFb.out _ SV.out).mono ?_; rintro e w1 ⟨v1, rfl, hrow, hb1⟩; replace SQ := Lib.hid (SQ.out.below hb1); replace Sa := Lib.hid (Sa.out.below hb1); replace BB := Lib.hid (below_step BB.out hb1); obtain ⟨pSb, cSb, rfl, hd⟩ := ndsO hrow; rw [Hnb.out] at hd ⊢; have Sb := Lib.hid hd; clear hrow hd hb1 KFb)
          | (go_at_call 7; refine (KFc.out _ SQ.out).mono ?_; rintro e w1 ⟨v1, rfl, hrow, hb1⟩; replace Sa := Lib.hid (Sa.out.below hb1); replace Sb := Lib.hid (Sb.out.below hb1); replace BB := Lib.hid (below_step BB.out hb1); obtain ⟨pSc, cSc, rfl, hd⟩ := ndsO hrow; rw [Hnc.out] at hd ⊢; have Sc := Lib.hid hd; clear hrow hd hb1 KFc))
        go_upto_region 3 with (go_at_call 9; refine (KC1.out _ _ Sa.out).mono ?_; rintro e w1 ⟨v1, rfl, hrow, hb1⟩; replace Sa := Lib.hid (Sa.out.below hb1); replace Sb := Lib.hid (Sb.out.below hb1); replace Sc := Lib.hid (Sc.out.below hb1); replace BB := Lib.hid (below_step BB.out hb1); obtain ⟨pSw, cSw, rfl, hd⟩ := dfsO hrow; rw [Hn1.out] at hd ⊢; have Sw := Lib.hid hd; clear hrow hd hb1 KC1)
        go_upto_region 4 with (go_at_call 9; refine (KC2.out _ _ Sb.out).mono ?_; rintro e w1 ⟨v1, rfl, hrow, hb1⟩; replace Sa := Lib.hid (Sa.out.below hb1); replace Sb := Lib.hid (Sb.out.below hb1); replace Sc := Lib.hid (Sc.out.below hb1); replace Sw := Lib.hid (Sw.out.below hb1); replace BB := Lib.hid (below_step BB.out hb1); obtain ⟨pSi, cSi, rfl, hd⟩ := dfsO hrow; rw [Hn2.out] at hd ⊢; have Si := Lib.hid hd; clear hrow hd hb1 KC2)
        go_upto_region 5 with (go_at_call 8; refine (KD1.out _ _ _ Sa.out Sb.out).mono ?_; rintro e w1 ⟨v1, rfl, hrow, hb1⟩; replace Sa := Lib.hid (Sa.out.below hb1); replace Sb := Lib.hid (Sb.out.below hb1); replace Sc := Lib.hid (Sc.out.below hb1); replace Sw := Lib.hid (Sw.out.below hb1); replace Si := Lib.hid (Si.out.below hb1); replace BB := Lib.hid (below_step BB.out hb1); obtain ⟨pSd, cSd, rfl, hd⟩ := dfsO hrow; rw [Hn3.out] at hd ⊢; have Sd := Lib.hid hd; clear hrow hd hb1 KD1)
        go_upto_region 6 with (go_at_call 8; refine (KD2.out _ _ _ Sa.out Sc.out).mono ?_; rintro e w1 ⟨v1, rfl, hrow, hb1⟩; replace Sa := Lib.hid (Sa.out.below hb1); replace Sb := Lib.hid (Sb.out.below hb1); replace Sc := Lib.hid (Sc.out.below hb1); replace Sw := Lib.hid (Sw.out.below hb1); replace Si := Lib.hid (Si.out.below hb1); replace Sd := Lib.hid (Sd.out.below hb1); replace BB := Lib.hid (below_step BB.out hb1); obtain ⟨pSm, cSm, rfl, hd⟩ := dfsO hrow; rw [List.length_nil] at hd ⊢; have Sm := Lib.hid hd; clear hrow hd hb1 KD2)
        go_upto_region 7 with (go_at_call 8; refine (KD3.out _ _ _ Sc.out Sb.out).mono ?_; rintro e w1 ⟨v1, rfl, hrow, hb1⟩; replace Sa := Lib.hid (Sa.out.below hb1); replace Sb := Lib.hid (Sb.out.below hb1); replace Sc := Lib.hid (Sc.out.below hb1); replace Sw := Lib.hid (Sw.out.below hb1); replace Si := Lib.hid (Si.out.below hb1); replace Sd := Lib.hid (Sd.out.below hb1); replace Sm := Lib.hid (Sm.out.below hb1); replace BB := Lib.hid (below_step BB.out hb1); obtain ⟨pSn, cSn, rfl, hd⟩ := dfsO hrow; rw [Hn5.out] at hd ⊢; have Sn := Lib.hid hd; clear hrow hd hb1 KD3)
        go_wp2_with (first
          | (go_at_call 10; refine (KO.out _ _ Sa.out).mono ?_; rintro e w1 ⟨rfl, hb1⟩; replace Sb := Lib.hid (Sb.out.below hb1); replace Sc := Lib.hid (Sc.out.below hb1); replace BB := Lib.hid (below_step BB.out hb1); clear hb1 KO)
          | (go_at_call 10; refine (KN.out _ _ Sb.out).mono ?_; rintro e w1 ⟨rfl, hb1⟩; replace Sc := Lib.hid (Sc.out.below hb1); replace BB := Lib.hid (below_step BB.out hb1); clear hb1 KN)
          | (go_at_call 10; refine (KM.out _ _ Sc.out).mono ?_; rintro e w1 ⟨rfl, hb1⟩; replace BB := Lib.hid (below_step BB.out hb1); clear hb1 KM)
          | (go_at_call 13; refine (dawake_any _).mono ?_; rintro e w1 ⟨rfl, hb1⟩; replace BB := Lib.hid (below_step BB.out hb1); clear hb1))
        go_ret
        exact ⟨rfl, BB.out⟩
      · have ha := allN2_iff.1 ho
        have hb := allN2_iff.1 hp
        have hc := allN2_iff.1 hq
        rw [diffE_nil, ho, if_pos rfl] at kc1
        rw [diffE_nil, hp, if_pos rfl] at kc2
        rw [diffE_yes (by rw [ho, hp]; rfl)] at kd1
        rw [diffE_yes (by rw [ho, hq]; rfl)] at kd2
        rw [diffE_yes (by rw [hq, hp]; rfl)] at kd3
        rw [diffE_yes (by rw [hp, ho]; rfl)] at kd4
        have h0 : ∀ n ∈ ([] : List Nd), okN n = true := fun n hn => by cases hn
        have o1 : okD (difL [] a) = true := dif_okD (ok_app h0 ha) (by simp) (by rw [Hna.out]; omega)
        have o2 : okD (difL [] b) = true := dif_okD (ok_app h0 hb) (by simp) (by rw [Hnb.out]; omega)
        have o3 : okD (difL a b) = true := dif_okD (ok_app ha hb) (by rw [Hna.out]; omega) (by rw [Hnb.out]; omega)
        have o4 : okD (difL a c) = true := dif_okD (ok_app ha hc) (by rw [Hna.out]; omega) (by rw [Hnc.out]; omega)
        have o5 : okD (difL c b) = true := dif_okD (ok_app hc hb) (by rw [Hnc.out]; omega) (by rw [Hnb.out]; omega)
        have s1 : ∀ e ∈ difL [] a, smallD e := dif_small (ok_app h0 ha) (fun n hn => by cases hn) SMa.out (by simp) (by rw [Hna.out]; omega)
        have s3 : ∀ e ∈ difL a b, smallD e := dif_small (ok_app ha hb) SMa.out SMb.out (by rw [Hna.out]; omega) (by rw [Hnb.out]; omega)
        have s4 : ∀ e ∈ difL a c, smallD e := dif_small (ok_app ha hc) SMa.out SMc.out (by rw [Hna.out]; omega) (by rw [Hnc.out]; omega)
        have s5 : ∀ e ∈ difL c b, smallD e := dif_small (ok_app hc hb) SMc.out SMb.out (by rw [Hnc.out]; omega) (by rw [Hnb.out]; omega)
        have l1 := dif_len [] a
        have l3 := dif_len a b
        have l4 := dif_len a c
        have l5 := dif_len c b
        rw [List.length_nil, Hna.out] at l1
        rw [Hna.out, Hnb.out] at l3
        rw [Hna.out, Hnc.out] at l4
        rw [Hnc.out, Hnb.out] at l5
        have v1 : mergeD (difL [] a) (difL a b) = difL [] b := dif_via h0 hb ha (by simp) (by rw [Hnb.out]; omega) (by rw [Hna.out]; omega)
        have v2 : mergeD (difL a c) (difL c b) = difL a b := dif_via ha hb hc (by rw [Hna.out]; omega) (by rw [Hnb.out]; omega) (by rw [Hnc.out]; omega)
        have v3 := dif_turn ha hb
        have kb1 := fun U V w h h' => both_any U V (difL [] a) (difL a b) w h h' s1 s3 (by omega) (by omega)
        have kb2 := fun U V w h h' => both_any U V (difL a c) (difL c b) w h h' s4 s5 (by omega) (by omega)
        have kt := fun V w h => turn_any V (difL a b) w h s3 (by omega)
        have kk := fun V w h => dcheck_any V (difL a b) w h s3 (by omega)
        rw [bothE_yes (by rw [o1, o3]; rfl) (by rw [v1, o2]), v1] at kb1
        rw [bothE_yes (by rw [o4, o5]; rfl) (by rw [v2, o3]), v2] at kb2
        rw [turnE_yes o3, v3] at kt
        rw [chkD_yes o3] at kk
        have hlt := turn_len (difL a b)
        rw [v3] at hlt
        clear v1 v2 v3 o1 o2 o3 o4 o5 s1 s3 s4 s5 l1 l3 l4 l5 hlt h0
        obtain ⟨X1, hX1⟩ : ∃ X, difL [] a = X := ⟨_, rfl⟩
        rw [hX1] at kc1 kb1
        obtain ⟨n1, hn1⟩ : ∃ n, X1.length = n := ⟨_, rfl⟩
        have Hn1 := Lib.hid hn1
        clear hX1 hn1
        obtain ⟨X2, hX2⟩ : ∃ X, difL [] b = X := ⟨_, rfl⟩
        rw [hX2] at kc2 kb1
        obtain ⟨n2, hn2⟩ : ∃ n, X2.length = n := ⟨_, rfl⟩
        have Hn2 := Lib.hid hn2
        clear hX2 hn2
        obtain ⟨X3, hX3⟩ : ∃ X, difL a b = X := ⟨_, rfl⟩
        rw [hX3] at kd1 kb1 kb2 kt kk
        obtain ⟨n3, hn3⟩ : ∃ n, X3.length = n := ⟨_, rfl⟩
        have Hn3 := Lib.hid hn3
        clear hX3 hn3
        obtain ⟨X4, hX4⟩ : ∃ X, difL a c = X := ⟨_, rfl⟩
        rw [hX4] at kd2 kb2
        obtain ⟨n4, hn4⟩ : ∃ n, X4.length = n := ⟨_, rfl⟩
        have Hn4 := Lib.hid hn4
        clear hX4 hn4
        obtain ⟨X5, hX5⟩ : ∃ X, difL c b = X := ⟨_, rfl⟩
        rw [hX5] at kd3 kb2
        obtain ⟨n5, hn5⟩ : ∃ n, X5.length = n := ⟨_, rfl⟩
        have Hn5 := Lib.hid hn5
        clear hX5 hn5
        obtain ⟨X6, hX6⟩ : ∃ X, difL b a = X := ⟨_, rfl⟩
        rw [hX6] at kd4 kt
        obtain ⟨n6, hn6⟩ : ∃ n, X6.length = n := ⟨_, rfl⟩
        have Hn6 := Lib.hid hn6
        clear hX6 hn6
        have ks1 := fun U V w h h' => dsame_any U V X2 X2 w h h'
        have ks2 := fun U V w h h' => dsame_any U V X3 X3 w h h'
        have ks3 := fun U V w h h' => dsame_any U V X6 X6 w h h'
        rw [decide_eq_true rfl] at ks1 ks2 ks3
        have KC1 := Lib.hid kc1; have KC2 := Lib.hid kc2; have KD1 := Lib.hid kd1; have KD2 := Lib.hid kd2; have KD3 := Lib.hid kd3; have KO := Lib.hid ko; have KN := Lib.hid kn; have KM := Lib.hid km; have KD4 := Lib.hid kd4; have KB1 := Lib.hid kb1; have KB2 := Lib.hid kb2; have KT := Lib.hid kt; have KK := Lib.hid kk; have KS1 := Lib.hid ks1; have KS2 := Lib.hid ks2; have KS3 := Lib.hid ks3
        clear kc1 kc2 kd1 kd2 kd3 ko kn km kd4 kb1 kb2 kt kk ks1 ks2 ks3
        clear ho hp hq ha hb hc
        go_enter Tryz.func5, Tryz.ntmps5
        go_upto_region 2 with (first
          | (go_at_call 7; refine (KFa.out _ SU.out).mono ?_; rintro e w1 ⟨v1, rfl, hrow, hb1⟩; replace SU := Lib.hid (SU.out.below hb1); replace SV := Lib.hid (SV.out.below hb1); replace SQ := Lib.hid (SQ.out.below hb1); replace BB := Lib.hid (below_step BB.out hb1); obtain ⟨pSa, cSa, rfl, hd⟩ := ndsO hrow; rw [Hna.out] at hd ⊢; have Sa := Lib.hid hd; clear hrow hd hb1 KFa)
          | (go_at_call 7; refine (KFb.out _ SV.out).mono ?_; rintro e w1 ⟨v1, rfl, hrow, hb1⟩; replace SQ := Lib.hid (SQ.out.below hb1); replace Sa := Lib.hid (Sa.out.below hb1); replace BB := Lib.hid (below_step BB.out hb1); obtain ⟨pSb, cSb, rfl, hd⟩ := ndsO hrow; rw [Hnb.out] at hd ⊢; have Sb := Lib.hid hd; clear hrow hd hb1 KFb)
          | (go_at_call 7; refine (KFc.out _ SQ.out).mono ?_; rintro e w1 ⟨v1, rfl, hrow, hb1⟩; replace Sa := Lib.hid (Sa.out.below hb1); replace Sb := Lib.hid (Sb.out.below hb1); replace BB := Lib.hid (below_step BB.out hb1); obtain ⟨pSc, cSc, rfl, hd⟩ := ndsO hrow; rw [Hnc.out] at hd ⊢; have Sc := Lib.hid hd; clear hrow hd hb1 KFc))
        go_upto_region 3 with (go_at_call 9; refine (KC1.out _ _ Sa.out).mono ?_; rintro e w1 ⟨v1, rfl, hrow, hb1⟩; replace Sa := Lib.hid (Sa.out.below hb1); replace Sb := Lib.hid (Sb.out.below hb1); replace Sc := Lib.hid (Sc.out.below hb1); replace BB := Lib.hid (below_step BB.out hb1); obtain ⟨pSw, cSw, rfl, hd⟩ := dfsO hrow; rw [Hn1.out] at hd ⊢; have Sw := Lib.hid hd; clear hrow hd hb1 KC1)
        go_upto_region 4 with (go_at_call 9; refine (KC2.out _ _ Sb.out).mono ?_; rintro e w1 ⟨v1, rfl, hrow, hb1⟩; replace Sa := Lib.hid (Sa.out.below hb1); replace Sb := Lib.hid (Sb.out.below hb1); replace Sc := Lib.hid (Sc.out.below hb1); replace Sw := Lib.hid (Sw.out.below hb1); replace BB := Lib.hid (below_step BB.out hb1); obtain ⟨pSi, cSi, rfl, hd⟩ := dfsO hrow; rw [Hn2.out] at hd ⊢; have Si := Lib.hid hd; clear hrow hd hb1 KC2)
        go_upto_region 5 with (go_at_call 8; refine (KD1.out _ _ _ Sa.out Sb.out).mono ?_; rintro e w1 ⟨v1, rfl, hrow, hb1⟩; replace Sa := Lib.hid (Sa.out.below hb1); replace Sb := Lib.hid (Sb.out.below hb1); replace Sc := Lib.hid (Sc.out.below hb1); replace Sw := Lib.hid (Sw.out.below hb1); replace Si := Lib.hid (Si.out.below hb1); replace BB := Lib.hid (below_step BB.out hb1); obtain ⟨pSd, cSd, rfl, hd⟩ := dfsO hrow; rw [Hn3.out] at hd ⊢; have Sd := Lib.hid hd; clear hrow hd hb1 KD1)
        go_upto_region 6 with (go_at_call 8; refine (KD2.out _ _ _ Sa.out Sc.out).mono ?_; rintro e w1 ⟨v1, rfl, hrow, hb1⟩; replace Sa := Lib.hid (Sa.out.below hb1); replace Sb := Lib.hid (Sb.out.below hb1); replace Sc := Lib.hid (Sc.out.below hb1); replace Sw := Lib.hid (Sw.out.below hb1); replace Si := Lib.hid (Si.out.below hb1); replace Sd := Lib.hid (Sd.out.below hb1); replace BB := Lib.hid (below_step BB.out hb1); obtain ⟨pSm, cSm, rfl, hd⟩ := dfsO hrow; rw [Hn4.out] at hd ⊢; have Sm := Lib.hid hd; clear hrow hd hb1 KD2)
        go_upto_region 7 with (go_at_call 8; refine (KD3.out _ _ _ Sc.out Sb.out).mono ?_; rintro e w1 ⟨v1, rfl, hrow, hb1⟩; replace Sa := Lib.hid (Sa.out.below hb1); replace Sb := Lib.hid (Sb.out.below hb1); replace Sc := Lib.hid (Sc.out.below hb1); replace Sw := Lib.hid (Sw.out.below hb1); replace Si := Lib.hid (Si.out.below hb1); replace Sd := Lib.hid (Sd.out.below hb1); replace Sm := Lib.hid (Sm.out.below hb1); replace BB := Lib.hid (below_step BB.out hb1); obtain ⟨pSn, cSn, rfl, hd⟩ := dfsO hrow; rw [Hn5.out] at hd ⊢; have Sn := Lib.hid hd; clear hrow hd hb1 KD3)
        go_upto_region 10 with (go_at_call 15; refine (KB1.out _ _ _ Sw.out Sd.out).mono ?_; rintro e w1 ⟨v1, rfl, hrow, hb1⟩; replace Sa := Lib.hid (Sa.out.below hb1); replace Sb := Lib.hid (Sb.out.below hb1); replace Si := Lib.hid (Si.out.below hb1); replace Sd := Lib.hid (Sd.out.below hb1); replace Sm := Lib.hid (Sm.out.below hb1); replace Sn := Lib.hid (Sn.out.below hb1); replace BB := Lib.hid (below_step BB.out hb1); obtain ⟨pSx, cSx, rfl, hd⟩ := dfsO hrow; rw [Hn2.out] at hd ⊢; have Sx := Lib.hid hd; clear hrow hd hb1 KB1)
        go_upto_region 11 with (go_at_call 15; refine (KB2.out _ _ _ Sm.out Sn.out).mono ?_; rintro e w1 ⟨v1, rfl, hrow, hb1⟩; replace Sa := Lib.hid (Sa.out.below hb1); replace Sb := Lib.hid (Sb.out.below hb1); replace Si := Lib.hid (Si.out.below hb1); replace Sd := Lib.hid (Sd.out.below hb1); replace Sx := Lib.hid (Sx.out.below hb1); replace BB := Lib.hid (below_step BB.out hb1); obtain ⟨pSy, cSy, rfl, hd⟩ := dfsO hrow; rw [Hn3.out] at hd ⊢; have Sy := Lib.hid hd; clear hrow hd hb1 KB2)
        go_upto_region 12 with (go_at_call 16; refine (KT.out _ _ Sd.out).mono ?_; rintro e w1 ⟨v1, rfl, hrow, hb1⟩; replace Sa := Lib.hid (Sa.out.below hb1); replace Sb := Lib.hid (Sb.out.below hb1); replace Si := Lib.hid (Si.out.below hb1); replace Sd := Lib.hid (Sd.out.below hb1); replace Sx := Lib.hid (Sx.out.below hb1); replace Sy := Lib.hid (Sy.out.below hb1); replace BB := Lib.hid (below_step BB.out hb1); obtain ⟨pSt, cSt, rfl, hd⟩ := dfsO hrow; rw [Hn6.out] at hd ⊢; have St := Lib.hid hd; clear hrow hd hb1 KT)
        go_upto_region 13 with (go_at_call 8; refine (KD4.out _ _ _ Sb.out Sa.out).mono ?_; rintro e w1 ⟨v1, rfl, hrow, hb1⟩; replace Si := Lib.hid (Si.out.below hb1); replace Sd := Lib.hid (Sd.out.below hb1); replace Sx := Lib.hid (Sx.out.below hb1); replace Sy := Lib.hid (Sy.out.below hb1); replace St := Lib.hid (St.out.below hb1); replace BB := Lib.hid (below_step BB.out hb1); obtain ⟨pSk, cSk, rfl, hd⟩ := dfsO hrow; rw [Hn6.out] at hd ⊢; have Sk := Lib.hid hd; clear hrow hd hb1 KD4)
        go_wp2_with (first
          | (go_at_call 11; refine (KS1.out _ _ _ Sx.out Si.out).mono ?_; rintro e w1 ⟨rfl, hb1⟩; replace Sd := Lib.hid (Sd.out.below hb1); replace Sy := Lib.hid (Sy.out.below hb1); replace St := Lib.hid (St.out.below hb1); replace Sk := Lib.hid (Sk.out.below hb1); replace BB := Lib.hid (below_step BB.out hb1); clear hb1 KS1)
          | (go_at_call 11; refine (KS2.out _ _ _ Sy.out Sd.out).mono ?_; rintro e w1 ⟨rfl, hb1⟩; replace Sd := Lib.hid (Sd.out.below hb1); replace St := Lib.hid (St.out.below hb1); replace Sk := Lib.hid (Sk.out.below hb1); replace BB := Lib.hid (below_step BB.out hb1); clear hb1 KS2)
          | (go_at_call 11; refine (KS3.out _ _ _ St.out Sk.out).mono ?_; rintro e w1 ⟨rfl, hb1⟩; replace Sd := Lib.hid (Sd.out.below hb1); replace BB := Lib.hid (below_step BB.out hb1); clear hb1 KS3)
          | (go_at_call 17; refine (KK.out _ _ Sd.out).mono ?_; rintro e w1 ⟨rfl, hb1⟩; replace BB := Lib.hid (below_step BB.out hb1); clear hb1 KK)
          | (go_at_call 13; refine (dawake_any _).mono ?_; rintro e w1 ⟨rfl, hb1⟩; replace BB := Lib.hid (below_step BB.out hb1); clear hb1))
        go_ret
        exact ⟨rfl, BB.out⟩

theorem own : ownKnob Tryz.prog.godebug = none := by kernel_rfl
theorem laidOut : laidOutB Tryz.prog = true := by kernel_rfl

set_option maxRecDepth 100000 in
theorem lifted (os : Os) (started : os.Started) (H : Type) (enc : TypeId × Value → H) :
    ReturnsInHanded {} Tryz.checked os 5 .any (Rows.diffGoesSpec.pre6 enc Tryz.prog Tryz.f5 Rows.diffGoesRow.domain false) (Rows.diffGoesSpec.post enc Tryz.prog Tryz.f5 false true false false) := by
  refine returnsInHanded_of_change (C := Tryz.checked) own started (by kernel_rfl) Tryz.func5
    (ChangeSpec.witness6 (enc := enc) (C := Tryz.checked) false ⟨#[], #[.slice none 0 0, .slice none 0 0, .slice none 0 0], []⟩ 8 (by kernel_rfl) (by kernel_rfl) (by kernel_rfl) (by kernel_rfl)) ?_
  intro W base args ds gs before hval0 hW hcnd _
  have hval : ∀ (j : Nat) t v, Tryz.f5.params[j]? = some t → args[j]? = some v → Value.okWide Tryz.prog W .any base t v := hval0
  have hW' := hW
  obtain ⟨p, q, hA0, hV, rfl, hfz, hnd⟩ := hW
  have hA : DataW.TrodAll enc Tryz.prog W 0 (fun _ => true) true Tryz.f5.params.toList args.toList ds p := hA0
  rw [Tryz.params5] at hA hval
  obtain ⟨v0, vs0, d0, ds0, p0, q0, hargs, rfl, rfl, h0, r0⟩ := trodAll_cons hA
  obtain ⟨v1, vs1, d1, ds1, p1, q1, rfl, rfl, rfl, h1, r1⟩ := trodAll_cons r0
  obtain ⟨v2, vs2, d2, ds2, p2, q2, rfl, rfl, rfl, h2, r2⟩ := trodAll_cons r1
  obtain ⟨rfl, rfl, rfl⟩ := trodAll_nil r2
  obtain rfl : args = #[v0, v1, v2] := by cases args; simp_all
  obtain ⟨rfl, rfl⟩ := trodVars_none hV
  obtain ⟨a0, len0, cap0, rfl⟩ := okWide_slice Tryz.underlying22 (hval 0 22 v0 rfl rfl)
  have k0 := h0
  have lt0 : ∀ x ∈ p0, x.block < W.heap.size := by obtain ⟨m, hm⟩ := k0; exact DataW.trod_lt m _ _ _ hm
  obtain ⟨z0, w0⟩ : ∃ zs, Nds W (.slice a0 len0 cap0) zs ∧ ∀ n ∈ zs, fitsN n := by
    obtain ⟨fuel, hf⟩ := h0
    exact nds_open (by simpa [Value.cells] using hf)
  obtain ⟨a1, len1, cap1, rfl⟩ := okWide_slice Tryz.underlying22 (hval 1 22 v1 rfl rfl)
  have k1 := h1
  have lt1 : ∀ x ∈ p1, x.block < W.heap.size := by obtain ⟨m, hm⟩ := k1; exact DataW.trod_lt m _ _ _ hm
  obtain ⟨z1, w1⟩ : ∃ zs, Nds W (.slice a1 len1 cap1) zs ∧ ∀ n ∈ zs, fitsN n := by
    obtain ⟨fuel, hf⟩ := h1
    exact nds_open (by simpa [Value.cells] using hf)
  obtain ⟨a2, len2, cap2, rfl⟩ := okWide_slice Tryz.underlying22 (hval 2 22 v2 rfl rfl)
  have k2 := h2
  have lt2 : ∀ x ∈ p2, x.block < W.heap.size := by obtain ⟨m, hm⟩ := k2; exact DataW.trod_lt m _ _ _ hm
  obtain ⟨z2, w2⟩ : ∃ zs, Nds W (.slice a2 len2 cap2) zs ∧ ∀ n ∈ zs, fitsN n := by
    obtain ⟨fuel, hf⟩ := h2
    exact nds_open (by simpa [Value.cells] using hf)
  clear hA0 hval0
  refine (walk _ z0 _ z1 _ z2 W w0 w1 w2).mono fun e W' ⟨he, bel⟩ => ?_
  subst he
  exact ⟨_, rfl, _, _, _, [], _, [], hW', trodAll_mk1 (shut_bool Tryz.underlying4 _), (trodAll_cons_mk (Below.trod laidOut (by kernel_rfl) (of_decide_eq_true (by kernel_rfl)) k0 bel lt0) (trodAll_cons_mk (Below.trod laidOut (by kernel_rfl) (of_decide_eq_true (by kernel_rfl)) k1 bel lt1) (trodAll_cons_mk (Below.trod laidOut (by kernel_rfl) (of_decide_eq_true (by kernel_rfl)) k2 bel lt2) trodAll_mk0))), rfl, bel.frame _, fun h => by cases h⟩

-- the given statement
theorem proved : Rows.DiffGoesSaid :=
  OpenClaim.holds_of_wide 5 Tryz.f5 rfl rfl rfl rfl rfl rfl rfl ⟨rfl, rfl, rfl, rfl, rfl⟩ rfl rfl rfl rfl rfl (by kernel_rfl) Tryz.func5 (by kernel_rfl)
    (of_decide_eq_true (by kernel_rfl)) (by unfold Func.isWrapper; first | (rw [if_pos (by decide +kernel)]; kernel_rfl) | (rw [if_neg (by decide +kernel)]; exact ⟨rfl, rfl⟩))
    (fun os started H enc _ => lifted os started H enc)
end Go.Proofs.YtopcbmmnjmmoiaaGreat.diffGoes
