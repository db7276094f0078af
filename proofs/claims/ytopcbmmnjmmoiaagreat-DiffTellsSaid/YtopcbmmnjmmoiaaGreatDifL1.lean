/- Of every two lists of nodes (no more than are looked at): Count and Diff answer as the document says, or tell why not; no condition. -/
import Derived.Test.YtopcbmmnjmmoiaaGreatRows
import Derived.Test.YtopcbmmnjmmoiaaGreatDifU
import Derived.ProofKit
import Derived.OpenShut
import Derived.ShutString
import Derived.ChangeOld
namespace Go.Proofs.YtopcbmmnjmmoiaaGreat.diffTells
open Go.ChangeShapes Go.WideShapes Go.ChangeAt Go.RowKit
open Go.ChangeMaps (open_string shut_string)
set_option maxRecDepth 100000
set_option linter.unusedVariables false

theorem dif_small {old now : List Nd} (h : ∀ n ∈ old ++ now, okN n = true) (so : ∀ n ∈ old, smallN n) (sn : ∀ n ∈ now, smallN n) (lo : old.length ≤ 1000000) (ln : now.length ≤ 1000000) : ∀ e ∈ difL old now, smallD e := fun e he => by
  have o := dif_okD h lo ln
  have h1 := mkD_mem.1 (show e ∈ mkD _ _ from he)
  have h2 := inD_iff.1 (okD_in o e he)
  have hs : smallN e.1 := by
    rcases List.mem_append.1 ((setN_mem h e.1).1 h1.1) with k | k
    · exact so _ k
    · exact sn _ k
  exact ⟨hs, by unfold fitI; omega⟩
theorem ok_app {l m : List Nd} (h : ∀ n ∈ l, okN n = true) (k : ∀ n ∈ m, okN n = true) : ∀ n ∈ l ++ m, okN n = true := fun n hn => (List.mem_append.1 hn).elim (h n) (k n)
set_option maxHeartbeats 3200000 in
theorem walk (U : Value) (A : List Nd) (V : Value) (B : List Nd) (w : World) (hU0 : Nds w U A ∧ ∀ n ∈ A, fitsN n) (hV0 : Nds w V B ∧ ∀ n ∈ B, fitsN n) :
    Calls Tryz.prog 3 #[U, V] w fun e w' => e = .returned (.bool true) ∧ Below w.heap.size w w' := by
  obtain ⟨hU, fA⟩ := hU0
  have kfa := fun w h => nfewo_any U A w h fA
  have la := fewNs_len A
  have sa := fewNs_small A
  obtain ⟨pU, cU, rfl, -⟩ := hU.ex
  obtain ⟨mU, hmU⟩ : ∃ n, A.length = n := ⟨_, rfl⟩
  rw [hmU] at hU kfa ⊢
  obtain ⟨a, ha⟩ : ∃ l, fewNs A = l := ⟨_, rfl⟩
  rw [ha] at kfa la sa
  obtain ⟨na, hna⟩ : ∃ n, a.length = n := ⟨_, rfl⟩
  rw [hna] at la
  have SU := Lib.hid hU; have KFa := Lib.hid kfa; have Hna := Lib.hid hna; have SMa := Lib.hid sa
  clear hU fA kfa hmU ha hna sa
  obtain ⟨hV, fB⟩ := hV0
  have kfb := fun w h => nfewo_any V B w h fB
  have lb := fewNs_len B
  have sb := fewNs_small B
  obtain ⟨pV, cV, rfl, -⟩ := hV.ex
  obtain ⟨mV, hmV⟩ : ∃ n, B.length = n := ⟨_, rfl⟩
  rw [hmV] at hV kfb ⊢
  obtain ⟨b, hb⟩ : ∃ l, fewNs B = l := ⟨_, rfl⟩
  rw [hb] at kfb lb sb
  obtain ⟨nb, hnb⟩ : ∃ n, b.length = n := ⟨_, rfl⟩
  rw [hnb] at lb
  have SV := Lib.hid hV; have KFb := Lib.hid kfb; have Hnb := Lib.hid hnb; have SMb := Lib.hid sb
  clear hV fB kfb hmV hb hnb sb
  have kd := fun U V w h h' => diff_any U V a b w h h' SMa.out SMb.out (by rw [Hna.out]; omega) (by rw [Hnb.out]; omega)
  have kc := fun V w h => count_any V b w h SMb.out (by rw [Hnb.out]; omega)
  have ko := fun V w h => lall_any V a w h SMa.out
  have kn := fun V w h => lall_any V b w h SMb.out
  have BB := Lib.hid (Below.refl w.heap.size w)
  obtain ⟨o, ho⟩ : ∃ o, allN2 a = o := ⟨_, rfl⟩
  obtain ⟨p, hp⟩ : ∃ o, allN2 b = o := ⟨_, rfl⟩
  rw [ho] at ko; rw [hp] at kn
  cases p
  · rw [diffE_no (by rw [hp, Bool.and_false])] at kd
    rw [diffE_no (by rw [hp, Bool.and_false])] at kc
    have KD := Lib.hid kd; have KC := Lib.hid kc; have KN := Lib.hid kn; have KO := Lib.hid ko
    clear kd kc kn ko
    clear ho hp
    go_enter Tryz.func3, Tryz.ntmps3
    go_upto_region 2 with (first
      | (go_at_call 7; refine (KFa.out _ SU.out).mono ?_; rintro e w1 ⟨v1, rfl, hrow, hb1⟩; replace SU := Lib.hid (SU.out.below hb1); replace SV := Lib.hid (SV.out.below hb1); replace BB := Lib.hid (below_step BB.out hb1); obtain ⟨pSa, cSa, rfl, hd⟩ := ndsO hrow; rw [Hna.out] at hd ⊢; have Sa := Lib.hid hd; clear hrow hd hb1 KFa)
      | (go_at_call 7; refine (KFb.out _ SV.out).mono ?_; rintro e w1 ⟨v1, rfl, hrow, hb1⟩; replace Sa := Lib.hid (Sa.out.below hb1); replace BB := Lib.hid (below_step BB.out hb1); obtain ⟨pSb, cSb, rfl, hd⟩ := ndsO hrow; rw [Hnb.out] at hd ⊢; have Sb := Lib.hid hd; clear hrow hd hb1 KFb))
    go_upto_region 3 with (go_at_call 8; refine (KD.out _ _ _ Sa.out Sb.out).mono ?_; rintro e w1 ⟨v1, rfl, hrow, hb1⟩; replace Sa := Lib.hid (Sa.out.below hb1); replace Sb := Lib.hid (Sb.out.below hb1); replace BB := Lib.hid (below_step BB.out hb1); obtain ⟨pSd, cSd, rfl, hd⟩ := dfsO hrow; rw [List.length_nil] at hd ⊢; have Sd := Lib.hid hd; clear hrow hd hb1 KD)
    go_upto_region 4 with (go_at_call 9; refine (KC.out _ _ Sb.out).mono ?_; rintro e w1 ⟨v1, rfl, hrow, hb1⟩; replace Sa := Lib.hid (Sa.out.below hb1); replace Sb := Lib.hid (Sb.out.below hb1); replace Sd := Lib.hid (Sd.out.below hb1); replace BB := Lib.hid (below_step BB.out hb1); obtain ⟨pSc, cSc, rfl, hd⟩ := dfsO hrow; rw [List.length_nil] at hd ⊢; have Sc := Lib.hid hd; clear hrow hd hb1 KC)
    go_upto_region 6 with (go_at_call 10; refine (KN.out _ _ Sb.out).mono ?_; rintro e w1 ⟨rfl, hb1⟩; replace Sa := Lib.hid (Sa.out.below hb1); replace Sb := Lib.hid (Sb.out.below hb1); replace Sd := Lib.hid (Sd.out.below hb1); replace Sc := Lib.hid (Sc.out.below hb1); replace BB := Lib.hid (below_step BB.out hb1); clear hb1 )
    cases o
    all_goals
      go_wp2_with (first
        | (go_at_call 10; refine (KO.out _ _ Sa.out).mono ?_; rintro e w1 ⟨rfl, hb1⟩; replace Sb := Lib.hid (Sb.out.below hb1); replace Sd := Lib.hid (Sd.out.below hb1); replace BB := Lib.hid (below_step BB.out hb1); clear hb1 KO)
        | (go_at_call 10; refine (KN.out _ _ Sb.out).mono ?_; rintro e w1 ⟨rfl, hb1⟩; replace Sd := Lib.hid (Sd.out.below hb1); replace BB := Lib.hid (below_step BB.out hb1); clear hb1 KN)
        | (go_at_call 13; refine (dawake_any _).mono ?_; rintro e w1 ⟨rfl, hb1⟩; replace BB := Lib.hid (below_step BB.out hb1); clear hb1))
      go_ret
      exact ⟨rfl, BB.out⟩
  · have hb := allN2_iff.1 hp
    rw [diffE_yes (by rw [hp]; rfl)] at kc
    have krc := fun V w h => refdiff_any (.slice none 0 0) V [] b w (nds_none w) h (fun n hn => by cases hn) SMb.out (by simpa using hb) (by simp) (by rw [Hnb.out]; omega)
    obtain ⟨X, hX⟩ : ∃ X, difL [] b = X := ⟨_, rfl⟩
    rw [hX] at kc krc
    obtain ⟨nx, hnx⟩ : ∃ n, X.length = n := ⟨_, rfl⟩
    have Hnx := Lib.hid hnx
    clear hX hnx
    have ks := fun U V w h h' => dsame_any U V X X w h h'
    rw [decide_eq_true rfl] at ks
    cases o
    · rw [diffE_no (by rw [ho]; rfl)] at kd
      have KD := Lib.hid kd; have KC := Lib.hid kc; have KN := Lib.hid kn; have KO := Lib.hid ko; have KRC := Lib.hid krc; have KS := Lib.hid ks
      clear kd kc kn ko krc ks
      clear ho hp hb
      go_enter Tryz.func3, Tryz.ntmps3
      go_upto_region 2 with (first
        | (go_at_call 7; refine (KFa.out _ SU.out).mono ?_; rintro e w1 ⟨v1, rfl, hrow, hb1⟩; replace SU := Lib.hid (SU.out.below hb1); replace SV := Lib.hid (SV.out.below hb1); replace BB := Lib.hid (below_step BB.out hb1); obtain ⟨pSa, cSa, rfl, hd⟩ := ndsO hrow; rw [Hna.out] at hd ⊢; have Sa := Lib.hid hd; clear hrow hd hb1 KFa)
        | (go_at_call 7; refine (KFb.out _ SV.out).mono ?_; rintro e w1 ⟨v1, rfl, hrow, hb1⟩; replace Sa := Lib.hid (Sa.out.below hb1); replace BB := Lib.hid (below_step BB.out hb1); obtain ⟨pSb, cSb, rfl, hd⟩ := ndsO hrow; rw [Hnb.out] at hd ⊢; have Sb := Lib.hid hd; clear hrow hd hb1 KFb))
      go_upto_region 3 with (go_at_call 8; refine (KD.out _ _ _ Sa.out Sb.out).mono ?_; rintro e w1 ⟨v1, rfl, hrow, hb1⟩; replace Sa := Lib.hid (Sa.out.below hb1); replace Sb := Lib.hid (Sb.out.below hb1); replace BB := Lib.hid (below_step BB.out hb1); obtain ⟨pSd, cSd, rfl, hd⟩ := dfsO hrow; rw [List.length_nil] at hd ⊢; have Sd := Lib.hid hd; clear hrow hd hb1 KD)
      go_upto_region 4 with (go_at_call 9; refine (KC.out _ _ Sb.out).mono ?_; rintro e w1 ⟨v1, rfl, hrow, hb1⟩; replace Sa := Lib.hid (Sa.out.below hb1); replace Sb := Lib.hid (Sb.out.below hb1); replace Sd := Lib.hid (Sd.out.below hb1); replace BB := Lib.hid (below_step BB.out hb1); obtain ⟨pSc, cSc, rfl, hd⟩ := dfsO hrow; rw [Hnx.out] at hd ⊢; have Sc := Lib.hid hd; clear hrow hd hb1 KC)
      go_upto_region 6 with (first
        | (go_at_call 10; refine (KN.out _ _ Sb.out).mono ?_; rintro e w1 ⟨rfl, hb1⟩; replace Sa := Lib.hid (Sa.out.below hb1); replace Sb := Lib.hid (Sb.out.below hb1); replace Sd := Lib.hid (Sd.out.below hb1); replace Sc := Lib.hid (Sc.out.below hb1); replace BB := Lib.hid (below_step BB.out hb1); clear hb1 )
        | (go_at_call 12; refine (KRC.out _ _ Sb.out).mono ?_; rintro e w1 ⟨v1, rfl, hrow, hb1⟩; replace Sa := Lib.hid (Sa.out.below hb1); replace Sb := Lib.hid (Sb.out.below hb1); replace Sd := Lib.hid (Sd.out.below hb1); replace Sc := Lib.hid (Sc.out.below hb1); replace BB := Lib.hid (below_step BB.out hb1); obtain ⟨pSr, cSr, rfl, hd⟩ := dfsO hrow; rw [Hnx.out] at hd ⊢; have Sr := Lib.hid hd; clear hrow hd hb1 KRC)
        | (go_at_call 11; refine (KS.out _ _ _ Sc.out Sr.out).mono ?_; rintro e w1 ⟨rfl, hb1⟩; replace Sa := Lib.hid (Sa.out.below hb1); replace Sb := Lib.hid (Sb.out.below hb1); replace Sd := Lib.hid (Sd.out.below hb1); replace Sc := Lib.hid (Sc.out.below hb1); replace BB := Lib.hid (below_step BB.out hb1); clear hb1 KS))
      go_wp2_with (first
        | (go_at_call 10; refine (KO.out _ _ Sa.out).mono ?_; rintro e w1 ⟨rfl, hb1⟩; replace Sb := Lib.hid (Sb.out.below hb1); replace Sd := Lib.hid (Sd.out.below hb1); replace BB := Lib.hid (below_step BB.out hb1); clear hb1 KO)
        | (go_at_call 13; refine (dawake_any _).mono ?_; rintro e w1 ⟨rfl, hb1⟩; replace BB := Lib.hid (below_step BB.out hb1); clear hb1))
      go_ret
      exact ⟨rfl, BB.out⟩
    · have ha := allN2_iff.1 ho
      rw [diffE_yes (by rw [ho, hp]; rfl)] at kd
      have krd := fun U V w h h' => refdiff_any U V a b w h h' SMa.out SMb.out (ok_app ha hb) (by rw [Hna.out]; omega) (by rw [Hnb.out]; omega)
      obtain ⟨Y, hY⟩ : ∃ X, difL a b = X := ⟨_, rfl⟩
      rw [hY] at kd krd
      obtain ⟨ny, hny⟩ : ∃ n, Y.length = n := ⟨_, rfl⟩
      have Hny := Lib.hid hny
      clear hY hny
      have kt := fun U V w h h' => dsame_any U V Y Y w h h'
      rw [decide_eq_true rfl] at kt
      have KD := Lib.hid kd; have KC := Lib.hid kc; have KN := Lib.hid kn; have KO := Lib.hid ko; have KRC := Lib.hid krc; have KS := Lib.hid ks; have KRD := Lib.hid krd; have KT := Lib.hid kt
      clear kd kc kn ko krc ks krd kt
      clear ho hp hb ha
      go_enter Tryz.func3, Tryz.ntmps3
      go_upto_region 2 with (first
        | (go_at_call 7; refine (KFa.out _ SU.out).mono ?_; rintro e w1 ⟨v1, rfl, hrow, hb1⟩; replace SU := Lib.hid (SU.out.below hb1); replace SV := Lib.hid (SV.out.below hb1); replace BB := Lib.hid (below_step BB.out hb1); obtain ⟨pSa, cSa, rfl, hd⟩ := ndsO hrow; rw [Hna.out] at hd ⊢; have Sa := Lib.hid hd; clear hrow hd hb1 KFa)
        | (go_at_call 7; refine (KFb.out _ SV.out).mono ?_; rintro e w1 ⟨v1, rfl, hrow, hb1⟩; replace Sa := Lib.hid (Sa.out.below hb1); replace BB := Lib.hid (below_step BB.out hb1); obtain ⟨pSb, cSb, rfl, hd⟩ := ndsO hrow; rw [Hnb.out] at hd ⊢; have Sb := Lib.hid hd; clear hrow hd hb1 KFb))
      go_upto_region 3 with (go_at_call 8; refine (KD.out _ _ _ Sa.out Sb.out).mono ?_; rintro e w1 ⟨v1, rfl, hrow, hb1⟩; replace Sa := Lib.hid (Sa.out.below hb1); replace Sb := Lib.hid (Sb.out.below hb1); replace BB := Lib.hid (below_step BB.out hb1); obtain ⟨pSd, cSd, rfl, hd⟩ := dfsO hrow; rw [Hny.out] at hd ⊢; have Sd := Lib.hid hd; clear hrow hd hb1 KD)
      go_upto_region 4 with (go_at_call 9; refine (KC.out _ _ Sb.out).mono ?_; rintro e w1 ⟨v1, rfl, hrow, hb1⟩; replace Sa := Lib.hid (Sa.out.below hb1); replace Sb := Lib.hid (Sb.out.below hb1); replace Sd := Lib.hid (Sd.out.below hb1); replace BB := Lib.hid (below_step BB.out hb1); obtain ⟨pSc, cSc, rfl, hd⟩ := dfsO hrow; rw [Hnx.out] at hd ⊢; have Sc := Lib.hid hd; clear hrow hd hb1 KC)
      go_upto_region 6 with (first
        | (go_at_call 10; refine (KN.out _ _ Sb.out).mono ?_; rintro e w1 ⟨rfl, hb1⟩; replace Sa := Lib.hid (Sa.out.below hb1); replace Sb := Lib.hid (Sb.out.below hb1); replace Sd := Lib.hid (Sd.out.below hb1); replace Sc := Lib.hid (Sc.out.below hb1); replace BB := Lib.hid (below_step BB.out hb1); clear hb1 )
        | (go_at_call 12; refine (KRC.out _ _ Sb.out).mono ?_; rintro e w1 ⟨v1, rfl, hrow, hb1⟩; replace Sa := Lib.hid (Sa.out.below hb1); replace Sb := Lib.hid (Sb.out.below hb1); replace Sd := Lib.hid (Sd.out.below hb1); replace Sc := Lib.hid (Sc.out.below hb1); replace BB := Lib.hid (below_step BB.out hb1); obtain ⟨pSr, cSr, rfl, hd⟩ := dfsO hrow; rw [Hnx.out] at hd ⊢; have Sr := Lib.hid hd; clear hrow hd hb1 KRC)
        | (go_at_call 11; refine (KS.out _ _ _ Sc.out Sr.out).mono ?_; rintro e w1 ⟨rfl, hb1⟩; replace Sa := Lib.hid (Sa.out.below hb1); replace Sb := Lib.hid (Sb.out.below hb1); replace Sd := Lib.hid (Sd.out.below hb1); replace Sc := Lib.hid (Sc.out.below hb1); replace BB := Lib.hid (below_step BB.out hb1); clear hb1 KS))
      go_upto_region 8 with (first
        | (go_at_call 10; refine (KO.out _ _ Sa.out).mono ?_; rintro e w1 ⟨rfl, hb1⟩; replace Sa := Lib.hid (Sa.out.below hb1); replace Sb := Lib.hid (Sb.out.below hb1); replace Sd := Lib.hid (Sd.out.below hb1); replace BB := Lib.hid (below_step BB.out hb1); clear hb1 KO)
        | (go_at_call 10; refine (KN.out _ _ Sb.out).mono ?_; rintro e w1 ⟨rfl, hb1⟩; replace Sa := Lib.hid (Sa.out.below hb1); replace Sb := Lib.hid (Sb.out.below hb1); replace Sd := Lib.hid (Sd.out.below hb1); replace BB := Lib.hid (below_step BB.out hb1); clear hb1 KN))
      go_wp2_with (first
        | (go_at_call 12; refine (KRD.out _ _ _ Sa.out Sb.out).mono ?_; rintro e w1 ⟨v1, rfl, hrow, hb1⟩; replace Sd := Lib.hid (Sd.out.below hb1); replace BB := Lib.hid (below_step BB.out hb1); obtain ⟨pSq, cSq, rfl, hd⟩ := dfsO hrow; rw [Hny.out] at hd ⊢; have Sq := Lib.hid hd; clear hrow hd hb1 KRD)
        | (go_at_call 11; refine (KT.out _ _ _ Sd.out Sq.out).mono ?_; rintro e w1 ⟨rfl, hb1⟩; replace BB := Lib.hid (below_step BB.out hb1); clear hb1 KT)
        | (go_at_call 13; refine (dawake_any _).mono ?_; rintro e w1 ⟨rfl, hb1⟩; replace BB := Lib.hid (below_step BB.out hb1); clear hb1))
      go_ret
      exact ⟨rfl, BB.out⟩

theorem own : ownKnob Tryz.prog.godebug = none := by kernel_rfl
theorem laidOut : laidOutB Tryz.prog = true := by kernel_rfl

set_option maxRecDepth 100000 in
theorem lifted (os : Os) (started : os.Started) (H : Type) (enc : TypeId × Value → H) :
    ReturnsInHanded {} Tryz.checked os 3 .any (Rows.diffTellsSpec.pre6 enc Tryz.prog Tryz.f3 Rows.diffTellsRow.domain false) (Rows.diffTellsSpec.post enc Tryz.prog Tryz.f3 false true false false) := by
  refine returnsInHanded_of_change (C := Tryz.checked) own started (by kernel_rfl) Tryz.func3
    (ChangeSpec.witness6 (enc := enc) (C := Tryz.checked) false ⟨#[], #[.slice none 0 0, .slice none 0 0], []⟩ 8 (by kernel_rfl) (by kernel_rfl) (by kernel_rfl) (by kernel_rfl)) ?_
  intro W base args ds gs before hval0 hW hcnd _
  have hval : ∀ (j : Nat) t v, Tryz.f3.params[j]? = some t → args[j]? = some v → Value.okWide Tryz.prog W .any base t v := hval0
  have hW' := hW
  obtain ⟨p, q, hA0, hV, rfl, hfz, hnd⟩ := hW
  have hA : DataW.TrodAll enc Tryz.prog W 0 (fun _ => true) true Tryz.f3.params.toList args.toList ds p := hA0
  rw [Tryz.params3] at hA hval
  obtain ⟨v0, vs0, d0, ds0, p0, q0, hargs, rfl, rfl, h0, r0⟩ := trodAll_cons hA
  obtain ⟨v1, vs1, d1, ds1, p1, q1, rfl, rfl, rfl, h1, r1⟩ := trodAll_cons r0
  obtain ⟨rfl, rfl, rfl⟩ := trodAll_nil r1
  obtain rfl : args = #[v0, v1] := by cases args; simp_all
  obtain ⟨rfl, rfl⟩ := trodVars_none hV
  obtain ⟨a0, len0, cap0, rfl⟩ := okWide_slice Tryz.underlying22 (hval 0 22 v0 rfl rfl)
  have k0 := h0
  have lt0 : ∀ x ∈ p0, x.block < W.heap.size := by obtain ⟨m, hm⟩ := k0; exact DataW.trod_lt m _ _ _ hm
  obtain ⟨z0, w0⟩ : ∃ zs, Nds W (.slice a0 len0 cap0) zs ∧ ∀ n ∈ zs, fitsN n := by
    obtain ⟨fuel, hf⟩ := h0
    exact nds_open (by simpa [Value.cells] using hf)
  obtain ⟨a1, len1, cap1, rfl⟩ := okWide_slice Tryz.underlying22 (hval 1 22 v1 rfl rfl)
  have k1 := h1
  have lt1 : ∀ x ∈ p1, x.block < W.heap.size := by obtain ⟨m, hm⟩ := k1; exact DataW.trod_lt m _ _ _ hm
  obtain ⟨z1, w1⟩ : ∃ zs, Nds W (.slice a1 len1 cap1) zs ∧ ∀ n ∈ zs, fitsN n := by
    obtain ⟨fuel, hf⟩ := h1
    exact nds_open (by simpa [Value.cells] using hf)
  clear hA0 hval0
  refine (walk _ z0 _ z1 W w0 w1).mono fun e W' ⟨he, bel⟩ => ?_
  subst he
  exact ⟨_, rfl, _, _, _, [], _, [], hW', trodAll_mk1 (shut_bool Tryz.underlying4 _), (trodAll_cons_mk (Below.trod laidOut (by kernel_rfl) (of_decide_eq_true (by kernel_rfl)) k0 bel lt0) (trodAll_cons_mk (Below.trod laidOut (by kernel_rfl) (of_decide_eq_true (by kernel_rfl)) k1 bel lt1) trodAll_mk0)), rfl, bel.frame _, fun h => by cases h⟩

-- the given statement
theorem proved : Rows.DiffTellsSaid :=
  OpenClaim.holds_of_wide 3 Tryz.f3 rfl rfl rfl rfl rfl rfl rfl ⟨rfl, rfl, rfl, rfl, rfl⟩ rfl rfl rfl rfl rfl (by kernel_rfl) Tryz.func3 (by kernel_rfl)
    (of_decide_eq_true (by kernel_rfl)) (by unfold Func.isWrapper; first | (rw [if_pos (by decide +kernel)]; kernel_rfl) | (rw [if_neg (by decide +kernel)]; exact ⟨rfl, rfl⟩))
    (fun os started H enc _ => lifted os started H enc)
end Go.Proofs.YtopcbmmnjmmoiaaGreat.diffTells
