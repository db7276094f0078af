/- Of every two lists of edits (no more than are looked at): taken together in whatever order they are the same; turned about twice they are as they were; with the ones turned about nothing is left; no condition. -/
import Derived.Test.YtopcbmmnjmmoiaaRows
import Derived.Test.YtopcbmmnjmmoiaaDifQ
import Derived.ProofKit
import Derived.OpenShut
import Derived.ShutString
import Derived.ChangeOld
namespace Go.Proofs.Ytopcbmmnjmmoiaa.diffBoth
open Go.ChangeShapes Go.WideShapes Go.ChangeAt Go.RowKit
open Go.ChangeMaps (open_string shut_string)
set_option maxRecDepth 100000
set_option linter.unusedVariables false

set_option maxHeartbeats 3200000 in
theorem walk (U : Value) (A : List De) (V : Value) (B : List De) (w : World) (hU0 : Dfs w U A ∧ ∀ e ∈ A, fitD e) (hV0 : Dfs w V B ∧ ∀ e ∈ B, fitD e) :
    Calls Try.prog 4 #[U, V] w fun e w' => e = .returned (.bool true) ∧ Below w.heap.size w w' := by
  obtain ⟨hU, fA⟩ := hU0
  have kfa := fun w h => dfewo_any U A w h fA
  have la := fewDs_len A
  have sa := fewDs_small fA
  obtain ⟨pU, cU, rfl, -⟩ := hU.ex
  obtain ⟨mU, hmU⟩ : ∃ n, A.length = n := ⟨_, rfl⟩
  rw [hmU] at hU kfa ⊢
  obtain ⟨a, ha⟩ : ∃ l, fewDs A = l := ⟨_, rfl⟩
  rw [ha] at kfa la sa
  obtain ⟨na, hna⟩ : ∃ n, a.length = n := ⟨_, rfl⟩
  rw [hna] at la
  have SU := Lib.hid hU; have KFa := Lib.hid kfa; have Hna := Lib.hid hna; have SMa := Lib.hid sa
  clear hU fA kfa hmU ha hna sa
  obtain ⟨hV, fB⟩ := hV0
  have kfb := fun w h => dfewo_any V B w h fB
  have lb := fewDs_len B
  have sb := fewDs_small fB
  obtain ⟨pV, cV, rfl, -⟩ := hV.ex
  obtain ⟨mV, hmV⟩ : ∃ n, B.length = n := ⟨_, rfl⟩
  rw [hmV] at hV kfb ⊢
  obtain ⟨b, hb⟩ : ∃ l, fewDs B = l := ⟨_, rfl⟩
  rw [hb] at kfb lb sb
  obtain ⟨nb, hnb⟩ : ∃ n, b.length = n := ⟨_, rfl⟩
  rw [hnb] at lb
  have SV := Lib.hid hV; have KFb := Lib.hid kfb; have Hnb := Lib.hid hnb; have SMb := Lib.hid sb
  clear hV fB kfb hmV hb hnb sb
  have kb1 := fun U V w h h' => both_any U V a b w h h' SMa.out SMb.out (by rw [Hna.out]; omega) (by rw [Hnb.out]; omega)
  have kb2 := fun U V w h h' => both_any U V b a w h h' SMb.out SMa.out (by rw [Hnb.out]; omega) (by rw [Hna.out]; omega)
  have kt1 := fun U w h => turn_any U a w h SMa.out (by rw [Hna.out]; omega)
  rw [bothE_comm b a] at kb2
  obtain ⟨R, hR⟩ : ∃ R, bothE a b = R := ⟨_, rfl⟩
  rw [hR] at kb1 kb2
  obtain ⟨X, E⟩ := R
  simp only at kb1 kb2
  have ks1 := fun U V w h h' => dsame_any U V X X w h h'
  rw [decide_eq_true rfl] at ks1
  obtain ⟨nx, hnx⟩ : ∃ n, X.length = n := ⟨_, rfl⟩
  have Hnx := Lib.hid hnx; have KS1 := Lib.hid ks1
  have BB := Lib.hid (Below.refl w.heap.size w)
  have hee : (E != E) = false := by simp
  clear hnx ks1
  obtain ⟨o, ho⟩ : ∃ o, okD a = o := ⟨_, rfl⟩
  cases o
  · rw [bothE_no (by rw [ho]; rfl)] at hR
    obtain ⟨rfl, rfl⟩ := Prod.mk.inj hR
    rw [turnE_no ho] at kt1
    have KB1 := Lib.hid kb1; have KB2 := Lib.hid kb2; have KT1 := Lib.hid kt1
    clear kb1 kb2 kt1 hR ho hee
    go_enter Try.func4, Try.ntmps4
    go_upto_region 2 with (first
      | (go_at_call 10; refine (KFa.out _ SU.out).mono ?_; rintro e w1 ⟨v1, rfl, hrow, hb1⟩; replace SU := Lib.hid (SU.out.below hb1); replace SV := Lib.hid (SV.out.below hb1); replace BB := Lib.hid (below_step BB.out hb1); obtain ⟨pSa, cSa, rfl, hd⟩ := dfsO hrow; rw [Hna.out] at hd ⊢; have Sa := Lib.hid hd; clear hrow hd hb1 KFa)
      | (go_at_call 10; refine (KFb.out _ SV.out).mono ?_; rintro e w1 ⟨v1, rfl, hrow, hb1⟩; replace Sa := Lib.hid (Sa.out.below hb1); replace BB := Lib.hid (below_step BB.out hb1); obtain ⟨pSb, cSb, rfl, hd⟩ := dfsO hrow; rw [Hnb.out] at hd ⊢; have Sb := Lib.hid hd; clear hrow hd hb1 KFb))
    go_upto_region 3 with (go_at_call 11; refine (KB1.out _ _ _ Sa.out Sb.out).mono ?_; rintro e w1 ⟨v1, rfl, hrow, hb1⟩; replace Sa := Lib.hid (Sa.out.below hb1); replace Sb := Lib.hid (Sb.out.below hb1); replace BB := Lib.hid (below_step BB.out hb1); obtain ⟨pSx, cSx, rfl, hd⟩ := dfsO hrow; rw [Hnx.out] at hd ⊢; have Sx := Lib.hid hd; clear hrow hd hb1 KB1)
    go_upto_region 4 with (go_at_call 11; refine (KB2.out _ _ _ Sb.out Sa.out).mono ?_; rintro e w1 ⟨v1, rfl, hrow, hb1⟩; replace Sa := Lib.hid (Sa.out.below hb1); replace Sb := Lib.hid (Sb.out.below hb1); replace Sx := Lib.hid (Sx.out.below hb1); replace BB := Lib.hid (below_step BB.out hb1); obtain ⟨pSy, cSy, rfl, hd⟩ := dfsO hrow; rw [Hnx.out] at hd ⊢; have Sy := Lib.hid hd; clear hrow hd hb1 KB2)
    go_upto_region 5 with (go_at_call 12; refine (KT1.out _ _ Sa.out).mono ?_; rintro e w1 ⟨v1, rfl, hrow, hb1⟩; replace Sa := Lib.hid (Sa.out.below hb1); replace Sb := Lib.hid (Sb.out.below hb1); replace Sx := Lib.hid (Sx.out.below hb1); replace Sy := Lib.hid (Sy.out.below hb1); replace BB := Lib.hid (below_step BB.out hb1); obtain ⟨pSt, cSt, rfl, hd⟩ := dfsO hrow; rw [List.length_nil] at hd ⊢; have St := Lib.hid hd; clear hrow hd hb1 KT1)
    go_wp2_with (first
      | (go_at_call 9; refine (KS1.out _ _ _ Sx.out Sy.out).mono ?_; rintro e w1 ⟨rfl, hb1⟩; replace BB := Lib.hid (below_step BB.out hb1); clear hb1 KS1)
      | (go_at_call 7; refine (dawake_any _).mono ?_; rintro e w1 ⟨rfl, hb1⟩; replace BB := Lib.hid (below_step BB.out hb1); clear hb1))
    go_ret
    exact ⟨rfl, BB.out⟩
  · rw [turnE_yes ho] at kt1
    have hto := turn_ok ho
    have kt2 := fun U w h => turn_any U (turnD a) w h (turn_small SMa.out ho) (by rw [turn_len, Hna.out]; omega)
    rw [turnE_yes hto, turn_turn] at kt2
    have kb3 := fun U V w h h' => both_any U V a (turnD a) w h h' SMa.out (turn_small SMa.out ho) (by rw [Hna.out]; omega) (by rw [turn_len, Hna.out]; omega)
    rw [bothE_yes (by rw [ho, hto]; rfl) (by rw [merge_turn ho]; rfl), merge_turn ho] at kb3
    have ks2 := fun U V w h h' => dsame_any U V a a w h h'
    rw [decide_eq_true rfl] at ks2
    have hnt := turn_len a
    rw [Hna.out] at hnt
    obtain ⟨t, ht⟩ : ∃ t, turnD a = t := ⟨_, rfl⟩
    rw [ht] at kt1 kt2 kb3 hnt
    have KB1 := Lib.hid kb1; have KB2 := Lib.hid kb2; have KB3 := Lib.hid kb3; have KT1 := Lib.hid kt1; have KT2 := Lib.hid kt2; have KS2 := Lib.hid ks2; have Hnt := Lib.hid hnt
    clear kb1 kb2 kb3 kt1 kt2 ks2 hR ho hto ht hnt
    go_enter Try.func4, Try.ntmps4
    go_upto_region 2 with (first
      | (go_at_call 10; refine (KFa.out _ SU.out).mono ?_; rintro e w1 ⟨v1, rfl, hrow, hb1⟩; replace SU := Lib.hid (SU.out.below hb1); replace SV := Lib.hid (SV.out.below hb1); replace BB := Lib.hid (below_step BB.out hb1); obtain ⟨pSa, cSa, rfl, hd⟩ := dfsO hrow; rw [Hna.out] at hd ⊢; have Sa := Lib.hid hd; clear hrow hd hb1 KFa)
      | (go_at_call 10; refine (KFb.out _ SV.out).mono ?_; rintro e w1 ⟨v1, rfl, hrow, hb1⟩; replace Sa := Lib.hid (Sa.out.below hb1); replace BB := Lib.hid (below_step BB.out hb1); obtain ⟨pSb, cSb, rfl, hd⟩ := dfsO hrow; rw [Hnb.out] at hd ⊢; have Sb := Lib.hid hd; clear hrow hd hb1 KFb))
    go_upto_region 3 with (go_at_call 11; refine (KB1.out _ _ _ Sa.out Sb.out).mono ?_; rintro e w1 ⟨v1, rfl, hrow, hb1⟩; replace Sa := Lib.hid (Sa.out.below hb1); replace Sb := Lib.hid (Sb.out.below hb1); replace BB := Lib.hid (below_step BB.out hb1); obtain ⟨pSx, cSx, rfl, hd⟩ := dfsO hrow; rw [Hnx.out] at hd ⊢; have Sx := Lib.hid hd; clear hrow hd hb1 KB1)
    go_upto_region 4 with (go_at_call 11; refine (KB2.out _ _ _ Sb.out Sa.out).mono ?_; rintro e w1 ⟨v1, rfl, hrow, hb1⟩; replace Sa := Lib.hid (Sa.out.below hb1); replace Sb := Lib.hid (Sb.out.below hb1); replace Sx := Lib.hid (Sx.out.below hb1); replace BB := Lib.hid (below_step BB.out hb1); obtain ⟨pSy, cSy, rfl, hd⟩ := dfsO hrow; rw [Hnx.out] at hd ⊢; have Sy := Lib.hid hd; clear hrow hd hb1 KB2)
    go_upto_region 5 with (go_at_call 12; refine (KT1.out _ _ Sa.out).mono ?_; rintro e w1 ⟨v1, rfl, hrow, hb1⟩; replace Sa := Lib.hid (Sa.out.below hb1); replace Sb := Lib.hid (Sb.out.below hb1); replace Sx := Lib.hid (Sx.out.below hb1); replace Sy := Lib.hid (Sy.out.below hb1); replace BB := Lib.hid (below_step BB.out hb1); obtain ⟨pSt, cSt, rfl, hd⟩ := dfsO hrow; rw [Hnt.out] at hd ⊢; have St := Lib.hid hd; clear hrow hd hb1 KT1)
    go_upto_region 9 with (go_at_call 9; refine (KS1.out _ _ _ Sx.out Sy.out).mono ?_; rintro e w1 ⟨rfl, hb1⟩; replace Sa := Lib.hid (Sa.out.below hb1); replace St := Lib.hid (St.out.below hb1); replace BB := Lib.hid (below_step BB.out hb1); clear hb1 KS1)
    go_upto_region 10 with (go_at_call 12; refine (KT2.out _ _ St.out).mono ?_; rintro e w1 ⟨v1, rfl, hrow, hb1⟩; replace Sa := Lib.hid (Sa.out.below hb1); replace St := Lib.hid (St.out.below hb1); replace BB := Lib.hid (below_step BB.out hb1); obtain ⟨pSu, cSu, rfl, hd⟩ := dfsO hrow; rw [Hna.out] at hd ⊢; have Su := Lib.hid hd; clear hrow hd hb1 KT2)
    go_upto_region 11 with (go_at_call 11; refine (KB3.out _ _ _ Sa.out St.out).mono ?_; rintro e w1 ⟨v1, rfl, hrow, hb1⟩; replace Sa := Lib.hid (Sa.out.below hb1); replace Su := Lib.hid (Su.out.below hb1); replace BB := Lib.hid (below_step BB.out hb1); obtain ⟨pSn, cSn, rfl, hd⟩ := dfsO hrow; rw [List.length_nil] at hd ⊢; have Sn := Lib.hid hd; clear hrow hd hb1 KB3)
    go_wp2_with (first
      | (go_at_call 9; refine (KS2.out _ _ _ Su.out Sa.out).mono ?_; rintro e w1 ⟨rfl, hb1⟩; replace BB := Lib.hid (below_step BB.out hb1); clear hb1 KS2)
      | (go_at_call 7; refine (dawake_any _).mono ?_; rintro e w1 ⟨rfl, hb1⟩; replace BB := Lib.hid (below_step BB.out hb1); clear hb1))
    go_ret
    exact ⟨rfl, BB.out⟩

theorem own : ownKnob Try.prog.godebug = none := by kernel_rfl
theorem laidOut : laidOutB Try.prog = true := by kernel_rfl

set_option maxRecDepth 100000 in
theorem lifted (os : Os) (started : os.Started) (H : Type) (enc : TypeId × Value → H) :
    ReturnsInHanded {} Try.checked os 4 .any (Rows.diffBothSpec.pre6 enc Try.prog Try.f4 Rows.diffBothRow.domain false) (Rows.diffBothSpec.post enc Try.prog Try.f4 false true false false) := by
  refine returnsInHanded_of_change (C := Try.checked) own started (by kernel_rfl) Try.func4
    (ChangeSpec.witness6 (enc := enc) (C := Try.checked) false ⟨#[], #[.slice none 0 0, .slice none 0 0], []⟩ 8 (by kernel_rfl) (by kernel_rfl) (by kernel_rfl) (by kernel_rfl)) ?_
  intro W base args ds gs before hval0 hW hcnd _
  have hval : ∀ (j : Nat) t v, Try.f4.params[j]? = some t → args[j]? = some v → Value.okWide Try.prog W .any base t v := hval0
  have hW' := hW
  obtain ⟨p, q, hA0, hV, rfl, hfz, hnd⟩ := hW
  have hA : DataW.TrodAll enc Try.prog W 0 (fun _ => true) true Try.f4.params.toList args.toList ds p := hA0
  rw [Try.params4] at hA hval
  obtain ⟨v0, vs0, d0, ds0, p0, q0, hargs, rfl, rfl, h0, r0⟩ := trodAll_cons hA
  obtain ⟨v1, vs1, d1, ds1, p1, q1, rfl, rfl, rfl, h1, r1⟩ := trodAll_cons r0
  obtain ⟨rfl, rfl, rfl⟩ := trodAll_nil r1
  obtain rfl : args = #[v0, v1] := by cases args; simp_all
  obtain ⟨rfl, rfl⟩ := trodVars_none hV
  obtain ⟨a0, len0, cap0, rfl⟩ := okWide_slice Try.underlying24 (hval 0 24 v0 rfl rfl)
  have k0 := h0
  have lt0 : ∀ x ∈ p0, x.block < W.heap.size := by obtain ⟨m, hm⟩ := k0; exact DataW.trod_lt m _ _ _ hm
  obtain ⟨z0, w0⟩ : ∃ zs, Dfs W (.slice a0 len0 cap0) zs ∧ ∀ e ∈ zs, fitD e := by
    obtain ⟨fuel, hf⟩ := h0
    exact dfs_open (by simpa [Value.cells] using hf)
  obtain ⟨a1, len1, cap1, rfl⟩ := okWide_slice Try.underlying24 (hval 1 24 v1 rfl rfl)
  have k1 := h1
  have lt1 : ∀ x ∈ p1, x.block < W.heap.size := by obtain ⟨m, hm⟩ := k1; exact DataW.trod_lt m _ _ _ hm
  obtain ⟨z1, w1⟩ : ∃ zs, Dfs W (.slice a1 len1 cap1) zs ∧ ∀ e ∈ zs, fitD e := by
    obtain ⟨fuel, hf⟩ := h1
    exact dfs_open (by simpa [Value.cells] using hf)
  clear hA0 hval0
  refine (walk _ z0 _ z1 W w0 w1).mono fun e W' ⟨he, bel⟩ => ?_
  subst he
  exact ⟨_, rfl, _, _, _, [], _, [], hW', trodAll_mk1 (shut_bool Try.underlying4 _), (trodAll_cons_mk (Below.trod laidOut (by kernel_rfl) (of_decide_eq_true (by kernel_rfl)) k0 bel lt0) (trodAll_cons_mk (Below.trod laidOut (by kernel_rfl) (of_decide_eq_true (by kernel_rfl)) k1 bel lt1) trodAll_mk0)), rfl, bel.frame _, fun h => by cases h⟩

-- the given statement
theorem proved : Rows.DiffBothSaid :=
  OpenClaim.holds_of_wide 4 Try.f4 rfl rfl rfl rfl rfl rfl rfl ⟨rfl, rfl, rfl, rfl, rfl⟩ rfl rfl rfl rfl rfl (by kernel_rfl) Try.func4 (by kernel_rfl)
    (of_decide_eq_true (by kernel_rfl)) (by unfold Func.isWrapper; first | (rw [if_pos (by decide +kernel)]; kernel_rfl) | (rw [if_neg (by decide +kernel)]; exact ⟨rfl, rfl⟩))
    (fun os started H enc _ => lifted os started H enc)
end Go.Proofs.Ytopcbmmnjmmoiaa.diffBoth
