/- Of every two lists of nodes (no more than are looked at): by how many more all together are is how many more there are; a list and itself have no difference; one behind another one has its own count more; no condition. -/
import Derived.Test.YtopcbmmnjmmoiaaRows
import Derived.Test.YtopcbmmnjmmoiaaDifQ
import Derived.ProofKit
import Derived.OpenShut
import Derived.ShutString
import Derived.ChangeOld
namespace Go.Proofs.Ytopcbmmnjmmoiaa.diffSums
open Go.ChangeShapes Go.WideShapes Go.ChangeAt Go.RowKit
open Go.ChangeMaps (open_string shut_string)
set_option maxRecDepth 100000
set_option linter.unusedVariables false

theorem sum_add {w : World} {a b z : Int} (h : IntKind.i64.wrap (a + b) = z) : Sem.run Try.prog (binOp .add 3 (.int .i64 a) (.int .i64 b)) w = .ok (.int .i64 z) w := by
  go_simp
theorem sum_sub {w : World} {a b z : Int} (h : IntKind.i64.wrap (a - b) = z) : Sem.run Try.prog (binOp .sub 3 (.int .i64 a) (.int .i64 b)) w = .ok (.int .i64 z) w := by
  go_simp
theorem nds_row0 (w : World) : (w.alloc (.cells #[] 30)).ownsRow w.heap.size 30 2 (.slice (some ⟨w.heap.size, 0, none⟩) 0 0) 0 [] :=
  ⟨rfl, .inr ⟨w.heap.size, 0, #[], rfl, Nat.le_refl _, heap_alloc_new _ _, Nat.le_refl _, Nat.zero_le _, rfl, rfl⟩⟩
theorem small_app {l m : List Nd} (h : ∀ n ∈ l, smallN n) (k : ∀ n ∈ m, smallN n) : ∀ n ∈ l ++ m, smallN n := fun n hn => (List.mem_append.1 hn).elim (h n) (k n)
theorem by_in {l : List De} (h : okD l = true) (k : Nat) : ∀ e ∈ l.take k, -1099511627776 ≤ e.2 ∧ e.2 ≤ 1099511627776 := fun e he => inD_iff.1 (okD_in h e (List.mem_of_mem_take he))
theorem dif_small {old now : List Nd} (h : ∀ n ∈ old ++ now, okN n = true) (so : ∀ n ∈ old, smallN n) (sn : ∀ n ∈ now, smallN n) (lo : old.length ≤ 1000000) (ln : now.length ≤ 1000000) : ∀ e ∈ difL old now, smallD e := fun e he => by
  have o := dif_okD h lo ln
  have h1 := mkD_mem.1 (show e ∈ mkD _ _ from he)
  have h2 := inD_iff.1 (okD_in o e he)
  have hs : smallN e.1 := by
    rcases List.mem_append.1 ((setN_mem h e.1).1 h1.1) with k | k
    · exact so _ k
    · exact sn _ k
  exact ⟨hs, by unfold fitI; omega⟩
theorem ok_app {l m : List Nd} (h : ∀ n ∈ l, okN n = true) (k : ∀ n ∈ m, okN n = true) : ∀ n ∈ l ++ m, okN n = true := fun n hn => (List.mem_append.1 hn).elim (h n) (k n)
set_option maxHeartbeats 3200000 in
theorem walk (U : Value) (A : List Nd) (V : Value) (B : List Nd) (w : World) (hU0 : Nds w U A ∧ ∀ n ∈ A, fitsN n) (hV0 : Nds w V B ∧ ∀ n ∈ B, fitsN n) :
    Calls Try.prog 3 #[U, V] w fun e w' => e = .returned (.bool true) ∧ Below w.heap.size w w' := by
  obtain ⟨hU, fA⟩ := hU0
  have kfa := fun w h => nfewo_any U A w h fA
  have la := fewNs_len A
  have sa := fewNs_small A
  obtain ⟨pU, cU, rfl, -⟩ := hU.ex
  obtain ⟨mU, hmU⟩ : ∃ n, A.length = n := ⟨_, rfl⟩
  rw [hmU] at hU kfa ⊢
  obtain ⟨a, ha⟩ : ∃ l, fewNs A = l := ⟨_, rfl⟩
  rw [ha] at kfa la sa
  obtain ⟨na, hna⟩ : ∃ n, a.length = n := ⟨_, rfl⟩
  rw [hna] at la
  have SU := Lib.hid hU; have KFa := Lib.hid kfa; have Hna := Lib.hid hna; have SMa := Lib.hid sa
  clear hU fA kfa hmU ha hna sa
  obtain ⟨hV, fB⟩ := hV0
  have kfb := fun w h => nfewo_any V B w h fB
  have lb := fewNs_len B
  have sb := fewNs_small B
  obtain ⟨pV, cV, rfl, -⟩ := hV.ex
  obtain ⟨mV, hmV⟩ : ∃ n, B.length = n := ⟨_, rfl⟩
  rw [hmV] at hV kfb ⊢
  obtain ⟨b, hb⟩ : ∃ l, fewNs B = l := ⟨_, rfl⟩
  rw [hb] at kfb lb sb
  obtain ⟨nb, hnb⟩ : ∃ n, b.length = n := ⟨_, rfl⟩
  rw [hnb] at lb
  have SV := Lib.hid hV; have KFb := Lib.hid kfb; have Hnb := Lib.hid hnb; have SMb := Lib.hid sb
  clear hV fB kfb hmV hb hnb sb
  have kd := fun U V w h h' => diff_any U V a b w h h' SMa.out SMb.out (by rw [Hna.out]; omega) (by rw [Hnb.out]; omega)
  have BB := Lib.hid (Below.refl w.heap.size w)
  obtain ⟨o, ho⟩ : ∃ o, (allN2 a && allN2 b) = o := ⟨_, rfl⟩
  cases o
  · rw [diffE_no ho] at kd
    have KD := Lib.hid kd
    clear kd
    clear ho
    go_enter Try.func3, Try.ntmps3
    go_upto_region 2 with (first
      | (go_at_call 5; refine (KFa.out _ SU.out).mono ?_; rintro e w1 ⟨v1, rfl, hrow, hb1⟩; replace SU := Lib.hid (SU.out.below hb1); replace SV := Lib.hid (SV.out.below hb1); replace BB := Lib.hid (below_step BB.out hb1); obtain ⟨pSa, cSa, rfl, hd⟩ := ndsO hrow; rw [Hna.out] at hd ⊢; have Sa := Lib.hid hd; clear hrow hd hb1 KFa)
      | (go_at_call 5; refine (KFb.out _ SV.out).mono ?_; rintro e w1 ⟨v1, rfl, hrow, hb1⟩; replace Sa := Lib.hid (Sa.out.below hb1); replace BB := Lib.hid (below_step BB.out hb1); obtain ⟨pSb, cSb, rfl, hd⟩ := ndsO hrow; rw [Hnb.out] at hd ⊢; have Sb := Lib.hid hd; clear hrow hd hb1 KFb))
    go_upto_region 3 with (go_at_call 6; refine (KD.out _ _ _ Sa.out Sb.out).mono ?_; rintro e w1 ⟨v1, rfl, hrow, hb1⟩; replace Sa := Lib.hid (Sa.out.below hb1); replace Sb := Lib.hid (Sb.out.below hb1); replace BB := Lib.hid (below_step BB.out hb1); obtain ⟨pSd, cSd, rfl, hd⟩ := dfsO hrow; rw [List.length_nil] at hd ⊢; have Sd := Lib.hid hd; clear hrow hd hb1 KD)
    go_wp2_with (go_at_call 7; refine (dawake_any _).mono ?_; rintro e w1 ⟨rfl, hb1⟩; replace BB := Lib.hid (below_step BB.out hb1); clear hb1)
    go_ret
    exact ⟨rfl, BB.out⟩
  · rw [diffE_yes ho] at kd
    rw [Bool.and_eq_true] at ho
    have ha := allN2_iff.1 ho.1
    have hb := allN2_iff.1 ho.2
    have h0 : ∀ n ∈ ([] : List Nd), okN n = true := fun n hn => by cases hn
    have hap : (a ++ b).length = na + nb := by rw [List.length_append, Hna.out, Hnb.out]
    have kd2 := fun U V w h h' => diff_any U V b b w h h' SMb.out SMb.out (by rw [Hnb.out]; omega) (by rw [Hnb.out]; omega)
    have kd3 := fun U V w h h' => diff_any U V a (a ++ b) w h h' SMa.out (small_app SMa.out SMb.out) (by rw [Hna.out]; omega) (by rw [hap]; omega)
    have kc := fun V w h => count_any V b w h SMb.out (by rw [Hnb.out]; omega)
    rw [diffE_yes (by rw [ho.2]; rfl), dif_self hb] at kd2
    rw [diffE_yes (by rw [allN2_app, ho.1, ho.2]; rfl), dif_more ha hb] at kd3
    rw [diffE_nil, ho.2, if_pos rfl] at kc
    have hdo := dif_okD (ok_app ha hb) (by rw [Hna.out]; omega) (by rw [Hnb.out]; omega)
    have hdl := dif_len a b
    have hds := dif_sum (ok_app ha hb)
    rw [Hna.out, Hnb.out] at hdl hds
    obtain ⟨D, hD⟩ : ∃ X, difL a b = X := ⟨_, rfl⟩
    rw [hD] at kd hdo hdl hds
    obtain ⟨nd, hnd⟩ : ∃ n, D.length = n := ⟨_, rfl⟩
    rw [hnd] at hdl
    have Hnd := Lib.hid hnd
    clear hD hnd
    obtain ⟨X, hX⟩ : ∃ X, difL [] b = X := ⟨_, rfl⟩
    rw [hX] at kd3 kc
    obtain ⟨nx, hnx⟩ : ∃ n, X.length = n := ⟨_, rfl⟩
    have Hnx := Lib.hid hnx
    clear hX hnx
    have ks := fun U V w h h' => dsame_any U V X X w h h'
    rw [decide_eq_true rfl] at ks
    obtain ⟨t, ht⟩ : ∃ t : Int, (nb : Int) - na = t := ⟨_, rfl⟩
    rw [ht] at hds
    have hws : IntKind.i64.wrap ((nb : Int) - (na : Int)) = t := by rw [← ht]; exact IntWalk.i64_in _ (by omega)
    have HT := Lib.hid ht; have HWS := Lib.hid hws; have HDO := Lib.hid hdo; have HDS := Lib.hid hds; have HAP := Lib.hid hap
    clear ht hws hdo hds hap h0
    have KD := Lib.hid kd; have KD2 := Lib.hid kd2; have KD3 := Lib.hid kd3; have KC := Lib.hid kc; have KS := Lib.hid ks
    clear kd kd2 kd3 kc ks
    clear ho ha hb
    go_enter Try.func3, Try.ntmps3
    go_upto_region 2 with (first
      | (go_at_call 5; refine (KFa.out _ SU.out).mono ?_; rintro e w1 ⟨v1, rfl, hrow, hb1⟩; replace SU := Lib.hid (SU.out.below hb1); replace SV := Lib.hid (SV.out.below hb1); replace BB := Lib.hid (below_step BB.out hb1); obtain ⟨pSa, cSa, rfl, hd⟩ := ndsO hrow; rw [Hna.out] at hd ⊢; have Sa := Lib.hid hd; clear hrow hd hb1 KFa)
      | (go_at_call 5; refine (KFb.out _ SV.out).mono ?_; rintro e w1 ⟨v1, rfl, hrow, hb1⟩; replace Sa := Lib.hid (Sa.out.below hb1); replace BB := Lib.hid (below_step BB.out hb1); obtain ⟨pSb, cSb, rfl, hd⟩ := ndsO hrow; rw [Hnb.out] at hd ⊢; have Sb := Lib.hid hd; clear hrow hd hb1 KFb))
    go_upto_region 3 with (go_at_call 6; refine (KD.out _ _ _ Sa.out Sb.out).mono ?_; rintro e w1 ⟨v1, rfl, hrow, hb1⟩; replace Sa := Lib.hid (Sa.out.below hb1); replace Sb := Lib.hid (Sb.out.below hb1); replace BB := Lib.hid (below_step BB.out hb1); obtain ⟨pSd, cSd, rfl, hd⟩ := dfsO hrow; rw [Hnd.out] at hd ⊢; have Sd := Lib.hid hd; clear hrow hd hb1 KD)
    go_wp2
    go_loopw [7, 8] (fun s i wr => ∃ (k : Nat) (z : Int), k ≤ nd ∧ i = .int .i64 k ∧ s = .int .i64 z ∧ wr = w1 ∧ Hid (sumD (D.take k) = z)) (fun _ i _ => nd - (intOf i).toNat)
    case atStart => exact ⟨0, 0, Nat.zero_le _, rfl, rfl, rfl, Lib.hid rfl⟩
    case round =>
      obtain ⟨k, z, hk, rfl, rfl, rfl, H⟩ := hrel
      by_cases hlt : k < nd
      · have hkl : k < D.length := by rw [Hnd.out]; exact hlt
        obtain ⟨bb, off, rfl, -, hc0, hc1, hc2⟩ := Sd.out.at k hkl
        have hst := sumD_take hkl
        have hbd := sumD_bound (by_in HDO.out k) (by decide)
        have hin := inD_iff.1 (okD_in HDO.out _ (df_mem hkl))
        rw [H.out, List.length_take] at hbd
        rw [H.out] at hst
        obtain ⟨y, hy⟩ : ∃ y, y = D.getD k zD := ⟨_, rfl⟩
        rw [← hy] at hc0 hc1 hc2 hst hin
        obtain ⟨⟨y1, y2⟩, u⟩ := y
        simp only at hc0 hc1 hc2 hst hin
        have hwr : IntKind.i64.wrap (z + u) = z + u := IntWalk.i64_in _ (by omega)
        have H5 := Lib.hid hst
        clear hy hst hbd hin
        have hkb : (k : Int) < (nd : Int) := by omega
        go_wp2
        go_roundw
        case rel => exact ⟨k + 1, z + u, by omega, by go_num, rfl, trivial, H5⟩
        case measure => simp [intOf]; omega
      · have e : z = t := by rw [← HDS.out, ← H.out, List.take_of_length_le (by rw [Hnd.out]; omega)]
        subst e
        go_upto_region 11 with (go_at_call 6; refine (KD2.out _ _ _ Sb.out Sb.out).mono ?_; rintro e w1 ⟨v1, rfl, hrow, hb1⟩; replace Sa := Lib.hid (Sa.out.below hb1); replace Sb := Lib.hid (Sb.out.below hb1); replace BB := Lib.hid (below_step BB.out hb1); obtain ⟨pSn, cSn, rfl, hd⟩ := dfsO hrow; rw [List.length_nil] at hd ⊢; have Sn := Lib.hid hd; clear hrow hd hb1 KD2)
        have HO0 := Lib.hid (nds_row0 w1); have BX : Hid (Below w1.heap.size w1 (w1.alloc (.cells #[] 30))) := Lib.hid ((Below.refl _ _).alloc (Nat.le_refl _) _)
        go_upto_region 12 with (first
          | (at_builtin; refine wpList_append_src rfl _ _ 22 rfl w1.heap.size 30 (.agg #[.string ByteArray.empty, .string ByteArray.empty]) 2 32 Try.underlying22 Try.info_node rfl (by decide) _ 0 [] rfl HO0.out pSa na cSa (ndsC a) rfl (by rw [ndsC_len, Hna.out]) (Sa.out.below BX.out).nil (Sa.out.below BX.out).src (ndsC_one _) (by omega) (by unfold maxLen; omega) BX.out.size ?_; intro v2 w2 ho1 hb1; rw [Nat.zero_add, List.nil_append] at ho1; have HO1 := Lib.hid ho1; have B1 := Lib.hid (BX.out.trans hb1.toBelow); clear ho1 hb1 HO0)
          | (at_builtin; refine wpList_append_src rfl _ _ 22 rfl w1.heap.size 30 (.agg #[.string ByteArray.empty, .string ByteArray.empty]) 2 32 Try.underlying22 Try.info_node rfl (by decide) _ na _ rfl HO1.out pSb nb cSb (ndsC b) rfl (by rw [ndsC_len, Hnb.out]) (Sb.out.below B1.out).nil (Sb.out.below B1.out).src (ndsC_one _) (by omega) (by unfold maxLen; omega) B1.out.size ?_; intro v3 w3 ho2 hb2; have hq2 : w3.ownsRow w1.heap.size 30 2 v3 (a ++ b).length (ndsC (a ++ b)) := (by rw [HAP.out, ndsC_app]; exact ho2); obtain ⟨a2, c2, rfl, hnd⟩ := ndsO hq2; rw [HAP.out] at hnd ⊢; have SA := Lib.hid hnd; have B2 := B1.out.trans hb2.toBelow; replace Sa := Lib.hid (Sa.out.below B2); replace Sb := Lib.hid (Sb.out.below B2); replace Sn := Lib.hid (Sn.out.below B2); replace BB := Lib.hid (below_step BB.out B2); clear ho2 hb2 hq2 hnd B1 BX HO1 B2)
          | (go_at_call 6; refine (KD3.out _ _ _ Sa.out SA.out).mono ?_; rintro e w1 ⟨v1, rfl, hrow, hb1⟩; replace Sa := Lib.hid (Sa.out.below hb1); replace Sb := Lib.hid (Sb.out.below hb1); replace Sn := Lib.hid (Sn.out.below hb1); replace BB := Lib.hid (below_step BB.out hb1); obtain ⟨pSm, cSm, rfl, hd⟩ := dfsO hrow; rw [Hnx.out] at hd ⊢; have Sm := Lib.hid hd; clear hrow hd hb1 KD3))
        go_upto_region 13 with (go_at_call 8; refine (KC.out _ _ Sb.out).mono ?_; rintro e w1 ⟨v1, rfl, hrow, hb1⟩; replace Sa := Lib.hid (Sa.out.below hb1); replace Sb := Lib.hid (Sb.out.below hb1); replace Sn := Lib.hid (Sn.out.below hb1); replace Sm := Lib.hid (Sm.out.below hb1); replace BB := Lib.hid (below_step BB.out hb1); obtain ⟨pSc, cSc, rfl, hd⟩ := dfsO hrow; rw [Hnx.out] at hd ⊢; have Sc := Lib.hid hd; clear hrow hd hb1 KC)
        have hws := HWS.out
        go_wp2_with (first
          | (go_at_call 9; refine (KS.out _ _ _ Sm.out Sc.out).mono ?_; rintro e w1 ⟨rfl, hb1⟩; replace BB := Lib.hid (below_step BB.out hb1); clear hb1 KS)
          | (go_at_call 7; refine (dawake_any _).mono ?_; rintro e w1 ⟨rfl, hb1⟩; replace BB := Lib.hid (below_step BB.out hb1); clear hb1))
        go_ret
        exact ⟨rfl, BB.out⟩

theorem own : ownKnob Try.prog.godebug = none := by kernel_rfl
theorem laidOut : laidOutB Try.prog = true := by kernel_rfl

set_option maxRecDepth 100000 in
theorem lifted (os : Os) (started : os.Started) (H : Type) (enc : TypeId × Value → H) :
    ReturnsInHanded {} Try.checked os 3 .any (Rows.diffSumsSpec.pre6 enc Try.prog Try.f3 Rows.diffSumsRow.domain false) (Rows.diffSumsSpec.post enc Try.prog Try.f3 false true false false) := by
  refine returnsInHanded_of_change (C := Try.checked) own started (by kernel_rfl) Try.func3
    (ChangeSpec.witness6 (enc := enc) (C := Try.checked) false ⟨#[], #[.slice none 0 0, .slice none 0 0], []⟩ 8 (by kernel_rfl) (by kernel_rfl) (by kernel_rfl) (by kernel_rfl)) ?_
  intro W base args ds gs before hval0 hW hcnd _
  have hval : ∀ (j : Nat) t v, Try.f3.params[j]? = some t → args[j]? = some v → Value.okWide Try.prog W .any base t v := hval0
  have hW' := hW
  obtain ⟨p, q, hA0, hV, rfl, hfz, hnd⟩ := hW
  have hA : DataW.TrodAll enc Try.prog W 0 (fun _ => true) true Try.f3.params.toList args.toList ds p := hA0
  rw [Try.params3] at hA hval
  obtain ⟨v0, vs0, d0, ds0, p0, q0, hargs, rfl, rfl, h0, r0⟩ := trodAll_cons hA
  obtain ⟨v1, vs1, d1, ds1, p1, q1, rfl, rfl, rfl, h1, r1⟩ := trodAll_cons r0
  obtain ⟨rfl, rfl, rfl⟩ := trodAll_nil r1
  obtain rfl : args = #[v0, v1] := by cases args; simp_all
  obtain ⟨rfl, rfl⟩ := trodVars_none hV
  obtain ⟨a0, len0, cap0, rfl⟩ := okWide_slice Try.underlying22 (hval 0 22 v0 rfl rfl)
  have k0 := h0
  have lt0 : ∀ x ∈ p0, x.block < W.heap.size := by obtain ⟨m, hm⟩ := k0; exact DataW.trod_lt m _ _ _ hm
  obtain ⟨z0, w0⟩ : ∃ zs, Nds W (.slice a0 len0 cap0) zs ∧ ∀ n ∈ zs, fitsN n := by
    obtain ⟨fuel, hf⟩ := h0
    exact nds_open (by simpa [Value.cells] using hf)
  obtain ⟨a1, len1, cap1, rfl⟩ := okWide_slice Try.underlying22 (hval 1 22 v1 rfl rfl)
  have k1 := h1
  have lt1 : ∀ x ∈ p1, x.block < W.heap.size := by obtain ⟨m, hm⟩ := k1; exact DataW.trod_lt m _ _ _ hm
  obtain ⟨z1, w1⟩ : ∃ zs, Nds W (.slice a1 len1 cap1) zs ∧ ∀ n ∈ zs, fitsN n := by
    obtain ⟨fuel, hf⟩ := h1
    exact nds_open (by simpa [Value.cells] using hf)
  clear hA0 hval0
  refine (walk _ z0 _ z1 W w0 w1).mono fun e W' ⟨he, bel⟩ => ?_
  subst he
  exact ⟨_, rfl, _, _, _, [], _, [], hW', trodAll_mk1 (shut_bool Try.underlying4 _), (trodAll_cons_mk (Below.trod laidOut (by kernel_rfl) (of_decide_eq_true (by kernel_rfl)) k0 bel lt0) (trodAll_cons_mk (Below.trod laidOut (by kernel_rfl) (of_decide_eq_true (by kernel_rfl)) k1 bel lt1) trodAll_mk0)), rfl, bel.frame _, fun h => by cases h⟩

-- the given statement
theorem proved : Rows.DiffSumsSaid :=
  OpenClaim.holds_of_wide 3 Try.f3 rfl rfl rfl rfl rfl rfl rfl ⟨rfl, rfl, rfl, rfl, rfl⟩ rfl rfl rfl rfl rfl (by kernel_rfl) Try.func3 (by kernel_rfl)
    (of_decide_eq_true (by kernel_rfl)) (by unfold Func.isWrapper; first | (rw [if_pos (by decide +kernel)]; kernel_rfl) | (rw [if_neg (by decide +kernel)]; exact ⟨rfl, rfl⟩))
    (fun os started H enc _ => lifted os started H enc)
end Go.Proofs.Ytopcbmmnjmmoiaa.diffSums
