/- Of every two lists of nodes (no more, and no longer, than are looked at): whether the one has all of the other one, no lower, or why not, as the document says; no condition. -/
import Derived.Test.YtlbibgofhhdgoaaGreatRows
import Derived.Test.YtlbibgofhhdgoaaGreatLisR
import Derived.Test.YtlbibgofhhdgoaaGreatLisN
import Derived.Test.YtlbibgofhhdgoaaGreatTalR
import Derived.ProofKit
import Derived.OpenShut
import Derived.ShutString
import Derived.ChangeOld
namespace Go.Proofs.YtlbibgofhhdgoaaGreat.listAbove
open Go.ChangeShapes Go.WideShapes Go.ChangeAt Go.RowKit
open Go.ChangeMaps (open_string shut_string)
set_option maxRecDepth 100000
set_option linter.unusedVariables false

theorem fewNs_text (l : List Nd) : ∀ n ∈ fewNs l, n.1.length ≤ 400 ∧ n.2.length ≤ 400 := fun n h => by
  obtain ⟨m, _, rfl⟩ := List.mem_map.1 h; exact ⟨fewL_len _, fewL_len _⟩
set_option maxRecDepth 100000 in
set_option maxHeartbeats 6400000 in
theorem walk (Ua : Value) (ka : List Nd) (Ub : Value) (kb : List Nd) (w : World) (hUa : Nds w Ua ka ∧ ∀ n ∈ ka, fitsN n) (hUb : Nds w Ub kb ∧ ∀ n ∈ kb, fitsN n) :
    Calls Tryz.prog 5 #[Ua, Ub] w fun e w' => e = .returned (.bool true) ∧ Below w.heap.size w w' := by
  obtain ⟨hUa, fUa⟩ := hUa
  obtain ⟨Aa, ca, rfl, -⟩ := hUa.ex
  have kfa := fun V w h => nfewo_any V ka w h fUa
  have hmla := fewNs_len ka; have hmza := fewNs_small ka; have hmta := fewNs_text ka
  obtain ⟨ma, hma⟩ : ∃ r, ka.length = r := ⟨_, rfl⟩
  rw [hma] at hUa ⊢
  obtain ⟨sa, hsa⟩ : ∃ r, fewNs ka = r := ⟨_, rfl⟩
  rw [hsa] at kfa hmla hmza hmta
  obtain ⟨na, hna⟩ : ∃ r, sa.length = r := ⟨_, rfl⟩
  rw [hna] at hmla
  have SUa := Lib.hid hUa; have KFa := Lib.hid kfa; have HZA := Lib.hid hmza; have HNA := Lib.hid hna; have HTA := Lib.hid hmta
  clear hUa fUa kfa hmza hmta hma hsa hna
  obtain ⟨hUb, fUb⟩ := hUb
  obtain ⟨Ab, cb, rfl, -⟩ := hUb.ex
  have kfb := fun V w h => nfewo_any V kb w h fUb
  have hmlb := fewNs_len kb; have hmzb := fewNs_small kb; have hmtb := fewNs_text kb
  obtain ⟨mb, hmb⟩ : ∃ r, kb.length = r := ⟨_, rfl⟩
  rw [hmb] at hUb ⊢
  obtain ⟨sb, hsb⟩ : ∃ r, fewNs kb = r := ⟨_, rfl⟩
  rw [hsb] at kfb hmlb hmzb hmtb
  obtain ⟨nb, hnb⟩ : ∃ r, sb.length = r := ⟨_, rfl⟩
  rw [hnb] at hmlb
  have SUb := Lib.hid hUb; have KFb := Lib.hid kfb; have HZB := Lib.hid hmzb; have HNB := Lib.hid hnb; have HTB := Lib.hid hmtb
  clear hUb fUb kfb hmzb hmtb hmb hsb hnb
  have BB := Lib.hid (Below.refl w.heap.size w)
  have kab := fun U V w h h' => labove_any U V sa sb w h h' HZA.out HZB.out (by rw [HNA.out]; omega) (by rw [HNB.out]; omega)
  have kma := fun V w h => reflmay_any V sa w h HZA.out
  have kmb := fun V w h => reflmay_any V sb w h HZB.out
  obtain ⟨E, hE⟩ : ∃ E, aboveE sa sb = E := ⟨_, rfl⟩
  rw [hE] at kab
  obtain ⟨bv, be⟩ := E
  simp only at kab
  have KAB := Lib.hid kab; have HE := Lib.hid hE
  clear kab hE
  go_enter Tryz.func5, Tryz.ntmps5
  go_upto_region 2 with (first
      | (go_at_call 7; refine (KFa.out _ _ SUa.out).mono ?_; rintro e w9 ⟨v1, rfl, hr1, hb1⟩; replace SUb := Lib.hid (SUb.out.below hb1); replace BB := Lib.hid (below_step BB.out hb1); obtain ⟨aa, ca, rfl, hd⟩ := ndsO hr1; rw [HNA.out] at hd ⊢; have Sa := Lib.hid hd; clear hr1 hd hb1 KFa SUa)
      | (go_at_call 7; refine (KFb.out _ _ SUb.out).mono ?_; rintro e w9 ⟨v1, rfl, hr1, hb1⟩; replace Sa := Lib.hid (Sa.out.below hb1); replace BB := Lib.hid (below_step BB.out hb1); obtain ⟨ab, cb, rfl, hd⟩ := ndsO hr1; rw [HNB.out] at hd ⊢; have Sb := Lib.hid hd; clear hr1 hd hb1 KFb SUb))
  go_upto_region 3 with (go_at_call 27; refine (KAB.out _ _ _ Sa.out Sb.out).mono ?_; rintro e w9 ⟨rfl, hb1⟩; replace Sa := Lib.hid (Sa.out.below hb1); replace Sb := Lib.hid (Sb.out.below hb1); replace BB := Lib.hid (below_step BB.out hb1); clear hb1)
  clear KAB
  cases oa : okL sa
  · have h1 := HE.out
    rw [aboveE_no (by rw [oa]; rfl)] at h1
    obtain ⟨rfl, rfl⟩ := Prod.mk.inj h1
    rw [oa] at kma
    have KMA := Lib.hid kma
    clear h1 oa kma kmb
    go_wp2_with (first
        | (go_at_call 13; refine (KMA.out _ _ Sa.out).mono ?_; rintro e w9 ⟨rfl, hb1⟩; replace Sa := Lib.hid (Sa.out.below hb1); replace Sb := Lib.hid (Sb.out.below hb1); replace BB := Lib.hid (below_step BB.out hb1); clear hb1)
        | (go_at_call 18; refine (lawake_any _).mono ?_; rintro e w9 ⟨rfl, hb1⟩; replace Sa := Lib.hid (Sa.out.below hb1); replace Sb := Lib.hid (Sb.out.below hb1); replace BB := Lib.hid (below_step BB.out hb1); clear hb1))
    go_ret
    exact ⟨rfl, BB.out⟩
  · cases ob : okL sb
    · have h1 := HE.out
      rw [aboveE_no (by rw [oa, ob]; rfl)] at h1
      obtain ⟨rfl, rfl⟩ := Prod.mk.inj h1
      rw [oa] at kma
      rw [ob] at kmb
      have KMA := Lib.hid kma; have KMB := Lib.hid kmb
      clear h1 oa ob kma kmb
      go_upto_region 4 with (first
          | (go_at_call 13; refine (KMA.out _ _ Sa.out).mono ?_; rintro e w9 ⟨rfl, hb1⟩; replace Sa := Lib.hid (Sa.out.below hb1); replace Sb := Lib.hid (Sb.out.below hb1); replace BB := Lib.hid (below_step BB.out hb1); clear hb1 KMA)
          | (go_at_call 13; refine (KMB.out _ _ Sb.out).mono ?_; rintro e w9 ⟨rfl, hb1⟩; replace Sa := Lib.hid (Sa.out.below hb1); replace Sb := Lib.hid (Sb.out.below hb1); replace BB := Lib.hid (below_step BB.out hb1); clear hb1))
      go_wp2_with (go_at_call 18; refine (lawake_any _).mono ?_; rintro e w9 ⟨rfl, hb1⟩; replace Sa := Lib.hid (Sa.out.below hb1); replace Sb := Lib.hid (Sb.out.below hb1); replace BB := Lib.hid (below_step BB.out hb1); clear hb1)
      go_ret
      exact ⟨rfl, BB.out⟩
    · have h1 := HE.out
      rw [aboveE_yes oa ob] at h1
      obtain ⟨rfl, rfl⟩ := Prod.mk.inj h1
      have kra := fun U V w h h' => refabove_any U V sa sb w h h' HZA.out HZB.out oa ob
      rw [oa] at kma
      rw [ob] at kmb
      obtain ⟨T, hT⟩ : ∃ T, aboveL sa sb = T := ⟨_, rfl⟩
      rw [hT] at kra ⊢
      have KMA := Lib.hid kma; have KMB := Lib.hid kmb; have KRA := Lib.hid kra
      clear h1 oa ob kma kmb kra hT HE
      go_upto_region 5 with (first
          | (go_at_call 13; refine (KMA.out _ _ Sa.out).mono ?_; rintro e w9 ⟨rfl, hb1⟩; replace Sa := Lib.hid (Sa.out.below hb1); replace Sb := Lib.hid (Sb.out.below hb1); replace BB := Lib.hid (below_step BB.out hb1); clear hb1 KMA)
          | (go_at_call 13; refine (KMB.out _ _ Sb.out).mono ?_; rintro e w9 ⟨rfl, hb1⟩; replace Sa := Lib.hid (Sa.out.below hb1); replace Sb := Lib.hid (Sb.out.below hb1); replace BB := Lib.hid (below_step BB.out hb1); clear hb1))
      cases T
      · go_wp2_with (first
            | (go_at_call 28; refine (KRA.out _ _ _ Sa.out Sb.out).mono ?_; rintro e w9 ⟨rfl, hb1⟩; replace Sa := Lib.hid (Sa.out.below hb1); replace Sb := Lib.hid (Sb.out.below hb1); replace BB := Lib.hid (below_step BB.out hb1); clear hb1)
            | (go_at_call 18; refine (lawake_any _).mono ?_; rintro e w9 ⟨rfl, hb1⟩; replace Sa := Lib.hid (Sa.out.below hb1); replace Sb := Lib.hid (Sb.out.below hb1); replace BB := Lib.hid (below_step BB.out hb1); clear hb1))
        go_ret
        exact ⟨rfl, BB.out⟩
      · go_wp2_with (first
            | (go_at_call 28; refine (KRA.out _ _ _ Sa.out Sb.out).mono ?_; rintro e w9 ⟨rfl, hb1⟩; replace Sa := Lib.hid (Sa.out.below hb1); replace Sb := Lib.hid (Sb.out.below hb1); replace BB := Lib.hid (below_step BB.out hb1); clear hb1)
            | (go_at_call 18; refine (lawake_any _).mono ?_; rintro e w9 ⟨rfl, hb1⟩; replace Sa := Lib.hid (Sa.out.below hb1); replace Sb := Lib.hid (Sb.out.below hb1); replace BB := Lib.hid (below_step BB.out hb1); clear hb1))
        go_ret
        exact ⟨rfl, BB.out⟩

theorem own : ownKnob Tryz.prog.godebug = none := by kernel_rfl
theorem laidOut : laidOutB Tryz.prog = true := by kernel_rfl

set_option maxRecDepth 100000 in
theorem lifted (os : Os) (started : os.Started) (H : Type) (enc : TypeId × Value → H) :
    ReturnsInHanded {} Tryz.checked os 5 .any (Rows.listAboveSpec.pre6 enc Tryz.prog Tryz.f5 Rows.listAboveRow.domain false) (Rows.listAboveSpec.post enc Tryz.prog Tryz.f5 false true false false) := by
  refine returnsInHanded_of_change (C := Tryz.checked) own started (by kernel_rfl) Tryz.func5
    (ChangeSpec.witness6 (enc := enc) (C := Tryz.checked) false ⟨#[], #[.slice none 0 0, .slice none 0 0], []⟩ 8 (by kernel_rfl) (by kernel_rfl) (by kernel_rfl) (by kernel_rfl)) ?_
  intro W base args ds gs before hval0 hW hcnd _
  have hval : ∀ (j : Nat) t v, Tryz.f5.params[j]? = some t → args[j]? = some v → Value.okWide Tryz.prog W .any base t v := hval0
  have hW' := hW
  obtain ⟨p, q, hA0, hV, rfl, hfz, hnd⟩ := hW
  have hA : DataW.TrodAll enc Tryz.prog W 0 (fun _ => true) true Tryz.f5.params.toList args.toList ds p := hA0
  rw [Tryz.params5] at hA hval
  obtain ⟨v0, vs0, d0, ds0, p0, q0, hargs, rfl, rfl, h0, r0⟩ := trodAll_cons hA
  obtain ⟨v1, vs1, d1, ds1, p1, q1, rfl, rfl, rfl, h1, r1⟩ := trodAll_cons r0
  obtain ⟨rfl, rfl, rfl⟩ := trodAll_nil r1
  obtain rfl : args = #[v0, v1] := by cases args; simp_all
  obtain ⟨rfl, rfl⟩ := trodVars_none hV
  obtain ⟨a0, len0, cap0, rfl⟩ := okWide_slice Tryz.underlying22 (hval 0 22 v0 rfl rfl)
  have k0 := h0
  have lt0 : ∀ x ∈ p0, x.block < W.heap.size := by obtain ⟨m, hm⟩ := k0; exact DataW.trod_lt m _ _ _ hm
  obtain ⟨z0, w0⟩ : ∃ zs, Nds W (.slice a0 len0 cap0) zs ∧ ∀ n ∈ zs, fitsN n := by
    obtain ⟨fuel, hf⟩ := h0
    exact nds_open (by simpa [Value.cells] using hf)
  obtain ⟨a1, len1, cap1, rfl⟩ := okWide_slice Tryz.underlying22 (hval 1 22 v1 rfl rfl)
  have k1 := h1
  have lt1 : ∀ x ∈ p1, x.block < W.heap.size := by obtain ⟨m, hm⟩ := k1; exact DataW.trod_lt m _ _ _ hm
  obtain ⟨z1, w1⟩ : ∃ zs, Nds W (.slice a1 len1 cap1) zs ∧ ∀ n ∈ zs, fitsN n := by
    obtain ⟨fuel, hf⟩ := h1
    exact nds_open (by simpa [Value.cells] using hf)
  clear hA0 hval0
  refine (walk _ z0 _ z1 W w0 w1).mono fun e W' ⟨he, bel⟩ => ?_
  subst he
  exact ⟨_, rfl, _, _, _, [], _, [], hW', trodAll_mk1 (shut_bool Tryz.underlying4 _), (trodAll_cons_mk (Below.trod laidOut (by kernel_rfl) (of_decide_eq_true (by kernel_rfl)) k0 bel lt0) (trodAll_cons_mk (Below.trod laidOut (by kernel_rfl) (of_decide_eq_true (by kernel_rfl)) k1 bel lt1) trodAll_mk0)), rfl, bel.frame _, fun h => by cases h⟩

-- the given statement
theorem proved : Rows.ListAboveSaid :=
  OpenClaim.holds_of_wide 5 Tryz.f5 rfl rfl rfl rfl rfl rfl rfl ⟨rfl, rfl, rfl, rfl, rfl⟩ rfl rfl rfl rfl rfl (by kernel_rfl) Tryz.func5 (by kernel_rfl)
    (of_decide_eq_true (by kernel_rfl)) (by unfold Func.isWrapper; first | (rw [if_pos (by decide +kernel)]; kernel_rfl) | (rw [if_neg (by decide +kernel)]; exact ⟨rfl, rfl⟩))
    (fun os started H enc _ => lifted os started H enc)
end Go.Proofs.YtlbibgofhhdgoaaGreat.listAbove
