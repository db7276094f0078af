/- Of every two lists of nodes and every changes (no more, and no longer, than are looked at): what changes from the one to the other one, and the one with the changes, or why not, as the document says; no condition. -/
import Derived.Test.YtlbibgofhhdgoaaGreatRows
import Derived.Test.YtlbibgofhhdgoaaGreatLisR
import Derived.Test.YtlbibgofhhdgoaaGreatLisO
import Derived.Test.YtlbibgofhhdgoaaGreatLisP
import Derived.ProofKit
import Derived.OpenShut
import Derived.ShutString
import Derived.ChangeOld
namespace Go.Proofs.YtlbibgofhhdgoaaGreat.listChanges
open Go.ChangeShapes Go.WideShapes Go.ChangeAt Go.RowKit
open Go.ChangeMaps (open_string shut_string)
set_option maxRecDepth 100000
set_option linter.unusedVariables false

theorem fewNs_text (l : List Nd) : ∀ n ∈ fewNs l, n.1.length ≤ 400 ∧ n.2.length ≤ 400 := fun n h => by
  obtain ⟨m, _, rfl⟩ := List.mem_map.1 h; exact ⟨fewL_len _, fewL_len _⟩
set_option maxRecDepth 100000 in
set_option maxHeartbeats 3200000 in
theorem walk (Ua : Value) (ka : List Nd) (Ub : Value) (kb : List Nd) (Uc : Value) (kc : List Ch) (w : World) (hUa : Nds w Ua ka ∧ ∀ n ∈ ka, fitsN n) (hUb : Nds w Ub kb ∧ ∀ n ∈ kb, fitsN n) (hUc : Chs w Uc kc ∧ ∀ e ∈ kc, fitC e) :
    Calls Tryz.prog 4 #[Ua, Ub, Uc] w fun e w' => e = .returned (.bool true) ∧ Below w.heap.size w w' := by
  obtain ⟨hUa, fUa⟩ := hUa
  obtain ⟨Aa, ca, rfl, -⟩ := hUa.ex
  have kfa := fun V w h => nfewo_any V ka w h fUa
  have hmla := fewNs_len ka; have hmza := fewNs_small ka; have hmta := fewNs_text ka
  obtain ⟨ma, hma⟩ : ∃ r, ka.length = r := ⟨_, rfl⟩
  rw [hma] at hUa ⊢
  obtain ⟨sa, hsa⟩ : ∃ r, fewNs ka = r := ⟨_, rfl⟩
  rw [hsa] at kfa hmla hmza hmta
  obtain ⟨na, hna⟩ : ∃ r, sa.length = r := ⟨_, rfl⟩
  rw [hna] at hmla
  have SUa := Lib.hid hUa; have KFa := Lib.hid kfa; have HZA := Lib.hid hmza; have HNA := Lib.hid hna; have HTA := Lib.hid hmta
  clear hUa fUa kfa hmza hmta hma hsa hna
  obtain ⟨hUb, fUb⟩ := hUb
  obtain ⟨Ab, cb, rfl, -⟩ := hUb.ex
  have kfb := fun V w h => nfewo_any V kb w h fUb
  have hmlb := fewNs_len kb; have hmzb := fewNs_small kb; have hmtb := fewNs_text kb
  obtain ⟨mb, hmb⟩ : ∃ r, kb.length = r := ⟨_, rfl⟩
  rw [hmb] at hUb ⊢
  obtain ⟨sb, hsb⟩ : ∃ r, fewNs kb = r := ⟨_, rfl⟩
  rw [hsb] at kfb hmlb hmzb hmtb
  obtain ⟨nb, hnb⟩ : ∃ r, sb.length = r := ⟨_, rfl⟩
  rw [hnb] at hmlb
  have SUb := Lib.hid hUb; have KFb := Lib.hid kfb; have HZB := Lib.hid hmzb; have HNB := Lib.hid hnb; have HTB := Lib.hid hmtb
  clear hUb fUb kfb hmzb hmtb hmb hsb hnb
  obtain ⟨hUc, fUc⟩ := hUc
  obtain ⟨Ac, cc, rfl, -⟩ := hUc.ex
  have kfc := fun V w h => few17_any V kc w h fUc
  have hmlc := fewCs_len kc; have hmzc := fewCs_small kc
  obtain ⟨mc, hmc⟩ : ∃ r, kc.length = r := ⟨_, rfl⟩
  rw [hmc] at hUc ⊢
  obtain ⟨sc, hsc⟩ : ∃ r, fewCs kc = r := ⟨_, rfl⟩
  rw [hsc] at kfc hmlc hmzc
  obtain ⟨nc, hnc⟩ : ∃ r, sc.length = r := ⟨_, rfl⟩
  rw [hnc] at hmlc
  have SUc := Lib.hid hUc; have KFc := Lib.hid kfc; have HZC := Lib.hid hmzc; have HNC := Lib.hid hnc
  clear hUc fUc kfc hmzc hmc hsc hnc
  have BB := Lib.hid (Below.refl w.heap.size w)
  have kde := fun U V w h h' => ldelta_any U V sa sb w h h' HZA.out HZB.out (by rw [HNA.out]; omega) (by rw [HNB.out]; omega)
  have kap := fun U V w h h' => lapply_any U V sa sc w h h' HZA.out HZC.out (by rw [HNA.out]; omega) (by rw [HNC.out]; omega)
  have kma := fun V w h => reflmay_any V sa w h HZA.out
  have kmb := fun V w h => reflmay_any V sb w h HZB.out
  have kch := fun V w h => refchanges_any V sc w h HZC.out (by rw [HNC.out]; omega)
  obtain ⟨PD, hPD⟩ : ∃ E, deltaE sa sb = E := ⟨_, rfl⟩
  obtain ⟨PA, hPA⟩ : ∃ E, applyE sa sc = E := ⟨_, rfl⟩
  rw [hPD] at kde
  rw [hPA] at kap
  obtain ⟨dl, dk⟩ := PD
  obtain ⟨al, ak⟩ := PA
  simp only at kde kap
  obtain ⟨nd, hnd⟩ : ∃ r, dl.length = r := ⟨_, rfl⟩
  obtain ⟨nl, hnl⟩ : ∃ r, al.length = r := ⟨_, rfl⟩
  have KDE := Lib.hid kde; have KAP := Lib.hid kap; have HPD := Lib.hid hPD; have HPA := Lib.hid hPA; have HND := Lib.hid hnd; have HNL := Lib.hid hnl; have KMB0 := Lib.hid kmb; have KCH0 := Lib.hid kch; have KMA0 := Lib.hid kma
  clear kde kap hPD hPA hnd hnl kma kmb kch
  go_enter Tryz.func4, Tryz.ntmps4
  go_upto_region 2 with (first
      | (go_at_call 7; refine (KFa.out _ _ SUa.out).mono ?_; rintro e w9 ⟨v1, rfl, hr1, hb1⟩; replace SUb := Lib.hid (SUb.out.below hb1); replace SUc := Lib.hid (SUc.out.below hb1); replace BB := Lib.hid (below_step BB.out hb1); obtain ⟨aa, ca, rfl, hd⟩ := ndsO hr1; rw [HNA.out] at hd ⊢; have Sa := Lib.hid hd; clear hr1 hd hb1 KFa SUa)
      | (go_at_call 7; refine (KFb.out _ _ SUb.out).mono ?_; rintro e w9 ⟨v1, rfl, hr1, hb1⟩; replace SUc := Lib.hid (SUc.out.below hb1); replace Sa := Lib.hid (Sa.out.below hb1); replace BB := Lib.hid (below_step BB.out hb1); obtain ⟨ab, cb, rfl, hd⟩ := ndsO hr1; rw [HNB.out] at hd ⊢; have Sb := Lib.hid hd; clear hr1 hd hb1 KFb SUb)
      | (go_at_call 20; refine (KFc.out _ _ SUc.out).mono ?_; rintro e w9 ⟨v1, rfl, hr1, hb1⟩; replace Sa := Lib.hid (Sa.out.below hb1); replace Sb := Lib.hid (Sb.out.below hb1); replace BB := Lib.hid (below_step BB.out hb1); obtain ⟨ac, cc, rfl, hd⟩ := chsO hr1; rw [HNC.out] at hd ⊢; have Sc := Lib.hid hd; clear hr1 hd hb1 KFc SUc))
  go_upto_region 3 with (go_at_call 21; refine (KDE.out _ _ _ Sa.out Sb.out).mono ?_; rintro e w9 ⟨v1, rfl, hr1, hb1⟩; replace Sa := Lib.hid (Sa.out.below hb1); replace Sb := Lib.hid (Sb.out.below hb1); replace Sc := Lib.hid (Sc.out.below hb1); replace BB := Lib.hid (below_step BB.out hb1); obtain ⟨ad, cd, rfl, hd⟩ := chsO hr1; rw [HND.out] at hd ⊢; have Sd := Lib.hid hd; clear hr1 hd hb1 KDE)
  go_upto_region 4 with (go_at_call 22; refine (KAP.out _ _ _ Sa.out Sc.out).mono ?_; rintro e w9 ⟨v1, rfl, hr1, hb1⟩; replace Sa := Lib.hid (Sa.out.below hb1); replace Sb := Lib.hid (Sb.out.below hb1); replace Sc := Lib.hid (Sc.out.below hb1); replace Sd := Lib.hid (Sd.out.below hb1); replace BB := Lib.hid (below_step BB.out hb1); obtain ⟨al, cl, rfl, hd⟩ := ndsO hr1; rw [HNL.out] at hd ⊢; have Sl := Lib.hid hd; clear hr1 hd hb1 KAP)
  cases oa : okL sa
  · have h1 := HPA.out
    rw [applyE_no (by rw [oa]; rfl)] at h1
    obtain ⟨hl5, rfl⟩ := Prod.mk.inj h1
    obtain rfl : nl = 0 := by rw [← HNL.out, ← hl5]; rfl
    clear h1 hl5
    have h5 := HPD.out
    rw [deltaE_no (by rw [oa]; rfl)] at h5
    obtain ⟨hd5, rfl⟩ := Prod.mk.inj h5
    obtain rfl : nd = 0 := by rw [← HND.out, ← hd5]; rfl
    clear h5 hd5
    have kma := KMA0.out
    rw [oa] at kma
    have KMA := Lib.hid kma
    clear kma oa
    go_wp2_with (first
        | (go_at_call 13; refine (KMA.out _ _ Sa.out).mono ?_; rintro e w9 ⟨rfl, hb1⟩; replace Sa := Lib.hid (Sa.out.below hb1); replace Sb := Lib.hid (Sb.out.below hb1); replace Sc := Lib.hid (Sc.out.below hb1); replace Sd := Lib.hid (Sd.out.below hb1); replace Sl := Lib.hid (Sl.out.below hb1); replace BB := Lib.hid (below_step BB.out hb1); clear hb1)
        | (go_at_call 18; refine (lawake_any _).mono ?_; rintro e w9 ⟨rfl, hb1⟩; replace Sa := Lib.hid (Sa.out.below hb1); replace Sb := Lib.hid (Sb.out.below hb1); replace Sc := Lib.hid (Sc.out.below hb1); replace Sd := Lib.hid (Sd.out.below hb1); replace Sl := Lib.hid (Sl.out.below hb1); replace BB := Lib.hid (below_step BB.out hb1); clear hb1))
    go_ret
    exact ⟨rfl, BB.out⟩
  · have kma := KMA0.out
    rw [oa] at kma
    have KMA := Lib.hid kma
    replace oa := Lib.hid oa
    clear kma
    cases oc : okCs sc
    · have h1 := HPA.out
      rw [applyE_no (by rw [oa.out, oc]; rfl)] at h1
      obtain ⟨hl5, rfl⟩ := Prod.mk.inj h1
      obtain rfl : nl = 0 := by rw [← HNL.out, ← hl5]; rfl
      clear h1 hl5
      have kch := KCH0.out
      rw [oc] at kch
      have KCH := Lib.hid kch
      clear kch oc
      go_upto_region 10 with (first
          | (go_at_call 13; refine (KMA.out _ _ Sa.out).mono ?_; rintro e w9 ⟨rfl, hb1⟩; replace Sa := Lib.hid (Sa.out.below hb1); replace Sb := Lib.hid (Sb.out.below hb1); replace Sc := Lib.hid (Sc.out.below hb1); replace Sd := Lib.hid (Sd.out.below hb1); replace Sl := Lib.hid (Sl.out.below hb1); replace BB := Lib.hid (below_step BB.out hb1); clear hb1)
          | (go_at_call 23; refine (KCH.out _ _ Sc.out).mono ?_; rintro e w9 ⟨rfl, hb1⟩; replace Sa := Lib.hid (Sa.out.below hb1); replace Sb := Lib.hid (Sb.out.below hb1); replace Sc := Lib.hid (Sc.out.below hb1); replace Sd := Lib.hid (Sd.out.below hb1); replace Sl := Lib.hid (Sl.out.below hb1); replace BB := Lib.hid (below_step BB.out hb1); clear hb1))
      cases ob : okL sb
      · have h5 := HPD.out
        rw [deltaE_no (by rw [oa.out, ob]; rfl)] at h5
        obtain ⟨hd5, rfl⟩ := Prod.mk.inj h5
        obtain rfl : nd = 0 := by rw [← HND.out, ← hd5]; rfl
        clear h5 hd5
        have kmb := KMB0.out
        rw [ob] at kmb
        have KMB := Lib.hid kmb
        clear kmb ob KMB0
        go_upto_region 11 with (first
            | (go_at_call 13; refine (KMA.out _ _ Sa.out).mono ?_; rintro e w9 ⟨rfl, hb1⟩; replace Sa := Lib.hid (Sa.out.below hb1); replace Sb := Lib.hid (Sb.out.below hb1); replace Sc := Lib.hid (Sc.out.below hb1); replace Sd := Lib.hid (Sd.out.below hb1); replace Sl := Lib.hid (Sl.out.below hb1); replace BB := Lib.hid (below_step BB.out hb1); clear hb1 KMA)
            | (go_at_call 13; refine (KMB.out _ _ Sb.out).mono ?_; rintro e w9 ⟨rfl, hb1⟩; replace Sa := Lib.hid (Sa.out.below hb1); replace Sb := Lib.hid (Sb.out.below hb1); replace Sc := Lib.hid (Sc.out.below hb1); replace Sd := Lib.hid (Sd.out.below hb1); replace Sl := Lib.hid (Sl.out.below hb1); replace BB := Lib.hid (below_step BB.out hb1); clear hb1))
        go_wp2_with (go_at_call 18; refine (lawake_any _).mono ?_; rintro e w9 ⟨rfl, hb1⟩; replace Sa := Lib.hid (Sa.out.below hb1); replace Sb := Lib.hid (Sb.out.below hb1); replace Sc := Lib.hid (Sc.out.below hb1); replace Sd := Lib.hid (Sd.out.below hb1); replace Sl := Lib.hid (Sl.out.below hb1); replace BB := Lib.hid (below_step BB.out hb1); clear hb1)
        go_ret
        exact ⟨rfl, BB.out⟩
      · have h5 := HPD.out
        rw [deltaE_yes oa.out ob] at h5
        obtain ⟨hd5, rfl⟩ := Prod.mk.inj h5
        have krd := fun U V w h h' => refdelta17_any U V sa sb w h h' HZA.out HZB.out (by rw [HNA.out]; omega) (by rw [HNB.out]; omega)
        rw [hd5] at krd
        have KRD := Lib.hid krd
        have kmb := KMB0.out
        rw [ob] at kmb
        have KMB := Lib.hid kmb
        clear h5 hd5 krd kmb ob KMB0
        go_upto_region 12 with (first
            | (go_at_call 13; refine (KMA.out _ _ Sa.out).mono ?_; rintro e w9 ⟨rfl, hb1⟩; replace Sa := Lib.hid (Sa.out.below hb1); replace Sb := Lib.hid (Sb.out.below hb1); replace Sc := Lib.hid (Sc.out.below hb1); replace Sd := Lib.hid (Sd.out.below hb1); replace Sl := Lib.hid (Sl.out.below hb1); replace BB := Lib.hid (below_step BB.out hb1); clear hb1 KMA)
            | (go_at_call 13; refine (KMB.out _ _ Sb.out).mono ?_; rintro e w9 ⟨rfl, hb1⟩; replace Sa := Lib.hid (Sa.out.below hb1); replace Sb := Lib.hid (Sb.out.below hb1); replace Sc := Lib.hid (Sc.out.below hb1); replace Sd := Lib.hid (Sd.out.below hb1); replace Sl := Lib.hid (Sl.out.below hb1); replace BB := Lib.hid (below_step BB.out hb1); clear hb1))
        go_wp2_with (first
            | (go_at_call 26; refine (KRD.out _ _ _ Sa.out Sb.out).mono ?_; rintro e w9 ⟨v1, rfl, hr1, hb1⟩; replace Sa := Lib.hid (Sa.out.below hb1); replace Sb := Lib.hid (Sb.out.below hb1); replace Sc := Lib.hid (Sc.out.below hb1); replace Sd := Lib.hid (Sd.out.below hb1); replace Sl := Lib.hid (Sl.out.below hb1); replace BB := Lib.hid (below_step BB.out hb1); obtain ⟨ar, cr, rfl, hd⟩ := chsO hr1; rw [HND.out] at hd ⊢; have Sr := Lib.hid hd; clear hr1 hd hb1 KRD)
            | (go_at_call 25; refine (chsame_any _ _ _ _ _ Sd.out Sr.out).mono ?_; rintro e w9 ⟨rfl, hb1⟩; rw [decChs]; replace Sa := Lib.hid (Sa.out.below hb1); replace Sb := Lib.hid (Sb.out.below hb1); replace Sc := Lib.hid (Sc.out.below hb1); replace Sd := Lib.hid (Sd.out.below hb1); replace Sl := Lib.hid (Sl.out.below hb1); replace Sr := Lib.hid (Sr.out.below hb1); replace BB := Lib.hid (below_step BB.out hb1); clear hb1)
            | (go_at_call 18; refine (lawake_any _).mono ?_; rintro e w9 ⟨rfl, hb1⟩; replace Sa := Lib.hid (Sa.out.below hb1); replace Sb := Lib.hid (Sb.out.below hb1); replace Sc := Lib.hid (Sc.out.below hb1); replace Sd := Lib.hid (Sd.out.below hb1); replace Sl := Lib.hid (Sl.out.below hb1); replace Sr := Lib.hid (Sr.out.below hb1); replace BB := Lib.hid (below_step BB.out hb1); clear hb1))
        go_ret
        exact ⟨rfl, BB.out⟩
    · have kch := KCH0.out
      rw [oc] at kch
      have KCH := Lib.hid kch
      have kra := fun U V w h h' => refapply_any U V sa sc w h h' HZA.out HZC.out (by rw [HNA.out]; omega) (by rw [HNC.out]; omega) oa.out oc
      rw [HPA.out] at kra
      simp only at kra
      obtain ⟨fo, hfo⟩ : ∃ f, fitsL sa sc = f := ⟨_, rfl⟩
      rw [hfo] at kra
      have KRA := Lib.hid kra
      clear kch kra
      go_upto_region 7 with (first
          | (go_at_call 13; refine (KMA.out _ _ Sa.out).mono ?_; rintro e w9 ⟨rfl, hb1⟩; replace Sa := Lib.hid (Sa.out.below hb1); replace Sb := Lib.hid (Sb.out.below hb1); replace Sc := Lib.hid (Sc.out.below hb1); replace Sd := Lib.hid (Sd.out.below hb1); replace Sl := Lib.hid (Sl.out.below hb1); replace BB := Lib.hid (below_step BB.out hb1); clear hb1)
          | (go_at_call 23; refine (KCH.out _ _ Sc.out).mono ?_; rintro e w9 ⟨rfl, hb1⟩; replace Sa := Lib.hid (Sa.out.below hb1); replace Sb := Lib.hid (Sb.out.below hb1); replace Sc := Lib.hid (Sc.out.below hb1); replace Sd := Lib.hid (Sd.out.below hb1); replace Sl := Lib.hid (Sl.out.below hb1); replace BB := Lib.hid (below_step BB.out hb1); clear hb1))
      go_upto_region 8 with (go_at_call 24; refine (KRA.out _ _ _ Sa.out Sc.out).mono ?_; rintro e w9 ⟨v1, rfl, hr1, hb1⟩; replace Sa := Lib.hid (Sa.out.below hb1); replace Sb := Lib.hid (Sb.out.below hb1); replace Sc := Lib.hid (Sc.out.below hb1); replace Sd := Lib.hid (Sd.out.below hb1); replace Sl := Lib.hid (Sl.out.below hb1); replace BB := Lib.hid (below_step BB.out hb1); obtain ⟨aW, cW, rfl, -⟩ := hr1.ex; rw [HNL.out] at hr1 ⊢; have SW := Lib.hid hr1; clear hr1 hb1 KRA)
      cases fo
      · have h1 := HPA.out
        rw [applyE_off oa.out oc hfo] at h1
        obtain ⟨hl5, rfl⟩ := Prod.mk.inj h1
        obtain rfl : nl = 0 := by rw [← HNL.out, ← hl5]; rfl
        clear h1 hl5 oc hfo
        go_upto_region 10 with fail
        cases ob : okL sb
        · have h5 := HPD.out
          rw [deltaE_no (by rw [oa.out, ob]; rfl)] at h5
          obtain ⟨hd5, rfl⟩ := Prod.mk.inj h5
          obtain rfl : nd = 0 := by rw [← HND.out, ← hd5]; rfl
          clear h5 hd5
          have kmb := KMB0.out
          rw [ob] at kmb
          have KMB := Lib.hid kmb
          clear kmb ob KMB0
          go_upto_region 11 with (first
              | (go_at_call 13; refine (KMA.out _ _ Sa.out).mono ?_; rintro e w9 ⟨rfl, hb1⟩; replace Sa := Lib.hid (Sa.out.below hb1); replace Sb := Lib.hid (Sb.out.below hb1); replace Sc := Lib.hid (Sc.out.below hb1); replace Sd := Lib.hid (Sd.out.below hb1); replace Sl := Lib.hid (Sl.out.below hb1); replace SW := Lib.hid (SW.out.below hb1); replace BB := Lib.hid (below_step BB.out hb1); clear hb1 KMA)
              | (go_at_call 13; refine (KMB.out _ _ Sb.out).mono ?_; rintro e w9 ⟨rfl, hb1⟩; replace Sa := Lib.hid (Sa.out.below hb1); replace Sb := Lib.hid (Sb.out.below hb1); replace Sc := Lib.hid (Sc.out.below hb1); replace Sd := Lib.hid (Sd.out.below hb1); replace Sl := Lib.hid (Sl.out.below hb1); replace SW := Lib.hid (SW.out.below hb1); replace BB := Lib.hid (below_step BB.out hb1); clear hb1))
          go_wp2_with (go_at_call 18; refine (lawake_any _).mono ?_; rintro e w9 ⟨rfl, hb1⟩; replace Sa := Lib.hid (Sa.out.below hb1); replace Sb := Lib.hid (Sb.out.below hb1); replace Sc := Lib.hid (Sc.out.below hb1); replace Sd := Lib.hid (Sd.out.below hb1); replace Sl := Lib.hid (Sl.out.below hb1); replace SW := Lib.hid (SW.out.below hb1); replace BB := Lib.hid (below_step BB.out hb1); clear hb1)
          go_ret
          exact ⟨rfl, BB.out⟩
        · have h5 := HPD.out
          rw [deltaE_yes oa.out ob] at h5
          obtain ⟨hd5, rfl⟩ := Prod.mk.inj h5
          have krd := fun U V w h h' => refdelta17_any U V sa sb w h h' HZA.out HZB.out (by rw [HNA.out]; omega) (by rw [HNB.out]; omega)
          rw [hd5] at krd
          have KRD := Lib.hid krd
          have kmb := KMB0.out
          rw [ob] at kmb
          have KMB := Lib.hid kmb
          clear h5 hd5 krd kmb ob KMB0
          go_upto_region 12 with (first
              | (go_at_call 13; refine (KMA.out _ _ Sa.out).mono ?_; rintro e w9 ⟨rfl, hb1⟩; replace Sa := Lib.hid (Sa.out.below hb1); replace Sb := Lib.hid (Sb.out.below hb1); replace Sc := Lib.hid (Sc.out.below hb1); replace Sd := Lib.hid (Sd.out.below hb1); replace Sl := Lib.hid (Sl.out.below hb1); replace SW := Lib.hid (SW.out.below hb1); replace BB := Lib.hid (below_step BB.out hb1); clear hb1 KMA)
              | (go_at_call 13; refine (KMB.out _ _ Sb.out).mono ?_; rintro e w9 ⟨rfl, hb1⟩; replace Sa := Lib.hid (Sa.out.below hb1); replace Sb := Lib.hid (Sb.out.below hb1); replace Sc := Lib.hid (Sc.out.below hb1); replace Sd := Lib.hid (Sd.out.below hb1); replace Sl := Lib.hid (Sl.out.below hb1); replace SW := Lib.hid (SW.out.below hb1); replace BB := Lib.hid (below_step BB.out hb1); clear hb1))
          go_wp2_with (first
              | (go_at_call 26; refine (KRD.out _ _ _ Sa.out Sb.out).mono ?_; rintro e w9 ⟨v1, rfl, hr1, hb1⟩; replace Sa := Lib.hid (Sa.out.below hb1); replace Sb := Lib.hid (Sb.out.below hb1); replace Sc := Lib.hid (Sc.out.below hb1); replace Sd := Lib.hid (Sd.out.below hb1); replace Sl := Lib.hid (Sl.out.below hb1); replace SW := Lib.hid (SW.out.below hb1); replace BB := Lib.hid (below_step BB.out hb1); obtain ⟨ar, cr, rfl, hd⟩ := chsO hr1; rw [HND.out] at hd ⊢; have Sr := Lib.hid hd; clear hr1 hd hb1 KRD)
              | (go_at_call 25; refine (chsame_any _ _ _ _ _ Sd.out Sr.out).mono ?_; rintro e w9 ⟨rfl, hb1⟩; rw [decChs]; replace Sa := Lib.hid (Sa.out.below hb1); replace Sb := Lib.hid (Sb.out.below hb1); replace Sc := Lib.hid (Sc.out.below hb1); replace Sd := Lib.hid (Sd.out.below hb1); replace Sl := Lib.hid (Sl.out.below hb1); replace SW := Lib.hid (SW.out.below hb1); replace Sr := Lib.hid (Sr.out.below hb1); replace BB := Lib.hid (below_step BB.out hb1); clear hb1)
              | (go_at_call 18; refine (lawake_any _).mono ?_; rintro e w9 ⟨rfl, hb1⟩; replace Sa := Lib.hid (Sa.out.below hb1); replace Sb := Lib.hid (Sb.out.below hb1); replace Sc := Lib.hid (Sc.out.below hb1); replace Sd := Lib.hid (Sd.out.below hb1); replace Sl := Lib.hid (Sl.out.below hb1); replace SW := Lib.hid (SW.out.below hb1); replace Sr := Lib.hid (Sr.out.below hb1); replace BB := Lib.hid (below_step BB.out hb1); clear hb1))
          go_ret
          exact ⟨rfl, BB.out⟩
      · have h1 := HPA.out
        rw [applyE_yes oa.out oc hfo] at h1
        obtain ⟨-, rfl⟩ := Prod.mk.inj h1
        clear h1 oc hfo
        go_upto_region 10 with (go_at_call 15; refine (nsame_any _ _ _ _ _ Sl.out SW.out).mono ?_; rintro e w9 ⟨rfl, hb1⟩; rw [decNds]; replace Sa := Lib.hid (Sa.out.below hb1); replace Sb := Lib.hid (Sb.out.below hb1); replace Sc := Lib.hid (Sc.out.below hb1); replace Sd := Lib.hid (Sd.out.below hb1); replace Sl := Lib.hid (Sl.out.below hb1); replace SW := Lib.hid (SW.out.below hb1); replace BB := Lib.hid (below_step BB.out hb1); clear hb1)
        cases ob : okL sb
        · have h5 := HPD.out
          rw [deltaE_no (by rw [oa.out, ob]; rfl)] at h5
          obtain ⟨hd5, rfl⟩ := Prod.mk.inj h5
          obtain rfl : nd = 0 := by rw [← HND.out, ← hd5]; rfl
          clear h5 hd5
          have kmb := KMB0.out
          rw [ob] at kmb
          have KMB := Lib.hid kmb
          clear kmb ob KMB0
          go_upto_region 11 with (first
              | (go_at_call 13; refine (KMA.out _ _ Sa.out).mono ?_; rintro e w9 ⟨rfl, hb1⟩; replace Sa := Lib.hid (Sa.out.below hb1); replace Sb := Lib.hid (Sb.out.below hb1); replace Sc := Lib.hid (Sc.out.below hb1); replace Sd := Lib.hid (Sd.out.below hb1); replace Sl := Lib.hid (Sl.out.below hb1); replace SW := Lib.hid (SW.out.below hb1); replace BB := Lib.hid (below_step BB.out hb1); clear hb1 KMA)
              | (go_at_call 13; refine (KMB.out _ _ Sb.out).mono ?_; rintro e w9 ⟨rfl, hb1⟩; replace Sa := Lib.hid (Sa.out.below hb1); replace Sb := Lib.hid (Sb.out.below hb1); replace Sc := Lib.hid (Sc.out.below hb1); replace Sd := Lib.hid (Sd.out.below hb1); replace Sl := Lib.hid (Sl.out.below hb1); replace SW := Lib.hid (SW.out.below hb1); replace BB := Lib.hid (below_step BB.out hb1); clear hb1))
          go_wp2_with (go_at_call 18; refine (lawake_any _).mono ?_; rintro e w9 ⟨rfl, hb1⟩; replace Sa := Lib.hid (Sa.out.below hb1); replace Sb := Lib.hid (Sb.out.below hb1); replace Sc := Lib.hid (Sc.out.below hb1); replace Sd := Lib.hid (Sd.out.below hb1); replace Sl := Lib.hid (Sl.out.below hb1); replace SW := Lib.hid (SW.out.below hb1); replace BB := Lib.hid (below_step BB.out hb1); clear hb1)
          go_ret
          exact ⟨rfl, BB.out⟩
        · have h5 := HPD.out
          rw [deltaE_yes oa.out ob] at h5
          obtain ⟨hd5, rfl⟩ := Prod.mk.inj h5
          have krd := fun U V w h h' => refdelta17_any U V sa sb w h h' HZA.out HZB.out (by rw [HNA.out]; omega) (by rw [HNB.out]; omega)
          rw [hd5] at krd
          have KRD := Lib.hid krd
          have kmb := KMB0.out
          rw [ob] at kmb
          have KMB := Lib.hid kmb
          clear h5 hd5 krd kmb ob KMB0
          go_upto_region 12 with (first
              | (go_at_call 13; refine (KMA.out _ _ Sa.out).mono ?_; rintro e w9 ⟨rfl, hb1⟩; replace Sa := Lib.hid (Sa.out.below hb1); replace Sb := Lib.hid (Sb.out.below hb1); replace Sc := Lib.hid (Sc.out.below hb1); replace Sd := Lib.hid (Sd.out.below hb1); replace Sl := Lib.hid (Sl.out.below hb1); replace SW := Lib.hid (SW.out.below hb1); replace BB := Lib.hid (below_step BB.out hb1); clear hb1 KMA)
              | (go_at_call 13; refine (KMB.out _ _ Sb.out).mono ?_; rintro e w9 ⟨rfl, hb1⟩; replace Sa := Lib.hid (Sa.out.below hb1); replace Sb := Lib.hid (Sb.out.below hb1); replace Sc := Lib.hid (Sc.out.below hb1); replace Sd := Lib.hid (Sd.out.below hb1); replace Sl := Lib.hid (Sl.out.below hb1); replace SW := Lib.hid (SW.out.below hb1); replace BB := Lib.hid (below_step BB.out hb1); clear hb1))
          go_wp2_with (first
              | (go_at_call 26; refine (KRD.out _ _ _ Sa.out Sb.out).mono ?_; rintro e w9 ⟨v1, rfl, hr1, hb1⟩; replace Sa := Lib.hid (Sa.out.below hb1); replace Sb := Lib.hid (Sb.out.below hb1); replace Sc := Lib.hid (Sc.out.below hb1); replace Sd := Lib.hid (Sd.out.below hb1); replace Sl := Lib.hid (Sl.out.below hb1); replace SW := Lib.hid (SW.out.below hb1); replace BB := Lib.hid (below_step BB.out hb1); obtain ⟨ar, cr, rfl, hd⟩ := chsO hr1; rw [HND.out] at hd ⊢; have Sr := Lib.hid hd; clear hr1 hd hb1 KRD)
              | (go_at_call 25; refine (chsame_any _ _ _ _ _ Sd.out Sr.out).mono ?_; rintro e w9 ⟨rfl, hb1⟩; rw [decChs]; replace Sa := Lib.hid (Sa.out.below hb1); replace Sb := Lib.hid (Sb.out.below hb1); replace Sc := Lib.hid (Sc.out.below hb1); replace Sd := Lib.hid (Sd.out.below hb1); replace Sl := Lib.hid (Sl.out.below hb1); replace SW := Lib.hid (SW.out.below hb1); replace Sr := Lib.hid (Sr.out.below hb1); replace BB := Lib.hid (below_step BB.out hb1); clear hb1)
              | (go_at_call 18; refine (lawake_any _).mono ?_; rintro e w9 ⟨rfl, hb1⟩; replace Sa := Lib.hid (Sa.out.below hb1); replace Sb := Lib.hid (Sb.out.below hb1); replace Sc := Lib.hid (Sc.out.below hb1); replace Sd := Lib.hid (Sd.out.below hb1); replace Sl := Lib.hid (Sl.out.below hb1); replace SW := Lib.hid (SW.out.below hb1); replace Sr := Lib.hid (Sr.out.below hb1); replace BB := Lib.hid (below_step BB.out hb1); clear hb1))
          go_ret
          exact ⟨rfl, BB.out⟩

theorem own : ownKnob Tryz.prog.godebug = none := by kernel_rfl
theorem laidOut : laidOutB Tryz.prog = true := by kernel_rfl

set_option maxRecDepth 100000 in
theorem lifted (os : Os) (started : os.Started) (H : Type) (enc : TypeId × Value → H) :
    ReturnsInHanded {} Tryz.checked os 4 .any (Rows.listChangesSpec.pre6 enc Tryz.prog Tryz.f4 Rows.listChangesRow.domain false) (Rows.listChangesSpec.post enc Tryz.prog Tryz.f4 false true false false) := by
  refine returnsInHanded_of_change (C := Tryz.checked) own started (by kernel_rfl) Tryz.func4
    (ChangeSpec.witness6 (enc := enc) (C := Tryz.checked) false ⟨#[], #[.slice none 0 0, .slice none 0 0, .slice none 0 0], []⟩ 8 (by kernel_rfl) (by kernel_rfl) (by kernel_rfl) (by kernel_rfl)) ?_
  intro W base args ds gs before hval0 hW hcnd _
  have hval : ∀ (j : Nat) t v, Tryz.f4.params[j]? = some t → args[j]? = some v → Value.okWide Tryz.prog W .any base t v := hval0
  have hW' := hW
  obtain ⟨p, q, hA0, hV, rfl, hfz, hnd⟩ := hW
  have hA : DataW.TrodAll enc Tryz.prog W 0 (fun _ => true) true Tryz.f4.params.toList args.toList ds p := hA0
  rw [Tryz.params4] at hA hval
  obtain ⟨v0, vs0, d0, ds0, p0, q0, hargs, rfl, rfl, h0, r0⟩ := trodAll_cons hA
  obtain ⟨v1, vs1, d1, ds1, p1, q1, rfl, rfl, rfl, h1, r1⟩ := trodAll_cons r0
  obtain ⟨v2, vs2, d2, ds2, p2, q2, rfl, rfl, rfl, h2, r2⟩ := trodAll_cons r1
  obtain ⟨rfl, rfl, rfl⟩ := trodAll_nil r2
  obtain rfl : args = #[v0, v1, v2] := by cases args; simp_all
  obtain ⟨rfl, rfl⟩ := trodVars_none hV
  obtain ⟨a0, len0, cap0, rfl⟩ := okWide_slice Tryz.underlying22 (hval 0 22 v0 rfl rfl)
  have k0 := h0
  have lt0 : ∀ x ∈ p0, x.block < W.heap.size := by obtain ⟨m, hm⟩ := k0; exact DataW.trod_lt m _ _ _ hm
  obtain ⟨z0, w0⟩ : ∃ zs, Nds W (.slice a0 len0 cap0) zs ∧ ∀ n ∈ zs, fitsN n := by
    obtain ⟨fuel, hf⟩ := h0
    exact nds_open (by simpa [Value.cells] using hf)
  obtain ⟨a1, len1, cap1, rfl⟩ := okWide_slice Tryz.underlying22 (hval 1 22 v1 rfl rfl)
  have k1 := h1
  have lt1 : ∀ x ∈ p1, x.block < W.heap.size := by obtain ⟨m, hm⟩ := k1; exact DataW.trod_lt m _ _ _ hm
  obtain ⟨z1, w1⟩ : ∃ zs, Nds W (.slice a1 len1 cap1) zs ∧ ∀ n ∈ zs, fitsN n := by
    obtain ⟨fuel, hf⟩ := h1
    exact nds_open (by simpa [Value.cells] using hf)
  obtain ⟨a2, len2, cap2, rfl⟩ := okWide_slice Tryz.underlying41 (hval 2 41 v2 rfl rfl)
  have k2 := h2
  have lt2 : ∀ x ∈ p2, x.block < W.heap.size := by obtain ⟨m, hm⟩ := k2; exact DataW.trod_lt m _ _ _ hm
  obtain ⟨z2, w2⟩ : ∃ zs, Chs W (.slice a2 len2 cap2) zs ∧ ∀ e ∈ zs, fitC e := by
    obtain ⟨fuel, hf⟩ := h2
    exact chs_open (by simpa [Value.cells] using hf)
  clear hA0 hval0
  refine (walk _ z0 _ z1 _ z2 W w0 w1 w2).mono fun e W' ⟨he, bel⟩ => ?_
  subst he
  exact ⟨_, rfl, _, _, _, [], _, [], hW', trodAll_mk1 (shut_bool Tryz.underlying4 _), (trodAll_cons_mk (Below.trod laidOut (by kernel_rfl) (of_decide_eq_true (by kernel_rfl)) k0 bel lt0) (trodAll_cons_mk (Below.trod laidOut (by kernel_rfl) (of_decide_eq_true (by kernel_rfl)) k1 bel lt1) (trodAll_cons_mk (Below.trod laidOut (by kernel_rfl) (of_decide_eq_true (by kernel_rfl)) k2 bel lt2) trodAll_mk0))), rfl, bel.frame _, fun h => by cases h⟩

-- the given statement
theorem proved : Rows.ListChangesSaid :=
  OpenClaim.holds_of_wide 4 Tryz.f4 rfl rfl rfl rfl rfl rfl rfl ⟨rfl, rfl, rfl, rfl, rfl⟩ rfl rfl rfl rfl rfl (by kernel_rfl) Tryz.func4 (by kernel_rfl)
    (of_decide_eq_true (by kernel_rfl)) (by unfold Func.isWrapper; first | (rw [if_pos (by decide +kernel)]; kernel_rfl) | (rw [if_neg (by decide +kernel)]; exact ⟨rfl, rfl⟩))
    (fun os started H enc _ => lifted os started H enc)
end Go.Proofs.YtlbibgofhhdgoaaGreat.listChanges
