/- Of every two lists of nodes and every needs (no more, and no longer, than are looked at): whether the needs may be, what is missing, and who needs it, or why not, as the document says; no condition. -/
import Derived.Test.YtjnkjjlpkgbkiaaGreatRows
import Derived.Test.YtjnkjjlpkgbkiaaGreatLakJ
import Derived.Test.YtjnkjjlpkgbkiaaGreatLakN
import Derived.Test.YtjnkjjlpkgbkiaaGreatNodQ
import Derived.ProofKit
import Derived.OpenShut
import Derived.ShutString
import Derived.ChangeOld
namespace Go.Proofs.YtjnkjjlpkgbkiaaGreat.lackTells
open Go.ChangeShapes Go.WideShapes Go.ChangeAt Go.RowKit
open Go.ChangeMaps (open_string shut_string)
set_option maxRecDepth 100000
set_option linter.unusedVariables false

theorem decNds (l : List Nd) : decide (l = l) = true := decide_eq_true rfl
theorem decLks (l : List Lk) : decide (l = l) = true := decide_eq_true rfl
theorem fewNs_text (l : List Nd) : ∀ n ∈ fewNs l, n.1.length ≤ 400 ∧ n.2.length ≤ 400 := fun n h => by
  obtain ⟨m, _, rfl⟩ := List.mem_map.1 h; exact ⟨fewL_len _, fewL_len _⟩
set_option maxRecDepth 100000 in
set_option maxHeartbeats 3200000 in
theorem walk (Ua : Value) (ka : List Nd) (Ub : Value) (kb : List Nd) (D : Value) (d0 : List Ne) (w : World) (hUa : Nds w Ua ka ∧ ∀ n ∈ ka, fitsN n) (hUb : Nds w Ub kb ∧ ∀ n ∈ kb, fitsN n) (hD : Nes w D d0 ∧ ∀ e ∈ d0, fitNe e) :
    Calls Tryz.prog 3 #[Ua, Ub, D] w fun e w' => e = .returned (.bool true) ∧ Below w.heap.size w w' := by
  obtain ⟨hUa, fUa⟩ := hUa
  obtain ⟨Aa, ca, rfl, -⟩ := hUa.ex
  have kfa := fun V w h => nfewo_any V ka w h fUa
  have hmla := fewNs_len ka; have hmza := fewNs_small ka; have hmta := fewNs_text ka
  obtain ⟨ma, hma⟩ : ∃ r, ka.length = r := ⟨_, rfl⟩
  rw [hma] at hUa ⊢
  obtain ⟨sa, hsa⟩ : ∃ r, fewNs ka = r := ⟨_, rfl⟩
  rw [hsa] at kfa hmla hmza hmta
  obtain ⟨na, hna⟩ : ∃ r, sa.length = r := ⟨_, rfl⟩
  rw [hna] at hmla
  have SUa := Lib.hid hUa; have KFa := Lib.hid kfa; have HZA := Lib.hid hmza; have HNA := Lib.hid hna; have HTA := Lib.hid hmta
  clear hUa fUa kfa hmza hmta hma hsa hna
  obtain ⟨hUb, fUb⟩ := hUb
  obtain ⟨Ab, cb, rfl, -⟩ := hUb.ex
  have kfb := fun V w h => nfewo_any V kb w h fUb
  have hmlb := fewNs_len kb; have hmzb := fewNs_small kb; have hmtb := fewNs_text kb
  obtain ⟨mb, hmb⟩ : ∃ r, kb.length = r := ⟨_, rfl⟩
  rw [hmb] at hUb ⊢
  obtain ⟨sb, hsb⟩ : ∃ r, fewNs kb = r := ⟨_, rfl⟩
  rw [hsb] at kfb hmlb hmzb hmtb
  obtain ⟨nb, hnb⟩ : ∃ r, sb.length = r := ⟨_, rfl⟩
  rw [hnb] at hmlb
  have SUb := Lib.hid hUb; have KFb := Lib.hid kfb; have HZB := Lib.hid hmzb; have HNB := Lib.hid hnb; have HTB := Lib.hid hmtb
  clear hUb fUb kfb hmzb hmtb hmb hsb hnb
  obtain ⟨hD, fD⟩ := hD
  obtain ⟨AD, cD, rfl, -⟩ := hD.ex
  have kfD := fun V w h => lfew_any V d0 w h fD
  have hml := fewK_len d0; have hmz := fewK_small d0
  obtain ⟨mD, hmD⟩ : ∃ r, d0.length = r := ⟨_, rfl⟩
  rw [hmD] at hD ⊢
  obtain ⟨d, hd⟩ : ∃ r, fewK d0 = r := ⟨_, rfl⟩
  rw [hd] at kfD hml hmz
  obtain ⟨nd, hnd⟩ : ∃ r, d.length = r := ⟨_, rfl⟩
  rw [hnd] at hml kfD
  have hsz : ∀ x ∈ d, smallNe x := hmz
  have SUD := Lib.hid hD; have KFD := Lib.hid kfD; have HZD := Lib.hid hsz; have HND := Lib.hid hnd
  clear hD fD kfD hmz hsz hmD hd hnd
  have BB := Lib.hid (Below.refl w.heap.size w)
  have kmi := fun U V w hU hV => lMiss_any U V sa sb w hU hV HZA.out HZB.out (by rw [HNA.out]; omega) (by rw [HNB.out]; omega)
  have kof := fun U V D w hU hV hD => lOf_any U V D sa sb d w hU hV hD HZA.out HZB.out HZD.out (by rw [HNA.out]; omega) (by rw [HNB.out]; omega) (by rw [HND.out]; omega)
  have kck := fun V w h => lCheck_any V d w h HZD.out
  have kma := fun V w h => refmayK_any V d w h HZD.out
  have kca := fun V w h => refncheck_any V sa w h HZA.out
  have kcb := fun V w h => refncheck_any V sb w h HZB.out
  have krm := fun U V w hU hV => refnminus_any U V sa sb w hU hV (by rw [HNA.out]; omega)
  have kro := fun (hm : mayK d = true) U V D w hU hV hD => refofK_any U V D sa sb d w hU hV hD hm HZD.out (by rw [HNA.out]; omega) (by rw [HND.out]; omega)
  obtain ⟨PM, hPM⟩ : ∃ E, minusNE sa sb = E := ⟨_, rfl⟩
  obtain ⟨PO, hPO⟩ : ∃ E, lackKE sa sb d = E := ⟨_, rfl⟩
  rw [hPM] at kmi
  rw [hPO] at kof
  obtain ⟨mm, mk⟩ := PM
  obtain ⟨oo, ok⟩ := PO
  simp only at kmi kof
  obtain ⟨nm, hnm⟩ : ∃ r, mm.length = r := ⟨_, rfl⟩
  obtain ⟨no, hno⟩ : ∃ r, oo.length = r := ⟨_, rfl⟩
  have KMI := Lib.hid kmi; have KOF := Lib.hid kof; have KCK0 := Lib.hid kck; have KMA0 := Lib.hid kma; have KCA0 := Lib.hid kca; have KCB0 := Lib.hid kcb; have KRM0 := Lib.hid krm; have KRO0 := Lib.hid kro; have HPM := Lib.hid hPM; have HPO := Lib.hid hPO; have HNM := Lib.hid hnm; have HNO := Lib.hid hno
  clear kmi kof kck kma kca kcb krm kro hPM hPO hnm hno
  go_enter Tryz.func3, Tryz.ntmps3
  go_upto_region 2 with (first
      | (go_at_call 6; refine (KFa.out _ _ SUa.out).mono ?_; rintro e w9 ⟨v1, rfl, hr1, hb1⟩; replace SUb := Lib.hid (SUb.out.below hb1); replace SUD := Lib.hid (SUD.out.below hb1); replace BB := Lib.hid (below_step BB.out hb1); obtain ⟨aa, ca, rfl, hd⟩ := ndsO hr1; rw [HNA.out] at hd ⊢; have Sa := Lib.hid hd; clear hr1 hd hb1 KFa SUa)
      | (go_at_call 6; refine (KFb.out _ _ SUb.out).mono ?_; rintro e w9 ⟨v1, rfl, hr1, hb1⟩; replace SUD := Lib.hid (SUD.out.below hb1); replace Sa := Lib.hid (Sa.out.below hb1); replace BB := Lib.hid (below_step BB.out hb1); obtain ⟨ab, cb, rfl, hd⟩ := ndsO hr1; rw [HNB.out] at hd ⊢; have Sb := Lib.hid hd; clear hr1 hd hb1 KFb SUb)
      | (go_at_call 7; refine (KFD.out _ _ SUD.out).mono ?_; rintro e w9 ⟨aD, cD, rfl, hr1, hb1⟩; replace Sa := Lib.hid (Sa.out.below hb1); replace Sb := Lib.hid (Sb.out.below hb1); replace BB := Lib.hid (below_step BB.out hb1); have SD := Lib.hid hr1; clear hr1 hb1 KFD SUD))
  go_upto_region 3 with (go_at_call 8; refine (KMI.out _ _ _ Sa.out Sb.out).mono ?_; rintro e w9 ⟨am, cm, rfl, hd, hb1⟩; replace Sa := Lib.hid (Sa.out.below hb1); replace Sb := Lib.hid (Sb.out.below hb1); replace SD := Lib.hid (SD.out.below hb1); replace BB := Lib.hid (below_step BB.out hb1); rw [HNM.out] at hd ⊢; have Sm := Lib.hid hd; clear hd hb1 KMI)
  go_upto_region 4 with (go_at_call 9; refine (KOF.out _ _ _ _ Sa.out Sb.out SD.out).mono ?_; rintro e w9 ⟨v1, rfl, ho1, hb1⟩; replace Sa := Lib.hid (Sa.out.below hb1); replace Sb := Lib.hid (Sb.out.below hb1); replace SD := Lib.hid (SD.out.below hb1); replace Sm := Lib.hid (Sm.out.below hb1); replace BB := Lib.hid (below_step BB.out hb1); obtain ⟨ao, co, hv1, hd1⟩ := ho1.form; rw [HNO.out] at hv1 hd1; subst hv1; have So := Lib.hid hd1; clear ho1 hd1 hb1 KOF)
  cases OA0 : checkN sa
  · have OA := Lib.hid OA0
    clear OA0
    have h1 := HPM.out
    rw [minusNE_no (by rw [OA.out]; rfl)] at h1
    obtain ⟨h3, rfl⟩ := Prod.mk.inj h1
    have h2 := HPO.out
    rw [lackKE_no (by rw [OA.out]; rfl)] at h2
    obtain ⟨h4, rfl⟩ := Prod.mk.inj h2
    obtain rfl : nm = 0 := by rw [← HNM.out, ← h3]; rfl
    obtain rfl : no = 0 := by rw [← HNO.out, ← h4]; rfl
    clear h1 h2 h3 h4
    cases od : mayK d
    · have kck := KCK0.out
      rw [chkK_no od] at kck
      have kma := KMA0.out
      rw [od] at kma
      have KCK := Lib.hid kck; have KMA := Lib.hid kma
      clear kck kma KCK0 KMA0
      go_upto_region 6 with (first
          | (go_at_call 10; refine (KCK.out _ _ SD.out).mono ?_; rintro e w9 ⟨rfl, hb1⟩; replace Sa := Lib.hid (Sa.out.below hb1); replace Sb := Lib.hid (Sb.out.below hb1); replace SD := Lib.hid (SD.out.below hb1); replace Sm := Lib.hid (Sm.out.below hb1); replace So := Lib.hid (So.out.below hb1); replace BB := Lib.hid (below_step BB.out hb1); clear hb1)
          | (go_at_call 11; refine (KMA.out _ _ SD.out).mono ?_; rintro e w9 ⟨rfl, hb1⟩; replace Sa := Lib.hid (Sa.out.below hb1); replace Sb := Lib.hid (Sb.out.below hb1); replace SD := Lib.hid (SD.out.below hb1); replace Sm := Lib.hid (Sm.out.below hb1); replace So := Lib.hid (So.out.below hb1); replace BB := Lib.hid (below_step BB.out hb1); clear hb1))
      go_wp2_with (first
          | (go_at_call 12; refine Calls.mono (refncheck_any _ _ _ (by first | exact Sa.out | exact Sb.out) (by first | exact HZA.out | exact HZB.out)) ?_; rintro e w9 ⟨rfl, hb1⟩; (first | rw [OA.out] | rw [OB.out]); replace Sa := Lib.hid (Sa.out.below hb1); replace Sb := Lib.hid (Sb.out.below hb1); replace SD := Lib.hid (SD.out.below hb1); replace Sm := Lib.hid (Sm.out.below hb1); replace So := Lib.hid (So.out.below hb1); replace BB := Lib.hid (below_step BB.out hb1); clear hb1)
          | (go_at_call 13; refine (kawake_any _).mono ?_; rintro e w9 ⟨rfl, hb1⟩; replace Sa := Lib.hid (Sa.out.below hb1); replace Sb := Lib.hid (Sb.out.below hb1); replace SD := Lib.hid (SD.out.below hb1); replace Sm := Lib.hid (Sm.out.below hb1); replace So := Lib.hid (So.out.below hb1); replace BB := Lib.hid (below_step BB.out hb1); clear hb1))
      go_ret
      exact ⟨rfl, BB.out⟩
    · have kck := KCK0.out
      rw [chkK_yes od] at kck
      have kma := KMA0.out
      rw [od] at kma
      have KCK := Lib.hid kck; have KMA := Lib.hid kma
      clear kck kma KCK0 KMA0
      go_upto_region 6 with (first
          | (go_at_call 10; refine (KCK.out _ _ SD.out).mono ?_; rintro e w9 ⟨rfl, hb1⟩; replace Sa := Lib.hid (Sa.out.below hb1); replace Sb := Lib.hid (Sb.out.below hb1); replace SD := Lib.hid (SD.out.below hb1); replace Sm := Lib.hid (Sm.out.below hb1); replace So := Lib.hid (So.out.below hb1); replace BB := Lib.hid (below_step BB.out hb1); clear hb1)
          | (go_at_call 11; refine (KMA.out _ _ SD.out).mono ?_; rintro e w9 ⟨rfl, hb1⟩; replace Sa := Lib.hid (Sa.out.below hb1); replace Sb := Lib.hid (Sb.out.below hb1); replace SD := Lib.hid (SD.out.below hb1); replace Sm := Lib.hid (Sm.out.below hb1); replace So := Lib.hid (So.out.below hb1); replace BB := Lib.hid (below_step BB.out hb1); clear hb1))
      go_wp2_with (first
          | (go_at_call 12; refine Calls.mono (refncheck_any _ _ _ (by first | exact Sa.out | exact Sb.out) (by first | exact HZA.out | exact HZB.out)) ?_; rintro e w9 ⟨rfl, hb1⟩; (first | rw [OA.out] | rw [OB.out]); replace Sa := Lib.hid (Sa.out.below hb1); replace Sb := Lib.hid (Sb.out.below hb1); replace SD := Lib.hid (SD.out.below hb1); replace Sm := Lib.hid (Sm.out.below hb1); replace So := Lib.hid (So.out.below hb1); replace BB := Lib.hid (below_step BB.out hb1); clear hb1)
          | (go_at_call 13; refine (kawake_any _).mono ?_; rintro e w9 ⟨rfl, hb1⟩; replace Sa := Lib.hid (Sa.out.below hb1); replace Sb := Lib.hid (Sb.out.below hb1); replace SD := Lib.hid (SD.out.below hb1); replace Sm := Lib.hid (Sm.out.below hb1); replace So := Lib.hid (So.out.below hb1); replace BB := Lib.hid (below_step BB.out hb1); clear hb1))
      go_ret
      exact ⟨rfl, BB.out⟩
  · have OA := Lib.hid OA0
    clear OA0
    cases OB0 : checkN sb
    · have OB := Lib.hid OB0
      clear OB0
      have h1 := HPM.out
      rw [minusNE_no (by rw [OA.out, OB.out]; rfl)] at h1
      obtain ⟨h3, rfl⟩ := Prod.mk.inj h1
      have h2 := HPO.out
      rw [lackKE_no (by rw [OA.out, OB.out]; rfl)] at h2
      obtain ⟨h4, rfl⟩ := Prod.mk.inj h2
      obtain rfl : nm = 0 := by rw [← HNM.out, ← h3]; rfl
      obtain rfl : no = 0 := by rw [← HNO.out, ← h4]; rfl
      clear h1 h2 h3 h4
      cases od : mayK d
      · have kck := KCK0.out
        rw [chkK_no od] at kck
        have kma := KMA0.out
        rw [od] at kma
        have KCK := Lib.hid kck; have KMA := Lib.hid kma
        clear kck kma KCK0 KMA0
        go_upto_region 6 with (first
            | (go_at_call 10; refine (KCK.out _ _ SD.out).mono ?_; rintro e w9 ⟨rfl, hb1⟩; replace Sa := Lib.hid (Sa.out.below hb1); replace Sb := Lib.hid (Sb.out.below hb1); replace SD := Lib.hid (SD.out.below hb1); replace Sm := Lib.hid (Sm.out.below hb1); replace So := Lib.hid (So.out.below hb1); replace BB := Lib.hid (below_step BB.out hb1); clear hb1)
            | (go_at_call 11; refine (KMA.out _ _ SD.out).mono ?_; rintro e w9 ⟨rfl, hb1⟩; replace Sa := Lib.hid (Sa.out.below hb1); replace Sb := Lib.hid (Sb.out.below hb1); replace SD := Lib.hid (SD.out.below hb1); replace Sm := Lib.hid (Sm.out.below hb1); replace So := Lib.hid (So.out.below hb1); replace BB := Lib.hid (below_step BB.out hb1); clear hb1))
        go_wp2_with (first
            | (go_at_call 12; refine Calls.mono (refncheck_any _ _ _ (by first | exact Sa.out | exact Sb.out) (by first | exact HZA.out | exact HZB.out)) ?_; rintro e w9 ⟨rfl, hb1⟩; (first | rw [OA.out] | rw [OB.out]); replace Sa := Lib.hid (Sa.out.below hb1); replace Sb := Lib.hid (Sb.out.below hb1); replace SD := Lib.hid (SD.out.below hb1); replace Sm := Lib.hid (Sm.out.below hb1); replace So := Lib.hid (So.out.below hb1); replace BB := Lib.hid (below_step BB.out hb1); clear hb1)
            | (go_at_call 13; refine (kawake_any _).mono ?_; rintro e w9 ⟨rfl, hb1⟩; replace Sa := Lib.hid (Sa.out.below hb1); replace Sb := Lib.hid (Sb.out.below hb1); replace SD := Lib.hid (SD.out.below hb1); replace Sm := Lib.hid (Sm.out.below hb1); replace So := Lib.hid (So.out.below hb1); replace BB := Lib.hid (below_step BB.out hb1); clear hb1))
        go_ret
        exact ⟨rfl, BB.out⟩
      · have kck := KCK0.out
        rw [chkK_yes od] at kck
        have kma := KMA0.out
        rw [od] at kma
        have KCK := Lib.hid kck; have KMA := Lib.hid kma
        clear kck kma KCK0 KMA0
        go_upto_region 6 with (first
            | (go_at_call 10; refine (KCK.out _ _ SD.out).mono ?_; rintro e w9 ⟨rfl, hb1⟩; replace Sa := Lib.hid (Sa.out.below hb1); replace Sb := Lib.hid (Sb.out.below hb1); replace SD := Lib.hid (SD.out.below hb1); replace Sm := Lib.hid (Sm.out.below hb1); replace So := Lib.hid (So.out.below hb1); replace BB := Lib.hid (below_step BB.out hb1); clear hb1)
            | (go_at_call 11; refine (KMA.out _ _ SD.out).mono ?_; rintro e w9 ⟨rfl, hb1⟩; replace Sa := Lib.hid (Sa.out.below hb1); replace Sb := Lib.hid (Sb.out.below hb1); replace SD := Lib.hid (SD.out.below hb1); replace Sm := Lib.hid (Sm.out.below hb1); replace So := Lib.hid (So.out.below hb1); replace BB := Lib.hid (below_step BB.out hb1); clear hb1))
        go_wp2_with (first
            | (go_at_call 12; refine Calls.mono (refncheck_any _ _ _ (by first | exact Sa.out | exact Sb.out) (by first | exact HZA.out | exact HZB.out)) ?_; rintro e w9 ⟨rfl, hb1⟩; (first | rw [OA.out] | rw [OB.out]); replace Sa := Lib.hid (Sa.out.below hb1); replace Sb := Lib.hid (Sb.out.below hb1); replace SD := Lib.hid (SD.out.below hb1); replace Sm := Lib.hid (Sm.out.below hb1); replace So := Lib.hid (So.out.below hb1); replace BB := Lib.hid (below_step BB.out hb1); clear hb1)
            | (go_at_call 13; refine (kawake_any _).mono ?_; rintro e w9 ⟨rfl, hb1⟩; replace Sa := Lib.hid (Sa.out.below hb1); replace Sb := Lib.hid (Sb.out.below hb1); replace SD := Lib.hid (SD.out.below hb1); replace Sm := Lib.hid (Sm.out.below hb1); replace So := Lib.hid (So.out.below hb1); replace BB := Lib.hid (below_step BB.out hb1); clear hb1))
        go_ret
        exact ⟨rfl, BB.out⟩
    · have OB := Lib.hid OB0
      clear OB0
      have h1 := HPM.out
      rw [minusNE_yes OA.out OB.out] at h1
      obtain ⟨h3, rfl⟩ := Prod.mk.inj h1
      have krm := KRM0.out
      rw [h3, HNM.out] at krm
      have KRM := Lib.hid krm
      clear h1 h3 krm KRM0
      cases od : mayK d
      · have kck := KCK0.out
        rw [chkK_no od] at kck
        have kma := KMA0.out
        rw [od] at kma
        have KCK := Lib.hid kck; have KMA := Lib.hid kma
        clear kck kma KCK0 KMA0
        have h2 := HPO.out
        rw [lackKE_no (by rw [OA.out, OB.out, od]; rfl)] at h2
        obtain ⟨h4, rfl⟩ := Prod.mk.inj h2
        obtain rfl : no = 0 := by rw [← HNO.out, ← h4]; rfl
        clear h2 h4 od
        go_upto_region 8 with (first
            | (go_at_call 10; refine (KCK.out _ _ SD.out).mono ?_; rintro e w9 ⟨rfl, hb1⟩; replace Sa := Lib.hid (Sa.out.below hb1); replace Sb := Lib.hid (Sb.out.below hb1); replace SD := Lib.hid (SD.out.below hb1); replace Sm := Lib.hid (Sm.out.below hb1); replace So := Lib.hid (So.out.below hb1); replace BB := Lib.hid (below_step BB.out hb1); clear hb1)
            | (go_at_call 11; refine (KMA.out _ _ SD.out).mono ?_; rintro e w9 ⟨rfl, hb1⟩; replace Sa := Lib.hid (Sa.out.below hb1); replace Sb := Lib.hid (Sb.out.below hb1); replace SD := Lib.hid (SD.out.below hb1); replace Sm := Lib.hid (Sm.out.below hb1); replace So := Lib.hid (So.out.below hb1); replace BB := Lib.hid (below_step BB.out hb1); clear hb1)
            | (go_at_call 12; refine Calls.mono (refncheck_any _ _ _ (by first | exact Sa.out | exact Sb.out) (by first | exact HZA.out | exact HZB.out)) ?_; rintro e w9 ⟨rfl, hb1⟩; (first | rw [OA.out] | rw [OB.out]); replace Sa := Lib.hid (Sa.out.below hb1); replace Sb := Lib.hid (Sb.out.below hb1); replace SD := Lib.hid (SD.out.below hb1); replace Sm := Lib.hid (Sm.out.below hb1); replace So := Lib.hid (So.out.below hb1); replace BB := Lib.hid (below_step BB.out hb1); clear hb1))
        go_upto_region 10 with (first
            | (go_at_call 15; refine (KRM.out _ _ _ Sa.out Sb.out).mono ?_; rintro e w9 ⟨ar, cr, rfl, hd, hb1⟩; replace Sa := Lib.hid (Sa.out.below hb1); replace Sb := Lib.hid (Sb.out.below hb1); replace SD := Lib.hid (SD.out.below hb1); replace Sm := Lib.hid (Sm.out.below hb1); replace So := Lib.hid (So.out.below hb1); replace BB := Lib.hid (below_step BB.out hb1); have Sr := Lib.hid hd; clear hd hb1 KRM)
            | (go_at_call 14; refine (nsame_any _ _ _ _ _ Sm.out Sr.out).mono ?_; rintro e w9 ⟨rfl, hb1⟩; rw [decNds]; replace Sa := Lib.hid (Sa.out.below hb1); replace Sb := Lib.hid (Sb.out.below hb1); replace SD := Lib.hid (SD.out.below hb1); replace Sm := Lib.hid (Sm.out.below hb1); replace So := Lib.hid (So.out.below hb1); replace Sr := Lib.hid (Sr.out.below hb1); replace BB := Lib.hid (below_step BB.out hb1); clear hb1))
        go_wp2_with (first
            | (go_at_call 11; refine (KMA.out _ _ SD.out).mono ?_; rintro e w9 ⟨rfl, hb1⟩; replace Sa := Lib.hid (Sa.out.below hb1); replace Sb := Lib.hid (Sb.out.below hb1); replace SD := Lib.hid (SD.out.below hb1); replace Sm := Lib.hid (Sm.out.below hb1); replace So := Lib.hid (So.out.below hb1); replace Sr := Lib.hid (Sr.out.below hb1); replace BB := Lib.hid (below_step BB.out hb1); clear hb1)
            | (go_at_call 13; refine (kawake_any _).mono ?_; rintro e w9 ⟨rfl, hb1⟩; replace Sa := Lib.hid (Sa.out.below hb1); replace Sb := Lib.hid (Sb.out.below hb1); replace SD := Lib.hid (SD.out.below hb1); replace Sm := Lib.hid (Sm.out.below hb1); replace So := Lib.hid (So.out.below hb1); replace Sr := Lib.hid (Sr.out.below hb1); replace BB := Lib.hid (below_step BB.out hb1); clear hb1))
        go_ret
        exact ⟨rfl, BB.out⟩
      · have kro := KRO0.out od
        have kck := KCK0.out
        rw [chkK_yes od] at kck
        have kma := KMA0.out
        rw [od] at kma
        have KCK := Lib.hid kck; have KMA := Lib.hid kma
        clear kck kma KCK0 KMA0
        have h2 := HPO.out
        rw [lackKE_yes OA.out OB.out od, (Prod.mk.inj ((minusNE_yes OA.out OB.out).symm.trans HPM.out)).1] at h2
        obtain ⟨h4, rfl⟩ := Prod.mk.inj h2
        rw [(Prod.mk.inj ((minusNE_yes OA.out OB.out).symm.trans HPM.out)).1, h4] at kro
        have KRO := Lib.hid kro
        clear h2 h4 od kro
        go_upto_region 8 with (first
            | (go_at_call 10; refine (KCK.out _ _ SD.out).mono ?_; rintro e w9 ⟨rfl, hb1⟩; replace Sa := Lib.hid (Sa.out.below hb1); replace Sb := Lib.hid (Sb.out.below hb1); replace SD := Lib.hid (SD.out.below hb1); replace Sm := Lib.hid (Sm.out.below hb1); replace So := Lib.hid (So.out.below hb1); replace BB := Lib.hid (below_step BB.out hb1); clear hb1)
            | (go_at_call 11; refine (KMA.out _ _ SD.out).mono ?_; rintro e w9 ⟨rfl, hb1⟩; replace Sa := Lib.hid (Sa.out.below hb1); replace Sb := Lib.hid (Sb.out.below hb1); replace SD := Lib.hid (SD.out.below hb1); replace Sm := Lib.hid (Sm.out.below hb1); replace So := Lib.hid (So.out.below hb1); replace BB := Lib.hid (below_step BB.out hb1); clear hb1)
            | (go_at_call 12; refine Calls.mono (refncheck_any _ _ _ (by first | exact Sa.out | exact Sb.out) (by first | exact HZA.out | exact HZB.out)) ?_; rintro e w9 ⟨rfl, hb1⟩; (first | rw [OA.out] | rw [OB.out]); replace Sa := Lib.hid (Sa.out.below hb1); replace Sb := Lib.hid (Sb.out.below hb1); replace SD := Lib.hid (SD.out.below hb1); replace Sm := Lib.hid (Sm.out.below hb1); replace So := Lib.hid (So.out.below hb1); replace BB := Lib.hid (below_step BB.out hb1); clear hb1))
        go_upto_region 10 with (first
            | (go_at_call 15; refine (KRM.out _ _ _ Sa.out Sb.out).mono ?_; rintro e w9 ⟨ar, cr, rfl, hd, hb1⟩; replace Sa := Lib.hid (Sa.out.below hb1); replace Sb := Lib.hid (Sb.out.below hb1); replace SD := Lib.hid (SD.out.below hb1); replace Sm := Lib.hid (Sm.out.below hb1); replace So := Lib.hid (So.out.below hb1); replace BB := Lib.hid (below_step BB.out hb1); have Sr := Lib.hid hd; clear hd hb1 KRM)
            | (go_at_call 14; refine (nsame_any _ _ _ _ _ Sm.out Sr.out).mono ?_; rintro e w9 ⟨rfl, hb1⟩; rw [decNds]; replace Sa := Lib.hid (Sa.out.below hb1); replace Sb := Lib.hid (Sb.out.below hb1); replace SD := Lib.hid (SD.out.below hb1); replace Sm := Lib.hid (Sm.out.below hb1); replace So := Lib.hid (So.out.below hb1); replace Sr := Lib.hid (Sr.out.below hb1); replace BB := Lib.hid (below_step BB.out hb1); clear hb1))
        go_upto_region 12 with (go_at_call 11; refine (KMA.out _ _ SD.out).mono ?_; rintro e w9 ⟨rfl, hb1⟩; replace Sa := Lib.hid (Sa.out.below hb1); replace Sb := Lib.hid (Sb.out.below hb1); replace SD := Lib.hid (SD.out.below hb1); replace Sm := Lib.hid (Sm.out.below hb1); replace So := Lib.hid (So.out.below hb1); replace Sr := Lib.hid (Sr.out.below hb1); replace BB := Lib.hid (below_step BB.out hb1); clear hb1)
        go_wp2_with (first
            | (go_at_call 17; refine (KRO.out _ _ _ _ Sa.out Sb.out SD.out).mono ?_; rintro e w9 ⟨v1, rfl, ho1, hb1⟩; replace Sa := Lib.hid (Sa.out.below hb1); replace Sb := Lib.hid (Sb.out.below hb1); replace SD := Lib.hid (SD.out.below hb1); replace Sm := Lib.hid (Sm.out.below hb1); replace So := Lib.hid (So.out.below hb1); replace Sr := Lib.hid (Sr.out.below hb1); replace BB := Lib.hid (below_step BB.out hb1); obtain ⟨aq, cq, hv1, hd1⟩ := ho1.form; rw [HNO.out] at hv1 hd1; subst hv1; have Sq := Lib.hid hd1; clear ho1 hd1 hb1 KRO)
            | (go_at_call 16; refine (refsameK_any _ _ _ _ _ So.out Sq.out).mono ?_; rintro e w9 ⟨rfl, hb1⟩; rw [decLks]; replace Sa := Lib.hid (Sa.out.below hb1); replace Sb := Lib.hid (Sb.out.below hb1); replace SD := Lib.hid (SD.out.below hb1); replace Sm := Lib.hid (Sm.out.below hb1); replace So := Lib.hid (So.out.below hb1); replace Sr := Lib.hid (Sr.out.below hb1); replace Sq := Lib.hid (Sq.out.below hb1); replace BB := Lib.hid (below_step BB.out hb1); clear hb1)
            | (go_at_call 13; refine (kawake_any _).mono ?_; rintro e w9 ⟨rfl, hb1⟩; replace Sa := Lib.hid (Sa.out.below hb1); replace Sb := Lib.hid (Sb.out.below hb1); replace SD := Lib.hid (SD.out.below hb1); replace Sm := Lib.hid (Sm.out.below hb1); replace So := Lib.hid (So.out.below hb1); replace Sr := Lib.hid (Sr.out.below hb1); replace Sq := Lib.hid (Sq.out.below hb1); replace BB := Lib.hid (below_step BB.out hb1); clear hb1))
        go_ret
        exact ⟨rfl, BB.out⟩

theorem own : ownKnob Tryz.prog.godebug = none := by kernel_rfl
theorem laidOut : laidOutB Tryz.prog = true := by kernel_rfl

set_option maxRecDepth 100000 in
theorem lifted (os : Os) (started : os.Started) (H : Type) (enc : TypeId × Value → H) :
    ReturnsInHanded {} Tryz.checked os 3 .any (Rows.lackTellsSpec.pre6 enc Tryz.prog Tryz.f3 Rows.lackTellsRow.domain false) (Rows.lackTellsSpec.post enc Tryz.prog Tryz.f3 false true false false) := by
  refine returnsInHanded_of_change (C := Tryz.checked) own started (by kernel_rfl) Tryz.func3
    (ChangeSpec.witness6 (enc := enc) (C := Tryz.checked) false ⟨#[], #[.slice none 0 0, .slice none 0 0, .slice none 0 0], []⟩ 8 (by kernel_rfl) (by kernel_rfl) (by kernel_rfl) (by kernel_rfl)) ?_
  intro W base args ds gs before hval0 hW hcnd _
  have hval : ∀ (j : Nat) t v, Tryz.f3.params[j]? = some t → args[j]? = some v → Value.okWide Tryz.prog W .any base t v := hval0
  have hW' := hW
  obtain ⟨p, q, hA0, hV, rfl, hfz, hnd⟩ := hW
  have hA : DataW.TrodAll enc Tryz.prog W 0 (fun _ => true) true Tryz.f3.params.toList args.toList ds p := hA0
  rw [Tryz.params3] at hA hval
  obtain ⟨v0, vs0, d0, ds0, p0, q0, hargs, rfl, rfl, h0, r0⟩ := trodAll_cons hA
  obtain ⟨v1, vs1, d1, ds1, p1, q1, rfl, rfl, rfl, h1, r1⟩ := trodAll_cons r0
  obtain ⟨v2, vs2, d2, ds2, p2, q2, rfl, rfl, rfl, h2, r2⟩ := trodAll_cons r1
  obtain ⟨rfl, rfl, rfl⟩ := trodAll_nil r2
  obtain rfl : args = #[v0, v1, v2] := by cases args; simp_all
  obtain ⟨rfl, rfl⟩ := trodVars_none hV
  obtain ⟨a0, len0, cap0, rfl⟩ := okWide_slice Tryz.underlying22 (hval 0 22 v0 rfl rfl)
  have k0 := h0
  have lt0 : ∀ x ∈ p0, x.block < W.heap.size := by obtain ⟨m, hm⟩ := k0; exact DataW.trod_lt m _ _ _ hm
  obtain ⟨z0, w0⟩ : ∃ zs, Nds W (.slice a0 len0 cap0) zs ∧ ∀ n ∈ zs, fitsN n := by
    obtain ⟨fuel, hf⟩ := h0
    exact nds_open (by simpa [Value.cells] using hf)
  obtain ⟨a1, len1, cap1, rfl⟩ := okWide_slice Tryz.underlying22 (hval 1 22 v1 rfl rfl)
  have k1 := h1
  have lt1 : ∀ x ∈ p1, x.block < W.heap.size := by obtain ⟨m, hm⟩ := k1; exact DataW.trod_lt m _ _ _ hm
  obtain ⟨z1, w1⟩ : ∃ zs, Nds W (.slice a1 len1 cap1) zs ∧ ∀ n ∈ zs, fitsN n := by
    obtain ⟨fuel, hf⟩ := h1
    exact nds_open (by simpa [Value.cells] using hf)
  obtain ⟨a2, len2, cap2, rfl⟩ := okWide_slice Tryz.underlying23 (hval 2 23 v2 rfl rfl)
  have k2 := h2
  have lt2 : ∀ x ∈ p2, x.block < W.heap.size := by obtain ⟨m, hm⟩ := k2; exact DataW.trod_lt m _ _ _ hm
  obtain ⟨z2, w2⟩ : ∃ zs, Nes W (.slice a2 len2 cap2) zs ∧ ∀ e ∈ zs, fitNe e := by
    obtain ⟨fuel, hf⟩ := h2
    exact nes_open (by simpa [Value.cells] using hf)
  clear hA0 hval0
  refine (walk _ z0 _ z1 _ z2 W w0 w1 w2).mono fun e W' ⟨he, bel⟩ => ?_
  subst he
  exact ⟨_, rfl, _, _, _, [], _, [], hW', trodAll_mk1 (shut_bool Tryz.underlying4 _), (trodAll_cons_mk (Below.trod laidOut (by kernel_rfl) (of_decide_eq_true (by kernel_rfl)) k0 bel lt0) (trodAll_cons_mk (Below.trod laidOut (by kernel_rfl) (of_decide_eq_true (by kernel_rfl)) k1 bel lt1) (trodAll_cons_mk (Below.trod laidOut (by kernel_rfl) (of_decide_eq_true (by kernel_rfl)) k2 bel lt2) trodAll_mk0))), rfl, bel.frame _, fun h => by cases h⟩

-- the given statement
theorem proved : Rows.LackTellsSaid :=
  OpenClaim.holds_of_wide 3 Tryz.f3 rfl rfl rfl rfl rfl rfl rfl ⟨rfl, rfl, rfl, rfl, rfl⟩ rfl rfl rfl rfl rfl (by kernel_rfl) Tryz.func3 (by kernel_rfl)
    (of_decide_eq_true (by kernel_rfl)) (by unfold Func.isWrapper; first | (rw [if_pos (by decide +kernel)]; kernel_rfl) | (rw [if_neg (by decide +kernel)]; exact ⟨rfl, rfl⟩))
    (fun os started H enc _ => lifted os started H enc)
end Go.Proofs.YtjnkjjlpkgbkiaaGreat.lackTells
