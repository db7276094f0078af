/- Of every list of nodes, every rows and every path (no more, and no longer, than are looked at): whether the list is a build list, the rows' list, and the path's version, or why not, as the document says; no condition. -/
import Derived.Test.YtlbibgofhhdgoaaGreatRows
import Derived.Test.YtlbibgofhhdgoaaGreatLisR
import Derived.Test.YtlbibgofhhdgoaaGreatLisN
import Derived.Test.YtlbibgofhhdgoaaGreatTalS
import Derived.ProofKit
import Derived.OpenShut
import Derived.ShutString
import Derived.ChangeOld
namespace Go.Proofs.YtlbibgofhhdgoaaGreat.listTells
open Go.ChangeShapes Go.WideShapes Go.ChangeAt Go.RowKit
open Go.ChangeMaps (open_string shut_string)
set_option maxRecDepth 100000
set_option linter.unusedVariables false

theorem fewNs_text (l : List Nd) : ∀ n ∈ fewNs l, n.1.length ≤ 400 ∧ n.2.length ≤ 400 := fun n h => by
  obtain ⟨m, _, rfl⟩ := List.mem_map.1 h; exact ⟨fewL_len _, fewL_len _⟩
set_option maxRecDepth 100000 in
set_option maxHeartbeats 3200000 in
theorem walk (Ua : Value) (ka : List Nd) (V : Value) (l0 : List Rw) (a : ByteArray) (w : World) (hUa : Nds w Ua ka ∧ ∀ n ∈ ka, fitsN n) (hV : Rws w V l0 ∧ fitsR l0) (ha : a.size ≤ maxLen) :
    Calls Tryz.prog 3 #[Ua, V, .string a] w fun e w' => e = .returned (.bool true) ∧ Below w.heap.size w w' := by
  obtain ⟨hUa, fUa⟩ := hUa
  obtain ⟨Aa, ca, rfl, -⟩ := hUa.ex
  have kfa := fun V w h => nfewo_any V ka w h fUa
  have hmla := fewNs_len ka; have hmza := fewNs_small ka; have hmta := fewNs_text ka
  obtain ⟨ma, hma⟩ : ∃ r, ka.length = r := ⟨_, rfl⟩
  rw [hma] at hUa ⊢
  obtain ⟨sa, hsa⟩ : ∃ r, fewNs ka = r := ⟨_, rfl⟩
  rw [hsa] at kfa hmla hmza hmta
  obtain ⟨na, hna⟩ : ∃ r, sa.length = r := ⟨_, rfl⟩
  rw [hna] at hmla
  have SUa := Lib.hid hUa; have KFa := Lib.hid kfa; have HZA := Lib.hid hmza; have HNA := Lib.hid hna; have HTA := Lib.hid hmta
  clear hUa fUa kfa hmza hmta hma hsa hna
  obtain ⟨hV, fV⟩ := hV
  obtain ⟨A, c, rfl, -⟩ := hV.ex
  have hfw := fun V w h => few16_any V l0 w h fV
  have hz := SzR.few l0
  obtain ⟨m0, hm0⟩ : ∃ r, l0.length = r := ⟨_, rfl⟩
  rw [hm0] at hV ⊢
  obtain ⟨l, hl⟩ : ∃ r, fewR l0 = r := ⟨_, rfl⟩
  rw [hl] at hfw hz
  obtain ⟨n, hn⟩ : ∃ r, l.length = r := ⟨_, rfl⟩
  have SV := Lib.hid hV; have HFW := Lib.hid hfw; have HZ := Lib.hid hz; have HN := Lib.hid hn
  clear hV fV hfw hz hm0 hl hn
  obtain ⟨p0, rfl, hp0⟩ := mkBall a
  have kfp := fun w => few_l p0 w (by rw [hp0]; exact ha)
  have hpl := fewL_len p0
  obtain ⟨p, hp⟩ : ∃ r, fewL p0 = r := ⟨_, rfl⟩
  rw [hp] at kfp hpl
  clear hp hp0 ha
  have BB := Lib.hid (Below.refl w.heap.size w)
  have kbu := fun V w h => lbuild_any V l w h (Nat.le_trans HZ.out.len (by decide)) (HZ.out.versK (by decide)) HZ.out.path HZ.out.text
  have kpi := fun V w h => lpick_any V sa p w h HZA.out (by omega)
  have klc := fun V w h => lcheck_any V sa w h HZA.out
  have kma := fun V w h => reflmay_any V sa w h HZA.out
  have kmr := fun V w h => refmay_any16 V l w h (Nat.le_trans HZ.out.len (by decide)) (HZ.out.versK (by decide)) HZ.out.path HZ.out.text
  have kpm := fun w => refpmay_b p w (by omega)
  have krp := fun V w h => refpick_any V sa p w h
  obtain ⟨PB, hPB⟩ : ∃ E, buildE l = E := ⟨_, rfl⟩
  obtain ⟨PP, hPP⟩ : ∃ E, pickE sa p = E := ⟨_, rfl⟩
  rw [hPB] at kbu
  rw [hPP] at kpi
  obtain ⟨bl, bk⟩ := PB
  obtain ⟨pv, pk⟩ := PP
  simp only at kbu kpi
  obtain ⟨nb, hnb⟩ : ∃ r, bl.length = r := ⟨_, rfl⟩
  have KBU := Lib.hid kbu; have KPI := Lib.hid kpi; have KLC0 := Lib.hid klc; have KMA0 := Lib.hid kma; have KMR0 := Lib.hid kmr; have KPM0 := Lib.hid kpm; have KRP0 := Lib.hid krp; have HPB := Lib.hid hPB; have HPP := Lib.hid hPP; have HNB := Lib.hid hnb; have KFP := Lib.hid kfp
  clear kbu kpi klc kma kmr kpm krp hPB hPP hnb kfp
  go_enter Tryz.func3, Tryz.ntmps3
  go_upto_region 2 with (first
      | (go_at_call 7; refine (KFa.out _ _ SUa.out).mono ?_; rintro e w9 ⟨v1, rfl, hr1, hb1⟩; replace SV := Lib.hid (SV.out.below hb1); replace BB := Lib.hid (below_step BB.out hb1); obtain ⟨aa, ca, rfl, hd⟩ := ndsO hr1; rw [HNA.out] at hd ⊢; have Sa := Lib.hid hd; clear hr1 hd hb1 KFa SUa)
      | (go_at_call 8; refine (HFW.out _ _ SV.out).mono ?_; rintro e w9 ⟨v1, rfl, hr1, hb1⟩; replace Sa := Lib.hid (Sa.out.below hb1); replace BB := Lib.hid (below_step BB.out hb1); obtain ⟨aL, cL, rfl, hd⟩ := hr1.slice HN.out; have SL := Lib.hid hd; clear hr1 hd hb1 HFW SV)
      | (go_at_call 9; refine (KFP.out _).mono ?_; rintro e w9 ⟨rfl, rfl⟩; clear KFP))
  go_upto_region 3 with (go_at_call 10; refine (KBU.out _ _ SL.out).mono ?_; rintro e w9 ⟨v1, rfl, hr1, hb1⟩; replace Sa := Lib.hid (Sa.out.below hb1); replace SL := Lib.hid (SL.out.below hb1); replace BB := Lib.hid (below_step BB.out hb1); obtain ⟨ab, cb, rfl, hd⟩ := ndsO hr1; rw [HNB.out] at hd ⊢; have Sb := Lib.hid hd; clear hr1 hd hb1 KBU)
  go_upto_region 4 with (go_at_call 11; refine (KPI.out _ _ Sa.out).mono ?_; rintro e w9 ⟨rfl, hb1⟩; replace Sa := Lib.hid (Sa.out.below hb1); replace SL := Lib.hid (SL.out.below hb1); replace Sb := Lib.hid (Sb.out.below hb1); replace BB := Lib.hid (below_step BB.out hb1); clear hb1)
  clear KPI
  cases oa : okL sa
  · have klc := KLC0.out
    rw [lchkE_no oa] at klc
    have kma := KMA0.out
    rw [oa] at kma
    have KLC := Lib.hid klc; have KMA := Lib.hid kma
    replace oa := Lib.hid oa
    clear klc kma
    go_upto_region 6 with (first
        | (go_at_call 12; refine (KLC.out _ _ Sa.out).mono ?_; rintro e w9 ⟨rfl, hb1⟩; replace Sa := Lib.hid (Sa.out.below hb1); replace SL := Lib.hid (SL.out.below hb1); replace Sb := Lib.hid (Sb.out.below hb1); replace BB := Lib.hid (below_step BB.out hb1); clear hb1)
        | (go_at_call 13; refine (KMA.out _ _ Sa.out).mono ?_; rintro e w9 ⟨rfl, hb1⟩; replace Sa := Lib.hid (Sa.out.below hb1); replace SL := Lib.hid (SL.out.below hb1); replace Sb := Lib.hid (Sb.out.below hb1); replace BB := Lib.hid (below_step BB.out hb1); clear hb1))
    clear KLC
    cases orr : okR l
    · have h1 := HPB.out
      rw [buildE_no orr] at h1
      obtain ⟨hb5, rfl⟩ := Prod.mk.inj h1
      obtain rfl : nb = 0 := by rw [← HNB.out, ← hb5]; rfl
      have kmr := KMR0.out
      rw [orr] at kmr
      have KMR := Lib.hid kmr
      clear h1 hb5 kmr orr
      go_upto_region 8 with (go_at_call 14; refine (KMR.out _ _ SL.out).mono ?_; rintro e w9 ⟨rfl, hb1⟩; replace Sa := Lib.hid (Sa.out.below hb1); replace SL := Lib.hid (SL.out.below hb1); replace Sb := Lib.hid (Sb.out.below hb1); replace BB := Lib.hid (below_step BB.out hb1); clear hb1)
      have h2 := HPP.out
      rw [pickE_no (by rw [oa.out]; rfl)] at h2
      obtain ⟨rfl, rfl⟩ := Prod.mk.inj h2
      have q0 := strNil
      clear h2
      go_wp2_with (first
          | (go_at_call 13; refine (KMA.out _ _ Sa.out).mono ?_; rintro e w9 ⟨rfl, hb1⟩; replace Sa := Lib.hid (Sa.out.below hb1); replace SL := Lib.hid (SL.out.below hb1); replace Sb := Lib.hid (Sb.out.below hb1); replace BB := Lib.hid (below_step BB.out hb1); clear hb1)
          | (go_at_call 18; refine (lawake_any _).mono ?_; rintro e w9 ⟨rfl, hb1⟩; replace Sa := Lib.hid (Sa.out.below hb1); replace SL := Lib.hid (SL.out.below hb1); replace Sb := Lib.hid (Sb.out.below hb1); replace BB := Lib.hid (below_step BB.out hb1); clear hb1))
      go_ret
      exact ⟨rfl, BB.out⟩
    · have h1 := HPB.out
      rw [buildE_yes orr] at h1
      obtain ⟨hb5, rfl⟩ := Prod.mk.inj h1
      have krb := fun V w h => refbuild_any V l w h (Nat.le_trans HZ.out.len (by decide)) (HZ.out.versK (by decide)) orr
      rw [hb5] at krb
      have kmr := KMR0.out
      rw [orr] at kmr
      have KMR := Lib.hid kmr; have KRB := Lib.hid krb
      clear h1 hb5 kmr krb orr
      go_upto_region 8 with (first
          | (go_at_call 14; refine (KMR.out _ _ SL.out).mono ?_; rintro e w9 ⟨rfl, hb1⟩; replace Sa := Lib.hid (Sa.out.below hb1); replace SL := Lib.hid (SL.out.below hb1); replace Sb := Lib.hid (Sb.out.below hb1); replace Sr := Lib.hid (Sr.out.below hb1); replace BB := Lib.hid (below_step BB.out hb1); clear hb1)
          | (go_at_call 14; refine (KMR.out _ _ SL.out).mono ?_; rintro e w9 ⟨rfl, hb1⟩; replace Sa := Lib.hid (Sa.out.below hb1); replace SL := Lib.hid (SL.out.below hb1); replace Sb := Lib.hid (Sb.out.below hb1); replace BB := Lib.hid (below_step BB.out hb1); clear hb1)
          | (go_at_call 16; refine (KRB.out _ _ SL.out).mono ?_; rintro e w9 ⟨v1, rfl, hr1, hb1⟩; replace Sa := Lib.hid (Sa.out.below hb1); replace SL := Lib.hid (SL.out.below hb1); replace Sb := Lib.hid (Sb.out.below hb1); replace BB := Lib.hid (below_step BB.out hb1); obtain ⟨ar, cr, rfl, hd⟩ := ndsO hr1; rw [HNB.out] at hd ⊢; have Sr := Lib.hid hd; clear hr1 hd hb1 KRB)
          | (go_at_call 15; refine (nsame_any _ _ _ _ _ Sb.out Sr.out).mono ?_; rintro e w9 ⟨rfl, hb1⟩; rw [decNds]; replace Sa := Lib.hid (Sa.out.below hb1); replace SL := Lib.hid (SL.out.below hb1); replace Sb := Lib.hid (Sb.out.below hb1); replace Sr := Lib.hid (Sr.out.below hb1); replace BB := Lib.hid (below_step BB.out hb1); clear hb1))
      have h2 := HPP.out
      rw [pickE_no (by rw [oa.out]; rfl)] at h2
      obtain ⟨rfl, rfl⟩ := Prod.mk.inj h2
      have q0 := strNil
      clear h2
      go_wp2_with (first
          | (go_at_call 13; refine (KMA.out _ _ Sa.out).mono ?_; rintro e w9 ⟨rfl, hb1⟩; replace Sa := Lib.hid (Sa.out.below hb1); replace SL := Lib.hid (SL.out.below hb1); replace Sb := Lib.hid (Sb.out.below hb1); replace Sr := Lib.hid (Sr.out.below hb1); replace BB := Lib.hid (below_step BB.out hb1); clear hb1)
          | (go_at_call 18; refine (lawake_any _).mono ?_; rintro e w9 ⟨rfl, hb1⟩; replace Sa := Lib.hid (Sa.out.below hb1); replace SL := Lib.hid (SL.out.below hb1); replace Sb := Lib.hid (Sb.out.below hb1); replace Sr := Lib.hid (Sr.out.below hb1); replace BB := Lib.hid (below_step BB.out hb1); clear hb1))
      go_ret
      exact ⟨rfl, BB.out⟩
  · have klc := KLC0.out
    rw [lchkE_yes oa] at klc
    have kma := KMA0.out
    rw [oa] at kma
    have KLC := Lib.hid klc; have KMA := Lib.hid kma
    replace oa := Lib.hid oa
    clear klc kma
    go_upto_region 6 with (first
        | (go_at_call 12; refine (KLC.out _ _ Sa.out).mono ?_; rintro e w9 ⟨rfl, hb1⟩; replace Sa := Lib.hid (Sa.out.below hb1); replace SL := Lib.hid (SL.out.below hb1); replace Sb := Lib.hid (Sb.out.below hb1); replace BB := Lib.hid (below_step BB.out hb1); clear hb1)
        | (go_at_call 13; refine (KMA.out _ _ Sa.out).mono ?_; rintro e w9 ⟨rfl, hb1⟩; replace Sa := Lib.hid (Sa.out.below hb1); replace SL := Lib.hid (SL.out.below hb1); replace Sb := Lib.hid (Sb.out.below hb1); replace BB := Lib.hid (below_step BB.out hb1); clear hb1))
    clear KLC
    cases orr : okR l
    · have h1 := HPB.out
      rw [buildE_no orr] at h1
      obtain ⟨hb5, rfl⟩ := Prod.mk.inj h1
      obtain rfl : nb = 0 := by rw [← HNB.out, ← hb5]; rfl
      have kmr := KMR0.out
      rw [orr] at kmr
      have KMR := Lib.hid kmr
      clear h1 hb5 kmr orr
      go_upto_region 8 with (go_at_call 14; refine (KMR.out _ _ SL.out).mono ?_; rintro e w9 ⟨rfl, hb1⟩; replace Sa := Lib.hid (Sa.out.below hb1); replace SL := Lib.hid (SL.out.below hb1); replace Sb := Lib.hid (Sb.out.below hb1); replace BB := Lib.hid (below_step BB.out hb1); clear hb1)
      cases op : pathB p
      · have h2 := HPP.out
        rw [pickE_no (by rw [oa.out, op]; rfl)] at h2
        obtain ⟨rfl, rfl⟩ := Prod.mk.inj h2
        have q0 := strNil
        have kpm := KPM0.out
        rw [op] at kpm
        have KPM := Lib.hid kpm
        clear h2 kpm op
        go_wp2_with (first
            | (go_at_call 13; refine (KMA.out _ _ Sa.out).mono ?_; rintro e w9 ⟨rfl, hb1⟩; replace Sa := Lib.hid (Sa.out.below hb1); replace SL := Lib.hid (SL.out.below hb1); replace Sb := Lib.hid (Sb.out.below hb1); replace BB := Lib.hid (below_step BB.out hb1); clear hb1)
            | (go_at_call 17; refine (KPM.out _).mono ?_; rintro e w9 ⟨rfl, hb1⟩; replace Sa := Lib.hid (Sa.out.below hb1); replace SL := Lib.hid (SL.out.below hb1); replace Sb := Lib.hid (Sb.out.below hb1); replace BB := Lib.hid (below_step BB.out hb1); clear hb1)
            | (go_at_call 18; refine (lawake_any _).mono ?_; rintro e w9 ⟨rfl, hb1⟩; replace Sa := Lib.hid (Sa.out.below hb1); replace SL := Lib.hid (SL.out.below hb1); replace Sb := Lib.hid (Sb.out.below hb1); replace BB := Lib.hid (below_step BB.out hb1); clear hb1))
        go_ret
        exact ⟨rfl, BB.out⟩
      · have kpm := KPM0.out
        rw [op] at kpm
        have KPM := Lib.hid kpm
        have h2 := HPP.out
        by_cases hv : pickL sa p = []
        · rw [pickE_none oa.out op hv] at h2
          obtain ⟨rfl, rfl⟩ := Prod.mk.inj h2
          have krp := KRP0.out
          rw [hv] at krp
          have KRP := Lib.hid krp
          have q0 := strNil
          clear h2 kpm op hv krp
          go_upto_region 11 with (first
              | (go_at_call 13; refine (KMA.out _ _ Sa.out).mono ?_; rintro e w9 ⟨rfl, hb1⟩; replace Sa := Lib.hid (Sa.out.below hb1); replace SL := Lib.hid (SL.out.below hb1); replace Sb := Lib.hid (Sb.out.below hb1); replace BB := Lib.hid (below_step BB.out hb1); clear hb1)
              | (go_at_call 17; refine (KPM.out _).mono ?_; rintro e w9 ⟨rfl, hb1⟩; replace Sa := Lib.hid (Sa.out.below hb1); replace SL := Lib.hid (SL.out.below hb1); replace Sb := Lib.hid (Sb.out.below hb1); replace BB := Lib.hid (below_step BB.out hb1); clear hb1)
              | (go_at_call 19; refine (KRP.out _ _ Sa.out).mono ?_; rintro e w9 ⟨rfl, hb1⟩; replace Sa := Lib.hid (Sa.out.below hb1); replace SL := Lib.hid (SL.out.below hb1); replace Sb := Lib.hid (Sb.out.below hb1); replace BB := Lib.hid (below_step BB.out hb1); clear hb1))
          go_wp2_with (go_at_call 18; refine (lawake_any _).mono ?_; rintro e w9 ⟨rfl, hb1⟩; replace Sa := Lib.hid (Sa.out.below hb1); replace SL := Lib.hid (SL.out.below hb1); replace Sb := Lib.hid (Sb.out.below hb1); replace BB := Lib.hid (below_step BB.out hb1); clear hb1)
          go_ret
          exact ⟨rfl, BB.out⟩
        · rw [pickE_yes oa.out op hv] at h2
          obtain ⟨hz, rfl⟩ := Prod.mk.inj h2
          have krp := KRP0.out
          rw [hz] at krp hv
          have KRP := Lib.hid krp
          have q1 := mk_beq pv pv
          rw [show decide (pv = pv) = true from decide_eq_true rfl] at q1
          have q2 := nil_beq pv
          rw [decide_eq_false hv] at q2
          clear h2 kpm op hv krp hz
          go_upto_region 11 with (first
              | (go_at_call 13; refine (KMA.out _ _ Sa.out).mono ?_; rintro e w9 ⟨rfl, hb1⟩; replace Sa := Lib.hid (Sa.out.below hb1); replace SL := Lib.hid (SL.out.below hb1); replace Sb := Lib.hid (Sb.out.below hb1); replace BB := Lib.hid (below_step BB.out hb1); clear hb1)
              | (go_at_call 17; refine (KPM.out _).mono ?_; rintro e w9 ⟨rfl, hb1⟩; replace Sa := Lib.hid (Sa.out.below hb1); replace SL := Lib.hid (SL.out.below hb1); replace Sb := Lib.hid (Sb.out.below hb1); replace BB := Lib.hid (below_step BB.out hb1); clear hb1)
              | (go_at_call 19; refine (KRP.out _ _ Sa.out).mono ?_; rintro e w9 ⟨rfl, hb1⟩; replace Sa := Lib.hid (Sa.out.below hb1); replace SL := Lib.hid (SL.out.below hb1); replace Sb := Lib.hid (Sb.out.below hb1); replace BB := Lib.hid (below_step BB.out hb1); clear hb1))
          go_wp2_with (go_at_call 18; refine (lawake_any _).mono ?_; rintro e w9 ⟨rfl, hb1⟩; replace Sa := Lib.hid (Sa.out.below hb1); replace SL := Lib.hid (SL.out.below hb1); replace Sb := Lib.hid (Sb.out.below hb1); replace BB := Lib.hid (below_step BB.out hb1); clear hb1)
          go_ret
          exact ⟨rfl, BB.out⟩
    · have h1 := HPB.out
      rw [buildE_yes orr] at h1
      obtain ⟨hb5, rfl⟩ := Prod.mk.inj h1
      have krb := fun V w h => refbuild_any V l w h (Nat.le_trans HZ.out.len (by decide)) (HZ.out.versK (by decide)) orr
      rw [hb5] at krb
      have kmr := KMR0.out
      rw [orr] at kmr
      have KMR := Lib.hid kmr; have KRB := Lib.hid krb
      clear h1 hb5 kmr krb orr
      go_upto_region 8 with (first
          | (go_at_call 14; refine (KMR.out _ _ SL.out).mono ?_; rintro e w9 ⟨rfl, hb1⟩; replace Sa := Lib.hid (Sa.out.below hb1); replace SL := Lib.hid (SL.out.below hb1); replace Sb := Lib.hid (Sb.out.below hb1); replace Sr := Lib.hid (Sr.out.below hb1); replace BB := Lib.hid (below_step BB.out hb1); clear hb1)
          | (go_at_call 14; refine (KMR.out _ _ SL.out).mono ?_; rintro e w9 ⟨rfl, hb1⟩; replace Sa := Lib.hid (Sa.out.below hb1); replace SL := Lib.hid (SL.out.below hb1); replace Sb := Lib.hid (Sb.out.below hb1); replace BB := Lib.hid (below_step BB.out hb1); clear hb1)
          | (go_at_call 16; refine (KRB.out _ _ SL.out).mono ?_; rintro e w9 ⟨v1, rfl, hr1, hb1⟩; replace Sa := Lib.hid (Sa.out.below hb1); replace SL := Lib.hid (SL.out.below hb1); replace Sb := Lib.hid (Sb.out.below hb1); replace BB := Lib.hid (below_step BB.out hb1); obtain ⟨ar, cr, rfl, hd⟩ := ndsO hr1; rw [HNB.out] at hd ⊢; have Sr := Lib.hid hd; clear hr1 hd hb1 KRB)
          | (go_at_call 15; refine (nsame_any _ _ _ _ _ Sb.out Sr.out).mono ?_; rintro e w9 ⟨rfl, hb1⟩; rw [decNds]; replace Sa := Lib.hid (Sa.out.below hb1); replace SL := Lib.hid (SL.out.below hb1); replace Sb := Lib.hid (Sb.out.below hb1); replace Sr := Lib.hid (Sr.out.below hb1); replace BB := Lib.hid (below_step BB.out hb1); clear hb1))
      cases op : pathB p
      · have h2 := HPP.out
        rw [pickE_no (by rw [oa.out, op]; rfl)] at h2
        obtain ⟨rfl, rfl⟩ := Prod.mk.inj h2
        have q0 := strNil
        have kpm := KPM0.out
        rw [op] at kpm
        have KPM := Lib.hid kpm
        clear h2 kpm op
        go_wp2_with (first
            | (go_at_call 13; refine (KMA.out _ _ Sa.out).mono ?_; rintro e w9 ⟨rfl, hb1⟩; replace Sa := Lib.hid (Sa.out.below hb1); replace SL := Lib.hid (SL.out.below hb1); replace Sb := Lib.hid (Sb.out.below hb1); replace Sr := Lib.hid (Sr.out.below hb1); replace BB := Lib.hid (below_step BB.out hb1); clear hb1)
            | (go_at_call 17; refine (KPM.out _).mono ?_; rintro e w9 ⟨rfl, hb1⟩; replace Sa := Lib.hid (Sa.out.below hb1); replace SL := Lib.hid (SL.out.below hb1); replace Sb := Lib.hid (Sb.out.below hb1); replace Sr := Lib.hid (Sr.out.below hb1); replace BB := Lib.hid (below_step BB.out hb1); clear hb1)
            | (go_at_call 18; refine (lawake_any _).mono ?_; rintro e w9 ⟨rfl, hb1⟩; replace Sa := Lib.hid (Sa.out.below hb1); replace SL := Lib.hid (SL.out.below hb1); replace Sb := Lib.hid (Sb.out.below hb1); replace Sr := Lib.hid (Sr.out.below hb1); replace BB := Lib.hid (below_step BB.out hb1); clear hb1))
        go_ret
        exact ⟨rfl, BB.out⟩
      · have kpm := KPM0.out
        rw [op] at kpm
        have KPM := Lib.hid kpm
        have h2 := HPP.out
        by_cases hv : pickL sa p = []
        · rw [pickE_none oa.out op hv] at h2
          obtain ⟨rfl, rfl⟩ := Prod.mk.inj h2
          have krp := KRP0.out
          rw [hv] at krp
          have KRP := Lib.hid krp
          have q0 := strNil
          clear h2 kpm op hv krp
          go_upto_region 11 with (first
              | (go_at_call 13; refine (KMA.out _ _ Sa.out).mono ?_; rintro e w9 ⟨rfl, hb1⟩; replace Sa := Lib.hid (Sa.out.below hb1); replace SL := Lib.hid (SL.out.below hb1); replace Sb := Lib.hid (Sb.out.below hb1); replace Sr := Lib.hid (Sr.out.below hb1); replace BB := Lib.hid (below_step BB.out hb1); clear hb1)
              | (go_at_call 17; refine (KPM.out _).mono ?_; rintro e w9 ⟨rfl, hb1⟩; replace Sa := Lib.hid (Sa.out.below hb1); replace SL := Lib.hid (SL.out.below hb1); replace Sb := Lib.hid (Sb.out.below hb1); replace Sr := Lib.hid (Sr.out.below hb1); replace BB := Lib.hid (below_step BB.out hb1); clear hb1)
              | (go_at_call 19; refine (KRP.out _ _ Sa.out).mono ?_; rintro e w9 ⟨rfl, hb1⟩; replace Sa := Lib.hid (Sa.out.below hb1); replace SL := Lib.hid (SL.out.below hb1); replace Sb := Lib.hid (Sb.out.below hb1); replace Sr := Lib.hid (Sr.out.below hb1); replace BB := Lib.hid (below_step BB.out hb1); clear hb1))
          go_wp2_with (go_at_call 18; refine (lawake_any _).mono ?_; rintro e w9 ⟨rfl, hb1⟩; replace Sa := Lib.hid (Sa.out.below hb1); replace SL := Lib.hid (SL.out.below hb1); replace Sb := Lib.hid (Sb.out.below hb1); replace Sr := Lib.hid (Sr.out.below hb1); replace BB := Lib.hid (below_step BB.out hb1); clear hb1)
          go_ret
          exact ⟨rfl, BB.out⟩
        · rw [pickE_yes oa.out op hv] at h2
          obtain ⟨hz, rfl⟩ := Prod.mk.inj h2
          have krp := KRP0.out
          rw [hz] at krp hv
          have KRP := Lib.hid krp
          have q1 := mk_beq pv pv
          rw [show decide (pv = pv) = true from decide_eq_true rfl] at q1
          have q2 := nil_beq pv
          rw [decide_eq_false hv] at q2
          clear h2 kpm op hv krp hz
          go_upto_region 11 with (first
              | (go_at_call 13; refine (KMA.out _ _ Sa.out).mono ?_; rintro e w9 ⟨rfl, hb1⟩; replace Sa := Lib.hid (Sa.out.below hb1); replace SL := Lib.hid (SL.out.below hb1); replace Sb := Lib.hid (Sb.out.below hb1); replace Sr := Lib.hid (Sr.out.below hb1); replace BB := Lib.hid (below_step BB.out hb1); clear hb1)
              | (go_at_call 17; refine (KPM.out _).mono ?_; rintro e w9 ⟨rfl, hb1⟩; replace Sa := Lib.hid (Sa.out.below hb1); replace SL := Lib.hid (SL.out.below hb1); replace Sb := Lib.hid (Sb.out.below hb1); replace Sr := Lib.hid (Sr.out.below hb1); replace BB := Lib.hid (below_step BB.out hb1); clear hb1)
              | (go_at_call 19; refine (KRP.out _ _ Sa.out).mono ?_; rintro e w9 ⟨rfl, hb1⟩; replace Sa := Lib.hid (Sa.out.below hb1); replace SL := Lib.hid (SL.out.below hb1); replace Sb := Lib.hid (Sb.out.below hb1); replace Sr := Lib.hid (Sr.out.below hb1); replace BB := Lib.hid (below_step BB.out hb1); clear hb1))
          go_wp2_with (go_at_call 18; refine (lawake_any _).mono ?_; rintro e w9 ⟨rfl, hb1⟩; replace Sa := Lib.hid (Sa.out.below hb1); replace SL := Lib.hid (SL.out.below hb1); replace Sb := Lib.hid (Sb.out.below hb1); replace Sr := Lib.hid (Sr.out.below hb1); replace BB := Lib.hid (below_step BB.out hb1); clear hb1)
          go_ret
          exact ⟨rfl, BB.out⟩

theorem own : ownKnob Tryz.prog.godebug = none := by kernel_rfl
theorem laidOut : laidOutB Tryz.prog = true := by kernel_rfl

set_option maxRecDepth 100000 in
theorem lifted (os : Os) (started : os.Started) (H : Type) (enc : TypeId × Value → H) :
    ReturnsInHanded {} Tryz.checked os 3 .any (Rows.listTellsSpec.pre6 enc Tryz.prog Tryz.f3 Rows.listTellsRow.domain false) (Rows.listTellsSpec.post enc Tryz.prog Tryz.f3 false true false false) := by
  refine returnsInHanded_of_change (C := Tryz.checked) own started (by kernel_rfl) Tryz.func3
    (ChangeSpec.witness6 (enc := enc) (C := Tryz.checked) false ⟨#[], #[.slice none 0 0, .slice none 0 0, .string ByteArray.empty], []⟩ 8 (by kernel_rfl) (by kernel_rfl) (by kernel_rfl) (by kernel_rfl)) ?_
  intro W base args ds gs before hval0 hW hcnd _
  have hval : ∀ (j : Nat) t v, Tryz.f3.params[j]? = some t → args[j]? = some v → Value.okWide Tryz.prog W .any base t v := hval0
  have hW' := hW
  obtain ⟨p, q, hA0, hV, rfl, hfz, hnd⟩ := hW
  have hA : DataW.TrodAll enc Tryz.prog W 0 (fun _ => true) true Tryz.f3.params.toList args.toList ds p := hA0
  rw [Tryz.params3] at hA hval
  obtain ⟨v0, vs0, d0, ds0, p0, q0, hargs, rfl, rfl, h0, r0⟩ := trodAll_cons hA
  obtain ⟨v1, vs1, d1, ds1, p1, q1, rfl, rfl, rfl, h1, r1⟩ := trodAll_cons r0
  obtain ⟨v2, vs2, d2, ds2, p2, q2, rfl, rfl, rfl, h2, r2⟩ := trodAll_cons r1
  obtain ⟨rfl, rfl, rfl⟩ := trodAll_nil r2
  obtain rfl : args = #[v0, v1, v2] := by cases args; simp_all
  obtain ⟨rfl, rfl⟩ := trodVars_none hV
  obtain ⟨a0, len0, cap0, rfl⟩ := okWide_slice Tryz.underlying22 (hval 0 22 v0 rfl rfl)
  have k0 := h0
  have lt0 : ∀ x ∈ p0, x.block < W.heap.size := by obtain ⟨m, hm⟩ := k0; exact DataW.trod_lt m _ _ _ hm
  obtain ⟨z0, w0⟩ : ∃ zs, Nds W (.slice a0 len0 cap0) zs ∧ ∀ n ∈ zs, fitsN n := by
    obtain ⟨fuel, hf⟩ := h0
    exact nds_open (by simpa [Value.cells] using hf)
  obtain ⟨a1, len1, cap1, rfl⟩ := okWide_slice Tryz.underlying23 (hval 1 23 v1 rfl rfl)
  have k1 := h1
  have lt1 : ∀ x ∈ p1, x.block < W.heap.size := by obtain ⟨m, hm⟩ := k1; exact DataW.trod_lt m _ _ _ hm
  obtain ⟨z1, w1⟩ : ∃ zs, Rws W (.slice a1 len1 cap1) zs ∧ fitsR zs := by
    obtain ⟨fuel, hf⟩ := h1
    exact rws_open (by simpa [Value.cells] using hf)
  obtain ⟨a2, rfl, rfl, rfl, w2⟩ := open_string Tryz.underlying9 (hval 2 9 v2 rfl rfl) h2
  clear hA0 hval0
  refine (walk _ z0 _ z1 a2 W w0 w1 w2).mono fun e W' ⟨he, bel⟩ => ?_
  subst he
  exact ⟨_, rfl, _, _, _, [], _, [], hW', trodAll_mk1 (shut_bool Tryz.underlying4 _), (trodAll_cons_mk (Below.trod laidOut (by kernel_rfl) (of_decide_eq_true (by kernel_rfl)) k0 bel lt0) (trodAll_cons_mk (Below.trod laidOut (by kernel_rfl) (of_decide_eq_true (by kernel_rfl)) k1 bel lt1) (trodAll_cons_mk (shut_string Tryz.underlying9 w2) trodAll_mk0))), rfl, bel.frame _, fun h => by cases h⟩

-- the given statement
theorem proved : Rows.ListTellsSaid :=
  OpenClaim.holds_of_wide 3 Tryz.f3 rfl rfl rfl rfl rfl rfl rfl ⟨rfl, rfl, rfl, rfl, rfl⟩ rfl rfl rfl rfl rfl (by kernel_rfl) Tryz.func3 (by kernel_rfl)
    (of_decide_eq_true (by kernel_rfl)) (by unfold Func.isWrapper; first | (rw [if_pos (by decide +kernel)]; kernel_rfl) | (rw [if_neg (by decide +kernel)]; exact ⟨rfl, rfl⟩))
    (fun os started H enc _ => lifted os started H enc)
end Go.Proofs.YtlbibgofhhdgoaaGreat.listTells
