/- Of every rows, every nodes and every path (no more, and no longer, than are looked at): any nodes' rows, any rows' nodes, any path's best version, as the document says; no condition. -/
import Derived.Test.YtnngfcjfhhfafaaGreatRows
import Derived.Test.YtnngfcjfhhfafaaGreatTalS
import Derived.Test.YtnngfcjfhhfafaaGreatNodQ
import Derived.Test.YtnngfcjfhhfafaaGreatNodI
import Derived.Test.YtnngfcjfhhfafaaGreatNodS
import Derived.Test.YtnngfcjfhhfafaaGreatNodP
import Derived.ProofKit
import Derived.OpenShut
import Derived.ShutString
import Derived.ChangeOld
namespace Go.Proofs.YtnngfcjfhhfafaaGreat.tallyTells
open Go.ChangeShapes Go.WideShapes Go.ChangeAt Go.RowKit
open Go.ChangeMaps (open_string shut_string)
set_option maxRecDepth 100000
set_option linter.unusedVariables false

theorem all_take_snoc {ms : List Nd} {k : Nat} (h : k < ms.length) : (ms.take (k + 1)).all okN = ((ms.take k).all okN && okN (ms.getD k ([], []))) := by
  rw [List.take_succ_eq_append_getElem h, List.all_append, gd_at h]; simp
set_option maxRecDepth 100000 in
set_option maxHeartbeats 6400000 in
theorem walk (V : Value) (l0 : List Rw) (U : Value) (k0 : List Nd) (a : ByteArray) (w : World) (hV : Rws w V l0 ∧ fitsR l0) (hU : Nds w U k0 ∧ ∀ n ∈ k0, fitsN n) (ha : a.size ≤ maxLen) :
    Calls Tryz.prog 4 #[V, U, .string a] w fun e w' => e = .returned (.bool true) ∧ Below w.heap.size w w' := by
  obtain ⟨hV, fV⟩ := hV
  obtain ⟨A, c, rfl, -⟩ := hV.ex
  have hfw := fun V w h => few16_any V l0 w h fV
  have hz := SzR.few l0
  obtain ⟨m0, hm0⟩ : ∃ r, l0.length = r := ⟨_, rfl⟩
  rw [hm0] at hV ⊢
  obtain ⟨l, hl⟩ : ∃ r, fewR l0 = r := ⟨_, rfl⟩
  rw [hl] at hfw hz
  obtain ⟨n, hn⟩ : ∃ r, l.length = r := ⟨_, rfl⟩
  have SV := Lib.hid hV; have HFW := Lib.hid hfw; have HZ := Lib.hid hz; have HN := Lib.hid hn
  clear hV fV hfw hz hm0 hl hn
  obtain ⟨hU, fU⟩ := hU
  obtain ⟨A', c', rfl, -⟩ := hU.ex
  have kfn := fun V w h => nfewo_any V k0 w h fU
  have hml := fewNs_len k0; have hmz := fewNs_small k0
  obtain ⟨m1, hm1⟩ : ∃ r, k0.length = r := ⟨_, rfl⟩
  rw [hm1] at hU ⊢
  obtain ⟨ms, hms⟩ : ∃ r, fewNs k0 = r := ⟨_, rfl⟩
  rw [hms] at kfn hml hmz
  obtain ⟨nm, hnm⟩ : ∃ r, ms.length = r := ⟨_, rfl⟩
  rw [hnm] at hml
  have SU := Lib.hid hU; have KFN := Lib.hid kfn; have HMZ := Lib.hid hmz; have HNM := Lib.hid hnm
  clear hU fU kfn hmz hm1 hms hnm
  obtain ⟨p0, rfl, hp0⟩ := mkB_all a
  have kfp := fun w => few_l p0 w (by rw [hp0]; exact ha)
  have hpl := fewL_len p0
  obtain ⟨p, hp⟩ : ∃ r, fewL p0 = r := ⟨_, rfl⟩
  rw [hp] at kfp hpl
  clear hp hp0 ha
  have BB := Lib.hid (Below.refl w.heap.size w)
  have kall := fun V w h => tall_any V l w h (Nat.le_trans HZ.out.len (by decide)) (HZ.out.versK (by decide)) HZ.out.path HZ.out.text
  have kof := fun V w h => trows_any V ms w h HMZ.out (by rw [HNM.out]; omega)
  have kbe := fun V w h => tbest_any V l p w h (Nat.le_trans HZ.out.len (by decide)) HZ.out.path HZ.out.text (by omega)
  have kbr := fun V w h => refbest_any16 V l p w h (HZ.out.versK (by decide))
  obtain ⟨PA, hA⟩ : ∃ r, allE l = r := ⟨_, rfl⟩
  obtain ⟨PR, hR⟩ : ∃ r, rowsE ms = r := ⟨_, rfl⟩
  obtain ⟨PB, hB⟩ : ∃ r, bestE l p = r := ⟨_, rfl⟩
  obtain ⟨PW, hW⟩ : ∃ r, refB l p = r := ⟨_, rfl⟩
  rw [hA] at kall
  rw [hR] at kof
  rw [hB] at kbe
  rw [hW] at kbr
  obtain ⟨sa, ka⟩ := PA
  obtain ⟨ra, kr⟩ := PR
  obtain ⟨bv, kb⟩ := PB
  obtain ⟨wv, wb⟩ := PW
  simp only at kall kof kbe kbr
  obtain ⟨ns, hns⟩ : ∃ r, sa.length = r := ⟨_, rfl⟩
  obtain ⟨nr, hnr⟩ : ∃ r, ra.length = r := ⟨_, rfl⟩
  have kmay := fun V w h => refmay_any16 V l w h (Nat.le_trans HZ.out.len (by decide)) (HZ.out.versK (by decide)) HZ.out.path HZ.out.text
  have kpm := fun w => refpmay_l p w (by omega)
  have KFP := Lib.hid kfp; have KALL := Lib.hid kall; have KOF := Lib.hid kof; have KBE := Lib.hid kbe; have KBR := Lib.hid kbr; have KMAY := Lib.hid kmay; have KPM := Lib.hid kpm
  have HA := Lib.hid hA; have HR := Lib.hid hR; have HB0 := Lib.hid hB; have HW0 := Lib.hid hW; have HNS := Lib.hid hns; have HNR := Lib.hid hnr
  clear kfp kall kof kbe kbr kmay kpm hA hR hB hW hns hnr
  go_enter Tryz.func4, Tryz.ntmps4
  go_upto_region 2 with (first
      | (go_at_call 8; refine (HFW.out _ _ SV.out).mono ?_; rintro e w9 ⟨v1, rfl, hr1, hb1⟩; replace SU := Lib.hid (SU.out.below hb1); replace BB := Lib.hid (below_step BB.out hb1); obtain ⟨aL, cL, rfl, hd⟩ := hr1.slice HN.out; have SL := Lib.hid hd; clear hr1 hd hb1 HFW SV)
      | (go_at_call 23; refine (KFN.out _ _ SU.out).mono ?_; rintro e w9 ⟨v1, rfl, hr1, hb1⟩; replace SL := Lib.hid (SL.out.below hb1); replace BB := Lib.hid (below_step BB.out hb1); obtain ⟨aM, cM, rfl, hd⟩ := ndsO hr1; rw [HNM.out] at hd ⊢; have SM := Lib.hid hd; clear hr1 hd hb1 KFN SU)
      | (go_at_call 24; refine (KFP.out _).mono ?_; rintro e w9 ⟨rfl, rfl⟩; clear KFP))
  go_upto_region 3 with (go_at_call 25; refine (KALL.out _ _ SL.out).mono ?_; rintro e w9 ⟨v1, rfl, hr1, hb1⟩; replace SL := Lib.hid (SL.out.below hb1); replace SM := Lib.hid (SM.out.below hb1); replace BB := Lib.hid (below_step BB.out hb1); obtain ⟨aS, cS, rfl, hd⟩ := ndsO hr1; rw [HNS.out] at hd ⊢; have SS := Lib.hid hd; clear hr1 hd hb1 KALL)
  go_upto_region 4 with (go_at_call 26; refine (KOF.out _ _ SM.out).mono ?_; rintro e w9 ⟨v1, rfl, hr1, hb1⟩; replace SL := Lib.hid (SL.out.below hb1); replace SM := Lib.hid (SM.out.below hb1); replace SS := Lib.hid (SS.out.below hb1); replace BB := Lib.hid (below_step BB.out hb1); obtain ⟨aR, cR, rfl, hd⟩ := hr1.slice HNR.out; have SR := Lib.hid hd; clear hr1 hd hb1 KOF)
  go_upto_region 5 with (go_at_call 27; refine (KBE.out _ _ SL.out).mono ?_; rintro e w9 ⟨rfl, hb1⟩; replace SL := Lib.hid (SL.out.below hb1); replace SM := Lib.hid (SM.out.below hb1); replace SS := Lib.hid (SS.out.below hb1); replace SR := Lib.hid (SR.out.below hb1); replace BB := Lib.hid (below_step BB.out hb1); clear hb1)
  clear KBE
  obtain ⟨w5, hw5⟩ : ∃ v, v = w9 := ⟨_, rfl⟩
  subst hw5
  go_wp2
  go_loopw [13, 14] (fun b i wr => ∃ k : Nat, k ≤ nm ∧ i = .int .i64 k ∧ b = .bool ((ms.take k).all okN) ∧ Hid (Below w5.heap.size w5 wr)) (fun _ i _ => nm - (intOf i).toNat)
  case atStart => exact ⟨0, Nat.zero_le _, rfl, rfl, Lib.hid (Below.refl _ _)⟩
  case round =>
    obtain ⟨k, hk, rfl, rfl, HB⟩ := hrel
    by_cases hlt : k < nm
    · have hkl : k < ms.length := by rw [HNM.out]; exact hlt
      obtain ⟨bb, off, rfl, -, hc0, hc1⟩ := (SM.out.below HB.out).at k hkl
      have hsn := all_take_snoc hkl
      have hsm := HMZ.out _ (gd_in (z := ([], [])) hkl)
      obtain ⟨y, hy⟩ : ∃ y, y = ms.getD k ([], []) := ⟨_, rfl⟩
      rw [← hy] at hc0 hc1 hsn hsm
      obtain ⟨y1, y2⟩ := y
      simp only at hc0 hc1
      have kmn := fun w => refnmay_any y1 y2 w hsm.1 hsm.2
      obtain ⟨oy, hoy⟩ : ∃ o, okN (y1, y2) = o := ⟨_, rfl⟩
      rw [hoy] at kmn hsn
      obtain ⟨ob, hob⟩ : ∃ o, (ms.take k).all okN = o := ⟨_, rfl⟩
      rw [hob] at hsn ⊢
      have HSN := Lib.hid hsn; have KMN := Lib.hid kmn
      have hkb : (k : Int) < (nm : Int) := by omega
      clear hy hsn hsm hoy hob kmn hkl
      cases ob
      · go_wp2
        go_roundw
        case rel => exact ⟨k + 1, by omega, by go_num, by rw [HSN.out]; rfl, HB⟩
        case measure => simp [intOf]; omega
      · go_wp2_with (go_at_call 16; refine (KMN.out _).mono ?_; rintro e w8 ⟨rfl, hb1⟩; replace HB := Lib.hid (below_step HB.out hb1); clear hb1)
        go_roundw
        case rel => exact ⟨k + 1, by omega, by go_num, by rw [HSN.out]; cases oy <;> rfl, HB⟩
        case measure => simp [intOf]; omega
    · have e : k = nm := by omega
      subst e
      have hall : (ms.take k).all okN = ms.all okN := by rw [List.take_of_length_le (by rw [HNM.out]; exact Nat.le_refl _)]
      rw [hall]
      replace SL := Lib.hid (SL.out.below HB.out); replace SM := Lib.hid (SM.out.below HB.out); replace SS := Lib.hid (SS.out.below HB.out); replace SR := Lib.hid (SR.out.below HB.out); replace BB := Lib.hid (below_step BB.out HB.out)
      clear hall HB hlt hk
      obtain ⟨w7, hw7⟩ : ∃ v, v = wr := ⟨_, rfl⟩
      subst hw7
      cases hom : ms.all okN
      · have h1 := HR.out
        rw [rowsE_no hom] at h1
        obtain ⟨rfl, rfl⟩ := Prod.mk.inj h1
        obtain rfl : nr = 0 := HNR.out.symm
        clear h1 hom
        go_upto_region 12 with fail
        have kmay := KMAY.out
        clear KMAY
        cases ho : okR l
        · have h1 := HA.out
          rw [allE_no ho] at h1
          obtain ⟨rfl, rfl⟩ := Prod.mk.inj h1
          have h2 := HB0.out
          rw [bestE_no (by rw [ho]; rfl)] at h2
          obtain ⟨rfl, rfl⟩ := Prod.mk.inj h2
          obtain rfl : ns = 0 := HNS.out.symm
          have q0 := str_nil
          rw [ho] at kmay
          have KMAY := Lib.hid kmay
          clear h1 h2 ho kmay
          go_wp2_with (first
              | (go_at_call 13; refine (KMAY.out _ _ SL.out).mono ?_; rintro e w9 ⟨rfl, hb1⟩; replace SL := Lib.hid (SL.out.below hb1); replace SM := Lib.hid (SM.out.below hb1); replace SS := Lib.hid (SS.out.below hb1); replace SR := Lib.hid (SR.out.below hb1); replace BB := Lib.hid (below_step BB.out hb1); clear hb1)
              | (go_at_call 17; refine (tawake_any _).mono ?_; rintro e w9 ⟨rfl, hb1⟩; replace SL := Lib.hid (SL.out.below hb1); replace SM := Lib.hid (SM.out.below hb1); replace SS := Lib.hid (SS.out.below hb1); replace SR := Lib.hid (SR.out.below hb1); replace BB := Lib.hid (below_step BB.out hb1); clear hb1))
          go_ret
          exact ⟨rfl, BB.out⟩
        · have h1 := HA.out
          rw [allE_yes ho] at h1
          obtain ⟨rfl, rfl⟩ := Prod.mk.inj h1
          rw [ho] at kmay
          have kral := fun V w h => refall_any16 V l w h (Nat.le_trans HZ.out.len (by decide)) (HZ.out.versK (by decide))
          obtain ⟨s, hs⟩ : ∃ r, rwAll l = r := ⟨_, rfl⟩
          rw [hs] at kral HNS SS
          have ksm := fun U V w h h' => nsame_any U V s s w h h'
          rw [dec_nds] at ksm
          have KMAY := Lib.hid kmay; have KRAL := Lib.hid kral; have KSM := Lib.hid ksm
          clear h1 kmay kral ksm hs
          go_upto_region 14 with (go_at_call 13; refine (KMAY.out _ _ SL.out).mono ?_; rintro e w9 ⟨rfl, hb1⟩; replace SL := Lib.hid (SL.out.below hb1); replace SM := Lib.hid (SM.out.below hb1); replace SS := Lib.hid (SS.out.below hb1); replace SR := Lib.hid (SR.out.below hb1); replace BB := Lib.hid (below_step BB.out hb1); clear hb1)
          go_upto_region 16 with (first
              | (go_at_call 18; refine (KRAL.out _ _ SL.out).mono ?_; rintro e w9 ⟨v1, rfl, hr1, hb1⟩; replace SL := Lib.hid (SL.out.below hb1); replace SM := Lib.hid (SM.out.below hb1); replace SS := Lib.hid (SS.out.below hb1); replace SR := Lib.hid (SR.out.below hb1); replace BB := Lib.hid (below_step BB.out hb1); obtain ⟨aW, cW, rfl, hd⟩ := ndsO hr1; rw [HNS.out] at hd ⊢; have SW := Lib.hid hd; clear hr1 hd hb1 KRAL)
              | (go_at_call 29; refine (KSM.out _ _ _ SS.out SW.out).mono ?_; rintro e w9 ⟨rfl, hb1⟩; replace SL := Lib.hid (SL.out.below hb1); replace SM := Lib.hid (SM.out.below hb1); replace SS := Lib.hid (SS.out.below hb1); replace SR := Lib.hid (SR.out.below hb1); replace SW := Lib.hid (SW.out.below hb1); replace BB := Lib.hid (below_step BB.out hb1); clear hb1))
          go_upto_region 17 with (go_at_call 30; refine (KBR.out _ _ SL.out).mono ?_; rintro e w9 ⟨rfl, hb1⟩; replace SL := Lib.hid (SL.out.below hb1); replace SM := Lib.hid (SM.out.below hb1); replace SS := Lib.hid (SS.out.below hb1); replace SR := Lib.hid (SR.out.below hb1); replace SW := Lib.hid (SW.out.below hb1); replace BB := Lib.hid (below_step BB.out hb1); clear hb1)
          cases hk : pathB p
          · have h2 := HB0.out
            rw [bestE_no (by rw [ho, hk]; rfl)] at h2
            obtain ⟨rfl, rfl⟩ := Prod.mk.inj h2
            have q0 := str_nil
            have kpm := KPM.out
            rw [hk] at kpm
            replace KPM := Lib.hid kpm
            clear h2 kpm ho hk
            go_wp2_with (first
                | (go_at_call 31; refine (KPM.out _).mono ?_; rintro e w9 ⟨rfl, hb0⟩; have hb1 := hb0.toBelow; clear hb0; replace SL := Lib.hid (SL.out.below hb1); replace SM := Lib.hid (SM.out.below hb1); replace SS := Lib.hid (SS.out.below hb1); replace SR := Lib.hid (SR.out.below hb1); replace SW := Lib.hid (SW.out.below hb1); replace BB := Lib.hid (below_step BB.out hb1); clear hb1)
                | (go_at_call 17; refine (tawake_any _).mono ?_; rintro e w9 ⟨rfl, hb1⟩; replace SL := Lib.hid (SL.out.below hb1); replace SM := Lib.hid (SM.out.below hb1); replace SS := Lib.hid (SS.out.below hb1); replace SR := Lib.hid (SR.out.below hb1); replace SW := Lib.hid (SW.out.below hb1); replace BB := Lib.hid (below_step BB.out hb1); clear hb1))
            go_ret
            exact ⟨rfl, BB.out⟩
          · have kpm := KPM.out
            rw [hk] at kpm
            replace KPM := Lib.hid kpm
            have h2 := HB0.out
            have h3 := HW0.out
            rw [refB_is ho] at h3
            clear kpm
            by_cases hv : rwVer l p = []
            · rw [bestE_none ho hk hv] at h2
              rw [if_pos hv] at h3
              obtain ⟨rfl, rfl⟩ := Prod.mk.inj h2
              obtain ⟨rfl, rfl⟩ := Prod.mk.inj h3
              have q0 := str_nil
              clear h2 h3 ho hk hv
              go_wp2_with (first
                  | (go_at_call 31; refine (KPM.out _).mono ?_; rintro e w9 ⟨rfl, hb0⟩; have hb1 := hb0.toBelow; clear hb0; replace SL := Lib.hid (SL.out.below hb1); replace SM := Lib.hid (SM.out.below hb1); replace SS := Lib.hid (SS.out.below hb1); replace SR := Lib.hid (SR.out.below hb1); replace SW := Lib.hid (SW.out.below hb1); replace BB := Lib.hid (below_step BB.out hb1); clear hb1)
                  | (go_at_call 17; refine (tawake_any _).mono ?_; rintro e w9 ⟨rfl, hb1⟩; replace SL := Lib.hid (SL.out.below hb1); replace SM := Lib.hid (SM.out.below hb1); replace SS := Lib.hid (SS.out.below hb1); replace SR := Lib.hid (SR.out.below hb1); replace SW := Lib.hid (SW.out.below hb1); replace BB := Lib.hid (below_step BB.out hb1); clear hb1))
              go_ret
              exact ⟨rfl, BB.out⟩
            · rw [bestE_yes ho hk hv] at h2
              rw [if_neg hv] at h3
              obtain ⟨rfl, rfl⟩ := Prod.mk.inj h2
              obtain ⟨rfl, rfl⟩ := Prod.mk.inj h3
              clear h2 h3 ho hk hv HB0 HW0
              obtain ⟨z, hz⟩ : ∃ z, lastV (rwVer l p) = z := ⟨_, rfl⟩
              rw [hz]
              clear hz
              go_wp2_with (first
                  | (go_at_call 31; refine (KPM.out _).mono ?_; rintro e w9 ⟨rfl, hb0⟩; have hb1 := hb0.toBelow; clear hb0; replace SL := Lib.hid (SL.out.below hb1); replace SM := Lib.hid (SM.out.below hb1); replace SS := Lib.hid (SS.out.below hb1); replace SR := Lib.hid (SR.out.below hb1); replace SW := Lib.hid (SW.out.below hb1); replace BB := Lib.hid (below_step BB.out hb1); clear hb1)
                  | (go_at_call 17; refine (tawake_any _).mono ?_; rintro e w9 ⟨rfl, hb1⟩; replace SL := Lib.hid (SL.out.below hb1); replace SM := Lib.hid (SM.out.below hb1); replace SS := Lib.hid (SS.out.below hb1); replace SR := Lib.hid (SR.out.below hb1); replace SW := Lib.hid (SW.out.below hb1); replace BB := Lib.hid (below_step BB.out hb1); clear hb1))
              go_ret
              exact ⟨rfl, BB.out⟩
      · have h1 := HR.out
        rw [rowsE_yes hom] at h1
        obtain ⟨rfl, rfl⟩ := Prod.mk.inj h1
        have kset := fun U w h => refnset_any U ms w h HMZ.out (List.all_eq_true.1 hom) (by rw [HNM.out]; omega)
        have htl := setN_len ms
        rw [HNM.out] at htl
        obtain ⟨t, ht⟩ : ∃ r, setN ms = r := ⟨_, rfl⟩
        rw [ht] at kset htl HNR SR
        have korf := fun V w h => refof_any16 V t w h (by omega)
        obtain ⟨o, ho⟩ : ∃ r, rwOf t = r := ⟨_, rfl⟩
        rw [ho] at korf HNR SR
        obtain ⟨nt, hnt⟩ : ∃ r, t.length = r := ⟨_, rfl⟩
        have HNT := Lib.hid hnt; have KSET := Lib.hid kset; have KORF := Lib.hid korf
        clear h1 hom kset htl ht korf ho hnt HR
        go_upto_region 12 with (first
            | (go_at_call 28; refine (KSET.out _ _ SM.out).mono ?_; rintro e w9 ⟨aT, cT, rfl, hd, hb1⟩; replace SL := Lib.hid (SL.out.below hb1); replace SM := Lib.hid (SM.out.below hb1); replace SS := Lib.hid (SS.out.below hb1); replace SR := Lib.hid (SR.out.below hb1); replace BB := Lib.hid (below_step BB.out hb1); rw [HNT.out] at hd ⊢; have ST := Lib.hid hd; clear hd hb1 KSET)
            | (go_at_call 20; refine (KORF.out _ _ ST.out).mono ?_; rintro e w9 ⟨v1, rfl, hr1, hb1⟩; replace SL := Lib.hid (SL.out.below hb1); replace SM := Lib.hid (SM.out.below hb1); replace SS := Lib.hid (SS.out.below hb1); replace SR := Lib.hid (SR.out.below hb1); replace ST := Lib.hid (ST.out.below hb1); replace BB := Lib.hid (below_step BB.out hb1); obtain ⟨aO, cO, rfl, hd⟩ := hr1.slice HNR.out; have SO := Lib.hid hd; clear hr1 hd hb1 KORF)
            | (go_at_call 15; refine (refsame16_any _ _ _ _ _ SR.out SO.out).mono ?_; rintro e w9 ⟨rfl, hb1⟩; rw [dec_rows]; replace SL := Lib.hid (SL.out.below hb1); replace SM := Lib.hid (SM.out.below hb1); replace SS := Lib.hid (SS.out.below hb1); replace SR := Lib.hid (SR.out.below hb1); replace ST := Lib.hid (ST.out.below hb1); replace SO := Lib.hid (SO.out.below hb1); replace BB := Lib.hid (below_step BB.out hb1); clear hb1))
        have kmay := KMAY.out
        clear KMAY
        cases ho : okR l
        · have h1 := HA.out
          rw [allE_no ho] at h1
          obtain ⟨rfl, rfl⟩ := Prod.mk.inj h1
          have h2 := HB0.out
          rw [bestE_no (by rw [ho]; rfl)] at h2
          obtain ⟨rfl, rfl⟩ := Prod.mk.inj h2
          obtain rfl : ns = 0 := HNS.out.symm
          have q0 := str_nil
          rw [ho] at kmay
          have KMAY := Lib.hid kmay
          clear h1 h2 ho kmay
          go_wp2_with (first
              | (go_at_call 13; refine (KMAY.out _ _ SL.out).mono ?_; rintro e w9 ⟨rfl, hb1⟩; replace SL := Lib.hid (SL.out.below hb1); replace SM := Lib.hid (SM.out.below hb1); replace SS := Lib.hid (SS.out.below hb1); replace SR := Lib.hid (SR.out.below hb1); replace BB := Lib.hid (below_step BB.out hb1); clear hb1)
              | (go_at_call 17; refine (tawake_any _).mono ?_; rintro e w9 ⟨rfl, hb1⟩; replace SL := Lib.hid (SL.out.below hb1); replace SM := Lib.hid (SM.out.below hb1); replace SS := Lib.hid (SS.out.below hb1); replace SR := Lib.hid (SR.out.below hb1); replace BB := Lib.hid (below_step BB.out hb1); clear hb1))
          go_ret
          exact ⟨rfl, BB.out⟩
        · have h1 := HA.out
          rw [allE_yes ho] at h1
          obtain ⟨rfl, rfl⟩ := Prod.mk.inj h1
          rw [ho] at kmay
          have kral := fun V w h => refall_any16 V l w h (Nat.le_trans HZ.out.len (by decide)) (HZ.out.versK (by decide))
          obtain ⟨s, hs⟩ : ∃ r, rwAll l = r := ⟨_, rfl⟩
          rw [hs] at kral HNS SS
          have ksm := fun U V w h h' => nsame_any U V s s w h h'
          rw [dec_nds] at ksm
          have KMAY := Lib.hid kmay; have KRAL := Lib.hid kral; have KSM := Lib.hid ksm
          clear h1 kmay kral ksm hs
          go_upto_region 14 with (go_at_call 13; refine (KMAY.out _ _ SL.out).mono ?_; rintro e w9 ⟨rfl, hb1⟩; replace SL := Lib.hid (SL.out.below hb1); replace SM := Lib.hid (SM.out.below hb1); replace SS := Lib.hid (SS.out.below hb1); replace SR := Lib.hid (SR.out.below hb1); replace BB := Lib.hid (below_step BB.out hb1); clear hb1)
          go_upto_region 16 with (first
              | (go_at_call 18; refine (KRAL.out _ _ SL.out).mono ?_; rintro e w9 ⟨v1, rfl, hr1, hb1⟩; replace SL := Lib.hid (SL.out.below hb1); replace SM := Lib.hid (SM.out.below hb1); replace SS := Lib.hid (SS.out.below hb1); replace SR := Lib.hid (SR.out.below hb1); replace BB := Lib.hid (below_step BB.out hb1); obtain ⟨aW, cW, rfl, hd⟩ := ndsO hr1; rw [HNS.out] at hd ⊢; have SW := Lib.hid hd; clear hr1 hd hb1 KRAL)
              | (go_at_call 29; refine (KSM.out _ _ _ SS.out SW.out).mono ?_; rintro e w9 ⟨rfl, hb1⟩; replace SL := Lib.hid (SL.out.below hb1); replace SM := Lib.hid (SM.out.below hb1); replace SS := Lib.hid (SS.out.below hb1); replace SR := Lib.hid (SR.out.below hb1); replace SW := Lib.hid (SW.out.below hb1); replace BB := Lib.hid (below_step BB.out hb1); clear hb1))
          go_upto_region 17 with (go_at_call 30; refine (KBR.out _ _ SL.out).mono ?_; rintro e w9 ⟨rfl, hb1⟩; replace SL := Lib.hid (SL.out.below hb1); replace SM := Lib.hid (SM.out.below hb1); replace SS := Lib.hid (SS.out.below hb1); replace SR := Lib.hid (SR.out.below hb1); replace SW := Lib.hid (SW.out.below hb1); replace BB := Lib.hid (below_step BB.out hb1); clear hb1)
          cases hk : pathB p
          · have h2 := HB0.out
            rw [bestE_no (by rw [ho, hk]; rfl)] at h2
            obtain ⟨rfl, rfl⟩ := Prod.mk.inj h2
            have q0 := str_nil
            have kpm := KPM.out
            rw [hk] at kpm
            replace KPM := Lib.hid kpm
            clear h2 kpm ho hk
            go_wp2_with (first
                | (go_at_call 31; refine (KPM.out _).mono ?_; rintro e w9 ⟨rfl, hb0⟩; have hb1 := hb0.toBelow; clear hb0; replace SL := Lib.hid (SL.out.below hb1); replace SM := Lib.hid (SM.out.below hb1); replace SS := Lib.hid (SS.out.below hb1); replace SR := Lib.hid (SR.out.below hb1); replace SW := Lib.hid (SW.out.below hb1); replace BB := Lib.hid (below_step BB.out hb1); clear hb1)
                | (go_at_call 17; refine (tawake_any _).mono ?_; rintro e w9 ⟨rfl, hb1⟩; replace SL := Lib.hid (SL.out.below hb1); replace SM := Lib.hid (SM.out.below hb1); replace SS := Lib.hid (SS.out.below hb1); replace SR := Lib.hid (SR.out.below hb1); replace SW := Lib.hid (SW.out.below hb1); replace BB := Lib.hid (below_step BB.out hb1); clear hb1))
            go_ret
            exact ⟨rfl, BB.out⟩
          · have kpm := KPM.out
            rw [hk] at kpm
            replace KPM := Lib.hid kpm
            have h2 := HB0.out
            have h3 := HW0.out
            rw [refB_is ho] at h3
            clear kpm
            by_cases hv : rwVer l p = []
            · rw [bestE_none ho hk hv] at h2
              rw [if_pos hv] at h3
              obtain ⟨rfl, rfl⟩ := Prod.mk.inj h2
              obtain ⟨rfl, rfl⟩ := Prod.mk.inj h3
              have q0 := str_nil
              clear h2 h3 ho hk hv
              go_wp2_with (first
                  | (go_at_call 31; refine (KPM.out _).mono ?_; rintro e w9 ⟨rfl, hb0⟩; have hb1 := hb0.toBelow; clear hb0; replace SL := Lib.hid (SL.out.below hb1); replace SM := Lib.hid (SM.out.below hb1); replace SS := Lib.hid (SS.out.below hb1); replace SR := Lib.hid (SR.out.below hb1); replace SW := Lib.hid (SW.out.below hb1); replace BB := Lib.hid (below_step BB.out hb1); clear hb1)
                  | (go_at_call 17; refine (tawake_any _).mono ?_; rintro e w9 ⟨rfl, hb1⟩; replace SL := Lib.hid (SL.out.below hb1); replace SM := Lib.hid (SM.out.below hb1); replace SS := Lib.hid (SS.out.below hb1); replace SR := Lib.hid (SR.out.below hb1); replace SW := Lib.hid (SW.out.below hb1); replace BB := Lib.hid (below_step BB.out hb1); clear hb1))
              go_ret
              exact ⟨rfl, BB.out⟩
            · rw [bestE_yes ho hk hv] at h2
              rw [if_neg hv] at h3
              obtain ⟨rfl, rfl⟩ := Prod.mk.inj h2
              obtain ⟨rfl, rfl⟩ := Prod.mk.inj h3
              clear h2 h3 ho hk hv HB0 HW0
              obtain ⟨z, hz⟩ : ∃ z, lastV (rwVer l p) = z := ⟨_, rfl⟩
              rw [hz]
              clear hz
              go_wp2_with (first
                  | (go_at_call 31; refine (KPM.out _).mono ?_; rintro e w9 ⟨rfl, hb0⟩; have hb1 := hb0.toBelow; clear hb0; replace SL := Lib.hid (SL.out.below hb1); replace SM := Lib.hid (SM.out.below hb1); replace SS := Lib.hid (SS.out.below hb1); replace SR := Lib.hid (SR.out.below hb1); replace SW := Lib.hid (SW.out.below hb1); replace BB := Lib.hid (below_step BB.out hb1); clear hb1)
                  | (go_at_call 17; refine (tawake_any _).mono ?_; rintro e w9 ⟨rfl, hb1⟩; replace SL := Lib.hid (SL.out.below hb1); replace SM := Lib.hid (SM.out.below hb1); replace SS := Lib.hid (SS.out.below hb1); replace SR := Lib.hid (SR.out.below hb1); replace SW := Lib.hid (SW.out.below hb1); replace BB := Lib.hid (below_step BB.out hb1); clear hb1))
              go_ret
              exact ⟨rfl, BB.out⟩

theorem own : ownKnob Tryz.prog.godebug = none := by kernel_rfl
theorem laidOut : laidOutB Tryz.prog = true := by kernel_rfl

set_option maxRecDepth 100000 in
theorem lifted (os : Os) (started : os.Started) (H : Type) (enc : TypeId × Value → H) :
    ReturnsInHanded {} Tryz.checked os 4 .any (Rows.tallyTellsSpec.pre6 enc Tryz.prog Tryz.f4 Rows.tallyTellsRow.domain false) (Rows.tallyTellsSpec.post enc Tryz.prog Tryz.f4 false true false false) := by
  refine returnsInHanded_of_change (C := Tryz.checked) own started (by kernel_rfl) Tryz.func4
    (ChangeSpec.witness6 (enc := enc) (C := Tryz.checked) false ⟨#[], #[.slice none 0 0, .slice none 0 0, .string ByteArray.empty], []⟩ 8 (by kernel_rfl) (by kernel_rfl) (by kernel_rfl) (by kernel_rfl)) ?_
  intro W base args ds gs before hval0 hW hcnd _
  have hval : ∀ (j : Nat) t v, Tryz.f4.params[j]? = some t → args[j]? = some v → Value.okWide Tryz.prog W .any base t v := hval0
  have hW' := hW
  obtain ⟨p, q, hA0, hV, rfl, hfz, hnd⟩ := hW
  have hA : DataW.TrodAll enc Tryz.prog W 0 (fun _ => true) true Tryz.f4.params.toList args.toList ds p := hA0
  rw [Tryz.params4] at hA hval
  obtain ⟨v0, vs0, d0, ds0, p0, q0, hargs, rfl, rfl, h0, r0⟩ := trodAll_cons hA
  obtain ⟨v1, vs1, d1, ds1, p1, q1, rfl, rfl, rfl, h1, r1⟩ := trodAll_cons r0
  obtain ⟨v2, vs2, d2, ds2, p2, q2, rfl, rfl, rfl, h2, r2⟩ := trodAll_cons r1
  obtain ⟨rfl, rfl, rfl⟩ := trodAll_nil r2
  obtain rfl : args = #[v0, v1, v2] := by cases args; simp_all
  obtain ⟨rfl, rfl⟩ := trodVars_none hV
  obtain ⟨a0, len0, cap0, rfl⟩ := okWide_slice Tryz.underlying22 (hval 0 22 v0 rfl rfl)
  have k0 := h0
  have lt0 : ∀ x ∈ p0, x.block < W.heap.size := by obtain ⟨m, hm⟩ := k0; exact DataW.trod_lt m _ _ _ hm
  obtain ⟨z0, w0⟩ : ∃ zs, Rws W (.slice a0 len0 cap0) zs ∧ fitsR zs := by
    obtain ⟨fuel, hf⟩ := h0
    exact rws_open (by simpa [Value.cells] using hf)
  obtain ⟨a1, len1, cap1, rfl⟩ := okWide_slice Tryz.underlying35 (hval 1 35 v1 rfl rfl)
  have k1 := h1
  have lt1 : ∀ x ∈ p1, x.block < W.heap.size := by obtain ⟨m, hm⟩ := k1; exact DataW.trod_lt m _ _ _ hm
  obtain ⟨z1, w1⟩ : ∃ zs, Nds W (.slice a1 len1 cap1) zs ∧ ∀ n ∈ zs, fitsN n := by
    obtain ⟨fuel, hf⟩ := h1
    exact nds_open (by simpa [Value.cells] using hf)
  obtain ⟨a2, rfl, rfl, rfl, w2⟩ := open_string Tryz.underlying9 (hval 2 9 v2 rfl rfl) h2
  clear hA0 hval0
  refine (walk _ z0 _ z1 a2 W w0 w1 w2).mono fun e W' ⟨he, bel⟩ => ?_
  subst he
  exact ⟨_, rfl, _, _, _, [], _, [], hW', trodAll_mk1 (shut_bool Tryz.underlying4 _), (trodAll_cons_mk (Below.trod laidOut (by kernel_rfl) (of_decide_eq_true (by kernel_rfl)) k0 bel lt0) (trodAll_cons_mk (Below.trod laidOut (by kernel_rfl) (of_decide_eq_true (by kernel_rfl)) k1 bel lt1) (trodAll_cons_mk (shut_string Tryz.underlying9 w2) trodAll_mk0))), rfl, bel.frame _, fun h => by cases h⟩

-- the given statement
theorem proved : Rows.TallyTellsSaid :=
  OpenClaim.holds_of_wide 4 Tryz.f4 rfl rfl rfl rfl rfl rfl rfl ⟨rfl, rfl, rfl, rfl, rfl⟩ rfl rfl rfl rfl rfl (by kernel_rfl) Tryz.func4 (by kernel_rfl)
    (of_decide_eq_true (by kernel_rfl)) (by unfold Func.isWrapper; first | (rw [if_pos (by decide +kernel)]; kernel_rfl) | (rw [if_neg (by decide +kernel)]; exact ⟨rfl, rfl⟩))
    (fun os started H enc _ => lifted os started H enc)
end Go.Proofs.YtnngfcjfhhfafaaGreat.tallyTells
