/- Of every nodes (no more, and no longer, than are looked at): in whatever order they come the rows are the same; all of them gone, nothing is left; no condition. -/
import Derived.Test.YtnngfcjfhhfafaaGreatRows
import Derived.Test.YtnngfcjfhhfafaaGreatTalS
import Derived.Test.YtnngfcjfhhfafaaGreatNodQ
import Derived.Test.YtnngfcjfhhfafaaGreatNodI
import Derived.Test.YtnngfcjfhhfafaaGreatNodS
import Derived.Test.YtnngfcjfhhfafaaGreatNodP
import Derived.ProofKit
import Derived.OpenShut
import Derived.ShutString
import Derived.ChangeOld
namespace Go.Proofs.YtnngfcjfhhfafaaGreat.tallyOrder
open Go.ChangeShapes Go.WideShapes Go.ChangeAt Go.RowKit
open Go.ChangeMaps (open_string shut_string)
set_option maxRecDepth 100000
set_option linter.unusedVariables false

theorem set_rev {l : List Nd} (h : ∀ x ∈ l, okN x = true) : setN l.reverse = setN l := setN_is h (setN_rises _) fun x => by
  rw [setN_mem (fun y hy => h y (List.mem_reverse.1 hy))]; exact List.mem_reverse
theorem rev_at {l : List Nd} {k j n : Nat} (hn : l.length = n) (hk : k < n) (hj : j = n - 1 - k) : l.reverse.getD k ([], []) = l.getD j ([], []) := by
  subst hj hn
  simp only [List.getD_eq_getElem?_getD]
  rw [List.getElem?_reverse hk]
theorem add_step {S : List Nd} {n : Nd} (h : checkN S = true) (hn : okN n = true) : ∃ e : Int, addE (rwOf S) n = (rwOf (withN S n), e) ∧ (e = 0 ∨ e = 3) := by
  have hr := of_ok h
  cases hh : hasN S n
  · exact ⟨0, by rw [addE_yes hr hn (by rw [all_of]; exact hh), all_of], .inl rfl⟩
  · exact ⟨3, by rw [addE_has hr hn (by rw [all_of]; exact hh), withN_same h hn (hasN_iff.1 hh)], .inr rfl⟩
theorem minus_none {S : List Nd} {n : Nd} (h : hasN S n = false) : minusN S [n] = S := by
  unfold minusN
  refine List.filter_eq_self.2 fun x hx => ?_
  have : hasN [n] x = false := hasN_not.2 fun k => by rw [List.mem_singleton] at k; subst k; exact hasN_not.1 h hx
  rw [this]; rfl
theorem drop_step {S : List Nd} {n : Nd} (h : checkN S = true) (hn : okN n = true) : ∃ e : Int, dropE (rwOf S) n = (rwOf (minusN S [n]), e) ∧ (e = 0 ∨ e = 2) := by
  have hr := of_ok h
  cases hh : hasN S n
  · exact ⟨2, by rw [dropE_none hr hn (by rw [all_of]; exact hh), minus_none hh], .inr rfl⟩
  · exact ⟨0, by rw [dropE_yes hr hn (by rw [all_of]; exact hh), all_of], .inl rfl⟩
theorem minus_snoc {S ms : List Nd} {k : Nat} (h : k < ms.length) : minusN S (ms.take (k + 1)) = minusN (minusN S (ms.take k)) [ms.getD k ([], [])] := by
  unfold minusN
  rw [List.filter_filter]
  refine List.filter_congr fun x _ => ?_
  unfold hasN
  rw [List.take_succ_eq_append_getElem h, gd_at h, ← Bool.not_or, Bool.not_inj_iff, Bool.eq_iff_iff, Bool.or_eq_true, decide_eq_true_iff, decide_eq_true_iff, decide_eq_true_iff, List.mem_append, Or.comm]
theorem minus_zero (S : List Nd) : minusN S [] = S := by
  unfold minusN
  exact List.filter_eq_self.2 fun x _ => by rw [hasN_not.2 (fun k => by cases k)]; rfl
theorem minus_all {ms : List Nd} (h : ∀ n ∈ ms, okN n = true) : minusN (setN ms) ms = [] := by
  unfold minusN
  refine List.filter_eq_nil_iff.2 fun x hx => ?_
  rw [hasN_iff.2 ((setN_mem h x).1 hx)]; decide
theorem sub_num {a b c : Nat} (h : c + b = a) (hb : a ≤ 100) : IntKind.i64.wrap ((a : Int) - (b : Int)) = (c : Int) := by
  rw [show ((a : Int) - (b : Int)) = (c : Int) by omega]; exact IntWalk.i64_in _ (by omega)
theorem sub_one' {a c : Nat} (h : c + 1 = a) (hb : a ≤ 100) : IntKind.i64.wrap ((a : Int) - 1) = (c : Int) := by
  rw [show ((a : Int) - 1) = (c : Int) by omega]; exact IntWalk.i64_in _ (by omega)
set_option maxRecDepth 100000 in
set_option maxHeartbeats 6400000 in
theorem walk (U : Value) (k0 : List Nd) (w : World) (hU : Nds w U k0 ∧ ∀ n ∈ k0, fitsN n) :
    Calls Tryz.prog 5 #[U] w fun e w' => e = .returned (.bool true) ∧ Below w.heap.size w w' := by
  obtain ⟨hU, fU⟩ := hU
  obtain ⟨A', c', rfl, -⟩ := hU.ex
  have kfn := fun V w h => nfewo_any V k0 w h fU
  have hml := fewNs_len k0; have hmz := fewNs_small k0
  obtain ⟨m1, hm1⟩ : ∃ r, k0.length = r := ⟨_, rfl⟩
  rw [hm1] at hU ⊢
  obtain ⟨ms, hms⟩ : ∃ r, fewNs k0 = r := ⟨_, rfl⟩
  rw [hms] at kfn hml hmz
  obtain ⟨nm, hnm⟩ : ∃ r, ms.length = r := ⟨_, rfl⟩
  rw [hnm] at hml
  have SU := Lib.hid hU; have KFN := Lib.hid kfn; have HMZ := Lib.hid hmz; have HNM := Lib.hid hnm
  clear hU fU kfn hmz hm1 hms hnm
  have BB := Lib.hid (Below.refl w.heap.size w)
  have kof := fun V w h => trows_any V ms w h HMZ.out (by rw [HNM.out]; omega)
  obtain ⟨PR, hR⟩ : ∃ r, rowsE ms = r := ⟨_, rfl⟩
  rw [hR] at kof
  obtain ⟨ra, kr⟩ := PR
  simp only at kof
  obtain ⟨nr, hnr⟩ : ∃ r, ra.length = r := ⟨_, rfl⟩
  have KOF := Lib.hid kof; have HR := Lib.hid hR; have HNR := Lib.hid hnr
  clear kof hR hnr
  go_enter Tryz.func5, Tryz.ntmps5
  go_upto_region 2 with (go_at_call 23; refine (KFN.out _ _ SU.out).mono ?_; rintro e w9 ⟨v1, rfl, hr1, hb1⟩; replace SU := Lib.hid (SU.out.below hb1); replace BB := Lib.hid (below_step BB.out hb1); obtain ⟨aM, cM, rfl, hd⟩ := ndsO hr1; rw [HNM.out] at hd ⊢; have SM := Lib.hid hd; clear hr1 hd hb1 KFN SU)
  go_upto_region 3 with (go_at_call 26; refine (KOF.out _ _ SM.out).mono ?_; rintro e w9 ⟨v1, rfl, hr1, hb1⟩; replace SM := Lib.hid (SM.out.below hb1); replace BB := Lib.hid (below_step BB.out hb1); obtain ⟨aR, cR, rfl, hd⟩ := hr1.slice HNR.out; have SR := Lib.hid hd; clear hr1 hd hb1 KOF)
  cases hom : ms.all okN
  · have h1 := HR.out
    rw [rowsE_no hom] at h1
    obtain ⟨rfl, rfl⟩ := Prod.mk.inj h1
    clear h1 hom SM SR
    go_wp2_with (go_at_call 17; refine (tawake_any _).mono ?_; rintro e w9 ⟨rfl, hb1⟩; replace BB := Lib.hid (below_step BB.out hb1); clear hb1)
    go_ret
    exact ⟨rfl, BB.out⟩
  · have h1 := HR.out
    rw [rowsE_yes hom] at h1
    obtain ⟨rfl, rfl⟩ := Prod.mk.inj h1
    have hall := List.all_eq_true.1 hom
    obtain ⟨rv, hrv⟩ : ∃ r, ms.reverse = r := ⟨_, rfl⟩
    have hrl : rv.length = nm := by rw [← hrv, List.length_reverse]; exact HNM.out
    have hset : setN rv = setN ms := by rw [← hrv]; exact set_rev hall
    have hrm : ∀ n ∈ rv, n ∈ ms := fun n hn => by rw [← hrv] at hn; exact List.mem_reverse.1 hn
    have HALL := Lib.hid hall; have HRV := Lib.hid hrv; have HRL := Lib.hid hrl; have HSET := Lib.hid hset; have HRM := Lib.hid hrm
    clear h1 hom hall hrv hrl hset hrm HR
    obtain ⟨w3, hw3⟩ : ∃ v, v = w9 := ⟨_, rfl⟩
    subst hw3
    go_wp2
    go_loopw [5, 6, 7] (fun x y i wr => ∃ (k : Nat) (X Y : Value), k ≤ nm ∧ i = .int .i64 k ∧ X = x ∧ Y = y ∧ Hid (Rws wr X (rwOf (setN (ms.take k)))) ∧ Hid (Rws wr Y (rwOf (setN (rv.take k)))) ∧ Hid (Below w3.heap.size w3 wr)) (fun _ _ i _ => nm - (intOf i).toNat)
    case atStart => exact ⟨0, _, _, Nat.zero_le _, rfl, rfl, rfl, Lib.hid (rws_none _), Lib.hid (rws_none _), Lib.hid (Below.refl _ _)⟩
    case round =>
      obtain ⟨k, X, Y, hk, rfl, rfl, rfl, SX, SY, HB⟩ := hrel
      by_cases hlt : k < nm
      · have hkl : k < ms.length := by rw [HNM.out]; exact hlt
        obtain ⟨j, hj⟩ : ∃ j, j = nm - 1 - k := ⟨_, rfl⟩
        have hjl : j < ms.length := by rw [HNM.out]; omega
        obtain ⟨t, ht⟩ : ∃ t, t = nm - 1 := ⟨_, rfl⟩
        have hw1 := sub_one' (a := nm) (c := t) (by omega) (by omega)
        have hw2 := sub_num (a := t) (b := k) (c := j) (by omega) (by omega)
        have HSM := Lib.hid (SM.out.below HB.out)
        obtain ⟨bb, off, hA1, -, hd0, hd1⟩ := HSM.out.at j hjl
        obtain ⟨bb2, off2, hA2, -, hc0, hc1⟩ := HSM.out.at k hkl
        rw [hA1] at hA2
        injection hA2 with hA2
        injection hA2 with hA2 hA3
        subst hA1 hA2 hA3
        have hs1 := setN_take_succ hkl
        have hs2 := setN_take_succ (l := rv) (k := k) (by rw [HRL.out]; exact hlt)
        have hoy := HALL.out _ (gd_in (z := ([], [])) hkl)
        have hoz := HALL.out _ (gd_in (z := ([], [])) hjl)
        have hmy := HMZ.out _ (gd_in (z := ([], [])) hkl)
        have hmz := HMZ.out _ (gd_in (z := ([], [])) hjl)
        rw [← HRV.out, rev_at HNM.out hlt hj, HRV.out] at hs2
        have hk1 : checkN (setN (ms.take k)) = true := setN_check fun x hx => HALL.out x (List.mem_of_mem_take hx)
        have hk2 : checkN (setN (rv.take k)) = true := setN_check fun x hx => HALL.out x (HRM.out x (List.mem_of_mem_take hx))
        have hz1 : SzR 24 (rwOf (setN (ms.take k))) := SzR.of (small_set fun x hx => HMZ.out x (List.mem_of_mem_take hx)) (by have := setN_len (ms.take k); rw [List.length_take] at this; omega)
        have hz2 : SzR 24 (rwOf (setN (rv.take k))) := SzR.of (small_set fun x hx => HMZ.out x (HRM.out x (List.mem_of_mem_take hx))) (by have := setN_len (rv.take k); rw [List.length_take] at this; omega)
        obtain ⟨S1, hS1⟩ : ∃ r, setN (ms.take k) = r := ⟨_, rfl⟩
        obtain ⟨S2, hS2⟩ : ∃ r, setN (rv.take k) = r := ⟨_, rfl⟩
        rw [hS1] at SX hs1 hk1 hz1
        rw [hS2] at SY hs2 hk2 hz2
        obtain ⟨y, hy⟩ : ∃ y, y = ms.getD k ([], []) := ⟨_, rfl⟩
        obtain ⟨z, hz⟩ : ∃ y, y = ms.getD j ([], []) := ⟨_, rfl⟩
        rw [← hy] at hc0 hc1 hs1 hoy hmy
        rw [← hz] at hd0 hd1 hs2 hoz hmz
        obtain ⟨y1, y2⟩ := y
        obtain ⟨z1, z2⟩ := z
        simp only at hc0 hc1 hd0 hd1
        obtain ⟨e1, he1, hf1⟩ := add_step hk1 hoy
        obtain ⟨e2, he2, hf2⟩ := add_step hk2 hoz
        have kadx := fun V w h => tadd_any V (rwOf S1) y1 y2 w h (Nat.le_trans hz1.len (by decide)) (hz1.versK (by decide)) hz1.path hz1.text hmy.1 hmy.2
        have kady := fun V w h => tadd_any V (rwOf S2) z1 z2 w h (Nat.le_trans hz2.len (by decide)) (hz2.versK (by decide)) hz2.path hz2.text hmz.1 hmz.2
        rw [he1] at kadx
        rw [he2] at kady
        simp only at kadx kady
        have HS1 := Lib.hid hs1; have HS2 := Lib.hid hs2; have KADX := Lib.hid kadx; have KADY := Lib.hid kady
        have hkb : (k : Int) < (nm : Int) := by omega
        have hjb : (j : Int) < (nm : Int) := by omega
        clear hs1 hs2 kadx kady hy hz hS1 hS2 hk1 hk2 hz1 hz2 hoy hoz hmy hmz he1 he2 hkl hjl hj ht
        rcases hf1 with rfl | rfl
        · rcases hf2 with rfl | rfl
          · go_wp2_with (first
                | (go_at_call 10; refine (KADX.out _ _ SX.out).mono ?_; rintro e w8 ⟨X2, rfl, hr1, hb1⟩; replace SY := Lib.hid (SY.out.below hb1); have SX2 := Lib.hid hr1; replace hc0 := cell_keep hc0 hb1; replace hc1 := cell_keep hc1 hb1; replace hd0 := cell_keep hd0 hb1; replace hd1 := cell_keep hd1 hb1; replace HB := Lib.hid (below_step HB.out hb1); clear hr1 hb1 KADX SX)
                | (go_at_call 10; refine (KADY.out _ _ SY.out).mono ?_; rintro e w8 ⟨Y2, rfl, hr1, hb1⟩; replace SX2 := Lib.hid (SX2.out.below hb1); have SY2 := Lib.hid hr1; replace HB := Lib.hid (below_step HB.out hb1); clear hr1 hb1 KADY SY))
            go_roundw
            case rel => exact ⟨k + 1, _, _, by omega, by go_num, rfl, rfl, Lib.hid (by rw [HS1.out]; exact SX2.out), Lib.hid (by rw [HS2.out]; exact SY2.out), HB⟩
            case measure => simp [intOf]; omega
          · go_wp2_with (first
                | (go_at_call 10; refine (KADX.out _ _ SX.out).mono ?_; rintro e w8 ⟨X2, rfl, hr1, hb1⟩; replace SY := Lib.hid (SY.out.below hb1); have SX2 := Lib.hid hr1; replace hc0 := cell_keep hc0 hb1; replace hc1 := cell_keep hc1 hb1; replace hd0 := cell_keep hd0 hb1; replace hd1 := cell_keep hd1 hb1; replace HB := Lib.hid (below_step HB.out hb1); clear hr1 hb1 KADX SX)
                | (go_at_call 10; refine (KADY.out _ _ SY.out).mono ?_; rintro e w8 ⟨Y2, rfl, hr1, hb1⟩; replace SX2 := Lib.hid (SX2.out.below hb1); have SY2 := Lib.hid hr1; replace HB := Lib.hid (below_step HB.out hb1); clear hr1 hb1 KADY SY))
            go_roundw
            case rel => exact ⟨k + 1, _, _, by omega, by go_num, rfl, rfl, Lib.hid (by rw [HS1.out]; exact SX2.out), Lib.hid (by rw [HS2.out]; exact SY2.out), HB⟩
            case measure => simp [intOf]; omega
        · rcases hf2 with rfl | rfl
          · go_wp2_with (first
                | (go_at_call 10; refine (KADX.out _ _ SX.out).mono ?_; rintro e w8 ⟨X2, rfl, hr1, hb1⟩; replace SY := Lib.hid (SY.out.below hb1); have SX2 := Lib.hid hr1; replace hc0 := cell_keep hc0 hb1; replace hc1 := cell_keep hc1 hb1; replace hd0 := cell_keep hd0 hb1; replace hd1 := cell_keep hd1 hb1; replace HB := Lib.hid (below_step HB.out hb1); clear hr1 hb1 KADX SX)
                | (go_at_call 10; refine (KADY.out _ _ SY.out).mono ?_; rintro e w8 ⟨Y2, rfl, hr1, hb1⟩; replace SX2 := Lib.hid (SX2.out.below hb1); have SY2 := Lib.hid hr1; replace HB := Lib.hid (below_step HB.out hb1); clear hr1 hb1 KADY SY))
            go_roundw
            case rel => exact ⟨k + 1, _, _, by omega, by go_num, rfl, rfl, Lib.hid (by rw [HS1.out]; exact SX2.out), Lib.hid (by rw [HS2.out]; exact SY2.out), HB⟩
            case measure => simp [intOf]; omega
          · go_wp2_with (first
                | (go_at_call 10; refine (KADX.out _ _ SX.out).mono ?_; rintro e w8 ⟨X2, rfl, hr1, hb1⟩; replace SY := Lib.hid (SY.out.below hb1); have SX2 := Lib.hid hr1; replace hc0 := cell_keep hc0 hb1; replace hc1 := cell_keep hc1 hb1; replace hd0 := cell_keep hd0 hb1; replace hd1 := cell_keep hd1 hb1; replace HB := Lib.hid (below_step HB.out hb1); clear hr1 hb1 KADX SX)
                | (go_at_call 10; refine (KADY.out _ _ SY.out).mono ?_; rintro e w8 ⟨Y2, rfl, hr1, hb1⟩; replace SX2 := Lib.hid (SX2.out.below hb1); have SY2 := Lib.hid hr1; replace HB := Lib.hid (below_step HB.out hb1); clear hr1 hb1 KADY SY))
            go_roundw
            case rel => exact ⟨k + 1, _, _, by omega, by go_num, rfl, rfl, Lib.hid (by rw [HS1.out]; exact SX2.out), Lib.hid (by rw [HS2.out]; exact SY2.out), HB⟩
            case measure => simp [intOf]; omega
      · have e : nm = k := by omega
        subst e
        rw [List.take_of_length_le (by rw [HNM.out]; exact Nat.le_refl _)] at SX
        rw [List.take_of_length_le (by rw [HRL.out]; exact Nat.le_refl _), HSET.out] at SY
        replace SM := Lib.hid (SM.out.below HB.out); replace SR := Lib.hid (SR.out.below HB.out); replace BB := Lib.hid (below_step BB.out HB.out)
        clear HB hlt hk
        have hck : checkN (setN ms) = true := setN_check HALL.out
        have hsl := setN_len ms
        rw [HNM.out] at hsl
        have hss := small_set HMZ.out
        have hma := minus_all HALL.out
        obtain ⟨S, hS⟩ : ∃ r, setN ms = r := ⟨_, rfl⟩
        rw [hS] at SX SY SR hck hsl hss hma HNR
        have hz : SzR 24 (rwOf S) := SzR.of hss (by omega)
        have kch := fun V w h => tcheck_any V (rwOf S) w h (Nat.le_trans hz.len (by decide)) hz.path hz.text
        rw [if_pos (of_ok hck)] at kch
        have KCH := Lib.hid kch; have HCK := Lib.hid hck; have HSS := Lib.hid hss; have HMA := Lib.hid hma
        clear hS hz kch hck hss hma HSET
        go_upto_region 16 with (first
            | (go_at_call 14; refine (tsame_any _ _ _ _ _ SX.out SR.out).mono ?_; rintro e w9 ⟨rfl, hb1⟩; rw [dec_rows]; replace SM := Lib.hid (SM.out.below hb1); replace SR := Lib.hid (SR.out.below hb1); replace SX := Lib.hid (SX.out.below hb1); replace SY := Lib.hid (SY.out.below hb1); replace BB := Lib.hid (below_step BB.out hb1); clear hb1)
            | (go_at_call 14; refine (tsame_any _ _ _ _ _ SY.out SR.out).mono ?_; rintro e w9 ⟨rfl, hb1⟩; rw [dec_rows]; replace SM := Lib.hid (SM.out.below hb1); replace SR := Lib.hid (SR.out.below hb1); replace SX := Lib.hid (SX.out.below hb1); replace SY := Lib.hid (SY.out.below hb1); replace BB := Lib.hid (below_step BB.out hb1); clear hb1)
            | (go_at_call 12; refine (KCH.out _ _ SX.out).mono ?_; rintro e w9 ⟨rfl, hb1⟩; replace SM := Lib.hid (SM.out.below hb1); replace SR := Lib.hid (SR.out.below hb1); replace SX := Lib.hid (SX.out.below hb1); replace SY := Lib.hid (SY.out.below hb1); replace BB := Lib.hid (below_step BB.out hb1); clear hb1))
        clear KCH SY SR
        obtain ⟨w6, hw6⟩ : ∃ v, v = w9 := ⟨_, rfl⟩
        subst hw6
        go_wp2
        go_loopw [5, 12] (fun x i wr => ∃ (k : Nat) (X : Value), k ≤ nm ∧ i = .int .i64 k ∧ X = x ∧ Hid (Rws wr X (rwOf (minusN S (ms.take k)))) ∧ Hid (Below w6.heap.size w6 wr)) (fun _ i _ => nm - (intOf i).toNat)
        case atStart => exact ⟨0, _, Nat.zero_le _, rfl, rfl, Lib.hid (by rw [List.take_zero, minus_zero]; exact SX.out), Lib.hid (Below.refl _ _)⟩
        case round =>
          clear SX
          obtain ⟨k, X, hk, rfl, rfl, SX, HB⟩ := hrel
          by_cases hlt : k < nm
          · have hkl : k < ms.length := by rw [HNM.out]; exact hlt
            obtain ⟨bb, off, rfl, -, hc0, hc1⟩ := (SM.out.below HB.out).at k hkl
            have hs1 := minus_snoc (S := S) hkl
            have hoy := HALL.out _ (gd_in (z := ([], [])) hkl)
            have hmy := HMZ.out _ (gd_in (z := ([], [])) hkl)
            have hk1 : checkN (minusN S (ms.take k)) = true := minusN_check HCK.out
            have hz1 : SzR 24 (rwOf (minusN S (ms.take k))) := SzR.of (small_minus HSS.out) (by have := minusN_len S (ms.take k); omega)
            obtain ⟨S1, hS1⟩ : ∃ r, minusN S (ms.take k) = r := ⟨_, rfl⟩
            rw [hS1] at SX hs1 hk1 hz1
            obtain ⟨y, hy⟩ : ∃ y, y = ms.getD k ([], []) := ⟨_, rfl⟩
            rw [← hy] at hc0 hc1 hs1 hoy hmy
            obtain ⟨y1, y2⟩ := y
            simp only at hc0 hc1
            obtain ⟨e1, he1, hf1⟩ := drop_step hk1 hoy
            have kdr := fun V w h => tdrop_any V (rwOf S1) y1 y2 w h (Nat.le_trans hz1.len (by decide)) (hz1.versK (by decide)) hz1.path hz1.text hmy.1 hmy.2
            rw [he1] at kdr
            simp only at kdr
            have HS1 := Lib.hid hs1; have KDR := Lib.hid kdr
            have hkb : (k : Int) < (nm : Int) := by omega
            clear hs1 kdr hy hS1 hk1 hz1 hoy hmy he1 hkl
            rcases hf1 with rfl | rfl
            · go_wp2_with (go_at_call 11; refine (KDR.out _ _ SX.out).mono ?_; rintro e w8 ⟨X2, rfl, hr1, hb1⟩; have SX2 := Lib.hid hr1; replace HB := Lib.hid (below_step HB.out hb1); clear hr1 hb1 KDR SX)
              go_roundw
              case rel => exact ⟨k + 1, _, by omega, by go_num, rfl, Lib.hid (by rw [HS1.out]; exact SX2.out), HB⟩
              case measure => simp [intOf]; omega
            · go_wp2_with (go_at_call 11; refine (KDR.out _ _ SX.out).mono ?_; rintro e w8 ⟨X2, rfl, hr1, hb1⟩; have SX2 := Lib.hid hr1; replace HB := Lib.hid (below_step HB.out hb1); clear hr1 hb1 KDR SX)
              go_roundw
              case rel => exact ⟨k + 1, _, by omega, by go_num, rfl, Lib.hid (by rw [HS1.out]; exact SX2.out), HB⟩
              case measure => simp [intOf]; omega
          · have e : nm = k := by omega
            subst e
            rw [List.take_of_length_le (by rw [HNM.out]; exact Nat.le_refl _), HMA.out] at SX
            replace BB := Lib.hid (below_step BB.out HB.out)
            clear HB hlt hk SM
            obtain ⟨aX, cX, rfl, hd⟩ := SX.out.slice (n := 0) rfl
            clear SX hd
            go_wp2_with (go_at_call 17; refine (tawake_any _).mono ?_; rintro e w9 ⟨rfl, hb1⟩; replace BB := Lib.hid (below_step BB.out hb1); clear hb1)
            go_ret
            exact ⟨rfl, BB.out⟩

theorem own : ownKnob Tryz.prog.godebug = none := by kernel_rfl
theorem laidOut : laidOutB Tryz.prog = true := by kernel_rfl

set_option maxRecDepth 100000 in
theorem lifted (os : Os) (started : os.Started) (H : Type) (enc : TypeId × Value → H) :
    ReturnsInHanded {} Tryz.checked os 5 .any (Rows.tallyOrderSpec.pre6 enc Tryz.prog Tryz.f5 Rows.tallyOrderRow.domain false) (Rows.tallyOrderSpec.post enc Tryz.prog Tryz.f5 false true false false) := by
  refine returnsInHanded_of_change (C := Tryz.checked) own started (by kernel_rfl) Tryz.func5
    (ChangeSpec.witness6 (enc := enc) (C := Tryz.checked) false ⟨#[], #[.slice none 0 0], []⟩ 8 (by kernel_rfl) (by kernel_rfl) (by kernel_rfl) (by kernel_rfl)) ?_
  intro W base args ds gs before hval0 hW hcnd _
  have hval : ∀ (j : Nat) t v, Tryz.f5.params[j]? = some t → args[j]? = some v → Value.okWide Tryz.prog W .any base t v := hval0
  have hW' := hW
  obtain ⟨p, q, hA0, hV, rfl, hfz, hnd⟩ := hW
  have hA : DataW.TrodAll enc Tryz.prog W 0 (fun _ => true) true Tryz.f5.params.toList args.toList ds p := hA0
  rw [Tryz.params5] at hA hval
  obtain ⟨v0, vs0, d0, ds0, p0, q0, hargs, rfl, rfl, h0, r0⟩ := trodAll_cons hA
  obtain ⟨rfl, rfl, rfl⟩ := trodAll_nil r0
  obtain rfl : args = #[v0] := by cases args; simp_all
  obtain ⟨rfl, rfl⟩ := trodVars_none hV
  obtain ⟨a0, len0, cap0, rfl⟩ := okWide_slice Tryz.underlying35 (hval 0 35 v0 rfl rfl)
  have k0 := h0
  have lt0 : ∀ x ∈ p0, x.block < W.heap.size := by obtain ⟨m, hm⟩ := k0; exact DataW.trod_lt m _ _ _ hm
  obtain ⟨z0, w0⟩ : ∃ zs, Nds W (.slice a0 len0 cap0) zs ∧ ∀ n ∈ zs, fitsN n := by
    obtain ⟨fuel, hf⟩ := h0
    exact nds_open (by simpa [Value.cells] using hf)
  clear hA0 hval0
  refine (walk _ z0 W w0).mono fun e W' ⟨he, bel⟩ => ?_
  subst he
  exact ⟨_, rfl, _, _, _, [], _, [], hW', trodAll_mk1 (shut_bool Tryz.underlying4 _), (trodAll_cons_mk (Below.trod laidOut (by kernel_rfl) (of_decide_eq_true (by kernel_rfl)) k0 bel lt0) trodAll_mk0), rfl, bel.frame _, fun h => by cases h⟩

-- the given statement
theorem proved : Rows.TallyOrderSaid :=
  OpenClaim.holds_of_wide 5 Tryz.f5 rfl rfl rfl rfl rfl rfl rfl ⟨rfl, rfl, rfl, rfl, rfl⟩ rfl rfl rfl rfl rfl (by kernel_rfl) Tryz.func5 (by kernel_rfl)
    (of_decide_eq_true (by kernel_rfl)) (by unfold Func.isWrapper; first | (rw [if_pos (by decide +kernel)]; kernel_rfl) | (rw [if_neg (by decide +kernel)]; exact ⟨rfl, rfl⟩))
    (fun os started H enc _ => lifted os started H enc)
end Go.Proofs.YtnngfcjfhhfafaaGreat.tallyOrder
