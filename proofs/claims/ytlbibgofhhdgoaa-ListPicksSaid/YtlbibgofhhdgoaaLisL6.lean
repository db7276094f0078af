/- Of every two lists of nodes and every path (no more, and no longer, than are looked at): each node of a list is picked by its path, nothing else is; as many changes as paths whose version is not the same; no condition. -/
import Derived.Test.YtlbibgofhhdgoaaRows
import Derived.Test.YtlbibgofhhdgoaaLisR
import Derived.Test.YtlbibgofhhdgoaaLisE
import Derived.Test.YtlbibgofhhdgoaaLisI
import Derived.ProofKit
import Derived.OpenShut
import Derived.ShutString
import Derived.ChangeOld
namespace Go.Proofs.Ytlbibgofhhdgoaa.listPicks
open Go.ChangeShapes Go.WideShapes Go.ChangeAt Go.RowKit
open Go.ChangeMaps (open_string shut_string)
set_option maxRecDepth 100000
set_option linter.unusedVariables false

theorem fewNs_text (l : List Nd) : ∀ n ∈ fewNs l, n.1.length ≤ 400 ∧ n.2.length ≤ 400 := fun n h => by
  obtain ⟨m, _, rfl⟩ := List.mem_map.1 h; exact ⟨fewL_len _, fewL_len _⟩
theorem add_oneP {a c : Nat} (h : a + 1 = c) (hb : c ≤ 100000) : IntKind.i64.wrap ((a : Int) + 1) = (c : Int) := by
  rw [show ((a : Int) + 1) = (c : Int) by omega]; exact IntWalk.i64_in _ (by omega)
theorem pickE_has {l : List Nd} (h : okL l = true) (p : Tx) : ∃ v, (pickE l p = (v, 0) ∧ hasN l (p, v) = true) ∨ (pickE l p = (v, 1) ∧ hasN l (p, v) = false) ∨ (pickE l p = (v, 2) ∧ hasN l (p, v) = false) := by
  have h0 : hasN l (p, []) = false := by
    rw [hasN_not]; exact fun k => okN_ver ((okL_iff.1 h).1 _ k) rfl
  cases op : pathB p with
  | false => exact ⟨[], .inr (.inl ⟨pickE_no (by rw [h, op]; rfl), h0⟩)⟩
  | true =>
    by_cases e : pickL l p = []
    · exact ⟨[], .inr (.inr ⟨pickE_none h op e, h0⟩)⟩
    · exact ⟨_, .inl ⟨pickE_yes h op e, hasN_iff.2 (pick_mem e)⟩⟩
theorem pickE_at {l : List Nd} (h : okL l = true) {p : Tx} (k : pathB p = true) : (pickE l p).1 = pickL l p ∧ (pickL l p = [] → (pickE l p).2 = 2) ∧ (pickL l p ≠ [] → (pickE l p).2 = 0) := by
  by_cases e : pickL l p = []
  · rw [pickE_none h k e, e]; exact ⟨rfl, fun _ => rfl, fun q => absurd rfl q⟩
  · rw [pickE_yes h k e]; exact ⟨rfl, fun q => absurd q e, fun _ => rfl⟩
set_option maxRecDepth 100000 in
set_option maxHeartbeats 3200000 in
theorem walk (Ul : Value) (kl : List Nd) (Um : Value) (km : List Nd) (a : ByteArray) (w : World) (hUl : Nds w Ul kl ∧ ∀ n ∈ kl, fitsN n) (hUm : Nds w Um km ∧ ∀ n ∈ km, fitsN n) (ha : a.size ≤ maxLen) :
    Calls Try.prog 4 #[Ul, Um, .string a] w fun e w' => e = .returned (.bool true) ∧ Below w.heap.size w w' := by
  obtain ⟨hUl, fUl⟩ := hUl
  obtain ⟨Al, cl, rfl, -⟩ := hUl.ex
  have kfl := fun V w h => nfewo_any V kl w h fUl
  have hmll := fewNs_len kl; have hmzl := fewNs_small kl; have hmtl := fewNs_text kl
  obtain ⟨ml, hml⟩ : ∃ r, kl.length = r := ⟨_, rfl⟩
  rw [hml] at hUl ⊢
  obtain ⟨sl, hsl⟩ : ∃ r, fewNs kl = r := ⟨_, rfl⟩
  rw [hsl] at kfl hmll hmzl hmtl
  obtain ⟨nl, hnl⟩ : ∃ r, sl.length = r := ⟨_, rfl⟩
  rw [hnl] at hmll
  have SUl := Lib.hid hUl; have KFl := Lib.hid kfl; have HZL := Lib.hid hmzl; have HNL := Lib.hid hnl; have HTL := Lib.hid hmtl
  clear hUl fUl kfl hmzl hmtl hml hsl hnl
  obtain ⟨hUm, fUm⟩ := hUm
  obtain ⟨Am, cm, rfl, -⟩ := hUm.ex
  have kfm := fun V w h => nfewo_any V km w h fUm
  have hmlm := fewNs_len km; have hmzm := fewNs_small km; have hmtm := fewNs_text km
  obtain ⟨mm, hmm⟩ : ∃ r, km.length = r := ⟨_, rfl⟩
  rw [hmm] at hUm ⊢
  obtain ⟨sm, hsm⟩ : ∃ r, fewNs km = r := ⟨_, rfl⟩
  rw [hsm] at kfm hmlm hmzm hmtm
  obtain ⟨nm, hnm⟩ : ∃ r, sm.length = r := ⟨_, rfl⟩
  rw [hnm] at hmlm
  have SUm := Lib.hid hUm; have KFm := Lib.hid kfm; have HZM := Lib.hid hmzm; have HNM := Lib.hid hnm; have HTM := Lib.hid hmtm
  clear hUm fUm kfm hmzm hmtm hmm hsm hnm
  obtain ⟨p0, rfl, hp0⟩ := mkBall a
  have kfp := fun w => few_l p0 w (by rw [hp0]; exact ha)
  have hpl := fewL_len p0
  obtain ⟨p, hp⟩ : ∃ r, fewL p0 = r := ⟨_, rfl⟩
  rw [hp] at kfp hpl
  clear hp hp0 ha
  have KFP := Lib.hid kfp
  clear kfp
  have BB := Lib.hid (Below.refl w.heap.size w)
  have kde := fun U V w h h' => ldelta_any U V sl sm w h h' HZL.out HZM.out (by rw [HNL.out]; omega) (by rw [HNM.out]; omega)
  go_enter Try.func4, Try.ntmps4
  go_upto_region 2 with (first
      | (go_at_call 5; refine (KFl.out _ _ SUl.out).mono ?_; rintro e w9 ⟨v1, rfl, hr1, hb1⟩; replace SUm := Lib.hid (SUm.out.below hb1); replace BB := Lib.hid (below_step BB.out hb1); obtain ⟨al, cl, rfl, hd⟩ := ndsO hr1; rw [HNL.out] at hd ⊢; have Sl := Lib.hid hd; clear hr1 hd hb1 KFl SUl)
      | (go_at_call 5; refine (KFm.out _ _ SUm.out).mono ?_; rintro e w9 ⟨v1, rfl, hr1, hb1⟩; replace Sl := Lib.hid (Sl.out.below hb1); replace BB := Lib.hid (below_step BB.out hb1); obtain ⟨am, cm, rfl, hd⟩ := ndsO hr1; rw [HNM.out] at hd ⊢; have Sm := Lib.hid hd; clear hr1 hd hb1 KFm SUm)
      | (go_at_call 13; refine (KFP.out _).mono ?_; rintro e w9 ⟨rfl, rfl⟩; clear KFP))
  cases ol : okL sl
  · have hoo : (okL sl && okL sm) = false := by rw [ol]; rfl
    clear ol
    rw [deltaE_no hoo] at kde
    simp only at kde
    have KDE := Lib.hid kde
    have H0 := Lib.hid (show ([] : List Ch).length = 0 from rfl)
    clear kde hoo
    go_upto_region 3 with (go_at_call 8; refine (KDE.out _ _ _ Sl.out Sm.out).mono ?_; rintro e w9 ⟨v1, rfl, hr1, hb1⟩; replace Sl := Lib.hid (Sl.out.below hb1); replace Sm := Lib.hid (Sm.out.below hb1); replace BB := Lib.hid (below_step BB.out hb1); obtain ⟨ad, cd, rfl, hd⟩ := chsO hr1; rw [H0.out] at hd ⊢; have Sd := Lib.hid hd; clear hr1 hd hb1 KDE)
    go_wp2_with (go_at_call 7; refine (lawake_any _).mono ?_; rintro e w9 ⟨rfl, hb1⟩; replace Sl := Lib.hid (Sl.out.below hb1); replace Sm := Lib.hid (Sm.out.below hb1); replace Sd := Lib.hid (Sd.out.below hb1); replace BB := Lib.hid (below_step BB.out hb1); clear hb1)
    go_ret
    exact ⟨rfl, BB.out⟩
  · cases om : okL sm
    · have hoo : (okL sl && okL sm) = false := by rw [ol, om]; rfl
      clear ol om
      rw [deltaE_no hoo] at kde
      simp only at kde
      have KDE := Lib.hid kde
      have H0 := Lib.hid (show ([] : List Ch).length = 0 from rfl)
      clear kde hoo
      go_upto_region 3 with (go_at_call 8; refine (KDE.out _ _ _ Sl.out Sm.out).mono ?_; rintro e w9 ⟨v1, rfl, hr1, hb1⟩; replace Sl := Lib.hid (Sl.out.below hb1); replace Sm := Lib.hid (Sm.out.below hb1); replace BB := Lib.hid (below_step BB.out hb1); obtain ⟨ad, cd, rfl, hd⟩ := chsO hr1; rw [H0.out] at hd ⊢; have Sd := Lib.hid hd; clear hr1 hd hb1 KDE)
      go_wp2_with (go_at_call 7; refine (lawake_any _).mono ?_; rintro e w9 ⟨rfl, hb1⟩; replace Sl := Lib.hid (Sl.out.below hb1); replace Sm := Lib.hid (Sm.out.below hb1); replace Sd := Lib.hid (Sd.out.below hb1); replace BB := Lib.hid (below_step BB.out hb1); clear hb1)
      go_ret
      exact ⟨rfl, BB.out⟩
    · rw [deltaE_yes ol om] at kde
      have many := many_is ol om
      obtain ⟨dl, hdl⟩ : ∃ r, deltaL sl sm = r := ⟨_, rfl⟩
      rw [hdl] at kde many
      obtain ⟨nd, hnd⟩ : ∃ r, dl.length = r := ⟨_, rfl⟩
      simp only at kde
      have KDE := Lib.hid kde; have HND := Lib.hid hnd; have MANY := Lib.hid many; have OL := Lib.hid ol; have OM := Lib.hid om
      clear kde hnd many hdl ol om
      go_upto_region 3 with (go_at_call 8; refine (KDE.out _ _ _ Sl.out Sm.out).mono ?_; rintro e w9 ⟨v1, rfl, hr1, hb1⟩; replace Sl := Lib.hid (Sl.out.below hb1); replace Sm := Lib.hid (Sm.out.below hb1); replace BB := Lib.hid (below_step BB.out hb1); obtain ⟨ad, cd, rfl, hd⟩ := chsO hr1; rw [HND.out] at hd ⊢; have Sd := Lib.hid hd; clear hr1 hd hb1 KDE)
      obtain ⟨w6, hw6⟩ : ∃ v, v = w9 := ⟨_, rfl⟩
      subst hw6
      go_wp2
      go_loopw [9] (fun i wr => ∃ k : Nat, k ≤ nl ∧ i = .int .i64 k ∧ Hid (Below w6.heap.size w6 wr)) (fun i _ => nl - (intOf i).toNat)
      case atStart => exact ⟨0, Nat.zero_le _, rfl, Lib.hid (Below.refl _ _)⟩
      case round =>
        obtain ⟨k, hk, rfl, HB⟩ := hrel
        by_cases hlt : k < nl
        · have hkl : k < sl.length := by rw [HNL.out]; exact hlt
          have hkb : (k : Int) < (nl : Int) := by omega
          obtain ⟨bl, off, rfl, -, c0, c1⟩ := (Sl.out.below HB.out).at k hkl
          have hin := gd_in (z := (([], []) : Nd)) hkl
          have hpa := pick_in (okL_rise OL.out) hin
          have hsy := HZL.out _ hin
          have hoy := (okL_iff.1 OL.out).1 _ hin
          have hsucc := (rfl : sl.getD k ([], []) = sl.getD k ([], []))
          obtain ⟨y, hy⟩ : ∃ y, sl.getD k ([], []) = y := ⟨_, rfl⟩
          rw [hy] at c0 c1 hpa hsy hoy hsucc
          obtain ⟨y1, y2⟩ := y
          simp only at c0 c1 hpa hsucc
          have hpy := (okN_parts hoy).1
          have hny := okN_ver hoy
          have hsy1 := hsy.1
          simp only at hpy hny hsy1
          have kp := fun V w h => lpick_any V sl y1 w h HZL.out hsy1
          rw [pickE_yes OL.out hpy (by rw [hpa]; exact hny), hpa] at kp
          simp only at kp
          have q1 := mk_beq y2 y2
          rw [show decide (y2 = y2) = true from decide_eq_true rfl] at q1
          have KP := Lib.hid kp
          clear kp hkl hin hsy hoy hy hpy hny hsy1 hpa hsucc
          go_upto_region 9 with (go_at_call 14; refine (KP.out _ _ (Sl.out.below HB.out)).mono ?_; rintro e w9 ⟨rfl, hb1⟩; replace c0 := cell_keep c0 hb1; replace c1 := cell_keep c1 hb1; replace HB := Lib.hid (below_step HB.out hb1); clear hb1 KP)
          go_wp2
          go_roundw
          case rel => exact ⟨k + 1, by omega, by go_num, HB⟩
          case measure => simp [intOf]; omega
        · have e : nl = k := by omega
          subst e
          replace Sl := Lib.hid (Sl.out.below HB.out)
          replace Sm := Lib.hid (Sm.out.below HB.out)
          replace Sd := Lib.hid (Sd.out.below HB.out)
          replace BB := Lib.hid (below_step BB.out HB.out)
          clear HB hlt hk
          obtain ⟨w9, hw9⟩ : ∃ v, v = wr := ⟨_, rfl⟩
          subst hw9
          obtain ⟨w7, hw7⟩ : ∃ v, v = w9 := ⟨_, rfl⟩
          subst hw7
          go_wp2
          go_loopw [12, 13] (fun x i wr => ∃ k z : Nat, k ≤ nl ∧ i = .int .i64 k ∧ x = .int .i64 z ∧ Hid (manyA sm (sl.take k) = z) ∧ Hid (Below w7.heap.size w7 wr)) (fun _ i _ => nl - (intOf i).toNat)
          case atStart => exact ⟨0, 0, Nat.zero_le _, rfl, rfl, Lib.hid rfl, Lib.hid (Below.refl _ _)⟩
          case round =>
            obtain ⟨k, z, hk, rfl, rfl, HT, HB⟩ := hrel
            by_cases hlt : k < nl
            · have hkl : k < sl.length := by rw [HNL.out]; exact hlt
              have hkb : (k : Int) < (nl : Int) := by omega
              obtain ⟨bl, off, rfl, -, c0, c1⟩ := (Sl.out.below HB.out).at k hkl
              have hin := gd_in (z := (([], []) : Nd)) hkl
              have hpa := pick_in (okL_rise OL.out) hin
              have hsy := HZL.out _ hin
              have hoy := (okL_iff.1 OL.out).1 _ hin
              have hsucc := manyA_succ (m := sm) hkl
              obtain ⟨y, hy⟩ : ∃ y, sl.getD k ([], []) = y := ⟨_, rfl⟩
              rw [hy] at c0 c1 hpa hsy hoy hsucc
              obtain ⟨y1, y2⟩ := y
              simp only at c0 c1 hpa hsucc
              have hpy := (okN_parts hoy).1
              have hny := okN_ver hoy
              have hsy1 := hsy.1
              simp only at hpy hny hsy1
              have kp := fun V w h => lpick_any V sm y1 w h HZM.out hsy1
              have hat := (pickE_at OM.out hpy).1
              obtain ⟨PE, hPE⟩ : ∃ r, pickE sm y1 = r := ⟨_, rfl⟩
              rw [hPE] at kp hat
              obtain ⟨pv, pe⟩ := PE
              simp only at kp hat
              rw [← hat] at hsucc
              have q1 := mk_beq pv y2
              have KP := Lib.hid kp
              have HZ1 := Lib.hid HT.out
              rw [HT.out] at hsucc
              clear kp hkl hin hsy hoy hy hpy hny hsy1 hpa hat hPE
              go_upto_region 16 with (go_at_call 14; refine (KP.out _ _ (Sm.out.below HB.out)).mono ?_; rintro e w9 ⟨rfl, hb1⟩; replace c0 := cell_keep c0 hb1; replace c1 := cell_keep c1 hb1; replace HB := Lib.hid (below_step HB.out hb1); clear hb1 KP)
              by_cases hv : pv = y2
              · rw [decide_eq_true hv] at q1
                rw [if_pos hv] at hsucc
                have HT2 := Lib.hid hsucc
                clear hv hsucc
                go_wp2
                go_roundw
                case rel => exact ⟨k + 1, z, by omega, by go_num, rfl, HT2, HB⟩
                case measure => simp [intOf]; omega
              · rw [decide_eq_false hv] at q1
                rw [if_neg hv] at hsucc
                have hle := manyA_le sm sl k
                rw [HT.out] at hle
                have hwr := add_oneP (a := z) (c := z + 1) rfl (by omega)
                have HT2 := Lib.hid hsucc
                clear hv hsucc hle
                go_wp2
                go_roundw
                case rel => exact ⟨k + 1, z + 1, by omega, by go_num, by first | rfl | go_num, HT2, HB⟩
                case measure => simp [intOf]; omega
            · have e : nl = k := by omega
              subst e
              have HZA : Hid (manyA sm sl = z) := Lib.hid (by
                have h := HT.out
                rwa [List.take_of_length_le (by rw [HNL.out]; exact Nat.le_refl _)] at h)
              have hzle : z ≤ nl := by have h := manyA_le sm sl nl; rw [HT.out] at h; exact h
              obtain ⟨za, hza⟩ : ∃ v, v = z := ⟨_, rfl⟩
              subst hza
              clear HT
              replace Sl := Lib.hid (Sl.out.below HB.out)
              replace Sm := Lib.hid (Sm.out.below HB.out)
              replace Sd := Lib.hid (Sd.out.below HB.out)
              replace BB := Lib.hid (below_step BB.out HB.out)
              clear HB hlt hk
              obtain ⟨w9, hw9⟩ : ∃ v, v = wr := ⟨_, rfl⟩
              subst hw9
              obtain ⟨w8, hw8⟩ : ∃ v, v = w9 := ⟨_, rfl⟩
              subst hw8
              go_wp2
              go_loopw [12, 16] (fun x i wr => ∃ k z : Nat, k ≤ nm ∧ i = .int .i64 k ∧ x = .int .i64 ((za + z : Nat) : Int) ∧ Hid (manyB sl (sm.take k) = z) ∧ Hid (Below w8.heap.size w8 wr)) (fun _ i _ => nm - (intOf i).toNat)
              case atStart => exact ⟨0, 0, Nat.zero_le _, rfl, rfl, Lib.hid rfl, Lib.hid (Below.refl _ _)⟩
              case round =>
                obtain ⟨k, z, hk, rfl, rfl, HT, HB⟩ := hrel
                by_cases hlt : k < nm
                · have hkl : k < sm.length := by rw [HNM.out]; exact hlt
                  have hkb : (k : Int) < (nm : Int) := by omega
                  obtain ⟨bl, off, rfl, -, c0, c1⟩ := (Sm.out.below HB.out).at k hkl
                  have hin := gd_in (z := (([], []) : Nd)) hkl
                  have hpa := pick_in (okL_rise OM.out) hin
                  have hsy := HZM.out _ hin
                  have hoy := (okL_iff.1 OM.out).1 _ hin
                  have hsucc := manyB_succ (l := sl) hkl
                  obtain ⟨y, hy⟩ : ∃ y, sm.getD k ([], []) = y := ⟨_, rfl⟩
                  rw [hy] at c0 c1 hpa hsy hoy hsucc
                  obtain ⟨y1, y2⟩ := y
                  simp only at c0 c1 hpa hsucc
                  have hpy := (okN_parts hoy).1
                  have hny := okN_ver hoy
                  have hsy1 := hsy.1
                  simp only at hpy hny hsy1
                  have kp := fun V w h => lpick_any V sl y1 w h HZL.out hsy1
                  obtain ⟨-, hat1, hat2⟩ := pickE_at OL.out hpy
                  obtain ⟨PE, hPE⟩ : ∃ r, pickE sl y1 = r := ⟨_, rfl⟩
                  rw [hPE] at kp hat1 hat2
                  obtain ⟨pv, pe⟩ := PE
                  simp only at kp hat1 hat2
                  rw [HT.out] at hsucc
                  clear hkl hin hsy hoy hy hpy hny hsy1 hpa hPE
                  by_cases hv : pickL sl y1 = []
                  · obtain rfl := hat1 hv
                    rw [if_pos hv] at hsucc
                    have hle := manyB_le sl sm k
                    rw [HT.out] at hle
                    have HT2 := Lib.hid hsucc
                    have KP := Lib.hid kp
                    clear kp hv hsucc hat1 hat2
                    go_upto_region 22 with (go_at_call 14; refine (KP.out _ _ (Sl.out.below HB.out)).mono ?_; rintro e w9 ⟨rfl, hb1⟩; replace c0 := cell_keep c0 hb1; replace c1 := cell_keep c1 hb1; replace HB := Lib.hid (below_step HB.out hb1); clear hb1 KP)
                    go_wp2
                    go_roundw
                    case rel => exact ⟨k + 1, z + 1, by omega, by go_num, by go_num, HT2, HB⟩
                    case measure => simp [intOf]; omega
                  · obtain rfl := hat2 hv
                    rw [if_neg hv] at hsucc
                    have HT2 := Lib.hid hsucc
                    have KP := Lib.hid kp
                    clear kp hv hsucc hat1 hat2
                    go_upto_region 22 with (go_at_call 14; refine (KP.out _ _ (Sl.out.below HB.out)).mono ?_; rintro e w9 ⟨rfl, hb1⟩; replace c0 := cell_keep c0 hb1; replace c1 := cell_keep c1 hb1; replace HB := Lib.hid (below_step HB.out hb1); clear hb1 KP)
                    go_wp2
                    go_roundw
                    case rel => exact ⟨k + 1, z, by omega, by go_num, rfl, HT2, HB⟩
                    case measure => simp [intOf]; omega
                · have e : nm = k := by omega
                  subst e
                  have e2 : nd = za + z := by
                    have h := HT.out
                    rw [List.take_of_length_le (by rw [HNM.out]; exact Nat.le_refl _)] at h
                    rw [← HND.out, MANY.out, h, HZA.out]
                  subst e2
                  replace Sl := Lib.hid (Sl.out.below HB.out)
                  replace Sm := Lib.hid (Sm.out.below HB.out)
                  replace Sd := Lib.hid (Sd.out.below HB.out)
                  replace BB := Lib.hid (below_step BB.out HB.out)
                  clear HB hlt hk
                  obtain ⟨w9, hw9⟩ : ∃ v, v = wr := ⟨_, rfl⟩
                  subst hw9
                  have kpp := fun V w h => lpick_any V sl p w h HZL.out (by omega)
                  have khh := fun v V w h => refnhas_any V sl p v w h
                  obtain ⟨v, h1 | h1 | h1⟩ := pickE_has OL.out p
                  · rw [h1.1] at kpp
                    replace khh := khh v
                    rw [h1.2] at khh
                    simp only at kpp khh
                    have KPP := Lib.hid kpp; have KHH := Lib.hid khh
                    clear kpp khh h1
                    go_upto_region 25 with (go_at_call 14; refine (KPP.out _ _ Sl.out).mono ?_; rintro e w9 ⟨rfl, hb1⟩; replace Sl := Lib.hid (Sl.out.below hb1); replace Sm := Lib.hid (Sm.out.below hb1); replace Sd := Lib.hid (Sd.out.below hb1); replace BB := Lib.hid (below_step BB.out hb1); clear hb1)
                    go_wp2_with (first
                        | (go_at_call 15; refine (KHH.out _ _ Sl.out).mono ?_; rintro e w9 ⟨rfl, hb1⟩; replace Sl := Lib.hid (Sl.out.below hb1); replace Sm := Lib.hid (Sm.out.below hb1); replace Sd := Lib.hid (Sd.out.below hb1); replace BB := Lib.hid (below_step BB.out hb1); clear hb1)
                        | (go_at_call 7; refine (lawake_any _).mono ?_; rintro e w9 ⟨rfl, hb1⟩; replace Sl := Lib.hid (Sl.out.below hb1); replace Sm := Lib.hid (Sm.out.below hb1); replace Sd := Lib.hid (Sd.out.below hb1); replace BB := Lib.hid (below_step BB.out hb1); clear hb1))
                    go_ret
                    exact ⟨rfl, BB.out⟩
                  · rw [h1.1] at kpp
                    replace khh := khh v
                    rw [h1.2] at khh
                    simp only at kpp khh
                    have KPP := Lib.hid kpp; have KHH := Lib.hid khh
                    clear kpp khh h1
                    go_upto_region 25 with (go_at_call 14; refine (KPP.out _ _ Sl.out).mono ?_; rintro e w9 ⟨rfl, hb1⟩; replace Sl := Lib.hid (Sl.out.below hb1); replace Sm := Lib.hid (Sm.out.below hb1); replace Sd := Lib.hid (Sd.out.below hb1); replace BB := Lib.hid (below_step BB.out hb1); clear hb1)
                    go_wp2_with (first
                        | (go_at_call 15; refine (KHH.out _ _ Sl.out).mono ?_; rintro e w9 ⟨rfl, hb1⟩; replace Sl := Lib.hid (Sl.out.below hb1); replace Sm := Lib.hid (Sm.out.below hb1); replace Sd := Lib.hid (Sd.out.below hb1); replace BB := Lib.hid (below_step BB.out hb1); clear hb1)
                        | (go_at_call 7; refine (lawake_any _).mono ?_; rintro e w9 ⟨rfl, hb1⟩; replace Sl := Lib.hid (Sl.out.below hb1); replace Sm := Lib.hid (Sm.out.below hb1); replace Sd := Lib.hid (Sd.out.below hb1); replace BB := Lib.hid (below_step BB.out hb1); clear hb1))
                    go_ret
                    exact ⟨rfl, BB.out⟩
                  · rw [h1.1] at kpp
                    replace khh := khh v
                    rw [h1.2] at khh
                    simp only at kpp khh
                    have KPP := Lib.hid kpp; have KHH := Lib.hid khh
                    clear kpp khh h1
                    go_upto_region 25 with (go_at_call 14; refine (KPP.out _ _ Sl.out).mono ?_; rintro e w9 ⟨rfl, hb1⟩; replace Sl := Lib.hid (Sl.out.below hb1); replace Sm := Lib.hid (Sm.out.below hb1); replace Sd := Lib.hid (Sd.out.below hb1); replace BB := Lib.hid (below_step BB.out hb1); clear hb1)
                    go_wp2_with (first
                        | (go_at_call 15; refine (KHH.out _ _ Sl.out).mono ?_; rintro e w9 ⟨rfl, hb1⟩; replace Sl := Lib.hid (Sl.out.below hb1); replace Sm := Lib.hid (Sm.out.below hb1); replace Sd := Lib.hid (Sd.out.below hb1); replace BB := Lib.hid (below_step BB.out hb1); clear hb1)
                        | (go_at_call 7; refine (lawake_any _).mono ?_; rintro e w9 ⟨rfl, hb1⟩; replace Sl := Lib.hid (Sl.out.below hb1); replace Sm := Lib.hid (Sm.out.below hb1); replace Sd := Lib.hid (Sd.out.below hb1); replace BB := Lib.hid (below_step BB.out hb1); clear hb1))
                    go_ret
                    exact ⟨rfl, BB.out⟩

theorem own : ownKnob Try.prog.godebug = none := by kernel_rfl
theorem laidOut : laidOutB Try.prog = true := by kernel_rfl

set_option maxRecDepth 100000 in
theorem lifted (os : Os) (started : os.Started) (H : Type) (enc : TypeId × Value → H) :
    ReturnsInHanded {} Try.checked os 4 .any (Rows.listPicksSpec.pre6 enc Try.prog Try.f4 Rows.listPicksRow.domain false) (Rows.listPicksSpec.post enc Try.prog Try.f4 false true false false) := by
  refine returnsInHanded_of_change (C := Try.checked) own started (by kernel_rfl) Try.func4
    (ChangeSpec.witness6 (enc := enc) (C := Try.checked) false ⟨#[], #[.slice none 0 0, .slice none 0 0, .string ByteArray.empty], []⟩ 8 (by kernel_rfl) (by kernel_rfl) (by kernel_rfl) (by kernel_rfl)) ?_
  intro W base args ds gs before hval0 hW hcnd _
  have hval : ∀ (j : Nat) t v, Try.f4.params[j]? = some t → args[j]? = some v → Value.okWide Try.prog W .any base t v := hval0
  have hW' := hW
  obtain ⟨p, q, hA0, hV, rfl, hfz, hnd⟩ := hW
  have hA : DataW.TrodAll enc Try.prog W 0 (fun _ => true) true Try.f4.params.toList args.toList ds p := hA0
  rw [Try.params4] at hA hval
  obtain ⟨v0, vs0, d0, ds0, p0, q0, hargs, rfl, rfl, h0, r0⟩ := trodAll_cons hA
  obtain ⟨v1, vs1, d1, ds1, p1, q1, rfl, rfl, rfl, h1, r1⟩ := trodAll_cons r0
  obtain ⟨v2, vs2, d2, ds2, p2, q2, rfl, rfl, rfl, h2, r2⟩ := trodAll_cons r1
  obtain ⟨rfl, rfl, rfl⟩ := trodAll_nil r2
  obtain rfl : args = #[v0, v1, v2] := by cases args; simp_all
  obtain ⟨rfl, rfl⟩ := trodVars_none hV
  obtain ⟨a0, len0, cap0, rfl⟩ := okWide_slice Try.underlying22 (hval 0 22 v0 rfl rfl)
  have k0 := h0
  have lt0 : ∀ x ∈ p0, x.block < W.heap.size := by obtain ⟨m, hm⟩ := k0; exact DataW.trod_lt m _ _ _ hm
  obtain ⟨z0, w0⟩ : ∃ zs, Nds W (.slice a0 len0 cap0) zs ∧ ∀ n ∈ zs, fitsN n := by
    obtain ⟨fuel, hf⟩ := h0
    exact nds_open (by simpa [Value.cells] using hf)
  obtain ⟨a1, len1, cap1, rfl⟩ := okWide_slice Try.underlying22 (hval 1 22 v1 rfl rfl)
  have k1 := h1
  have lt1 : ∀ x ∈ p1, x.block < W.heap.size := by obtain ⟨m, hm⟩ := k1; exact DataW.trod_lt m _ _ _ hm
  obtain ⟨z1, w1⟩ : ∃ zs, Nds W (.slice a1 len1 cap1) zs ∧ ∀ n ∈ zs, fitsN n := by
    obtain ⟨fuel, hf⟩ := h1
    exact nds_open (by simpa [Value.cells] using hf)
  obtain ⟨a2, rfl, rfl, rfl, w2⟩ := open_string Try.underlying9 (hval 2 9 v2 rfl rfl) h2
  clear hA0 hval0
  refine (walk _ z0 _ z1 a2 W w0 w1 w2).mono fun e W' ⟨he, bel⟩ => ?_
  subst he
  exact ⟨_, rfl, _, _, _, [], _, [], hW', trodAll_mk1 (shut_bool Try.underlying4 _), (trodAll_cons_mk (Below.trod laidOut (by kernel_rfl) (of_decide_eq_true (by kernel_rfl)) k0 bel lt0) (trodAll_cons_mk (Below.trod laidOut (by kernel_rfl) (of_decide_eq_true (by kernel_rfl)) k1 bel lt1) (trodAll_cons_mk (shut_string Try.underlying9 w2) trodAll_mk0))), rfl, bel.frame _, fun h => by cases h⟩

-- the given statement
theorem proved : Rows.ListPicksSaid :=
  OpenClaim.holds_of_wide 4 Try.f4 rfl rfl rfl rfl rfl rfl rfl ⟨rfl, rfl, rfl, rfl, rfl⟩ rfl rfl rfl rfl rfl (by kernel_rfl) Try.func4 (by kernel_rfl)
    (of_decide_eq_true (by kernel_rfl)) (by unfold Func.isWrapper; first | (rw [if_pos (by decide +kernel)]; kernel_rfl) | (rw [if_neg (by decide +kernel)]; exact ⟨rfl, rfl⟩))
    (fun os started H enc _ => lifted os started H enc)
end Go.Proofs.Ytlbibgofhhdgoaa.listPicks
