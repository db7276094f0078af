/- Of every list of keys, every list of lists of nodes and every list of nodes (no more, and no longer, than are looked at): the use of these manifests and root requirements, or why there is none, is as the document says; no condition. -/
import Derived.Test.YtglhjdbnpdoinaaGreatRows
import Derived.Test.YtglhjdbnpdoinaaGreatRooN
import Derived.ProofKit
import Derived.OpenShut
import Derived.ShutString
import Derived.ChangeOld
namespace Go.Proofs.YtglhjdbnpdoinaaGreat.roomOf
open Go.ChangeShapes Go.WideShapes Go.ChangeAt Go.RowKit
open Go.ChangeMaps (open_string shut_string)
set_option maxRecDepth 100000
set_option linter.unusedVariables false

theorem spoke_all : ∀ (ks : List Nd) (ls : List (List Nd)), ls.length = ks.length → allN2 (spokeL ks ls) = (allN2 ks && ls.all allN2)
  | [], [], _ => rfl
  | [], _ :: _, h => by simp at h
  | _ :: _, [], h => by simp at h
  | x :: ks, y :: ls, h => by
    have ih := spoke_all ks ls (by simpa using h)
    rw [spokeL, allN2_app, ih]
    unfold allN2
    simp only [List.all_cons]
    cases okN x <;> cases y.all okN <;> cases ks.all okN <;> rfl
theorem spoke_len : ∀ (ks : List Nd) (ls : List (List Nd)), ls.length = ks.length → (spokeL ks ls).length = ks.length + ls.flatten.length
  | [], [], _ => rfl
  | [], _ :: _, h => by simp at h
  | _ :: _, [], h => by simp at h
  | x :: ks, y :: ls, h => by
    have ih := spoke_len ks ls (by simpa using h)
    rw [spokeL, List.length_append, List.length_cons, ih, List.flatten_cons, List.length_append, List.length_cons]
    omega
theorem all_take {l : List (List Nd)} {k : Nat} (h : k < l.length) : (l.take (k + 1)).all allN2 = ((l.take k).all allN2 && allN2 (l.getD k [])) := by
  rw [List.take_succ_eq_append_getElem h, List.all_append]
  simp [List.getD_eq_getElem?_getD, h]
set_option maxRecDepth 100000 in
set_option maxHeartbeats 6400000 in
theorem walk (U : Value) (K0 : List Nd) (V : Value) (L0 : List (List Nd)) (Z : Value) (R0 : List Nd) (w : World) (hU : Nds w U K0 ∧ ∀ n ∈ K0, fitsN n) (hV : NdL w V L0 ∧ ∀ k ∈ L0, ∀ n ∈ k, fitsN n) (hZ : Nds w Z R0 ∧ ∀ n ∈ R0, fitsN n) :
    Calls Tryz.prog 5 #[U, V, Z] w fun e w' => e = .returned (.bool true) ∧ Below w.heap.size w w' := by
  obtain ⟨hU, fU⟩ := hU
  obtain ⟨hV, fV⟩ := hV
  obtain ⟨hZ, fZ⟩ := hZ
  have kfk := fun w h => nfewo_any U K0 w h fU
  have kfl := fun w h => lists_any V L0 w h fV
  have kfr := fun w h => nfewo_any Z R0 w h fZ
  obtain ⟨pU, cU, rfl, -⟩ := hU.ex
  obtain ⟨pV, cV, rfl, -⟩ := hV.ex
  obtain ⟨pZ, cZ, rfl, -⟩ := hZ.ex
  obtain ⟨mU, hmU⟩ : ∃ n, K0.length = n := ⟨_, rfl⟩
  obtain ⟨mV, hmV⟩ : ∃ n, L0.length = n := ⟨_, rfl⟩
  obtain ⟨mZ, hmZ⟩ : ∃ n, R0.length = n := ⟨_, rfl⟩
  rw [hmU] at hU kfk ⊢
  rw [hmV] at hV kfl ⊢
  rw [hmZ] at hZ kfr ⊢
  have lk := fewNs_len K0
  have sk := fewNs_small K0
  have ll := fewLs_len L0
  have sl := fewLs_each L0
  have lr := fewNs_len R0
  have sr := fewNs_small R0
  obtain ⟨ks, hks⟩ : ∃ l, fewNs K0 = l := ⟨_, rfl⟩
  obtain ⟨ls, hls⟩ : ∃ l, fewLs L0 = l := ⟨_, rfl⟩
  obtain ⟨root, hroot⟩ : ∃ l, fewNs R0 = l := ⟨_, rfl⟩
  rw [hks] at kfk lk sk
  rw [hls] at kfl ll sl
  rw [hroot] at kfr lr sr
  have ko := fun U V Z w h h' h'' => of_any U V Z ks ls root w h h' h'' sk (fun l hl => (sl l hl).2) sr (by omega) (fun l hl => by have := (sl l hl).1; omega) (by omega)
  obtain ⟨nk, hnk⟩ : ∃ n, ks.length = n := ⟨_, rfl⟩
  obtain ⟨nl, hnl⟩ : ∃ n, ls.length = n := ⟨_, rfl⟩
  obtain ⟨nr, hnr⟩ : ∃ n, root.length = n := ⟨_, rfl⟩
  rw [hnk] at lk
  rw [hnl] at ll
  rw [hnr] at lr
  have BB := Lib.hid (Below.refl w.heap.size w)
  have SU := Lib.hid hU; have SV := Lib.hid hV; have SZ := Lib.hid hZ; have KFK := Lib.hid kfk; have KFL := Lib.hid kfl; have KFR := Lib.hid kfr; have HNK := Lib.hid hnk; have HNL := Lib.hid hnl; have HNR := Lib.hid hnr; have HSK := Lib.hid sk; have HSL := Lib.hid sl; have HSR := Lib.hid sr
  clear hU hV hZ fU fV fZ kfk kfl kfr hmU hmV hmZ hks hls hroot hnk hnl hnr sk sl sr
  obtain ⟨RO, hRO⟩ : ∃ r, ofE ks ls root = r := ⟨_, rfl⟩
  rw [hRO] at ko
  obtain ⟨⟨um, ue, us⟩, uz⟩ := RO
  simp only at ko
  obtain ⟨nu, hnu⟩ : ∃ n, us.length = n := ⟨_, rfl⟩
  have HNU := Lib.hid hnu; have KO := Lib.hid ko; have HRO := Lib.hid hRO
  clear hnu ko hRO
  go_enter Tryz.func5, Tryz.ntmps5
  go_upto_region 2 with (first
      | (go_at_call 12; refine (KFK.out _ SU.out).mono ?_; rintro e w1 ⟨v1, rfl, hrow, hb1⟩; replace SV := Lib.hid (SV.out.below hb1); replace SZ := Lib.hid (SZ.out.below hb1); replace BB := Lib.hid (below_step BB.out hb1); obtain ⟨pSK, cSK, rfl, hd⟩ := ndsO hrow; rw [HNK.out] at hd ⊢; have SK := Lib.hid hd; clear hrow hd hb1 KFK SU)
      | (go_at_call 26; refine (KFL.out _ SV.out).mono ?_; rintro e w1 ⟨v1, rfl, hnl9, hb1⟩; replace SK := Lib.hid (SK.out.below hb1); replace SZ := Lib.hid (SZ.out.below hb1); replace BB := Lib.hid (below_step BB.out hb1); obtain ⟨pSL, cSL, rfl, -⟩ := hnl9.ex; rw [HNL.out] at hnl9 ⊢; have SL := Lib.hid hnl9; clear hnl9 hb1 KFL SV)
      | (go_at_call 12; refine (KFR.out _ SZ.out).mono ?_; rintro e w1 ⟨v1, rfl, hrow, hb1⟩; replace SK := Lib.hid (SK.out.below hb1); replace SL := Lib.hid (SL.out.below hb1); replace BB := Lib.hid (below_step BB.out hb1); obtain ⟨pSR, cSR, rfl, hd⟩ := ndsO hrow; rw [HNR.out] at hd ⊢; have SR := Lib.hid hd; clear hrow hd hb1 KFR SZ))
  go_upto_region 3 with (go_at_call 27; refine (KO.out _ _ _ _ SK.out SL.out SR.out).mono ?_; rintro e w1 ⟨v1, rfl, hrow, hb1⟩; obtain ⟨pU, cU, rfl, hd⟩ := dfsO hrow; rw [HNU.out] at hd ⊢; have SU := Lib.hid hd; replace SK := Lib.hid (SK.out.below hb1); replace SL := Lib.hid (SL.out.below hb1); replace SR := Lib.hid (SR.out.below hb1); replace BB := Lib.hid (below_step BB.out hb1); clear hrow hd hb1 KO)
  obtain ⟨WU, gU, hW2, hg2, hr2, hb1⟩ := boxU w1 (.int .i64 um) (.int .i64 ue) (.slice pU nu cU) 24
  rw [hW2, hg2]
  replace SK := Lib.hid (SK.out.below hb1); replace SL := Lib.hid (SL.out.below hb1); replace SR := Lib.hid (SR.out.below hb1); replace SU := Lib.hid (SU.out.below hb1); replace BB := Lib.hid (below_step BB.out hb1)
  obtain ⟨u0, u1, u2, -⟩ := row3 hr2
  clear hW2 hg2 hr2 hb1
  have kn1 := fun w h => refnodes_any (.slice pSK nk cSK) ks w h HSK.out
  have kn2 := fun w h => refnodes_any (.slice pSR nr cSR) root w h HSR.out
  obtain ⟨c2, hc2⟩ : ∃ b, allN2 ks = b := ⟨_, rfl⟩
  obtain ⟨c3, hc3⟩ : ∃ b, allN2 root = b := ⟨_, rfl⟩
  rw [hc2] at kn1
  rw [hc3] at kn2
  have KN1 := Lib.hid kn1; have KN2 := Lib.hid kn2; have HC2 := Lib.hid hc2; have HC3 := Lib.hid hc3
  clear kn1 kn2 hc2 hc3
  by_cases hkl : nk = nl
  · subst hkl
    have d0 : ((nk : Int) == (nk : Int)) = true := by simp
    cases c2
    · go_upto_region 4 with (go_at_call 19; refine (KN1.out _ SK.out).mono ?_; rintro e w9 ⟨rfl, hb1⟩; replace u0 := cell_keep u0 hb1; replace u1 := cell_keep u1 hb1; replace u2 := cell_keep u2 hb1; replace SK := Lib.hid (SK.out.below hb1); replace SL := Lib.hid (SL.out.below hb1); replace SR := Lib.hid (SR.out.below hb1); replace SU := Lib.hid (SU.out.below hb1); replace BB := Lib.hid (below_step BB.out hb1); clear hb1 KN1)
      obtain ⟨wl, hwl⟩ : ∃ r, r = w9 := ⟨_, rfl⟩
      subst hwl
      have hro := HRO.out
      rw [show ofE ks ls root = (U0, 1) by rw [ofE_yes (by rw [HNL.out, HNK.out]), chgE_no (by rw [allN2_app, spoke_all ks ls (by rw [HNL.out, HNK.out]), HC2.out]; simp)]] at hro
      obtain ⟨hr1, rfl⟩ := Prod.mk.inj hro
      injection hr1 with r1 r2 r3
      subst r1 r2 r3
      obtain rfl : 0 = nu := HNU.out
      clear hro
      go_wp2
      go_loopw [9, 10] (fun v i wr => ∃ k : Nat, k ≤ nk ∧ i = .int .i64 k ∧ v = .bool false ∧ wr = wl) (fun _ i _ => nk - (intOf i).toNat)
      case atStart => exact ⟨0, Nat.zero_le _, rfl, rfl, rfl⟩
      case round =>
        obtain ⟨k, hk, rfl, rfl, rfl⟩ := hrel
        by_cases hlt : k < nk
        · have hkb : (k : Int) < (nk : Int) := by omega
          go_wp2
          go_roundw
          case rel => exact ⟨k + 1, by omega, by go_num, rfl, by first | rfl | trivial⟩
          case measure => simp [intOf]; omega
        · have e9 : k = nk := by omega
          subst e9
          go_wp2_with (first
              | (go_at_call 18; refine (refusame_any _ _ _ _ _ _ _ _ _ _ _ _ _ SU.out (dfs_none _)).mono ?_; rintro e w9 ⟨rfl, hb1⟩; rw [sameU_self]; replace u0 := cell_keep u0 hb1; replace u1 := cell_keep u1 hb1; replace u2 := cell_keep u2 hb1; replace SK := Lib.hid (SK.out.below hb1); replace SL := Lib.hid (SL.out.below hb1); replace SR := Lib.hid (SR.out.below hb1); replace SU := Lib.hid (SU.out.below hb1); replace BB := Lib.hid (below_step BB.out hb1); clear hb1)
              | (go_at_call 20; refine (rawake_any _).mono ?_; rintro e w9 ⟨rfl, hb1⟩; replace u0 := cell_keep u0 hb1; replace u1 := cell_keep u1 hb1; replace u2 := cell_keep u2 hb1; replace SK := Lib.hid (SK.out.below hb1); replace SL := Lib.hid (SL.out.below hb1); replace SR := Lib.hid (SR.out.below hb1); replace SU := Lib.hid (SU.out.below hb1); replace BB := Lib.hid (below_step BB.out hb1); clear hb1))
          go_ret
          exact ⟨rfl, BB.out⟩
    · cases c3
      · go_upto_region 4 with (go_at_call 19; first
            | (refine (KN1.out _ SK.out).mono ?_; rintro e w9 ⟨rfl, hb1⟩; replace u0 := cell_keep u0 hb1; replace u1 := cell_keep u1 hb1; replace u2 := cell_keep u2 hb1; replace SK := Lib.hid (SK.out.below hb1); replace SL := Lib.hid (SL.out.below hb1); replace SR := Lib.hid (SR.out.below hb1); replace SU := Lib.hid (SU.out.below hb1); replace BB := Lib.hid (below_step BB.out hb1); clear hb1 KN1)
            | (refine (KN2.out _ SR.out).mono ?_; rintro e w9 ⟨rfl, hb1⟩; replace u0 := cell_keep u0 hb1; replace u1 := cell_keep u1 hb1; replace u2 := cell_keep u2 hb1; replace SK := Lib.hid (SK.out.below hb1); replace SL := Lib.hid (SL.out.below hb1); replace SR := Lib.hid (SR.out.below hb1); replace SU := Lib.hid (SU.out.below hb1); replace BB := Lib.hid (below_step BB.out hb1); clear hb1 KN2))
        obtain ⟨wl, hwl⟩ : ∃ r, r = w9 := ⟨_, rfl⟩
        subst hwl
        have hro := HRO.out
        rw [show ofE ks ls root = (U0, 1) by rw [ofE_yes (by rw [HNL.out, HNK.out]), chgE_no (by rw [allN2_app, spoke_all ks ls (by rw [HNL.out, HNK.out]), HC2.out, HC3.out]; simp)]] at hro
        obtain ⟨hr1, rfl⟩ := Prod.mk.inj hro
        injection hr1 with r1 r2 r3
        subst r1 r2 r3
        obtain rfl : 0 = nu := HNU.out
        clear hro
        go_wp2
        go_loopw [9, 10] (fun v i wr => ∃ k : Nat, k ≤ nk ∧ i = .int .i64 k ∧ v = .bool false ∧ wr = wl) (fun _ i _ => nk - (intOf i).toNat)
        case atStart => exact ⟨0, Nat.zero_le _, rfl, rfl, rfl⟩
        case round =>
          obtain ⟨k, hk, rfl, rfl, rfl⟩ := hrel
          by_cases hlt : k < nk
          · have hkb : (k : Int) < (nk : Int) := by omega
            go_wp2
            go_roundw
            case rel => exact ⟨k + 1, by omega, by go_num, rfl, by first | rfl | trivial⟩
            case measure => simp [intOf]; omega
          · have e9 : k = nk := by omega
            subst e9
            go_wp2_with (first
                | (go_at_call 18; refine (refusame_any _ _ _ _ _ _ _ _ _ _ _ _ _ SU.out (dfs_none _)).mono ?_; rintro e w9 ⟨rfl, hb1⟩; rw [sameU_self]; replace u0 := cell_keep u0 hb1; replace u1 := cell_keep u1 hb1; replace u2 := cell_keep u2 hb1; replace SK := Lib.hid (SK.out.below hb1); replace SL := Lib.hid (SL.out.below hb1); replace SR := Lib.hid (SR.out.below hb1); replace SU := Lib.hid (SU.out.below hb1); replace BB := Lib.hid (below_step BB.out hb1); clear hb1)
                | (go_at_call 20; refine (rawake_any _).mono ?_; rintro e w9 ⟨rfl, hb1⟩; replace u0 := cell_keep u0 hb1; replace u1 := cell_keep u1 hb1; replace u2 := cell_keep u2 hb1; replace SK := Lib.hid (SK.out.below hb1); replace SL := Lib.hid (SL.out.below hb1); replace SR := Lib.hid (SR.out.below hb1); replace SU := Lib.hid (SU.out.below hb1); replace BB := Lib.hid (below_step BB.out hb1); clear hb1))
            go_ret
            exact ⟨rfl, BB.out⟩
      · go_upto_region 4 with (go_at_call 19; first
            | (refine (KN1.out _ SK.out).mono ?_; rintro e w9 ⟨rfl, hb1⟩; replace u0 := cell_keep u0 hb1; replace u1 := cell_keep u1 hb1; replace u2 := cell_keep u2 hb1; replace SK := Lib.hid (SK.out.below hb1); replace SL := Lib.hid (SL.out.below hb1); replace SR := Lib.hid (SR.out.below hb1); replace SU := Lib.hid (SU.out.below hb1); replace BB := Lib.hid (below_step BB.out hb1); clear hb1 KN1)
            | (refine (KN2.out _ SR.out).mono ?_; rintro e w9 ⟨rfl, hb1⟩; replace u0 := cell_keep u0 hb1; replace u1 := cell_keep u1 hb1; replace u2 := cell_keep u2 hb1; replace SK := Lib.hid (SK.out.below hb1); replace SL := Lib.hid (SL.out.below hb1); replace SR := Lib.hid (SR.out.below hb1); replace SU := Lib.hid (SU.out.below hb1); replace BB := Lib.hid (below_step BB.out hb1); clear hb1 KN2))
        obtain ⟨wl, hwl⟩ : ∃ r, r = w9 := ⟨_, rfl⟩
        subst hwl
        go_wp2
        go_loopw [9, 10] (fun v i wr => ∃ k : Nat, k ≤ nk ∧ i = .int .i64 k ∧ v = .bool ((ls.take k).all allN2) ∧ Hid (Below wl.heap.size wl wr)) (fun _ i _ => nk - (intOf i).toNat)
        case atStart => exact ⟨0, Nat.zero_le _, rfl, rfl, Lib.hid (Below.refl _ _)⟩
        case round =>
          obtain ⟨k, hk, rfl, rfl, HBW⟩ := hrel
          replace u0 := cell_keep u0 HBW.out; replace u1 := cell_keep u1 HBW.out; replace u2 := cell_keep u2 HBW.out; replace SK := Lib.hid (SK.out.below HBW.out);  replace SL := Lib.hid (SL.out.below HBW.out);  replace SR := Lib.hid (SR.out.below HBW.out);  replace SU := Lib.hid (SU.out.below HBW.out); replace BB := Lib.hid (below_step BB.out HBW.out)
          by_cases hlt : k < nk
          · have hkl : k < ls.length := by rw [HNL.out]; exact hlt
            obtain ⟨bl, ol, ay, ny, cy, rfl, cy0, hsy⟩ := SL.out.at k hkl
            have htk := all_take hkl
            have hys := (HSL.out (ls.getD k []) (by rw [List.getD_eq_getElem?_getD, List.getElem?_eq_getElem hkl]; exact List.getElem_mem hkl)).2
            have hkb : (k : Int) < (nk : Int) := by omega
            obtain ⟨o, ho⟩ : ∃ o, (ls.take k).all allN2 = o := ⟨_, rfl⟩
            rw [ho] at htk ⊢
            obtain ⟨y, hy⟩ : ∃ y, ls.getD k [] = y := ⟨_, rfl⟩
            rw [hy] at hsy htk hys
            have kn := fun w h => refnodes_any (.slice ay ny cy) y w h hys
            obtain ⟨oy, hoy⟩ : ∃ o, allN2 y = o := ⟨_, rfl⟩
            rw [hoy] at kn htk
            have SY := Lib.hid hsy; have KN := Lib.hid kn; have HTK := Lib.hid htk
            clear hsy kn htk ho hy hys hoy
            cases o
            · go_wp2
              go_roundw
              case rel => exact ⟨k + 1, by omega, by go_num, by rw [HTK.out]; rfl, HBW⟩
              case measure => simp [intOf]; omega
            · go_wp2_with (go_at_call 19; refine (KN.out _ SY.out).mono ?_; rintro e w9 ⟨rfl, hb1⟩; replace HBW := Lib.hid (below_step HBW.out hb1); clear hb1)
              go_roundw
              case rel => exact ⟨k + 1, by omega, by go_num, by rw [HTK.out]; cases oy <;> rfl, HBW⟩
              case measure => simp [intOf]; omega
          · have e9 : k = nk := by omega
            subst e9
            rw [List.take_of_length_le (by rw [HNL.out]; exact Nat.le_refl _)]
            cases hall : ls.all allN2
            · have hro := HRO.out
              rw [show ofE ks ls root = (U0, 1) by rw [ofE_yes (by rw [HNL.out, HNK.out]), chgE_no (by rw [allN2_app, spoke_all ks ls (by rw [HNL.out, HNK.out]), HC2.out, HC3.out, hall]; simp)]] at hro
              obtain ⟨hr1, rfl⟩ := Prod.mk.inj hro
              injection hr1 with r1 r2 r3
              subst r1 r2 r3
              obtain rfl : 0 = nu := HNU.out
              clear hro
              clear hall
              go_wp2_with (first
                  | (go_at_call 18; refine (refusame_any _ _ _ _ _ _ _ _ _ _ _ _ _ SU.out (dfs_none _)).mono ?_; rintro e w9 ⟨rfl, hb1⟩; rw [sameU_self]; replace u0 := cell_keep u0 hb1; replace u1 := cell_keep u1 hb1; replace u2 := cell_keep u2 hb1; replace SK := Lib.hid (SK.out.below hb1); replace SL := Lib.hid (SL.out.below hb1); replace SR := Lib.hid (SR.out.below hb1); replace SU := Lib.hid (SU.out.below hb1); replace BB := Lib.hid (below_step BB.out hb1); clear hb1)
                  | (go_at_call 20; refine (rawake_any _).mono ?_; rintro e w9 ⟨rfl, hb1⟩; replace u0 := cell_keep u0 hb1; replace u1 := cell_keep u1 hb1; replace u2 := cell_keep u2 hb1; replace SK := Lib.hid (SK.out.below hb1); replace SL := Lib.hid (SL.out.below hb1); replace SR := Lib.hid (SR.out.below hb1); replace SU := Lib.hid (SU.out.below hb1); replace BB := Lib.hid (below_step BB.out hb1); clear hb1))
              go_ret
              exact ⟨rfl, BB.out⟩
            · have hro := HRO.out
              have hPl : (root ++ spokeL ks ls).length ≤ 500000 ∧ ks.length ≤ (root ++ spokeL ks ls).length := by
                have h1 := spokeL_len 24 ks ls (fun l hl => (HSL.out l hl).1)
                have h2 := spokeL_ge ks ls (by rw [HNL.out, HNK.out]; exact Nat.le_refl _)
                rw [List.length_append, HNR.out]
                rw [HNK.out] at h1 h2 ⊢
                omega
              have oks : ∀ x ∈ ks, okN x = true := allN2_iff.1 HC2.out
              have ort : ∀ x ∈ root, okN x = true := allN2_iff.1 HC3.out
              have oll : ∀ l ∈ ls, ∀ x ∈ l, okN x = true := fun l hl => allN2_iff.1 (List.all_eq_true.1 hall l hl)
              have oP : ∀ x ∈ root ++ spokeL ks ls, okN x = true := fun x hx => (List.mem_append.1 hx).elim (ort x) fun q => (spokeL_mem ks ls x q).elim (oks x) fun ⟨l, hl, q⟩ => oll l hl x q
              have huz : uz = 0 := by
                rw [ofE_ok (by rw [HNL.out, HNK.out]) oP hPl.1 (by omega)] at hro
                exact ((Prod.mk.inj hro).2).symm
              have kr := fun w h h' h'' => refof_any (.slice pSK k cSK) (.slice pSL k cSL) (.slice pSR nr cSR) ks ls root w h h' h'' HSK.out (fun l hl => (HSL.out l hl).2) HSR.out oks oll ort (by rw [HNK.out]; omega) (fun l hl => by have := (HSL.out l hl).1; omega) (by rw [HNR.out]; omega) (by rw [HNL.out, HNK.out])
              rw [hro] at kr
              simp only at kr
              have KR := Lib.hid kr
              subst huz
              clear hro hPl oks ort oll oP kr hall
              obtain ⟨wl2, hwl2⟩ : ∃ r, r = wr := ⟨_, rfl⟩
              subst hwl2
              have x1 : ∀ args w, (callFunc 28 args).run Tryz.prog w = .ok (.enter 28 args) w := enters_of Tryz.func28 (by kernel_rfl) rfl
              have x2 : ∀ args w, (callFunc 18 args).run Tryz.prog w = .ok (.enter 18 args) w := enters_of Tryz.func18 (by kernel_rfl) rfl
              have x3 : ∀ args w, (callFunc 20 args).run Tryz.prog w = .ok (.enter 20 args) w := enters_of Tryz.func20 (by kernel_rfl) rfl
              go_upto_region 10 with fail
              refine rol_run (by kernel_rfl) [[], [], [], [], [1, 2, 3], [0, 1, 2, 3, 4], [0, 1, 2, 3, 4, 5], [0, 1, 2, 3, 4, 5, 6], [0, 1, 2, 3, 4, 5, 6, 7], [0, 1, 2, 3, 4, 5, 6, 7, 8], [0, 1, 2, 3, 4, 5, 6, 7, 8, 9], [0, 1, 2, 3, 4, 5, 6, 7, 8, 9, 10], [0, 1, 2, 3, 4, 5, 6, 7, 8, 9, 10, 11], [0, 1, 2, 3, 4, 5, 6, 7, 8, 9, 10, 11, 12]] (by kernel_rfl) [63, 64, 65, 66, 67, 68, 69, 70, 71, 72, 73, 74, 75, 6] [[], [], [], [], [1, 2, 3], [0, 4], [5], [6], [6, 7], [6, 8], [9], [10], [10, 11], [12]] [0, 0, 0, 0, 1, 0, 0, 0, 0, 0, 0, 0, 0, 0] [0, 0, 0, 0, 0, 0, 0, 0, 0, 0, 0, 0, 0, 0] [1000, 1000, 1000, 1000, 1000, 1000, 1000, 1000, 1000, 1000, 1000, 1000, 1000, 1000] [.val 63 (.agg #[.int .i64 um, .int .i64 ue, .slice pU nu cU]), .val 64 (.slice pSK k cSK), .val 65 (.slice pSL k cSL), .val 66 (.slice pSR nr cSR), .mem 67 (useG wl2.heap.size um ue us), .val 68 (.bool true), .val 69 (.bool true), .val 70 (.int .i64 0), .val 71 (.bool true), .val 72 (.bool true), .val 73 (.bool true), .val 74 (.bool true), .val 75 (.bool true), .val 6 (.bool true)] (by kernel_rfl) ?_ (wl2.heap.size) (wl2.heap.size) rfl (Below.refl _ _) rfl (fun _ => 0) ?_ ?_ ?_
              · intro j hj
                have hj3 : j < 14 := hj
                have hj2 : j = 0 ∨ j = 1 ∨ j = 2 ∨ j = 3 ∨ j = 4 ∨ j = 5 ∨ j = 6 ∨ j = 7 ∨ j = 8 ∨ j = 9 ∨ j = 10 ∨ j = 11 ∨ j = 12 ∨ j = 13 := by omega
                clear hj hj3
                rcases hj2 with rfl | rfl | rfl | rfl | rfl | rfl | rfl | rfl | rfl | rfl | rfl | rfl | rfl | rfl
                · exact trivial
                · exact trivial
                · exact trivial
                · exact trivial
                · exact useG_near
                · exact trivial
                · exact trivial
                · exact trivial
                · exact trivial
                · exact trivial
                · exact trivial
                · exact trivial
                · exact trivial
                · exact trivial
              · intro j hj0 hj
                exact absurd hj (Nat.not_lt.2 hj0)
              · intro i hi a wx who hG hF
                have hz : a.tmps.size = 76 := hG.size
                have hi3 : i < 14 := hi
                have hi2 : i = 0 ∨ i = 1 ∨ i = 2 ∨ i = 3 ∨ i = 4 ∨ i = 5 ∨ i = 6 ∨ i = 7 ∨ i = 8 ∨ i = 9 ∨ i = 10 ∨ i = 11 ∨ i = 12 ∨ i = 13 := by omega
                clear hi hi3
                rcases hi2 with rfl | rfl | rfl | rfl | rfl | rfl | rfl | rfl | rfl | rfl | rfl | rfl | rfl | rfl
                · exact rol_val rfl rfl rfl (by rw [hz]; decide) (ex_load rfl (eval_slot ((hG.slots 7 (by decide)).trans rfl)) (ld_useC (cell_keep u0 hG.below) (cell_keep u1 hG.below) (cell_keep u2 hG.below))) hG.below
                · exact rol_val rfl rfl rfl (by rw [hz]; decide) (ex_move (Or.inl rfl) (eval_slot ((hG.slots 0 (by decide)).trans rfl))) hG.below
                · exact rol_val rfl rfl rfl (by rw [hz]; decide) (ex_move (Or.inl rfl) (eval_slot ((hG.slots 1 (by decide)).trans rfl))) hG.below
                · exact rol_val rfl rfl rfl (by rw [hz]; decide) (ex_move (Or.inl rfl) (eval_slot ((hG.slots 2 (by decide)).trans rfl))) hG.below
                · refine rol_calls rfl rfl rfl (by rw [hz]; decide) (ex_call rfl (by simp [eval_slot (hF 1 (by decide)), eval_slot (hF 2 (by decide)), eval_slot (hF 3 (by decide))]) x1) (KR.out wx (SK.out.below hG.below) (SL.out.below hG.below) (SR.out.below hG.below)) ?_ hG.below hG.new
                  rintro e w1 ⟨u, rfl, hown, hb1⟩
                  exact ⟨_, rfl, hb1, .inr (.inl ⟨_, u.ownBlock, rfl, fun b e => hown.lt b e, u, rfl, row_base hown hG.new, rfl⟩)⟩
                · obtain ⟨v', ob, hv, hob, x, rfl, hrow, rfl⟩ := hF 4 (by decide)
                  obtain ⟨a9, c9, rfl, hd⟩ := dfsO hrow
                  refine rol_call rfl rfl rfl (by rw [hz]; decide) (ex_call rfl (by simp [eval_slot (hF 0 (by decide)), eval_slot hv]) x2) (refusame_any um ue um ue pU a9 nu cU us.length c9 us us wx (SU.out.below hG.below) hd) ?_ hG.below hG.new
                  rintro e w1 ⟨rfl, hb1⟩
                  rw [sameU_self]
                  exact ⟨_, rfl, hb1, .inl rfl⟩
                · exact rol_val rfl rfl rfl (by rw [hz]; decide) (ex_move (Or.inl rfl) (eval_slot (hF 5 (by decide)))) hG.below
                · exact rol_val rfl (want_yes rfl rfl (hF 6 (by decide))) rfl (by rw [hz]; decide) (ex_move (Or.inl rfl) (eval_slot ((hG.slots 8 (by decide)).trans rfl))) hG.below
                · exact rol_val rfl (want_yes rfl rfl (hF 6 (by decide))) rfl (by rw [hz]; decide) (ex_bin rfl (eval_slot (hF 7 (by decide))) rfl (by go_simp) (by go_simp)) hG.below
                · exact rol_val rfl rfl rfl (by rw [hz]; decide) (ex_pick_yes rfl (eval_slot (hF 6 (by decide))) (eval_slot (hF 8 (by decide)))) hG.below
                · exact rol_val rfl rfl rfl (by rw [hz]; decide) (ex_move (Or.inl rfl) (eval_slot (hF 9 (by decide)))) hG.below
                · refine rol_call rfl (want_yes rfl rfl (hF 10 (by decide))) rfl (by rw [hz]; decide) (ex_call rfl (by simp) x3) (rawake_any wx) ?_ hG.below hG.new
                  rintro e w1 ⟨rfl, hb1⟩
                  exact ⟨_, rfl, hb1, .inl rfl⟩
                · exact rol_val rfl rfl rfl (by rw [hz]; decide) (ex_pick_yes rfl (eval_slot (hF 10 (by decide))) (eval_slot (hF 11 (by decide)))) hG.below
                · exact rol_val rfl rfl rfl (by rw [hz]; decide) (ex_move (Or.inr rfl) (eval_slot (hF 12 (by decide)))) hG.below
              · intro a wx who hG hF
                have fv6 : a.tmps.getD 6 undef = .bool true := eval_slot (s := 6) (hF 13 (of_decide_eq_true (by kernel_rfl)) (of_decide_eq_true (by kernel_rfl)))
                have hbx := hG.below
                have hnx := hG.new
                rw [hG.frame]
                simp only [List.foldl_cons, List.foldl_nil, List.setIfInBounds_toArray, List.set_cons_zero, List.set_cons_succ]
                generalize a.tmps.getD 63 undef = u63
                generalize a.tmps.getD 64 undef = u64
                generalize a.tmps.getD 65 undef = u65
                generalize a.tmps.getD 66 undef = u66
                generalize a.tmps.getD 67 undef = u67
                generalize a.tmps.getD 68 undef = u68
                generalize a.tmps.getD 69 undef = u69
                generalize a.tmps.getD 70 undef = u70
                generalize a.tmps.getD 71 undef = u71
                generalize a.tmps.getD 72 undef = u72
                generalize a.tmps.getD 73 undef = u73
                generalize a.tmps.getD 74 undef = u74
                generalize a.tmps.getD 75 undef = u75
                rw [fv6]
                clear hF hG fv6
                replace BB := Lib.hid (below_step BB.out hbx)
                clear hbx hnx
                go_wp2
                go_ret
                exact ⟨rfl, BB.out⟩
  · have d0 : ((nk : Int) == (nl : Int)) = false := by simp; omega
    have HKL := Lib.hid hkl
    clear hkl
    obtain ⟨wl, hwl⟩ : ∃ r, r = WU := ⟨_, rfl⟩
    subst hwl
    have hro := HRO.out
    rw [ofE_no (by rw [HNL.out, HNK.out]; exact fun q => HKL.out q.symm)] at hro
    obtain ⟨hr1, rfl⟩ := Prod.mk.inj hro
    injection hr1 with r1 r2 r3
    subst r1 r2 r3
    obtain rfl : 0 = nu := HNU.out
    clear hro
    go_upto_region 4 with fail
    go_wp2
    go_loopw [9, 10] (fun v i wr => ∃ k : Nat, k ≤ nl ∧ i = .int .i64 k ∧ v = .bool false ∧ wr = wl) (fun _ i _ => nl - (intOf i).toNat)
    case atStart => exact ⟨0, Nat.zero_le _, rfl, rfl, rfl⟩
    case round =>
      obtain ⟨k, hk, rfl, rfl, rfl⟩ := hrel
      by_cases hlt : k < nl
      · have hkb : (k : Int) < (nl : Int) := by omega
        go_wp2
        go_roundw
        case rel => exact ⟨k + 1, by omega, by go_num, rfl, by first | rfl | trivial⟩
        case measure => simp [intOf]; omega
      · have e9 : k = nl := by omega
        subst e9
        go_wp2_with (first
            | (go_at_call 18; refine (refusame_any _ _ _ _ _ _ _ _ _ _ _ _ _ SU.out (dfs_none _)).mono ?_; rintro e w9 ⟨rfl, hb1⟩; rw [sameU_self]; replace u0 := cell_keep u0 hb1; replace u1 := cell_keep u1 hb1; replace u2 := cell_keep u2 hb1; replace SK := Lib.hid (SK.out.below hb1); replace SL := Lib.hid (SL.out.below hb1); replace SR := Lib.hid (SR.out.below hb1); replace SU := Lib.hid (SU.out.below hb1); replace BB := Lib.hid (below_step BB.out hb1); clear hb1)
            | (go_at_call 20; refine (rawake_any _).mono ?_; rintro e w9 ⟨rfl, hb1⟩; replace u0 := cell_keep u0 hb1; replace u1 := cell_keep u1 hb1; replace u2 := cell_keep u2 hb1; replace SK := Lib.hid (SK.out.below hb1); replace SL := Lib.hid (SL.out.below hb1); replace SR := Lib.hid (SR.out.below hb1); replace SU := Lib.hid (SU.out.below hb1); replace BB := Lib.hid (below_step BB.out hb1); clear hb1))
        go_ret
        exact ⟨rfl, BB.out⟩

theorem own : ownKnob Tryz.prog.godebug = none := by kernel_rfl
theorem laidOut : laidOutB Tryz.prog = true := by kernel_rfl

set_option maxRecDepth 100000 in
theorem lifted (os : Os) (started : os.Started) (H : Type) (enc : TypeId × Value → H) :
    ReturnsInHanded {} Tryz.checked os 5 .any (Rows.roomOfSpec.pre6 enc Tryz.prog Tryz.f5 Rows.roomOfRow.domain false) (Rows.roomOfSpec.post enc Tryz.prog Tryz.f5 false true false false) := by
  refine returnsInHanded_of_change (C := Tryz.checked) own started (by kernel_rfl) Tryz.func5
    (ChangeSpec.witness6 (enc := enc) (C := Tryz.checked) false ⟨#[], #[.slice none 0 0, .slice none 0 0, .slice none 0 0], []⟩ 8 (by kernel_rfl) (by kernel_rfl) (by kernel_rfl) (by kernel_rfl)) ?_
  intro W base args ds gs before hval0 hW hcnd _
  have hval : ∀ (j : Nat) t v, Tryz.f5.params[j]? = some t → args[j]? = some v → Value.okWide Tryz.prog W .any base t v := hval0
  have hW' := hW
  obtain ⟨p, q, hA0, hV, rfl, hfz, hnd⟩ := hW
  have hA : DataW.TrodAll enc Tryz.prog W 0 (fun _ => true) true Tryz.f5.params.toList args.toList ds p := hA0
  rw [Tryz.params5] at hA hval
  obtain ⟨v0, vs0, d0, ds0, p0, q0, hargs, rfl, rfl, h0, r0⟩ := trodAll_cons hA
  obtain ⟨v1, vs1, d1, ds1, p1, q1, rfl, rfl, rfl, h1, r1⟩ := trodAll_cons r0
  obtain ⟨v2, vs2, d2, ds2, p2, q2, rfl, rfl, rfl, h2, r2⟩ := trodAll_cons r1
  obtain ⟨rfl, rfl, rfl⟩ := trodAll_nil r2
  obtain rfl : args = #[v0, v1, v2] := by cases args; simp_all
  obtain ⟨rfl, rfl⟩ := trodVars_none hV
  obtain ⟨a0, len0, cap0, rfl⟩ := okWide_slice Tryz.underlying27 (hval 0 27 v0 rfl rfl)
  have k0 := h0
  have lt0 : ∀ x ∈ p0, x.block < W.heap.size := by obtain ⟨m, hm⟩ := k0; exact DataW.trod_lt m _ _ _ hm
  obtain ⟨z0, w0⟩ : ∃ zs, Nds W (.slice a0 len0 cap0) zs ∧ ∀ n ∈ zs, fitsN n := by
    obtain ⟨fuel, hf⟩ := h0
    exact nds_open (by simpa [Value.cells] using hf)
  obtain ⟨a1, len1, cap1, rfl⟩ := okWide_slice Tryz.underlying49 (hval 1 49 v1 rfl rfl)
  have k1 := h1
  have lt1 : ∀ x ∈ p1, x.block < W.heap.size := by obtain ⟨m, hm⟩ := k1; exact DataW.trod_lt m _ _ _ hm
  obtain ⟨z1, w1⟩ : ∃ zs, NdL W (.slice a1 len1 cap1) zs ∧ ∀ k ∈ zs, ∀ n ∈ k, fitsN n := by
    obtain ⟨fuel, hf⟩ := h1
    exact ndl_open (by simpa [Value.cells] using hf)
  obtain ⟨a2, len2, cap2, rfl⟩ := okWide_slice Tryz.underlying27 (hval 2 27 v2 rfl rfl)
  have k2 := h2
  have lt2 : ∀ x ∈ p2, x.block < W.heap.size := by obtain ⟨m, hm⟩ := k2; exact DataW.trod_lt m _ _ _ hm
  obtain ⟨z2, w2⟩ : ∃ zs, Nds W (.slice a2 len2 cap2) zs ∧ ∀ n ∈ zs, fitsN n := by
    obtain ⟨fuel, hf⟩ := h2
    exact nds_open (by simpa [Value.cells] using hf)
  clear hA0 hval0
  refine (walk _ z0 _ z1 _ z2 W w0 w1 w2).mono fun e W' ⟨he, bel⟩ => ?_
  subst he
  exact ⟨_, rfl, _, _, _, [], _, [], hW', trodAll_mk1 (shut_bool Tryz.underlying4 _), (trodAll_cons_mk (Below.trod laidOut (by kernel_rfl) (of_decide_eq_true (by kernel_rfl)) k0 bel lt0) (trodAll_cons_mk (Below.trod laidOut (by kernel_rfl) (of_decide_eq_true (by kernel_rfl)) k1 bel lt1) (trodAll_cons_mk (Below.trod laidOut (by kernel_rfl) (of_decide_eq_true (by kernel_rfl)) k2 bel lt2) trodAll_mk0))), rfl, bel.frame _, fun h => by cases h⟩

-- the given statement
theorem proved : Rows.RoomOfSaid :=
  OpenClaim.holds_of_wide 5 Tryz.f5 rfl rfl rfl rfl rfl rfl rfl ⟨rfl, rfl, rfl, rfl, rfl⟩ rfl rfl rfl rfl rfl (by kernel_rfl) Tryz.func5 (by kernel_rfl)
    (of_decide_eq_true (by kernel_rfl)) (by unfold Func.isWrapper; first | (rw [if_pos (by decide +kernel)]; kernel_rfl) | (rw [if_neg (by decide +kernel)]; exact ⟨rfl, rfl⟩))
    (fun os started H enc _ => lifted os started H enc)
end Go.Proofs.YtglhjdbnpdoinaaGreat.roomOf
