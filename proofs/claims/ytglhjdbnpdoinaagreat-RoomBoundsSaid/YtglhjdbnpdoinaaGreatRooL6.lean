/- Of every list of keys, every list of lists of nodes and every list of nodes (no more, and no longer, than are looked at): no more nodes are spoken of than there are manifests and edges; all together they are spoken of just as often; no condition. -/
import Derived.Test.YtglhjdbnpdoinaaGreatRows
import Derived.Test.YtglhjdbnpdoinaaGreatRooN
import Derived.ProofKit
import Derived.OpenShut
import Derived.ShutString
import Derived.ChangeOld
namespace Go.Proofs.YtglhjdbnpdoinaaGreat.roomBounds
open Go.ChangeShapes Go.WideShapes Go.ChangeAt Go.RowKit
open Go.ChangeMaps (open_string shut_string)
set_option maxRecDepth 100000
set_option linter.unusedVariables false

theorem spoke_all : ∀ (ks : List Nd) (ls : List (List Nd)), ls.length = ks.length → allN2 (spokeL ks ls) = (allN2 ks && ls.all allN2)
  | [], [], _ => rfl
  | [], _ :: _, h => by simp at h
  | _ :: _, [], h => by simp at h
  | x :: ks, y :: ls, h => by
    have ih := spoke_all ks ls (by simpa using h)
    rw [spokeL, allN2_app, ih]
    unfold allN2
    simp only [List.all_cons]
    cases okN x <;> cases y.all okN <;> cases ks.all okN <;> rfl
theorem spoke_len : ∀ (ks : List Nd) (ls : List (List Nd)), ls.length = ks.length → (spokeL ks ls).length = ks.length + ls.flatten.length
  | [], [], _ => rfl
  | [], _ :: _, h => by simp at h
  | _ :: _, [], h => by simp at h
  | x :: ks, y :: ls, h => by
    have ih := spoke_len ks ls (by simpa using h)
    rw [spokeL, List.length_append, List.length_cons, ih, List.flatten_cons, List.length_append, List.length_cons]
    omega
theorem flat_takeU (l : List (List Nd)) (k : Nat) (h : k < l.length) : (l.take (k + 1)).flatten.length = (l.take k).flatten.length + (l.getD k []).length := by
  rw [List.take_succ_eq_append_getElem h, List.flatten_append, List.length_append]
  simp [List.getD_eq_getElem?_getD, h]
theorem flat_leU (l : List (List Nd)) (M : Nat) (h : ∀ x ∈ l, x.length ≤ M) : l.flatten.length ≤ l.length * M := by
  induction l with
  | nil => simp
  | cons x l ih =>
    have h1 := h x List.mem_cons_self
    have h2 := ih fun y hy => h y (List.mem_cons_of_mem _ hy)
    rw [List.flatten_cons, List.length_append, List.length_cons, Nat.succ_mul]
    omega
theorem pos_one {l : List Nd} : ∀ e ∈ difL [] l, 1 ≤ e.2 := fun e he => by
  have h := mkD_mem.1 he
  have h2 := h.2.1
  unfold difF at h2
  rw [cntN_nil] at h2
  have := h.2.2
  omega
set_option maxRecDepth 100000 in
set_option maxHeartbeats 6400000 in
theorem walk (U : Value) (K0 : List Nd) (V : Value) (L0 : List (List Nd)) (Z : Value) (R0 : List Nd) (w : World) (hU : Nds w U K0 ∧ ∀ n ∈ K0, fitsN n) (hV : NdL w V L0 ∧ ∀ k ∈ L0, ∀ n ∈ k, fitsN n) (hZ : Nds w Z R0 ∧ ∀ n ∈ R0, fitsN n) :
    Calls Tryz.prog 8 #[U, V, Z] w fun e w' => e = .returned (.bool true) ∧ Below w.heap.size w w' := by
  obtain ⟨hU, fU⟩ := hU
  obtain ⟨hV, fV⟩ := hV
  obtain ⟨hZ, fZ⟩ := hZ
  have kfk := fun w h => nfewo_any U K0 w h fU
  have kfl := fun w h => lists_any V L0 w h fV
  have kfr := fun w h => nfewo_any Z R0 w h fZ
  obtain ⟨pU, cU, rfl, -⟩ := hU.ex
  obtain ⟨pV, cV, rfl, -⟩ := hV.ex
  obtain ⟨pZ, cZ, rfl, -⟩ := hZ.ex
  obtain ⟨mU, hmU⟩ : ∃ n, K0.length = n := ⟨_, rfl⟩
  obtain ⟨mV, hmV⟩ : ∃ n, L0.length = n := ⟨_, rfl⟩
  obtain ⟨mZ, hmZ⟩ : ∃ n, R0.length = n := ⟨_, rfl⟩
  rw [hmU] at hU kfk ⊢
  rw [hmV] at hV kfl ⊢
  rw [hmZ] at hZ kfr ⊢
  have lk := fewNs_len K0
  have sk := fewNs_small K0
  have ll := fewLs_len L0
  have sl := fewLs_each L0
  have lr := fewNs_len R0
  have sr := fewNs_small R0
  obtain ⟨ks, hks⟩ : ∃ l, fewNs K0 = l := ⟨_, rfl⟩
  obtain ⟨ls, hls⟩ : ∃ l, fewLs L0 = l := ⟨_, rfl⟩
  obtain ⟨root, hroot⟩ : ∃ l, fewNs R0 = l := ⟨_, rfl⟩
  rw [hks] at kfk lk sk
  rw [hls] at kfl ll sl
  rw [hroot] at kfr lr sr
  have ko := fun U V Z w h h' h'' => of_any U V Z ks ls root w h h' h'' sk (fun l hl => (sl l hl).2) sr (by omega) (fun l hl => by have := (sl l hl).1; omega) (by omega)
  obtain ⟨nk, hnk⟩ : ∃ n, ks.length = n := ⟨_, rfl⟩
  obtain ⟨nl, hnl⟩ : ∃ n, ls.length = n := ⟨_, rfl⟩
  obtain ⟨nr, hnr⟩ : ∃ n, root.length = n := ⟨_, rfl⟩
  rw [hnk] at lk
  rw [hnl] at ll
  rw [hnr] at lr
  have BB := Lib.hid (Below.refl w.heap.size w)
  have SU := Lib.hid hU; have SV := Lib.hid hV; have SZ := Lib.hid hZ; have KFK := Lib.hid kfk; have KFL := Lib.hid kfl; have KFR := Lib.hid kfr; have HNK := Lib.hid hnk; have HNL := Lib.hid hnl; have HNR := Lib.hid hnr; have HSK := Lib.hid sk; have HSL := Lib.hid sl; have HSR := Lib.hid sr
  clear hU hV hZ fU fV fZ kfk kfl kfr hmU hmV hmZ hks hls hroot hnk hnl hnr sk sl sr
  have aw := Lib.hid (show 0 = 0 from rfl)
  by_cases hok : nl = nk ∧ allN2 (root ++ spokeL ks ls) = true
  · obtain ⟨hlk, hall⟩ := hok
    subst hlk
    have oP := allN2_iff.1 hall
    have hsp := spokeL_len 24 ks ls (fun l hl => (HSL.out l hl).1)
    have hsl := spoke_len ks ls (by rw [HNL.out, HNK.out])
    have hfl := flat_leU ls 24 (fun l hl => (HSL.out l hl).1)
    rw [HNL.out] at hfl
    rw [HNK.out] at hsp hsl
    have hPl : (root ++ spokeL ks ls).length = nr + (spokeL ks ls).length := by rw [List.length_append, HNR.out]
    rw [ofE_ok (by rw [HNL.out, HNK.out]) oP (by omega) (by rw [HNK.out]; omega), HNK.out] at ko
    unfold usL at ko
    simp only at ko
    have hdo := dif_okD (old := []) (now := root ++ spokeL ks ls) (by simpa using oP) (by simp) (by omega)
    have hds := dif_smallU (old := []) (now := root ++ spokeL ks ls) (by simpa using oP) (fun _ hn => by cases hn) (fun x hx => (List.mem_append.1 hx).elim (HSR.out x) fun q => (spokeL_mem ks ls x q).elim (HSK.out x) fun ⟨l, hl, q⟩ => (HSL.out l hl).2 x q) (by simp) (by omega)
    have hsum := dif_sum (old := []) (now := root ++ spokeL ks ls) (by simpa using oP)
    have hpos := len_pos (pos_one (l := root ++ spokeL ks ls))
    have hdle := dif_le (root ++ spokeL ks ls)
    have hokU : okU (nl : Int) (((root ++ spokeL ks ls).length : Int) - nl) (difL [] (root ++ spokeL ks ls)) = true := (show Us.ok (usL (nl : Int) (((root ++ spokeL ks ls).length : Int) - nl) (root ++ spokeL ks ls)) = true from usL_ok oP (by omega) (inU_iff.2 (by omega)) (inU_iff.2 (by omega)))
    have kc := fun A n c w h => ucheck_any (nl : Int) (((root ++ spokeL ks ls).length : Int) - nl) A n c (difL [] (root ++ spokeL ks ls)) w h hds (by omega)
    rw [chkU_yes hokU] at kc
    obtain ⟨FL, hFL⟩ : ∃ n, ls.flatten.length = n := ⟨_, rfl⟩
    rw [hFL] at hsl hfl
    rw [hsl] at hPl hsp
    rw [hPl] at ko kc hsum hdle
    obtain ⟨D, hD⟩ : ∃ D, difL [] (root ++ spokeL ks ls) = D := ⟨_, rfl⟩
    rw [hD] at ko kc hdo hsum hpos hdle
    obtain ⟨nd, hnd⟩ : ∃ n, D.length = n := ⟨_, rfl⟩
    rw [hnd] at hpos hdle
    obtain ⟨ue, hue⟩ : ∃ z, ((nr + (nl + FL) : Nat) : Int) - nl = z := ⟨_, rfl⟩
    rw [hue] at ko kc
    have hue2 : ue = (nr : Int) + (FL : Int) := by rw [← hue]; push_cast; omega
    have hsum2 : sumD D = (nl : Int) + ((nr : Int) + (FL : Int)) := by rw [hsum]; simp; omega
    have HND := Lib.hid hnd; have KO := Lib.hid ko; have KC := Lib.hid (fun A c w h => kc A nd c w h); have HDO := Lib.hid hdo; have HSM := Lib.hid hsum2; have HUE := Lib.hid hue2; have HFL := Lib.hid hFL; have HPOS := Lib.hid hpos
    have hF144 : FL ≤ 144 := by omega
    clear hall oP hsp hsl hPl ko hds hsum hokU kc hD hnd hue hue2 hsum2 hFL hdo hpos
    go_enter Tryz.func8, Tryz.ntmps8
    go_upto_region 2 with (first
        | (go_at_call 12; refine (KFK.out _ SU.out).mono ?_; rintro e w1 ⟨v1, rfl, hrow, hb1⟩; replace SV := Lib.hid (SV.out.below hb1); replace SZ := Lib.hid (SZ.out.below hb1); replace BB := Lib.hid (below_step BB.out hb1); obtain ⟨pSK, cSK, rfl, hd⟩ := ndsO hrow; rw [HNK.out] at hd ⊢; have SK := Lib.hid hd; clear hrow hd hb1 KFK SU)
        | (go_at_call 26; refine (KFL.out _ SV.out).mono ?_; rintro e w1 ⟨v1, rfl, hnl9, hb1⟩; replace SK := Lib.hid (SK.out.below hb1); replace SZ := Lib.hid (SZ.out.below hb1); replace BB := Lib.hid (below_step BB.out hb1); obtain ⟨pSL, cSL, rfl, -⟩ := hnl9.ex; rw [HNL.out] at hnl9 ⊢; have SL := Lib.hid hnl9; clear hnl9 hb1 KFL SV)
        | (go_at_call 12; refine (KFR.out _ SZ.out).mono ?_; rintro e w1 ⟨v1, rfl, hrow, hb1⟩; replace SK := Lib.hid (SK.out.below hb1); replace SL := Lib.hid (SL.out.below hb1); replace BB := Lib.hid (below_step BB.out hb1); obtain ⟨pSR, cSR, rfl, hd⟩ := ndsO hrow; rw [HNR.out] at hd ⊢; have SR := Lib.hid hd; clear hrow hd hb1 KFR SZ))
    go_upto_region 3 with (go_at_call 27; refine (KO.out _ _ _ _ SK.out SL.out SR.out).mono ?_; rintro e w1 ⟨v1, rfl, hrow, hb1⟩; obtain ⟨pU, cU, rfl, hd⟩ := dfsO hrow; rw [HND.out] at hd ⊢; have SU := Lib.hid hd; replace SK := Lib.hid (SK.out.below hb1); replace SL := Lib.hid (SL.out.below hb1); replace SR := Lib.hid (SR.out.below hb1); replace BB := Lib.hid (below_step BB.out hb1); clear hrow hd hb1 KO)
    obtain ⟨WU, gU, hW2, hg2, hr2, hb1⟩ := boxU w1 (.int .i64 (nl : Int)) (.int .i64 ue) (.slice pU nd cU) 24
    rw [hW2, hg2]
    replace SK := Lib.hid (SK.out.below hb1); replace SL := Lib.hid (SL.out.below hb1); replace SR := Lib.hid (SR.out.below hb1); replace SU := Lib.hid (SU.out.below hb1); replace BB := Lib.hid (below_step BB.out hb1)
    obtain ⟨u0, u1, u2, -⟩ := row3 hr2
    clear hW2 hg2 hr2 hb1
    obtain ⟨wl, hwl⟩ : ∃ r, r = WU := ⟨_, rfl⟩
    subst hwl
    go_wp2
    go_loopw [9, 10] (fun s i wr => ∃ (k : Nat) (z : Int), k ≤ nd ∧ i = .int .i64 k ∧ s = .int .i64 z ∧ wl = wr ∧ Hid (sumD (D.take k) = z)) (fun _ i _ => nd - (intOf i).toNat)
    case atStart => exact ⟨0, 0, Nat.zero_le _, rfl, rfl, rfl, Lib.hid rfl⟩
    case round =>
      obtain ⟨k, z, hk, rfl, rfl, rfl, H⟩ := hrel
      by_cases hlt : k < nd
      · have hkl : k < D.length := by rw [HND.out]; exact hlt
        obtain ⟨bb, off, rfl, -, hc0, hc1, hc2⟩ := SU.out.at k hkl
        have hst := sumD_take hkl
        have hbd := sumD_bound (l := D.take k) (M := 1099511627776) (fun e he => inD_iff.1 (okD_in HDO.out e (List.mem_of_mem_take he))) (by decide)
        have hin := inD_iff.1 (okD_in HDO.out _ (df_mem hkl))
        rw [H.out, List.length_take] at hbd
        rw [H.out] at hst
        obtain ⟨y, hy⟩ : ∃ y, (D.getD k zD).2 = y := ⟨_, rfl⟩
        rw [hy] at hc2 hst hin
        have hwr : wrap64 (z + y) = z + y := IntWalk.wrap64_in _ (by omega)
        have hwr2 : IntKind.i64.wrap (z + y) = z + y := IntWalk.i64_in _ (by omega)
        have H5 := Lib.hid hst
        clear hy hst hbd hin hc0 hc1
        have hkb : (k : Int) < (nd : Int) := by omega
        go_wp2
        go_roundw
        case rel => exact ⟨k + 1, z + y, by omega, by go_num, rfl, by first | rfl | trivial, H5⟩
        case measure => simp [intOf]; omega
      · have e9 : k = nd := by omega
        subst e9
        have hz := H.out
        rw [List.take_of_length_le (by rw [HND.out]; exact Nat.le_refl _), HSM.out] at hz
        have HZ := Lib.hid hz
        clear hz H hlt
        go_wp2
        go_loopw [11, 12] (fun v i wr => ∃ (j t : Nat), j ≤ nl ∧ i = .int .i64 j ∧ v = .int .i64 (t : Int) ∧ wl = wr ∧ Hid (t = nr + (ls.take j).flatten.length) ∧ t ≤ 1000) (fun _ i _ => nl - (intOf i).toNat)
        case atStart => exact ⟨0, nr, Nat.zero_le _, rfl, rfl, rfl, Lib.hid (by simp), by omega⟩
        case round =>
          obtain ⟨j, t, hj, rfl, rfl, rfl, HT, ht⟩ := hrel
          by_cases hlt : j < nl
          · have hjl : j < ls.length := by rw [HNL.out]; exact hlt
            obtain ⟨bl, ol, ay, ny, cy, rfl, cy0, hsy⟩ := SL.out.at j hjl
            have hst := flat_takeU ls j hjl
            have hny := hsy.lenU.1
            have hfj := flat_leU (ls.take (j + 1)) 24 (fun l hl => (HSL.out l (List.mem_of_mem_take hl)).1)
            rw [List.length_take] at hfj
            rw [hny] at hst
            have ht2 : t + ny = nr + (ls.take (j + 1)).flatten.length := by rw [hst, HT.out]; omega
            have ht3 : t + ny ≤ 1000 := by omega
            have HT2 := Lib.hid ht2
            clear hst hfj hsy hny ht2
            have hjb : (j : Int) < (nl : Int) := by omega
            go_wp2
            go_roundw
            case rel => exact ⟨j + 1, t + ny, by omega, by go_num, by go_num, by first | rfl | trivial, HT2, ht3⟩
            case measure => simp [intOf]; omega
          · have e8 : j = nl := by omega
            subst e8
            have htt := HT.out
            rw [List.take_of_length_le (by rw [HNL.out]; exact Nat.le_refl _), HFL.out] at htt
            have hue := HUE.out
            obtain rfl : ue = (t : Int) := by rw [hue, htt]; push_cast; rfl
            have hz := HZ.out
            obtain rfl : z = (j : Int) + (t : Int) := by rw [← hz, htt]; push_cast; rfl
            have hpos := HPOS.out
            rw [HSM.out] at hpos
            have hle : (k : Int) ≤ (j : Int) + (t : Int) := by rw [htt]; push_cast; exact hpos
            have dle : decide ((k : Int) ≤ (j : Int) + (t : Int)) = true := decide_eq_true hle
            have KC2 := Lib.hid (fun A c w h => KC.out A c w h)
            clear htt hue hz hpos hlt HT
            go_wp2_with (first
              | (go_at_call 15; refine (KC2.out _ _ _ SU.out).mono ?_; rintro e w9 ⟨rfl, hb1⟩; replace u0 := cell_keep u0 hb1; replace u1 := cell_keep u1 hb1; replace u2 := cell_keep u2 hb1; replace SK := Lib.hid (SK.out.below hb1); replace SL := Lib.hid (SL.out.below hb1); replace SR := Lib.hid (SR.out.below hb1); replace SU := Lib.hid (SU.out.below hb1); replace BB := Lib.hid (below_step BB.out hb1); clear hb1)
              | (go_at_call 20; refine (rawake_any _).mono ?_; rintro e w9 ⟨rfl, hb1⟩; replace u0 := cell_keep u0 hb1; replace u1 := cell_keep u1 hb1; replace u2 := cell_keep u2 hb1; replace SK := Lib.hid (SK.out.below hb1); replace SL := Lib.hid (SL.out.below hb1); replace SR := Lib.hid (SR.out.below hb1); replace SU := Lib.hid (SU.out.below hb1); replace BB := Lib.hid (below_step BB.out hb1); clear hb1))
            go_ret
            exact ⟨rfl, BB.out⟩
  · have hz : (ofE ks ls root).2 ≠ 0 := by
      by_cases h1 : nl = nk
      · have h2 : allN2 (root ++ spokeL ks ls) = false := by
          cases q : allN2 (root ++ spokeL ks ls)
          · rfl
          · exact absurd ⟨h1, q⟩ hok
        rw [ofE_yes (by rw [HNL.out, HNK.out]; exact h1), chgE_no (by rw [h2]; rfl)]
        show (1 : Int) ≠ 0
        decide
      · rw [ofE_no (by rw [HNL.out, HNK.out]; exact h1)]
        show (1 : Int) ≠ 0
        decide
    clear hok
    obtain ⟨RO, hRO⟩ : ∃ r, ofE ks ls root = r := ⟨_, rfl⟩
    rw [hRO] at ko hz
    obtain ⟨⟨um, ue, us⟩, uz⟩ := RO
    simp only at ko hz
    obtain ⟨nu, hnu⟩ : ∃ n, us.length = n := ⟨_, rfl⟩
    have HNU := Lib.hid hnu; have KO := Lib.hid ko
    have d0 : (uz != 0) = true := by simp [hz]
    clear hnu ko hRO hz
    go_enter Tryz.func8, Tryz.ntmps8
    go_upto_region 2 with (first
        | (go_at_call 12; refine (KFK.out _ SU.out).mono ?_; rintro e w1 ⟨v1, rfl, hrow, hb1⟩; replace SV := Lib.hid (SV.out.below hb1); replace SZ := Lib.hid (SZ.out.below hb1); replace BB := Lib.hid (below_step BB.out hb1); obtain ⟨pSK, cSK, rfl, hd⟩ := ndsO hrow; rw [HNK.out] at hd ⊢; have SK := Lib.hid hd; clear hrow hd hb1 KFK SU)
        | (go_at_call 26; refine (KFL.out _ SV.out).mono ?_; rintro e w1 ⟨v1, rfl, hnl9, hb1⟩; replace SK := Lib.hid (SK.out.below hb1); replace SZ := Lib.hid (SZ.out.below hb1); replace BB := Lib.hid (below_step BB.out hb1); obtain ⟨pSL, cSL, rfl, -⟩ := hnl9.ex; rw [HNL.out] at hnl9 ⊢; have SL := Lib.hid hnl9; clear hnl9 hb1 KFL SV)
        | (go_at_call 12; refine (KFR.out _ SZ.out).mono ?_; rintro e w1 ⟨v1, rfl, hrow, hb1⟩; replace SK := Lib.hid (SK.out.below hb1); replace SL := Lib.hid (SL.out.below hb1); replace BB := Lib.hid (below_step BB.out hb1); obtain ⟨pSR, cSR, rfl, hd⟩ := ndsO hrow; rw [HNR.out] at hd ⊢; have SR := Lib.hid hd; clear hrow hd hb1 KFR SZ))
    go_upto_region 3 with (go_at_call 27; refine (KO.out _ _ _ _ SK.out SL.out SR.out).mono ?_; rintro e w1 ⟨v1, rfl, hrow, hb1⟩; obtain ⟨pU, cU, rfl, hd⟩ := dfsO hrow; rw [HNU.out] at hd ⊢; have SU := Lib.hid hd; replace SK := Lib.hid (SK.out.below hb1); replace SL := Lib.hid (SL.out.below hb1); replace SR := Lib.hid (SR.out.below hb1); replace BB := Lib.hid (below_step BB.out hb1); clear hrow hd hb1 KO)
    obtain ⟨WU, gU, hW2, hg2, hr2, hb1⟩ := boxU w1 (.int .i64 um) (.int .i64 ue) (.slice pU nu cU) 24
    rw [hW2, hg2]
    replace SK := Lib.hid (SK.out.below hb1); replace SL := Lib.hid (SL.out.below hb1); replace SR := Lib.hid (SR.out.below hb1); replace SU := Lib.hid (SU.out.below hb1); replace BB := Lib.hid (below_step BB.out hb1)
    obtain ⟨u0, u1, u2, -⟩ := row3 hr2
    clear hW2 hg2 hr2 hb1
    go_wp2_with (go_at_call 20; refine (rawake_any _).mono ?_; rintro e w9 ⟨rfl, hb1⟩; replace u0 := cell_keep u0 hb1; replace u1 := cell_keep u1 hb1; replace u2 := cell_keep u2 hb1; replace SK := Lib.hid (SK.out.below hb1); replace SL := Lib.hid (SL.out.below hb1); replace SR := Lib.hid (SR.out.below hb1); replace SU := Lib.hid (SU.out.below hb1); replace BB := Lib.hid (below_step BB.out hb1); clear hb1)
    go_ret
    exact ⟨rfl, BB.out⟩

theorem own : ownKnob Tryz.prog.godebug = none := by kernel_rfl
theorem laidOut : laidOutB Tryz.prog = true := by kernel_rfl

set_option maxRecDepth 100000 in
theorem lifted (os : Os) (started : os.Started) (H : Type) (enc : TypeId × Value → H) :
    ReturnsInHanded {} Tryz.checked os 8 .any (Rows.roomBoundsSpec.pre6 enc Tryz.prog Tryz.f8 Rows.roomBoundsRow.domain false) (Rows.roomBoundsSpec.post enc Tryz.prog Tryz.f8 false true false false) := by
  refine returnsInHanded_of_change (C := Tryz.checked) own started (by kernel_rfl) Tryz.func8
    (ChangeSpec.witness6 (enc := enc) (C := Tryz.checked) false ⟨#[], #[.slice none 0 0, .slice none 0 0, .slice none 0 0], []⟩ 8 (by kernel_rfl) (by kernel_rfl) (by kernel_rfl) (by kernel_rfl)) ?_
  intro W base args ds gs before hval0 hW hcnd _
  have hval : ∀ (j : Nat) t v, Tryz.f8.params[j]? = some t → args[j]? = some v → Value.okWide Tryz.prog W .any base t v := hval0
  have hW' := hW
  obtain ⟨p, q, hA0, hV, rfl, hfz, hnd⟩ := hW
  have hA : DataW.TrodAll enc Tryz.prog W 0 (fun _ => true) true Tryz.f8.params.toList args.toList ds p := hA0
  rw [Tryz.params8] at hA hval
  obtain ⟨v0, vs0, d0, ds0, p0, q0, hargs, rfl, rfl, h0, r0⟩ := trodAll_cons hA
  obtain ⟨v1, vs1, d1, ds1, p1, q1, rfl, rfl, rfl, h1, r1⟩ := trodAll_cons r0
  obtain ⟨v2, vs2, d2, ds2, p2, q2, rfl, rfl, rfl, h2, r2⟩ := trodAll_cons r1
  obtain ⟨rfl, rfl, rfl⟩ := trodAll_nil r2
  obtain rfl : args = #[v0, v1, v2] := by cases args; simp_all
  obtain ⟨rfl, rfl⟩ := trodVars_none hV
  obtain ⟨a0, len0, cap0, rfl⟩ := okWide_slice Tryz.underlying27 (hval 0 27 v0 rfl rfl)
  have k0 := h0
  have lt0 : ∀ x ∈ p0, x.block < W.heap.size := by obtain ⟨m, hm⟩ := k0; exact DataW.trod_lt m _ _ _ hm
  obtain ⟨z0, w0⟩ : ∃ zs, Nds W (.slice a0 len0 cap0) zs ∧ ∀ n ∈ zs, fitsN n := by
    obtain ⟨fuel, hf⟩ := h0
    exact nds_open (by simpa [Value.cells] using hf)
  obtain ⟨a1, len1, cap1, rfl⟩ := okWide_slice Tryz.underlying49 (hval 1 49 v1 rfl rfl)
  have k1 := h1
  have lt1 : ∀ x ∈ p1, x.block < W.heap.size := by obtain ⟨m, hm⟩ := k1; exact DataW.trod_lt m _ _ _ hm
  obtain ⟨z1, w1⟩ : ∃ zs, NdL W (.slice a1 len1 cap1) zs ∧ ∀ k ∈ zs, ∀ n ∈ k, fitsN n := by
    obtain ⟨fuel, hf⟩ := h1
    exact ndl_open (by simpa [Value.cells] using hf)
  obtain ⟨a2, len2, cap2, rfl⟩ := okWide_slice Tryz.underlying27 (hval 2 27 v2 rfl rfl)
  have k2 := h2
  have lt2 : ∀ x ∈ p2, x.block < W.heap.size := by obtain ⟨m, hm⟩ := k2; exact DataW.trod_lt m _ _ _ hm
  obtain ⟨z2, w2⟩ : ∃ zs, Nds W (.slice a2 len2 cap2) zs ∧ ∀ n ∈ zs, fitsN n := by
    obtain ⟨fuel, hf⟩ := h2
    exact nds_open (by simpa [Value.cells] using hf)
  clear hA0 hval0
  refine (walk _ z0 _ z1 _ z2 W w0 w1 w2).mono fun e W' ⟨he, bel⟩ => ?_
  subst he
  exact ⟨_, rfl, _, _, _, [], _, [], hW', trodAll_mk1 (shut_bool Tryz.underlying4 _), (trodAll_cons_mk (Below.trod laidOut (by kernel_rfl) (of_decide_eq_true (by kernel_rfl)) k0 bel lt0) (trodAll_cons_mk (Below.trod laidOut (by kernel_rfl) (of_decide_eq_true (by kernel_rfl)) k1 bel lt1) (trodAll_cons_mk (Below.trod laidOut (by kernel_rfl) (of_decide_eq_true (by kernel_rfl)) k2 bel lt2) trodAll_mk0))), rfl, bel.frame _, fun h => by cases h⟩

-- the given statement
theorem proved : Rows.RoomBoundsSaid :=
  OpenClaim.holds_of_wide 8 Tryz.f8 rfl rfl rfl rfl rfl rfl rfl ⟨rfl, rfl, rfl, rfl, rfl⟩ rfl rfl rfl rfl rfl (by kernel_rfl) Tryz.func8 (by kernel_rfl)
    (of_decide_eq_true (by kernel_rfl)) (by unfold Func.isWrapper; first | (rw [if_pos (by decide +kernel)]; kernel_rfl) | (rw [if_neg (by decide +kernel)]; exact ⟨rfl, rfl⟩))
    (fun os started H enc _ => lifted os started H enc)
end Go.Proofs.YtglhjdbnpdoinaaGreat.roomBounds
