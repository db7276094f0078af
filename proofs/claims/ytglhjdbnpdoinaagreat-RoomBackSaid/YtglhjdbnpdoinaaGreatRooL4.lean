/- Of every list of keys, every list of lists of nodes and every list of nodes (no more, and no longer, than are looked at): what was taken, and given back, leaves use as it was; in whatever order things come use is the same, and what it is from the beginning; no condition. -/
import Derived.Test.YtglhjdbnpdoinaaGreatRows
import Derived.Test.YtglhjdbnpdoinaaGreatRooP
import Derived.ProofKit
import Derived.OpenShut
import Derived.ShutString
import Derived.ChangeOld
namespace Go.Proofs.YtglhjdbnpdoinaaGreat.roomBack
open Go.ChangeShapes Go.WideShapes Go.ChangeAt Go.RowKit
open Go.ChangeMaps (open_string shut_string)
set_option maxRecDepth 100000
set_option linter.unusedVariables false

theorem spoke_all : ∀ (ks : List Nd) (ls : List (List Nd)), ls.length = ks.length → allN2 (spokeL ks ls) = (allN2 ks && ls.all allN2)
  | [], [], _ => rfl
  | [], _ :: _, h => by simp at h
  | _ :: _, [], h => by simp at h
  | x :: ks, y :: ls, h => by
    have ih := spoke_all ks ls (by simpa using h)
    rw [spokeL, allN2_app, ih]
    unfold allN2
    simp only [List.all_cons]
    cases okN x <;> cases y.all okN <;> cases ks.all okN <;> rfl
theorem spoke_len : ∀ (ks : List Nd) (ls : List (List Nd)), ls.length = ks.length → (spokeL ks ls).length = ks.length + ls.flatten.length
  | [], [], _ => rfl
  | [], _ :: _, h => by simp at h
  | _ :: _, [], h => by simp at h
  | x :: ks, y :: ls, h => by
    have ih := spoke_len ks ls (by simpa using h)
    rw [spokeL, List.length_append, List.length_cons, ih, List.flatten_cons, List.length_append, List.length_cons]
    omega
set_option maxRecDepth 100000 in
set_option maxHeartbeats 6400000 in
theorem walk (U : Value) (K0 : List Nd) (V : Value) (L0 : List (List Nd)) (Z : Value) (R0 : List Nd) (w : World) (hU : Nds w U K0 ∧ ∀ n ∈ K0, fitsN n) (hV : NdL w V L0 ∧ ∀ k ∈ L0, ∀ n ∈ k, fitsN n) (hZ : Nds w Z R0 ∧ ∀ n ∈ R0, fitsN n) :
    Calls Tryz.prog 6 #[U, V, Z] w fun e w' => e = .returned (.bool true) ∧ Below w.heap.size w w' := by
  obtain ⟨hU, fU⟩ := hU
  obtain ⟨hV, fV⟩ := hV
  obtain ⟨hZ, fZ⟩ := hZ
  have kfk := fun w h => nfewo_any U K0 w h fU
  have kfl := fun w h => lists_any V L0 w h fV
  have kfr := fun w h => nfewo_any Z R0 w h fZ
  obtain ⟨pU, cU, rfl, -⟩ := hU.ex
  obtain ⟨pV, cV, rfl, -⟩ := hV.ex
  obtain ⟨pZ, cZ, rfl, -⟩ := hZ.ex
  obtain ⟨mU, hmU⟩ : ∃ n, K0.length = n := ⟨_, rfl⟩
  obtain ⟨mV, hmV⟩ : ∃ n, L0.length = n := ⟨_, rfl⟩
  obtain ⟨mZ, hmZ⟩ : ∃ n, R0.length = n := ⟨_, rfl⟩
  rw [hmU] at hU kfk ⊢
  rw [hmV] at hV kfl ⊢
  rw [hmZ] at hZ kfr ⊢
  have lk := fewNs_len K0
  have sk := fewNs_small K0
  have ll := fewLs_len L0
  have sl := fewLs_each L0
  have lr := fewNs_len R0
  have sr := fewNs_small R0
  obtain ⟨ks, hks⟩ : ∃ l, fewNs K0 = l := ⟨_, rfl⟩
  obtain ⟨ls, hls⟩ : ∃ l, fewLs L0 = l := ⟨_, rfl⟩
  obtain ⟨root, hroot⟩ : ∃ l, fewNs R0 = l := ⟨_, rfl⟩
  rw [hks] at kfk lk sk
  rw [hls] at kfl ll sl
  rw [hroot] at kfr lr sr
  have ko := fun U V Z w h h' h'' => of_any U V Z ks ls root w h h' h'' sk (fun l hl => (sl l hl).2) sr (by omega) (fun l hl => by have := (sl l hl).1; omega) (by omega)
  obtain ⟨nk, hnk⟩ : ∃ n, ks.length = n := ⟨_, rfl⟩
  obtain ⟨nl, hnl⟩ : ∃ n, ls.length = n := ⟨_, rfl⟩
  obtain ⟨nr, hnr⟩ : ∃ n, root.length = n := ⟨_, rfl⟩
  rw [hnk] at lk
  rw [hnl] at ll
  rw [hnr] at lr
  have BB := Lib.hid (Below.refl w.heap.size w)
  have SU := Lib.hid hU; have SV := Lib.hid hV; have SZ := Lib.hid hZ; have KFK := Lib.hid kfk; have KFL := Lib.hid kfl; have KFR := Lib.hid kfr; have HNK := Lib.hid hnk; have HNL := Lib.hid hnl; have HNR := Lib.hid hnr; have HSK := Lib.hid sk; have HSL := Lib.hid sl; have HSR := Lib.hid sr
  clear hU hV hZ fU fV fZ kfk kfl kfr hmU hmV hmZ hks hls hroot hnk hnl hnr sk sl sr
  by_cases hok : nl = nk ∧ allN2 (root ++ spokeL ks ls) = true
  · obtain ⟨hlk, hall⟩ := hok
    subst hlk
    have oP := allN2_iff.1 hall
    have hsp := spokeL_len 24 ks ls (fun l hl => (HSL.out l hl).1)
    have hge := spokeL_ge ks ls (by rw [HNL.out, HNK.out]; exact Nat.le_refl _)
    rw [HNK.out] at hsp hge
    have hPl : (root ++ spokeL ks ls).length = nr + (spokeL ks ls).length := by rw [List.length_append, HNR.out]
    rw [ofE_ok (by rw [HNL.out, HNK.out]) oP (by omega) (by rw [HNK.out]; omega), HNK.out] at ko
    unfold usL at ko
    simp only at ko
    have hsa := spoke_all ks ls (by rw [HNL.out, HNK.out])
    rw [allN2_app, hsa, Bool.and_eq_true, Bool.and_eq_true] at hall
    have HOK := Lib.hid (allN2_iff.1 hall.2.1); have HOL := Lib.hid (fun l hl => allN2_iff.1 (List.all_eq_true.1 hall.2.2 l hl)); have HOR := Lib.hid (allN2_iff.1 hall.1)
    have HMA := Lib.hid (show ∀ j, ∀ x ∈ spokeL (ks.take j) (ls.take j), okN x = true ∧ smallN x from fun j x hx => (spokeL_mem _ _ x hx).elim (fun q => ⟨HOK.out x (List.mem_of_mem_take q), HSK.out x (List.mem_of_mem_take q)⟩) fun ⟨l, hl, q⟩ => ⟨HOL.out l (List.mem_of_mem_take hl) x q, (HSL.out l (List.mem_of_mem_take hl)).2 x q⟩)
    have HMB := Lib.hid (show ∀ j, ∀ x ∈ spokeL (ks.drop j) (ls.drop j), okN x = true ∧ smallN x from fun j x hx => (spokeL_mem _ _ x hx).elim (fun q => ⟨HOK.out x (List.mem_of_mem_drop q), HSK.out x (List.mem_of_mem_drop q)⟩) fun ⟨l, hl, q⟩ => ⟨HOL.out l (List.mem_of_mem_drop hl) x q, (HSL.out l (List.mem_of_mem_drop hl)).2 x q⟩)
    have HLA := Lib.hid (show ∀ j, (spokeL (ks.take j) (ls.take j)).length ≤ 200 from fun j => by
      have h := spokeL_len 24 (ks.take j) (ls.take j) (fun l hl => (HSL.out l (List.mem_of_mem_take hl)).1)
      rw [List.length_take, HNK.out] at h
      omega)
    have HLB := Lib.hid (show ∀ j, (spokeL (ks.drop j) (ls.drop j)).length ≤ 200 from fun j => by
      have h := spokeL_len 24 (ks.drop j) (ls.drop j) (fun l hl => (HSL.out l (List.mem_of_mem_drop hl)).1)
      rw [List.length_drop, HNK.out] at h
      omega)
    have HEA := Lib.hid (show ∀ j, j ≤ nl → j ≤ (spokeL (ks.take j) (ls.take j)).length from fun j hj => by
      have h := spokeL_ge (ks.take j) (ls.take j) (by rw [List.length_take, List.length_take, HNK.out, HNL.out]; exact Nat.le_refl _)
      rw [List.length_take, HNK.out] at h
      omega)
    have HEB := Lib.hid (show ∀ j, j ≤ nl → nl - j ≤ (spokeL (ks.drop j) (ls.drop j)).length from fun j hj => by
      have h := spokeL_ge (ks.drop j) (ls.drop j) (by rw [List.length_drop, List.length_drop, HNK.out, HNL.out]; exact Nat.le_refl _)
      rw [List.length_drop, HNK.out] at h
      omega)
    obtain ⟨LA, hLA⟩ : ∃ L, spokeL ks ls = L := ⟨_, rfl⟩
    rw [hLA] at ko hPl hsp hge oP
    obtain ⟨D, hD⟩ : ∃ D, difL [] (root ++ LA) = D := ⟨_, rfl⟩
    rw [hD, hPl] at ko
    obtain ⟨nd, hnd⟩ : ∃ n, D.length = n := ⟨_, rfl⟩
    obtain ⟨na0, hna0⟩ : ∃ n, LA.length = n := ⟨_, rfl⟩
    rw [hna0] at hPl hsp hge ko
    obtain ⟨ue, hue⟩ : ∃ z, ((nr + na0 : Nat) : Int) - nl = z := ⟨_, rfl⟩
    rw [hue] at ko
    have HND := Lib.hid hnd; have KO := Lib.hid ko; have HD := Lib.hid hD; have HUE := Lib.hid hue; have HLAE := Lib.hid hLA; have HNA0 := Lib.hid hna0; have HOP := Lib.hid oP; have HN200 := Lib.hid (show na0 ≤ 200 ∧ nl ≤ na0 by omega)
    have d0 : ((nl : Int) != (nl : Int)) = false := by simp
    clear hall oP hsp hge hPl ko hsa hD hnd hue hLA hna0
    go_enter Tryz.func6, Tryz.ntmps6
    go_upto_region 2 with (first
        | (go_at_call 12; refine (KFK.out _ SU.out).mono ?_; rintro e w1 ⟨v1, rfl, hrow, hb1⟩; replace SV := Lib.hid (SV.out.below hb1); replace SZ := Lib.hid (SZ.out.below hb1); replace BB := Lib.hid (below_step BB.out hb1); obtain ⟨pSK, cSK, rfl, hd⟩ := ndsO hrow; rw [HNK.out] at hd ⊢; have SK := Lib.hid hd; clear hrow hd hb1 KFK SU)
        | (go_at_call 26; refine (KFL.out _ SV.out).mono ?_; rintro e w1 ⟨v1, rfl, hnl9, hb1⟩; replace SK := Lib.hid (SK.out.below hb1); replace SZ := Lib.hid (SZ.out.below hb1); replace BB := Lib.hid (below_step BB.out hb1); obtain ⟨pSL, cSL, rfl, -⟩ := hnl9.ex; rw [HNL.out] at hnl9 ⊢; have SL := Lib.hid hnl9; clear hnl9 hb1 KFL SV)
        | (go_at_call 12; refine (KFR.out _ SZ.out).mono ?_; rintro e w1 ⟨v1, rfl, hrow, hb1⟩; replace SK := Lib.hid (SK.out.below hb1); replace SL := Lib.hid (SL.out.below hb1); replace BB := Lib.hid (below_step BB.out hb1); obtain ⟨pSR, cSR, rfl, hd⟩ := ndsO hrow; rw [HNR.out] at hd ⊢; have SR := Lib.hid hd; clear hrow hd hb1 KFR SZ))
    go_upto_region 3 with (go_at_call 27; refine (KO.out _ _ _ _ SK.out SL.out SR.out).mono ?_; rintro e w1 ⟨v1, rfl, hrow, hb1⟩; obtain ⟨pX, cX, rfl, hd⟩ := dfsO hrow; rw [HND.out] at hd ⊢; have SX := Lib.hid hd; replace SK := Lib.hid (SK.out.below hb1); replace SL := Lib.hid (SL.out.below hb1); replace SR := Lib.hid (SR.out.below hb1); replace BB := Lib.hid (below_step BB.out hb1); clear hrow hd hb1 KO)
    obtain ⟨WX, gX, hW2, hg2, hr2, hb1⟩ := boxU w1 (.int .i64 (nl : Int)) (.int .i64 ue) (.slice pX nd cX) 24
    rw [hW2, hg2]
    replace SK := Lib.hid (SK.out.below hb1); replace SL := Lib.hid (SL.out.below hb1); replace SR := Lib.hid (SR.out.below hb1); replace SX := Lib.hid (SX.out.below hb1); replace BB := Lib.hid (below_step BB.out hb1)
    obtain ⟨x0, x1, x2, -⟩ := row3 hr2
    clear hW2 hg2 hr2 hb1
    go_upto_region 6 with fail
    obtain ⟨W6, gu, gv, hW6, hgu, hgv, hru, hrv, hb6⟩ := boxU2 WX (.int .i64 0) (.int .i64 0) (.slice none 0 0) (.int .i64 0) (.int .i64 0) (.slice none 0 0) 24 24
    rw [hW6, hgv, hgu]
    have HGU := Lib.hid hgu; have HGV := Lib.hid hgv; have HB6 := Lib.hid hb6
    have HU0 := Lib.hid (show UB W6 gu (gu + 2) 0 0 [] from ⟨none, 0, 0, hru, World.ownsRow_nil _ _ _ _⟩)
    have HV0 := Lib.hid (show UB W6 gv (gu + 2) 0 0 [] from ⟨none, 0, 0, hrv, World.ownsRow_nil _ _ _ _⟩)
    have HVU := Lib.hid (show ¬ gv = gu by omega)
    have HG2 := Lib.hid (show gu + 2 ≤ W6.heap.size by have := (Array.getElem?_eq_some_iff.1 hrv).1; omega)
    clear hW6 hgu hgv hru hrv hb6
    have en1 : ∀ args w, (callFunc 13 args).run Tryz.prog w = .ok (.enter 13 args) w := enters_of Tryz.func13 (by kernel_rfl) rfl
    have en2 : ∀ args w, (callFunc 22 args).run Tryz.prog w = .ok (.enter 22 args) w := enters_of Tryz.func22 (by kernel_rfl) rfl
    have en3 : ∀ args w, (callFunc 14 args).run Tryz.prog w = .ok (.enter 14 args) w := enters_of Tryz.func14 (by kernel_rfl) rfl
    go_wp2
    go_loopw [11] (fun i wr => ∃ k : Nat, k ≤ nl ∧ i = .int .i64 k ∧ Hid (UB wr gu (gu + 2) (k : Int) ((spokeL (ks.take k) (ls.take k)).length - k : Int) (spokeL (ks.take k) (ls.take k))) ∧ Hid (UB wr gv (gu + 2) (k : Int) ((spokeL (ks.drop (nl - k)) (ls.drop (nl - k))).length - k : Int) (spokeL (ks.drop (nl - k)) (ls.drop (nl - k)))) ∧ Hid (Below WX.heap.size WX wr)) (fun i _ => nl - (intOf i).toNat)
    case atStart => exact ⟨0, Nat.zero_le _, rfl, Lib.hid (HU0.out.cast rfl (by simp [spokeL]) (by simp [spokeL])), Lib.hid (HV0.out.cast rfl (by rw [Nat.sub_zero, List.drop_eq_nil_of_le (by rw [HNK.out]; exact Nat.le_refl _)]; simp [spokeL]) (by rw [Nat.sub_zero, List.drop_eq_nil_of_le (by rw [HNK.out]; exact Nat.le_refl _)]; simp [spokeL])), HB6⟩
    case round =>
      obtain ⟨k, hk, rfl, HU, HV, HBW⟩ := hrel
      by_cases hlt : k < nl
      · have hkk : k < ks.length := by rw [HNK.out]; exact hlt
        have hkl : k < ls.length := by rw [HNL.out]; exact hlt
        obtain ⟨jj, hjj⟩ : ∃ j, nl - 1 - k = j := ⟨_, rfl⟩
        have hjn : jj < nl := by omega
        have hjk : jj < ks.length := by rw [HNK.out]; exact hjn
        have hjl : jj < ls.length := by rw [HNL.out]; exact hjn
        obtain ⟨bk, ok, hbk, -, k0, k1⟩ := SK.out.at k hkk
        obtain ⟨bk', ok', hbk', -, j0, j1⟩ := SK.out.at jj hjk
        obtain rfl : pSK = some ⟨bk, ok, none⟩ := hbk
        obtain ⟨e1, e2⟩ : bk = bk' ∧ ok = ok' := by injection hbk' with q; injection q with q1 q2; exact ⟨q1, q2⟩
        subst e1 e2
        obtain ⟨bl, ol, ay, ny, cy, hbl, c0, hsy⟩ := SL.out.at k hkl
        obtain ⟨bl', ol', az, nz, cz, hbl', c1, hsz⟩ := SL.out.at jj hjl
        obtain rfl : pSL = some ⟨bl, ol, none⟩ := hbl
        obtain ⟨e1, e2⟩ : bl = bl' ∧ ol = ol' := by injection hbl' with q; injection q with q1 q2; exact ⟨q1, q2⟩
        subst e1 e2
        have hta := spokeL_take ks ls k hkk hkl
        have htb := spokeL_drop ks ls jj hjk hjl
        rw [show jj + 1 = nl - k by omega] at htb
        have hyo := HOL.out (ls.getD k []) (by rw [List.getD_eq_getElem?_getD, List.getElem?_eq_getElem hkl]; exact List.getElem_mem hkl)
        have hys := HSL.out (ls.getD k []) (by rw [List.getD_eq_getElem?_getD, List.getElem?_eq_getElem hkl]; exact List.getElem_mem hkl)
        have hzo := HOL.out (ls.getD jj []) (by rw [List.getD_eq_getElem?_getD, List.getElem?_eq_getElem hjl]; exact List.getElem_mem hjl)
        have hzs := HSL.out (ls.getD jj []) (by rw [List.getD_eq_getElem?_getD, List.getElem?_eq_getElem hjl]; exact List.getElem_mem hjl)
        have hko := HOK.out _ (nd_mem hkk)
        have hks := HSK.out _ (nd_mem hkk)
        have hjo := HOK.out _ (nd_mem hjk)
        have hjs := HSK.out _ (nd_mem hjk)
        obtain ⟨yl, hyl⟩ : ∃ y, y = ls.getD k [] := ⟨_, rfl⟩
        obtain ⟨zl, hzl⟩ : ∃ y, y = ls.getD jj [] := ⟨_, rfl⟩
        obtain ⟨y, hy⟩ : ∃ y, y = ks.getD k ([], []) := ⟨_, rfl⟩
        obtain ⟨z, hz⟩ : ∃ y, y = ks.getD jj ([], []) := ⟨_, rfl⟩
        rw [← hy] at k0 k1 hta hko hks
        rw [← hz] at j0 j1 htb hjo hjs
        rw [← hyl] at hsy hta hyo hys
        rw [← hzl] at hsz htb hzo hzs
        obtain ⟨y1, y2⟩ := y
        obtain ⟨z1, z2⟩ := z
        simp only at k0 k1 j0 j1
        have hny := hsy.lenU.1
        have hnz := hsz.lenU.1
        have hma := HMA.out k
        have hma2 := HMA.out (k + 1)
        have hmb := HMB.out (nl - k)
        have hmb2 := HMB.out jj
        have hla := HLA.out k
        have hla2 := HLA.out (k + 1)
        have hlb := HLB.out (nl - k)
        have hlb2 := HLB.out jj
        have hea := HEA.out k (by omega)
        have hea2 := HEA.out (k + 1) (by omega)
        have heb := HEB.out (nl - k) (by omega)
        have heb2 := HEB.out jj (by omega)
        obtain ⟨XA, hXA⟩ : ∃ L, spokeL (ks.take k) (ls.take k) = L := ⟨_, rfl⟩
        obtain ⟨XA2, hXA2⟩ : ∃ L, spokeL (ks.take (k + 1)) (ls.take (k + 1)) = L := ⟨_, rfl⟩
        obtain ⟨XB, hXB⟩ : ∃ L, spokeL (ks.drop (nl - k)) (ls.drop (nl - k)) = L := ⟨_, rfl⟩
        obtain ⟨XB2, hXB2⟩ : ∃ L, spokeL (ks.drop jj) (ls.drop jj) = L := ⟨_, rfl⟩
        rw [hXA] at hta hma hla hea HU
        rw [hXA2] at hta hma2 hla2 hea2
        rw [hXB] at htb hmb hlb heb HV
        rw [hXB2] at htb hmb2 hlb2 heb2
        have oy : ∀ n ∈ (y1, y2) :: yl, okN n = true := fun n hn => by
          rcases List.mem_cons.1 hn with rfl | q
          · exact hko
          · exact hyo n q
        have oz : ∀ n ∈ (z1, z2) :: zl, okN n = true := fun n hn => by
          rcases List.mem_cons.1 hn with rfl | q
          · exact hjo
          · exact hzo n q
        have hlA : XA2.length = XA.length + (ny + 1) := by rw [hta, List.length_append, List.length_cons, hny]
        have hlB : XB2.length = (nz + 1) + XB.length := by rw [htb, List.length_append, List.length_cons, hnz]
        have ha := step_more (m := (k : Int)) (e := (XA.length : Int) - k) (k := 1) (e' := (XA2.length : Int) - ((k : Int) + 1)) (now := (y1, y2) :: yl) (fun n hn => (hma n hn).1) oy (fun n hn => (hma2 n hn).1) (by omega) (by rw [List.length_cons, hny]; have := hys.1; omega) (by omega) (by omega) (by omega) (by rw [List.length_cons, hny, hlA]; push_cast; omega) (by omega) (fun n => by rw [hta, cntN_app])
        have hb := step_more (m := (k : Int)) (e := (XB.length : Int) - k) (k := 1) (e' := (XB2.length : Int) - ((k : Int) + 1)) (now := (z1, z2) :: zl) (fun n hn => (hmb n hn).1) oz (fun n hn => (hmb2 n hn).1) (by omega) (by rw [List.length_cons, hnz]; have := hzs.1; omega) (by omega) (by omega) (by omega) (by rw [List.length_cons, hnz, hlB]; push_cast; omega) (by omega) (fun n => by rw [htb, cntN_app]; omega)
        have ka := fun A n c w h h' => take_any (k : Int) ((XA.length : Int) - k) A n c (difL [] XA) y1 y2 (.slice ay ny cy) yl w h h' (dif_smU hma (by omega)) hks hys.2 (dif_lenU (by omega)) (by have := hys.1; omega)
        have kb := fun A n c w h h' => take_any (k : Int) ((XB.length : Int) - k) A n c (difL [] XB) z1 z2 (.slice az nz cz) zl w h h' (dif_smU hmb (by omega)) hjs hzs.2 (dif_lenU (by omega)) (by have := hzs.1; omega)
        rw [ha] at ka
        rw [hb] at kb
        simp only at ka kb
        obtain ⟨DA, hDA⟩ : ∃ D, difL [] XA2 = D := ⟨_, rfl⟩
        obtain ⟨DB, hDB⟩ : ∃ D, difL [] XB2 = D := ⟨_, rfl⟩
        rw [hDA] at ka
        rw [hDB] at kb
        obtain ⟨nA, hnA⟩ : ∃ n, DA.length = n := ⟨_, rfl⟩
        obtain ⟨nB, hnB⟩ : ∃ n, DB.length = n := ⟨_, rfl⟩
        obtain ⟨eA, heA⟩ : ∃ z, (XA2.length : Int) - ((k : Int) + 1) = z := ⟨_, rfl⟩
        obtain ⟨eB, heB⟩ : ∃ z, (XB2.length : Int) - ((k : Int) + 1) = z := ⟨_, rfl⟩
        obtain ⟨eU, heU⟩ : ∃ z, (XA.length : Int) - (k : Int) = z := ⟨_, rfl⟩
        obtain ⟨eV, heV⟩ : ∃ z, (XB.length : Int) - (k : Int) = z := ⟨_, rfl⟩
        obtain ⟨DU, hDU⟩ : ∃ D, difL [] XA = D := ⟨_, rfl⟩
        obtain ⟨DV, hDV⟩ : ∃ D, difL [] XB = D := ⟨_, rfl⟩
        rw [heA, heU, hDU] at ka
        rw [heB, heV, hDV] at kb
        obtain ⟨au, nu, cu, hru, hrowu⟩ := HU.out
        obtain ⟨av, nv, cv, hrv, hrowv⟩ := HV.out
        rw [heU] at hru
        rw [hDU] at hrowu
        rw [heV] at hrv
        rw [hDV] at hrowv
        have RU := Lib.hid hru; have ROWU := Lib.hid hrowu; have RV := Lib.hid hrv; have ROWV := Lib.hid hrowv
        have KA := Lib.hid (fun w h h' => ka au nu cu w h h'); have KB := Lib.hid (fun w h h' => kb av nv cv w h h')
        have HNA := Lib.hid hnA; have HNB := Lib.hid hnB; have HDA := Lib.hid hDA; have HDB := Lib.hid hDB; have HEAE := Lib.hid heA; have HEBE := Lib.hid heB; have HXA2 := Lib.hid hXA2; have HXB2 := Lib.hid hXB2; have HJJ := Lib.hid hjj
        have HLT := Lib.hid hlt; have HJN := Lib.hid hjn
        have HJI := Lib.hid (show (nl : Int) - 1 - (k : Int) = (jj : Int) by omega)
        have SY := Lib.hid (hsy.below HBW.out); have SZ := Lib.hid (hsz.below HBW.out)
        replace k0 := cell_keep k0 HBW.out; replace k1 := cell_keep k1 HBW.out; replace j0 := cell_keep j0 HBW.out; replace j1 := cell_keep j1 HBW.out; replace c0 := cell_keep c0 HBW.out; replace c1 := cell_keep c1 HBW.out
        have HGVL := Lib.hid (show gv < wr.heap.size from (Array.getElem?_eq_some_iff.1 hrv).1)
        have hkb : (k : Int) < (nl : Int) := by omega
        clear hkk hkl hjj hjk hjl hbk' hbl' hta htb hyo hys hzo hzs hko hks hjo hjs hyl hzl hy hz hny hnz hma hma2 hmb hmb2 hla hla2 hlb hlb2 hea hea2 heb heb2 hXA hXA2 hXB hXB2 oy oz hlA hlB ha hb ka kb hDA hDB hnA hnB heA heB heU heV hDU hDV hru hrowu hrv hrowv HU HV hsy hsz hjn
        go_upto_region 10 with fail
        rw [HJI.out]
        refine rol_run (by kernel_rfl) [[], [], [], [1, 2], [1, 2, 3], [], [], [5, 6], [5, 6, 7], [0, 1, 2, 3, 4, 5, 6, 7, 8], [0, 1, 2, 3, 4, 5, 6, 7, 8, 9], [0, 1, 2, 3, 4, 5, 6, 7, 8, 9, 10], [0, 1, 2, 3, 4, 5, 6, 7, 8, 9, 10], [], [0, 1, 2, 3, 4, 5, 6, 7, 8, 9, 10, 11, 13], [0, 1, 2, 3, 4, 5, 6, 7, 8, 9, 10, 11, 12, 13, 14]] (by kernel_rfl) [71, 72, 73, 74, 75, 76, 77, 78, 79, 80, 70, 81, 82, 13, 14] [[], [], [], [1, 2], [3], [], [], [5, 6], [7], [0, 4, 8], [9], [10], [10], [], [11, 13], [12]] [0, 0, 0, 0, 0, 0, 0, 0, 0, 1, 1, 1, 0, 2, 2, 0] [0, 0, 0, 0, 0, 0, 0, 0, 0, 0, 0, 0, 0, 0, 2, 0] [1000, 1000, 1000, 1000, 1000, 1000, 1000, 1000, 1000, 1000, 1000, 1000, 1000, 14, 1000, 1000] [.val 71 (.agg #[.int .i64 (k : Int), .int .i64 eU, .slice au nu cu]), .val 72 (.slice (some ⟨bk, ok, none⟩) nl cSK), .val 73 (.int .i64 (k : Int)), .val 74 (.pointer (some ⟨bk, ok + k * 2, none⟩)), .val 75 (.agg #[.string (mkB y1), .string (mkB y2)]), .val 76 (.slice (some ⟨bl, ol, none⟩) nl cSL), .val 77 (.int .i64 (k : Int)), .val 78 (.pointer (some ⟨bl, ol + k, none⟩)), .val 79 (.slice ay ny cy), .mem 80 (tupU wr.heap.size ((k : Int) + 1) (eA) DA (.int .i64 0)), .mem 70 (tupU wr.heap.size ((k : Int) + 1) (eA) DA (.int .i64 0)), .mem 81 (useG wr.heap.size ((k : Int) + 1) (eA) DA), .val 82 (.int .i64 0), .mem 13 (cell3P wr.heap.size 24 (.int .i64 0) (.int .i64 0) (.slice none 0 0)), .mem2 13 81 (tie3P wr.heap.size 24), .val 14 (.int .i64 0)] (by kernel_rfl) ?_ (wr.heap.size) (wr.heap.size) rfl (Below.refl _ _) rfl (fun _ => 0) ?_ ?_ ?_
        · intro j hj
          have hj3 : j < 16 := hj
          have hj2 : j = 0 ∨ j = 1 ∨ j = 2 ∨ j = 3 ∨ j = 4 ∨ j = 5 ∨ j = 6 ∨ j = 7 ∨ j = 8 ∨ j = 9 ∨ j = 10 ∨ j = 11 ∨ j = 12 ∨ j = 13 ∨ j = 14 ∨ j = 15 := by omega
          clear hj hj3
          rcases hj2 with rfl | rfl | rfl | rfl | rfl | rfl | rfl | rfl | rfl | rfl | rfl | rfl | rfl | rfl | rfl | rfl
          · exact trivial
          · exact trivial
          · exact trivial
          · exact trivial
          · exact trivial
          · exact trivial
          · exact trivial
          · exact trivial
          · exact trivial
          · exact tupU_near
          · exact tupU_near
          · exact useG_near
          · exact trivial
          · exact cell3P_near
          · exact tie3P_near
          · exact trivial
        · intro j hj0 hj
          exact absurd hj (Nat.not_lt.2 hj0)
        · intro i hi a wx who hG hF
          have hz : a.tmps.size = 207 := hG.size
          have hi3 : i < 16 := hi
          have hi2 : i = 0 ∨ i = 1 ∨ i = 2 ∨ i = 3 ∨ i = 4 ∨ i = 5 ∨ i = 6 ∨ i = 7 ∨ i = 8 ∨ i = 9 ∨ i = 10 ∨ i = 11 ∨ i = 12 ∨ i = 13 ∨ i = 14 ∨ i = 15 := by omega
          clear hi hi3
          rcases hi2 with rfl | rfl | rfl | rfl | rfl | rfl | rfl | rfl | rfl | rfl | rfl | rfl | rfl | rfl | rfl | rfl
          · exact rol_val rfl rfl rfl (by rw [hz]; decide) (ex_load rfl (eval_slot ((hG.slots 9 (by decide)).trans rfl)) (ld_use (row_keepB RU.out hG.below))) hG.below
          · exact rol_val rfl rfl rfl (by rw [hz]; decide) (ex_move (Or.inl rfl) (eval_slot ((hG.slots 0 (by decide)).trans rfl))) hG.below
          · exact rol_val rfl rfl rfl (by rw [hz]; decide) (ex_move (Or.inl rfl) (eval_slot ((hG.slots 11 (by decide)).trans rfl))) hG.below
          · exact rol_val rfl rfl rfl (by rw [hz]; decide) (ex_index rfl (eval_slot (hF 1 (by decide))) (eval_slot (hF 2 (by decide))) (idx_nds HLT.out)) hG.below
          · exact rol_val rfl rfl rfl (by rw [hz]; decide) (ex_load rfl (eval_slot (hF 3 (by decide))) (ld_node (cell_keep k0 hG.below) (cell_keep k1 hG.below))) hG.below
          · exact rol_val rfl rfl rfl (by rw [hz]; decide) (ex_move (Or.inl rfl) (eval_slot ((hG.slots 1 (by decide)).trans rfl))) hG.below
          · exact rol_val rfl rfl rfl (by rw [hz]; decide) (ex_move (Or.inl rfl) (eval_slot ((hG.slots 11 (by decide)).trans rfl))) hG.below
          · exact rol_val rfl rfl rfl (by rw [hz]; decide) (ex_index rfl (eval_slot (hF 5 (by decide))) (eval_slot (hF 6 (by decide))) (idx_ndl HLT.out)) hG.below
          · exact rol_val rfl rfl rfl (by rw [hz]; decide) (ex_load rfl (eval_slot (hF 7 (by decide))) (ld_ndsU (cell_keep c0 hG.below))) hG.below
          · refine rol_calls rfl rfl rfl (by rw [hz]; decide) (ex_call rfl (by simp [eval_slot (hF 0 (by decide)), eval_slot (hF 4 (by decide)), eval_slot (hF 8 (by decide))]) en1) (KA.out wx (dfs_rowU (ownsRow_belowB ROWU.out hG.below)) (SY.out.below hG.below)) ?_ hG.below hG.new
            rintro e w1 ⟨u, rfl, hown, hb1⟩
            exact ⟨_, rfl, hb1, .inr (.inl ⟨_, u.ownBlock, rfl, fun b e => hown.lt b e, _, rfl, u, rfl, row_base hown hG.new, rfl⟩)⟩
          · exact rol_move rfl rfl rfl (by rw [hz]; decide) (Or.inl rfl) (hF 9 (by decide)) hG.below
          · exact rol_read rfl rfl rfl (by rw [hz]; decide) (hF 10 (by decide)) (fun v ob hv hp => by
              obtain ⟨u, rfl, hu⟩ := hp
              exact ⟨u, ex_extract rfl (eval_slot hv) rfl, hu⟩) hG.below
          · obtain ⟨v', ob, hv, hob, u, rfl, hu⟩ := hF 10 (by decide)
            exact rol_val rfl rfl rfl (by rw [hz]; decide) (ex_extract rfl (eval_slot hv) rfl) hG.below
          · exact rol_alloc_use rfl rfl rfl (by rw [hz]; decide) rfl hG.below (Nat.le_refl _) hG.new
          · exact rol_fill_use rfl rfl rfl rfl (hF 13 (by decide)) (hF 11 (by decide)) hG.below (Nat.le_refl _)
          · exact rol_val rfl rfl rfl (by rw [hz]; decide) (ex_move (Or.inr rfl) (eval_slot (hF 12 (by decide)))) hG.below
        · intro a wx who hG hF
          obtain ⟨v81, ob81, fv81, fo81, fp81⟩ := hF 11 (of_decide_eq_true (by kernel_rfl)) (of_decide_eq_true (by kernel_rfl))
          replace fv81 : a.tmps.getD 81 undef = v81 := eval_slot (s := 81) fv81
          have fv14 : a.tmps.getD 14 undef = .int .i64 0 := eval_slot (s := 14) (hF 15 (of_decide_eq_true (by kernel_rfl)) (of_decide_eq_true (by kernel_rfl)))
          have htie := hF 14 (of_decide_eq_true (by kernel_rfl)) (of_decide_eq_true (by kernel_rfl))
          obtain ⟨p3, u3, ob3, hp3, hu3, -, gA, x3, y3, z3, rfl, -, rfl, hgx, hrow3⟩ := htie
          have q3 : v81 = .agg #[x3, y3, z3] := fv81.symm.trans (eval_slot hu3)
          have fv13 : a.tmps.getD 13 undef = .pointer (some ⟨gA, 0, none⟩) := eval_slot (s := 13) hp3
          clear hp3 hu3 ob3
          have hbx := hG.below
          have hnx := hG.new
          rw [hG.frame]
          simp only [List.foldl_cons, List.foldl_nil, List.setIfInBounds_toArray, List.set_cons_zero, List.set_cons_succ]
          generalize a.tmps.getD 71 undef = u71
          generalize a.tmps.getD 72 undef = u72
          generalize a.tmps.getD 73 undef = u73
          generalize a.tmps.getD 74 undef = u74
          generalize a.tmps.getD 75 undef = u75
          generalize a.tmps.getD 76 undef = u76
          generalize a.tmps.getD 77 undef = u77
          generalize a.tmps.getD 78 undef = u78
          generalize a.tmps.getD 79 undef = u79
          generalize a.tmps.getD 80 undef = u80
          generalize a.tmps.getD 70 undef = u70
          rw [fv81]
          generalize a.tmps.getD 82 undef = u82
          rw [fv13]
          rw [fv14]
          clear hF hG fv81 fv14 fv13
          obtain ⟨x9, hx9, hrow, -⟩ := fp81
          obtain ⟨pA, cA, rfl, -⟩ := dfsO hrow
          rw [q3] at hx9 ⊢
          injection hx9 with hx9
          injection hx9 with hx9
          injection hx9 with q1 hx9
          injection hx9 with q2 hx9
          injection hx9 with q4 _
          subst q1 q2 q4 q3
          rw [HNA.out] at hrow3 hrow ⊢
          have RA := Lib.hid hrow3; have ROWA := Lib.hid hrow; have HGA := Lib.hid hgx
          replace RU := Lib.hid (row_keepB RU.out hbx)
          replace RV := Lib.hid (row_keepB RV.out hbx)
          replace ROWU := Lib.hid (ownsRow_belowB ROWU.out hbx)
          replace ROWV := Lib.hid (ownsRow_belowB ROWV.out hbx)
          replace j0 := cell_keep j0 hbx
          replace j1 := cell_keep j1 hbx
          replace c1 := cell_keep c1 hbx
          replace SZ := Lib.hid (SZ.out.below hbx)
          replace HBW := Lib.hid (below_step HBW.out hbx)
          have HWA := Lib.hid hbx.size
          clear hbx hnx hgx hrow hrow3 fo81 k0 k1 c0
          obtain ⟨wa, hwa⟩ : ∃ r, r = wx := ⟨_, rfl⟩
          subst hwa
          go_upto_region 11 with fail
          refine rol_run (by kernel_rfl) [[], [], [], [1, 2], [1, 2, 3], [], [], [5, 6], [5, 6, 7], [0, 1, 2, 3, 4, 5, 6, 7, 8], [0, 1, 2, 3, 4, 5, 6, 7, 8, 9], [0, 1, 2, 3, 4, 5, 6, 7, 8, 9, 10], [0, 1, 2, 3, 4, 5, 6, 7, 8, 9, 10], [], [0, 1, 2, 3, 4, 5, 6, 7, 8, 9, 10, 11, 13], [0, 1, 2, 3, 4, 5, 6, 7, 8, 9, 10, 11, 12, 13, 14]] (by kernel_rfl) [84, 85, 86, 87, 88, 89, 90, 91, 92, 93, 83, 94, 95, 15, 16] [[], [], [], [1, 2], [3], [], [], [5, 6], [7], [0, 4, 8], [9], [10], [10], [], [11, 13], [12]] [0, 0, 0, 0, 0, 0, 0, 0, 0, 1, 1, 1, 0, 2, 2, 0] [0, 0, 0, 0, 0, 0, 0, 0, 0, 0, 0, 0, 0, 0, 2, 0] [1000, 1000, 1000, 1000, 1000, 1000, 1000, 1000, 1000, 1000, 1000, 1000, 1000, 14, 1000, 1000] [.val 84 (.agg #[.int .i64 (k : Int), .int .i64 eV, .slice av nv cv]), .val 85 (.slice (some ⟨bk, ok, none⟩) nl cSK), .val 86 (.int .i64 (jj : Int)), .val 87 (.pointer (some ⟨bk, ok + jj * 2, none⟩)), .val 88 (.agg #[.string (mkB z1), .string (mkB z2)]), .val 89 (.slice (some ⟨bl, ol, none⟩) nl cSL), .val 90 (.int .i64 (jj : Int)), .val 91 (.pointer (some ⟨bl, ol + jj, none⟩)), .val 92 (.slice az nz cz), .mem 93 (tupU wa.heap.size ((k : Int) + 1) (eB) DB (.int .i64 0)), .mem 83 (tupU wa.heap.size ((k : Int) + 1) (eB) DB (.int .i64 0)), .mem 94 (useG wa.heap.size ((k : Int) + 1) (eB) DB), .val 95 (.int .i64 0), .mem 15 (cell3P wa.heap.size 24 (.int .i64 0) (.int .i64 0) (.slice none 0 0)), .mem2 15 94 (tie3P wa.heap.size 24), .val 16 (.int .i64 0)] (by kernel_rfl) ?_ (wa.heap.size) (wa.heap.size) rfl (Below.refl _ _) rfl (fun _ => 0) ?_ ?_ ?_
          · intro j hj
            have hj3 : j < 16 := hj
            have hj2 : j = 0 ∨ j = 1 ∨ j = 2 ∨ j = 3 ∨ j = 4 ∨ j = 5 ∨ j = 6 ∨ j = 7 ∨ j = 8 ∨ j = 9 ∨ j = 10 ∨ j = 11 ∨ j = 12 ∨ j = 13 ∨ j = 14 ∨ j = 15 := by omega
            clear hj hj3
            rcases hj2 with rfl | rfl | rfl | rfl | rfl | rfl | rfl | rfl | rfl | rfl | rfl | rfl | rfl | rfl | rfl | rfl
            · exact trivial
            · exact trivial
            · exact trivial
            · exact trivial
            · exact trivial
            · exact trivial
            · exact trivial
            · exact trivial
            · exact trivial
            · exact tupU_near
            · exact tupU_near
            · exact useG_near
            · exact trivial
            · exact cell3P_near
            · exact tie3P_near
            · exact trivial
          · intro j hj0 hj
            exact absurd hj (Nat.not_lt.2 hj0)
          · intro i hi a wx who hG hF
            have hz : a.tmps.size = 207 := hG.size
            have hi3 : i < 16 := hi
            have hi2 : i = 0 ∨ i = 1 ∨ i = 2 ∨ i = 3 ∨ i = 4 ∨ i = 5 ∨ i = 6 ∨ i = 7 ∨ i = 8 ∨ i = 9 ∨ i = 10 ∨ i = 11 ∨ i = 12 ∨ i = 13 ∨ i = 14 ∨ i = 15 := by omega
            clear hi hi3
            rcases hi2 with rfl | rfl | rfl | rfl | rfl | rfl | rfl | rfl | rfl | rfl | rfl | rfl | rfl | rfl | rfl | rfl
            · exact rol_val rfl rfl rfl (by rw [hz]; decide) (ex_load rfl (eval_slot ((hG.slots 10 (by decide)).trans rfl)) (ld_use (row_keepB RV.out hG.below))) hG.below
            · exact rol_val rfl rfl rfl (by rw [hz]; decide) (ex_move (Or.inl rfl) (eval_slot ((hG.slots 0 (by decide)).trans rfl))) hG.below
            · exact rol_val rfl rfl rfl (by rw [hz]; decide) (ex_move (Or.inl rfl) (eval_slot ((hG.slots 12 (by decide)).trans rfl))) hG.below
            · exact rol_val rfl rfl rfl (by rw [hz]; decide) (ex_index rfl (eval_slot (hF 1 (by decide))) (eval_slot (hF 2 (by decide))) (idx_nds HJN.out)) hG.below
            · exact rol_val rfl rfl rfl (by rw [hz]; decide) (ex_load rfl (eval_slot (hF 3 (by decide))) (ld_node (cell_keep j0 hG.below) (cell_keep j1 hG.below))) hG.below
            · exact rol_val rfl rfl rfl (by rw [hz]; decide) (ex_move (Or.inl rfl) (eval_slot ((hG.slots 1 (by decide)).trans rfl))) hG.below
            · exact rol_val rfl rfl rfl (by rw [hz]; decide) (ex_move (Or.inl rfl) (eval_slot ((hG.slots 12 (by decide)).trans rfl))) hG.below
            · exact rol_val rfl rfl rfl (by rw [hz]; decide) (ex_index rfl (eval_slot (hF 5 (by decide))) (eval_slot (hF 6 (by decide))) (idx_ndl HJN.out)) hG.below
            · exact rol_val rfl rfl rfl (by rw [hz]; decide) (ex_load rfl (eval_slot (hF 7 (by decide))) (ld_ndsU (cell_keep c1 hG.below))) hG.below
            · refine rol_calls rfl rfl rfl (by rw [hz]; decide) (ex_call rfl (by simp [eval_slot (hF 0 (by decide)), eval_slot (hF 4 (by decide)), eval_slot (hF 8 (by decide))]) en1) (KB.out wx (dfs_rowU (ownsRow_belowB ROWV.out hG.below)) (SZ.out.below hG.below)) ?_ hG.below hG.new
              rintro e w1 ⟨u, rfl, hown, hb1⟩
              exact ⟨_, rfl, hb1, .inr (.inl ⟨_, u.ownBlock, rfl, fun b e => hown.lt b e, _, rfl, u, rfl, row_base hown hG.new, rfl⟩)⟩
            · exact rol_move rfl rfl rfl (by rw [hz]; decide) (Or.inl rfl) (hF 9 (by decide)) hG.below
            · exact rol_read rfl rfl rfl (by rw [hz]; decide) (hF 10 (by decide)) (fun v ob hv hp => by
                obtain ⟨u, rfl, hu⟩ := hp
                exact ⟨u, ex_extract rfl (eval_slot hv) rfl, hu⟩) hG.below
            · obtain ⟨v', ob, hv, hob, u, rfl, hu⟩ := hF 10 (by decide)
              exact rol_val rfl rfl rfl (by rw [hz]; decide) (ex_extract rfl (eval_slot hv) rfl) hG.below
            · exact rol_alloc_use rfl rfl rfl (by rw [hz]; decide) rfl hG.below (Nat.le_refl _) hG.new
            · exact rol_fill_use rfl rfl rfl rfl (hF 13 (by decide)) (hF 11 (by decide)) hG.below (Nat.le_refl _)
            · exact rol_val rfl rfl rfl (by rw [hz]; decide) (ex_move (Or.inr rfl) (eval_slot (hF 12 (by decide)))) hG.below
          · intro a wx who hG hF
            obtain ⟨v94, ob94, fv94, fo94, fp94⟩ := hF 11 (of_decide_eq_true (by kernel_rfl)) (of_decide_eq_true (by kernel_rfl))
            replace fv94 : a.tmps.getD 94 undef = v94 := eval_slot (s := 94) fv94
            have fv16 : a.tmps.getD 16 undef = .int .i64 0 := eval_slot (s := 16) (hF 15 (of_decide_eq_true (by kernel_rfl)) (of_decide_eq_true (by kernel_rfl)))
            have htie := hF 14 (of_decide_eq_true (by kernel_rfl)) (of_decide_eq_true (by kernel_rfl))
            obtain ⟨p3, u3, ob3, hp3, hu3, -, gB, x3, y3, z3, rfl, -, rfl, hgx, hrow3⟩ := htie
            have q3 : v94 = .agg #[x3, y3, z3] := fv94.symm.trans (eval_slot hu3)
            have fv15 : a.tmps.getD 15 undef = .pointer (some ⟨gB, 0, none⟩) := eval_slot (s := 15) hp3
            clear hp3 hu3 ob3
            have hbx := hG.below
            have hnx := hG.new
            rw [hG.frame]
            simp only [List.foldl_cons, List.foldl_nil, List.setIfInBounds_toArray, List.set_cons_zero, List.set_cons_succ]
            generalize a.tmps.getD 84 undef = u84
            generalize a.tmps.getD 85 undef = u85
            generalize a.tmps.getD 86 undef = u86
            generalize a.tmps.getD 87 undef = u87
            generalize a.tmps.getD 88 undef = u88
            generalize a.tmps.getD 89 undef = u89
            generalize a.tmps.getD 90 undef = u90
            generalize a.tmps.getD 91 undef = u91
            generalize a.tmps.getD 92 undef = u92
            generalize a.tmps.getD 93 undef = u93
            generalize a.tmps.getD 83 undef = u83
            rw [fv94]
            generalize a.tmps.getD 95 undef = u95
            rw [fv15]
            rw [fv16]
            clear hF hG fv94 fv16 fv15
            obtain ⟨x9, hx9, hrow, -⟩ := fp94
            obtain ⟨pB, cB, rfl, -⟩ := dfsO hrow
            rw [q3] at hx9 ⊢
            injection hx9 with hx9
            injection hx9 with hx9
            injection hx9 with q1 hx9
            injection hx9 with q2 hx9
            injection hx9 with q4 _
            subst q1 q2 q4 q3
            rw [HNB.out] at hrow3 hrow ⊢
            have RB := Lib.hid hrow3; have ROWB := Lib.hid hrow; have HGB := Lib.hid hgx
            have RALT := Lib.hid (show gA < wa.heap.size from (Array.getElem?_eq_some_iff.1 RA.out).1)
            replace RU := Lib.hid (row_keepB RU.out hbx)
            replace RV := Lib.hid (row_keepB RV.out hbx)
            replace RA := Lib.hid (row_keepB RA.out hbx)
            replace ROWU := Lib.hid (ownsRow_belowB ROWU.out hbx)
            replace ROWV := Lib.hid (ownsRow_belowB ROWV.out hbx)
            replace ROWA := Lib.hid (ownsRow_belowB ROWA.out hbx)
            replace HBW := Lib.hid (below_step HBW.out hbx)
            have HAU := Lib.hid (show ¬ gA = gu by have := HGA.out; have := HGVL.out; have := HGV.out; have := HGU.out; omega); have HAV := Lib.hid (show ¬ gA = gv by have := HGA.out; have := HGVL.out; omega)
            have HBU := Lib.hid (show ¬ gB = gu by have := HGB.out; have := HWA.out; have := HGVL.out; have := HGV.out; have := HGU.out; omega); have HBV := Lib.hid (show ¬ gB = gv by have := HGB.out; have := HWA.out; have := HGVL.out; omega)
            have HBA := Lib.hid (show ¬ gB = gA from fun q => by have h1 := HGB.out; have h2 := RALT.out; omega)
            clear hbx hnx hgx hrow hrow3 fo94 j0 j1 c1
            obtain ⟨wb, hwb⟩ : ∃ r, r = wx := ⟨_, rfl⟩
            subst hwb
            go_upto_region 14 with fail
            refine rol_run (by kernel_rfl) [[], [], [0], [0, 1, 2]] (by kernel_rfl) [102, 103] [[6], [7], [0, 4], [1, 5]] [0, 0, 2, 6, 2, 6, 3, 4, 5, 5] [0, 0, 2, 6] [1000, 1000, 1000, 1000, 2, 3, 1000, 1000, 1000, 1000] [.val 102 (.agg #[.int .i64 ((k : Int) + 1), .int .i64 eA, .slice pA nA cA]), .val 103 (.agg #[.int .i64 ((k : Int) + 1), .int .i64 eB, .slice pB nB cB]), .box (gu) (.cells #[.int .i64 ((k : Int) + 1), .int .i64 eA, .slice pA nA cA] 24), .box (gv) (.cells #[.int .i64 ((k : Int) + 1), .int .i64 eB, .slice pB nB cB] 24), .box (gu) (.cells #[.int .i64 (k : Int), .int .i64 eU, .slice au nu cu] 24), .box (gv) (.cells #[.int .i64 (k : Int), .int .i64 eV, .slice av nv cv] 24), .box (gA) (.cells #[.int .i64 ((k : Int) + 1), .int .i64 eA, .slice pA nA cA] 24), .box (gB) (.cells #[.int .i64 ((k : Int) + 1), .int .i64 eB, .slice pB nB cB] 24), .mem 13 (rowX (.slice pA nA cA) wr.heap.size 56 3 nA (dfC DA)), .mem 15 (rowX (.slice pB nB cB) wa.heap.size 56 3 nB (dfC DB))] (by kernel_rfl) ?_ (WX.heap.size) (wb.heap.size) rfl HBW.out rfl (fun k => if k = gu then 2 else if k = gv then 6 else if k = gA then 3 else if k = gB then 4 else 5) ?_ ?_ ?_
            · intro j hj
              have hj3 : j < 10 := hj
              have hj2 : j = 0 ∨ j = 1 ∨ j = 2 ∨ j = 3 ∨ j = 4 ∨ j = 5 ∨ j = 6 ∨ j = 7 ∨ j = 8 ∨ j = 9 := by omega
              clear hj hj3
              rcases hj2 with rfl | rfl | rfl | rfl | rfl | rfl | rfl | rfl | rfl | rfl
              · exact trivial
              · exact trivial
              · exact trivial
              · exact trivial
              · exact trivial
              · exact trivial
              · exact trivial
              · exact trivial
              · exact rowX_near
              · exact rowX_near
            · intro j hj0 hj
              have hj1 : 4 ≤ j := hj0
              have hj3 : j < 10 := hj
              have hj2 : j = 4 ∨ j = 5 ∨ j = 6 ∨ j = 7 ∨ j = 8 ∨ j = 9 := by omega
              clear hj0 hj hj1 hj3
              rcases hj2 with rfl | rfl | rfl | rfl | rfl | rfl
              · exact ⟨RU.out, if_pos rfl⟩
              · exact ⟨RV.out, (if_neg HVU.out).trans (if_pos rfl)⟩
              · exact ⟨RA.out, (if_neg HAU.out).trans ((if_neg HAV.out).trans (if_pos rfl))⟩
              · exact ⟨RB.out, (if_neg HBU.out).trans ((if_neg HBV.out).trans ((if_neg HBA.out).trans (if_pos rfl)))⟩
              · exact ⟨_, _, rfl, fun b e => ⟨(own_lt ROWA.out e).2, (if_neg (fun q => own_nebox ROWA.out RU.out (by decide) (by rw [← q]; exact e))).trans ((if_neg (fun q => own_nebox ROWA.out RV.out (by decide) (by rw [← q]; exact e))).trans ((if_neg (fun q => own_nebox ROWA.out RA.out (by decide) (by rw [← q]; exact e))).trans (if_neg (fun q => own_nebox ROWA.out RB.out (by decide) (by rw [← q]; exact e)))))⟩, ROWA.out, rfl⟩
              · exact ⟨_, _, rfl, fun b e => ⟨(own_lt ROWB.out e).2, (if_neg (fun q => own_nebox ROWB.out RU.out (by decide) (by rw [← q]; exact e))).trans ((if_neg (fun q => own_nebox ROWB.out RV.out (by decide) (by rw [← q]; exact e))).trans ((if_neg (fun q => own_nebox ROWB.out RA.out (by decide) (by rw [← q]; exact e))).trans (if_neg (fun q => own_nebox ROWB.out RB.out (by decide) (by rw [← q]; exact e)))))⟩, ROWB.out, rfl⟩
            · intro i hi a wx who hG hF
              have hz : a.tmps.size = 207 := hG.size
              have hi3 : i < 4 := hi
              have hi2 : i = 0 ∨ i = 1 ∨ i = 2 ∨ i = 3 := by omega
              clear hi hi3
              rcases hi2 with rfl | rfl | rfl | rfl
              · exact rol_val rfl rfl rfl (by rw [hz]; decide) (ex_load rfl (eval_slot ((hG.slots 13 (by decide)).trans rfl)) (ld_use (hF 6 (by decide)).1)) hG.below
              · exact rol_val rfl rfl rfl (by rw [hz]; decide) (ex_load rfl (eval_slot ((hG.slots 15 (by decide)).trans rfl)) (ld_use (hF 7 (by decide)).1)) hG.below
              · exact rol_boxV rfl rfl rfl rfl (eval_slot ((hG.slots 9 (by decide)).trans rfl)) (eval_slot (hF 0 (by decide))) (hF 4 (by decide)) hG.below (Nat.le_of_eq HGU.out)
              · exact rol_boxV rfl rfl rfl rfl (eval_slot ((hG.slots 10 (by decide)).trans rfl)) (eval_slot (hF 1 (by decide))) (hF 5 (by decide)) hG.below (by have := HGV.out; omega)
            · intro a wx who hG hF
              have hbu := hF 2 (of_decide_eq_true (by kernel_rfl)) (of_decide_eq_true (by kernel_rfl))
              have hbv := hF 3 (of_decide_eq_true (by kernel_rfl)) (of_decide_eq_true (by kernel_rfl))
              have hsa := hF 8 (of_decide_eq_true (by kernel_rfl)) (of_decide_eq_true (by kernel_rfl))
              have hsb := hF 9 (of_decide_eq_true (by kernel_rfl)) (of_decide_eq_true (by kernel_rfl))
              have hbx := hG.below
              have hnx := hG.new
              rw [hG.frame]
              simp only [List.foldl_cons, List.foldl_nil, List.setIfInBounds_toArray, List.set_cons_zero, List.set_cons_succ]
              generalize a.tmps.getD 102 undef = u102
              generalize a.tmps.getD 103 undef = u103
              clear hF hG
              obtain ⟨_, _, -, -, hra9, -⟩ := hsa
              obtain ⟨_, _, -, -, hrb9, -⟩ := hsb
              have HRA9 := Lib.hid hra9; have HRB9 := Lib.hid hrb9; have HBU9 := Lib.hid hbu.1; have HBV9 := Lib.hid hbv.1; have HBN := Lib.hid hbx
              clear hra9 hrb9 hbu hbv hbx hnx
              go_wp2
              go_roundw
              case rel => exact ⟨k + 1, by omega, by go_num, Lib.hid ((show UB _ gu (gu + 2) ((k : Int) + 1) eA XA2 from ⟨pA, nA, cA, HBU9.out, by rw [HDA.out]; exact row_base HRA9.out (by have := HGVL.out; have := HGV.out; have := HGU.out; omega)⟩).cast (by push_cast; rfl) (by rw [HXA2.out, ← HEAE.out]; push_cast; rfl) (by rw [HXA2.out])), Lib.hid ((show UB _ gv (gu + 2) ((k : Int) + 1) eB XB2 from ⟨pB, nB, cB, HBV9.out, by rw [HDB.out]; exact row_base HRB9.out (by have := HGVL.out; have := HGV.out; have := HGU.out; have := HWA.out; omega)⟩).cast (by push_cast; rfl) (by rw [show nl - (k + 1) = jj by have := HJJ.out; omega, HXB2.out, ← HEBE.out]; push_cast; rfl) (by rw [show nl - (k + 1) = jj by have := HJJ.out; omega, HXB2.out])), HBN⟩
              case measure => simp [intOf]; omega
      · have e9 : k = nl := by omega
        subst e9
        have HU1 := Lib.hid (HU.out.cast (m' := (k : Int)) (e' := (na0 : Int) - k) (X' := LA ++ root.take 0) rfl (by rw [List.take_of_length_le (by rw [HNK.out]; exact Nat.le_refl _), List.take_of_length_le (by rw [HNL.out]; exact Nat.le_refl _), HLAE.out, HNA0.out]) (by rw [List.take_of_length_le (by rw [HNK.out]; exact Nat.le_refl _), List.take_of_length_le (by rw [HNL.out]; exact Nat.le_refl _), HLAE.out]; simp))
        have HV1 := Lib.hid (HV.out.cast (m' := (k : Int)) (e' := (na0 : Int) - k) (X' := LA ++ root.drop nr) rfl (by rw [Nat.sub_self, List.drop_zero, List.drop_zero, HLAE.out, HNA0.out]) (by rw [Nat.sub_self, List.drop_zero, List.drop_zero, HLAE.out, List.drop_eq_nil_of_le (by rw [HNR.out]; exact Nat.le_refl _)]; simp))
        have HBW1 := HBW
        have hmLA := HMA.out k
        rw [List.take_of_length_le (by rw [HNK.out]; exact Nat.le_refl _), List.take_of_length_le (by rw [HNL.out]; exact Nat.le_refl _), HLAE.out] at hmLA
        have HML := Lib.hid hmLA
        have HGV0 := Lib.hid (show gv < wr.heap.size by obtain ⟨_, _, _, h9, _⟩ := HV.out; exact (Array.getElem?_eq_some_iff.1 h9).1)
        clear HU HV HBW hmLA hlt
        go_wp2
        go_loopw [17] (fun i wr => ∃ j : Nat, j ≤ nr ∧ i = .int .i64 j ∧ Hid (UB wr gu (gu + 2) (k : Int) ((na0 : Int) - k + j) (LA ++ root.take j)) ∧ Hid (UB wr gv (gu + 2) (k : Int) ((na0 : Int) - k + j) (LA ++ root.drop (nr - j))) ∧ Hid (Below WX.heap.size WX wr)) (fun i _ => nr - (intOf i).toNat)
        case atStart => exact ⟨0, Nat.zero_le _, rfl, Lib.hid (HU1.out.cast rfl (by simp) rfl), Lib.hid (HV1.out.cast rfl (by simp) rfl), HBW1⟩
        case round =>
          obtain ⟨j, hj, rfl, HU, HV, HBW⟩ := hrel
          by_cases hlt : j < nr
          · have hjr : j < root.length := by rw [HNR.out]; exact hlt
            obtain ⟨jj, hjj⟩ : ∃ i, nr - 1 - j = i := ⟨_, rfl⟩
            have hjn : jj < nr := by omega
            have hjk : jj < root.length := by rw [HNR.out]; exact hjn
            obtain ⟨bk, ok, hbk, -, k0, k1⟩ := SR.out.at j hjr
            obtain ⟨bk', ok', hbk', -, j0, j1⟩ := SR.out.at jj hjk
            obtain rfl : pSR = some ⟨bk, ok, none⟩ := hbk
            obtain ⟨e1, e2⟩ : bk = bk' ∧ ok = ok' := by injection hbk' with q; injection q with q1 q2; exact ⟨q1, q2⟩
            subst e1 e2
            have hta : root.take (j + 1) = root.take j ++ [root.getD j ([], [])] := by rw [List.take_succ_eq_append_getElem hjr, nd_getD hjr]
            have htb : root.drop jj = root.getD jj ([], []) :: root.drop (nr - j) := by rw [List.drop_eq_getElem_cons hjk, nd_getD hjk, show jj + 1 = nr - j by omega]
            have hko := HOR.out _ (nd_mem hjr)
            have hks := HSR.out _ (nd_mem hjr)
            have hjo := HOR.out _ (nd_mem hjk)
            have hjs := HSR.out _ (nd_mem hjk)
            obtain ⟨y, hy⟩ : ∃ y, y = root.getD j ([], []) := ⟨_, rfl⟩
            obtain ⟨z, hz⟩ : ∃ y, y = root.getD jj ([], []) := ⟨_, rfl⟩
            rw [← hy] at k0 k1 hta hko hks
            rw [← hz] at j0 j1 htb hjo hjs
            obtain ⟨y1, y2⟩ := y
            obtain ⟨z1, z2⟩ := z
            simp only at k0 k1 j0 j1
            have hml := HML.out
            have hmt : ∀ i, ∀ x ∈ LA ++ root.take i, okN x = true ∧ smallN x := fun i x hx => (List.mem_append.1 hx).elim (hml x) fun q => ⟨HOR.out x (List.mem_of_mem_take q), HSR.out x (List.mem_of_mem_take q)⟩
            have hmd : ∀ i, ∀ x ∈ LA ++ root.drop i, okN x = true ∧ smallN x := fun i x hx => (List.mem_append.1 hx).elim (hml x) fun q => ⟨HOR.out x (List.mem_of_mem_drop q), HSR.out x (List.mem_of_mem_drop q)⟩
            have hlt2 : ∀ i, (LA ++ root.take i).length ≤ 300 := fun i => by rw [List.length_append, List.length_take, HNA0.out, HNR.out]; have := HN200.out; omega
            have hld2 : ∀ i, (LA ++ root.drop i).length ≤ 300 := fun i => by rw [List.length_append, List.length_drop, HNA0.out, HNR.out]; have := HN200.out; omega
            have hma := hmt j
            have hma2 := hmt (j + 1)
            have hmb := hmd (nr - j)
            have hmb2 := hmd jj
            have hla := hlt2 j
            have hla2 := hlt2 (j + 1)
            have hlb := hld2 (nr - j)
            have hlb2 := hld2 jj
            have hta2 : LA ++ root.take (j + 1) = (LA ++ root.take j) ++ [(y1, y2)] := by rw [hta, List.append_assoc]
            have htb2 : LA ++ root.drop jj = LA ++ ((z1, z2) :: root.drop (nr - j)) := by rw [htb]
            have hn2 := HN200.out
            obtain ⟨XA, hXA⟩ : ∃ L, LA ++ root.take j = L := ⟨_, rfl⟩
            obtain ⟨XA2, hXA2⟩ : ∃ L, LA ++ root.take (j + 1) = L := ⟨_, rfl⟩
            obtain ⟨XB, hXB⟩ : ∃ L, LA ++ root.drop (nr - j) = L := ⟨_, rfl⟩
            obtain ⟨XB2, hXB2⟩ : ∃ L, LA ++ root.drop jj = L := ⟨_, rfl⟩
            have hcb : ∀ n, cntN XB2 n = cntN XB n + cntN [(z1, z2)] n := fun n => by rw [← hXB2, htb2, ← hXB, cntN_app, cntN_app, cntN_cons, cntN_cons, cntN_nil]; omega
            rw [hXA] at hta2 hma hla HU
            rw [hXA2] at hta2 hma2 hla2
            rw [hXB] at hmb hlb HV
            rw [hXB2] at hmb2 hlb2
            have oy : ∀ n ∈ [(y1, y2)], okN n = true := fun n hn => by rw [List.mem_singleton.1 hn]; exact hko
            have oz : ∀ n ∈ [(z1, z2)], okN n = true := fun n hn => by rw [List.mem_singleton.1 hn]; exact hjo
            have ha := step_more (m := (k : Int)) (e := (na0 : Int) - k + j) (k := 0) (e' := (na0 : Int) - k + j + 1) (now := [(y1, y2)]) (fun n hn => (hma n hn).1) oy (fun n hn => (hma2 n hn).1) (by omega) (by simp) (by omega) (by omega) (by omega) (by simp) (by omega) (fun n => by rw [hta2, cntN_app])
            have hb := step_more (m := (k : Int)) (e := (na0 : Int) - k + j) (k := 0) (e' := (na0 : Int) - k + j + 1) (now := [(z1, z2)]) (fun n hn => (hmb n hn).1) oz (fun n hn => (hmb2 n hn).1) (by omega) (by simp) (by omega) (by omega) (by omega) (by simp) (by omega) hcb
            have ka := fun A n c w h => rooton_any (k : Int) ((na0 : Int) - k + j) A n c (difL [] XA) y1 y2 w h (dif_smU hma (by omega)) hks (dif_lenU (by omega))
            have kb := fun A n c w h => rooton_any (k : Int) ((na0 : Int) - k + j) A n c (difL [] XB) z1 z2 w h (dif_smU hmb (by omega)) hjs (dif_lenU (by omega))
            rw [ha] at ka
            rw [hb] at kb
            simp only [Int.add_zero] at ka kb
            obtain ⟨DA, hDA⟩ : ∃ D, difL [] XA2 = D := ⟨_, rfl⟩
            obtain ⟨DB, hDB⟩ : ∃ D, difL [] XB2 = D := ⟨_, rfl⟩
            rw [hDA] at ka
            rw [hDB] at kb
            obtain ⟨nA, hnA⟩ : ∃ n, DA.length = n := ⟨_, rfl⟩
            obtain ⟨nB, hnB⟩ : ∃ n, DB.length = n := ⟨_, rfl⟩
            obtain ⟨eU, heU⟩ : ∃ z, (na0 : Int) - (k : Int) + (j : Int) = z := ⟨_, rfl⟩
            obtain ⟨eA, heA⟩ : ∃ z, eU + 1 = z := ⟨_, rfl⟩
            obtain ⟨DU, hDU⟩ : ∃ D, difL [] XA = D := ⟨_, rfl⟩
            obtain ⟨DV, hDV⟩ : ∃ D, difL [] XB = D := ⟨_, rfl⟩
            rw [heU, heA, hDU] at ka
            rw [heU, heA, hDV] at kb
            obtain ⟨au, nu, cu, hru, hrowu⟩ := HU.out
            obtain ⟨av, nv, cv, hrv, hrowv⟩ := HV.out
            rw [heU] at hru
            rw [hDU] at hrowu
            rw [heU] at hrv
            rw [hDV] at hrowv
            have RU := Lib.hid hru; have ROWU := Lib.hid hrowu; have RV := Lib.hid hrv; have ROWV := Lib.hid hrowv
            have KA := Lib.hid (fun w h => ka au nu cu w h); have KB := Lib.hid (fun w h => kb av nv cv w h)
            have HNA := Lib.hid hnA; have HNB := Lib.hid hnB; have HDA := Lib.hid hDA; have HDB := Lib.hid hDB; have HEU := Lib.hid heU; have HEAE := Lib.hid heA; have HXA2 := Lib.hid hXA2; have HXB2 := Lib.hid hXB2; have HJJ := Lib.hid hjj
            have HLT := Lib.hid hlt; have HJN := Lib.hid hjn
            have T1 := Lib.hid (show IntKind.i64.wrap ((nr : Int) - 1) = (nr : Int) - 1 from IntWalk.i64_in _ (by omega))
            have T2 := Lib.hid (show IntKind.i64.wrap ((nr : Int) - 1 - (j : Int)) = (jj : Int) by rw [show (nr : Int) - 1 - (j : Int) = (jj : Int) by omega]; exact IntWalk.i64_in _ (by omega))
            replace k0 := cell_keep k0 HBW.out; replace k1 := cell_keep k1 HBW.out; replace j0 := cell_keep j0 HBW.out; replace j1 := cell_keep j1 HBW.out
            have HGVL := Lib.hid (show gv < wr.heap.size from (Array.getElem?_eq_some_iff.1 hrv).1)
            have hjb : (j : Int) < (nr : Int) := by omega
            clear hjr hjj hjk hbk' hta htb hko hks hjo hjs hy hz hml hmt hmd hlt2 hld2 hma hma2 hmb hmb2 hla hla2 hlb hlb2 hta2 htb2 hn2 hXA hXA2 hXB hXB2 hcb oy oz ha hb ka kb hDA hDB hnA hnB heA heU hDU hDV hru hrowu hrv hrowv HU HV hjn
            go_upto_region 18 with fail
            refine rol_run (by kernel_rfl) [[], [], [], [1, 2], [1, 2, 3], [0, 1, 2, 3, 4], [0, 1, 2, 3, 4, 5], [0, 1, 2, 3, 4, 5, 6], [0, 1, 2, 3, 4, 5, 6], [], [0, 1, 2, 3, 4, 5, 6, 7, 9], [0, 1, 2, 3, 4, 5, 6, 7, 8, 9, 10]] (by kernel_rfl) [111, 112, 113, 114, 115, 116, 110, 117, 118, 18, 19] [[], [], [], [1, 2], [3], [0, 4], [5], [6], [6], [], [7, 9], [8]] [0, 0, 0, 0, 0, 1, 1, 1, 0, 2, 2, 0] [0, 0, 0, 0, 0, 0, 0, 0, 0, 0, 2, 0] [1000, 1000, 1000, 1000, 1000, 1000, 1000, 1000, 1000, 10, 1000, 1000] [.val 111 (.agg #[.int .i64 (k : Int), .int .i64 eU, .slice au nu cu]), .val 112 (.slice (some ⟨bk, ok, none⟩) nr cSR), .val 113 (.int .i64 (j : Int)), .val 114 (.pointer (some ⟨bk, ok + j * 2, none⟩)), .val 115 (.agg #[.string (mkB y1), .string (mkB y2)]), .mem 116 (tupU wr.heap.size ((k : Int)) (eA) DA (.int .i64 0)), .mem 110 (tupU wr.heap.size ((k : Int)) (eA) DA (.int .i64 0)), .mem 117 (useG wr.heap.size ((k : Int)) (eA) DA), .val 118 (.int .i64 0), .mem 18 (cell3P wr.heap.size 24 (.int .i64 0) (.int .i64 0) (.slice none 0 0)), .mem2 18 117 (tie3P wr.heap.size 24), .val 19 (.int .i64 0)] (by kernel_rfl) ?_ (wr.heap.size) (wr.heap.size) rfl (Below.refl _ _) rfl (fun _ => 0) ?_ ?_ ?_
            · intro j hj
              have hj3 : j < 12 := hj
              have hj2 : j = 0 ∨ j = 1 ∨ j = 2 ∨ j = 3 ∨ j = 4 ∨ j = 5 ∨ j = 6 ∨ j = 7 ∨ j = 8 ∨ j = 9 ∨ j = 10 ∨ j = 11 := by omega
              clear hj hj3
              rcases hj2 with rfl | rfl | rfl | rfl | rfl | rfl | rfl | rfl | rfl | rfl | rfl | rfl
              · exact trivial
              · exact trivial
              · exact trivial
              · exact trivial
              · exact trivial
              · exact tupU_near
              · exact tupU_near
              · exact useG_near
              · exact trivial
              · exact cell3P_near
              · exact tie3P_near
              · exact trivial
            · intro j hj0 hj
              exact absurd hj (Nat.not_lt.2 hj0)
            · intro i hi a wx who hG hF
              have hz : a.tmps.size = 207 := hG.size
              have hi3 : i < 12 := hi
              have hi2 : i = 0 ∨ i = 1 ∨ i = 2 ∨ i = 3 ∨ i = 4 ∨ i = 5 ∨ i = 6 ∨ i = 7 ∨ i = 8 ∨ i = 9 ∨ i = 10 ∨ i = 11 := by omega
              clear hi hi3
              rcases hi2 with rfl | rfl | rfl | rfl | rfl | rfl | rfl | rfl | rfl | rfl | rfl | rfl
              · exact rol_val rfl rfl rfl (by rw [hz]; decide) (ex_load rfl (eval_slot ((hG.slots 9 (by decide)).trans rfl)) (ld_use (row_keepB RU.out hG.below))) hG.below
              · exact rol_val rfl rfl rfl (by rw [hz]; decide) (ex_move (Or.inl rfl) (eval_slot ((hG.slots 2 (by decide)).trans rfl))) hG.below
              · exact rol_val rfl rfl rfl (by rw [hz]; decide) (ex_move (Or.inl rfl) (eval_slot ((hG.slots 17 (by decide)).trans rfl))) hG.below
              · exact rol_val rfl rfl rfl (by rw [hz]; decide) (ex_index rfl (eval_slot (hF 1 (by decide))) (eval_slot (hF 2 (by decide))) (idx_nds HLT.out)) hG.below
              · exact rol_val rfl rfl rfl (by rw [hz]; decide) (ex_load rfl (eval_slot (hF 3 (by decide))) (ld_node (cell_keep k0 hG.below) (cell_keep k1 hG.below))) hG.below
              · refine rol_calls rfl rfl rfl (by rw [hz]; decide) (ex_call rfl (by simp [eval_slot (hF 0 (by decide)), eval_slot (hF 4 (by decide))]; rfl) en2) (KA.out wx (dfs_rowU (ownsRow_belowB ROWU.out hG.below))) ?_ hG.below hG.new
                rintro e w1 ⟨u, rfl, hown, hb1⟩
                exact ⟨_, rfl, hb1, .inr (.inl ⟨_, u.ownBlock, rfl, fun b e => hown.lt b e, _, rfl, u, rfl, row_base hown hG.new, rfl⟩)⟩
              · exact rol_move rfl rfl rfl (by rw [hz]; decide) (Or.inl rfl) (hF 5 (by decide)) hG.below
              · exact rol_read rfl rfl rfl (by rw [hz]; decide) (hF 6 (by decide)) (fun v ob hv hp => by
                  obtain ⟨u, rfl, hu⟩ := hp
                  exact ⟨u, ex_extract rfl (eval_slot hv) rfl, hu⟩) hG.below
              · obtain ⟨v', ob, hv, hob, u, rfl, hu⟩ := hF 6 (by decide)
                exact rol_val rfl rfl rfl (by rw [hz]; decide) (ex_extract rfl (eval_slot hv) rfl) hG.below
              · exact rol_alloc_use rfl rfl rfl (by rw [hz]; decide) rfl hG.below (Nat.le_refl _) hG.new
              · exact rol_fill_use rfl rfl rfl rfl (hF 9 (by decide)) (hF 7 (by decide)) hG.below (Nat.le_refl _)
              · exact rol_val rfl rfl rfl (by rw [hz]; decide) (ex_move (Or.inr rfl) (eval_slot (hF 8 (by decide)))) hG.below
            · intro a wx who hG hF
              obtain ⟨v117, ob117, fv117, fo117, fp117⟩ := hF 7 (of_decide_eq_true (by kernel_rfl)) (of_decide_eq_true (by kernel_rfl))
              replace fv117 : a.tmps.getD 117 undef = v117 := eval_slot (s := 117) fv117
              have fv19 : a.tmps.getD 19 undef = .int .i64 0 := eval_slot (s := 19) (hF 11 (of_decide_eq_true (by kernel_rfl)) (of_decide_eq_true (by kernel_rfl)))
              have htie := hF 10 (of_decide_eq_true (by kernel_rfl)) (of_decide_eq_true (by kernel_rfl))
              obtain ⟨p3, u3, ob3, hp3, hu3, -, gA, x3, y3, z3, rfl, -, rfl, hgx, hrow3⟩ := htie
              have q3 : v117 = .agg #[x3, y3, z3] := fv117.symm.trans (eval_slot hu3)
              have fv18 : a.tmps.getD 18 undef = .pointer (some ⟨gA, 0, none⟩) := eval_slot (s := 18) hp3
              clear hp3 hu3 ob3
              have hbx := hG.below
              have hnx := hG.new
              rw [hG.frame]
              simp only [List.foldl_cons, List.foldl_nil, List.setIfInBounds_toArray, List.set_cons_zero, List.set_cons_succ]
              generalize a.tmps.getD 111 undef = u111
              generalize a.tmps.getD 112 undef = u112
              generalize a.tmps.getD 113 undef = u113
              generalize a.tmps.getD 114 undef = u114
              generalize a.tmps.getD 115 undef = u115
              generalize a.tmps.getD 116 undef = u116
              generalize a.tmps.getD 110 undef = u110
              rw [fv117]
              generalize a.tmps.getD 118 undef = u118
              rw [fv18]
              rw [fv19]
              clear hF hG fv117 fv19 fv18
              obtain ⟨x9, hx9, hrow, -⟩ := fp117
              obtain ⟨pA, cA, rfl, -⟩ := dfsO hrow
              rw [q3] at hx9 ⊢
              injection hx9 with hx9
              injection hx9 with hx9
              injection hx9 with q1 hx9
              injection hx9 with q2 hx9
              injection hx9 with q4 _
              subst q1 q2 q4 q3
              rw [HNA.out] at hrow3 hrow ⊢
              have RA := Lib.hid hrow3; have ROWA := Lib.hid hrow; have HGA := Lib.hid hgx
              replace RU := Lib.hid (row_keepB RU.out hbx)
              replace RV := Lib.hid (row_keepB RV.out hbx)
              replace ROWU := Lib.hid (ownsRow_belowB ROWU.out hbx)
              replace ROWV := Lib.hid (ownsRow_belowB ROWV.out hbx)
              replace j0 := cell_keep j0 hbx
              replace j1 := cell_keep j1 hbx
              replace HBW := Lib.hid (below_step HBW.out hbx)
              have HWA := Lib.hid hbx.size
              clear hbx hnx hgx hrow hrow3 fo117 k0 k1
              obtain ⟨wa, hwa⟩ : ∃ r, r = wx := ⟨_, rfl⟩
              subst hwa
              go_upto_region 19 with fail
              refine rol_run (by kernel_rfl) [[], [], [], [2], [2, 3], [], [2, 3, 4, 5], [1, 2, 3, 4, 5, 6], [1, 2, 3, 4, 5, 6, 7], [0, 1, 2, 3, 4, 5, 6, 7, 8], [0, 1, 2, 3, 4, 5, 6, 7, 8, 9], [0, 1, 2, 3, 4, 5, 6, 7, 8, 9, 10], [0, 1, 2, 3, 4, 5, 6, 7, 8, 9, 10], [], [0, 1, 2, 3, 4, 5, 6, 7, 8, 9, 10, 11, 13], [0, 1, 2, 3, 4, 5, 6, 7, 8, 9, 10, 11, 12, 13, 14]] (by kernel_rfl) [120, 121, 122, 123, 124, 125, 126, 127, 128, 129, 119, 130, 131, 20, 21] [[], [], [], [2], [3], [], [4, 5], [1, 6], [7], [0, 8], [9], [10], [10], [], [11, 13], [12]] [0, 0, 0, 0, 0, 0, 0, 0, 0, 1, 1, 1, 0, 2, 2, 0] [0, 0, 0, 0, 0, 0, 0, 0, 0, 0, 0, 0, 0, 0, 2, 0] [1000, 1000, 1000, 1000, 1000, 1000, 1000, 1000, 1000, 1000, 1000, 1000, 1000, 14, 1000, 1000] [.val 120 (.agg #[.int .i64 (k : Int), .int .i64 eU, .slice av nv cv]), .val 121 (.slice (some ⟨bk, ok, none⟩) nr cSR), .val 122 (.slice (some ⟨bk, ok, none⟩) nr cSR), .val 123 (.int .i64 (nr : Int)), .val 124 (.int .i64 ((nr : Int) - 1)), .val 125 (.int .i64 (j : Int)), .val 126 (.int .i64 (jj : Int)), .val 127 (.pointer (some ⟨bk, ok + jj * 2, none⟩)), .val 128 (.agg #[.string (mkB z1), .string (mkB z2)]), .mem 129 (tupU wa.heap.size ((k : Int)) (eA) DB (.int .i64 0)), .mem 119 (tupU wa.heap.size ((k : Int)) (eA) DB (.int .i64 0)), .mem 130 (useG wa.heap.size ((k : Int)) (eA) DB), .val 131 (.int .i64 0), .mem 20 (cell3P wa.heap.size 24 (.int .i64 0) (.int .i64 0) (.slice none 0 0)), .mem2 20 130 (tie3P wa.heap.size 24), .val 21 (.int .i64 0)] (by kernel_rfl) ?_ (wa.heap.size) (wa.heap.size) rfl (Below.refl _ _) rfl (fun _ => 0) ?_ ?_ ?_
              · intro j hj
                have hj3 : j < 16 := hj
                have hj2 : j = 0 ∨ j = 1 ∨ j = 2 ∨ j = 3 ∨ j = 4 ∨ j = 5 ∨ j = 6 ∨ j = 7 ∨ j = 8 ∨ j = 9 ∨ j = 10 ∨ j = 11 ∨ j = 12 ∨ j = 13 ∨ j = 14 ∨ j = 15 := by omega
                clear hj hj3
                rcases hj2 with rfl | rfl | rfl | rfl | rfl | rfl | rfl | rfl | rfl | rfl | rfl | rfl | rfl | rfl | rfl | rfl
                · exact trivial
                · exact trivial
                · exact trivial
                · exact trivial
                · exact trivial
                · exact trivial
                · exact trivial
                · exact trivial
                · exact trivial
                · exact tupU_near
                · exact tupU_near
                · exact useG_near
                · exact trivial
                · exact cell3P_near
                · exact tie3P_near
                · exact trivial
              · intro j hj0 hj
                exact absurd hj (Nat.not_lt.2 hj0)
              · intro i hi a wx who hG hF
                have hz : a.tmps.size = 207 := hG.size
                have hi3 : i < 16 := hi
                have hi2 : i = 0 ∨ i = 1 ∨ i = 2 ∨ i = 3 ∨ i = 4 ∨ i = 5 ∨ i = 6 ∨ i = 7 ∨ i = 8 ∨ i = 9 ∨ i = 10 ∨ i = 11 ∨ i = 12 ∨ i = 13 ∨ i = 14 ∨ i = 15 := by omega
                clear hi hi3
                rcases hi2 with rfl | rfl | rfl | rfl | rfl | rfl | rfl | rfl | rfl | rfl | rfl | rfl | rfl | rfl | rfl | rfl
                · exact rol_val rfl rfl rfl (by rw [hz]; decide) (ex_load rfl (eval_slot ((hG.slots 10 (by decide)).trans rfl)) (ld_use (row_keepB RV.out hG.below))) hG.below
                · exact rol_val rfl rfl rfl (by rw [hz]; decide) (ex_move (Or.inl rfl) (eval_slot ((hG.slots 2 (by decide)).trans rfl))) hG.below
                · exact rol_val rfl rfl rfl (by rw [hz]; decide) (ex_move (Or.inl rfl) (eval_slot ((hG.slots 2 (by decide)).trans rfl))) hG.below
                · exact rol_val rfl rfl rfl (by rw [hz]; decide) (ex_len rfl (eval_slot (hF 2 (by decide))) (by go_simp)) hG.below
                · exact rol_val rfl rfl rfl (by rw [hz]; decide) (ex_bin rfl (eval_slot (hF 3 (by decide))) rfl (by go_simp) (bin_sub T1.out)) hG.below
                · exact rol_val rfl rfl rfl (by rw [hz]; decide) (ex_move (Or.inl rfl) (eval_slot ((hG.slots 17 (by decide)).trans rfl))) hG.below
                · exact rol_val rfl rfl rfl (by rw [hz]; decide) (ex_bin rfl (eval_slot (hF 4 (by decide))) (eval_slot (hF 5 (by decide))) (by go_simp) (bin_sub T2.out)) hG.below
                · exact rol_val rfl rfl rfl (by rw [hz]; decide) (ex_index rfl (eval_slot (hF 1 (by decide))) (eval_slot (hF 6 (by decide))) (idx_nds HJN.out)) hG.below
                · exact rol_val rfl rfl rfl (by rw [hz]; decide) (ex_load rfl (eval_slot (hF 7 (by decide))) (ld_node (cell_keep j0 hG.below) (cell_keep j1 hG.below))) hG.below
                · refine rol_calls rfl rfl rfl (by rw [hz]; decide) (ex_call rfl (by simp [eval_slot (hF 0 (by decide)), eval_slot (hF 8 (by decide))]; rfl) en2) (KB.out wx (dfs_rowU (ownsRow_belowB ROWV.out hG.below))) ?_ hG.below hG.new
                  rintro e w1 ⟨u, rfl, hown, hb1⟩
                  exact ⟨_, rfl, hb1, .inr (.inl ⟨_, u.ownBlock, rfl, fun b e => hown.lt b e, _, rfl, u, rfl, row_base hown hG.new, rfl⟩)⟩
                · exact rol_move rfl rfl rfl (by rw [hz]; decide) (Or.inl rfl) (hF 9 (by decide)) hG.below
                · exact rol_read rfl rfl rfl (by rw [hz]; decide) (hF 10 (by decide)) (fun v ob hv hp => by
                    obtain ⟨u, rfl, hu⟩ := hp
                    exact ⟨u, ex_extract rfl (eval_slot hv) rfl, hu⟩) hG.below
                · obtain ⟨v', ob, hv, hob, u, rfl, hu⟩ := hF 10 (by decide)
                  exact rol_val rfl rfl rfl (by rw [hz]; decide) (ex_extract rfl (eval_slot hv) rfl) hG.below
                · exact rol_alloc_use rfl rfl rfl (by rw [hz]; decide) rfl hG.below (Nat.le_refl _) hG.new
                · exact rol_fill_use rfl rfl rfl rfl (hF 13 (by decide)) (hF 11 (by decide)) hG.below (Nat.le_refl _)
                · exact rol_val rfl rfl rfl (by rw [hz]; decide) (ex_move (Or.inr rfl) (eval_slot (hF 12 (by decide)))) hG.below
              · intro a wx who hG hF
                obtain ⟨v130, ob130, fv130, fo130, fp130⟩ := hF 11 (of_decide_eq_true (by kernel_rfl)) (of_decide_eq_true (by kernel_rfl))
                replace fv130 : a.tmps.getD 130 undef = v130 := eval_slot (s := 130) fv130
                have fv21 : a.tmps.getD 21 undef = .int .i64 0 := eval_slot (s := 21) (hF 15 (of_decide_eq_true (by kernel_rfl)) (of_decide_eq_true (by kernel_rfl)))
                have htie := hF 14 (of_decide_eq_true (by kernel_rfl)) (of_decide_eq_true (by kernel_rfl))
                obtain ⟨p3, u3, ob3, hp3, hu3, -, gB, x3, y3, z3, rfl, -, rfl, hgx, hrow3⟩ := htie
                have q3 : v130 = .agg #[x3, y3, z3] := fv130.symm.trans (eval_slot hu3)
                have fv20 : a.tmps.getD 20 undef = .pointer (some ⟨gB, 0, none⟩) := eval_slot (s := 20) hp3
                clear hp3 hu3 ob3
                have hbx := hG.below
                have hnx := hG.new
                rw [hG.frame]
                simp only [List.foldl_cons, List.foldl_nil, List.setIfInBounds_toArray, List.set_cons_zero, List.set_cons_succ]
                generalize a.tmps.getD 120 undef = u120
                generalize a.tmps.getD 121 undef = u121
                generalize a.tmps.getD 122 undef = u122
                generalize a.tmps.getD 123 undef = u123
                generalize a.tmps.getD 124 undef = u124
                generalize a.tmps.getD 125 undef = u125
                generalize a.tmps.getD 126 undef = u126
                generalize a.tmps.getD 127 undef = u127
                generalize a.tmps.getD 128 undef = u128
                generalize a.tmps.getD 129 undef = u129
                generalize a.tmps.getD 119 undef = u119
                rw [fv130]
                generalize a.tmps.getD 131 undef = u131
                rw [fv20]
                rw [fv21]
                clear hF hG fv130 fv21 fv20
                obtain ⟨x9, hx9, hrow, -⟩ := fp130
                obtain ⟨pB, cB, rfl, -⟩ := dfsO hrow
                rw [q3] at hx9 ⊢
                injection hx9 with hx9
                injection hx9 with hx9
                injection hx9 with q1 hx9
                injection hx9 with q2 hx9
                injection hx9 with q4 _
                subst q1 q2 q4 q3
                rw [HNB.out] at hrow3 hrow ⊢
                have RB := Lib.hid hrow3; have ROWB := Lib.hid hrow; have HGB := Lib.hid hgx
                have RALT := Lib.hid (show gA < wa.heap.size from (Array.getElem?_eq_some_iff.1 RA.out).1)
                replace RU := Lib.hid (row_keepB RU.out hbx)
                replace RV := Lib.hid (row_keepB RV.out hbx)
                replace RA := Lib.hid (row_keepB RA.out hbx)
                replace ROWU := Lib.hid (ownsRow_belowB ROWU.out hbx)
                replace ROWV := Lib.hid (ownsRow_belowB ROWV.out hbx)
                replace ROWA := Lib.hid (ownsRow_belowB ROWA.out hbx)
                replace HBW := Lib.hid (below_step HBW.out hbx)
                have HAU := Lib.hid (show ¬ gA = gu by have := HGA.out; have := HGVL.out; have := HGV.out; have := HGU.out; omega); have HAV := Lib.hid (show ¬ gA = gv by have := HGA.out; have := HGVL.out; omega)
                have HBU := Lib.hid (show ¬ gB = gu by have := HGB.out; have := HWA.out; have := HGVL.out; have := HGV.out; have := HGU.out; omega); have HBV := Lib.hid (show ¬ gB = gv by have := HGB.out; have := HWA.out; have := HGVL.out; omega)
                have HBA := Lib.hid (show ¬ gB = gA from fun q => by have h1 := HGB.out; have h2 := RALT.out; omega)
                clear hbx hnx hgx hrow hrow3 fo130 j0 j1
                obtain ⟨wb, hwb⟩ : ∃ r, r = wx := ⟨_, rfl⟩
                subst hwb
                go_upto_region 22 with fail
                refine rol_run (by kernel_rfl) [[], [], [0], [0, 1, 2]] (by kernel_rfl) [138, 139] [[6], [7], [0, 4], [1, 5]] [0, 0, 2, 6, 2, 6, 3, 4, 5, 5] [0, 0, 2, 6] [1000, 1000, 1000, 1000, 2, 3, 1000, 1000, 1000, 1000] [.val 138 (.agg #[.int .i64 (k : Int), .int .i64 eA, .slice pA nA cA]), .val 139 (.agg #[.int .i64 (k : Int), .int .i64 eA, .slice pB nB cB]), .box (gu) (.cells #[.int .i64 (k : Int), .int .i64 eA, .slice pA nA cA] 24), .box (gv) (.cells #[.int .i64 (k : Int), .int .i64 eA, .slice pB nB cB] 24), .box (gu) (.cells #[.int .i64 (k : Int), .int .i64 eU, .slice au nu cu] 24), .box (gv) (.cells #[.int .i64 (k : Int), .int .i64 eU, .slice av nv cv] 24), .box (gA) (.cells #[.int .i64 (k : Int), .int .i64 eA, .slice pA nA cA] 24), .box (gB) (.cells #[.int .i64 (k : Int), .int .i64 eA, .slice pB nB cB] 24), .mem 18 (rowX (.slice pA nA cA) wr.heap.size 56 3 nA (dfC DA)), .mem 20 (rowX (.slice pB nB cB) wa.heap.size 56 3 nB (dfC DB))] (by kernel_rfl) ?_ (WX.heap.size) (wb.heap.size) rfl HBW.out rfl (fun k => if k = gu then 2 else if k = gv then 6 else if k = gA then 3 else if k = gB then 4 else 5) ?_ ?_ ?_
                · intro j hj
                  have hj3 : j < 10 := hj
                  have hj2 : j = 0 ∨ j = 1 ∨ j = 2 ∨ j = 3 ∨ j = 4 ∨ j = 5 ∨ j = 6 ∨ j = 7 ∨ j = 8 ∨ j = 9 := by omega
                  clear hj hj3
                  rcases hj2 with rfl | rfl | rfl | rfl | rfl | rfl | rfl | rfl | rfl | rfl
                  · exact trivial
                  · exact trivial
                  · exact trivial
                  · exact trivial
                  · exact trivial
                  · exact trivial
                  · exact trivial
                  · exact trivial
                  · exact rowX_near
                  · exact rowX_near
                · intro j hj0 hj
                  have hj1 : 4 ≤ j := hj0
                  have hj3 : j < 10 := hj
                  have hj2 : j = 4 ∨ j = 5 ∨ j = 6 ∨ j = 7 ∨ j = 8 ∨ j = 9 := by omega
                  clear hj0 hj hj1 hj3
                  rcases hj2 with rfl | rfl | rfl | rfl | rfl | rfl
                  · exact ⟨RU.out, if_pos rfl⟩
                  · exact ⟨RV.out, (if_neg HVU.out).trans (if_pos rfl)⟩
                  · exact ⟨RA.out, (if_neg HAU.out).trans ((if_neg HAV.out).trans (if_pos rfl))⟩
                  · exact ⟨RB.out, (if_neg HBU.out).trans ((if_neg HBV.out).trans ((if_neg HBA.out).trans (if_pos rfl)))⟩
                  · exact ⟨_, _, rfl, fun b e => ⟨(own_lt ROWA.out e).2, (if_neg (fun q => own_nebox ROWA.out RU.out (by decide) (by rw [← q]; exact e))).trans ((if_neg (fun q => own_nebox ROWA.out RV.out (by decide) (by rw [← q]; exact e))).trans ((if_neg (fun q => own_nebox ROWA.out RA.out (by decide) (by rw [← q]; exact e))).trans (if_neg (fun q => own_nebox ROWA.out RB.out (by decide) (by rw [← q]; exact e)))))⟩, ROWA.out, rfl⟩
                  · exact ⟨_, _, rfl, fun b e => ⟨(own_lt ROWB.out e).2, (if_neg (fun q => own_nebox ROWB.out RU.out (by decide) (by rw [← q]; exact e))).trans ((if_neg (fun q => own_nebox ROWB.out RV.out (by decide) (by rw [← q]; exact e))).trans ((if_neg (fun q => own_nebox ROWB.out RA.out (by decide) (by rw [← q]; exact e))).trans (if_neg (fun q => own_nebox ROWB.out RB.out (by decide) (by rw [← q]; exact e)))))⟩, ROWB.out, rfl⟩
                · intro i hi a wx who hG hF
                  have hz : a.tmps.size = 207 := hG.size
                  have hi3 : i < 4 := hi
                  have hi2 : i = 0 ∨ i = 1 ∨ i = 2 ∨ i = 3 := by omega
                  clear hi hi3
                  rcases hi2 with rfl | rfl | rfl | rfl
                  · exact rol_val rfl rfl rfl (by rw [hz]; decide) (ex_load rfl (eval_slot ((hG.slots 18 (by decide)).trans rfl)) (ld_use (hF 6 (by decide)).1)) hG.below
                  · exact rol_val rfl rfl rfl (by rw [hz]; decide) (ex_load rfl (eval_slot ((hG.slots 20 (by decide)).trans rfl)) (ld_use (hF 7 (by decide)).1)) hG.below
                  · exact rol_boxV rfl rfl rfl rfl (eval_slot ((hG.slots 9 (by decide)).trans rfl)) (eval_slot (hF 0 (by decide))) (hF 4 (by decide)) hG.below (Nat.le_of_eq HGU.out)
                  · exact rol_boxV rfl rfl rfl rfl (eval_slot ((hG.slots 10 (by decide)).trans rfl)) (eval_slot (hF 1 (by decide))) (hF 5 (by decide)) hG.below (by have := HGV.out; omega)
                · intro a wx who hG hF
                  have hbu := hF 2 (of_decide_eq_true (by kernel_rfl)) (of_decide_eq_true (by kernel_rfl))
                  have hbv := hF 3 (of_decide_eq_true (by kernel_rfl)) (of_decide_eq_true (by kernel_rfl))
                  have hsa := hF 8 (of_decide_eq_true (by kernel_rfl)) (of_decide_eq_true (by kernel_rfl))
                  have hsb := hF 9 (of_decide_eq_true (by kernel_rfl)) (of_decide_eq_true (by kernel_rfl))
                  have hbx := hG.below
                  have hnx := hG.new
                  rw [hG.frame]
                  simp only [List.foldl_cons, List.foldl_nil, List.setIfInBounds_toArray, List.set_cons_zero, List.set_cons_succ]
                  generalize a.tmps.getD 138 undef = u138
                  generalize a.tmps.getD 139 undef = u139
                  clear hF hG
                  obtain ⟨_, _, -, -, hra9, -⟩ := hsa
                  obtain ⟨_, _, -, -, hrb9, -⟩ := hsb
                  have HRA9 := Lib.hid hra9; have HRB9 := Lib.hid hrb9; have HBU9 := Lib.hid hbu.1; have HBV9 := Lib.hid hbv.1; have HBN := Lib.hid hbx
                  clear hra9 hrb9 hbu hbv hbx hnx
                  go_wp2
                  go_roundw
                  case rel => exact ⟨j + 1, by omega, by go_num, Lib.hid ((show UB _ gu (gu + 2) (k : Int) eA XA2 from ⟨pA, nA, cA, HBU9.out, by rw [HDA.out]; exact row_base HRA9.out (by have := HGVL.out; have := HGV.out; have := HGU.out; omega)⟩).cast rfl (by rw [← HEAE.out, ← HEU.out]; push_cast; omega) (by rw [HXA2.out])), Lib.hid ((show UB _ gv (gu + 2) (k : Int) eA XB2 from ⟨pB, nB, cB, HBV9.out, by rw [HDB.out]; exact row_base HRB9.out (by have := HGVL.out; have := HGV.out; have := HGU.out; have := HWA.out; omega)⟩).cast rfl (by rw [← HEAE.out, ← HEU.out]; push_cast; omega) (by rw [show nr - (j + 1) = jj by have := HJJ.out; omega, HXB2.out])), HBN⟩
                  case measure => simp [intOf]; omega
          · have e9 : j = nr := by omega
            subst e9
            have hpm : ∀ n, cntN (LA ++ root) n = cntN (root ++ LA) n := fun n => by rw [cntN_app, cntN_app]; omega
            have oLR : ∀ x ∈ LA ++ root, okN x = true := fun x hx => (List.mem_append.1 hx).elim (fun q => (HML.out x q).1) (HOR.out x)
            have hdd : difL [] (LA ++ root) = difL [] (root ++ LA) := difL_perm (by simpa using fun a b hx => oLR (a, b) (List.mem_append.2 hx)) (by simpa using fun a b hx => HOP.out (a, b) (List.mem_append.2 hx)) fun n => by unfold difF; rw [hpm]
            have hn2 := HN200.out
            have hue := HUE.out
            have HU3 := Lib.hid (HU.out.cast (m' := (k : Int)) (e' := ue) (X' := root ++ LA) rfl (by rw [← hue]; push_cast; omega) (by rw [List.take_of_length_le (by rw [HNR.out]; exact Nat.le_refl _), hdd]))
            have HV3 := Lib.hid (HV.out.cast (m' := (k : Int)) (e' := ue) (X' := root ++ LA) rfl (by rw [← hue]; push_cast; omega) (by rw [Nat.sub_self, List.drop_zero, hdd]))
            have hsm : ∀ x ∈ root ++ LA, okN x = true ∧ smallN x := fun x hx => ⟨HOP.out x hx, (List.mem_append.1 hx).elim (HSR.out x) fun q => (HML.out x q).2⟩
            have hl9 : (root ++ LA).length ≤ 300 := by rw [List.length_append, HNA0.out, HNR.out]; omega
            have hokU : okU (k : Int) ue (difL [] (root ++ LA)) = true := (show Us.ok (usL (k : Int) ue (root ++ LA)) = true from usL_ok HOP.out (by omega) (inU_iff.2 (by omega)) (inU_iff.2 (by omega)))
            have kc := fun A n c w h => ucheck_any (k : Int) ue A n c (difL [] (root ++ LA)) w h (dif_smU hsm (by omega)) (by have := dif_le (root ++ LA); omega)
            rw [chkU_yes hokU] at kc
            obtain ⟨au, nu, cu, hru, hrowu⟩ := HU3.out
            obtain ⟨av, nv, cv, hrv, hrowv⟩ := HV3.out
            rw [HD.out] at hrowu hrowv kc
            have RU := Lib.hid hru
            have SU := Lib.hid (dfs_rowU hrowu); have SV := Lib.hid (dfs_rowU hrowv); have ROWU := Lib.hid hrowu
            have KC := Lib.hid (fun w h => kc au nu cu w h)
            have SXW := Lib.hid (SX.out.below HBW.out)
            obtain ⟨u0, u1, u2, -⟩ := row3 hru
            obtain ⟨v0, v1, v2, -⟩ := row3 hrv
            have X0 := cell_keep x0 HBW.out; have X1 := cell_keep x1 HBW.out; have X2 := cell_keep x2 HBW.out
            have HGVL := Lib.hid (show gv < wr.heap.size from (Array.getElem?_eq_some_iff.1 hrv).1)
            have HDD := Lib.hid hdd
            clear hpm oLR hdd hn2 hue HU HV HU3 HV3 hsm hl9 hokU kc hru hrowu hrv hrowv hlt
            go_upto_region 25 with (first
              | (go_at_call 17; refine (usame_any _ _ _ _ _ _ _ _ _ _ _ _ _ SU.out (by first | exact SV.out | exact SXW.out)).mono ?_; rintro e w9 ⟨rfl, hb1⟩; rw [sameU_self]; replace u0 := cell_keep u0 hb1; replace u1 := cell_keep u1 hb1; replace u2 := cell_keep u2 hb1; replace v0 := cell_keep v0 hb1; replace v1 := cell_keep v1 hb1; replace v2 := cell_keep v2 hb1; replace X0 := cell_keep X0 hb1; replace X1 := cell_keep X1 hb1; replace X2 := cell_keep X2 hb1; replace SU := Lib.hid (SU.out.below hb1); replace SV := Lib.hid (SV.out.below hb1); replace SXW := Lib.hid (SXW.out.below hb1); replace RU := Lib.hid (row_keepB RU.out hb1); replace ROWU := Lib.hid (ownsRow_belowB ROWU.out hb1); replace HBW := Lib.hid (below_step HBW.out hb1); clear hb1)
              | (go_at_call 15; refine (KC.out _ SU.out).mono ?_; rintro e w9 ⟨rfl, hb1⟩; replace u0 := cell_keep u0 hb1; replace u1 := cell_keep u1 hb1; replace u2 := cell_keep u2 hb1; replace v0 := cell_keep v0 hb1; replace v1 := cell_keep v1 hb1; replace v2 := cell_keep v2 hb1; replace X0 := cell_keep X0 hb1; replace X1 := cell_keep X1 hb1; replace X2 := cell_keep X2 hb1; replace SU := Lib.hid (SU.out.below hb1); replace SV := Lib.hid (SV.out.below hb1); replace SXW := Lib.hid (SXW.out.below hb1); replace RU := Lib.hid (row_keepB RU.out hb1); replace ROWU := Lib.hid (ownsRow_belowB ROWU.out hb1); replace HBW := Lib.hid (below_step HBW.out hb1); clear hb1))
            obtain ⟨wq, hwq⟩ : ∃ r, r = w9 := ⟨_, rfl⟩
            subst hwq
            have HU4 := Lib.hid (show UB wq gu (gu + 2) (k : Int) ue (root ++ LA) from ⟨au, nu, cu, RU.out, by rw [HD.out]; exact ROWU.out⟩)
            have HGL := Lib.hid (show WX.heap.size ≤ gu from Nat.le_of_eq HGU.out)
            have HBW3 := HBW
            have HGQ := Lib.hid (show gu + 2 ≤ wq.heap.size by have h9 := World.block_lt_of_cell? _ _ v0; simp only at h9; have := HGU.out; have := HGV.out; omega)
            clear RU ROWU SU SV SXW u0 u1 u2 v0 v1 v2 X0 X1 X2 KC HGVL HBW
            go_wp2
            go_loopw [22] (fun i wr => ∃ i9 : Nat, i9 ≤ k ∧ i = .int .i64 i9 ∧ Hid (UB wr gu (gu + 2) ((k : Int) - i9) (((spokeL (ks.drop i9) (ls.drop i9)).length : Int) - ((k : Int) - i9) + j) (spokeL (ks.drop i9) (ls.drop i9) ++ root)) ∧ Hid (Below WX.heap.size WX wr) ∧ Hid (gu + 2 ≤ wr.heap.size)) (fun i _ => k - (intOf i).toNat)
            case atStart => exact ⟨0, Nat.zero_le _, rfl, Lib.hid (HU4.out.cast (by simp) (by rw [List.drop_zero, List.drop_zero, HLAE.out, HNA0.out, ← HUE.out]; push_cast; omega) (by rw [List.drop_zero, List.drop_zero, HLAE.out, HDD.out])), HBW3, HGQ⟩
            case round =>
              obtain ⟨i9, hi9, rfl, HU, HBW, HG3⟩ := hrel
              by_cases hlt : i9 < k
              · have hkk : i9 < ks.length := by rw [HNK.out]; exact hlt
                have hkl : i9 < ls.length := by rw [HNL.out]; exact hlt
                obtain ⟨bk, ok, hbk, -, k0, k1⟩ := SK.out.at i9 hkk
                obtain rfl : pSK = some ⟨bk, ok, none⟩ := hbk
                obtain ⟨bl, ol, ay, ny, cy, hbl, c0, hsy⟩ := SL.out.at i9 hkl
                obtain rfl : pSL = some ⟨bl, ol, none⟩ := hbl
                have htb := spokeL_drop ks ls i9 hkk hkl
                have hyo := HOL.out (ls.getD i9 []) (by rw [List.getD_eq_getElem?_getD, List.getElem?_eq_getElem hkl]; exact List.getElem_mem hkl)
                have hys := HSL.out (ls.getD i9 []) (by rw [List.getD_eq_getElem?_getD, List.getElem?_eq_getElem hkl]; exact List.getElem_mem hkl)
                have hko := HOK.out _ (nd_mem hkk)
                have hks := HSK.out _ (nd_mem hkk)
                obtain ⟨yl, hyl⟩ : ∃ y, y = ls.getD i9 [] := ⟨_, rfl⟩
                obtain ⟨y, hy⟩ : ∃ y, y = ks.getD i9 ([], []) := ⟨_, rfl⟩
                rw [← hy] at k0 k1 htb hko hks
                rw [← hyl] at hsy htb hyo hys
                obtain ⟨y1, y2⟩ := y
                simp only at k0 k1
                have hny := hsy.lenU.1
                have hmb := HMB.out i9
                have hmb2 := HMB.out (i9 + 1)
                have hlb := HLB.out i9
                have hlb2 := HLB.out (i9 + 1)
                have heb := HEB.out i9 (by omega)
                have heb2 := HEB.out (i9 + 1) (by omega)
                have hnr := HNR.out
                obtain ⟨S1, hS1⟩ : ∃ L, spokeL (ks.drop i9) (ls.drop i9) = L := ⟨_, rfl⟩
                obtain ⟨S2, hS2⟩ : ∃ L, spokeL (ks.drop (i9 + 1)) (ls.drop (i9 + 1)) = L := ⟨_, rfl⟩
                rw [hS1] at htb hmb hlb heb HU
                rw [hS2] at htb hmb2 hlb2 heb2
                have oy : ∀ n ∈ (y1, y2) :: yl, okN n = true := fun n hn => by
                  rcases List.mem_cons.1 hn with rfl | q
                  · exact hko
                  · exact hyo n q
                have hlB : S1.length = (ny + 1) + S2.length := by rw [htb, List.length_append, List.length_cons, hny]
                have hm1 : ∀ x ∈ S1 ++ root, okN x = true ∧ smallN x := fun x hx => (List.mem_append.1 hx).elim (hmb x) fun q => ⟨HOR.out x q, HSR.out x q⟩
                have hm2 : ∀ x ∈ S2 ++ root, okN x = true ∧ smallN x := fun x hx => (List.mem_append.1 hx).elim (hmb2 x) fun q => ⟨HOR.out x q, HSR.out x q⟩
                have hl1 : (S1 ++ root).length ≤ 300 := by rw [List.length_append, hnr]; omega
                have hl2 : (S2 ++ root).length ≤ 300 := by rw [List.length_append, hnr]; omega
                have ha := step_less (m := (k : Int) - i9) (e := (S1.length : Int) - ((k : Int) - i9) + j) (k := -1) (e' := (S2.length : Int) - ((k : Int) - ((i9 : Int) + 1)) + j) (old := (y1, y2) :: yl) (fun n hn => (hm1 n hn).1) oy (fun n hn => (hm2 n hn).1) (by omega) (by rw [List.length_cons, hny]; have := hys.1; omega) (by omega) (by omega) (by omega) (by omega) (by rw [List.length_cons, hny, hlB]; push_cast; omega) (by omega) (fun n => by rw [htb, cntN_app, cntN_app, cntN_app]; omega)
                have ka := fun A n c w h h' => give_any ((k : Int) - i9) ((S1.length : Int) - ((k : Int) - i9) + j) A n c (difL [] (S1 ++ root)) y1 y2 (.slice ay ny cy) yl w h h' (dif_smU hm1 (by omega)) hks hys.2 (dif_lenU (by omega)) (by have := hys.1; omega)
                rw [ha] at ka
                simp only at ka
                obtain ⟨DA, hDA⟩ : ∃ D, difL [] (S2 ++ root) = D := ⟨_, rfl⟩
                rw [hDA] at ka
                obtain ⟨nA, hnA⟩ : ∃ n, DA.length = n := ⟨_, rfl⟩
                obtain ⟨eA, heA⟩ : ∃ z, (S2.length : Int) - ((k : Int) - ((i9 : Int) + 1)) + j = z := ⟨_, rfl⟩
                obtain ⟨eU, heU⟩ : ∃ z, (S1.length : Int) - ((k : Int) - (i9 : Int)) + j = z := ⟨_, rfl⟩
                obtain ⟨mU, hmU⟩ : ∃ z, (k : Int) - (i9 : Int) = z := ⟨_, rfl⟩
                obtain ⟨mA, hmA⟩ : ∃ z, mU + -1 = z := ⟨_, rfl⟩
                obtain ⟨DU, hDU⟩ : ∃ D, difL [] (S1 ++ root) = D := ⟨_, rfl⟩
                rw [heA, heU, hDU, hmU, hmA] at ka
                obtain ⟨au, nu, cu, hru, hrowu⟩ := HU.out
                rw [heU, hmU] at hru
                rw [hDU] at hrowu
                have RU := Lib.hid hru; have ROWU := Lib.hid hrowu
                have KA := Lib.hid (fun w h h' => ka au nu cu w h h')
                have HNA := Lib.hid hnA; have HDA := Lib.hid hDA; have HEAE := Lib.hid heA; have HS2 := Lib.hid hS2; have HMU := Lib.hid hmU; have HMAE := Lib.hid hmA
                have HLT := Lib.hid hlt
                have SY := Lib.hid (hsy.below HBW.out)
                replace k0 := cell_keep k0 HBW.out; replace k1 := cell_keep k1 HBW.out; replace c0 := cell_keep c0 HBW.out
                have HGVL := Lib.hid (show gu < wr.heap.size from (Array.getElem?_eq_some_iff.1 hru).1)
                have hib : (i9 : Int) < (k : Int) := by omega
                clear hkk hkl htb hyo hys hko hks hyl hy hny hmb hmb2 hlb hlb2 heb heb2 hnr hS1 hS2 oy hlB hm1 hm2 hl1 hl2 ha ka hDA hnA heA heU hmU hmA hDU hru hrowu HU hsy
                have HGV2 := Lib.hid (show gu + 2 ≤ wr.heap.size from HG3.out)
                go_upto_region 28 with fail
                refine rol_run (by kernel_rfl) [[], [], [], [1, 2], [1, 2, 3], [], [], [5, 6], [5, 6, 7], [0, 1, 2, 3, 4, 5, 6, 7, 8], [0, 1, 2, 3, 4, 5, 6, 7, 8, 9], [0, 1, 2, 3, 4, 5, 6, 7, 8, 9, 10], [0, 1, 2, 3, 4, 5, 6, 7, 8, 9, 10], [], [0, 1, 2, 3, 4, 5, 6, 7, 8, 9, 10, 11, 13], [0, 1, 2, 3, 4, 5, 6, 7, 8, 9, 10, 11, 12, 13, 14]] (by kernel_rfl) [168, 169, 170, 171, 172, 173, 174, 175, 176, 177, 167, 178, 179, 23, 24] [[], [], [], [1, 2], [3], [], [], [5, 6], [7], [0, 4, 8], [9], [10], [10], [], [11, 13], [12]] [0, 0, 0, 0, 0, 0, 0, 0, 0, 1, 1, 1, 0, 2, 2, 0] [0, 0, 0, 0, 0, 0, 0, 0, 0, 0, 0, 0, 0, 0, 2, 0] [1000, 1000, 1000, 1000, 1000, 1000, 1000, 1000, 1000, 1000, 1000, 1000, 1000, 14, 1000, 1000] [.val 168 (.agg #[.int .i64 mU, .int .i64 eU, .slice au nu cu]), .val 169 (.slice (some ⟨bk, ok, none⟩) k cSK), .val 170 (.int .i64 (i9 : Int)), .val 171 (.pointer (some ⟨bk, ok + i9 * 2, none⟩)), .val 172 (.agg #[.string (mkB y1), .string (mkB y2)]), .val 173 (.slice (some ⟨bl, ol, none⟩) k cSL), .val 174 (.int .i64 (i9 : Int)), .val 175 (.pointer (some ⟨bl, ol + i9, none⟩)), .val 176 (.slice ay ny cy), .mem 177 (tupU wr.heap.size (mA) (eA) DA (.int .i64 0)), .mem 167 (tupU wr.heap.size (mA) (eA) DA (.int .i64 0)), .mem 178 (useG wr.heap.size (mA) (eA) DA), .val 179 (.int .i64 0), .mem 23 (cell3P wr.heap.size 24 (.int .i64 0) (.int .i64 0) (.slice none 0 0)), .mem2 23 178 (tie3P wr.heap.size 24), .val 24 (.int .i64 0)] (by kernel_rfl) ?_ (wr.heap.size) (wr.heap.size) rfl (Below.refl _ _) rfl (fun _ => 0) ?_ ?_ ?_
                · intro j hj
                  have hj3 : j < 16 := hj
                  have hj2 : j = 0 ∨ j = 1 ∨ j = 2 ∨ j = 3 ∨ j = 4 ∨ j = 5 ∨ j = 6 ∨ j = 7 ∨ j = 8 ∨ j = 9 ∨ j = 10 ∨ j = 11 ∨ j = 12 ∨ j = 13 ∨ j = 14 ∨ j = 15 := by omega
                  clear hj hj3
                  rcases hj2 with rfl | rfl | rfl | rfl | rfl | rfl | rfl | rfl | rfl | rfl | rfl | rfl | rfl | rfl | rfl | rfl
                  · exact trivial
                  · exact trivial
                  · exact trivial
                  · exact trivial
                  · exact trivial
                  · exact trivial
                  · exact trivial
                  · exact trivial
                  · exact trivial
                  · exact tupU_near
                  · exact tupU_near
                  · exact useG_near
                  · exact trivial
                  · exact cell3P_near
                  · exact tie3P_near
                  · exact trivial
                · intro j hj0 hj
                  exact absurd hj (Nat.not_lt.2 hj0)
                · intro i hi a wx who hG hF
                  have hz : a.tmps.size = 207 := hG.size
                  have hi3 : i < 16 := hi
                  have hi2 : i = 0 ∨ i = 1 ∨ i = 2 ∨ i = 3 ∨ i = 4 ∨ i = 5 ∨ i = 6 ∨ i = 7 ∨ i = 8 ∨ i = 9 ∨ i = 10 ∨ i = 11 ∨ i = 12 ∨ i = 13 ∨ i = 14 ∨ i = 15 := by omega
                  clear hi hi3
                  rcases hi2 with rfl | rfl | rfl | rfl | rfl | rfl | rfl | rfl | rfl | rfl | rfl | rfl | rfl | rfl | rfl | rfl
                  · exact rol_val rfl rfl rfl (by rw [hz]; decide) (ex_load rfl (eval_slot ((hG.slots 9 (by decide)).trans rfl)) (ld_use (row_keepB RU.out hG.below))) hG.below
                  · exact rol_val rfl rfl rfl (by rw [hz]; decide) (ex_move (Or.inl rfl) (eval_slot ((hG.slots 0 (by decide)).trans rfl))) hG.below
                  · exact rol_val rfl rfl rfl (by rw [hz]; decide) (ex_move (Or.inl rfl) (eval_slot ((hG.slots 22 (by decide)).trans rfl))) hG.below
                  · exact rol_val rfl rfl rfl (by rw [hz]; decide) (ex_index rfl (eval_slot (hF 1 (by decide))) (eval_slot (hF 2 (by decide))) (idx_nds HLT.out)) hG.below
                  · exact rol_val rfl rfl rfl (by rw [hz]; decide) (ex_load rfl (eval_slot (hF 3 (by decide))) (ld_node (cell_keep k0 hG.below) (cell_keep k1 hG.below))) hG.below
                  · exact rol_val rfl rfl rfl (by rw [hz]; decide) (ex_move (Or.inl rfl) (eval_slot ((hG.slots 1 (by decide)).trans rfl))) hG.below
                  · exact rol_val rfl rfl rfl (by rw [hz]; decide) (ex_move (Or.inl rfl) (eval_slot ((hG.slots 22 (by decide)).trans rfl))) hG.below
                  · exact rol_val rfl rfl rfl (by rw [hz]; decide) (ex_index rfl (eval_slot (hF 5 (by decide))) (eval_slot (hF 6 (by decide))) (idx_ndl HLT.out)) hG.below
                  · exact rol_val rfl rfl rfl (by rw [hz]; decide) (ex_load rfl (eval_slot (hF 7 (by decide))) (ld_ndsU (cell_keep c0 hG.below))) hG.below
                  · refine rol_calls rfl rfl rfl (by rw [hz]; decide) (ex_call rfl (by simp [eval_slot (hF 0 (by decide)), eval_slot (hF 4 (by decide)), eval_slot (hF 8 (by decide))]) en3) (KA.out wx (dfs_rowU (ownsRow_belowB ROWU.out hG.below)) (SY.out.below hG.below)) ?_ hG.below hG.new
                    rintro e w1 ⟨u, rfl, hown, hb1⟩
                    exact ⟨_, rfl, hb1, .inr (.inl ⟨_, u.ownBlock, rfl, fun b e => hown.lt b e, _, rfl, u, rfl, row_base hown hG.new, rfl⟩)⟩
                  · exact rol_move rfl rfl rfl (by rw [hz]; decide) (Or.inl rfl) (hF 9 (by decide)) hG.below
                  · exact rol_read rfl rfl rfl (by rw [hz]; decide) (hF 10 (by decide)) (fun v ob hv hp => by
                      obtain ⟨u, rfl, hu⟩ := hp
                      exact ⟨u, ex_extract rfl (eval_slot hv) rfl, hu⟩) hG.below
                  · obtain ⟨v', ob, hv, hob, u, rfl, hu⟩ := hF 10 (by decide)
                    exact rol_val rfl rfl rfl (by rw [hz]; decide) (ex_extract rfl (eval_slot hv) rfl) hG.below
                  · exact rol_alloc_use rfl rfl rfl (by rw [hz]; decide) rfl hG.below (Nat.le_refl _) hG.new
                  · exact rol_fill_use rfl rfl rfl rfl (hF 13 (by decide)) (hF 11 (by decide)) hG.below (Nat.le_refl _)
                  · exact rol_val rfl rfl rfl (by rw [hz]; decide) (ex_move (Or.inr rfl) (eval_slot (hF 12 (by decide)))) hG.below
                · intro a wx who hG hF
                  obtain ⟨v178, ob178, fv178, fo178, fp178⟩ := hF 11 (of_decide_eq_true (by kernel_rfl)) (of_decide_eq_true (by kernel_rfl))
                  replace fv178 : a.tmps.getD 178 undef = v178 := eval_slot (s := 178) fv178
                  have fv24 : a.tmps.getD 24 undef = .int .i64 0 := eval_slot (s := 24) (hF 15 (of_decide_eq_true (by kernel_rfl)) (of_decide_eq_true (by kernel_rfl)))
                  have htie := hF 14 (of_decide_eq_true (by kernel_rfl)) (of_decide_eq_true (by kernel_rfl))
                  obtain ⟨p3, u3, ob3, hp3, hu3, -, gA, x3, y3, z3, rfl, -, rfl, hgx, hrow3⟩ := htie
                  have q3 : v178 = .agg #[x3, y3, z3] := fv178.symm.trans (eval_slot hu3)
                  have fv23 : a.tmps.getD 23 undef = .pointer (some ⟨gA, 0, none⟩) := eval_slot (s := 23) hp3
                  clear hp3 hu3 ob3
                  have hbx := hG.below
                  have hnx := hG.new
                  rw [hG.frame]
                  simp only [List.foldl_cons, List.foldl_nil, List.setIfInBounds_toArray, List.set_cons_zero, List.set_cons_succ]
                  generalize a.tmps.getD 168 undef = u168
                  generalize a.tmps.getD 169 undef = u169
                  generalize a.tmps.getD 170 undef = u170
                  generalize a.tmps.getD 171 undef = u171
                  generalize a.tmps.getD 172 undef = u172
                  generalize a.tmps.getD 173 undef = u173
                  generalize a.tmps.getD 174 undef = u174
                  generalize a.tmps.getD 175 undef = u175
                  generalize a.tmps.getD 176 undef = u176
                  generalize a.tmps.getD 177 undef = u177
                  generalize a.tmps.getD 167 undef = u167
                  rw [fv178]
                  generalize a.tmps.getD 179 undef = u179
                  rw [fv23]
                  rw [fv24]
                  clear hF hG fv178 fv24 fv23
                  obtain ⟨x9, hx9, hrow, -⟩ := fp178
                  obtain ⟨pA, cA, rfl, -⟩ := dfsO hrow
                  rw [q3] at hx9 ⊢
                  injection hx9 with hx9
                  injection hx9 with hx9
                  injection hx9 with q1 hx9
                  injection hx9 with q2 hx9
                  injection hx9 with q4 _
                  subst q1 q2 q4 q3
                  rw [HNA.out] at hrow3 hrow ⊢
                  have RA := Lib.hid hrow3; have ROWA := Lib.hid hrow; have HGA := Lib.hid hgx
                  replace RU := Lib.hid (row_keepB RU.out hbx)
                  replace HBW := Lib.hid (below_step HBW.out hbx)
                  have HGX := Lib.hid (show gu + 2 ≤ wx.heap.size from Nat.le_trans HGV2.out hbx.size)
                  clear hbx hnx hgx hrow hrow3 fo178 ROWU k0 k1 c0
                  obtain ⟨u0, u1, u2, f0, f1, f2⟩ := row3 RU.out
                  obtain ⟨a0, a1, a2, -⟩ := row3 RA.out
                  go_wp2
                  go_roundw
                  case rel => exact ⟨i9 + 1, by omega, by go_num, Lib.hid ((show UB _ gu (gu + 2) mA eA (S2 ++ root) from ⟨pA, nA, cA, row3_set RU.out _ _ _, by rw [HDA.out]; exact row_base (row_far3 ROWA.out HGVL.out _ _ _) HGV2.out⟩).cast (by rw [← HMAE.out, ← HMU.out]; push_cast; omega) (by rw [HS2.out, ← HEAE.out]; push_cast; rfl) (by rw [HS2.out])), Lib.hid (((HBW.out.setCell HGL.out _).setCell HGL.out _).setCell HGL.out _), Lib.hid (by simp only [World.setCell, Array.size_modify]; exact HGX.out)⟩
                  case measure => simp [intOf]; omega
              · have e9 : i9 = k := by omega
                subst e9
                have HU5 := Lib.hid (HU.out.cast (m' := 0) (e' := (j : Int) - (0 : Nat)) (X' := root.drop 0) (by omega) (by rw [List.drop_eq_nil_of_le (by rw [HNK.out]; exact Nat.le_refl _)]; simp [spokeL]) (by rw [List.drop_eq_nil_of_le (by rw [HNK.out]; exact Nat.le_refl _)]; simp [spokeL]))
                have HBW5 := HBW
                have HG5 := HG3
                clear HU HBW HG3 hlt
                go_wp2
                go_loopw [25] (fun i wr => ∃ i8 : Nat, i8 ≤ j ∧ i = .int .i64 i8 ∧ Hid (UB wr gu (gu + 2) 0 ((j : Int) - i8) (root.drop i8)) ∧ Hid (Below WX.heap.size WX wr) ∧ Hid (gu + 2 ≤ wr.heap.size)) (fun i _ => j - (intOf i).toNat)
                case atStart => exact ⟨0, Nat.zero_le _, rfl, HU5, HBW5, HG5⟩
                case round =>
                  obtain ⟨i8, hi8, rfl, HU, HBW, HG3⟩ := hrel
                  by_cases hlt : i8 < j
                  · have hjr : i8 < root.length := by rw [HNR.out]; exact hlt
                    obtain ⟨bk, ok, hbk, -, k0, k1⟩ := SR.out.at i8 hjr
                    obtain rfl : pSR = some ⟨bk, ok, none⟩ := hbk
                    have htb : root.drop i8 = root.getD i8 ([], []) :: root.drop (i8 + 1) := by rw [List.drop_eq_getElem_cons hjr, nd_getD hjr]
                    have hko := HOR.out _ (nd_mem hjr)
                    have hks := HSR.out _ (nd_mem hjr)
                    obtain ⟨y, hy⟩ : ∃ y, y = root.getD i8 ([], []) := ⟨_, rfl⟩
                    rw [← hy] at k0 k1 htb hko hks
                    obtain ⟨y1, y2⟩ := y
                    simp only at k0 k1
                    have hm1 : ∀ x ∈ root.drop i8, okN x = true ∧ smallN x := fun x hx => ⟨HOR.out x (List.mem_of_mem_drop hx), HSR.out x (List.mem_of_mem_drop hx)⟩
                    have hm2 : ∀ x ∈ root.drop (i8 + 1), okN x = true ∧ smallN x := fun x hx => ⟨HOR.out x (List.mem_of_mem_drop hx), HSR.out x (List.mem_of_mem_drop hx)⟩
                    have hl1 : (root.drop i8).length ≤ 300 := by rw [List.length_drop, HNR.out]; omega
                    have hl2 : (root.drop (i8 + 1)).length ≤ 300 := by rw [List.length_drop, HNR.out]; omega
                    obtain ⟨S1, hS1⟩ : ∃ L, root.drop i8 = L := ⟨_, rfl⟩
                    obtain ⟨S2, hS2⟩ : ∃ L, root.drop (i8 + 1) = L := ⟨_, rfl⟩
                    rw [hS1] at htb hm1 hl1 HU
                    rw [hS2] at htb hm2 hl2
                    have oy : ∀ n ∈ [(y1, y2)], okN n = true := fun n hn => by rw [List.mem_singleton.1 hn]; exact hko
                    have ha := step_less (m := 0) (e := (j : Int) - i8) (k := 0) (e' := (j : Int) - ((i8 : Int) + 1)) (old := [(y1, y2)]) (fun n hn => (hm1 n hn).1) oy (fun n hn => (hm2 n hn).1) (by omega) (by simp) (by omega) (by omega) (by omega) (by omega) (by simp; omega) (by omega) (fun n => by rw [htb, cntN_cons, cntN_cons, cntN_nil]; omega)
                    have ka := fun A n c w h => rootoff_any 0 ((j : Int) - i8) A n c (difL [] S1) y1 y2 w h (dif_smU hm1 (by omega)) hks (dif_lenU (by omega))
                    rw [ha] at ka
                    simp only [Int.add_zero] at ka
                    obtain ⟨DA, hDA⟩ : ∃ D, difL [] S2 = D := ⟨_, rfl⟩
                    rw [hDA] at ka
                    obtain ⟨nA, hnA⟩ : ∃ n, DA.length = n := ⟨_, rfl⟩
                    obtain ⟨eA, heA⟩ : ∃ z, (j : Int) - ((i8 : Int) + 1) = z := ⟨_, rfl⟩
                    obtain ⟨eU, heU⟩ : ∃ z, (j : Int) - (i8 : Int) = z := ⟨_, rfl⟩
                    obtain ⟨DU, hDU⟩ : ∃ D, difL [] S1 = D := ⟨_, rfl⟩
                    rw [heA, heU, hDU] at ka
                    obtain ⟨au, nu, cu, hru, hrowu⟩ := HU.out
                    rw [heU] at hru
                    rw [hDU] at hrowu
                    have RU := Lib.hid hru; have ROWU := Lib.hid hrowu
                    have KA := Lib.hid (fun w h => ka au nu cu w h)
                    have HNA := Lib.hid hnA; have HDA := Lib.hid hDA; have HEAE := Lib.hid heA; have HS2 := Lib.hid hS2
                    have HLT := Lib.hid hlt
                    replace k0 := cell_keep k0 HBW.out; replace k1 := cell_keep k1 HBW.out
                    have HGVL := Lib.hid (show gu < wr.heap.size from (Array.getElem?_eq_some_iff.1 hru).1)
                    have hib : (i8 : Int) < (j : Int) := by omega
                    clear hjr htb hko hks hy hm1 hm2 hl1 hl2 hS1 hS2 oy ha ka hDA hnA heA heU hDU hru hrowu HU
                    have HGV2 := Lib.hid (show gu + 2 ≤ wr.heap.size from HG3.out)
                    go_upto_region 35 with fail
                    refine rol_run (by kernel_rfl) [[], [], [], [1, 2], [1, 2, 3], [0, 1, 2, 3, 4], [0, 1, 2, 3, 4, 5], [0, 1, 2, 3, 4, 5, 6], [0, 1, 2, 3, 4, 5, 6], [], [0, 1, 2, 3, 4, 5, 6, 7, 9], [0, 1, 2, 3, 4, 5, 6, 7, 8, 9, 10]] (by kernel_rfl) [190, 191, 192, 193, 194, 195, 189, 196, 197, 26, 27] [[], [], [], [1, 2], [3], [0, 4], [5], [6], [6], [], [7, 9], [8]] [0, 0, 0, 0, 0, 1, 1, 1, 0, 2, 2, 0] [0, 0, 0, 0, 0, 0, 0, 0, 0, 0, 2, 0] [1000, 1000, 1000, 1000, 1000, 1000, 1000, 1000, 1000, 10, 1000, 1000] [.val 190 (.agg #[.int .i64 0, .int .i64 eU, .slice au nu cu]), .val 191 (.slice (some ⟨bk, ok, none⟩) j cSR), .val 192 (.int .i64 (i8 : Int)), .val 193 (.pointer (some ⟨bk, ok + i8 * 2, none⟩)), .val 194 (.agg #[.string (mkB y1), .string (mkB y2)]), .mem 195 (tupU wr.heap.size (0) (eA) DA (.int .i64 0)), .mem 189 (tupU wr.heap.size (0) (eA) DA (.int .i64 0)), .mem 196 (useG wr.heap.size (0) (eA) DA), .val 197 (.int .i64 0), .mem 26 (cell3P wr.heap.size 24 (.int .i64 0) (.int .i64 0) (.slice none 0 0)), .mem2 26 196 (tie3P wr.heap.size 24), .val 27 (.int .i64 0)] (by kernel_rfl) ?_ (wr.heap.size) (wr.heap.size) rfl (Below.refl _ _) rfl (fun _ => 0) ?_ ?_ ?_
                    · intro j hj
                      have hj3 : j < 12 := hj
                      have hj2 : j = 0 ∨ j = 1 ∨ j = 2 ∨ j = 3 ∨ j = 4 ∨ j = 5 ∨ j = 6 ∨ j = 7 ∨ j = 8 ∨ j = 9 ∨ j = 10 ∨ j = 11 := by omega
                      clear hj hj3
                      rcases hj2 with rfl | rfl | rfl | rfl | rfl | rfl | rfl | rfl | rfl | rfl | rfl | rfl
                      · exact trivial
                      · exact trivial
                      · exact trivial
                      · exact trivial
                      · exact trivial
                      · exact tupU_near
                      · exact tupU_near
                      · exact useG_near
                      · exact trivial
                      · exact cell3P_near
                      · exact tie3P_near
                      · exact trivial
                    · intro j hj0 hj
                      exact absurd hj (Nat.not_lt.2 hj0)
                    · intro i hi a wx who hG hF
                      have hz : a.tmps.size = 207 := hG.size
                      have hi3 : i < 12 := hi
                      have hi2 : i = 0 ∨ i = 1 ∨ i = 2 ∨ i = 3 ∨ i = 4 ∨ i = 5 ∨ i = 6 ∨ i = 7 ∨ i = 8 ∨ i = 9 ∨ i = 10 ∨ i = 11 := by omega
                      clear hi hi3
                      rcases hi2 with rfl | rfl | rfl | rfl | rfl | rfl | rfl | rfl | rfl | rfl | rfl | rfl
                      · exact rol_val rfl rfl rfl (by rw [hz]; decide) (ex_load rfl (eval_slot ((hG.slots 9 (by decide)).trans rfl)) (ld_use (row_keepB RU.out hG.below))) hG.below
                      · exact rol_val rfl rfl rfl (by rw [hz]; decide) (ex_move (Or.inl rfl) (eval_slot ((hG.slots 2 (by decide)).trans rfl))) hG.below
                      · exact rol_val rfl rfl rfl (by rw [hz]; decide) (ex_move (Or.inl rfl) (eval_slot ((hG.slots 25 (by decide)).trans rfl))) hG.below
                      · exact rol_val rfl rfl rfl (by rw [hz]; decide) (ex_index rfl (eval_slot (hF 1 (by decide))) (eval_slot (hF 2 (by decide))) (idx_nds HLT.out)) hG.below
                      · exact rol_val rfl rfl rfl (by rw [hz]; decide) (ex_load rfl (eval_slot (hF 3 (by decide))) (ld_node (cell_keep k0 hG.below) (cell_keep k1 hG.below))) hG.below
                      · refine rol_calls rfl rfl rfl (by rw [hz]; decide) (ex_call rfl (by simp [eval_slot (hF 0 (by decide)), eval_slot (hF 4 (by decide))]; rfl) en2) (KA.out wx (dfs_rowU (ownsRow_belowB ROWU.out hG.below))) ?_ hG.below hG.new
                        rintro e w1 ⟨u, rfl, hown, hb1⟩
                        exact ⟨_, rfl, hb1, .inr (.inl ⟨_, u.ownBlock, rfl, fun b e => hown.lt b e, _, rfl, u, rfl, row_base hown hG.new, rfl⟩)⟩
                      · exact rol_move rfl rfl rfl (by rw [hz]; decide) (Or.inl rfl) (hF 5 (by decide)) hG.below
                      · exact rol_read rfl rfl rfl (by rw [hz]; decide) (hF 6 (by decide)) (fun v ob hv hp => by
                          obtain ⟨u, rfl, hu⟩ := hp
                          exact ⟨u, ex_extract rfl (eval_slot hv) rfl, hu⟩) hG.below
                      · obtain ⟨v', ob, hv, hob, u, rfl, hu⟩ := hF 6 (by decide)
                        exact rol_val rfl rfl rfl (by rw [hz]; decide) (ex_extract rfl (eval_slot hv) rfl) hG.below
                      · exact rol_alloc_use rfl rfl rfl (by rw [hz]; decide) rfl hG.below (Nat.le_refl _) hG.new
                      · exact rol_fill_use rfl rfl rfl rfl (hF 9 (by decide)) (hF 7 (by decide)) hG.below (Nat.le_refl _)
                      · exact rol_val rfl rfl rfl (by rw [hz]; decide) (ex_move (Or.inr rfl) (eval_slot (hF 8 (by decide)))) hG.below
                    · intro a wx who hG hF
                      obtain ⟨v196, ob196, fv196, fo196, fp196⟩ := hF 7 (of_decide_eq_true (by kernel_rfl)) (of_decide_eq_true (by kernel_rfl))
                      replace fv196 : a.tmps.getD 196 undef = v196 := eval_slot (s := 196) fv196
                      have fv27 : a.tmps.getD 27 undef = .int .i64 0 := eval_slot (s := 27) (hF 11 (of_decide_eq_true (by kernel_rfl)) (of_decide_eq_true (by kernel_rfl)))
                      have htie := hF 10 (of_decide_eq_true (by kernel_rfl)) (of_decide_eq_true (by kernel_rfl))
                      obtain ⟨p3, u3, ob3, hp3, hu3, -, gA, x3, y3, z3, rfl, -, rfl, hgx, hrow3⟩ := htie
                      have q3 : v196 = .agg #[x3, y3, z3] := fv196.symm.trans (eval_slot hu3)
                      have fv26 : a.tmps.getD 26 undef = .pointer (some ⟨gA, 0, none⟩) := eval_slot (s := 26) hp3
                      clear hp3 hu3 ob3
                      have hbx := hG.below
                      have hnx := hG.new
                      rw [hG.frame]
                      simp only [List.foldl_cons, List.foldl_nil, List.setIfInBounds_toArray, List.set_cons_zero, List.set_cons_succ]
                      generalize a.tmps.getD 190 undef = u190
                      generalize a.tmps.getD 191 undef = u191
                      generalize a.tmps.getD 192 undef = u192
                      generalize a.tmps.getD 193 undef = u193
                      generalize a.tmps.getD 194 undef = u194
                      generalize a.tmps.getD 195 undef = u195
                      generalize a.tmps.getD 189 undef = u189
                      rw [fv196]
                      generalize a.tmps.getD 197 undef = u197
                      rw [fv26]
                      rw [fv27]
                      clear hF hG fv196 fv27 fv26
                      obtain ⟨x9, hx9, hrow, -⟩ := fp196
                      obtain ⟨pA, cA, rfl, -⟩ := dfsO hrow
                      rw [q3] at hx9 ⊢
                      injection hx9 with hx9
                      injection hx9 with hx9
                      injection hx9 with q1 hx9
                      injection hx9 with q2 hx9
                      injection hx9 with q4 _
                      subst q1 q2 q4 q3
                      rw [HNA.out] at hrow3 hrow ⊢
                      have RA := Lib.hid hrow3; have ROWA := Lib.hid hrow; have HGA := Lib.hid hgx
                      replace RU := Lib.hid (row_keepB RU.out hbx)
                      replace HBW := Lib.hid (below_step HBW.out hbx)
                      have HGX := Lib.hid (show gu + 2 ≤ wx.heap.size from Nat.le_trans HGV2.out hbx.size)
                      clear hbx hnx hgx hrow hrow3 fo196 ROWU k0 k1
                      obtain ⟨u0, u1, u2, f0, f1, f2⟩ := row3 RU.out
                      obtain ⟨a0, a1, a2, -⟩ := row3 RA.out
                      go_wp2
                      go_roundw
                      case rel => exact ⟨i8 + 1, by omega, by go_num, Lib.hid ((show UB _ gu (gu + 2) 0 eA S2 from ⟨pA, nA, cA, row3_set RU.out _ _ _, by rw [HDA.out]; exact row_base (row_far3 ROWA.out HGVL.out _ _ _) HGV2.out⟩).cast rfl (by rw [← HEAE.out]; push_cast; rfl) (by rw [HS2.out])), Lib.hid (((HBW.out.setCell HGL.out _).setCell HGL.out _).setCell HGL.out _), Lib.hid (by simp only [World.setCell, Array.size_modify]; exact HGX.out)⟩
                      case measure => simp [intOf]; omega
                  · have e9 : i8 = j := by omega
                    subst e9
                    have HU6 := HU.out.cast (m' := 0) (e' := 0) (X' := []) rfl (by omega) (by rw [List.drop_eq_nil_of_le (by rw [HNR.out]; exact Nat.le_refl _)])
                    obtain ⟨au, nu, cu, hru, hrowu⟩ := HU6
                    have SU := Lib.hid (show Dfs wr (.slice au nu cu) [] from dfs_rowU (D := []) hrowu)
                    obtain ⟨u0, u1, u2, -⟩ := row3 hru
                    have BB9 := Lib.hid (below_step BB.out HBW.out)
                    clear hru hrowu HU hlt
                    go_wp2_with (first
                      | (go_at_call 17; refine (usame_any _ _ _ _ _ _ _ _ _ _ _ _ _ SU.out (dfs_none _)).mono ?_; rintro e w9 ⟨rfl, hb1⟩; rw [sameU_self]; replace BB9 := Lib.hid (below_step BB9.out hb1); clear hb1)
                      | (go_at_call 20; refine (rawake_any _).mono ?_; rintro e w9 ⟨rfl, hb1⟩; replace BB9 := Lib.hid (below_step BB9.out hb1); clear hb1))
                    go_ret
                    exact ⟨rfl, BB9.out⟩
  · have hz : (ofE ks ls root).2 ≠ 0 := by
      by_cases h1 : nl = nk
      · have h2 : allN2 (root ++ spokeL ks ls) = false := by
          cases q : allN2 (root ++ spokeL ks ls)
          · rfl
          · exact absurd ⟨h1, q⟩ hok
        rw [ofE_yes (by rw [HNL.out, HNK.out]; exact h1), chgE_no (by rw [h2]; rfl)]
        show (1 : Int) ≠ 0
        decide
      · rw [ofE_no (by rw [HNL.out, HNK.out]; exact h1)]
        show (1 : Int) ≠ 0
        decide
    clear hok
    obtain ⟨RO, hRO⟩ : ∃ r, ofE ks ls root = r := ⟨_, rfl⟩
    rw [hRO] at ko hz
    obtain ⟨⟨um, ue, us⟩, uz⟩ := RO
    simp only at ko hz
    obtain ⟨nu, hnu⟩ : ∃ n, us.length = n := ⟨_, rfl⟩
    have HNU := Lib.hid hnu; have KO := Lib.hid ko
    have d0 : (uz != 0) = true := by simp [hz]
    clear hnu ko hRO hz
    go_enter Tryz.func6, Tryz.ntmps6
    go_upto_region 2 with (first
        | (go_at_call 12; refine (KFK.out _ SU.out).mono ?_; rintro e w1 ⟨v1, rfl, hrow, hb1⟩; replace SV := Lib.hid (SV.out.below hb1); replace SZ := Lib.hid (SZ.out.below hb1); replace BB := Lib.hid (below_step BB.out hb1); obtain ⟨pSK, cSK, rfl, hd⟩ := ndsO hrow; rw [HNK.out] at hd ⊢; have SK := Lib.hid hd; clear hrow hd hb1 KFK SU)
        | (go_at_call 26; refine (KFL.out _ SV.out).mono ?_; rintro e w1 ⟨v1, rfl, hnl9, hb1⟩; replace SK := Lib.hid (SK.out.below hb1); replace SZ := Lib.hid (SZ.out.below hb1); replace BB := Lib.hid (below_step BB.out hb1); obtain ⟨pSL, cSL, rfl, -⟩ := hnl9.ex; rw [HNL.out] at hnl9 ⊢; have SL := Lib.hid hnl9; clear hnl9 hb1 KFL SV)
        | (go_at_call 12; refine (KFR.out _ SZ.out).mono ?_; rintro e w1 ⟨v1, rfl, hrow, hb1⟩; replace SK := Lib.hid (SK.out.below hb1); replace SL := Lib.hid (SL.out.below hb1); replace BB := Lib.hid (below_step BB.out hb1); obtain ⟨pSR, cSR, rfl, hd⟩ := ndsO hrow; rw [HNR.out] at hd ⊢; have SR := Lib.hid hd; clear hrow hd hb1 KFR SZ))
    go_upto_region 3 with (go_at_call 27; refine (KO.out _ _ _ _ SK.out SL.out SR.out).mono ?_; rintro e w1 ⟨v1, rfl, hrow, hb1⟩; obtain ⟨pU, cU, rfl, hd⟩ := dfsO hrow; rw [HNU.out] at hd ⊢; have SU := Lib.hid hd; replace SK := Lib.hid (SK.out.below hb1); replace SL := Lib.hid (SL.out.below hb1); replace SR := Lib.hid (SR.out.below hb1); replace BB := Lib.hid (below_step BB.out hb1); clear hrow hd hb1 KO)
    obtain ⟨WU, gU, hW2, hg2, hr2, hb1⟩ := boxU w1 (.int .i64 um) (.int .i64 ue) (.slice pU nu cU) 24
    rw [hW2, hg2]
    replace SK := Lib.hid (SK.out.below hb1); replace SL := Lib.hid (SL.out.below hb1); replace SR := Lib.hid (SR.out.below hb1); replace SU := Lib.hid (SU.out.below hb1); replace BB := Lib.hid (below_step BB.out hb1)
    obtain ⟨u0, u1, u2, -⟩ := row3 hr2
    clear hW2 hg2 hr2 hb1
    go_wp2_with (go_at_call 20; refine (rawake_any _).mono ?_; rintro e w9 ⟨rfl, hb1⟩; replace u0 := cell_keep u0 hb1; replace u1 := cell_keep u1 hb1; replace u2 := cell_keep u2 hb1; replace SK := Lib.hid (SK.out.below hb1); replace SL := Lib.hid (SL.out.below hb1); replace SR := Lib.hid (SR.out.below hb1); replace SU := Lib.hid (SU.out.below hb1); replace BB := Lib.hid (below_step BB.out hb1); clear hb1)
    go_ret
    exact ⟨rfl, BB.out⟩

theorem own : ownKnob Tryz.prog.godebug = none := by kernel_rfl
theorem laidOut : laidOutB Tryz.prog = true := by kernel_rfl

set_option maxRecDepth 100000 in
theorem lifted (os : Os) (started : os.Started) (H : Type) (enc : TypeId × Value → H) :
    ReturnsInHanded {} Tryz.checked os 6 .any (Rows.roomBackSpec.pre6 enc Tryz.prog Tryz.f6 Rows.roomBackRow.domain false) (Rows.roomBackSpec.post enc Tryz.prog Tryz.f6 false true false false) := by
  refine returnsInHanded_of_change (C := Tryz.checked) own started (by kernel_rfl) Tryz.func6
    (ChangeSpec.witness6 (enc := enc) (C := Tryz.checked) false ⟨#[], #[.slice none 0 0, .slice none 0 0, .slice none 0 0], []⟩ 8 (by kernel_rfl) (by kernel_rfl) (by kernel_rfl) (by kernel_rfl)) ?_
  intro W base args ds gs before hval0 hW hcnd _
  have hval : ∀ (j : Nat) t v, Tryz.f6.params[j]? = some t → args[j]? = some v → Value.okWide Tryz.prog W .any base t v := hval0
  have hW' := hW
  obtain ⟨p, q, hA0, hV, rfl, hfz, hnd⟩ := hW
  have hA : DataW.TrodAll enc Tryz.prog W 0 (fun _ => true) true Tryz.f6.params.toList args.toList ds p := hA0
  rw [Tryz.params6] at hA hval
  obtain ⟨v0, vs0, d0, ds0, p0, q0, hargs, rfl, rfl, h0, r0⟩ := trodAll_cons hA
  obtain ⟨v1, vs1, d1, ds1, p1, q1, rfl, rfl, rfl, h1, r1⟩ := trodAll_cons r0
  obtain ⟨v2, vs2, d2, ds2, p2, q2, rfl, rfl, rfl, h2, r2⟩ := trodAll_cons r1
  obtain ⟨rfl, rfl, rfl⟩ := trodAll_nil r2
  obtain rfl : args = #[v0, v1, v2] := by cases args; simp_all
  obtain ⟨rfl, rfl⟩ := trodVars_none hV
  obtain ⟨a0, len0, cap0, rfl⟩ := okWide_slice Tryz.underlying27 (hval 0 27 v0 rfl rfl)
  have k0 := h0
  have lt0 : ∀ x ∈ p0, x.block < W.heap.size := by obtain ⟨m, hm⟩ := k0; exact DataW.trod_lt m _ _ _ hm
  obtain ⟨z0, w0⟩ : ∃ zs, Nds W (.slice a0 len0 cap0) zs ∧ ∀ n ∈ zs, fitsN n := by
    obtain ⟨fuel, hf⟩ := h0
    exact nds_open (by simpa [Value.cells] using hf)
  obtain ⟨a1, len1, cap1, rfl⟩ := okWide_slice Tryz.underlying49 (hval 1 49 v1 rfl rfl)
  have k1 := h1
  have lt1 : ∀ x ∈ p1, x.block < W.heap.size := by obtain ⟨m, hm⟩ := k1; exact DataW.trod_lt m _ _ _ hm
  obtain ⟨z1, w1⟩ : ∃ zs, NdL W (.slice a1 len1 cap1) zs ∧ ∀ k ∈ zs, ∀ n ∈ k, fitsN n := by
    obtain ⟨fuel, hf⟩ := h1
    exact ndl_open (by simpa [Value.cells] using hf)
  obtain ⟨a2, len2, cap2, rfl⟩ := okWide_slice Tryz.underlying27 (hval 2 27 v2 rfl rfl)
  have k2 := h2
  have lt2 : ∀ x ∈ p2, x.block < W.heap.size := by obtain ⟨m, hm⟩ := k2; exact DataW.trod_lt m _ _ _ hm
  obtain ⟨z2, w2⟩ : ∃ zs, Nds W (.slice a2 len2 cap2) zs ∧ ∀ n ∈ zs, fitsN n := by
    obtain ⟨fuel, hf⟩ := h2
    exact nds_open (by simpa [Value.cells] using hf)
  clear hA0 hval0
  refine (walk _ z0 _ z1 _ z2 W w0 w1 w2).mono fun e W' ⟨he, bel⟩ => ?_
  subst he
  exact ⟨_, rfl, _, _, _, [], _, [], hW', trodAll_mk1 (shut_bool Tryz.underlying4 _), (trodAll_cons_mk (Below.trod laidOut (by kernel_rfl) (of_decide_eq_true (by kernel_rfl)) k0 bel lt0) (trodAll_cons_mk (Below.trod laidOut (by kernel_rfl) (of_decide_eq_true (by kernel_rfl)) k1 bel lt1) (trodAll_cons_mk (Below.trod laidOut (by kernel_rfl) (of_decide_eq_true (by kernel_rfl)) k2 bel lt2) trodAll_mk0))), rfl, bel.frame _, fun h => by cases h⟩

-- the given statement
theorem proved : Rows.RoomBackSaid :=
  OpenClaim.holds_of_wide 6 Tryz.f6 rfl rfl rfl rfl rfl rfl rfl ⟨rfl, rfl, rfl, rfl, rfl⟩ rfl rfl rfl rfl rfl (by kernel_rfl) Tryz.func6 (by kernel_rfl)
    (of_decide_eq_true (by kernel_rfl)) (by unfold Func.isWrapper; first | (rw [if_pos (by decide +kernel)]; kernel_rfl) | (rw [if_neg (by decide +kernel)]; exact ⟨rfl, rfl⟩))
    (fun os started H enc _ => lifted os started H enc)
end Go.Proofs.YtglhjdbnpdoinaaGreat.roomBack
