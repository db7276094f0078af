/- Of every two lists of edits (no more than are looked at): Check, Both and Turn answer as the document says, or tell why not; no condition. -/
import Derived.Test.YtopcbmmnjmmoiaaGreatRows
import Derived.Test.YtopcbmmnjmmoiaaGreatDifU
import Derived.ProofKit
import Derived.OpenShut
import Derived.ShutString
import Derived.ChangeOld
namespace Go.Proofs.YtopcbmmnjmmoiaaGreat.diffEdits
open Go.ChangeShapes Go.WideShapes Go.ChangeAt Go.RowKit
open Go.ChangeMaps (open_string shut_string)
set_option maxRecDepth 100000
set_option linter.unusedVariables false

theorem merge_small {a b : List De} (oa : okD a = true) (ob : okD b = true) (sa : ∀ e ∈ a, smallD e) (sb : ∀ e ∈ b, smallD e) (la : a.length ≤ 1000) (lb : b.length ≤ 1000) : ∀ e ∈ mergeD a b, smallD e := fun e he => by
  obtain ⟨hr, -, -, hb⟩ := merge_parts oa ob
  have h1 := byD_mem hr he
  rw [hb] at h1
  have h2 := byD_bound (okD_in oa) e.1
  have h3 := byD_bound (okD_in ob) e.1
  have hs : smallN e.1 := by
    rcases merge_keys a b e.1 (List.mem_map_of_mem he) with k | k
    · obtain ⟨x, hx, hxe⟩ := List.mem_map.1 k
      rw [← hxe]; exact (sa x hx).1
    · obtain ⟨x, hx, hxe⟩ := List.mem_map.1 k
      rw [← hxe]; exact (sb x hx).1
  exact ⟨hs, by unfold fitI; omega⟩
theorem turn_at {l : List De} {k : Nat} (h : k < l.length) : (turnD l).getD k zD = ((l.getD k zD).1, -(l.getD k zD).2) := by
  have h2 : k < (turnD l).length := by rw [turn_len]; exact h
  rw [df_getD h, df_getD h2]
  simp only [turnD, List.getElem_map]
set_option maxHeartbeats 3200000 in
theorem walk (U : Value) (A : List De) (V : Value) (B : List De) (w : World) (hU0 : Dfs w U A ∧ ∀ e ∈ A, fitD e) (hV0 : Dfs w V B ∧ ∀ e ∈ B, fitD e) :
    Calls Tryz.prog 4 #[U, V] w fun e w' => e = .returned (.bool true) ∧ Below w.heap.size w w' := by
  obtain ⟨hU, fA⟩ := hU0
  have kfa := fun w h => dfewo_any U A w h fA
  have la := fewDs_len A
  have sa := fewDs_small fA
  obtain ⟨pU, cU, rfl, -⟩ := hU.ex
  obtain ⟨mU, hmU⟩ : ∃ n, A.length = n := ⟨_, rfl⟩
  rw [hmU] at hU kfa ⊢
  obtain ⟨a, ha⟩ : ∃ l, fewDs A = l := ⟨_, rfl⟩
  rw [ha] at kfa la sa
  obtain ⟨na, hna⟩ : ∃ n, a.length = n := ⟨_, rfl⟩
  rw [hna] at la
  have SU := Lib.hid hU; have KFa := Lib.hid kfa; have Hna := Lib.hid hna; have SMa := Lib.hid sa
  clear hU fA kfa hmU ha hna sa
  obtain ⟨hV, fB⟩ := hV0
  have kfb := fun w h => dfewo_any V B w h fB
  have lb := fewDs_len B
  have sb := fewDs_small fB
  obtain ⟨pV, cV, rfl, -⟩ := hV.ex
  obtain ⟨mV, hmV⟩ : ∃ n, B.length = n := ⟨_, rfl⟩
  rw [hmV] at hV kfb ⊢
  obtain ⟨b, hb⟩ : ∃ l, fewDs B = l := ⟨_, rfl⟩
  rw [hb] at kfb lb sb
  obtain ⟨nb, hnb⟩ : ∃ n, b.length = n := ⟨_, rfl⟩
  rw [hnb] at lb
  have SV := Lib.hid hV; have KFb := Lib.hid kfb; have Hnb := Lib.hid hnb; have SMb := Lib.hid sb
  clear hV fB kfb hmV hb hnb sb
  have kb := fun U V w h h' => both_any U V a b w h h' SMa.out SMb.out (by rw [Hna.out]; omega) (by rw [Hnb.out]; omega)
  have kt := fun U w h => turn_any U a w h SMa.out (by rw [Hna.out]; omega)
  have kk := fun U w h => dcheck_any U a w h SMa.out (by rw [Hna.out]; omega)
  have km := fun U w h => refdmay_any U a w h SMa.out
  have kn := fun U w h => refdmay_any U b w h SMb.out
  have BB := Lib.hid (Below.refl w.heap.size w)
  obtain ⟨o, ho⟩ : ∃ o, okD a = o := ⟨_, rfl⟩
  obtain ⟨p, hp⟩ : ∃ o, okD b = o := ⟨_, rfl⟩
  rw [ho] at km; rw [hp] at kn
  cases o
  · rw [bothE_no (by rw [ho]; rfl)] at kb
    rw [turnE_no ho] at kt
    rw [chkD_no ho] at kk
    have KB := Lib.hid kb; have KT := Lib.hid kt; have KK := Lib.hid kk; have KM := Lib.hid km
    clear kb kt kk km
    clear ho hp kn
    go_enter Tryz.func4, Tryz.ntmps4
    go_upto_region 2 with (first
      | (go_at_call 14; refine (KFa.out _ SU.out).mono ?_; rintro e w1 ⟨v1, rfl, hrow, hb1⟩; replace SU := Lib.hid (SU.out.below hb1); replace SV := Lib.hid (SV.out.below hb1); replace BB := Lib.hid (below_step BB.out hb1); obtain ⟨pSa, cSa, rfl, hd⟩ := dfsO hrow; rw [Hna.out] at hd ⊢; have Sa := Lib.hid hd; clear hrow hd hb1 KFa)
      | (go_at_call 14; refine (KFb.out _ SV.out).mono ?_; rintro e w1 ⟨v1, rfl, hrow, hb1⟩; replace Sa := Lib.hid (Sa.out.below hb1); replace BB := Lib.hid (below_step BB.out hb1); obtain ⟨pSb, cSb, rfl, hd⟩ := dfsO hrow; rw [Hnb.out] at hd ⊢; have Sb := Lib.hid hd; clear hrow hd hb1 KFb))
    go_upto_region 3 with (go_at_call 15; refine (KB.out _ _ _ Sa.out Sb.out).mono ?_; rintro e w1 ⟨v1, rfl, hrow, hb1⟩; replace Sa := Lib.hid (Sa.out.below hb1); replace Sb := Lib.hid (Sb.out.below hb1); replace BB := Lib.hid (below_step BB.out hb1); obtain ⟨pSx, cSx, rfl, hd⟩ := dfsO hrow; rw [List.length_nil] at hd ⊢; have Sx := Lib.hid hd; clear hrow hd hb1 KB)
    go_upto_region 4 with (go_at_call 16; refine (KT.out _ _ Sa.out).mono ?_; rintro e w1 ⟨v1, rfl, hrow, hb1⟩; replace Sa := Lib.hid (Sa.out.below hb1); replace Sb := Lib.hid (Sb.out.below hb1); replace Sx := Lib.hid (Sx.out.below hb1); replace BB := Lib.hid (below_step BB.out hb1); obtain ⟨pSt, cSt, rfl, hd⟩ := dfsO hrow; rw [List.length_nil] at hd ⊢; have St := Lib.hid hd; clear hrow hd hb1 KT)
    go_upto_region 6 with (first
      | (go_at_call 17; refine (KK.out _ _ Sa.out).mono ?_; rintro e w1 ⟨rfl, hb1⟩; replace Sa := Lib.hid (Sa.out.below hb1); replace Sb := Lib.hid (Sb.out.below hb1); replace Sx := Lib.hid (Sx.out.below hb1); replace St := Lib.hid (St.out.below hb1); replace BB := Lib.hid (below_step BB.out hb1); clear hb1 KK)
      | (go_at_call 18; refine (KM.out _ _ Sa.out).mono ?_; rintro e w1 ⟨rfl, hb1⟩; replace Sa := Lib.hid (Sa.out.below hb1); replace Sb := Lib.hid (Sb.out.below hb1); replace Sx := Lib.hid (Sx.out.below hb1); replace St := Lib.hid (St.out.below hb1); replace BB := Lib.hid (below_step BB.out hb1); clear hb1 ))
    go_wp2_with (first
      | (go_at_call 18; refine (KM.out _ _ Sa.out).mono ?_; rintro e w1 ⟨rfl, hb1⟩; replace BB := Lib.hid (below_step BB.out hb1); clear hb1 )
      | (go_at_call 13; refine (dawake_any _).mono ?_; rintro e w1 ⟨rfl, hb1⟩; replace BB := Lib.hid (below_step BB.out hb1); clear hb1))
    go_ret
    exact ⟨rfl, BB.out⟩
  · rw [turnE_yes ho] at kt
    rw [chkD_yes ho] at kk
    have hat : ∀ k, k < a.length → (turnD a).getD k zD = ((a.getD k zD).1, -(a.getD k zD).2) := fun k h => turn_at h
    have hnt := turn_len a
    rw [Hna.out] at hnt
    obtain ⟨t, ht⟩ : ∃ t, turnD a = t := ⟨_, rfl⟩
    rw [ht] at kt hat hnt
    have HAT := Lib.hid hat; have Hnt := Lib.hid hnt; have HOA := Lib.hid (okD_in ho)
    clear hat hnt ht
    cases p
    · rw [bothE_no (by rw [hp, Bool.and_false])] at kb
      have KB := Lib.hid kb; have KT := Lib.hid kt; have KK := Lib.hid kk; have KM := Lib.hid km; have KN := Lib.hid kn
      clear kb kt kk km kn
      clear ho hp
      go_enter Tryz.func4, Tryz.ntmps4
      go_upto_region 2 with (first
        | (go_at_call 14; refine (KFa.out _ SU.out).mono ?_; rintro e w1 ⟨v1, rfl, hrow, hb1⟩; replace SU := Lib.hid (SU.out.below hb1); replace SV := Lib.hid (SV.out.below hb1); replace BB := Lib.hid (below_step BB.out hb1); obtain ⟨pSa, cSa, rfl, hd⟩ := dfsO hrow; rw [Hna.out] at hd ⊢; have Sa := Lib.hid hd; clear hrow hd hb1 KFa)
        | (go_at_call 14; refine (KFb.out _ SV.out).mono ?_; rintro e w1 ⟨v1, rfl, hrow, hb1⟩; replace Sa := Lib.hid (Sa.out.below hb1); replace BB := Lib.hid (below_step BB.out hb1); obtain ⟨pSb, cSb, rfl, hd⟩ := dfsO hrow; rw [Hnb.out] at hd ⊢; have Sb := Lib.hid hd; clear hrow hd hb1 KFb))
      go_upto_region 3 with (go_at_call 15; refine (KB.out _ _ _ Sa.out Sb.out).mono ?_; rintro e w1 ⟨v1, rfl, hrow, hb1⟩; replace Sa := Lib.hid (Sa.out.below hb1); replace Sb := Lib.hid (Sb.out.below hb1); replace BB := Lib.hid (below_step BB.out hb1); obtain ⟨pSx, cSx, rfl, hd⟩ := dfsO hrow; rw [List.length_nil] at hd ⊢; have Sx := Lib.hid hd; clear hrow hd hb1 KB)
      go_upto_region 4 with (go_at_call 16; refine (KT.out _ _ Sa.out).mono ?_; rintro e w1 ⟨v1, rfl, hrow, hb1⟩; replace Sa := Lib.hid (Sa.out.below hb1); replace Sb := Lib.hid (Sb.out.below hb1); replace Sx := Lib.hid (Sx.out.below hb1); replace BB := Lib.hid (below_step BB.out hb1); obtain ⟨pSt, cSt, rfl, hd⟩ := dfsO hrow; rw [Hnt.out] at hd ⊢; have St := Lib.hid hd; clear hrow hd hb1 KT)
      go_upto_region 6 with (first
        | (go_at_call 17; refine (KK.out _ _ Sa.out).mono ?_; rintro e w1 ⟨rfl, hb1⟩; replace Sa := Lib.hid (Sa.out.below hb1); replace Sb := Lib.hid (Sb.out.below hb1); replace Sx := Lib.hid (Sx.out.below hb1); replace St := Lib.hid (St.out.below hb1); replace BB := Lib.hid (below_step BB.out hb1); clear hb1 KK)
        | (go_at_call 18; refine (KM.out _ _ Sa.out).mono ?_; rintro e w1 ⟨rfl, hb1⟩; replace Sa := Lib.hid (Sa.out.below hb1); replace Sb := Lib.hid (Sb.out.below hb1); replace Sx := Lib.hid (Sx.out.below hb1); replace St := Lib.hid (St.out.below hb1); replace BB := Lib.hid (below_step BB.out hb1); clear hb1 ))
      go_upto_region 8 with (go_at_call 18; refine (KM.out _ _ Sa.out).mono ?_; rintro e w1 ⟨rfl, hb1⟩; replace Sa := Lib.hid (Sa.out.below hb1); replace Sb := Lib.hid (Sb.out.below hb1); replace Sx := Lib.hid (Sx.out.below hb1); replace St := Lib.hid (St.out.below hb1); replace BB := Lib.hid (below_step BB.out hb1); clear hb1 KM)
      go_wp2
      go_loopw [9] (fun i wr => ∃ k q : Nat, k ≤ na ∧ i = .int .i64 k ∧ wr = w1.drewN q) (fun i _ => na - (intOf i).toNat)
      case atStart => exact ⟨0, 0, Nat.zero_le _, rfl, rfl⟩
      case round =>
        obtain ⟨k, q, hk, rfl, rfl⟩ := hrel
        obtain ⟨Wq, hWq⟩ : ∃ Wq, w1.drewN q = Wq := ⟨_, rfl⟩
        have hbq : Below w1.heap.size w1 Wq := by rw [← hWq]; exact below_q ⟨q, rfl⟩
        rw [hWq]
        by_cases hlt : k < na
        · have hkl : k < a.length := by rw [Hna.out]; exact hlt
          have hkt : k < t.length := by rw [Hnt.out]; exact hlt
          obtain ⟨bb, off, rfl, -, hc0, hc1, hc2⟩ := (St.out.below hbq).at k hkt
          obtain ⟨bb', off', rfl, -, hd0, hd1, hd2⟩ := (Sa.out.below hbq).at k hkl
          have hin := inD_iff.1 (HOA.out _ (df_mem hkl))
          rw [HAT.out k hkl] at hc0 hc1 hc2
          obtain ⟨y, hy⟩ : ∃ y, y = a.getD k zD := ⟨_, rfl⟩
          rw [← hy] at hc0 hc1 hc2 hd0 hd1 hd2 hin
          obtain ⟨⟨y1, y2⟩, u⟩ := y
          simp only at hc0 hc1 hc2 hd0 hd1 hd2 hin
          have hng : IntKind.i64.wrap (-u) = -u := IntWalk.i64_in _ (by omega)
          have HWq := Lib.hid hWq
          clear hy hbq hWq hin
          have hgd := guard_df
          have heq := neq_df y1 y2 y1 y2 (-u) (-u)
          simp only [decide_true, Bool.not_true] at heq
          have hkb : (k : Int) < (na : Int) := by omega
          go_wp2_with fail
          go_quiet (fail)
          go_wp2
          go_roundw
          case rel => exact ⟨k + 1, q + nq, by omega, by go_num, by rw [← HWq.out, World.drewN_drewN]⟩
          case measure => simp [intOf]; omega
        · replace Sb := Lib.hid (Sb.out.below hbq); replace Sa := Lib.hid (Sa.out.below hbq); replace Sx := Lib.hid (Sx.out.below hbq); replace BB := Lib.hid (below_step BB.out hbq)
          clear hbq hWq
          go_wp2_with (first
            | (go_at_call 18; refine (KN.out _ _ Sb.out).mono ?_; rintro e w1 ⟨rfl, hb1⟩; replace BB := Lib.hid (below_step BB.out hb1); clear hb1 KN)
            | (go_at_call 13; refine (dawake_any _).mono ?_; rintro e w1 ⟨rfl, hb1⟩; replace BB := Lib.hid (below_step BB.out hb1); clear hb1))
          go_ret
          exact ⟨rfl, BB.out⟩
    · have hms := merge_small ho hp SMa.out SMb.out (by rw [Hna.out]; omega) (by rw [Hnb.out]; omega)
      have kr := fun U V w h h' => refboth_any U V a b w h h' SMa.out SMb.out ho hp (by rw [Hna.out]; omega) (by rw [Hnb.out]; omega)
      have kw := fun U w h => refdmay_any U (mergeD a b) w h hms
      have hoo : (okD a && okD b) = true := by rw [ho, hp]; rfl
      obtain ⟨m, hm⟩ : ∃ o, okD (mergeD a b) = o := ⟨_, rfl⟩
      rw [hm] at kw
      cases m
      · rw [bothE_far hoo hm] at kb
        obtain ⟨X, hX⟩ : ∃ X, mergeD a b = X := ⟨_, rfl⟩
        rw [hX] at kr kw
        clear hms hoo hm
        obtain ⟨nx, hnx⟩ : ∃ n, X.length = n := ⟨_, rfl⟩
        have Hnx := Lib.hid hnx
        clear hX hnx
        have KB := Lib.hid kb; have KT := Lib.hid kt; have KK := Lib.hid kk; have KM := Lib.hid km; have KN := Lib.hid kn; have KR := Lib.hid kr; have KW := Lib.hid kw
        clear kb kt kk km kn kr kw
        clear ho hp
        go_enter Tryz.func4, Tryz.ntmps4
        go_upto_region 2 with (first
          | (go_at_call 14; refine (KFa.out _ SU.out).mono ?_; rintro e w1 ⟨v1, rfl, hrow, hb1⟩; replace SU := Lib.hid (SU.out.below hb1); replace SV := Lib.hid (SV.out.below hb1); replace BB := Lib.hid (below_step BB.out hb1); obtain ⟨pSa, cSa, rfl, hd⟩ := dfsO hrow; rw [Hna.out] at hd ⊢; have Sa := Lib.hid hd; clear hrow hd hb1 KFa)
          | (go_at_call 14; refine (KFb.out _ SV.out).mono ?_; rintro e w1 ⟨v1, rfl, hrow, hb1⟩; replace Sa := Lib.hid (Sa.out.below hb1); replace BB := Lib.hid (below_step BB.out hb1); obtain ⟨pSb, cSb, rfl, hd⟩ := dfsO hrow; rw [Hnb.out] at hd ⊢; have Sb := Lib.hid hd; clear hrow hd hb1 KFb))
        go_upto_region 3 with (go_at_call 15; refine (KB.out _ _ _ Sa.out Sb.out).mono ?_; rintro e w1 ⟨v1, rfl, hrow, hb1⟩; replace Sa := Lib.hid (Sa.out.below hb1); replace Sb := Lib.hid (Sb.out.below hb1); replace BB := Lib.hid (below_step BB.out hb1); obtain ⟨pSx, cSx, rfl, hd⟩ := dfsO hrow; rw [List.length_nil] at hd ⊢; have Sx := Lib.hid hd; clear hrow hd hb1 KB)
        go_upto_region 4 with (go_at_call 16; refine (KT.out _ _ Sa.out).mono ?_; rintro e w1 ⟨v1, rfl, hrow, hb1⟩; replace Sa := Lib.hid (Sa.out.below hb1); replace Sb := Lib.hid (Sb.out.below hb1); replace Sx := Lib.hid (Sx.out.below hb1); replace BB := Lib.hid (below_step BB.out hb1); obtain ⟨pSt, cSt, rfl, hd⟩ := dfsO hrow; rw [Hnt.out] at hd ⊢; have St := Lib.hid hd; clear hrow hd hb1 KT)
        go_upto_region 6 with (first
          | (go_at_call 17; refine (KK.out _ _ Sa.out).mono ?_; rintro e w1 ⟨rfl, hb1⟩; replace Sa := Lib.hid (Sa.out.below hb1); replace Sb := Lib.hid (Sb.out.below hb1); replace Sx := Lib.hid (Sx.out.below hb1); replace St := Lib.hid (St.out.below hb1); replace BB := Lib.hid (below_step BB.out hb1); clear hb1 KK)
          | (go_at_call 18; refine (KM.out _ _ Sa.out).mono ?_; rintro e w1 ⟨rfl, hb1⟩; replace Sa := Lib.hid (Sa.out.below hb1); replace Sb := Lib.hid (Sb.out.below hb1); replace Sx := Lib.hid (Sx.out.below hb1); replace St := Lib.hid (St.out.below hb1); replace BB := Lib.hid (below_step BB.out hb1); clear hb1 ))
        go_upto_region 8 with (go_at_call 18; refine (KM.out _ _ Sa.out).mono ?_; rintro e w1 ⟨rfl, hb1⟩; replace Sa := Lib.hid (Sa.out.below hb1); replace Sb := Lib.hid (Sb.out.below hb1); replace Sx := Lib.hid (Sx.out.below hb1); replace St := Lib.hid (St.out.below hb1); replace BB := Lib.hid (below_step BB.out hb1); clear hb1 KM)
        go_wp2
        go_loopw [9] (fun i wr => ∃ k q : Nat, k ≤ na ∧ i = .int .i64 k ∧ wr = w1.drewN q) (fun i _ => na - (intOf i).toNat)
        case atStart => exact ⟨0, 0, Nat.zero_le _, rfl, rfl⟩
        case round =>
          obtain ⟨k, q, hk, rfl, rfl⟩ := hrel
          obtain ⟨Wq, hWq⟩ : ∃ Wq, w1.drewN q = Wq := ⟨_, rfl⟩
          have hbq : Below w1.heap.size w1 Wq := by rw [← hWq]; exact below_q ⟨q, rfl⟩
          rw [hWq]
          by_cases hlt : k < na
          · have hkl : k < a.length := by rw [Hna.out]; exact hlt
            have hkt : k < t.length := by rw [Hnt.out]; exact hlt
            obtain ⟨bb, off, rfl, -, hc0, hc1, hc2⟩ := (St.out.below hbq).at k hkt
            obtain ⟨bb', off', rfl, -, hd0, hd1, hd2⟩ := (Sa.out.below hbq).at k hkl
            have hin := inD_iff.1 (HOA.out _ (df_mem hkl))
            rw [HAT.out k hkl] at hc0 hc1 hc2
            obtain ⟨y, hy⟩ : ∃ y, y = a.getD k zD := ⟨_, rfl⟩
            rw [← hy] at hc0 hc1 hc2 hd0 hd1 hd2 hin
            obtain ⟨⟨y1, y2⟩, u⟩ := y
            simp only at hc0 hc1 hc2 hd0 hd1 hd2 hin
            have hng : IntKind.i64.wrap (-u) = -u := IntWalk.i64_in _ (by omega)
            have HWq := Lib.hid hWq
            clear hy hbq hWq hin
            have hgd := guard_df
            have heq := neq_df y1 y2 y1 y2 (-u) (-u)
            simp only [decide_true, Bool.not_true] at heq
            have hkb : (k : Int) < (na : Int) := by omega
            go_wp2_with fail
            go_quiet (fail)
            go_wp2
            go_roundw
            case rel => exact ⟨k + 1, q + nq, by omega, by go_num, by rw [← HWq.out, World.drewN_drewN]⟩
            case measure => simp [intOf]; omega
          · replace Sb := Lib.hid (Sb.out.below hbq); replace Sa := Lib.hid (Sa.out.below hbq); replace Sx := Lib.hid (Sx.out.below hbq); replace BB := Lib.hid (below_step BB.out hbq)
            clear hbq hWq
            go_upto_region 17 with (go_at_call 18; refine (KN.out _ _ Sb.out).mono ?_; rintro e w1 ⟨rfl, hb1⟩; replace Sa := Lib.hid (Sa.out.below hb1); replace Sb := Lib.hid (Sb.out.below hb1); replace Sx := Lib.hid (Sx.out.below hb1); replace BB := Lib.hid (below_step BB.out hb1); clear hb1 KN)
            go_upto_region 18 with (go_at_call 19; refine (KR.out _ _ _ Sa.out Sb.out).mono ?_; rintro e w1 ⟨v1, rfl, hrow, hb1⟩; replace Sx := Lib.hid (Sx.out.below hb1); replace BB := Lib.hid (below_step BB.out hb1); obtain ⟨pSw, cSw, rfl, hd⟩ := dfsO hrow; rw [Hnx.out] at hd ⊢; have Sw := Lib.hid hd; clear hrow hd hb1 KR)
            go_wp2_with (first
              | (go_at_call 18; refine (KW.out _ _ Sw.out).mono ?_; rintro e w1 ⟨rfl, hb1⟩; replace BB := Lib.hid (below_step BB.out hb1); clear hb1 KW)
              | (go_at_call 13; refine (dawake_any _).mono ?_; rintro e w1 ⟨rfl, hb1⟩; replace BB := Lib.hid (below_step BB.out hb1); clear hb1))
            go_ret
            exact ⟨rfl, BB.out⟩
      · rw [bothE_yes hoo hm] at kb
        obtain ⟨X, hX⟩ : ∃ X, mergeD a b = X := ⟨_, rfl⟩
        rw [hX] at kr kw kb
        clear hms hoo hm
        obtain ⟨nx, hnx⟩ : ∃ n, X.length = n := ⟨_, rfl⟩
        have Hnx := Lib.hid hnx
        clear hX hnx
        have ks := fun U V w h h' => dsame_any U V X X w h h'
        rw [decide_eq_true rfl] at ks
        have KB := Lib.hid kb; have KT := Lib.hid kt; have KK := Lib.hid kk; have KM := Lib.hid km; have KN := Lib.hid kn; have KR := Lib.hid kr; have KW := Lib.hid kw; have KS := Lib.hid ks
        clear kb kt kk km kn kr kw ks
        clear ho hp
        go_enter Tryz.func4, Tryz.ntmps4
        go_upto_region 2 with (first
          | (go_at_call 14; refine (KFa.out _ SU.out).mono ?_; rintro e w1 ⟨v1, rfl, hrow, hb1⟩; replace SU := Lib.hid (SU.out.below hb1); replace SV := Lib.hid (SV.out.below hb1); replace BB := Lib.hid (below_step BB.out hb1); obtain ⟨pSa, cSa, rfl, hd⟩ := dfsO hrow; rw [Hna.out] at hd ⊢; have Sa := Lib.hid hd; clear hrow hd hb1 KFa)
          | (go_at_call 14; refine (KFb.out _ SV.out).mono ?_; rintro e w1 ⟨v1, rfl, hrow, hb1⟩; replace Sa := Lib.hid (Sa.out.below hb1); replace BB := Lib.hid (below_step BB.out hb1); obtain ⟨pSb, cSb, rfl, hd⟩ := dfsO hrow; rw [Hnb.out] at hd ⊢; have Sb := Lib.hid hd; clear hrow hd hb1 KFb))
        go_upto_region 3 with (go_at_call 15; refine (KB.out _ _ _ Sa.out Sb.out).mono ?_; rintro e w1 ⟨v1, rfl, hrow, hb1⟩; replace Sa := Lib.hid (Sa.out.below hb1); replace Sb := Lib.hid (Sb.out.below hb1); replace BB := Lib.hid (below_step BB.out hb1); obtain ⟨pSx, cSx, rfl, hd⟩ := dfsO hrow; rw [Hnx.out] at hd ⊢; have Sx := Lib.hid hd; clear hrow hd hb1 KB)
        go_upto_region 4 with (go_at_call 16; refine (KT.out _ _ Sa.out).mono ?_; rintro e w1 ⟨v1, rfl, hrow, hb1⟩; replace Sa := Lib.hid (Sa.out.below hb1); replace Sb := Lib.hid (Sb.out.below hb1); replace Sx := Lib.hid (Sx.out.below hb1); replace BB := Lib.hid (below_step BB.out hb1); obtain ⟨pSt, cSt, rfl, hd⟩ := dfsO hrow; rw [Hnt.out] at hd ⊢; have St := Lib.hid hd; clear hrow hd hb1 KT)
        go_upto_region 6 with (first
          | (go_at_call 17; refine (KK.out _ _ Sa.out).mono ?_; rintro e w1 ⟨rfl, hb1⟩; replace Sa := Lib.hid (Sa.out.below hb1); replace Sb := Lib.hid (Sb.out.below hb1); replace Sx := Lib.hid (Sx.out.below hb1); replace St := Lib.hid (St.out.below hb1); replace BB := Lib.hid (below_step BB.out hb1); clear hb1 KK)
          | (go_at_call 18; refine (KM.out _ _ Sa.out).mono ?_; rintro e w1 ⟨rfl, hb1⟩; replace Sa := Lib.hid (Sa.out.below hb1); replace Sb := Lib.hid (Sb.out.below hb1); replace Sx := Lib.hid (Sx.out.below hb1); replace St := Lib.hid (St.out.below hb1); replace BB := Lib.hid (below_step BB.out hb1); clear hb1 ))
        go_upto_region 8 with (go_at_call 18; refine (KM.out _ _ Sa.out).mono ?_; rintro e w1 ⟨rfl, hb1⟩; replace Sa := Lib.hid (Sa.out.below hb1); replace Sb := Lib.hid (Sb.out.below hb1); replace Sx := Lib.hid (Sx.out.below hb1); replace St := Lib.hid (St.out.below hb1); replace BB := Lib.hid (below_step BB.out hb1); clear hb1 KM)
        go_wp2
        go_loopw [9] (fun i wr => ∃ k q : Nat, k ≤ na ∧ i = .int .i64 k ∧ wr = w1.drewN q) (fun i _ => na - (intOf i).toNat)
        case atStart => exact ⟨0, 0, Nat.zero_le _, rfl, rfl⟩
        case round =>
          obtain ⟨k, q, hk, rfl, rfl⟩ := hrel
          obtain ⟨Wq, hWq⟩ : ∃ Wq, w1.drewN q = Wq := ⟨_, rfl⟩
          have hbq : Below w1.heap.size w1 Wq := by rw [← hWq]; exact below_q ⟨q, rfl⟩
          rw [hWq]
          by_cases hlt : k < na
          · have hkl : k < a.length := by rw [Hna.out]; exact hlt
            have hkt : k < t.length := by rw [Hnt.out]; exact hlt
            obtain ⟨bb, off, rfl, -, hc0, hc1, hc2⟩ := (St.out.below hbq).at k hkt
            obtain ⟨bb', off', rfl, -, hd0, hd1, hd2⟩ := (Sa.out.below hbq).at k hkl
            have hin := inD_iff.1 (HOA.out _ (df_mem hkl))
            rw [HAT.out k hkl] at hc0 hc1 hc2
            obtain ⟨y, hy⟩ : ∃ y, y = a.getD k zD := ⟨_, rfl⟩
            rw [← hy] at hc0 hc1 hc2 hd0 hd1 hd2 hin
            obtain ⟨⟨y1, y2⟩, u⟩ := y
            simp only at hc0 hc1 hc2 hd0 hd1 hd2 hin
            have hng : IntKind.i64.wrap (-u) = -u := IntWalk.i64_in _ (by omega)
            have HWq := Lib.hid hWq
            clear hy hbq hWq hin
            have hgd := guard_df
            have heq := neq_df y1 y2 y1 y2 (-u) (-u)
            simp only [decide_true, Bool.not_true] at heq
            have hkb : (k : Int) < (na : Int) := by omega
            go_wp2_with fail
            go_quiet (fail)
            go_wp2
            go_roundw
            case rel => exact ⟨k + 1, q + nq, by omega, by go_num, by rw [← HWq.out, World.drewN_drewN]⟩
            case measure => simp [intOf]; omega
          · replace Sb := Lib.hid (Sb.out.below hbq); replace Sa := Lib.hid (Sa.out.below hbq); replace Sx := Lib.hid (Sx.out.below hbq); replace BB := Lib.hid (below_step BB.out hbq)
            clear hbq hWq
            go_upto_region 17 with (go_at_call 18; refine (KN.out _ _ Sb.out).mono ?_; rintro e w1 ⟨rfl, hb1⟩; replace Sa := Lib.hid (Sa.out.below hb1); replace Sb := Lib.hid (Sb.out.below hb1); replace Sx := Lib.hid (Sx.out.below hb1); replace BB := Lib.hid (below_step BB.out hb1); clear hb1 KN)
            go_upto_region 18 with (go_at_call 19; refine (KR.out _ _ _ Sa.out Sb.out).mono ?_; rintro e w1 ⟨v1, rfl, hrow, hb1⟩; replace Sx := Lib.hid (Sx.out.below hb1); replace BB := Lib.hid (below_step BB.out hb1); obtain ⟨pSw, cSw, rfl, hd⟩ := dfsO hrow; rw [Hnx.out] at hd ⊢; have Sw := Lib.hid hd; clear hrow hd hb1 KR)
            go_wp2_with (first
              | (go_at_call 18; refine (KW.out _ _ Sw.out).mono ?_; rintro e w1 ⟨rfl, hb1⟩; replace Sx := Lib.hid (Sx.out.below hb1); replace Sw := Lib.hid (Sw.out.below hb1); replace BB := Lib.hid (below_step BB.out hb1); clear hb1 KW)
              | (go_at_call 11; refine (KS.out _ _ _ Sx.out Sw.out).mono ?_; rintro e w1 ⟨rfl, hb1⟩; replace BB := Lib.hid (below_step BB.out hb1); clear hb1 KS)
              | (go_at_call 13; refine (dawake_any _).mono ?_; rintro e w1 ⟨rfl, hb1⟩; replace BB := Lib.hid (below_step BB.out hb1); clear hb1))
            go_ret
            exact ⟨rfl, BB.out⟩

theorem own : ownKnob Tryz.prog.godebug = none := by kernel_rfl
theorem laidOut : laidOutB Tryz.prog = true := by kernel_rfl

set_option maxRecDepth 100000 in
theorem lifted (os : Os) (started : os.Started) (H : Type) (enc : TypeId × Value → H) :
    ReturnsInHanded {} Tryz.checked os 4 .any (Rows.diffEditsSpec.pre6 enc Tryz.prog Tryz.f4 Rows.diffEditsRow.domain false) (Rows.diffEditsSpec.post enc Tryz.prog Tryz.f4 false true false false) := by
  refine returnsInHanded_of_change (C := Tryz.checked) own started (by kernel_rfl) Tryz.func4
    (ChangeSpec.witness6 (enc := enc) (C := Tryz.checked) false ⟨#[], #[.slice none 0 0, .slice none 0 0], []⟩ 8 (by kernel_rfl) (by kernel_rfl) (by kernel_rfl) (by kernel_rfl)) ?_
  intro W base args ds gs before hval0 hW hcnd _
  have hval : ∀ (j : Nat) t v, Tryz.f4.params[j]? = some t → args[j]? = some v → Value.okWide Tryz.prog W .any base t v := hval0
  have hW' := hW
  obtain ⟨p, q, hA0, hV, rfl, hfz, hnd⟩ := hW
  have hA : DataW.TrodAll enc Tryz.prog W 0 (fun _ => true) true Tryz.f4.params.toList args.toList ds p := hA0
  rw [Tryz.params4] at hA hval
  obtain ⟨v0, vs0, d0, ds0, p0, q0, hargs, rfl, rfl, h0, r0⟩ := trodAll_cons hA
  obtain ⟨v1, vs1, d1, ds1, p1, q1, rfl, rfl, rfl, h1, r1⟩ := trodAll_cons r0
  obtain ⟨rfl, rfl, rfl⟩ := trodAll_nil r1
  obtain rfl : args = #[v0, v1] := by cases args; simp_all
  obtain ⟨rfl, rfl⟩ := trodVars_none hV
  obtain ⟨a0, len0, cap0, rfl⟩ := okWide_slice Tryz.underlying24 (hval 0 24 v0 rfl rfl)
  have k0 := h0
  have lt0 : ∀ x ∈ p0, x.block < W.heap.size := by obtain ⟨m, hm⟩ := k0; exact DataW.trod_lt m _ _ _ hm
  obtain ⟨z0, w0⟩ : ∃ zs, Dfs W (.slice a0 len0 cap0) zs ∧ ∀ e ∈ zs, fitD e := by
    obtain ⟨fuel, hf⟩ := h0
    exact dfs_open (by simpa [Value.cells] using hf)
  obtain ⟨a1, len1, cap1, rfl⟩ := okWide_slice Tryz.underlying24 (hval 1 24 v1 rfl rfl)
  have k1 := h1
  have lt1 : ∀ x ∈ p1, x.block < W.heap.size := by obtain ⟨m, hm⟩ := k1; exact DataW.trod_lt m _ _ _ hm
  obtain ⟨z1, w1⟩ : ∃ zs, Dfs W (.slice a1 len1 cap1) zs ∧ ∀ e ∈ zs, fitD e := by
    obtain ⟨fuel, hf⟩ := h1
    exact dfs_open (by simpa [Value.cells] using hf)
  clear hA0 hval0
  refine (walk _ z0 _ z1 W w0 w1).mono fun e W' ⟨he, bel⟩ => ?_
  subst he
  exact ⟨_, rfl, _, _, _, [], _, [], hW', trodAll_mk1 (shut_bool Tryz.underlying4 _), (trodAll_cons_mk (Below.trod laidOut (by kernel_rfl) (of_decide_eq_true (by kernel_rfl)) k0 bel lt0) (trodAll_cons_mk (Below.trod laidOut (by kernel_rfl) (of_decide_eq_true (by kernel_rfl)) k1 bel lt1) trodAll_mk0)), rfl, bel.frame _, fun h => by cases h⟩

-- the given statement
theorem proved : Rows.DiffEditsSaid :=
  OpenClaim.holds_of_wide 4 Tryz.f4 rfl rfl rfl rfl rfl rfl rfl ⟨rfl, rfl, rfl, rfl, rfl⟩ rfl rfl rfl rfl rfl (by kernel_rfl) Tryz.func4 (by kernel_rfl)
    (of_decide_eq_true (by kernel_rfl)) (by unfold Func.isWrapper; first | (rw [if_pos (by decide +kernel)]; kernel_rfl) | (rw [if_neg (by decide +kernel)]; exact ⟨rfl, rfl⟩))
    (fun os started H enc _ => lifted os started H enc)
end Go.Proofs.YtopcbmmnjmmoiaaGreat.diffEdits
