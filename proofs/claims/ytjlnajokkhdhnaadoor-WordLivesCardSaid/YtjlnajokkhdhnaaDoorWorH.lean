/- The contracts of the document's answer for words: Lives and Live. -/
import Derived.Test.YtjlnajokkhdhnaaDoorWorG
import Derived.Test.YtjlnajokkhdhnaaDoorPatN
namespace Go.Proofs.YtjlnajokkhdhnaaDoor
open Go.RowKit
set_option maxRecDepth 100000

theorem run_take (k : Nat) : ∀ (l : List UInt8) (a m : Nat), m ≤ l.length → (runO k a (l.take m)).isSome = decide (m ≤ liveN k a l)
  | _, a, 0, _ => by simp [runO]
  | [], _, m + 1, h => by simp at h
  | c :: l, a, m + 1, h => by
    rw [List.take_succ_cons, runO, liveN]
    cases hs : stepO k a c.toNat with
    | none => simp
    | some b =>
      have ih := run_take k l b m (by simpa using h)
      simp only [ih, Nat.add_le_add_iff_right]
theorem wholeZ_nat {k : Nat} (hk : k < 3) (l : List UInt8) : wholeZ (k : Int) l = wholeO k l := by
  unfold wholeZ; rw [if_pos (by omega)]; rfl
theorem liveZ_nat {k : Nat} (hk : k < 3) (l : List UInt8) : liveZ (k : Int) l = (liveN k 0 l : Nat) := by
  unfold liveZ; rw [if_pos (by omega)]; rfl
theorem endsL_len : ∀ e ∈ endsL, e.length ≤ 6 := by decide

set_option maxHeartbeats 800000 in
theorem reflives_any (k : Nat) (hk : k < 3) (l : List UInt8) (w : World) (hs : l.length ≤ 1000000) :
    Calls Tryd.prog 18 #[.int .i64 (k : Int), .string (mkB l)] w fun e w' => e = .returned (.bool (runO k 0 l).isSome) ∧ Below w.heap.size w w' := by
  have hp := lives_run hk l
  obtain ⟨r, hr⟩ : ∃ r, (runO k 0 l).isSome = r := ⟨_, rfl⟩
  rw [hr] at hp ⊢
  unfold livesO at hp
  obtain ⟨ls, hls⟩ : ∃ ls, endsL = ls := ⟨_, rfl⟩
  have hn : ls.length = 8 := by rw [← hls]; rfl
  have he := endsL_len
  rw [hls] at hp he
  have hms : (mkB l).size ≤ 1000000 := by rw [mkB_size]; exact hs
  have hcat := cat_txt
  have HCAT := Lib.hid hcat
  have hds : ∀ j, j < ls.length → (mkB (ls.getD j [])).size ≤ 6 := fun j hj => by rw [mkB_size]; exact he _ (mem_getD hj)
  have HP := Lib.hid hp; have HK := Lib.hid hk; have HD := Lib.hid hds
  clear hp hr hk hcat he hds
  go_enter Tryd.func18, Tryd.ntmps18
  go_wp2_with (go_at_call 28; refine (refends_any _).mono ?_; rintro e w1 ⟨⟨a, c, rfl, hst⟩, hb1⟩; rw [hls] at hst; rw [hls, hn])
  clear hls
  rw [hn] at hst
  have HST := Lib.hid hst; clear hst
  go_loopw [6] (fun i wr => ∃ j : Nat, j ≤ 8 ∧ i = .int .i64 (j : Int) ∧ Hid ((ls.drop j).any (fun e => wholeO k (l ++ e)) = r) ∧ Hid (Strs wr (.slice a 8 c) ls) ∧ Below w.heap.size w wr) (fun i _ => 8 - (intOf i).toNat)
  case atStart => exact ⟨0, Nat.zero_le _, rfl, Lib.hid (by rw [List.drop_zero]; exact HP.out), HST, hb1⟩
  case round =>
    obtain ⟨j, hj, rfl, H, HS, hbel⟩ := hrel
    by_cases hlt : j < 8
    · obtain ⟨b, off, rfl, hbk, hcell⟩ := strs_at HS.out j (by omega)
      have hsz := HD.out j (by omega)
      obtain ⟨y, hy⟩ : ∃ y, y = ls.getD j [] := ⟨_, rfl⟩
      rw [← hy] at hcell hsz
      have hd : (ls.drop j).any (fun e => wholeO k (l ++ e)) = (wholeO k (l ++ y) || (ls.drop (j + 1)).any (fun e => wholeO k (l ++ e))) := by
        rw [List.drop_eq_getElem_cons (by omega), List.any_cons, hy, List.getD_eq_getElem?_getD, List.getElem?_eq_getElem (by omega)]; rfl
      have hx : (l ++ y).length ≤ 1000000000 := by rw [List.length_append]; rw [mkB_size] at hsz; omega
      obtain ⟨x, hxe⟩ : ∃ x, l ++ y = x := ⟨_, rfl⟩
      rw [hxe] at hd hx
      have HT := Lib.hid (cat_txt l y); rw [hxe] at HT
      have HX := Lib.hid hx; have HDD := Lib.hid hd; have HY := Lib.hid hy; have HXE := Lib.hid hxe
      clear hd hx hy hxe
      cases hq : wholeO k x
      · have hq2 := wholeZ_nat HK.out x; rw [hq] at hq2
        have hr2 : (ls.drop (j + 1)).any (fun e => wholeO k (l ++ e)) = r := by rw [← H.out, HDD.out, hq]; rfl
        have HQ := Lib.hid hq2; have HR := Lib.hid hr2; clear hq hq2 hr2
        go_wp2_with (go_at_call 14; rw [HT.out]; refine (refwhole_m k x _ HX.out).mono ?_; rintro e w2 ⟨rfl, hb2⟩; rw [HQ.out]; have B := below_step hbel hb2; have S2 := Lib.hid (HS.out.below hb2); clear hb2)
        go_roundw
        case rel => exact ⟨j + 1, by omega, by go_num, HR, S2, B⟩
        case measure => simp [intOf]; omega
      · have hq2 := wholeZ_nat HK.out x; rw [hq] at hq2
        have hr2 : r = true := by rw [← H.out, HDD.out, hq]; rfl
        have HQ := Lib.hid hq2; have HR := Lib.hid hr2; clear hq hq2 hr2
        go_wp2_with (go_at_call 14; rw [HT.out]; refine (refwhole_m k x _ HX.out).mono ?_; rintro e w2 ⟨rfl, hb2⟩; rw [HQ.out]; have B := below_step hbel hb2; clear hb2)
        go_ret
        exact ⟨ret_bool HR.out.symm, B⟩
    · have hr2 : r = false := by rw [← H.out, List.drop_eq_nil_of_le (by omega)]; rfl
      have HR := Lib.hid hr2; clear hr2
      go_wp2
      go_ret
      exact ⟨ret_bool HR.out.symm, hbel⟩

theorem cut_txt (l : List UInt8) (m : Nat) : (mkB l).extract 0 m = mkB (l.take m) := by
  rw [strV_mk, mkB_list]; simp
theorem liveN_le (k : Nat) (l : List UInt8) (a : Nat) : liveN k a l ≤ l.length := (run_last k l a).2.2

set_option maxHeartbeats 800000 in
theorem reflive_any (k : Nat) (hk : k < 3) (l : List UInt8) (w : World) (hs : l.length ≤ 1000000) :
    Calls Tryd.prog 13 #[.int .i64 (k : Int), .string (mkB l)] w fun e w' => e = .returned (.int .i64 (liveN k 0 l : Nat)) ∧ Below w.heap.size w w' := by
  have hle := liveN_le k l 0
  have hrt := run_take k l 0
  obtain ⟨n, hn⟩ : ∃ n, liveN k 0 l = n := ⟨_, rfl⟩
  rw [hn] at hle hrt ⊢
  have hz := mkB_size l
  have HRT := Lib.hid hrt; have HZ := Lib.hid hz; have HK := Lib.hid hk
  obtain ⟨m, hm⟩ : ∃ m, (mkB l).size = m := ⟨_, rfl⟩
  have hml : m = l.length := by rw [← hm, hz]
  have HML := Lib.hid hml; have HM := Lib.hid hm
  have hmm : (mkB l).size ≤ 1000000 := by rw [hz]; exact hs
  have hnm : n ≤ (mkB l).size := by rw [hz]; exact hle
  have B0 := Below.refl w.heap.size w
  clear hn hrt hz hk hml hm hle hs
  go_enter Tryd.func13, Tryd.ntmps13
  go_wp2
  go_loopw [5] (fun i wr => ∃ j : Nat, j ≤ n ∧ i = .int .i64 (j : Int) ∧ Below w.heap.size w wr) (fun i _ => n - (intOf i).toNat)
  case atStart => exact ⟨0, Nat.zero_le _, rfl, B0⟩
  case round =>
    obtain ⟨j, hj, rfl, hbel⟩ := hrel
    by_cases hlt : j < (mkB l).size
    · have hc := HRT.out (j + 1) (by rw [← HZ.out]; omega)
      have HT := Lib.hid (cut_txt l (j + 1))
      have hx : (l.take (j + 1)).length ≤ 1000000 := by rw [List.length_take, ← HZ.out]; omega
      have HX := Lib.hid hx
      clear hx
      by_cases hq : j < n
      · rw [decide_eq_true (by omega)] at hc
        have HC := Lib.hid hc; clear hc
        go_wp2_with (go_at_call 18; rw [HT.out]; refine (reflives_any k HK.out _ _ HX.out).mono ?_; rintro e w2 ⟨rfl, hb2⟩; rw [HC.out]; have B := below_step hbel hb2; clear hb2)
        go_roundw
        case rel => exact ⟨j + 1, by omega, by go_num, B⟩
        case measure => simp [intOf]; omega
      · rw [decide_eq_false (by omega)] at hc
        have HC := Lib.hid hc; clear hc
        have e1 : j = n := by omega
        subst e1
        go_wp2_with (go_at_call 18; rw [HT.out]; refine (reflives_any k HK.out _ _ HX.out).mono ?_; rintro e w2 ⟨rfl, hb2⟩; rw [HC.out]; have B := below_step hbel hb2; clear hb2)
        go_ret
        exact ⟨rfl, B⟩
    · have e1 : j = n := by omega
      subst e1
      go_wp2
      go_ret
      exact ⟨rfl, hbel⟩

/-! ### What the statements look at of a text -/
def few6 (l : List UInt8) : List UInt8 := l.take 60
theorem few6_le (l : List UInt8) : (few6 l).length ≤ 60 := by unfold few6; exact List.length_take_le _ _
set_option maxHeartbeats 400000 in
theorem few6_any (s : ByteArray) (w : World) (hs : s.size ≤ maxLen) :
    Calls Tryd.prog 9 #[.string s] w fun e w' => e = .returned (.string (mkB (few6 s.data.toList))) ∧ w' = w := by
  have hm := hs
  unfold maxLen at hm
  by_cases h : 60 < s.size
  · have HE := Lib.hid (show s.extract 0 60 = mkB (few6 s.data.toList) by rw [strV_mk]; rfl)
    go_enter Tryd.func9, Tryd.ntmps9
    go_wp2
    go_ret
    exact ⟨by rw [← HE.out]; rfl, rfl⟩
  · have HE := Lib.hid (show mkB (fewL s.data.toList) = mkB (few6 s.data.toList) by
      unfold fewL few6; rw [List.take_of_length_le (by rw [← Lib.size_eq]; omega), List.take_of_length_le (by rw [← Lib.size_eq]; omega)])
    go_enter Tryd.func9, Tryd.ntmps9
    go_wp2_with (go_at_call 19; refine (few_ml s _ hs).mono ?_; rintro e w1 ⟨rfl, rfl⟩; rw [HE.out])
    go_ret
    exact ⟨rfl, rfl⟩

theorem live_m (k : Int) (l : List UInt8) (w : World) (hs : l.length ≤ 1000000000) :
    Calls Tryd.prog 10 #[.int .i64 k, .string (mkB l)] w fun e w' => e = .returned (.int .i64 (liveZ k l)) ∧ Below w.heap.size w w' := by
  have := live_any k (mkB l) w (m_size hs)
  rwa [mkB_list] at this
theorem whole_m (k : Int) (l : List UInt8) (w : World) (hs : l.length ≤ 1000000000) (hR : RestIs w) :
    Calls Tryd.prog 11 #[.int .i64 k, .string (mkB l)] w fun e w' => e = .returned (.bool (wholeZ k l)) ∧ Below w.heap.size w w' := by
  have := whole_any k (mkB l) w (m_size hs) hR
  rwa [mkB_list] at this
theorem live_at (k : Int) (l : List UInt8) (hl : l.length ≤ 1000000000) (r : Int) (h : liveZ k l = r) (w : World) :
    Calls Tryd.prog 10 #[.int .i64 k, .string ⟨l.toArray⟩] w fun e w' => e = .returned (.int .i64 r) ∧ Below w.heap.size w w' := by
  subst h; exact live_m k l w hl
theorem whole_at (k : Int) (l : List UInt8) (hl : l.length ≤ 1000000000) (r : Bool) (h : wholeZ k l = r) (w : World) (hR : RestIs w) :
    Calls Tryd.prog 11 #[.int .i64 k, .string ⟨l.toArray⟩] w fun e w' => e = .returned (.bool r) ∧ Below w.heap.size w w' := by
  subst h; exact whole_m k l w hl hR

set_option maxHeartbeats 1600000 in
theorem awake6_any (w : World) (hR : RestIs w) :
    Calls Tryd.prog 12 #[] w fun e w' => e = .returned (.bool true) ∧ Below w.heap.size w w' := by
  have a1 := Lib.hid (show liveZ 1 (⟨#[118, 49, 46, 48, 46, 48, 45, 48, 49]⟩ : ByteArray).data.toList = 9 by decide +kernel)
  have a2 := Lib.hid (show liveZ 1 (⟨#[118, 49, 46, 48, 46, 48, 45, 48, 49, 46]⟩ : ByteArray).data.toList = 9 by decide +kernel)
  have a3 := Lib.hid (show liveZ 0 (⟨#[97, 47, 47, 98]⟩ : ByteArray).data.toList = 2 by decide +kernel)
  have a4 := Lib.hid (show wholeZ 2 (⟨#[49, 46, 50]⟩ : ByteArray).data.toList = true by decide +kernel)
  have a5 := Lib.hid (show wholeZ 2 (⟨#[49, 46, 48, 50]⟩ : ByteArray).data.toList = false by decide +kernel)
  have B := Lib.hid (Below.refl w.heap.size w)
  go_enter Tryd.func12, Tryd.ntmps12
  go_wp2_with (first
    | (go_at_call 10; refine (live_any _ _ _ (by decide)).mono ?_; rintro e w1 ⟨rfl, hb1⟩; replace B := Lib.hid (below_step B.out hb1); clear hb1; first | rw [a1.out] | rw [a2.out] | rw [a3.out])
    | (go_at_call 11; refine (whole_any _ _ _ (by decide) (hR.below B.out)).mono ?_; rintro e w1 ⟨rfl, hb1⟩; replace B := Lib.hid (below_step B.out hb1); clear hb1; first | rw [a4.out] | rw [a5.out]))
  go_ret
  exact ⟨rfl, B.out⟩
end Go.Proofs.YtjlnajokkhdhnaaDoor
