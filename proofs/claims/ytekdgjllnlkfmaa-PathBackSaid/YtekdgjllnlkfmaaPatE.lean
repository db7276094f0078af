/- The document's Within; the chapter's examples hold. -/
import Derived.Test.YtekdgjllnlkfmaaPatD
namespace Go.Proofs.Ytekdgjllnlkfmaa
open Go.RowKit

set_option maxHeartbeats 1600000 in
theorem refwithin_any (s t : ByteArray) (w : World) (hs : s.size ≤ 1000000000) (ht : t.size ≤ 1000000000) :
    Calls Try.prog 14 #[.string s, .string t] w fun e w' => e = .returned (.bool (withinB s.data.toList t.data.toList)) ∧ Below w.heap.size w w' := by
  have HS := Lib.hid hs; have HT := Lib.hid ht; clear hs ht
  obtain ⟨x, hx⟩ : ∃ x, s.data.toList = x := ⟨_, rfl⟩
  obtain ⟨y, hy⟩ : ∃ y, t.data.toList = y := ⟨_, rfl⟩
  rw [hx, hy]
  have HX := Lib.hid hx; have HY := Lib.hid hy; clear hx hy
  cases hp : pathB x
  · have hw : withinB x y = false := by unfold withinB; rw [hp]; rfl
    rw [hw]
    have H1 := Lib.hid hp; clear hw hp
    go_enter Try.func14, Try.ntmps14
    go_wp2_with (go_at_call 12; refine (refpmay_any s _ HS.out).mono ?_; rintro e w1 ⟨rfl, hb1⟩; rw [HX.out, H1.out])
    go_ret
    exact ⟨rfl, by assumption⟩
  · cases hq : pathB y
    · have hw : withinB x y = false := by unfold withinB; rw [hp, hq]; rfl
      rw [hw]
      have H1 := Lib.hid hp; have H2 := Lib.hid hq; clear hw hp hq
      go_enter Try.func14, Try.ntmps14
      go_wp2_with fail
      refine (refpmay_any s _ HS.out).mono ?_
      rintro e w1 ⟨rfl, hb1⟩
      rw [HX.out, H1.out]
      go_wp2_with fail
      refine (refpmay_any t _ HT.out).mono ?_
      rintro e w2 ⟨rfl, hb2⟩
      rw [HY.out, H2.out]
      go_wp2
      go_ret
      exact ⟨rfl, below_step hb1 hb2⟩
    · have hlx := splitL_len 47 x
      have hly := splitL_len 47 y
      have hsx : x.length ≤ 1000000000 := by rw [← HX.out, ← Lib.size_eq]; exact HS.out
      have hsy : y.length ≤ 1000000000 := by rw [← HY.out, ← Lib.size_eq]; exact HT.out
      have hpos : 0 < (splitL 47 x).length := List.length_pos_iff.2 (splitL_ne 47 x)
      obtain ⟨es, hes⟩ : ∃ l, splitL 47 x = l := ⟨_, rfl⟩
      obtain ⟨et, het⟩ : ∃ l, splitL 47 y = l := ⟨_, rfl⟩
      have hw : withinB x y = (decide (es.length ≤ et.length) && sameB es (et.take es.length)) := by
        unfold withinB; rw [hp, hq, hes, het]; rfl
      rw [hes] at hlx hpos; rw [het] at hly
      obtain ⟨n, hn⟩ : ∃ n, es.length = n := ⟨_, rfl⟩
      obtain ⟨m, hm⟩ : ∃ m, et.length = m := ⟨_, rfl⟩
      rw [hn, hm] at hw
      rw [hn] at hlx hpos; rw [hm] at hly
      rw [hw]
      have H1 := Lib.hid hp; have H2 := Lib.hid hq; have HES := Lib.hid hes; have HET := Lib.hid het; have HN := Lib.hid hn; have HM := Lib.hid hm
      clear hw hp hq hes het hn hm
      by_cases hlt : n ≤ m
      · rw [decide_eq_true hlt, Bool.true_and]
        go_enter Try.func14, Try.ntmps14
        go_wp2_with fail
        refine (refpmay_any s _ HS.out).mono ?_
        rintro e w1 ⟨rfl, hb1⟩
        rw [HX.out, H1.out]
        go_wp2_with fail
        refine (refpmay_any t _ HT.out).mono ?_
        rintro e w2 ⟨rfl, hb2⟩
        rw [HY.out, H2.out]
        go_wp2_with fail
        refine (refparts_any s 47 _ HS.out).mono ?_
        rintro e w3 ⟨v, rfl, ho, hb3⟩
        rw [HX.out, HES.out] at ho
        have hst := Strs.owned ho; clear ho
        obtain ⟨a, c, rfl, _⟩ := hst.ex
        rw [HN.out] at hst ⊢
        have ST1 := Lib.hid hst; clear hst
        go_wp2_with fail
        refine (refparts_any t 47 _ HT.out).mono ?_
        rintro e w4 ⟨v, rfl, ho, hb4⟩
        rw [HY.out, HET.out] at ho
        have hst := Strs.owned ho; clear ho
        obtain ⟨a', c', rfl, _⟩ := hst.ex
        rw [HM.out] at hst ⊢
        have hc2 : m ≤ c' ∧ ∃ b off, a' = some ⟨b, off, none⟩ := by
          obtain ⟨a3, c3, hv, q1, q2, _, q3⟩ := hst.ex
          injection hv with e1 e2 e3
          subst e1 e3
          rw [HM.out] at q1 q3
          obtain ⟨b, off, rfl, _⟩ := q3 (by omega)
          exact ⟨q1, b, off, rfl⟩
        obtain ⟨hc2, b, off, rfl⟩ := hc2
        have CUT := Lib.hid (hst.cut n hlt)
        have ST2 := Lib.hid (ST1.out.below hb4); clear hst
        go_wp2_with (go_at_call 16; refine (same_any _ _ es (et.take n) _ ST2.out CUT.out).mono ?_; rintro e w5 ⟨rfl, hq⟩; have hb5 := below_q hq; clear hq)
        go_ret
        exact ⟨rfl, below_step (below_step (below_step (below_step hb1 hb2) hb3) hb4) hb5⟩
      · rw [decide_eq_false hlt, Bool.false_and]
        go_enter Try.func14, Try.ntmps14
        go_wp2_with fail
        refine (refpmay_any s _ HS.out).mono ?_
        rintro e w1 ⟨rfl, hb1⟩
        rw [HX.out, H1.out]
        go_wp2_with fail
        refine (refpmay_any t _ HT.out).mono ?_
        rintro e w2 ⟨rfl, hb2⟩
        rw [HY.out, H2.out]
        go_wp2_with fail
        refine (refparts_any s 47 _ HS.out).mono ?_
        rintro e w3 ⟨v, rfl, ho, hb3⟩
        rw [HX.out, HES.out] at ho
        have hst := Strs.owned ho; clear ho
        obtain ⟨a, c, rfl, _⟩ := hst.ex
        rw [HN.out] at hst ⊢
        have ST1 := Lib.hid hst; clear hst
        go_wp2_with fail
        refine (refparts_any t 47 _ HT.out).mono ?_
        rintro e w4 ⟨v, rfl, ho, hb4⟩
        rw [HY.out, HET.out] at ho
        have hst := Strs.owned ho; clear ho
        obtain ⟨a', c', rfl, _⟩ := hst.ex
        rw [HM.out] at hst ⊢
        clear hst
        go_wp2
        go_ret
        exact ⟨rfl, below_step (below_step (below_step hb1 hb2) hb3) hb4⟩

theorem pmay_at (l : List UInt8) (hl : l.length ≤ 1000000000) (r : Bool) (h : pathB l = r) (w : World) :
    Calls Try.prog 11 #[.string ⟨l.toArray⟩] w fun e w' => e = .returned (.bool r) ∧ Below w.heap.size w w' := by
  subst h
  have := pmay_any (mkB l) w (by rw [mkB_size]; exact hl)
  rwa [mkB_list] at this
theorem within_at (p q : List UInt8) (hp : p.length ≤ 1000000000) (hq : q.length ≤ 1000000000) (r : Bool) (h : withinB p q = r) (w : World) :
    Calls Try.prog 13 #[.string ⟨p.toArray⟩, .string ⟨q.toArray⟩] w fun e w' => e = .returned (.bool r) ∧ Below w.heap.size w w' := by
  subst h
  have := within_any (mkB p) (mkB q) w (by rw [mkB_size]; exact hp) (by rw [mkB_size]; exact hq)
  rwa [mkB_list, mkB_list] at this

set_option maxHeartbeats 1600000 in
theorem awake4_any (w : World) :
    Calls Try.prog 15 #[] w fun e w' => e = .returned (.bool true) ∧ Below w.heap.size w w' := by
  go_enter Try.func15, Try.ntmps15
  go_wp2_with fail
  refine (pjoin_any _ [] _ (strs_none _) (by simp) (by simp) (by simp [jn])).mono ?_
  rintro e w0 ⟨rfl, hb0⟩
  rw [joinP_no (by decide)]
  go_wp2_with fail
  refine (pmay_at [97, 46, 98, 47, 99] (by simp) true (by decide +kernel) _).mono ?_
  rintro e w1 ⟨rfl, hb1⟩
  go_wp2_with fail
  refine (pmay_at [97, 46, 47, 98] (by simp) false (by decide +kernel) _).mono ?_
  rintro e w2 ⟨rfl, hb2⟩
  go_wp2_with fail
  refine (pmay_at [97, 47, 47, 98] (by simp) false (by decide +kernel) _).mono ?_
  rintro e w3 ⟨rfl, hb3⟩
  go_wp2_with fail
  refine (pmay_at [46, 97] (by simp) false (by decide +kernel) _).mono ?_
  rintro e w4 ⟨rfl, hb4⟩
  go_wp2_with fail
  refine (within_at [97] [97, 47, 98] (by simp) (by simp) true (by decide +kernel) _).mono ?_
  rintro e w5 ⟨rfl, hb5⟩
  go_wp2_with fail
  refine (within_at [97] [97, 98] (by simp) (by simp) false (by decide +kernel) _).mono ?_
  rintro e w6 ⟨rfl, hb6⟩
  go_wp2
  go_ret
  exact ⟨rfl, below_step (below_step (below_step (below_step (below_step (below_step hb0 hb1) hb2) hb3) hb4) hb5) hb6⟩
end Go.Proofs.Ytekdgjllnlkfmaa
