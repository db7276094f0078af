/- What elements are put together, and which path is within which: of the program and of the document; the chapter's examples hold. -/
import Derived.Test.YtekdgjllnlkfmaaPatC
namespace Go.Proofs.Ytekdgjllnlkfmaa
open Go.RowKit

def joinP (ls : List (List UInt8)) : List UInt8 × Int := if okJ ls = true then (jn 47 ls, 0) else ([], 1)
theorem joinP_ok {ls : List (List UInt8)} (h : okJ ls = true) : joinP ls = (jn 47 ls, 0) := by unfold joinP; rw [if_pos h]
theorem joinP_no {ls : List (List UInt8)} (h : okJ ls = false) : joinP ls = ([], 1) := by unfold joinP; rw [if_neg (by simp [h])]

theorem Strs.cut {w : World} {a : Option Addr} {len cap : Nat} {zs : List (List UInt8)} (h : Strs w (.slice a len cap) zs) (k : Nat) (hk : k ≤ len) : Strs w (.slice a k cap) (zs.take k) := by
  obtain ⟨a', c', hv, h1, h2, hn, h3⟩ := h.ex
  injection hv with e1 e2 e3
  subst e1 e2 e3
  have e : (zs.take k).length = k := by simp; omega
  refine ⟨a, cap, by rw [e], by omega, h2, hn, fun hp => ?_⟩
  rw [e] at hp ⊢
  obtain ⟨b, off, ha, hlt, hc⟩ := h3 (by omega)
  refine ⟨b, off, ha, hlt, fun j hj => ?_⟩
  rw [hc j (by omega)]
  congr 1
  simp only [List.getD_eq_getElem?_getD, List.getElem?_take, if_pos hj]

set_option maxHeartbeats 800000 in
theorem pjoin_any (v : Value) (ls : List (List UInt8)) (w : World) (h : Strs w v ls) (hl : ∀ l ∈ ls, l.length ≤ 1000000000) (hn : ls.length ≤ 1000000000) (hj : (jn 47 ls).length ≤ 1000000000) :
    Calls Try.prog 19 #[v] w fun e w' => e = .returned (.tuple #[.string (mkB (joinP ls).1), .int .i64 (joinP ls).2]) ∧ Below w.heap.size w w' := by
  have hst := h
  obtain ⟨a, c, rfl, h1, h2, _, _⟩ := h.ex
  unfold maxLen at h2
  have ST := Lib.hid hst; have HL := Lib.hid hl; have HJ := Lib.hid hj; clear h hst hl hj
  obtain ⟨n, hnn⟩ : ∃ n, ls.length = n := ⟨_, rfl⟩
  rw [hnn] at ST h1 hn ⊢
  by_cases h0 : n = 0
  · have hk : okJ ls = false := by unfold okJ; rw [hnn, decide_eq_false (by omega)]; rfl
    rw [joinP_no hk]
    have hb : ((n : Int) == 0) = true := by rw [beq_iff_eq]; omega
    have H0 := Lib.hid h0; have HN := Lib.hid hnn; clear h0 hk hnn
    go_enter Try.func19, Try.ntmps19
    go_wp2
    go_ret2
    exact ⟨rfl, Below.refl _ _⟩
  · have hb : ((n : Int) == 0) = false := by rw [beq_eq_false_iff_ne]; omega
    have h0' : 0 < n := by omega
    have hk : okJ ls = ls.all elemB := by unfold okJ; rw [hnn, decide_eq_true h0', Bool.true_and]
    cases hq : ls.all elemB
    · rw [joinP_no (by rw [hk, hq])]
      have HQ := Lib.hid hq; have HN := Lib.hid hnn; clear hk hq h0 hnn
      go_enter Try.func19, Try.ntmps19
      go_wp2_with (go_at_call 21; refine (pfit_any _ ls _ ST.out HL.out).mono ?_; rintro e w1 ⟨rfl, hb1⟩; rw [HQ.out])
      go_ret2
      exact ⟨rfl, by assumption⟩
    · rw [joinP_ok (by rw [hk, hq])]
      have HQ := Lib.hid hq; have HN := Lib.hid hnn; clear hk hq h0 hnn
      go_enter Try.func19, Try.ntmps19
      go_wp2_with (first
        | (go_at_call 21; refine (pfit_any _ ls _ ST.out HL.out).mono ?_; rintro e w1 ⟨rfl, hb1⟩; rw [HQ.out])
        | (go_at_call 24; refine (join_n 47 a c n ls _ HN.out (by rw [HN.out]; exact ST.out.below (by assumption)) (by omega) (by rw [HN.out]; omega) HJ.out).mono ?_; rintro e w2 ⟨rfl, hb2⟩))
      go_ret2
      exact ⟨rfl, below_step hb1 hb2⟩

set_option maxHeartbeats 1600000 in
theorem within_any (s t : ByteArray) (w : World) (hs : s.size ≤ 1000000000) (ht : t.size ≤ 1000000000) :
    Calls Try.prog 13 #[.string s, .string t] w fun e w' => e = .returned (.bool (withinB s.data.toList t.data.toList)) ∧ Below w.heap.size w w' := by
  have HS := Lib.hid hs; have HT := Lib.hid ht; clear hs ht
  obtain ⟨x, hx⟩ : ∃ x, s.data.toList = x := ⟨_, rfl⟩
  obtain ⟨y, hy⟩ : ∃ y, t.data.toList = y := ⟨_, rfl⟩
  rw [hx, hy]
  have HX := Lib.hid hx; have HY := Lib.hid hy; clear hx hy
  cases hp : pathB x
  · have hw : withinB x y = false := by unfold withinB; rw [hp]; rfl
    have h1 := pathE_no hp
    obtain ⟨k, hk⟩ : ∃ k, pathE y = k := ⟨_, rfl⟩
    rw [hw]
    have H1 := Lib.hid h1; have HK := Lib.hid hk; clear hw hp h1 hk
    obtain ⟨es, hes⟩ : ∃ l, elsL x = l := ⟨_, rfl⟩
    obtain ⟨et, het⟩ : ∃ l, elsL y = l := ⟨_, rfl⟩
    have HES := Lib.hid hes; have HET := Lib.hid het; clear hes het
    go_enter Try.func13, Try.ntmps13
    go_wp2_with fail
    refine (elements_any s _ HS.out).mono ?_
    rintro e w1 ⟨a, c, rfl, hst, hb1⟩
    rw [HX.out, H1.out, HES.out]
    clear hst
    go_wp2_with fail
    refine (elements_any t _ HT.out).mono ?_
    rintro e w2 ⟨a', c', rfl, hst, hb2⟩
    rw [HY.out, HK.out, HET.out]
    clear hst
    go_wp2
    go_ret
    exact ⟨rfl, below_step hb1 hb2⟩
  · cases hq : pathB y
    · have hw : withinB x y = false := by unfold withinB; rw [hp, hq]; rfl
      have h1 := pathE_ok hp
      have h2 := pathE_no hq
      rw [hw]
      have H1 := Lib.hid h1; have H2 := Lib.hid h2; clear hw hp h1 h2 hq
      obtain ⟨es, hes⟩ : ∃ l, elsL x = l := ⟨_, rfl⟩
      obtain ⟨et, het⟩ : ∃ l, elsL y = l := ⟨_, rfl⟩
      have HES := Lib.hid hes; have HET := Lib.hid het; clear hes het
      go_enter Try.func13, Try.ntmps13
      go_wp2_with fail
      refine (elements_any s _ HS.out).mono ?_
      rintro e w1 ⟨a, c, rfl, hst, hb1⟩
      rw [HX.out, H1.out, HES.out]
      clear hst
      go_wp2_with fail
      refine (elements_any t _ HT.out).mono ?_
      rintro e w2 ⟨a', c', rfl, hst, hb2⟩
      rw [HY.out, H2.out, HET.out]
      clear hst
      go_wp2
      go_ret
      exact ⟨rfl, below_step hb1 hb2⟩
    · have h1 := pathE_ok hp
      have h2 := pathE_ok hq
      have hes0 := elsL_ok hp
      have het0 := elsL_ok hq
      have hlx := elsL_len x
      have hly := elsL_len y
      have hsx : x.length ≤ 1000000000 := by rw [← HX.out, ← Lib.size_eq]; exact HS.out
      have hsy : y.length ≤ 1000000000 := by rw [← HY.out, ← Lib.size_eq]; exact HT.out
      have hpos : 0 < (splitL 47 x).length := List.length_pos_iff.2 (splitL_ne 47 x)
      obtain ⟨es, hes⟩ : ∃ l, elsL x = l := ⟨_, rfl⟩
      obtain ⟨et, het⟩ : ∃ l, elsL y = l := ⟨_, rfl⟩
      have hw : withinB x y = (decide (es.length ≤ et.length) && sameB es (et.take es.length)) := by
        unfold withinB; rw [hp, hq, ← hes0, ← het0, hes, het]; rfl
      rw [← hes0, hes] at hpos
      rw [hes] at hlx; rw [het] at hly
      obtain ⟨n, hn⟩ : ∃ n, es.length = n := ⟨_, rfl⟩
      obtain ⟨m, hm⟩ : ∃ m, et.length = m := ⟨_, rfl⟩
      rw [hn, hm] at hw
      rw [hn] at hlx hpos; rw [hm] at hly
      rw [hw]
      have H1 := Lib.hid h1; have H2 := Lib.hid h2; have HES := Lib.hid hes; have HET := Lib.hid het; have HN := Lib.hid hn; have HM := Lib.hid hm
      clear hw hp h1 h2 hq hes0 het0 hes het hn hm
      by_cases hlt : n ≤ m
      · rw [decide_eq_true hlt, Bool.true_and]
        have hb : decide (m < n) = false := by rw [decide_eq_false_iff_not]; omega
        obtain ⟨r, hr⟩ : ∃ r, sameB es (et.take n) = r := ⟨_, rfl⟩
        have HR := Lib.hid hr
        rw [hr]
        clear hr
        go_enter Try.func13, Try.ntmps13
        go_wp2_with fail
        refine (elements_any s _ HS.out).mono ?_
        rintro e w1 ⟨a, c, rfl, hst, hb1⟩
        rw [HX.out] at hst ⊢
        rw [HES.out, HN.out] at hst
        rw [H1.out, HES.out, HN.out]
        have ST1 := Lib.hid hst; clear hst
        go_wp2_with fail
        refine (elements_any t _ HT.out).mono ?_
        rintro e w2 ⟨a', c', rfl, hst, hb2⟩
        rw [HY.out] at hst ⊢
        rw [HET.out, HM.out] at hst
        rw [H2.out, HET.out, HM.out]
        have hc2 : m ≤ c' ∧ ∃ b off, a' = some ⟨b, off, none⟩ := by
          obtain ⟨a3, c3, hv, q1, q2, _, q3⟩ := hst.ex
          injection hv with e1 e2 e3
          subst e1 e3
          rw [HM.out] at q1 q3
          obtain ⟨b, off, rfl, _⟩ := q3 (by omega)
          exact ⟨q1, b, off, rfl⟩
        obtain ⟨hc2, b, off, rfl⟩ := hc2
        have CUT := Lib.hid (hst.cut n hlt)
        have ST2 := Lib.hid (ST1.out.below hb2); clear hst
        go_wp2_with (go_at_call 22; refine (sequal_any _ _ es (et.take n) _ ST2.out CUT.out).mono ?_; rintro e w3 ⟨rfl, hq⟩; rw [HR.out]; have hb3 := below_q hq; clear hq)
        go_ret
        exact ⟨rfl, below_step (below_step hb1 hb2) hb3⟩
      · rw [decide_eq_false hlt, Bool.false_and]
        have hb : decide (m < n) = true := by rw [decide_eq_true_eq]; omega
        go_enter Try.func13, Try.ntmps13
        go_wp2_with fail
        refine (elements_any s _ HS.out).mono ?_
        rintro e w1 ⟨a, c, rfl, hst, hb1⟩
        rw [HX.out, H1.out, HES.out, HN.out]
        clear hst
        go_wp2_with fail
        refine (elements_any t _ HT.out).mono ?_
        rintro e w2 ⟨a', c', rfl, hst, hb2⟩
        rw [HY.out, H2.out, HET.out, HM.out]
        clear hst
        go_wp2
        go_ret
        exact ⟨rfl, below_step hb1 hb2⟩
end Go.Proofs.Ytekdgjllnlkfmaa
