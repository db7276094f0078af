/- THE TEXTS OF PatA PatB PatF: Is a text an element, are all of some, are two lists of texts the same: of the program and of the document. The document's element; slices.Equal at texts; a path's elements, whether a text is a path, and what elements are put together. THE TEXTS OF PatC PatD PatE PatF: A path's elements, whether a text is a path, what elements are put together, and which path is within which: of the program and of the document. What elements are put together, and which path is within which: of the program and of the document; the chapter's examples hold. The document's Within; the chapter's examples hold. The contracts of path at texts as the statements have them, and what they lean on. -/
import Derived.Test.YtdefphacdcbljaaPatM
import Derived.Lib.OthersKept
import Derived.Laws.RangeAny
import Derived.Test.YtdefphacdcbljaaOctJ
import Derived.Deep.QuietTactic
import Derived.BigQuiet
namespace Go.Proofs.Ytdefphacdcbljaa
open Go.RowKit
set_option maxRecDepth 100000

theorem getD_at (s : ByteArray) (k : Nat) (h : k < s.size) : s.data.toList.getD k 0 = s[k] := by
  rw [List.getD_eq_getElem?_getD, List.getElem?_eq_getElem (by simpa using h)]; rfl

set_option maxHeartbeats 1600000 in
set_option maxRecDepth 100000 in
theorem iselement_any (s : ByteArray) (w : World) (hs : s.size ≤ 1000000000) :
    Calls Try.prog 64 #[.string s] w fun e w' => e = .returned (.bool (elemB s.data.toList)) ∧ Bel w.heap.size w w' := by
  have hz := Lib.size_eq s
  have HZ := Lib.hid hz; clear hz
  go_enter Try.func64, Try.ntmps64
  go_wp2
  go_loopw [] (fun wr => ∃ k : Nat, k ≤ s.size ∧ wr.heap[w.heap.size]? = some (.stringIter s k) ∧ Bel w.heap.size w wr ∧ Hid (∀ j, j < k → okAt s.data.toList j = true)) (fun wr => s.size - wr.iterPos w.heap.size)
  case atStart =>
    refine ⟨0, Nat.zero_le _, World.iter_heap w s 0, (Bel.refl _ w).alloc (Nat.le_refl _) _, Lib.hid fun j hj => absurd hj (Nat.not_lt_zero j)⟩
  case round =>
    obtain ⟨k, hk, hit, hbw, H⟩ := hrel
    by_cases hlt : k < s.size
    · have hsz : w.heap.size < wr.heap.size := (Array.getElem?_eq_some_iff.1 hit).1
      have hlt8 : s[k].toNat < 256 := UInt8.toNat_lt _
      have hk1 : k < s.data.toList.length := by rw [← HZ.out]; exact hlt
      have hga := getD_at s k hlt
      by_cases ha : s[k].toNat < 128
      · have hnx : ∀ ty, (Instr.next (.pointer (some ⟨w.heap.size, 0, none⟩)) true ty).run Try.prog wr = _ := fun ty => Lib.run_next_ascii_at wr w.heap.size s k ty hit hlt ha
        have hit2 := Lib.iterAt_heap wr w.heap.size s k (k + 1) hit
        have hbw2 := bel_iterAt hbw (k := w.heap.size) (Nat.le_refl _) s (k + 1)
        obtain ⟨wx, hwx⟩ : ∃ wx, wx = wr.iterAt w.heap.size s (k + 1) := ⟨_, rfl⟩
        rw [← hwx] at hnx hit2 hbw2
        have hsx : w.heap.size < wx.heap.size := (Array.getElem?_eq_some_iff.1 hit2).1
        have HIT := Lib.hid hit; have HIT2 := Lib.hid hit2; have HGA := Lib.hid hga
        clear hwx hit hit2 hga
        have hw2 : wr.heap.size ≤ wr.heap.size := Nat.le_refl _
        cases hq : okC s[k]
        · have hq' : hasB [1, 2, 3] (clsI s[k].toNat) = false := hq
          have hel := elemB_no (l := s.data.toList) hk1 (okAt_no (by rw [HGA.out]; exact hq))
          have HE := Lib.hid hel; have HQ := Lib.hid hq'; clear hel hq hq'
          go_wp2_with (go_at_call 72; refine (in_any _ (by omega) (by omega) _ [1, 2, 3] _ (Ints.lit wx _ [1, 2, 3] _ rfl (by decide))).mono ?_; rintro e w1 ⟨rfl, hb1⟩; rw [HQ.out])
          go_ret
          exact ⟨ret_bool HE.out.symm, hbw2.trans (((Bel.refl _ _).alloc (Nat.le_of_lt hsx) _).trans (hb1.mono (by simp; omega)))⟩
        · have hq' : hasB [1, 2, 3] (clsI s[k].toNat) = true := hq
          have hqa : okC (s.data.toList.getD k 0) = true := by rw [HGA.out]; exact hq
          have HQ := Lib.hid hq'; have HQA := Lib.hid hqa; clear hq hq' hqa
          by_cases hd : s[k].toNat = 46 ∧ (k = 0 ∨ k + 1 = s.size)
          · obtain ⟨hd1, hd2⟩ := hd
            have hel := elemB_no (l := s.data.toList) hk1 (okAt_dot (by rw [HGA.out]; exact hd1) (by rw [← HZ.out]; exact hd2))
            have HE := Lib.hid hel; clear hel
            have hb46 : ((s[k].toNat : Int) == 46) = true := by rw [beq_iff_eq]; omega
            have HD := Lib.hid hd1; clear hd1
            by_cases h0 : k = 0
            · have hb0 : ((k : Int) == 0) = true := by rw [beq_iff_eq]; omega
              have H0 := Lib.hid h0; have H2 := Lib.hid hd2; clear h0 hd2
              go_wp2_with (go_at_call 72; refine (in_any _ (by omega) (by omega) _ [1, 2, 3] _ (Ints.lit wx _ [1, 2, 3] _ rfl (by decide))).mono ?_; rintro e w1 ⟨rfl, hb1⟩; rw [HQ.out])
              go_ret
              exact ⟨ret_bool HE.out.symm, hbw2.trans (((Bel.refl _ _).alloc (Nat.le_of_lt hsx) _).trans (hb1.mono (by simp; omega)))⟩
            · have h9 : k + 1 = s.size := by omega
              have hb0 : ((k : Int) == 0) = false := by rw [beq_eq_false_iff_ne]; omega
              have hb1 : ((k : Int) == (s.size : Int) - 1) = true := by rw [beq_iff_eq]; omega
              have H9 := Lib.hid h9; have H0 := Lib.hid h0; have H2 := Lib.hid hd2; clear h9 h0 hd2
              go_wp2_with (go_at_call 72; refine (in_any _ (by omega) (by omega) _ [1, 2, 3] _ (Ints.lit wx _ [1, 2, 3] _ rfl (by decide))).mono ?_; rintro e w1 ⟨rfl, hb1⟩; rw [HQ.out])
              go_ret
              exact ⟨ret_bool HE.out.symm, hbw2.trans (((Bel.refl _ _).alloc (Nat.le_of_lt hsx) _).trans (hb1.mono (by simp; omega)))⟩
          · have hok := okAt_yes (l := s.data.toList) (j := k) HQA.out (by rw [HGA.out, ← HZ.out]; exact hd)
            have hnew : ∀ j, j < k + 1 → okAt s.data.toList j = true := fun j hj => by
              rcases Nat.lt_or_ge j k with h | h
              · exact H.out j h
              · obtain rfl : j = k := by omega
                exact hok
            have HNEW := Lib.hid hnew; clear hnew hok
            by_cases h46 : s[k].toNat = 46
            · have hb46 : ((s[k].toNat : Int) == 46) = true := by rw [beq_iff_eq]; omega
              have h0 : ¬ k = 0 := fun h => hd ⟨h46, .inl h⟩
              have h9 : ¬ k + 1 = s.size := fun h => hd ⟨h46, .inr h⟩
              have hb0 : ((k : Int) == 0) = false := by rw [beq_eq_false_iff_ne]; omega
              have hb1 : ((k : Int) == (s.size : Int) - 1) = false := by rw [beq_eq_false_iff_ne]; omega
              have H46 := Lib.hid h46; have H0 := Lib.hid h0; have H9 := Lib.hid h9; clear h46 h0 h9 hd
              go_wp2_with (go_at_call 72; refine (in_any _ (by omega) (by omega) _ [1, 2, 3] _ (Ints.lit wx _ [1, 2, 3] _ rfl (by decide))).mono ?_; rintro e w1 ⟨rfl, hb1⟩; rw [HQ.out])
              have hb2 := ((Bel.refl w.heap.size wx).alloc (Nat.le_of_lt hsx) (.cells #[.int .i64 1, .int .i64 2, .int .i64 3] 3)).trans (hb1.mono (by simp; omega))
              have kept : w1.heap[w.heap.size]? = some (.stringIter s (k + 1)) := (hb1.block _ (by simp; omega)).trans ((Below.heap_alloc _ _ _ hsx).trans HIT2.out)
              have KEPT := Lib.hid kept; clear kept
              go_roundw
              case rel => exact ⟨k + 1, by omega, KEPT.out, hbw2.trans hb2, HNEW⟩
              case measure => simp only [World.iterPos, KEPT.out, HIT.out]; omega
            · have hb46 : ((s[k].toNat : Int) == 46) = false := by rw [beq_eq_false_iff_ne]; omega
              clear h46 hd
              go_wp2_with (go_at_call 72; refine (in_any _ (by omega) (by omega) _ [1, 2, 3] _ (Ints.lit wx _ [1, 2, 3] _ rfl (by decide))).mono ?_; rintro e w1 ⟨rfl, hb1⟩; rw [HQ.out])
              have hb2 := ((Bel.refl w.heap.size wx).alloc (Nat.le_of_lt hsx) (.cells #[.int .i64 1, .int .i64 2, .int .i64 3] 3)).trans (hb1.mono (by simp; omega))
              have kept : w1.heap[w.heap.size]? = some (.stringIter s (k + 1)) := (hb1.block _ (by simp; omega)).trans ((Below.heap_alloc _ _ _ hsx).trans HIT2.out)
              have KEPT := Lib.hid kept; clear kept
              go_roundw
              case rel => exact ⟨k + 1, by omega, KEPT.out, hbw2.trans hb2, HNEW⟩
              case measure => simp only [World.iterPos, KEPT.out, HIT.out]; omega
      · have hnx : ∀ ty, (Instr.next (.pointer (some ⟨w.heap.size, 0, none⟩)) true ty).run Try.prog wr = _ := fun ty => Lib.run_next_any_at wr w.heap.size s k ty hit hlt
        obtain ⟨n, hn⟩ : ∃ n, n = k + (Utf8.decode s k).2 := ⟨_, rfl⟩
        obtain ⟨r, hr⟩ : ∃ r, r = (Utf8.decode s k).1 := ⟨_, rfl⟩
        rw [← hn, ← hr] at hnx
        have hit2 := Lib.iterAt_heap wr w.heap.size s k n hit
        have hbw2 := bel_iterAt hbw (k := w.heap.size) (Nat.le_refl _) s n
        obtain ⟨wx, hwx⟩ : ∃ wx, wx = wr.iterAt w.heap.size s n := ⟨_, rfl⟩
        rw [← hwx] at hnx hit2 hbw2
        have hsx : w.heap.size < wx.heap.size := (Array.getElem?_eq_some_iff.1 hit2).1
        have hq : okC s[k] = false := okC_high _ (by omega)
        have hq' : hasB [1, 2, 3] (clsI s[k].toNat) = false := hq
        have hel := elemB_no (l := s.data.toList) hk1 (okAt_no (by rw [hga]; exact hq))
        have HE := Lib.hid hel; have HQ := Lib.hid hq'; clear hel hq hq' hn hr hwx hit hit2 hga
        go_wp2_with (go_at_call 72; refine (in_any _ (by omega) (by omega) _ [1, 2, 3] _ (Ints.lit wx _ [1, 2, 3] _ rfl (by decide))).mono ?_; rintro e w1 ⟨rfl, hb1⟩; rw [HQ.out])
        go_ret
        exact ⟨ret_bool HE.out.symm, hbw2.trans (((Bel.refl _ _).alloc (Nat.le_of_lt hsx) _).trans (hb1.mono (by simp; omega)))⟩
    · have hnx : ∀ ty, (Instr.next (.pointer (some ⟨w.heap.size, 0, none⟩)) true ty).run Try.prog wr = _ := fun ty => Lib.run_next_end_at wr w.heap.size s k ty hit hlt
      have HIT := Lib.hid hit; clear hit
      go_wp2
      go_ret
      refine ⟨ret_bool ?_, hbw⟩
      rw [empty_iff]
      rcases Nat.eq_zero_or_pos s.size with h0 | h0
      · rw [elemB_nil (by rw [← HZ.out]; exact h0), decide_eq_true h0]; rfl
      · rw [elemB_yes (by rw [← HZ.out]; exact h0) (fun j hj => H.out j (by rw [← HZ.out] at hj; omega)), decide_eq_false (by omega)]; rfl

set_option maxHeartbeats 800000 in
theorem pfit_any (v : Value) (ls : List (List UInt8)) (w : World) (h : Strs w v ls) (hl : ∀ l ∈ ls, l.length ≤ 1000000000) :
    Calls Try.prog 56 #[v] w fun e w' => e = .returned (.bool (ls.all elemB)) ∧ Bel w.heap.size w w' := by
  obtain ⟨a, c, rfl, h1, h2, _, h3⟩ := h.ex
  clear h
  unfold maxLen at h2
  have H3 := Lib.hid h3; have HL := Lib.hid hl; clear h3 hl
  go_enter Try.func56, Try.ntmps56
  go_wp2
  go_loopw [7] (fun i wr => ∃ k : Nat, k ≤ ls.length ∧ i = .int .i64 k ∧ Hid ((ls.drop k).all elemB = ls.all elemB) ∧ Bel w.heap.size w wr) (fun i _ => ls.length - (intOf i).toNat)
  case atStart => exact ⟨0, Nat.zero_le _, rfl, Lib.hid (by simp), Bel.refl _ _⟩
  case round =>
    obtain ⟨k, hk, rfl, H, hbw⟩ := hrel
    by_cases hlt : k < ls.length
    · obtain ⟨b, off, rfl, hbk, hc⟩ := H3.out (by omega)
      have hcell : wr.cell? ⟨b, off + k, none⟩ = some (.string (mkB (ls.getD k []))) := by rw [hbw.cell (by exact hbk)]; exact hc k hlt
      clear hc
      obtain ⟨y, hy⟩ : ∃ y, y = ls.getD k [] := ⟨_, rfl⟩
      rw [← hy] at hcell
      have hd : (ls.drop k).all elemB = (elemB y && (ls.drop (k + 1)).all elemB) := by
        rw [List.drop_eq_getElem_cons hlt, List.all_cons, hy, List.getD_eq_getElem?_getD, List.getElem?_eq_getElem hlt]; rfl
      have hyl : (mkB y).size ≤ 1000000000 := by
        rw [mkB_size, hy, List.getD_eq_getElem?_getD, List.getElem?_eq_getElem hlt]
        exact HL.out _ (List.getElem_mem hlt)
      have HYL := Lib.hid hyl; have HD := Lib.hid hd; clear hyl hd hy
      cases hq : elemB y
      · have hr : ls.all elemB = false := by rw [← H.out, HD.out, hq]; rfl
        have HR := Lib.hid hr; have HQ := Lib.hid hq; clear hr hq
        go_wp2_with (go_at_call 64; refine (iselement_any _ _ HYL.out).mono ?_; rintro e w1 ⟨rfl, hb1⟩; rw [mkB_list, HQ.out])
        go_ret
        exact ⟨ret_bool HR.out.symm, bel_step hbw hb1⟩
      · have hr : (ls.drop (k + 1)).all elemB = ls.all elemB := by rw [← H.out, HD.out, hq]; rfl
        have HR := Lib.hid hr; have HQ := Lib.hid hq; clear hr hq
        go_wp2_with (go_at_call 64; refine (iselement_any _ _ HYL.out).mono ?_; rintro e w1 ⟨rfl, hb1⟩; rw [mkB_list, HQ.out])
        have hb2 := bel_step hbw hb1
        go_roundw
        case rel => exact ⟨k + 1, by omega, by go_num, HR, hb2⟩
        case measure => simp [intOf]; omega
    · have hr : ls.all elemB = true := by rw [← H.out, List.drop_eq_nil_of_le (by omega)]; rfl
      have HR := Lib.hid hr; clear hr
      go_wp2
      go_ret
      exact ⟨ret_bool HR.out.symm, hbw⟩
end Go.Proofs.Ytdefphacdcbljaa

namespace Go.Proofs.Ytdefphacdcbljaa
open Go.RowKit
set_option maxRecDepth 100000

set_option maxHeartbeats 1600000 in
theorem refelement_any (s : ByteArray) (w : World) (hs : s.size ≤ 1000000000) :
    Calls Try.prog 44 #[.string s] w fun e w' => e = .returned (.bool (elemB s.data.toList)) ∧ w = w' := by
  have hz := Lib.size_eq s
  have HZ := Lib.hid hz; clear hz
  rcases Nat.eq_zero_or_pos s.size with h0 | h0
  · have hb : ((s.size : Int) == 0) = true := by rw [beq_iff_eq]; omega
    have hel := elemB_nil (l := s.data.toList) (by rw [← HZ.out]; exact h0)
    have HE := Lib.hid hel; have H0 := Lib.hid h0; clear hel h0
    go_enter Try.func44, Try.ntmps44
    go_wp2
    go_ret
    exact ⟨ret_bool HE.out.symm, rfl⟩
  · have hb : ((s.size : Int) == 0) = false := by rw [beq_eq_false_iff_ne]; omega
    have hg0 := getD_at s 0 h0
    have hg1 := getD_at s (s.size - 1) (by omega)
    by_cases hd : s[0].toNat = 46
    · have hb0 : ((s[0].toNat : Int) == 46) = true := by rw [beq_iff_eq]; omega
      have hel := elemB_no (l := s.data.toList) (j := 0) (by rw [← HZ.out]; exact h0) (okAt_dot (by rw [hg0]; exact hd) (.inl rfl))
      have HE := Lib.hid hel; clear hel hg0 hg1 hd
      go_enter Try.func44, Try.ntmps44
      go_wp2
      go_ret
      exact ⟨ret_bool HE.out.symm, rfl⟩
    · have hb0 : ((s[0].toNat : Int) == 46) = false := by rw [beq_eq_false_iff_ne]; omega
      by_cases hd1 : s[s.size - 1].toNat = 46
      · have hb1 : ((s[s.size - 1].toNat : Int) == 46) = true := by rw [beq_iff_eq]; omega
        have hel := elemB_no (l := s.data.toList) (j := s.size - 1) (by rw [← HZ.out]; omega) (okAt_dot (by rw [hg1]; exact hd1) (.inr (by rw [← HZ.out]; omega)))
        have HE := Lib.hid hel; clear hel hg0 hg1 hd hd1
        go_enter Try.func44, Try.ntmps44
        go_wp2
        go_ret
        exact ⟨ret_bool HE.out.symm, rfl⟩
      · have hb1 : ((s[s.size - 1].toNat : Int) == 46) = false := by rw [beq_eq_false_iff_ne]; omega
        have hends : ∀ j, j < s.size → okC (s.data.toList.getD j 0) = true → okAt s.data.toList j = true := fun j hj hc => by
          refine okAt_yes hc ?_
          rintro ⟨h46, rfl | h⟩
          · rw [hg0] at h46; exact hd h46
          · rw [← HZ.out] at h
            obtain rfl : j = s.size - 1 := by omega
            rw [hg1] at h46; exact hd1 h46
        have HN := Lib.hid hends
        clear hends hg0 hg1 hd hd1
        go_enter Try.func44, Try.ntmps44
        go_wp2
        go_loop [3] (fun i => ∃ k : Nat, k ≤ s.size ∧ i = .int .i64 k ∧ Hid (∀ j, j < k → okAt s.data.toList j = true)) (fun i => s.size - (intOf i).toNat)
        case atStart => exact ⟨0, Nat.zero_le _, rfl, Lib.hid fun j hj => absurd hj (Nat.not_lt_zero j)⟩
        case round =>
          obtain ⟨k, hk, rfl, H⟩ := hrel
          by_cases hlt : k < s.size
          · have hlt8 : s[k].toNat < 256 := UInt8.toNat_lt _
            have hk1 : k < s.data.toList.length := by rw [← HZ.out]; exact hlt
            have hga := getD_at s k hlt
            obtain ⟨y, hy⟩ : ∃ y, y = clsI s[k].toNat := ⟨_, rfl⟩
            have hyb := clsI_bd s[k].toNat (by omega) (by omega)
            rw [← hy] at hyb
            obtain ⟨hy0, hy1⟩ := hyb
            have hcls : okC (s.data.toList.getD k 0) = decide (1 ≤ y ∧ y ≤ 3) := by rw [hga, hy, ← hasB_123]; rfl
            have HC := Lib.hid hcls; have HY := Lib.hid hy; clear hcls hy hga
            by_cases h13 : 1 ≤ y ∧ y ≤ 3
            · obtain ⟨h1, h3⟩ := h13
              have hok := HN.out k hlt (by rw [HC.out]; exact decide_eq_true ⟨h1, h3⟩)
              have hnew : ∀ j, j < k + 1 → okAt s.data.toList j = true := fun j hj => by
                rcases Nat.lt_or_ge j k with h | h
                · exact H.out j h
                · obtain rfl : j = k := by omega
                  exact hok
              have HNEW := Lib.hid hnew; clear hnew hok
              go_wp2_with (go_at_call 52; refine (refclass_any _ (by omega) (by omega) _).mono ?_; rintro e w' ⟨rfl, rfl⟩; rw [← HY.out])
              go_round
              case rel => exact ⟨k + 1, by omega, by go_num, HNEW⟩
              case measure => simp [intOf]; omega
            · have hel := elemB_no (l := s.data.toList) hk1 (okAt_no (by rw [HC.out]; exact decide_eq_false h13))
              have HE := Lib.hid hel; clear hel
              by_cases h1 : y < 1
              · clear h13
                go_wp2_with (go_at_call 52; refine (refclass_any _ (by omega) (by omega) _).mono ?_; rintro e w' ⟨rfl, rfl⟩; rw [← HY.out])
                go_ret
                exact ⟨ret_bool HE.out.symm, rfl⟩
              · have h3 : 3 < y := by omega
                clear h13
                go_wp2_with (go_at_call 52; refine (refclass_any _ (by omega) (by omega) _).mono ?_; rintro e w' ⟨rfl, rfl⟩; rw [← HY.out])
                go_ret
                exact ⟨ret_bool HE.out.symm, rfl⟩
          · have hel := elemB_yes (l := s.data.toList) (by rw [← HZ.out]; exact h0) (fun j hj => H.out j (by rw [← HZ.out] at hj; omega))
            have HE := Lib.hid hel; clear hel
            go_wp2
            go_ret
            exact ⟨ret_bool HE.out.symm, rfl⟩

end Go.Proofs.Ytdefphacdcbljaa

namespace Go.Proofs.Ytdefphacdcbljaa
open Go.RowKit
set_option maxRecDepth 100000

def pathE (l : List UInt8) : Int := if pathB l = true then 0 else 1
def elsL (l : List UInt8) : List (List UInt8) := if pathB l = true then splitL 47 l else []
theorem elsL_ok {l : List UInt8} (h : pathB l = true) : elsL l = splitL 47 l := by unfold elsL; rw [if_pos h]
theorem elsL_no {l : List UInt8} (h : pathB l = false) : elsL l = [] := by unfold elsL; rw [if_neg (by simp [h])]
theorem pathE_ok {l : List UInt8} (h : pathB l = true) : pathE l = 0 := by unfold pathE; rw [if_pos h]
theorem pathE_no {l : List UInt8} (h : pathB l = false) : pathE l = 1 := by unfold pathE; rw [if_neg (by simp [h])]
theorem elsL_len (l : List UInt8) : (elsL l).length ≤ l.length + 1 := by
  unfold elsL
  split
  · exact splitL_len 47 l
  · simp
theorem elsL_le (l : List UInt8) : ∀ p ∈ elsL l, p.length ≤ l.length := by
  unfold elsL
  split
  · exact split_le 47 l
  · intro p hp; cases hp

set_option maxHeartbeats 800000 in
theorem elements_any (s : ByteArray) (w : World) (hs : s.size ≤ 1000000000) :
    Calls Try.prog 46 #[.string s] w fun e w' => ∃ a c, e = .returned (.tuple #[.slice a (elsL s.data.toList).length c, .int .i64 (pathE s.data.toList)]) ∧ Strs w' (.slice a (elsL s.data.toList).length c) (elsL s.data.toList) ∧ Bel w.heap.size w w' := by
  have hle := split_le 47 s.data.toList
  obtain ⟨ls, hls⟩ : ∃ ls, ls = splitL 47 s.data.toList := ⟨_, rfl⟩
  rw [← hls] at hle
  have hfit : ∀ l ∈ ls, l.length ≤ 1000000000 := fun l hl => by have := hle l hl; rw [← Lib.size_eq] at this; omega
  have HF := Lib.hid hfit; clear hle hfit
  cases hp : pathB s.data.toList
  · have he := elsL_no hp
    have hq := pathE_no hp
    have hq2 : ls.all elemB = false := by rw [hls]; exact hp
    have HE := Lib.hid he; have HQ := Lib.hid hq; have HQ2 := Lib.hid hq2; have HLS := Lib.hid hls; have HS := Lib.hid hs
    rw [he, hq]
    clear he hq hq2 hls hp hs
    go_enter Try.func46, Try.ntmps46
    go_wp2_with (first
      | (go_at_call 55; refine (parts_any s 47 _ HS.out).mono ?_; rintro e w1 ⟨v, rfl, ho, hb1⟩; rw [← HLS.out] at ho; have ST := Lib.hid (Strs.owned ho); clear ho)
      | (go_at_call 56; refine (pfit_any _ ls _ ST.out HF.out).mono ?_; rintro e w2 ⟨rfl, hb2⟩; rw [HQ2.out]))
    go_ret2
    exact ⟨none, 0, rfl, strs_none _, bel_step hb1 hb2⟩
  · have he := elsL_ok hp
    have hq := pathE_ok hp
    have hq2 : ls.all elemB = true := by rw [hls]; exact hp
    rw [← hls] at he
    have HE := Lib.hid he; have HQ := Lib.hid hq; have HQ2 := Lib.hid hq2; have HLS := Lib.hid hls; have HS := Lib.hid hs
    rw [he, hq]
    clear he hq hq2 hls hp hs
    go_enter Try.func46, Try.ntmps46
    go_wp2_with (first
      | (go_at_call 55; refine (parts_any s 47 _ HS.out).mono ?_; rintro e w1 ⟨v, rfl, ho, hb1⟩; rw [← HLS.out] at ho; have ST := Lib.hid (Strs.owned ho); clear ho)
      | (go_at_call 56; refine (pfit_any _ ls _ ST.out HF.out).mono ?_; rintro e w2 ⟨rfl, hb2⟩; rw [HQ2.out]))
    have hST2 := ST.out.below hb2
    obtain ⟨a, c, rfl, _⟩ := hST2.ex
    have HST2 := Lib.hid hST2; clear hST2
    go_ret2
    exact ⟨a, c, rfl, HST2.out, bel_step hb1 hb2⟩

set_option maxHeartbeats 400000 in
theorem pmay_any (s : ByteArray) (w : World) (hs : s.size ≤ 1000000000) :
    Calls Try.prog 30 #[.string s] w fun e w' => e = .returned (.bool (pathB s.data.toList)) ∧ Bel w.heap.size w w' := by
  have HS := Lib.hid hs; clear hs
  cases hp : pathB s.data.toList
  · have hq := pathE_no hp
    have HQ := Lib.hid hq; clear hq hp
    go_enter Try.func30, Try.ntmps30
    go_wp2_with (go_at_call 46; refine (elements_any s _ HS.out).mono ?_; rintro e w1 ⟨a, c, rfl, hst, hb1⟩; rw [HQ.out]; clear hst)
    go_ret
    exact ⟨rfl, by assumption⟩
  · have hq := pathE_ok hp
    have HQ := Lib.hid hq; clear hq hp
    go_enter Try.func30, Try.ntmps30
    go_wp2_with (go_at_call 46; refine (elements_any s _ HS.out).mono ?_; rintro e w1 ⟨a, c, rfl, hst, hb1⟩; rw [HQ.out]; clear hst)
    go_ret
    exact ⟨rfl, by assumption⟩

set_option maxHeartbeats 800000 in
theorem refpmay_any (s : ByteArray) (w : World) (hs : s.size ≤ 1000000000) :
    Calls Try.prog 27 #[.string s] w fun e w' => e = .returned (.bool (pathB s.data.toList)) ∧ Bel w.heap.size w w' := by
  have hle := split_le 47 s.data.toList
  have hll := splitL_len 47 s.data.toList
  rw [← Lib.size_eq] at hll
  obtain ⟨ls, hls⟩ : ∃ ls, ls = splitL 47 s.data.toList := ⟨_, rfl⟩
  have hp : pathB s.data.toList = ls.all elemB := by rw [hls]; rfl
  rw [hp]
  rw [← hls] at hle hll
  have hfit : ∀ l ∈ ls, l.length ≤ 1000000000 := fun l hl => by have := hle l hl; rw [← Lib.size_eq] at this; omega
  have HF := Lib.hid hfit; have HS := Lib.hid hs; have HLS := Lib.hid hls; clear hle hfit hs hls hp
  go_enter Try.func27, Try.ntmps27
  go_wp2_with (go_at_call 43; refine (refparts_any s 47 _ HS.out).mono ?_; rintro e w1 ⟨v, rfl, ho, hb1⟩; rw [← HLS.out] at ho; have hst := Strs.owned ho; clear ho)
  obtain ⟨a, c, rfl, h1, h2, _, h3⟩ := hst.ex
  unfold maxLen at h2
  have H3 := Lib.hid h3; clear hst h3
  go_loopw [4] (fun i wr => ∃ k : Nat, k ≤ ls.length ∧ i = .int .i64 k ∧ Hid ((ls.drop k).all elemB = ls.all elemB) ∧ ∃ n, wr = w1.drewN n) (fun i _ => ls.length - (intOf i).toNat)
  case atStart => exact ⟨0, Nat.zero_le _, rfl, Lib.hid (by simp), 0, rfl⟩
  case round =>
    obtain ⟨k, hk, rfl, H, n, rfl⟩ := hrel
    by_cases hlt : k < ls.length
    · obtain ⟨b, off, rfl, hbk, hc⟩ := H3.out (by omega)
      have hcell : w1.cell? ⟨b, off + k, none⟩ = some (.string (mkB (ls.getD k []))) := hc k hlt
      clear hc
      obtain ⟨y, hy⟩ : ∃ y, y = ls.getD k [] := ⟨_, rfl⟩
      rw [← hy] at hcell
      have hd : (ls.drop k).all elemB = (elemB y && (ls.drop (k + 1)).all elemB) := by
        rw [List.drop_eq_getElem_cons hlt, List.all_cons, hy, List.getD_eq_getElem?_getD, List.getElem?_eq_getElem hlt]; rfl
      have hyl : (mkB y).size ≤ 1000000000 := by
        rw [mkB_size, hy, List.getD_eq_getElem?_getD, List.getElem?_eq_getElem hlt]
        exact HF.out _ (List.getElem_mem hlt)
      have HYL := Lib.hid hyl; have HD := Lib.hid hd; clear hyl hd hy
      cases hq : elemB y
      · have hr : ls.all elemB = false := by rw [← H.out, HD.out, hq]; rfl
        have HR := Lib.hid hr; have HQ := Lib.hid hq; clear hr hq
        go_wp2_with (go_at_call 44; refine (refelement_any _ _ HYL.out).mono ?_; rintro e w' ⟨rfl, rfl⟩; rw [mkB_list, HQ.out])
        go_ret
        exact ⟨ret_bool HR.out.symm, bel_step hb1 (bel_q ⟨_, rfl⟩)⟩
      · have hr : (ls.drop (k + 1)).all elemB = ls.all elemB := by rw [← H.out, HD.out, hq]; rfl
        have HR := Lib.hid hr; have HQ := Lib.hid hq; clear hr hq
        go_wp2_with (go_at_call 44; refine (refelement_any _ _ HYL.out).mono ?_; rintro e w' ⟨rfl, rfl⟩; rw [mkB_list, HQ.out])
        go_roundw
        case rel => exact ⟨k + 1, by omega, by go_num, HR, by first | exact ⟨_, rfl⟩ | (simp only [World.drewN_drewN]; exact ⟨_, rfl⟩)⟩
        case measure => simp [intOf]; omega
    · have hr : ls.all elemB = true := by rw [← H.out, List.drop_eq_nil_of_le (by omega)]; rfl
      have HR := Lib.hid hr; clear hr
      go_wp2
      go_ret
      exact ⟨ret_bool HR.out.symm, bel_step hb1 (bel_q ⟨_, rfl⟩)⟩
end Go.Proofs.Ytdefphacdcbljaa

namespace Go.Proofs.Ytdefphacdcbljaa
open Go.RowKit
set_option maxRecDepth 100000

def joinP (ls : List (List UInt8)) : List UInt8 × Int := if okJ ls = true then (jn 47 ls, 0) else ([], 1)
theorem joinP_ok {ls : List (List UInt8)} (h : okJ ls = true) : joinP ls = (jn 47 ls, 0) := by unfold joinP; rw [if_pos h]
theorem joinP_no {ls : List (List UInt8)} (h : okJ ls = false) : joinP ls = ([], 1) := by unfold joinP; rw [if_neg (by simp [h])]

theorem Strs.cut {w : World} {a : Option Addr} {len cap : Nat} {zs : List (List UInt8)} (h : Strs w (.slice a len cap) zs) (k : Nat) (hk : k ≤ len) : Strs w (.slice a k cap) (zs.take k) := by
  obtain ⟨a', c', hv, h1, h2, hn, h3⟩ := h.ex
  injection hv with e1 e2 e3
  subst e1 e2 e3
  have e : (zs.take k).length = k := by simp; omega
  refine ⟨a, cap, by rw [e], by omega, h2, hn, fun hp => ?_⟩
  rw [e] at hp ⊢
  obtain ⟨b, off, ha, hlt, hc⟩ := h3 (by omega)
  refine ⟨b, off, ha, hlt, fun j hj => ?_⟩
  rw [hc j (by omega)]
  congr 1
  simp only [List.getD_eq_getElem?_getD, List.getElem?_take, if_pos hj]

end Go.Proofs.Ytdefphacdcbljaa

namespace Go.Proofs.Ytdefphacdcbljaa
open Go.RowKit
set_option maxRecDepth 100000

theorem pmay_at (l : List UInt8) (hl : l.length ≤ 1000000000) (r : Bool) (h : pathB l = r) (w : World) :
    Calls Try.prog 30 #[.string ⟨l.toArray⟩] w fun e w' => e = .returned (.bool r) ∧ Bel w.heap.size w w' := by
  subst h
  have := pmay_any (mkB l) w (by rw [mkB_size]; exact hl)
  rwa [mkB_list] at this
end Go.Proofs.Ytdefphacdcbljaa

namespace Go.Proofs.Ytdefphacdcbljaa
open Go.RowKit
set_option maxRecDepth 100000

theorem m_size {x : List UInt8} (h : x.length ≤ 1000000000) : (mkB x).size ≤ 1000000000 := by rw [mkB_size]; exact h
theorem elements_m (x : List UInt8) (w : World) (h : x.length ≤ 1000000000) :
    Calls Try.prog 46 #[.string (mkB x)] w fun e w' => ∃ a c, e = .returned (.tuple #[.slice a (elsL x).length c, .int .i64 (pathE x)]) ∧ Strs w' (.slice a (elsL x).length c) (elsL x) ∧ Bel w.heap.size w w' := by
  have := elements_any (mkB x) w (m_size h)
  rwa [mkB_list] at this
theorem pmay_m (x : List UInt8) (w : World) (h : x.length ≤ 1000000000) :
    Calls Try.prog 30 #[.string (mkB x)] w fun e w' => e = .returned (.bool (pathB x)) ∧ Bel w.heap.size w w' := by
  have := pmay_any (mkB x) w (m_size h)
  rwa [mkB_list] at this
theorem refpmay_m (x : List UInt8) (w : World) (h : x.length ≤ 1000000000) :
    Calls Try.prog 27 #[.string (mkB x)] w fun e w' => e = .returned (.bool (pathB x)) ∧ Bel w.heap.size w w' := by
  have := refpmay_any (mkB x) w (m_size h)
  rwa [mkB_list] at this
theorem refparts_m (x : List UInt8) (c : Int) (w : World) (h : x.length ≤ 1000000000) :
    Calls Try.prog 43 #[.string (mkB x), .int .u8 c] w fun e w' => ∃ a k, e = .returned (.slice a (splitL c x).length k) ∧ Strs w' (.slice a (splitL c x).length k) (splitL c x) ∧ Bel w.heap.size w w' := by
  refine (refparts_any (mkB x) c w (m_size h)).mono ?_
  rintro e w' ⟨v, rfl, ho, hb⟩
  rw [mkB_list] at ho
  have hst := Strs.owned ho
  obtain ⟨a, k, rfl, _⟩ := hst.ex
  exact ⟨a, k, rfl, hst, hb⟩
theorem elementm_any (x : List UInt8) (w : World) (h : x.length ≤ 1000000000) :
    Calls Try.prog 44 #[.string (mkB x)] w fun e w' => e = .returned (.bool (elemB x)) ∧ w = w' := by
  have := refelement_any (mkB x) w (m_size h)
  rwa [mkB_list] at this
end Go.Proofs.Ytdefphacdcbljaa
