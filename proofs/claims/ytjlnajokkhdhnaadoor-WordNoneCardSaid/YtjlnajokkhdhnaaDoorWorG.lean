/- The contracts of the document's answer for words: Whole, Ends, Lives, Live. -/
import Derived.Test.YtjlnajokkhdhnaaDoorWorF
import Derived.Test.YtjlnajokkhdhnaaDoorNumE
namespace Go.Proofs.YtjlnajokkhdhnaaDoor
open Go.RowKit
set_option maxRecDepth 100000

theorem go_all (l : List UInt8) : goB l = ((splitL 46 l).all mayL && (decide ((splitL 46 l).length = 2) || decide ((splitL 46 l).length = 3))) := rfl

set_option maxHeartbeats 800000 in
theorem refgo_any (s : ByteArray) (w : World) (hs : s.size ≤ 1000000000) :
    Calls Tryd.prog 14 #[.int .i64 2, .string s] w fun e w' => e = .returned (.bool (goB s.data.toList)) ∧ Below w.heap.size w w' := by
  have hle := split_le 46 s.data.toList
  have hll := splitL_len 46 s.data.toList
  rw [← Lib.size_eq] at hll
  obtain ⟨ls, hls⟩ : ∃ ls, ls = splitL 46 s.data.toList := ⟨_, rfl⟩
  have hp : goB s.data.toList = (ls.all mayL && (decide (ls.length = 2) || decide (ls.length = 3))) := by rw [hls]; rfl
  rw [hp]
  rw [← hls] at hle hll
  have hfit : ∀ l ∈ ls, l.length ≤ 1000000000 := fun l hl => by have := hle l hl; rw [← Lib.size_eq] at this; omega
  have HF := Lib.hid hfit; have HS := Lib.hid hs; have HLS := Lib.hid hls; clear hle hfit hs hls hp
  go_enter Tryd.func14, Tryd.ntmps14
  go_wp2_with (go_at_call 26; refine (refparts_any s 46 _ HS.out).mono ?_; rintro e w1 ⟨v, rfl, ho, hb1⟩; rw [← HLS.out] at ho; have hst := Strs.owned ho; clear ho)
  obtain ⟨a, c, rfl, h1, h2, _, h3⟩ := hst.ex
  unfold maxLen at h2
  have H3 := Lib.hid h3; clear hst h3
  go_loopw [6] (fun i wr => ∃ k : Nat, k ≤ ls.length ∧ i = .int .i64 k ∧ Hid ((ls.drop k).all mayL = ls.all mayL) ∧ ∃ n, wr = w1.drewN n) (fun i _ => ls.length - (intOf i).toNat)
  case atStart => exact ⟨0, Nat.zero_le _, rfl, Lib.hid (by simp), 0, rfl⟩
  case round =>
    obtain ⟨k, hk, rfl, H, n, rfl⟩ := hrel
    by_cases hlt : k < ls.length
    · obtain ⟨b, off, rfl, hbk, hc⟩ := H3.out (by omega)
      have hcell : w1.cell? ⟨b, off + k, none⟩ = some (.string (mkB (ls.getD k []))) := hc k hlt
      clear hc
      obtain ⟨y, hy⟩ : ∃ y, y = ls.getD k [] := ⟨_, rfl⟩
      rw [← hy] at hcell
      have hd : (ls.drop k).all mayL = (mayL y && (ls.drop (k + 1)).all mayL) := by
        rw [List.drop_eq_getElem_cons hlt, List.all_cons, hy, List.getD_eq_getElem?_getD, List.getElem?_eq_getElem hlt]; rfl
      have hyl : (mkB y).size ≤ 1000000000 := by
        rw [mkB_size, hy, List.getD_eq_getElem?_getD, List.getElem?_eq_getElem hlt]
        exact HF.out _ (List.getElem_mem hlt)
      have HYL := Lib.hid hyl; have HD := Lib.hid hd; clear hyl hd hy
      cases hq : mayL y
      · have hr : ls.all mayL = false := by rw [← H.out, HD.out, hq]; rfl
        have HR := Lib.hid hr; have HQ := Lib.hid hq; clear hr hq
        go_wp2_with (go_at_call 27; refine (refmay_any _ _ HYL.out).mono ?_; rintro e w' ⟨rfl, rfl⟩; rw [mkB_list, HQ.out])
        go_ret
        exact ⟨ret_bool (by rw [HR.out]; rfl), below_step hb1 (below_q ⟨_, rfl⟩)⟩
      · have hr : (ls.drop (k + 1)).all mayL = ls.all mayL := by rw [← H.out, HD.out, hq]; rfl
        have HR := Lib.hid hr; have HQ := Lib.hid hq; clear hr hq
        go_wp2_with (go_at_call 27; refine (refmay_any _ _ HYL.out).mono ?_; rintro e w' ⟨rfl, rfl⟩; rw [mkB_list, HQ.out])
        go_roundw
        case rel => exact ⟨k + 1, by omega, by go_num, HR, by first | exact ⟨_, rfl⟩ | (simp only [World.drewN_drewN]; exact ⟨_, rfl⟩)⟩
        case measure => simp [intOf]; omega
    · have hr : ls.all mayL = true := by rw [← H.out, List.drop_eq_nil_of_le (by omega)]; rfl
      have HR := Lib.hid hr; clear hr
      by_cases l2 : ls.length = 2
      · have l2' : (ls.length : Int) = 2 := by omega
        have L2 := Lib.hid l2
        go_wp2
        go_ret
        exact ⟨ret_bool (by rw [HR.out, decide_eq_true L2.out]; rfl), below_step hb1 (below_q ⟨_, rfl⟩)⟩
      by_cases l3 : ls.length = 3
      · have l3' : (ls.length : Int) = 3 := by omega
        have L3 := Lib.hid l3
        go_wp2
        go_ret
        exact ⟨ret_bool (by rw [HR.out, decide_eq_true L3.out, Bool.or_true]; rfl), below_step hb1 (below_q ⟨_, rfl⟩)⟩
      have l2' : ¬ (ls.length : Int) = 2 := by omega
      have l3' : ¬ (ls.length : Int) = 3 := by omega
      have L2 := Lib.hid l2; have L3 := Lib.hid l3
      go_wp2
      go_ret
      exact ⟨ret_bool (by rw [HR.out, decide_eq_false L2.out, decide_eq_false L3.out, beq_eq_false_iff_ne.2 l2', beq_eq_false_iff_ne.2 l3']; rfl), below_step hb1 (below_q ⟨_, rfl⟩)⟩

set_option maxHeartbeats 800000 in
theorem refwhole_any (k : Int) (s : ByteArray) (w : World) (hs : s.size ≤ 1000000000) :
    Calls Tryd.prog 14 #[.int .i64 k, .string s] w fun e w' => e = .returned (.bool (wholeZ k s.data.toList)) ∧ Below w.heap.size w w' := by
  by_cases h0 : k = 0
  · subst h0
    have HE := Lib.hid (show wholeZ 0 s.data.toList = pathB s.data.toList from rfl)
    go_enter Tryd.func14, Tryd.ntmps14
    go_wp2_with (go_at_call 24; refine (refpmay_any _ _ hs).mono ?_; rintro e w1 ⟨rfl, hb1⟩)
    go_ret
    exact ⟨by rw [HE.out]; rfl, hb1⟩
  by_cases h1 : k = 1
  · subst h1
    have HE := Lib.hid (show wholeZ 1 s.data.toList = okV s.data.toList from rfl)
    go_enter Tryd.func14, Tryd.ntmps14
    go_wp2_with (go_at_call 25; refine (refvmay_any _ _ hs).mono ?_; rintro e w1 ⟨rfl, hb1⟩)
    go_ret
    exact ⟨by rw [HE.out]; rfl, hb1⟩
  by_cases h2 : k = 2
  · subst h2
    exact refgo_any s w hs
  have HE := Lib.hid (show wholeZ k s.data.toList = false by unfold wholeZ; rw [if_neg (by omega)])
  go_enter Tryd.func14, Tryd.ntmps14
  go_wp2
  go_ret
  exact ⟨by rw [HE.out]; rfl, Below.refl _ _⟩
theorem refwhole_m (k : Int) (l : List UInt8) (w : World) (hs : l.length ≤ 1000000000) :
    Calls Tryd.prog 14 #[.int .i64 k, .string (mkB l)] w fun e w' => e = .returned (.bool (wholeZ k l)) ∧ Below w.heap.size w w' := by
  have := refwhole_any k (mkB l) w (m_size hs)
  rwa [mkB_list] at this

/-- A literal of texts, in a block of its own. -/
theorem Strs.lit (w : World) (cs : Array Value) (ls : List (List UInt8)) (t : TypeId) (h : cs = (ls.map strV).toArray) (hl : ls.length ≤ 1000) :
    Strs (w.alloc (.cells cs t)) (.slice (some ⟨w.heap.size, 0, none⟩) ls.length ls.length) ls := by
  subst h
  refine ⟨_, _, rfl, Nat.le_refl _, by unfold maxLen; omega, (fun h => by cases h), fun _ => ⟨w.heap.size, 0, rfl, by simp, fun j hj => ?_⟩⟩
  have hh : (w.alloc (.cells (ls.map strV).toArray t)).heap[w.heap.size]? = some (.cells (ls.map strV).toArray t) := heap_alloc_new _ _
  simp only [World.cell?, hh, Nat.zero_add]
  simp [List.getD_eq_getElem?_getD, List.getElem?_eq_getElem hj, strV]

set_option maxHeartbeats 400000 in
theorem refends_any (w : World) :
    Calls Tryd.prog 28 #[] w fun e w' => (∃ a c, e = .returned (.slice a endsL.length c) ∧ Strs w' (.slice a endsL.length c) endsL) ∧ Below w.heap.size w w' := by
  go_enter Tryd.func28, Tryd.ntmps28
  go_wp2
  go_ret
  exact ⟨⟨_, _, rfl, Strs.lit w _ endsL _ rfl (by decide)⟩, (Below.refl _ _).alloc (Nat.le_refl _) _⟩
end Go.Proofs.YtjlnajokkhdhnaaDoor
