/- The document's own words and Split. -/
import Derived.Test.YtglhjdbnpdoinaaGreatVerD
import Derived.Test.YtglhjdbnpdoinaaGreatNumF
namespace Go.Proofs.YtglhjdbnpdoinaaGreat
open Go.RowKit
set_option maxRecDepth 100000

theorem refparts_l (q : ByteArray) (L : List UInt8) (hq : q.data.toList = L) (w : World) (hs : q.size ≤ 1000000000) :
    Calls Tryz.prog 55 #[.string q, .int .u8 46] w fun e w' => ∃ a c, e = .returned (.slice a (splitL 46 L).length c) ∧ Strs w' (.slice a (splitL 46 L).length c) (splitL 46 L) ∧ (∀ ad, a = some ad → w.heap.size ≤ ad.block) ∧ Bel w.heap.size w w' := by
  subst hq
  refine (refparts_any q 46 w hs).mono ?_
  rintro e w' ⟨v, rfl, hown, hb⟩
  have hst := Strs.owned hown
  obtain ⟨a, c, rfl, _⟩ := hst.ex
  refine ⟨a, c, rfl, hst, fun ad ha => ?_, hb⟩
  rcases Joins.ownsRow_forms hown with ⟨he, _⟩ | ⟨g, cap, he⟩
  · injection he with he; rw [ha] at he; cases he
  · have hl := (hown.lt g (by rw [he]; rfl)).1
    injection he with he; rw [ha] at he; injection he with he; rw [he]; exact hl

/-! ### The document's words -/
theorem oct_cls (c : UInt8) : isD c = decide (clsI (c.toNat : Int) = 1) ∧ wordOct c = (decide (clsI (c.toNat : Int) = 1) || decide (clsI (c.toNat : Int) = 2) || decide (c.toNat = 45)) := by
  have h : ∀ n : Fin 256, (decide (48 ≤ n.1) && decide (n.1 ≤ 57)) = decide (clsI (n.1 : Nat) = 1) ∧ hasB [1, 2] (clsI (n.1 : Nat)) = (decide (clsI (n.1 : Nat) = 1) || decide (clsI (n.1 : Nat) = 2)) := by decide +kernel
  have := h ⟨c.toNat, UInt8.toNat_lt c⟩
  unfold isD wordOct
  rw [this.1, this.2]
  exact ⟨rfl, rfl⟩
theorem word_digits {l : List UInt8} (h : l.all isD = true) : l.all wordOct = true := by
  rw [List.all_eq_true] at *
  intro c hc
  have := h c hc
  rw [(oct_cls c).1] at this
  rw [(oct_cls c).2, this]; rfl
theorem wordL_nil : wordL [] = false := rfl
/-- How the document reckons a word. -/
theorem wordL_ref (l : List UInt8) (h : l.all wordOct = true) : wordL l = (!l.isEmpty && (!(l.all isD) || mayL l)) := by
  unfold wordL
  cases e : l.all isD
  · have : l.isEmpty = false := by cases l with
      | nil => cases e
      | cons x l => rfl
    simp [this, h]
  · cases l with
    | nil => rfl
    | cons x l => simp
theorem wordL_out (l : List UInt8) (h : l.all wordOct = false) : wordL l = false := by
  unfold wordL
  cases e : l.all isD
  · simpa using h
  · have := word_digits e; rw [h] at this; cases this
theorem all_take_snoc {p : UInt8 → Bool} (s : ByteArray) (k : Nat) (h : k < s.size) : (s.data.toList.take (k + 1)).all p = ((s.data.toList.take k).all p && p s[k]) := by
  rw [List.take_succ_eq_append_getElem (by simpa using h), List.all_append]
  simp only [List.all_cons, List.all_nil, Bool.and_true]; rfl

set_option maxHeartbeats 1600000 in
set_option maxRecDepth 100000 in
theorem refword_any (s : ByteArray) (w : World) (hs : s.size ≤ 1000000000) :
    Calls Tryz.prog 69 #[.string s] w fun e w' => e = .returned (.bool (wordL s.data.toList)) ∧ w = w' := by
  have HS := Lib.hid hs
  have hm : s.size ≤ 9223372036854775807 := by omega
  clear hs
  go_enter Tryz.func69, Tryz.ntmps69
  go_wp2
  go_loop [3, 4] (fun d i => ∃ k : Nat, k ≤ s.size ∧ i = .int .i64 k ∧ d = .bool ((s.data.toList.take k).all isD) ∧ Hid ((s.data.toList.take k).all wordOct = true)) (fun _ i => s.size - (intOf i).toNat)
  case atStart => exact ⟨0, Nat.zero_le _, rfl, by simp, Lib.hid (by simp)⟩
  case round =>
    obtain ⟨k, hk, rfl, rfl, H⟩ := hrel
    obtain ⟨d, hd⟩ : ∃ d, (s.data.toList.take k).all isD = d := ⟨_, rfl⟩
    rw [hd]
    have HD := Lib.hid hd; clear hd
    by_cases hlt : k < s.size
    · have hlt8 : s[k].toNat < 256 := UInt8.toNat_lt _
      have h1 := all_take_snoc (p := isD) s k hlt
      have h2 := all_take_snoc (p := wordOct) s k hlt
      have ho := oct_cls s[k]
      rw [ho.1, HD.out] at h1
      rw [ho.2, H.out, Bool.true_and] at h2
      have H1 := Lib.hid h1; have H2 := Lib.hid h2; clear h1 h2 ho
      obtain ⟨y, hy⟩ : ∃ y, y = clsI (s[k].toNat : Int) := ⟨_, rfl⟩
      rw [← hy] at H1 H2
      have HY := Lib.hid hy; clear hy
      have hlt9 := Lib.hid hlt8; clear hlt8
      by_cases y1 : y = 1
      · subst y1
        go_wp2_with (go_at_call 67; refine (refclass_any _ (by omega) (by have := hlt9.out; omega) _).mono ?_; rintro e w' ⟨rfl, rfl⟩; rw [← HY.out])
        go_round
        case rel => exact ⟨k + 1, by omega, by go_num, by rw [H1.out]; simp, Lib.hid (by rw [H2.out]; simp)⟩
        case measure => simp [intOf]; omega
      · have ny1 : (y != 1) = true := by simpa using y1
        by_cases y2 : y = 2
        · subst y2
          clear y1 ny1
          go_wp2_with (go_at_call 67; refine (refclass_any _ (by omega) (by have := hlt9.out; omega) _).mono ?_; rintro e w' ⟨rfl, rfl⟩; rw [← HY.out])
          go_round
          case rel => exact ⟨k + 1, by omega, by go_num, by rw [H1.out]; simp, Lib.hid (by rw [H2.out]; simp)⟩
          case measure => simp [intOf]; omega
        · have ny2 : (y != 2) = true := by simpa using y2
          by_cases y3 : (s[k].toNat : Int) = 45
          · have ny3 : ((s[k].toNat : Int) != 45) = false := by simpa using y3
            have Y1 := Lib.hid y1; have Y3 := Lib.hid y3
            clear y1 y2 y3
            go_wp2_with (go_at_call 67; refine (refclass_any _ (by omega) (by have := hlt9.out; omega) _).mono ?_; rintro e w' ⟨rfl, rfl⟩; rw [← HY.out])
            go_round
            case rel => exact ⟨k + 1, by omega, by go_num, by rw [H1.out]; simp [Y1.out], Lib.hid (by rw [H2.out]; have := Y3.out; simp; omega)⟩
            case measure => simp [intOf]; omega
          · have ny3 : ((s[k].toNat : Int) != 45) = true := by simpa using y3
            have Y1 := Lib.hid y1; have Y2 := Lib.hid y2; have Y3 := Lib.hid y3
            clear y1 y2 y3
            go_wp2_with (go_at_call 67; refine (refclass_any _ (by omega) (by have := hlt9.out; omega) _).mono ?_; rintro e w' ⟨rfl, rfl⟩; rw [← HY.out])
            go_ret
            refine ⟨ret_bool ?_, rfl⟩
            have hf : (s.data.toList.take (k + 1)).all wordOct = false := by rw [H2.out]; have := Y3.out; simp [Y1.out, Y2.out]; omega
            rw [wordL_out]
            rw [← List.take_append_drop (k + 1) s.data.toList, List.all_append, hf]; rfl
    · have e : s.data.toList.take k = s.data.toList := List.take_of_length_le (by rw [← Lib.size_eq]; omega)
      have h5 := H.out
      rw [e] at h5
      have hd2 := HD.out
      rw [e] at hd2
      have hw := wordL_ref s.data.toList h5
      rw [hd2] at hw
      have he : s.data.toList.isEmpty = decide (s.size = 0) := by rw [← Lib.toList_data]; exact empty_iff s
      rw [he] at hw
      have HW := Lib.hid hw; clear hw h5 e hd2 he H HD
      obtain ⟨m, hmm⟩ : ∃ m, mayL s.data.toList = m := ⟨_, rfl⟩
      rw [hmm] at HW
      have HM := Lib.hid hmm; clear hmm
      by_cases h0 : 0 < s.size
      · have hz : decide (s.size = 0) = false := by rw [decide_eq_false_iff_not]; omega
        cases d
        all_goals
          go_wp2_with (go_at_call 68; refine (refmay_any s _ HS.out).mono ?_; rintro e w1 ⟨rfl, rfl⟩; rw [HM.out])
          go_ret
          exact ⟨ret_bool (by rw [HW.out, hz]; simp), rfl⟩
      · have hz : decide (s.size = 0) = true := by rw [decide_eq_true_eq]; omega
        go_wp2
        go_ret
        exact ⟨ret_bool (by rw [HW.out, hz]; simp), rfl⟩
end Go.Proofs.YtglhjdbnpdoinaaGreat
