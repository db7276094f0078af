/- The document's digit, May, at and order; the program's Value and the document's. -/
import Derived.Test.YtglhjdbnpdoinaaGreatNumH
namespace Go.Proofs.YtglhjdbnpdoinaaGreat
open Go.RowKit
set_option maxRecDepth 100000

def digI (c : Int) : Int := if 48 ≤ c ∧ c ≤ 57 then c - 48 else -1

set_option maxHeartbeats 400000 in
theorem digit_any (c : Int) (h0 : 0 ≤ c) (h1 : c < 256) (w : World) :
    Calls Tryz.prog 80 #[.int .u8 c] w fun e w' => e = .returned (.int .i64 (digI c)) ∧ w = w' := by
  by_cases hd : 48 ≤ c ∧ c ≤ 57
  · have e : digI c = c - 48 := by unfold digI; rw [if_pos hd]
    obtain ⟨d1, d2⟩ := hd
    rw [e]; clear e
    go_enter Tryz.func80, Tryz.ntmps80
    go_wp2
    go_ret
    exact ⟨rfl, rfl⟩
  · have e : digI c = -1 := by unfold digI; rw [if_neg hd]
    rw [e]; clear e
    by_cases h2 : c < 48
    · clear hd
      go_enter Tryz.func80, Tryz.ntmps80
      go_wp2
      go_ret
      exact ⟨rfl, rfl⟩
    · have h3 : 57 < c := by omega
      clear hd
      go_enter Tryz.func80, Tryz.ntmps80
      go_wp2
      go_ret
      exact ⟨rfl, rfl⟩

theorem dig_yes {c : UInt8} (h : isD c = true) : digI (c.toNat : Int) = ((c.toNat - 48 : Nat) : Int) := by
  have := isD_bd h
  unfold digI; rw [if_pos (by omega)]; omega
theorem dig_no {c : UInt8} (h : isD c = false) : digI (c.toNat : Int) = -1 := by
  unfold digI; rw [if_neg]
  intro hh
  have : isD c = true := by unfold isD; simp; omega
  rw [h] at this; cases this
theorem at_list (s : ByteArray) (k : Nat) (h : k < s.size) : s[k] ∈ s.data.toList := by
  have : s[k] = s.data.toList[k]'(by simpa using h) := rfl
  rw [this]; exact List.getElem_mem _

set_option maxHeartbeats 800000 in
theorem refmay_any (s : ByteArray) (w : World) (hs : s.size ≤ 1000000000) :
    Calls Tryz.prog 68 #[.string s] w fun e w' => e = .returned (.bool (mayL s.data.toList)) ∧ w = w' := by
  have hl := Lib.size_eq s
  have HL := Lib.hid hl; clear hl
  go_enter Tryz.func68, Tryz.ntmps68
  go_wp2
  go_loop [3] (fun i => ∃ k : Nat, k ≤ s.size ∧ i = .int .i64 k ∧ Hid ((s.data.toList.take k).all isD = true)) (fun i => s.size - (intOf i).toNat)
  case atStart => exact ⟨0, Nat.zero_le _, rfl, Lib.hid (by simp)⟩
  case round =>
    obtain ⟨k, hk, rfl, H⟩ := hrel
    by_cases hlt : k < s.size
    · have h8 : s[k].toNat < 256 := UInt8.toNat_lt _
      cases hd : isD s[k]
      · have he := dig_no hd
        have hm : mayL s.data.toList = false := by
          cases hx : mayL s.data.toList
          · rfl
          · have := List.all_eq_true.1 (mayL_all hx) _ (at_list s k hlt)
            rw [hd] at this; cases this
        have HE := Lib.hid he; have HM := Lib.hid hm; clear he hm hd
        go_wp2_with (go_at_call 80; refine (digit_any _ (by omega) (by omega) _).mono ?_; rintro e w' ⟨rfl, rfl⟩; rw [HE.out])
        go_ret
        exact ⟨ret_bool HM.out.symm, rfl⟩
      · have he := dig_yes hd
        obtain ⟨d, hdd⟩ : ∃ d : Nat, d = s[k].toNat - 48 := ⟨_, rfl⟩
        rw [← hdd] at he
        have hn : (s.data.toList.take (k + 1)).all isD = true := by
          have e : s.data.toList[k]'(by simpa using hlt) = s[k] := rfl
          rw [List.take_succ_eq_append_getElem (by simpa using hlt), List.all_append, H.out, e]
          simp [hd]
        have HE := Lib.hid he; have HN := Lib.hid hn; clear he hn hd hdd
        go_wp2_with (go_at_call 80; refine (digit_any _ (by omega) (by omega) _).mono ?_; rintro e w' ⟨rfl, rfl⟩; rw [HE.out])
        go_round
        case rel => exact ⟨k + 1, by omega, by go_num, HN⟩
        case measure => simp [intOf]; omega
    · have hall : s.data.toList.all isD = true := by
        have h5 := H.out
        rwa [List.take_of_length_le (by rw [← HL.out]; omega)] at h5
      rcases Nat.lt_trichotomy s.size 1 with h1 | h1 | h1
      · have hm : mayL s.data.toList = false := by
          have : s.data.toList = [] := List.eq_nil_of_length_eq_zero (by rw [← HL.out]; omega)
          rw [this]; rfl
        have HM := Lib.hid hm; clear hm hall
        go_wp2
        go_ret
        exact ⟨ret_bool (by rw [HM.out]; simp; omega), rfl⟩
      · have hm : mayL s.data.toList = true := by
          unfold mayL
          rw [hall, ← HL.out, h1]
          have : s.data.toList.isEmpty = false := by
            have := empty_iff s
            rw [Lib.toList_data] at this
            rw [this, h1]; rfl
          rw [this]; simp
        have HM := Lib.hid hm; clear hm hall
        go_wp2
        go_ret
        exact ⟨ret_bool (by rw [HM.out]), rfl⟩
      · have h0 : 0 < s.size := by omega
        have hc := bytes_cons s h0
        have hm : mayL s.data.toList = decide ((s[0].toNat : Int) ≠ 48) := by
          unfold mayL
          rw [hall, ← HL.out]
          have e1 : s.data.toList.isEmpty = false := by rw [hc]; rfl
          have e2 : decide (s.size = 1) = false := decide_eq_false (by omega)
          rw [e1, e2, hc]
          simp only [List.head?_cons, ne_eq, Option.some.injEq]
          have e : (s[0] = 48) = ((s[0].toNat : Int) = 48) := by
            rw [← UInt8.toNat_inj]
            have : (48 : UInt8).toNat = 48 := rfl
            rw [this]; apply propext; omega
          simp [e]
        have HM := Lib.hid hm; clear hm hall hc
        by_cases h48 : (s[0].toNat : Int) = 48
        · have h4 : ((s[0].toNat : Int) != 48) = false := by simpa using h48
          have H48 := Lib.hid h48; clear h48
          go_wp2
          go_ret
          exact ⟨ret_bool (by rw [HM.out]; simp [H48.out]; try omega), rfl⟩
        · have h4 : ((s[0].toNat : Int) != 48) = true := by simpa using h48
          have H48 := Lib.hid h48; clear h48
          go_wp2
          go_ret
          exact ⟨ret_bool (by rw [HM.out]; simp [H48.out]), rfl⟩

/-- The digit of a place, from the lowest one on. -/
def atN (l : List UInt8) (i : Nat) : Nat := valL l / 10 ^ i % 10
theorem valR_at : ∀ (r : List UInt8) (i : Nat), r.all isD = true → valR r / 10 ^ i % 10 = (r.getD i 48).toNat - 48
  | [], i, _ => by simp [valR]
  | c :: r, 0, h => by
    rw [List.all_cons, Bool.and_eq_true] at h
    have := isD_bd h.1
    simp only [valR, Nat.pow_zero, Nat.div_one]
    show _ = c.toNat - 48
    omega
  | c :: r, i + 1, h => by
    rw [List.all_cons, Bool.and_eq_true] at h
    have := isD_bd h.1
    have ih := valR_at r i h.2
    have e : (c.toNat - 48 + 10 * valR r) / 10 ^ (i + 1) = valR r / 10 ^ i := by
      rw [Nat.pow_succ, Nat.mul_comm (10 ^ i) 10, ← Nat.div_div_eq_div_mul]
      congr 1
      omega
    rw [valR, e, ih]
    rfl
theorem atN_in (s : ByteArray) (i : Nat) (h : s.data.toList.all isD = true) (hi : i < s.size) : atN s.data.toList i = s[s.size - 1 - i].toNat - 48 := by
  have hl := Lib.size_eq s
  unfold atN valL
  rw [valR_at _ i (by rw [List.all_reverse]; exact h)]
  congr 1
  rw [List.getD_eq_getElem?_getD, List.getElem?_reverse (by omega), List.getElem?_eq_getElem (by omega)]
  simp only [Option.getD_some]
  have : s.data.toList[s.data.toList.length - 1 - i]'(by omega) = s[s.size - 1 - i]'(by omega) := by
    show _ = s.data.toList[s.size - 1 - i]'(by simp; omega)
    congr 1 <;> omega
  rw [this]
theorem atN_out (s : ByteArray) (i : Nat) (h : s.data.toList.all isD = true) (hi : s.size ≤ i) : atN s.data.toList i = 0 := by
  have hl := Lib.size_eq s
  have := valL_lt _ h
  unfold atN
  have h2 : (10 : Nat) ^ s.data.toList.length ≤ 10 ^ i := Nat.pow_le_pow_right (by omega) (by omega)
  rw [Nat.div_eq_of_lt (by omega)]

set_option maxHeartbeats 400000 in
theorem at_any (s : ByteArray) (i : Nat) (w : World) (hs : s.size ≤ 1000000000) (hi : i ≤ 1000000000) (h : s.data.toList.all isD = true) :
    Calls Tryz.prog 90 #[.string s, .int .i64 i] w fun e w' => e = .returned (.int .i64 (atN s.data.toList i : Nat)) ∧ w = w' := by
  by_cases hlt : i < s.size
  · have he := atN_in s i h hlt
    have hd := List.all_eq_true.1 h _ (at_list s (s.size - 1 - i) (by omega))
    have hg := dig_yes hd
    rw [← he] at hg
    have h8 : s[s.size - 1 - i].toNat < 256 := UInt8.toNat_lt _
    have HG := Lib.hid hg; clear hg hd he h
    go_enter Tryz.func90, Tryz.ntmps90
    go_wp2_with (go_at_call 80; refine (digit_any _ (by omega) (by omega) _).mono ?_; rintro e w' ⟨rfl, rfl⟩; rw [HG.out])
    go_ret
    exact ⟨rfl, rfl⟩
  · have he := atN_out s i h (by omega)
    have HE := Lib.hid he; clear he h
    go_enter Tryz.func90, Tryz.ntmps90
    go_wp2
    go_ret
    exact ⟨ret_int (by rw [HE.out]; rfl), rfl⟩
end Go.Proofs.YtglhjdbnpdoinaaGreat
