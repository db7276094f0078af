/- Common beginnings and the order of two texts, of the program and of the document. -/
import Derived.Test.YtcdflfjbdbofcaaOctA
import Derived.Lib.Bytealg
import Derived.Deep.QuietTactic
import Derived.BigQuiet
namespace Go.Proofs.Ytcdflfjbdbofcaa
open Go.RowKit

theorem drop_at (a : ByteArray) (k : Nat) (h : k < a.size) : a.data.toList.drop k = a[k] :: a.data.toList.drop (k + 1) := by
  rw [List.drop_eq_getElem_cons (by simpa using h)]; rfl
theorem drop_end (a : ByteArray) (k : Nat) (h : a.size ≤ k) : a.data.toList.drop k = [] := List.drop_eq_nil_of_le (by simpa using h)
theorem u8_ne_iff (x y : UInt8) : (x = y) ↔ ((x.toNat : Int) = (y.toNat : Int)) := by rw [← UInt8.toNat_inj]; omega
theorem u8_lt_iff (x y : UInt8) : (x < y) ↔ (x.toNat < y.toNat) := UInt8.lt_iff_toNat_lt

theorem drew2 (w : World) (n m : Nat) : ∃ q, (w.drewN n).drewN m = w.drewN q := ⟨n + m, World.drewN_drewN _ _ _⟩

/-- How many octets two lists begin with together. -/
def comL : List UInt8 → List UInt8 → Nat
  | x :: xs, y :: ys => if x = y then comL xs ys + 1 else 0
  | _, _ => 0

set_option maxHeartbeats 400000 in
theorem cmpstring_any (a b : ByteArray) (w : World) :
    Calls Try.prog 75 #[.string a, .string b] w fun e w' => e = .returned (.int .i64 (Lib.compareBytes a.data.toList b.data.toList)) ∧ w = w' := by
  go_enter Try.func75, Try.ntmps75
  go_wp2
  rw [run_callFunc_extern Try.func78 (by kernel_rfl) (by kernel_rfl) (by kernel_rfl) (e := Extern.BytealgCompare.compare) (by kernel_rfl), Lib.run_compareString]
  simp only [Result.andThen]
  rw [Oper.upon_value]
  go_wp2
  go_ret
  exact ⟨rfl, rfl⟩

set_option maxHeartbeats 400000 in
theorem strcmp_any (a b : ByteArray) (w : World) :
    Calls Try.prog 68 #[.string a, .string b] w fun e w' => e = .returned (.int .i64 (Lib.compareBytes a.data.toList b.data.toList)) ∧ w = w' := by
  go_enter Try.func68, Try.ntmps68
  go_wp2_with (go_at_call 75; refine (cmpstring_any _ _ _).mono ?_; rintro e w' ⟨rfl, rfl⟩)
  go_ret
  exact ⟨rfl, rfl⟩

set_option maxHeartbeats 400000 in
theorem cmp_any (a b : ByteArray) (w : World) :
    Calls Try.prog 59 #[.string a, .string b] w fun e w' => e = .returned (.int .i64 (Lib.compareBytes a.data.toList b.data.toList)) ∧ w = w' := by
  go_enter Try.func59, Try.ntmps59
  go_wp2_with (go_at_call 68; refine (strcmp_any _ _ _).mono ?_; rintro e w' ⟨rfl, rfl⟩)
  go_ret
  exact ⟨rfl, rfl⟩

theorem comL_step (a b : ByteArray) (k : Nat) (ha : k < a.size) (hb : k < b.size) (he : (a[k].toNat : Int) = b[k].toNat) :
    comL (a.data.toList.drop k) (b.data.toList.drop k) = comL (a.data.toList.drop (k + 1)) (b.data.toList.drop (k + 1)) + 1 := by
  rw [drop_at a k ha, drop_at b k hb, comL, if_pos ((u8_ne_iff _ _).2 he)]
theorem comL_stop (a b : ByteArray) (k : Nat) (ha : k < a.size) (hb : k < b.size) (he : ¬ (a[k].toNat : Int) = b[k].toNat) :
    comL (a.data.toList.drop k) (b.data.toList.drop k) = 0 := by
  rw [drop_at a k ha, drop_at b k hb, comL, if_neg (fun h => he ((u8_ne_iff _ _).1 h))]
theorem comL_end (a b : ByteArray) (k : Nat) (h : a.size ≤ k ∨ b.size ≤ k) : comL (a.data.toList.drop k) (b.data.toList.drop k) = 0 := by
  rcases h with h | h
  · rw [drop_end a k h]; simp [comL]
  · rw [drop_end b k h]; cases List.drop k a.data.toList <;> simp [comL]

theorem cmpB_lt (a b : ByteArray) (k : Nat) (ha : k < a.size) (hb : k < b.size) (he : a[k].toNat < b[k].toNat) :
    Lib.compareBytes (a.data.toList.drop k) (b.data.toList.drop k) = -1 := by
  rw [drop_at a k ha, drop_at b k hb, Lib.compareBytes, if_pos ((u8_lt_iff _ _).2 he)]
theorem cmpB_gt (a b : ByteArray) (k : Nat) (ha : k < a.size) (hb : k < b.size) (he : b[k].toNat < a[k].toNat) :
    Lib.compareBytes (a.data.toList.drop k) (b.data.toList.drop k) = 1 := by
  rw [drop_at a k ha, drop_at b k hb, Lib.compareBytes, if_neg (fun h => by have := (u8_lt_iff _ _).1 h; omega), if_pos ((u8_lt_iff _ _).2 he)]
theorem cmpB_eq (a b : ByteArray) (k : Nat) (ha : k < a.size) (hb : k < b.size) (h1 : ¬ a[k].toNat < b[k].toNat) (h2 : ¬ b[k].toNat < a[k].toNat) :
    Lib.compareBytes (a.data.toList.drop k) (b.data.toList.drop k) = Lib.compareBytes (a.data.toList.drop (k + 1)) (b.data.toList.drop (k + 1)) := by
  rw [drop_at a k ha, drop_at b k hb, Lib.compareBytes, if_neg (fun h => h1 ((u8_lt_iff _ _).1 h)), if_neg (fun h => h2 ((u8_lt_iff _ _).1 h))]
theorem cmpB_end (a b : ByteArray) (k : Nat) (ha : k ≤ a.size) (_hb : k ≤ b.size) (h : a.size ≤ k ∨ b.size ≤ k) :
    Lib.compareBytes (a.data.toList.drop k) (b.data.toList.drop k) = if a.size < b.size then -1 else if b.size < a.size then 1 else 0 := by
  rcases Nat.lt_or_ge k a.size with h1 | h1
  · rw [drop_at a k h1, drop_end b k (by omega), Lib.compareBytes, if_neg (by omega), if_pos (by omega)]
  · rw [drop_end a k h1]
    rcases Nat.lt_or_ge k b.size with h2 | h2
    · rw [drop_at b k h2, Lib.compareBytes, if_pos (by omega)]
    · rw [drop_end b k h2, Lib.compareBytes, if_neg (by omega), if_neg (by omega)]

set_option maxHeartbeats 400000 in
theorem refcmp_any (a b : ByteArray) (w : World) (ha : a.size ≤ maxLen) (_hb : b.size ≤ maxLen) :
    Calls Try.prog 50 #[.string a, .string b] w fun e w' => e = .returned (.int .i64 (Lib.compareBytes a.data.toList b.data.toList)) ∧ ∃ n, w' = w.drewN n := by
  unfold maxLen at ha
  go_enter Try.func50, Try.ntmps50
  go_wp2
  go_loopw [5] (fun i wr => ∃ k : Nat, k ≤ a.size ∧ k ≤ b.size ∧ i = .int .i64 k ∧ Hid (Lib.compareBytes (a.data.toList.drop k) (b.data.toList.drop k) = Lib.compareBytes a.data.toList b.data.toList) ∧ ∃ n, wr = w.drewN n) (fun i _ => a.size - (intOf i).toNat)
  case atStart => exact ⟨0, Nat.zero_le _, Nat.zero_le _, rfl, Lib.hid (by simp), 0, rfl⟩
  case round =>
    obtain ⟨k, hk1, hk2, rfl, H, n, rfl⟩ := hrel
    by_cases hla : k < a.size
    · by_cases hlb : k < b.size
      · go_wp2
        go_quiet (fail)
        go_wp2
        · go_ret
          have h1 : a[k].toNat < b[k].toNat := by assumption
          exact ⟨ret_int (by rw [← H.out, cmpB_lt a b k hla hlb h1]), drew2 _ _ _⟩
        · go_quiet (fail)
          go_wp2
          · go_ret
            have h1 : b[k].toNat < a[k].toNat := by assumption
            exact ⟨ret_int (by rw [← H.out, cmpB_gt a b k hla hlb h1]), by simp only [World.drewN_drewN]; exact ⟨_, rfl⟩⟩
          · have h1 : ¬ a[k].toNat < b[k].toNat := by assumption
            have h2 : ¬ b[k].toNat < a[k].toNat := by assumption
            have hc := cmpB_eq a b k hla hlb h1 h2
            have h0 := H.out
            rw [hc] at h0
            have H0 := Lib.hid h0
            clear h0 hc
            go_roundw
            case rel => exact ⟨k + 1, by omega, by omega, by go_num, H0, _, rfl⟩
            case measure => simp [intOf]; omega
      · have hc := cmpB_end a b k hk1 hk2 (by omega)
        rw [if_neg (by omega), if_pos (by omega)] at hc
        have HC := Lib.hid hc; clear hc
        go_wp2
        go_ret
        exact ⟨ret_int (by rw [← H.out, HC.out]), _, rfl⟩
    · have hc := cmpB_end a b k hk1 hk2 (by omega)
      have HC := Lib.hid hc; clear hc
      go_wp2
      · go_ret
        have h1 : a.size < b.size := by assumption
        exact ⟨ret_int (by rw [← H.out, HC.out, if_pos h1]), _, rfl⟩
      · go_ret
        have h1 : ¬ a.size < b.size := by assumption
        exact ⟨ret_int (by rw [← H.out, HC.out, if_neg h1, if_neg (by omega)]), _, rfl⟩
end Go.Proofs.Ytcdflfjbdbofcaa
