/- Common beginnings and the order of two texts, of the program and of the document. -/
import Derived.Test.YtfkbpkjejnpaiaaOctA
import Derived.Lib.Bytealg
import Derived.Deep.QuietTactic
import Derived.BigQuiet
namespace Go.Proofs.Ytfkbpkjejnpaiaa
open Go.RowKit
set_option maxRecDepth 100000

theorem drop_at (a : ByteArray) (k : Nat) (h : k < a.size) : a.data.toList.drop k = a[k] :: a.data.toList.drop (k + 1) := by
  rw [List.drop_eq_getElem_cons (by simpa using h)]; rfl
theorem drop_end (a : ByteArray) (k : Nat) (h : a.size ≤ k) : a.data.toList.drop k = [] := List.drop_eq_nil_of_le (by simpa using h)
theorem u8_ne_iff (x y : UInt8) : (x = y) ↔ ((x.toNat : Int) = (y.toNat : Int)) := by rw [← UInt8.toNat_inj]; omega
theorem u8_lt_iff (x y : UInt8) : (x < y) ↔ (x.toNat < y.toNat) := UInt8.lt_iff_toNat_lt

theorem drew2 (w : World) (n m : Nat) : ∃ q, (w.drewN n).drewN m = w.drewN q := ⟨n + m, World.drewN_drewN _ _ _⟩

/-- How many octets two lists begin with together. -/
def comL : List UInt8 → List UInt8 → Nat
  | x :: xs, y :: ys => if x = y then comL xs ys + 1 else 0
  | _, _ => 0

theorem comL_step (a b : ByteArray) (k : Nat) (ha : k < a.size) (hb : k < b.size) (he : (a[k].toNat : Int) = b[k].toNat) :
    comL (a.data.toList.drop k) (b.data.toList.drop k) = comL (a.data.toList.drop (k + 1)) (b.data.toList.drop (k + 1)) + 1 := by
  rw [drop_at a k ha, drop_at b k hb, comL, if_pos ((u8_ne_iff _ _).2 he)]
theorem comL_stop (a b : ByteArray) (k : Nat) (ha : k < a.size) (hb : k < b.size) (he : ¬ (a[k].toNat : Int) = b[k].toNat) :
    comL (a.data.toList.drop k) (b.data.toList.drop k) = 0 := by
  rw [drop_at a k ha, drop_at b k hb, comL, if_neg (fun h => he ((u8_ne_iff _ _).1 h))]
theorem comL_end (a b : ByteArray) (k : Nat) (h : a.size ≤ k ∨ b.size ≤ k) : comL (a.data.toList.drop k) (b.data.toList.drop k) = 0 := by
  rcases h with h | h
  · rw [drop_end a k h]; simp [comL]
  · rw [drop_end b k h]; cases List.drop k a.data.toList <;> simp [comL]

theorem cmpB_lt (a b : ByteArray) (k : Nat) (ha : k < a.size) (hb : k < b.size) (he : a[k].toNat < b[k].toNat) :
    Lib.compareBytes (a.data.toList.drop k) (b.data.toList.drop k) = -1 := by
  rw [drop_at a k ha, drop_at b k hb, Lib.compareBytes, if_pos ((u8_lt_iff _ _).2 he)]
theorem cmpB_gt (a b : ByteArray) (k : Nat) (ha : k < a.size) (hb : k < b.size) (he : b[k].toNat < a[k].toNat) :
    Lib.compareBytes (a.data.toList.drop k) (b.data.toList.drop k) = 1 := by
  rw [drop_at a k ha, drop_at b k hb, Lib.compareBytes, if_neg (fun h => by have := (u8_lt_iff _ _).1 h; omega), if_pos ((u8_lt_iff _ _).2 he)]
theorem cmpB_eq (a b : ByteArray) (k : Nat) (ha : k < a.size) (hb : k < b.size) (h1 : ¬ a[k].toNat < b[k].toNat) (h2 : ¬ b[k].toNat < a[k].toNat) :
    Lib.compareBytes (a.data.toList.drop k) (b.data.toList.drop k) = Lib.compareBytes (a.data.toList.drop (k + 1)) (b.data.toList.drop (k + 1)) := by
  rw [drop_at a k ha, drop_at b k hb, Lib.compareBytes, if_neg (fun h => h1 ((u8_lt_iff _ _).1 h)), if_neg (fun h => h2 ((u8_lt_iff _ _).1 h))]
theorem cmpB_end (a b : ByteArray) (k : Nat) (ha : k ≤ a.size) (_hb : k ≤ b.size) (h : a.size ≤ k ∨ b.size ≤ k) :
    Lib.compareBytes (a.data.toList.drop k) (b.data.toList.drop k) = if a.size < b.size then -1 else if b.size < a.size then 1 else 0 := by
  rcases Nat.lt_or_ge k a.size with h1 | h1
  · rw [drop_at a k h1, drop_end b k (by omega), Lib.compareBytes, if_neg (by omega), if_pos (by omega)]
  · rw [drop_end a k h1]
    rcases Nat.lt_or_ge k b.size with h2 | h2
    · rw [drop_at b k h2, Lib.compareBytes, if_pos (by omega)]
    · rw [drop_end b k h2, Lib.compareBytes, if_neg (by omega), if_neg (by omega)]

end Go.Proofs.Ytfkbpkjejnpaiaa
