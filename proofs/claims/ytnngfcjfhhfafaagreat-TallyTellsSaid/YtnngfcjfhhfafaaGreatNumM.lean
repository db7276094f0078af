/- Numbers' texts: plain facts on lists of digits. -/
import Derived.Lib.ItoaNum
import Derived.Test.YtnngfcjfhhfafaaGreatOctM
import Derived.Test.YtnngfcjfhhfafaaGreatOctE
namespace Go.Proofs.YtnngfcjfhhfafaaGreat
set_option maxRecDepth 100000

def isD (c : UInt8) : Bool := decide (48 ≤ c.toNat) && decide (c.toNat ≤ 57)
/-- Is a text a number's? -/
def mayL (l : List UInt8) : Bool := !l.isEmpty && l.all isD && (decide (l.head? ≠ some 48) || decide (l.length = 1))
/-- The number of a text of digits. -/
def valR : List UInt8 → Nat
  | [] => 0
  | c :: r => (c.toNat - 48) + 10 * valR r
def valL (l : List UInt8) : Nat := valR l.reverse
def dig (c : UInt8) : Nat := c.toNat - 48

theorem valR_cat (a b : List UInt8) : valR (a ++ b) = valR a + 10 ^ a.length * valR b := by
  induction a with
  | nil => simp [valR]
  | cons x a ih => rw [List.cons_append, valR, ih, valR, List.length_cons, Nat.pow_succ]; rw [Nat.mul_add, Nat.mul_comm (10 ^ a.length) 10, Nat.mul_assoc, Nat.add_assoc]
theorem valL_nil : valL [] = 0 := rfl
theorem valL_snoc (l : List UInt8) (c : UInt8) : valL (l ++ [c]) = 10 * valL l + (c.toNat - 48) := by
  unfold valL; rw [List.reverse_append]; simp [valR]; omega
theorem valL_cons (c : UInt8) (l : List UInt8) : valL (c :: l) = (c.toNat - 48) * 10 ^ l.length + valL l := by
  unfold valL; rw [List.reverse_cons, valR_cat]; simp [valR]; rw [Nat.mul_comm]; omega
theorem isD_bd {c : UInt8} (h : isD c = true) : 48 ≤ c.toNat ∧ c.toNat ≤ 57 := by simpa [isD] using h
theorem valL_lt (l : List UInt8) (h : l.all isD = true) : valL l < 10 ^ l.length := by
  induction l with
  | nil => simp [valL_nil]
  | cons c l ih =>
    rw [List.all_cons, Bool.and_eq_true] at h
    have := ih h.2
    have hc := isD_bd h.1
    rw [valL_cons, List.length_cons, Nat.pow_succ]
    have h9 : (c.toNat - 48) * 10 ^ l.length ≤ 9 * 10 ^ l.length := Nat.mul_le_mul_right _ (by omega)
    omega
theorem mayL_all {l : List UInt8} (h : mayL l = true) : l.all isD = true := by
  unfold mayL at h; simp only [Bool.and_eq_true] at h; exact h.1.2
theorem mayL_ne {l : List UInt8} (h : mayL l = true) : l ≠ [] := by
  intro e; subst e; simp [mayL] at h
theorem mayL_head {l : List UInt8} (h : mayL l = true) (h1 : l.length ≠ 1) : l.head? ≠ some 48 := by
  unfold mayL at h; simp only [Bool.and_eq_true, Bool.or_eq_true, decide_eq_true_eq] at h
  rcases h.2 with h | h
  · exact h
  · exact absurd h h1
theorem mayL_ge {l : List UInt8} (h : mayL l = true) (h1 : 1 < l.length) : 10 ^ (l.length - 1) ≤ valL l := by
  cases l with
  | nil => simp at h1
  | cons c l =>
    have h2 := mayL_head h (by omega)
    have h3 := mayL_all h
    rw [List.all_cons, Bool.and_eq_true] at h3
    have hc := isD_bd h3.1
    have : c.toNat ≠ 48 := by
      intro e; apply h2; simp only [List.head?_cons, Option.some.injEq]
      rw [← UInt8.toNat_inj]; simpa using e
    rw [valL_cons, List.length_cons, Nat.add_sub_cancel]
    have : 1 * 10 ^ l.length ≤ (c.toNat - 48) * 10 ^ l.length := Nat.mul_le_mul_right _ (by omega)
    omega

/-- What the order of numbers' texts is: by their lengths, and then octet by octet. -/
def cmpN (a b : List UInt8) : Int := if a.length < b.length then -1 else if b.length < a.length then 1 else Lib.compareBytes a b

theorem cb_val : ∀ (a b : List UInt8), a.length = b.length → a.all isD = true → b.all isD = true →
    (Lib.compareBytes a b = -1 ∧ valL a < valL b) ∨ (Lib.compareBytes a b = 0 ∧ a = b) ∨ (Lib.compareBytes a b = 1 ∧ valL b < valL a)
  | [], [], _, _, _ => .inr (.inl ⟨by simp [Lib.compareBytes], rfl⟩)
  | [], _ :: _, h, _, _ => by simp at h
  | _ :: _, [], h, _, _ => by simp at h
  | x :: a, y :: b, h, ha, hb => by
    have hl : a.length = b.length := by simpa using h
    rw [List.all_cons, Bool.and_eq_true] at ha hb
    have hx := isD_bd ha.1
    have hy := isD_bd hb.1
    have ih := cb_val a b hl ha.2 hb.2
    have la := valL_lt a ha.2
    have lb := valL_lt b hb.2
    rw [hl] at la
    rw [valL_cons, valL_cons, hl, Lib.compareBytes]
    by_cases h1 : x < y
    · rw [if_pos h1]
      have : x.toNat < y.toNat := UInt8.lt_iff_toNat_lt.1 h1
      have : ((x.toNat - 48) + 1) * 10 ^ b.length ≤ (y.toNat - 48) * 10 ^ b.length := Nat.mul_le_mul_right _ (by omega)
      rw [Nat.add_mul] at this
      exact .inl ⟨rfl, by omega⟩
    · rw [if_neg h1]
      by_cases h2 : y < x
      · rw [if_pos h2]
        have : y.toNat < x.toNat := UInt8.lt_iff_toNat_lt.1 h2
        have : ((y.toNat - 48) + 1) * 10 ^ b.length ≤ (x.toNat - 48) * 10 ^ b.length := Nat.mul_le_mul_right _ (by omega)
        rw [Nat.add_mul] at this
        exact .inr (.inr ⟨rfl, by omega⟩)
      · rw [if_neg h2]
        have e : x = y := UInt8.le_antisymm (UInt8.not_lt.1 h2) (UInt8.not_lt.1 h1)
        subst e
        rcases ih with ⟨i1, i2⟩ | ⟨i1, i2⟩ | ⟨i1, i2⟩
        · exact .inl ⟨i1, by omega⟩
        · exact .inr (.inl ⟨i1, by rw [i2]⟩)
        · exact .inr (.inr ⟨i1, by omega⟩)

/-- Order is that of the numbers, and no number has two texts. -/
theorem cmpN_val (a b : List UInt8) (ha : mayL a = true) (hb : mayL b = true) :
    (cmpN a b = -1 ∧ valL a < valL b) ∨ (cmpN a b = 0 ∧ a = b) ∨ (cmpN a b = 1 ∧ valL b < valL a) := by
  have la := valL_lt a (mayL_all ha)
  have lb := valL_lt b (mayL_all hb)
  have na : 0 < a.length := List.length_pos_iff.2 (mayL_ne ha)
  have nb : 0 < b.length := List.length_pos_iff.2 (mayL_ne hb)
  unfold cmpN
  by_cases h1 : a.length < b.length
  · rw [if_pos h1]
    have := mayL_ge hb (by omega)
    have : (10 : Nat) ^ a.length ≤ 10 ^ (b.length - 1) := Nat.pow_le_pow_right (by omega) (by omega)
    exact .inl ⟨rfl, by omega⟩
  · rw [if_neg h1]
    by_cases h2 : b.length < a.length
    · rw [if_pos h2]
      have := mayL_ge ha (by omega)
      have : (10 : Nat) ^ b.length ≤ 10 ^ (a.length - 1) := Nat.pow_le_pow_right (by omega) (by omega)
      exact .inr (.inr ⟨rfl, by omega⟩)
    · rw [if_neg h2]
      exact cb_val a b (by omega) (mayL_all ha) (mayL_all hb)
theorem val_inj {a b : List UInt8} (ha : mayL a = true) (hb : mayL b = true) (h : valL a = valL b) : a = b := by
  rcases cmpN_val a b ha hb with h1 | h1 | h1
  · omega
  · exact h1.2
  · omega

theorem dd_dig (n : Nat) (h : n < 10) : (UInt8.ofNat (48 + n)).toNat = 48 + n := by rw [UInt8.toNat_ofNat_of_lt' (by rw [UInt8.size]; omega)]
theorem dd_val (n : Nat) : valL (Lib.decDigits n) = n := by
  induction n using Nat.strongRecOn with
  | _ n ih =>
    rw [Lib.decDigits]
    split
    · rename_i h
      have := dd_dig n h
      simp only [valL, valR, List.reverse_singleton]
      omega
    · rename_i h
      rw [valL_snoc, ih (n / 10) (by omega), dd_dig _ (by omega)]; omega
theorem dd_all (n : Nat) : (Lib.decDigits n).all isD = true := by
  induction n using Nat.strongRecOn with
  | _ n ih =>
    rw [Lib.decDigits]
    split
    · rename_i h
      have := dd_dig n h
      simp [isD]; omega
    · rename_i h
      have := dd_dig (n % 10) (by omega)
      rw [List.all_append, ih (n / 10) (by omega)]
      simp [isD]; omega
theorem dd_ne (n : Nat) : Lib.decDigits n ≠ [] := by
  rw [Lib.decDigits]; split <;> simp
theorem dd_head (n : Nat) (h : 0 < n) : (Lib.decDigits n).head? ≠ some 48 := by
  induction n using Nat.strongRecOn with
  | _ n ih =>
    rw [Lib.decDigits]
    split
    · rename_i h1
      have := dd_dig n h1
      simp only [List.head?_cons, ne_eq, Option.some.injEq]
      intro e
      rw [e] at this
      have e2 : (48 : UInt8).toNat = 48 := rfl
      omega
    · rename_i h1
      have h2 := ih (n / 10) (by omega) (by omega)
      cases e : Lib.decDigits (n / 10) with
      | nil => exact absurd e (dd_ne _)
      | cons u t => rw [e] at h2; simpa using h2
theorem dd_may (n : Nat) : mayL (Lib.decDigits n) = true := by
  unfold mayL
  rw [dd_all]
  have := dd_ne n
  simp only [Bool.and_true, Bool.and_eq_true, Bool.or_eq_true, decide_eq_true_eq, Bool.not_eq_true', List.isEmpty_eq_false_iff]
  refine ⟨this, ?_⟩
  rcases Nat.eq_zero_or_pos n with h | h
  · subst h; right; rw [Lib.decDigits, dif_pos (by omega)]; rfl
  · exact .inl (dd_head n h)
theorem dd_of {l : List UInt8} (h : mayL l = true) : Lib.decDigits (valL l) = l := val_inj (dd_may _) h (dd_val _)

/-- One more, from the last digit on. -/
def incR : List UInt8 → List UInt8
  | [] => [49]
  | c :: r => if c = 57 then 48 :: incR r else (c + 1) :: r
def nextL (l : List UInt8) : List UInt8 := (incR l.reverse).reverse
theorem incR_val (l : List UInt8) (h : l.all isD = true) : valR (incR l) = valR l + 1 := by
  induction l with
  | nil => rfl
  | cons c r ih =>
    rw [List.all_cons, Bool.and_eq_true] at h
    have hc := isD_bd h.1
    rw [incR]
    split
    · rename_i e; subst e
      rw [valR, valR, ih h.2]
      have e2 : (48 : UInt8).toNat = 48 := rfl
      have e3 : (57 : UInt8).toNat = 57 := rfl
      omega
    · rename_i e
      have : c.toNat ≠ 57 := fun e2 => e (by rw [← UInt8.toNat_inj]; exact e2)
      have e2 : (c + 1).toNat = c.toNat + 1 := by rw [UInt8.toNat_add]; have : (1 : UInt8).toNat = 1 := rfl
                                                  omega
      rw [valR, valR, e2]; omega
theorem incR_all (l : List UInt8) (h : l.all isD = true) : (incR l).all isD = true := by
  induction l with
  | nil => rfl
  | cons c r ih =>
    rw [List.all_cons, Bool.and_eq_true] at h
    have hc := isD_bd h.1
    rw [incR]
    split
    · rw [List.all_cons, ih h.2]; rfl
    · rename_i e
      have : c.toNat ≠ 57 := fun e2 => e (by rw [← UInt8.toNat_inj]; exact e2)
      have e2 : (c + 1).toNat = c.toNat + 1 := by rw [UInt8.toNat_add]; have : (1 : UInt8).toNat = 1 := rfl
                                                  omega
      rw [List.all_cons, h.2]; simp [isD, e2]; omega
theorem incR_last (l : List UInt8) (h : l.all isD = true) (h2 : l.getLast? ≠ some 48 ∨ l.length ≤ 1) : (incR l).getLast? ≠ some 48 := by
  induction l with
  | nil => simp [incR]
  | cons c r ih =>
    rw [List.all_cons, Bool.and_eq_true] at h
    have hc := isD_bd h.1
    rw [incR]
    split
    · cases r with
      | nil => simp [incR]
      | cons d r' =>
        have hne : incR (d :: r') ≠ [] := by rw [incR]; split <;> simp
        have := ih h.2 (by rcases h2 with h2 | h2
                           · left; simpa [List.getLast?_cons_cons] using h2
                           · simp at h2)
        cases e : incR (d :: r') with
        | nil => exact absurd e hne
        | cons u t => rw [e] at this; simpa [List.getLast?_cons_cons] using this
    · rename_i e
      have e3 : c.toNat ≠ 57 := fun e2 => e (by rw [← UInt8.toNat_inj]; exact e2)
      cases r with
      | nil =>
        have e2 : (c + 1).toNat = c.toNat + 1 := by rw [UInt8.toNat_add]; have : (1 : UInt8).toNat = 1 := rfl
                                                    omega
        simp only [List.getLast?_singleton, ne_eq, Option.some.injEq]
        intro e4; rw [e4] at e2
        have : (48 : UInt8).toNat = 48 := rfl
        omega
      | cons d r' =>
        rcases h2 with h2 | h2
        · simpa [List.getLast?_cons_cons] using h2
        · simp at h2
theorem next_val {l : List UInt8} (h : mayL l = true) : valL (nextL l) = valL l + 1 := by
  unfold valL nextL; rw [List.reverse_reverse]; exact incR_val _ (by rw [List.all_reverse]; exact mayL_all h)
theorem next_may {l : List UInt8} (h : mayL l = true) : mayL (nextL l) = true := by
  have ha := mayL_all h
  have h1 := incR_all l.reverse (by rw [List.all_reverse]; exact ha)
  have h2 := incR_last l.reverse (by rw [List.all_reverse]; exact ha) (by
    rw [List.getLast?_reverse, List.length_reverse]
    rcases Nat.lt_or_ge 1 l.length with h3 | h3
    · exact .inl (mayL_head h (by omega))
    · exact .inr h3)
  have h3 : incR l.reverse ≠ [] := by cases l.reverse with
    | nil => simp [incR]
    | cons c r => rw [incR]; split <;> simp
  unfold mayL nextL
  rw [List.all_reverse, h1, List.head?_reverse]
  simp [h2, h3]
theorem next_dd (n : Nat) : nextL (Lib.decDigits n) = Lib.decDigits (n + 1) :=
  val_inj (next_may (dd_may n)) (dd_may _) (by rw [next_val (dd_may n), dd_val, dd_val])
theorem incR_len (l : List UInt8) : (incR l).length ≤ l.length + 1 := by
  induction l with
  | nil => simp [incR]
  | cons c r ih => rw [incR]; split <;> simp <;> omega
theorem next_len (l : List UInt8) : (nextL l).length ≤ l.length + 1 := by
  unfold nextL; rw [List.length_reverse]; have := incR_len l.reverse; rw [List.length_reverse] at this; exact this

/-- The octets' class by which the program asks. -/
theorem cls_dig (c : UInt8) : hasB [1] (clsI c.toNat) = isD c := by
  have h : ∀ n : Fin 256, hasB [1] (clsI (n.1 : Nat)) = (decide (48 ≤ n.1) && decide (n.1 ≤ 57)) := by decide +kernel
  exact h ⟨c.toNat, UInt8.toNat_lt c⟩
theorem all_dig (l : List UInt8) : allB l [1] = l.all isD := by
  unfold allB; congr 1; funext c; exact cls_dig c
end Go.Proofs.YtnngfcjfhhfafaaGreat
