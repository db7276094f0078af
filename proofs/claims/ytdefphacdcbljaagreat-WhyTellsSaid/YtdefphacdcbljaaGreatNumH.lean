/- THE TEXTS OF NumM NumH: Numbers' texts: plain facts on lists of digits. THE TEXTS OF NumA NumC NumH: The contracts of number: which texts are numbers, their order, and the next one. The contract of number's next one. Aids of the laws of number: plain facts. -/
import Derived.Lib.ItoaNum
import Derived.Test.YtdefphacdcbljaaGreatOctM
import Derived.Test.YtdefphacdcbljaaGreatOctE
import Derived.Test.YtdefphacdcbljaaGreatOctP
import Derived.Laws.IdiomStrings
namespace Go.Proofs.YtdefphacdcbljaaGreat
set_option maxRecDepth 100000

def isD (c : UInt8) : Bool := decide (48 ≤ c.toNat) && decide (c.toNat ≤ 57)
/-- Is a text a number's? -/
def mayL (l : List UInt8) : Bool := !l.isEmpty && l.all isD && (decide (l.head? ≠ some 48) || decide (l.length = 1))
/-- The number of a text of digits. -/
def valR : List UInt8 → Nat
  | [] => 0
  | c :: r => (c.toNat - 48) + 10 * valR r
def valL (l : List UInt8) : Nat := valR l.reverse
def dig (c : UInt8) : Nat := c.toNat - 48

theorem valR_cat (a b : List UInt8) : valR (a ++ b) = valR a + 10 ^ a.length * valR b := by
  induction a with
  | nil => simp [valR]
  | cons x a ih => rw [List.cons_append, valR, ih, valR, List.length_cons, Nat.pow_succ]; rw [Nat.mul_add, Nat.mul_comm (10 ^ a.length) 10, Nat.mul_assoc, Nat.add_assoc]
theorem valL_nil : valL [] = 0 := rfl
theorem valL_snoc (l : List UInt8) (c : UInt8) : valL (l ++ [c]) = 10 * valL l + (c.toNat - 48) := by
  unfold valL; rw [List.reverse_append]; simp [valR]; omega
theorem valL_cons (c : UInt8) (l : List UInt8) : valL (c :: l) = (c.toNat - 48) * 10 ^ l.length + valL l := by
  unfold valL; rw [List.reverse_cons, valR_cat]; simp [valR]; rw [Nat.mul_comm]; omega
theorem isD_bd {c : UInt8} (h : isD c = true) : 48 ≤ c.toNat ∧ c.toNat ≤ 57 := by simpa [isD] using h
theorem valL_lt (l : List UInt8) (h : l.all isD = true) : valL l < 10 ^ l.length := by
  induction l with
  | nil => simp [valL_nil]
  | cons c l ih =>
    rw [List.all_cons, Bool.and_eq_true] at h
    have := ih h.2
    have hc := isD_bd h.1
    rw [valL_cons, List.length_cons, Nat.pow_succ]
    have h9 : (c.toNat - 48) * 10 ^ l.length ≤ 9 * 10 ^ l.length := Nat.mul_le_mul_right _ (by omega)
    omega
theorem mayL_all {l : List UInt8} (h : mayL l = true) : l.all isD = true := by
  unfold mayL at h; simp only [Bool.and_eq_true] at h; exact h.1.2
theorem mayL_ne {l : List UInt8} (h : mayL l = true) : l ≠ [] := by
  intro e; subst e; simp [mayL] at h
theorem mayL_head {l : List UInt8} (h : mayL l = true) (h1 : l.length ≠ 1) : l.head? ≠ some 48 := by
  unfold mayL at h; simp only [Bool.and_eq_true, Bool.or_eq_true, decide_eq_true_eq] at h
  rcases h.2 with h | h
  · exact h
  · exact absurd h h1
theorem mayL_ge {l : List UInt8} (h : mayL l = true) (h1 : 1 < l.length) : 10 ^ (l.length - 1) ≤ valL l := by
  cases l with
  | nil => simp at h1
  | cons c l =>
    have h2 := mayL_head h (by omega)
    have h3 := mayL_all h
    rw [List.all_cons, Bool.and_eq_true] at h3
    have hc := isD_bd h3.1
    have : c.toNat ≠ 48 := by
      intro e; apply h2; simp only [List.head?_cons, Option.some.injEq]
      rw [← UInt8.toNat_inj]; simpa using e
    rw [valL_cons, List.length_cons, Nat.add_sub_cancel]
    have : 1 * 10 ^ l.length ≤ (c.toNat - 48) * 10 ^ l.length := Nat.mul_le_mul_right _ (by omega)
    omega

/-- What the order of numbers' texts is: by their lengths, and then octet by octet. -/
def cmpN (a b : List UInt8) : Int := if a.length < b.length then -1 else if b.length < a.length then 1 else Lib.compareBytes a b

theorem cb_val : ∀ (a b : List UInt8), a.length = b.length → a.all isD = true → b.all isD = true →
    (Lib.compareBytes a b = -1 ∧ valL a < valL b) ∨ (Lib.compareBytes a b = 0 ∧ a = b) ∨ (Lib.compareBytes a b = 1 ∧ valL b < valL a)
  | [], [], _, _, _ => .inr (.inl ⟨by simp [Lib.compareBytes], rfl⟩)
  | [], _ :: _, h, _, _ => by simp at h
  | _ :: _, [], h, _, _ => by simp at h
  | x :: a, y :: b, h, ha, hb => by
    have hl : a.length = b.length := by simpa using h
    rw [List.all_cons, Bool.and_eq_true] at ha hb
    have hx := isD_bd ha.1
    have hy := isD_bd hb.1
    have ih := cb_val a b hl ha.2 hb.2
    have la := valL_lt a ha.2
    have lb := valL_lt b hb.2
    rw [hl] at la
    rw [valL_cons, valL_cons, hl, Lib.compareBytes]
    by_cases h1 : x < y
    · rw [if_pos h1]
      have : x.toNat < y.toNat := UInt8.lt_iff_toNat_lt.1 h1
      have : ((x.toNat - 48) + 1) * 10 ^ b.length ≤ (y.toNat - 48) * 10 ^ b.length := Nat.mul_le_mul_right _ (by omega)
      rw [Nat.add_mul] at this
      exact .inl ⟨rfl, by omega⟩
    · rw [if_neg h1]
      by_cases h2 : y < x
      · rw [if_pos h2]
        have : y.toNat < x.toNat := UInt8.lt_iff_toNat_lt.1 h2
        have : ((y.toNat - 48) + 1) * 10 ^ b.length ≤ (x.toNat - 48) * 10 ^ b.length := Nat.mul_le_mul_right _ (by omega)
        rw [Nat.add_mul] at this
        exact .inr (.inr ⟨rfl, by omega⟩)
      · rw [if_neg h2]
        have e : x = y := UInt8.le_antisymm (UInt8.not_lt.1 h2) (UInt8.not_lt.1 h1)
        subst e
        rcases ih with ⟨i1, i2⟩ | ⟨i1, i2⟩ | ⟨i1, i2⟩
        · exact .inl ⟨i1, by omega⟩
        · exact .inr (.inl ⟨i1, by rw [i2]⟩)
        · exact .inr (.inr ⟨i1, by omega⟩)

/-- Order is that of the numbers, and no number has two texts. -/
theorem cmpN_val (a b : List UInt8) (ha : mayL a = true) (hb : mayL b = true) :
    (cmpN a b = -1 ∧ valL a < valL b) ∨ (cmpN a b = 0 ∧ a = b) ∨ (cmpN a b = 1 ∧ valL b < valL a) := by
  have la := valL_lt a (mayL_all ha)
  have lb := valL_lt b (mayL_all hb)
  have na : 0 < a.length := List.length_pos_iff.2 (mayL_ne ha)
  have nb : 0 < b.length := List.length_pos_iff.2 (mayL_ne hb)
  unfold cmpN
  by_cases h1 : a.length < b.length
  · rw [if_pos h1]
    have := mayL_ge hb (by omega)
    have : (10 : Nat) ^ a.length ≤ 10 ^ (b.length - 1) := Nat.pow_le_pow_right (by omega) (by omega)
    exact .inl ⟨rfl, by omega⟩
  · rw [if_neg h1]
    by_cases h2 : b.length < a.length
    · rw [if_pos h2]
      have := mayL_ge ha (by omega)
      have : (10 : Nat) ^ b.length ≤ 10 ^ (a.length - 1) := Nat.pow_le_pow_right (by omega) (by omega)
      exact .inr (.inr ⟨rfl, by omega⟩)
    · rw [if_neg h2]
      exact cb_val a b (by omega) (mayL_all ha) (mayL_all hb)
theorem val_inj {a b : List UInt8} (ha : mayL a = true) (hb : mayL b = true) (h : valL a = valL b) : a = b := by
  rcases cmpN_val a b ha hb with h1 | h1 | h1
  · omega
  · exact h1.2
  · omega

theorem dd_dig (n : Nat) (h : n < 10) : (UInt8.ofNat (48 + n)).toNat = 48 + n := by rw [UInt8.toNat_ofNat_of_lt' (by rw [UInt8.size]; omega)]
theorem dd_val (n : Nat) : valL (Lib.decDigits n) = n := by
  induction n using Nat.strongRecOn with
  | _ n ih =>
    rw [Lib.decDigits]
    split
    · rename_i h
      have := dd_dig n h
      simp only [valL, valR, List.reverse_singleton]
      omega
    · rename_i h
      rw [valL_snoc, ih (n / 10) (by omega), dd_dig _ (by omega)]; omega
theorem dd_all (n : Nat) : (Lib.decDigits n).all isD = true := by
  induction n using Nat.strongRecOn with
  | _ n ih =>
    rw [Lib.decDigits]
    split
    · rename_i h
      have := dd_dig n h
      simp [isD]; omega
    · rename_i h
      have := dd_dig (n % 10) (by omega)
      rw [List.all_append, ih (n / 10) (by omega)]
      simp [isD]; omega
theorem dd_ne (n : Nat) : Lib.decDigits n ≠ [] := by
  rw [Lib.decDigits]; split <;> simp
theorem dd_head (n : Nat) (h : 0 < n) : (Lib.decDigits n).head? ≠ some 48 := by
  induction n using Nat.strongRecOn with
  | _ n ih =>
    rw [Lib.decDigits]
    split
    · rename_i h1
      have := dd_dig n h1
      simp only [List.head?_cons, ne_eq, Option.some.injEq]
      intro e
      rw [e] at this
      have e2 : (48 : UInt8).toNat = 48 := rfl
      omega
    · rename_i h1
      have h2 := ih (n / 10) (by omega) (by omega)
      cases e : Lib.decDigits (n / 10) with
      | nil => exact absurd e (dd_ne _)
      | cons u t => rw [e] at h2; simpa using h2
theorem dd_may (n : Nat) : mayL (Lib.decDigits n) = true := by
  unfold mayL
  rw [dd_all]
  have := dd_ne n
  simp only [Bool.and_true, Bool.and_eq_true, Bool.or_eq_true, decide_eq_true_eq, Bool.not_eq_true', List.isEmpty_eq_false_iff]
  refine ⟨this, ?_⟩
  rcases Nat.eq_zero_or_pos n with h | h
  · subst h; right; rw [Lib.decDigits, dif_pos (by omega)]; rfl
  · exact .inl (dd_head n h)
theorem dd_of {l : List UInt8} (h : mayL l = true) : Lib.decDigits (valL l) = l := val_inj (dd_may _) h (dd_val _)

/-- One more, from the last digit on. -/
def incR : List UInt8 → List UInt8
  | [] => [49]
  | c :: r => if c = 57 then 48 :: incR r else (c + 1) :: r
def nextL (l : List UInt8) : List UInt8 := (incR l.reverse).reverse
theorem incR_val (l : List UInt8) (h : l.all isD = true) : valR (incR l) = valR l + 1 := by
  induction l with
  | nil => rfl
  | cons c r ih =>
    rw [List.all_cons, Bool.and_eq_true] at h
    have hc := isD_bd h.1
    rw [incR]
    split
    · rename_i e; subst e
      rw [valR, valR, ih h.2]
      have e2 : (48 : UInt8).toNat = 48 := rfl
      have e3 : (57 : UInt8).toNat = 57 := rfl
      omega
    · rename_i e
      have : c.toNat ≠ 57 := fun e2 => e (by rw [← UInt8.toNat_inj]; exact e2)
      have e2 : (c + 1).toNat = c.toNat + 1 := by rw [UInt8.toNat_add]; have : (1 : UInt8).toNat = 1 := rfl
                                                  omega
      rw [valR, valR, e2]; omega
theorem incR_all (l : List UInt8) (h : l.all isD = true) : (incR l).all isD = true := by
  induction l with
  | nil => rfl
  | cons c r ih =>
    rw [List.all_cons, Bool.and_eq_true] at h
    have hc := isD_bd h.1
    rw [incR]
    split
    · rw [List.all_cons, ih h.2]; rfl
    · rename_i e
      have : c.toNat ≠ 57 := fun e2 => e (by rw [← UInt8.toNat_inj]; exact e2)
      have e2 : (c + 1).toNat = c.toNat + 1 := by rw [UInt8.toNat_add]; have : (1 : UInt8).toNat = 1 := rfl
                                                  omega
      rw [List.all_cons, h.2]; simp [isD, e2]; omega
theorem incR_last (l : List UInt8) (h : l.all isD = true) (h2 : l.getLast? ≠ some 48 ∨ l.length ≤ 1) : (incR l).getLast? ≠ some 48 := by
  induction l with
  | nil => simp [incR]
  | cons c r ih =>
    rw [List.all_cons, Bool.and_eq_true] at h
    have hc := isD_bd h.1
    rw [incR]
    split
    · cases r with
      | nil => simp [incR]
      | cons d r' =>
        have hne : incR (d :: r') ≠ [] := by rw [incR]; split <;> simp
        have := ih h.2 (by rcases h2 with h2 | h2
                           · left; simpa [List.getLast?_cons_cons] using h2
                           · simp at h2)
        cases e : incR (d :: r') with
        | nil => exact absurd e hne
        | cons u t => rw [e] at this; simpa [List.getLast?_cons_cons] using this
    · rename_i e
      have e3 : c.toNat ≠ 57 := fun e2 => e (by rw [← UInt8.toNat_inj]; exact e2)
      cases r with
      | nil =>
        have e2 : (c + 1).toNat = c.toNat + 1 := by rw [UInt8.toNat_add]; have : (1 : UInt8).toNat = 1 := rfl
                                                    omega
        simp only [List.getLast?_singleton, ne_eq, Option.some.injEq]
        intro e4; rw [e4] at e2
        have : (48 : UInt8).toNat = 48 := rfl
        omega
      | cons d r' =>
        rcases h2 with h2 | h2
        · simpa [List.getLast?_cons_cons] using h2
        · simp at h2
theorem next_val {l : List UInt8} (h : mayL l = true) : valL (nextL l) = valL l + 1 := by
  unfold valL nextL; rw [List.reverse_reverse]; exact incR_val _ (by rw [List.all_reverse]; exact mayL_all h)
theorem next_may {l : List UInt8} (h : mayL l = true) : mayL (nextL l) = true := by
  have ha := mayL_all h
  have h1 := incR_all l.reverse (by rw [List.all_reverse]; exact ha)
  have h2 := incR_last l.reverse (by rw [List.all_reverse]; exact ha) (by
    rw [List.getLast?_reverse, List.length_reverse]
    rcases Nat.lt_or_ge 1 l.length with h3 | h3
    · exact .inl (mayL_head h (by omega))
    · exact .inr h3)
  have h3 : incR l.reverse ≠ [] := by cases l.reverse with
    | nil => simp [incR]
    | cons c r => rw [incR]; split <;> simp
  unfold mayL nextL
  rw [List.all_reverse, h1, List.head?_reverse]
  simp [h2, h3]
theorem next_dd (n : Nat) : nextL (Lib.decDigits n) = Lib.decDigits (n + 1) :=
  val_inj (next_may (dd_may n)) (dd_may _) (by rw [next_val (dd_may n), dd_val, dd_val])
theorem incR_len (l : List UInt8) : (incR l).length ≤ l.length + 1 := by
  induction l with
  | nil => simp [incR]
  | cons c r ih => rw [incR]; split <;> simp <;> omega
theorem next_len (l : List UInt8) : (nextL l).length ≤ l.length + 1 := by
  unfold nextL; rw [List.length_reverse]; have := incR_len l.reverse; rw [List.length_reverse] at this; exact this

/-- The octets' class by which the program asks. -/
theorem cls_dig (c : UInt8) : hasB [1] (clsI c.toNat) = isD c := by
  have h : ∀ n : Fin 256, hasB [1] (clsI (n.1 : Nat)) = (decide (48 ≤ n.1) && decide (n.1 ≤ 57)) := by decide +kernel
  exact h ⟨c.toNat, UInt8.toNat_lt c⟩
theorem all_dig (l : List UInt8) : allB l [1] = l.all isD := by
  unfold allB; congr 1; funext c; exact cls_dig c
end Go.Proofs.YtdefphacdcbljaaGreat

namespace Go.Proofs.YtdefphacdcbljaaGreat
open Go.RowKit
set_option maxRecDepth 100000

theorem bytes_cons (s : ByteArray) (h : 0 < s.size) : s.data.toList = s[0] :: s.data.toList.drop 1 := by
  have := drop_at s 0 h
  simpa using this

theorem one_beq (n : Nat) : ((n : Int) == 1) = decide (n = 1) := by rw [Bool.eq_iff_iff, beq_iff_eq, decide_eq_true_eq]; omega

set_option maxHeartbeats 400000 in
theorem may_any (s : ByteArray) (w : World) (hs : s.size ≤ maxLen) :
    Calls Tryz.prog 100 #[.string s] w fun e w' => e = .returned (.bool (mayL s.data.toList)) ∧ Bel w.heap.size w w' := by
  have HS := Lib.hid hs
  unfold maxLen at hs
  rcases Nat.eq_zero_or_pos s.size with h0 | h0
  · have hE : s.toList.isEmpty = true := by rw [empty_iff]; simpa using h0
    have hm : mayL s.data.toList = false := by
      have : s.data.toList = [] := List.eq_nil_of_length_eq_zero (by rw [← Lib.size_eq]; exact h0)
      rw [this]; rfl
    have HM := Lib.hid hm; clear hm h0
    go_enter Tryz.func100, Tryz.ntmps100
    go_wp2
    go_ret
    exact ⟨ret_bool HM.out.symm, Bel.refl _ _⟩
  · have hE : s.toList.isEmpty = false := by rw [empty_iff]; exact decide_eq_false (by omega)
    have hl := Lib.size_eq s
    have hc := bytes_cons s h0
    obtain ⟨b, hb⟩ : ∃ b, s.data.toList.all isD = b := ⟨_, rfl⟩
    have hm : mayL s.data.toList = (b && (decide ((s[0].toNat : Int) ≠ 48) || decide (s.size = 1))) := by
      unfold mayL
      rw [hb, hc]
      have e : (s[0] = 48) = ((s[0].toNat : Int) = 48) := by
        rw [← UInt8.toNat_inj]
        have : (48 : UInt8).toNat = 48 := rfl
        rw [this]; apply propext; omega
      have e2 : (s[0] :: s.data.toList.drop 1).length = s.size := by rw [hl, ← hc]
      rw [e2]
      simp [e]
    have HM := Lib.hid hm; have HB := Lib.hid hb; clear hm hb hc hl
    cases b
    · go_enter Tryz.func100, Tryz.ntmps100
      go_wp2_with (go_at_call 113; refine (all_any s HS.out _ [1] _ (Ints.lit1 _ _ _)).mono ?_; rintro e w1 ⟨rfl, hb1⟩; rw [all_dig, HB.out])
      go_ret
      exact ⟨ret_bool HM.out.symm, (bel_step ((Bel.refl _ _).alloc (Nat.le_refl _) _) hb1)⟩
    · by_cases h48 : (s[0].toNat : Int) = 48
      · have h4 : ((s[0].toNat : Int) != 48) = false := by simpa using h48
        by_cases h1 : s.size = 1
        all_goals
          go_enter Tryz.func100, Tryz.ntmps100
          go_wp2_with (go_at_call 113; refine (all_any s HS.out _ [1] _ (Ints.lit1 _ _ _)).mono ?_; rintro e w1 ⟨rfl, hb1⟩; rw [all_dig, HB.out])
          go_ret
          exact ⟨ret_bool (by rw [HM.out]; first | (simp [h1, h48]; done) | (rw [one_beq, h48]; simp)), (bel_step ((Bel.refl _ _).alloc (Nat.le_refl _) _) hb1)⟩
      · have h4 : ((s[0].toNat : Int) != 48) = true := by simpa using h48
        go_enter Tryz.func100, Tryz.ntmps100
        go_wp2_with (go_at_call 113; refine (all_any s HS.out _ [1] _ (Ints.lit1 _ _ _)).mono ?_; rintro e w1 ⟨rfl, hb1⟩; rw [all_dig, HB.out])
        go_ret
        exact ⟨ret_bool (by rw [HM.out]; simp [h48]), (bel_step ((Bel.refl _ _).alloc (Nat.le_refl _) _) hb1)⟩

set_option maxHeartbeats 400000 in
theorem compare_any (a b : Int) (w : World) :
    Calls Tryz.prog 95 #[.int .i64 a, .int .i64 b] w fun e w' => e = .returned (.int .i64 (if a < b then -1 else if b < a then 1 else 0)) ∧ w = w' := by
  by_cases h1 : a < b
  · go_enter Tryz.func95, Tryz.ntmps95
    go_wp2
    all_goals
      go_ret
      refine ⟨ret_int ?_, rfl⟩
      repeat (first | rfl | omega | split)
  · by_cases h2 : b < a
    · go_enter Tryz.func95, Tryz.ntmps95
      go_wp2
      all_goals
        go_ret
        refine ⟨ret_int ?_, rfl⟩
        repeat (first | rfl | omega | split)
    · go_enter Tryz.func95, Tryz.ntmps95
      go_wp2
      all_goals
        go_ret
        refine ⟨ret_int ?_, rfl⟩
        repeat (first | rfl | omega | split)

/-- What Cmp answers: the order, and the error. -/
def cmpE (a b : List UInt8) : Int × Int := if mayL a = true ∧ mayL b = true then (cmpN a b, 0) else (0, 1)

set_option maxHeartbeats 400000 in
theorem cmpnum_any (a b : ByteArray) (w : World) (ha : a.size ≤ maxLen) (hb : b.size ≤ maxLen) :
    Calls Tryz.prog 108 #[.string a, .string b] w fun e w' => e = .returned (.tuple #[.int .i64 (cmpE a.data.toList b.data.toList).1, .int .i64 (cmpE a.data.toList b.data.toList).2]) ∧ Bel w.heap.size w w' := by
  have HA := Lib.hid ha; have HB := Lib.hid hb
  unfold maxLen at ha hb
  have la := Lib.size_eq a
  have lb := Lib.size_eq b
  obtain ⟨x, hx⟩ : ∃ x, mayL a.data.toList = x := ⟨_, rfl⟩
  obtain ⟨y, hy⟩ : ∃ y, mayL b.data.toList = y := ⟨_, rfl⟩
  have hr : cmpE a.data.toList b.data.toList = if x = true ∧ y = true then (cmpN a.data.toList b.data.toList, 0) else (0, 1) := by unfold cmpE; rw [hx, hy]
  have HX := Lib.hid hx; have HY := Lib.hid hy; have HR := Lib.hid hr; clear hx hy hr
  have B0 := Bel.refl w.heap.size w
  cases x
  · go_enter Tryz.func108, Tryz.ntmps108
    go_wp2_with (go_at_call 100; refine (may_any _ _ (by first | exact HA.out | exact HB.out)).mono ?_; rintro e w1 ⟨rfl, hb1⟩; have B1 := bel_step (by assumption) hb1; clear hb1; first | rw [HX.out] | rw [HY.out])
    go_ret2
    exact ⟨by rw [HR.out]; rfl, by assumption⟩
  · cases y
    · go_enter Tryz.func108, Tryz.ntmps108
      go_wp2_with (go_at_call 100; refine (may_any _ _ (by first | exact HA.out | exact HB.out)).mono ?_; rintro e w1 ⟨rfl, hb1⟩; have B1 := bel_step (by assumption) hb1; clear hb1; first | rw [HX.out] | rw [HY.out])
      go_ret2
      exact ⟨by rw [HR.out]; rfl, by assumption⟩
    · have hc : cmpN a.data.toList b.data.toList = if (a.size : Int) < b.size then -1 else if (b.size : Int) < a.size then 1 else Lib.compareBytes a.data.toList b.data.toList := by
        unfold cmpN; rw [← la, ← lb]; simp only [Int.ofNat_lt]
      have HC := Lib.hid hc; clear hc
      by_cases hl : a.size = b.size
      · have hc2 : cmpN a.data.toList b.data.toList = Lib.compareBytes a.data.toList b.data.toList := by rw [HC.out, if_neg (by omega), if_neg (by omega)]
        have HC2 := Lib.hid hc2; clear hc2 HC la lb
        have hne : ((a.size : Int) != (b.size : Int)) = false := by rw [hl]; simp
        clear hl
        go_enter Tryz.func108, Tryz.ntmps108
        go_wp2_with (first
          | (go_at_call 100; refine (may_any _ _ (by first | exact HA.out | exact HB.out)).mono ?_; rintro e w1 ⟨rfl, hb1⟩; have B1 := bel_step (by assumption) hb1; clear hb1; first | rw [HX.out] | rw [HY.out])
          | (go_at_call 62; refine (cmp_any a b _).mono ?_; rintro e w3 ⟨rfl, rfl⟩; rw [← HC2.out]))
        go_ret2
        exact ⟨by rw [HR.out]; rfl, by assumption⟩
      · have hc2 : cmpN a.data.toList b.data.toList = if (a.size : Int) < b.size then -1 else if (b.size : Int) < a.size then 1 else 0 := by
          rw [HC.out]; rcases Nat.lt_or_gt_of_ne hl with h | h
          · rw [if_pos (by omega), if_pos (by omega)]
          · rw [if_neg (by omega), if_pos (by omega), if_neg (by omega), if_pos (by omega)]
        have HC2 := Lib.hid hc2; clear hc2 HC la lb
        have hne : ((a.size : Int) != (b.size : Int)) = true := by simp; omega
        clear hl
        go_enter Tryz.func108, Tryz.ntmps108
        go_wp2_with (first
          | (go_at_call 100; refine (may_any _ _ (by first | exact HA.out | exact HB.out)).mono ?_; rintro e w1 ⟨rfl, hb1⟩; have B1 := bel_step (by assumption) hb1; clear hb1; first | rw [HX.out] | rw [HY.out])
          | (go_at_call 95; refine (compare_any _ _ _).mono ?_; rintro e w3 ⟨rfl, rfl⟩; rw [← HC2.out]))
        go_ret2
        exact ⟨by rw [HR.out]; rfl, by assumption⟩
end Go.Proofs.YtdefphacdcbljaaGreat

namespace Go.Proofs.YtdefphacdcbljaaGreat
open Go.RowKit
set_option maxRecDepth 100000

/-- A block's cells hold these octets, and may be written. -/
structure BRow (w : World) (B : Nat) (R : List UInt8) : Prop where
  cell : ∀ j, j < R.length → w.cell? ⟨B, j, none⟩ = some (.int .u8 ((R.getD j 0).toNat : Int))
  free : ∀ j, j < R.length → w.frozen? ⟨B, j, none⟩ = false
  lt : B < w.heap.size

theorem BRow.set {w : World} {B : Nat} {R : List UInt8} (h : BRow w B R) (i : Nat) (hi : i < R.length) (c : UInt8) : BRow (w.setCell ⟨B, i, none⟩ (.int .u8 (c.toNat : Int))) B (R.set i c) := by
  refine ⟨fun j hj => ?_, fun j hj => ?_, ?_⟩
  · rw [List.length_set] at hj
    by_cases e : j = i
    · subst e
      rw [World.cell?_setCell_same _ _ _ (h.cell j hi)]
      simp [List.getD_eq_getElem?_getD, hi]
    · rw [World.cell?_setCell_other _ _ _ _ (by simp), h.cell j hj]
      have : (R.set i c).getD j 0 = R.getD j 0 := by
        simp only [List.getD_eq_getElem?_getD]
        rw [List.getElem?_set_ne (by omega)]
      rw [this]
  · rw [List.length_set] at hj
    rw [World.frozen?_setCell]
    exact h.free j hj
  · simpa using h.lt
theorem BRow.str {P : Program} {w : World} {B : Nat} {R : List UInt8} (h : BRow w B R) (src dst e : TypeId) (cap n : Nat) (hn : n = R.length) (hs : P.underlying src = some (.slice e)) (he : P.underlying e = some (.int .u8)) (hd : P.underlying dst = some .string) :
    Sem.run P (convert src dst (.slice (some ⟨B, 0, none⟩) n cap)) w = .ok (.string ⟨R.toArray⟩) w := by
  subst hn
  refine run_convert_bytes_back w src dst e ⟨B, 0, none⟩ cap R hs he hd fun j hj => ?_
  have hadd : (⟨B, 0, none⟩ : Addr).add j = ⟨B, j, none⟩ := by unfold Addr.add; split <;> simp_all
  rw [hadd, h.cell j hj]
  simp [List.getD_eq_getElem?_getD, hj]
theorem BRow.new (w : World) (s : ByteArray) (e : TypeId) (cap : Nat) (lo hi : Nat) (hlo : s.size ≤ lo) : BRow (w.alloc (.cells (bytesRow s cap) e (lo, hi))) w.heap.size s.data.toList := by
  have hl := Lib.size_eq s
  refine ⟨fun j hj => ?_, fun j hj => ?_, by simp⟩
  · rw [World.cell?_alloc_mark]
    have hj' : j < s.data.size := by simpa using hj
    rw [bytesRow_at s cap j hj']
    simp [List.getD_eq_getElem?_getD, Array.getElem?_eq_getElem hj']
  · rw [World.frozen?_alloc_mark]
    have : ¬ lo ≤ j := by omega
    simp [this]

/-- Where the walk over the last digits stands. -/
theorem inc_step (l : List UInt8) (k : Nat) (hk : k < l.length) (c : UInt8) (hc : l.getD (l.length - 1 - k) 0 = c) :
    (l.take (l.length - k)).reverse = c :: (l.take (l.length - (k + 1))).reverse := by
  have e : l.length - k = (l.length - (k + 1)) + 1 := by omega
  have h2 : l.length - (k + 1) < l.length := by omega
  rw [e, List.take_succ_eq_append_getElem h2, List.reverse_append]
  simp only [List.reverse_singleton, List.singleton_append]
  congr 1
  rw [← hc, List.getD_eq_getElem?_getD, show l.length - 1 - k = l.length - (k + 1) by omega, List.getElem?_eq_getElem h2]; rfl
def rowK (l : List UInt8) (k : Nat) : List UInt8 := l.take (l.length - k) ++ List.replicate k 48
theorem rowK_len (l : List UInt8) (k : Nat) (hk : k ≤ l.length) : (rowK l k).length = l.length := by
  simp [rowK]; omega
theorem rowK_at (l : List UInt8) (k : Nat) (hk : k < l.length) : (rowK l k).getD (l.length - 1 - k) 0 = l.getD (l.length - 1 - k) 0 := by
  unfold rowK
  simp only [List.getD_eq_getElem?_getD]
  rw [List.getElem?_append_left (by simp; omega), List.getElem?_take_of_lt (by omega)]
theorem rowK_set (l : List UInt8) (k : Nat) (hk : k < l.length) (c : UInt8) : (rowK l k).set (l.length - 1 - k) c = l.take (l.length - (k + 1)) ++ c :: List.replicate k 48 := by
  unfold rowK
  have h2 : l.length - (k + 1) < l.length := by omega
  rw [show l.length - k = (l.length - (k + 1)) + 1 by omega, List.take_succ_eq_append_getElem h2, show l.length - 1 - k = l.length - (k + 1) by omega]
  rw [List.append_assoc, List.set_append_right _ _ (by simp)]
  simp [Nat.min_eq_left (Nat.le_of_lt h2)]
theorem rowK_succ (l : List UInt8) (k : Nat) (hk : k < l.length) : (rowK l k).set (l.length - 1 - k) 48 = rowK l (k + 1) := by
  rw [rowK_set l k hk]; unfold rowK; rw [List.replicate_succ]
theorem inc_on {l : List UInt8} {k : Nat} (h : incR l.reverse = List.replicate k 48 ++ incR (l.take (l.length - k)).reverse) (hk : k < l.length) (hc : l.getD (l.length - 1 - k) 0 = 57) :
    incR l.reverse = List.replicate (k + 1) 48 ++ incR (l.take (l.length - (k + 1))).reverse := by
  rw [h, inc_step l k hk 57 hc, incR, if_pos rfl, List.replicate_succ', List.append_assoc]; rfl
theorem inc_stop {l : List UInt8} {k : Nat} (h : incR l.reverse = List.replicate k 48 ++ incR (l.take (l.length - k)).reverse) (hk : k < l.length) (c : UInt8) (hc : l.getD (l.length - 1 - k) 0 = c) (h9 : c ≠ 57) :
    (rowK l k).set (l.length - 1 - k) (c + 1) = nextL l := by
  rw [rowK_set l k hk]
  unfold nextL
  rw [h, inc_step l k hk c hc, incR, if_neg h9]
  simp
theorem inc_end {l : List UInt8} (h : incR l.reverse = List.replicate l.length 48 ++ incR (l.take (l.length - l.length)).reverse) :
    49 :: rowK l l.length = nextL l := by
  unfold nextL rowK
  rw [h]
  simp [incR]

/-- What Next answers. -/
def nextE (l : List UInt8) : ByteArray × Int := if mayL l = true then (⟨(nextL l).toArray⟩, 0) else (ByteArray.empty, 1)

theorem cmp_aw (w : World) : Calls Tryz.prog 108 #[.string ⟨#[57]⟩, .string ⟨#[49, 48]⟩] w fun e w' => e = .returned (.tuple #[.int .i64 (-1), .int .i64 0]) ∧ Bel w.heap.size w w' := by
  have h := cmpnum_any ⟨#[57]⟩ ⟨#[49, 48]⟩ w (by unfold maxLen; decide) (by unfold maxLen; decide)
  rwa [show cmpE (ByteArray.mk #[57]).data.toList (ByteArray.mk #[49, 48]).data.toList = (-1, 0) from by decide] at h
end Go.Proofs.YtdefphacdcbljaaGreat

namespace Go.Proofs.YtdefphacdcbljaaGreat
open Go.RowKit
set_option maxRecDepth 100000

theorem cmpE_ok {a b : List UInt8} (ha : mayL a = true) (hb : mayL b = true) : cmpE a b = (cmpN a b, 0) := by unfold cmpE; rw [if_pos ⟨ha, hb⟩]
theorem cmpE_l {a b : List UInt8} (ha : mayL a = false) : cmpE a b = (0, 1) := by unfold cmpE; rw [if_neg (by simp [ha])]
theorem cmpE_r {a b : List UInt8} (hb : mayL b = false) : cmpE a b = (0, 1) := by unfold cmpE; rw [if_neg (by simp [hb])]
theorem cmpE_cases (a b : List UInt8) : ((cmpE a b).2 = 0 ∧ mayL a = true ∧ mayL b = true ∧ (cmpE a b).1 = cmpN a b) ∨ (cmpE a b = (0, 1) ∧ ¬ (mayL a = true ∧ mayL b = true)) := by
  unfold cmpE
  split
  · rename_i h; exact .inl ⟨rfl, h.1, h.2, rfl⟩
  · rename_i h; exact .inr ⟨rfl, h⟩
theorem nextE_ok {a : List UInt8} (ha : mayL a = true) : nextE a = (mkB (nextL a), 0) := by unfold nextE; rw [if_pos ha]; rfl
theorem nextE_no {a : List UInt8} (ha : mayL a = false) : nextE a = (ByteArray.empty, 1) := by unfold nextE; rw [if_neg (by simp [ha])]

theorem cmpN_bd (a b : List UInt8) : -1 ≤ cmpN a b ∧ cmpN a b ≤ 1 := by
  unfold cmpN
  have := cb_vals a b
  split
  · omega
  · split <;> omega
theorem mayL_more {l : List UInt8} (h : mayL l = true) : mayL (l ++ [48]) = decide (l ≠ [48]) := by
  have ha := mayL_all h
  have hn := mayL_ne h
  unfold mayL
  rw [List.all_append, ha]
  have e1 : (l ++ [48]).length ≠ 1 := by
    have := List.length_pos_iff.2 hn
    simp; omega
  have e2 : (l ++ [48]).head? = l.head? := by cases l with
    | nil => exact absurd rfl hn
    | cons c t => rfl
  rw [e2]
  have e3 : ([48] : List UInt8).all isD = true := rfl
  rw [e3]
  simp only [Bool.and_true, e1, decide_false, Bool.or_false]
  have e4 : (l ++ [48]).isEmpty = false := by cases l <;> rfl
  rw [e4]
  simp only [Bool.not_false, Bool.true_and]
  rw [decide_eq_decide]
  cases l with
  | nil => exact absurd rfl hn
  | cons c t =>
    cases t with
    | nil => simp
    | cons d u => have := mayL_head h (by simp); simp at this ⊢; exact this
theorem mayL_ahead (l : List UInt8) : mayL (48 :: l) = decide (l = []) := by
  cases l with
  | nil => rfl
  | cons c t => simp [mayL]
theorem size_more (y : ByteArray) : (y ++ ⟨#[48]⟩).size = y.size + 1 := by rw [cat_size]; rfl
theorem ord_facts (A B C N : Nat) (p q r t : Int) (vp : p = -1 ∧ A < B ∨ p = 0 ∧ A = B ∨ p = 1 ∧ B < A) (vq : q = -1 ∧ B < C ∨ q = 0 ∧ B = C ∨ q = 1 ∧ C < B) (vr : r = -1 ∧ A < C ∨ r = 0 ∧ A = C ∨ r = 1 ∧ C < A)
    (vt : t = -1 ∧ N < B ∨ t = 0 ∧ N = B ∨ t = 1 ∧ B < N) (nv : N = A + 1) :
    (decide (p ≤ 0) = false ∧ decide (0 ≤ p) = true ∧ decide (0 ≤ q) = true ∧ decide (r < 0) = false ∧ decide (p < 0) = false) ∨ (decide (p ≤ 0) = false ∧ decide (0 ≤ p) = true ∧ decide (0 ≤ q) = false ∧ decide (p < 0) = false) ∨ (decide (p ≤ 0) = true ∧ decide (q ≤ 0) = false ∧ decide (0 ≤ p) = false ∧ decide (p < 0) = true ∧ decide (0 < t) = false) ∨ (decide (p ≤ 0) = true ∧ decide (q ≤ 0) = true ∧ decide (0 < r) = false ∧ decide (0 ≤ p) = false ∧ decide (p < 0) = true ∧ decide (0 < t) = false) ∨ (decide (p ≤ 0) = true ∧ decide (q ≤ 0) = false ∧ decide (0 ≤ p) = true ∧ decide (0 ≤ q) = true ∧ decide (r < 0) = false ∧ decide (p < 0) = false) ∨ (decide (p ≤ 0) = true ∧ decide (q ≤ 0) = true ∧ decide (0 < r) = false ∧ decide (0 ≤ p) = true ∧ decide (0 ≤ q) = true ∧ decide (r < 0) = false ∧ decide (p < 0) = false) ∨ (decide (p ≤ 0) = true ∧ decide (q ≤ 0) = true ∧ decide (0 < r) = false ∧ decide (0 ≤ p) = true ∧ decide (0 ≤ q) = false ∧ decide (p < 0) = false) := by
  rcases vp with ⟨rfl, h1⟩ | ⟨rfl, h1⟩ | ⟨rfl, h1⟩ <;> rcases vq with ⟨rfl, h2⟩ | ⟨rfl, h2⟩ | ⟨rfl, h2⟩ <;> rcases vr with ⟨rfl, h3⟩ | ⟨rfl, h3⟩ | ⟨rfl, h3⟩ <;>
    first
    | (exfalso; omega)
    | (rcases vt with ⟨rfl, h4⟩ | ⟨rfl, h4⟩ | ⟨rfl, h4⟩ <;> first | (exfalso; omega) | decide)
theorem may_nil : mayL [] = false := rfl
end Go.Proofs.YtdefphacdcbljaaGreat
