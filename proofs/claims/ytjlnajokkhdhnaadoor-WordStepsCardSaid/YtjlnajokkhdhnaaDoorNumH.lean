/- Aids of the laws of number: plain facts. -/
import Derived.Test.YtjlnajokkhdhnaaDoorNumC
import Derived.Test.YtjlnajokkhdhnaaDoorOctP
namespace Go.Proofs.YtjlnajokkhdhnaaDoor
open Go.RowKit
set_option maxRecDepth 100000

theorem cmpE_ok {a b : List UInt8} (ha : mayL a = true) (hb : mayL b = true) : cmpE a b = (cmpN a b, 0) := by unfold cmpE; rw [if_pos ⟨ha, hb⟩]
theorem cmpE_l {a b : List UInt8} (ha : mayL a = false) : cmpE a b = (0, 1) := by unfold cmpE; rw [if_neg (by simp [ha])]
theorem cmpE_r {a b : List UInt8} (hb : mayL b = false) : cmpE a b = (0, 1) := by unfold cmpE; rw [if_neg (by simp [hb])]
theorem cmpE_cases (a b : List UInt8) : ((cmpE a b).2 = 0 ∧ mayL a = true ∧ mayL b = true ∧ (cmpE a b).1 = cmpN a b) ∨ (cmpE a b = (0, 1) ∧ ¬ (mayL a = true ∧ mayL b = true)) := by
  unfold cmpE
  split
  · rename_i h; exact .inl ⟨rfl, h.1, h.2, rfl⟩
  · rename_i h; exact .inr ⟨rfl, h⟩
theorem nextE_ok {a : List UInt8} (ha : mayL a = true) : nextE a = (mkB (nextL a), 0) := by unfold nextE; rw [if_pos ha]; rfl
theorem nextE_no {a : List UInt8} (ha : mayL a = false) : nextE a = (ByteArray.empty, 1) := by unfold nextE; rw [if_neg (by simp [ha])]

theorem cmpN_bd (a b : List UInt8) : -1 ≤ cmpN a b ∧ cmpN a b ≤ 1 := by
  unfold cmpN
  have := cb_vals a b
  split
  · omega
  · split <;> omega
theorem mayL_more {l : List UInt8} (h : mayL l = true) : mayL (l ++ [48]) = decide (l ≠ [48]) := by
  have ha := mayL_all h
  have hn := mayL_ne h
  unfold mayL
  rw [List.all_append, ha]
  have e1 : (l ++ [48]).length ≠ 1 := by
    have := List.length_pos_iff.2 hn
    simp; omega
  have e2 : (l ++ [48]).head? = l.head? := by cases l with
    | nil => exact absurd rfl hn
    | cons c t => rfl
  rw [e2]
  have e3 : ([48] : List UInt8).all isD = true := rfl
  rw [e3]
  simp only [Bool.and_true, e1, decide_false, Bool.or_false]
  have e4 : (l ++ [48]).isEmpty = false := by cases l <;> rfl
  rw [e4]
  simp only [Bool.not_false, Bool.true_and]
  rw [decide_eq_decide]
  cases l with
  | nil => exact absurd rfl hn
  | cons c t =>
    cases t with
    | nil => simp
    | cons d u => have := mayL_head h (by simp); simp at this ⊢; exact this
theorem mayL_ahead (l : List UInt8) : mayL (48 :: l) = decide (l = []) := by
  cases l with
  | nil => rfl
  | cons c t => simp [mayL]
theorem size_more (y : ByteArray) : (y ++ ⟨#[48]⟩).size = y.size + 1 := by rw [cat_size]; rfl
theorem ord_facts (A B C N : Nat) (p q r t : Int) (vp : p = -1 ∧ A < B ∨ p = 0 ∧ A = B ∨ p = 1 ∧ B < A) (vq : q = -1 ∧ B < C ∨ q = 0 ∧ B = C ∨ q = 1 ∧ C < B) (vr : r = -1 ∧ A < C ∨ r = 0 ∧ A = C ∨ r = 1 ∧ C < A)
    (vt : t = -1 ∧ N < B ∨ t = 0 ∧ N = B ∨ t = 1 ∧ B < N) (nv : N = A + 1) :
    (decide (p ≤ 0) = false ∧ decide (0 ≤ p) = true ∧ decide (0 ≤ q) = true ∧ decide (r < 0) = false ∧ decide (p < 0) = false) ∨ (decide (p ≤ 0) = false ∧ decide (0 ≤ p) = true ∧ decide (0 ≤ q) = false ∧ decide (p < 0) = false) ∨ (decide (p ≤ 0) = true ∧ decide (q ≤ 0) = false ∧ decide (0 ≤ p) = false ∧ decide (p < 0) = true ∧ decide (0 < t) = false) ∨ (decide (p ≤ 0) = true ∧ decide (q ≤ 0) = true ∧ decide (0 < r) = false ∧ decide (0 ≤ p) = false ∧ decide (p < 0) = true ∧ decide (0 < t) = false) ∨ (decide (p ≤ 0) = true ∧ decide (q ≤ 0) = false ∧ decide (0 ≤ p) = true ∧ decide (0 ≤ q) = true ∧ decide (r < 0) = false ∧ decide (p < 0) = false) ∨ (decide (p ≤ 0) = true ∧ decide (q ≤ 0) = true ∧ decide (0 < r) = false ∧ decide (0 ≤ p) = true ∧ decide (0 ≤ q) = true ∧ decide (r < 0) = false ∧ decide (p < 0) = false) ∨ (decide (p ≤ 0) = true ∧ decide (q ≤ 0) = true ∧ decide (0 < r) = false ∧ decide (0 ≤ p) = true ∧ decide (0 ≤ q) = false ∧ decide (p < 0) = false) := by
  rcases vp with ⟨rfl, h1⟩ | ⟨rfl, h1⟩ | ⟨rfl, h1⟩ <;> rcases vq with ⟨rfl, h2⟩ | ⟨rfl, h2⟩ | ⟨rfl, h2⟩ <;> rcases vr with ⟨rfl, h3⟩ | ⟨rfl, h3⟩ | ⟨rfl, h3⟩ <;>
    first
    | (exfalso; omega)
    | (rcases vt with ⟨rfl, h4⟩ | ⟨rfl, h4⟩ | ⟨rfl, h4⟩ <;> first | (exfalso; omega) | decide)
theorem one_byte_drew (c : Int) (W : World) : Sem.run Tryd.prog (convert 33 9 (.slice (some ⟨W.heap.size, 0, none⟩) 1 1)) (W.alloc (.cells #[.int .u8 c] 5)).drew = .ok (.string (byteS c)) (W.alloc (.cells #[.int .u8 c] 5)).drew := by
  have h := run_convert_bytes_arg (P := Tryd.prog) (W.alloc (.cells #[.int .u8 c] 5)).drew 33 5 Tryd.underlying33 Tryd.underlying5 W.heap.size 0 1 1 [c] rfl ?_ 9 Tryd.underlying9
  · exact h
  · intro i hi
    have hh : (W.alloc (.cells #[.int .u8 c] 5)).drew.heap[W.heap.size]? = some (.cells #[.int .u8 c] 5) := heap_alloc_new _ _
    have : i = 0 := by omega
    subst this
    simp only [World.cell?, hh]
    rfl
theorem may_nil : mayL [] = false := rfl
end Go.Proofs.YtjlnajokkhdhnaaDoor
