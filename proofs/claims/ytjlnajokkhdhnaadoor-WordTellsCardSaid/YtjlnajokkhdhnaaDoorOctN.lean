/- Parts, put together, are the text: plain facts. -/
import Derived.Test.YtjlnajokkhdhnaaDoorOctH
namespace Go.Proofs.YtjlnajokkhdhnaaDoor
open Go.RowKit
set_option maxRecDepth 100000

/-- Parts, put together with an octet between them. -/
def jn (x : UInt8) : List (List UInt8) → List UInt8
  | [] => []
  | p :: ps => p ++ ps.flatMap (fun q => x :: q)
theorem jn_split (c : Int) (x : UInt8) (hx : (x.toNat : Int) = c) : ∀ l : List UInt8, jn x (splitL c l) = l
  | [] => by simp [splitL, jn]
  | y :: l => by
    have ih := jn_split c x hx l
    have hn := splitL_ne c l
    rw [splitL]
    split
    · rename_i h
      have e : y = x := by rw [← UInt8.toNat_inj]; omega
      subst e
      cases hs : splitL c l with
      | nil => exact absurd hs hn
      | cons u t => rw [hs] at ih; simp only [jn, List.nil_append, List.flatMap_cons] at *; rw [List.cons_append, ih]
    · cases hs : splitL c l with
      | nil => exact absurd hs hn
      | cons u t => rw [hs] at ih; simp only [jn, consHead] at *; rw [List.append_assoc, ih]; rfl
theorem jn_zero (x : UInt8) (ls : List (List UInt8)) (h : 0 < ls.length) : jn x (ls.take 1) = ls.getD 0 [] := by
  cases ls with
  | nil => simp at h
  | cons p ps => simp [jn]
theorem jn_succ (x : UInt8) (ls : List (List UInt8)) (k : Nat) (hk : 0 < k) (h : k < ls.length) : jn x (ls.take (k + 1)) = jn x (ls.take k) ++ x :: ls.getD k [] := by
  cases ls with
  | nil => simp at h
  | cons p ps =>
    obtain ⟨m, rfl⟩ : ∃ m, k = m + 1 := ⟨k - 1, by omega⟩
    have hm : m < ps.length := by simpa using h
    have e : ps.take (m + 1) = ps.take m ++ [ps[m]] := List.take_succ_eq_append_getElem hm
    have e2 : (p :: ps).getD (m + 1) [] = ps[m] := by simp [List.getD_eq_getElem?_getD, List.getElem?_eq_getElem hm]
    simp only [List.take_succ_cons, jn]
    rw [e, e2, List.flatMap_append, List.append_assoc]
    congr 2
    simp only [List.flatMap_cons, List.flatMap_nil, List.append_nil]
theorem jn_le (x : UInt8) (ls : List (List UInt8)) (k : Nat) : (jn x (ls.take k)).length ≤ (jn x ls).length := by
  cases ls with
  | nil => simp
  | cons p ps =>
    cases k with
    | zero => simp [jn]
    | succ k =>
      simp only [List.take_succ_cons, jn, List.length_append]
      have : ((ps.take k).flatMap (fun q => x :: q)).length ≤ (ps.flatMap (fun q => x :: q)).length := by
        have e : ps.flatMap (fun q => x :: q) = (ps.take k).flatMap (fun q => x :: q) ++ (ps.drop k).flatMap (fun q => x :: q) := by
          rw [← List.flatMap_append, List.take_append_drop]
        rw [e, List.length_append]; omega
      omega
theorem split_none (c : Int) : ∀ l : List UInt8, ∀ p ∈ splitL c l, ∀ y ∈ p, ¬ (y.toNat : Int) = c
  | [] => by simp [splitL]
  | z :: l => by
    have ih := split_none c l
    rw [splitL]
    split
    · intro p hp y hy
      rcases List.mem_cons.1 hp with rfl | hp
      · cases hy
      · exact ih p hp y hy
    · rename_i hz
      cases hs : splitL c l with
      | nil => exact absurd hs (splitL_ne c l)
      | cons u t =>
        rw [hs] at ih
        intro p hp y hy
        rcases List.mem_cons.1 hp with rfl | hp
        · rcases List.mem_cons.1 hy with rfl | hy
          · exact hz
          · exact ih u List.mem_cons_self y hy
        · exact ih p (List.mem_cons_of_mem _ hp) y hy
/-- How often an octet is in a text. -/
def cntL (c : Int) : List UInt8 → Nat
  | [] => 0
  | y :: l => (if (y.toNat : Int) = c then 1 else 0) + cntL c l
theorem cntL_le (c : Int) (l : List UInt8) : cntL c l ≤ l.length := by
  induction l with
  | nil => simp [cntL]
  | cons y l ih => rw [cntL, List.length_cons]; split <;> omega
theorem split_cnt (c : Int) : ∀ l : List UInt8, (splitL c l).length = cntL c l + 1
  | [] => by simp [splitL, cntL]
  | z :: l => by
    have ih := split_cnt c l
    rw [splitL, cntL]
    split
    · rw [List.length_cons, ih]; omega
    · cases hs : splitL c l with
      | nil => exact absurd hs (splitL_ne c l)
      | cons u t => rw [hs] at ih; simpa [consHead] using ih
end Go.Proofs.YtjlnajokkhdhnaaDoor
