/- Use that comes and goes: plain facts; boxes of use as a loop keeps them. -/
import Derived.Test.YtglhjdbnpdoinaaGreatRooN
namespace Go.Proofs.YtglhjdbnpdoinaaGreat
open Go.RowKit
set_option linter.unusedVariables false
set_option maxRecDepth 100000

theorem step_more {m e k e' : Int} {X now X' : List Nd} (h1 : ∀ n ∈ X, okN n = true) (h2 : ∀ n ∈ now, okN n = true) (h3 : ∀ n ∈ X', okN n = true) (b1 : X.length ≤ 5000) (b2 : now.length ≤ 5000) (m1 : 0 ≤ m ∧ m ≤ 1000000) (e1 : 0 ≤ e ∧ e ≤ 1000000) (k1 : 0 ≤ k ∧ k ≤ 1000) (he : e' = e + ((now.length : Int) - k)) (he2 : 0 ≤ e') (hc : ∀ n, cntN X' n = cntN X n + cntN now n) :
    chgE ⟨m, e, difL [] X⟩ k [] now = (⟨m + k, e', difL [] X'⟩, 0) := by
  have hn : ∀ n ∈ X ++ now, okN n = true := fun n hn => (List.mem_append.1 hn).elim (h1 n) (h2 n)
  have h := chg_more (m := m) (e := e) (k := k) h1 h2 (by omega) (by omega) (inU_iff.2 (by omega)) (inU_iff.2 (by omega)) (inU_iff.2 (by omega)) (inU_iff.2 (by omega))
  rw [usL_eq (k := X') hn h3 (fun n => by rw [hc, cntN_app]), ← he] at h
  exact h
theorem step_less {m e k e' : Int} {X old X' : List Nd} (h1 : ∀ n ∈ X, okN n = true) (h2 : ∀ n ∈ old, okN n = true) (h3 : ∀ n ∈ X', okN n = true) (b1 : X'.length ≤ 5000) (b2 : old.length ≤ 5000) (m1 : 0 ≤ m ∧ m ≤ 1000000) (e1 : 0 ≤ e ∧ e ≤ 1000000) (k1 : -1000 ≤ k ∧ k ≤ 0) (hm : 0 ≤ m + k) (he : e' = e + (0 - (old.length : Int) - k)) (he2 : 0 ≤ e' ∧ e' ≤ 1000000) (hc : ∀ n, cntN X n = cntN old n + cntN X' n) :
    chgE ⟨m, e, difL [] X⟩ k old [] = (⟨m + k, e', difL [] X'⟩, 0) := by
  have hn : ∀ n ∈ old ++ X', okN n = true := fun n hn => (List.mem_append.1 hn).elim (h2 n) (h3 n)
  have h := chg_less (m := m) (e := e) (k := k) h3 h2 (by omega) (by omega) (inU_iff.2 (by omega)) (inU_iff.2 (by omega)) (inU_iff.2 (by omega)) (inU_iff.2 (by omega))
  rw [← usL_eq (l := X) (k := old ++ X') h1 hn (fun n => by rw [hc, cntN_app]), ← he] at h
  exact h
theorem spokeL_drop : ∀ (ks : List Nd) (ls : List (List Nd)) (k : Nat), k < ks.length → k < ls.length → spokeL (ks.drop k) (ls.drop k) = (ks.getD k ([], []) :: ls.getD k []) ++ spokeL (ks.drop (k + 1)) (ls.drop (k + 1))
  | [], _, k, h, _ => absurd h (Nat.not_lt_zero k)
  | _ :: _, [], k, _, h => absurd h (Nat.not_lt_zero k)
  | x :: ks, y :: ls, 0, _, _ => by simp [spokeL]
  | x :: ks, y :: ls, k + 1, h, h' => by
    have ih := spokeL_drop ks ls k (by simpa using h) (by simpa using h')
    rw [List.drop_succ_cons, List.drop_succ_cons, ih]
    simp
theorem drop_memU {α : Type} {l : List α} {k : Nat} {x : α} (h : x ∈ l.drop k) : x ∈ l := List.mem_of_mem_drop h
/-- A box that holds use, in a row of its own. -/
def UB (w : World) (g base : Nat) (m e : Int) (X : List Nd) : Prop := ∃ a n c, w.heap[g]? = some (.cells #[.int .i64 m, .int .i64 e, .slice a n c] 24 (0, 0)) ∧ w.ownsRow base 56 3 (.slice a n c) n (dfC (difL [] X))
theorem UB.below {w w' : World} {g base : Nat} {m e : Int} {X : List Nd} (h : UB w g base m e X) (hb : Below w.heap.size w w') : UB w' g base m e X := by
  obtain ⟨a, n, c, h1, h2⟩ := h
  exact ⟨a, n, c, row_keepB h1 hb, ownsRow_belowB h2 hb⟩
theorem UB.cast {w : World} {g base : Nat} {m e m' e' : Int} {X X' : List Nd} (h : UB w g base m e X) (h1 : m = m') (h2 : e = e') (h3 : difL [] X = difL [] X') : UB w g base m' e' X' := by
  subst h1 h2
  obtain ⟨a, n, c, h4, h5⟩ := h
  rw [h3] at h5
  exact ⟨a, n, c, h4, h5⟩
theorem lenU_row {w : World} {base : Nat} {v : Value} {n : Nat} {D : List De} (h : w.ownsRow base 56 3 v n (dfC D)) : D.length = n := by
  have := h.1
  rw [dfC_len] at this
  omega
theorem dfs_rowU {w : World} {base : Nat} {v : Value} {n : Nat} {D : List De} (h : w.ownsRow base 56 3 v n (dfC D)) : Dfs w v D := Dfs.owned (es := D) (by rw [lenU_row h]; exact h)
/-- What is asked of a list of nodes that are spoken of. -/
theorem dif_smU {X : List Nd} (h : ∀ n ∈ X, okN n = true ∧ smallN n) (hl : X.length ≤ 5000) : ∀ e ∈ difL [] X, smallD e := dif_smallU (old := []) (by simpa using fun a b hx => (h (a, b) hx).1) (fun _ hn => by cases hn) (fun n hn => (h n hn).2) (by simp) (by omega)
theorem dif_lenU {X : List Nd} (hl : X.length ≤ 5000) : (difL [] X).length ≤ 100000 := by have := dif_le X; omega
end Go.Proofs.YtglhjdbnpdoinaaGreat
