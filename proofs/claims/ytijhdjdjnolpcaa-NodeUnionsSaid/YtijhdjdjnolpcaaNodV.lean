/- Sets put together, taken apart, turned about: plain facts of the laws. -/
import Derived.Test.YtijhdjdjnolpcaaNodU
namespace Go.Proofs.Ytijhdjdjnolpcaa
open Go.RowKit
set_option maxRecDepth 100000

theorem setN_rev {l : List Nd} (h : ∀ x ∈ l, okN x = true) : setN l.reverse = setN l :=
  setN_is h (setN_rises _) fun x => by rw [setN_mem (fun y hy => h y (List.mem_reverse.1 hy)), List.mem_reverse]
theorem minus_with {s : List Nd} {n : Nd} (h : checkN s = true) (hn : okN n = true) (hm : n ∉ s) : minusN (withN s n) [n] = s :=
  rises_eq (checkN_rises (minusN_check (withN_check h hn))) (checkN_rises h) fun x => by
    rw [minusN_mem, withN_mem (checkN_ok h) hn]
    constructor
    · rintro ⟨h1 | h1, h2⟩
      · exact h1
      · exact absurd (by simp [h1]) h2
    · intro h1
      exact ⟨Or.inl h1, fun h2 => hm (by have := List.mem_singleton.1 h2; rw [← this]; exact h1)⟩
theorem hasN_with {s : List Nd} {n : Nd} (h : checkN s = true) (hn : okN n = true) : hasN (withN s n) n = true := hasN_iff.2 ((withN_mem (checkN_ok h) hn n).2 (Or.inr rfl))
theorem rev_step {l : List Nd} {t : Nat} (h : t < l.length) : (l.drop t).reverse = (l.drop (t + 1)).reverse ++ [l.getD t ([], [])] := by
  rw [List.drop_eq_getElem_cons h, List.reverse_cons, nd_getD h]
theorem both_ok {x z : List Nd} (hx : checkN x = true) (hz : checkN z = true) : ∀ n ∈ z ++ x, okN n = true := fun n hn => (List.mem_append.1 hn).elim (checkN_ok hz n) (checkN_ok hx n)
theorem union_len {x z : List Nd} (hx : checkN x = true) (hz : checkN z = true) : (setN (z ++ x)).length = (minusN x z).length + z.length := by
  have h1 : (setN (z ++ x)).Nodup := rises_nodup (setN_rises _)
  have h2 : (minusN x z ++ z).Nodup := by
    refine List.nodup_append.2 ⟨rises_nodup (checkN_rises (minusN_check hx)), rises_nodup (checkN_rises hz), fun a ha b hb e => ?_⟩
    subst e; exact ((minusN_mem a).1 ha).2 hb
  have h3 := (List.perm_ext_iff_of_nodup h1 h2).2 fun a => by
    rw [setN_mem (both_ok hx hz), List.mem_append, List.mem_append, minusN_mem]
    by_cases h : a ∈ z <;> simp [h]
  rw [h3.length_eq, List.length_append]
theorem fold_rev {x z : List Nd} (hx : checkN x = true) (hz : checkN z = true) : z.reverse.foldl withN x = setN (z ++ x) :=
  setN_is (both_ok hx hz) (foldl_with_rises (checkN_rises hx)) fun a => by
    rw [(foldl_with_mem (fun n hn => checkN_ok hz n (List.mem_reverse.1 hn)) (checkN_ok hx)).1 a, List.mem_reverse, List.mem_append]; exact or_comm
theorem fold_step {z : List Nd} {t : Nat} (h : t < z.length) (x : List Nd) : (z.drop t).reverse.foldl withN x = withN ((z.drop (t + 1)).reverse.foldl withN x) (z.getD t ([], [])) := by
  rw [rev_step h, List.foldl_append]; rfl
theorem fold_check {x z : List Nd} (hx : checkN x = true) (hz : checkN z = true) (t : Nat) : checkN ((z.drop t).reverse.foldl withN x) = true :=
  checkN_of (foldl_with_mem (fun n hn => checkN_ok hz n (List.mem_of_mem_drop (List.mem_reverse.1 hn))) (checkN_ok hx)).2 (foldl_with_rises (checkN_rises hx))
theorem fold_small {x z : List Nd} (hx : checkN x = true) (hz : checkN z = true) (sx : ∀ n ∈ x, smallN n) (sz : ∀ n ∈ z, smallN n) (t : Nat) : ∀ n ∈ (z.drop t).reverse.foldl withN x, smallN n := fun n hn => by
  rcases ((foldl_with_mem (fun n hn => checkN_ok hz n (List.mem_of_mem_drop (List.mem_reverse.1 hn))) (checkN_ok hx)).1 n).1 hn with h | h
  · exact sx n h
  · exact sz n (List.mem_of_mem_drop (List.mem_reverse.1 h))
theorem fold_len (x z : List Nd) (t : Nat) : ((z.drop t).reverse.foldl withN x).length ≤ x.length + z.length := by
  have := foldl_with_len (z.drop t).reverse x
  rw [List.length_reverse, List.length_drop] at this
  omega
theorem set_small {x : List Nd} (h : ∀ n ∈ x, okN n = true) (sx : ∀ n ∈ x, smallN n) : ∀ n ∈ setN x, smallN n := fun n hn => sx n ((setN_mem h n).1 hn)
theorem with_small {s : List Nd} {y : Nd} (h : checkN s = true) (hy : okN y = true) (sx : ∀ n ∈ s, smallN n) (sy : smallN y) : ∀ n ∈ withN s y, smallN n := fun n hn => by
  rcases (withN_mem (checkN_ok h) hy n).1 hn with k | rfl
  · exact sx n k
  · exact sy
theorem minus_out {x z : List Nd} {n : Nd} (h : n ∈ minusN x z) : hasN z n = false ∧ hasN (minusN z x) n = false ∧ hasN x n = true := by
  obtain ⟨h1, h2⟩ := (minusN_mem n).1 h
  exact ⟨hasN_not.2 h2, hasN_not.2 fun k => ((minusN_mem n).1 k).2 h1, hasN_iff.2 h1⟩
end Go.Proofs.Ytijhdjdjnolpcaa
