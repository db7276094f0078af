/- Plain facts of the laws on names. -/
import Derived.Test.YthmnoepdedjhjaaItnR
namespace Go.Proofs.Ythmnoepdedjhjaa
set_option maxRecDepth 100000

theorem idsM_getD : ∀ (t l : List Nd) (i : Nat), i < t.length → (idsM l t).getD i 0 = ixN (namesM l (t.take i)) (t.getD i ([], []))
  | [], _, _, h => absurd h (Nat.not_lt_zero _)
  | n :: t, l, 0, _ => rfl
  | n :: t, l, i + 1, h => by
    have := idsM_getD t (addM l n) i (by simpa using h)
    simp only [idsM, List.getD_cons_succ, List.take_succ_cons]
    exact this
theorem ids_z (l : List Nat) (i : Nat) : (l.map fun k : Nat => (k : Int)).getD i 0 = ((l.getD i 0 : Nat) : Int) := by
  rw [List.getD_eq_getElem?_getD, List.getElem?_map, List.getD_eq_getElem?_getD]
  cases l[i]? <;> rfl
theorem addM_len_ix (l : List Nd) (n : Nd) : (addM l n).length = if ixN l n = l.length then l.length + 1 else l.length := by
  cases h : hasN l n
  · rw [addM_no h, ixN_none (hasN_not.1 h), if_pos rfl]; simp
  · rw [addM_yes h, if_neg]
    have := (ixN_at (hasN_iff.1 h)).1
    omega
theorem nodup_len : ∀ {l m : List Nd}, l.Nodup → (∀ x ∈ l, x ∈ m) → l.length ≤ m.length
  | [], _, _, _ => Nat.zero_le _
  | a :: l, m, hl, h => by
    obtain ⟨h1, h2⟩ := List.nodup_cons.1 hl
    have ha := h a List.mem_cons_self
    have := nodup_len (m := m.erase a) h2 fun x hx => by
      have hne : x ≠ a := fun e => h1 (e ▸ hx)
      exact (List.mem_erase_of_ne hne).2 (h x (List.mem_cons_of_mem _ hx))
    rw [List.length_erase_of_mem ha] at this
    have hp := List.length_pos_of_mem ha
    rw [List.length_cons]; omega
theorem names_set_len {l : List Nd} (h : ∀ n ∈ l, okN n = true) : (setN l).length = (namesM [] l).length := by
  have hn : (namesM [] l).Nodup := (okM_iff.1 (namesM_ok l (l := []) rfl h)).2
  refine Nat.le_antisymm (nodup_len (rises_nodup (setN_rises l)) fun x hx => ?_) (nodup_len hn fun x hx => ?_)
  · exact (namesM_mem l [] x).2 (.inr ((setN_mem h x).1 hx))
  · rcases (namesM_mem l [] x).1 hx with k | k
    · cases k
    · exact (setN_mem h x).2 k
/-- What names become by whatever is told behind: they go on, and what was told is told again. -/
structure Stays (x y Y : List Nd) : Prop where
  ok : okM Y = true
  names : namesM Y y = Y
  ids : idsM Y y = idsM x y
  len : x.length ≤ Y.length
  at' : ∀ i, i < y.length → (idsM x y).getD i 0 = ixN Y (y.getD i ([], [])) ∧ y.getD i ([], []) ∈ Y
theorem map_getD (f : Nd → Nat) (y : List Nd) {i : Nat} (h : i < y.length) : (y.map f).getD i 0 = f (y.getD i ([], [])) := by
  rw [List.getD_eq_getElem?_getD, List.getElem?_map, List.getElem?_eq_getElem h, nd_getD h]; rfl
theorem stays_pre {x y r : List Nd} (h : okM (namesM x y ++ r) = true) : Stays x y (namesM x y ++ r) := by
  have hm : ∀ n ∈ y, n ∈ namesM x y := fun n hn => (namesM_mem y x n).2 (.inr hn)
  have hm2 : ∀ n ∈ y, n ∈ namesM x y ++ r := fun n hn => List.mem_append_left _ (hm n hn)
  have hall := namesM_all hm2
  have hix : ∀ n ∈ y, ixN (namesM x y ++ r) n = ixN (namesM x y) n := fun n hn => ixN_append r (hm n hn)
  refine ⟨h, hall, ?_, ?_, fun i hi => ⟨?_, hm2 _ (nd_mem hi)⟩⟩
  · rw [idsM_map, idsM_map, hall]
    exact List.map_congr_left hix
  · have := (namesM_len y x).1
    rw [List.length_append]; omega
  · rw [idsM_map, map_getD _ _ hi, hix _ (nd_mem hi)]
theorem stays_same {x y : List Nd} (hx : okM x = true) (hy : ∀ n ∈ y, okN n = true) : Stays x y (namesM x y) := by
  have := stays_pre (x := x) (y := y) (r := []) (by rw [List.append_nil]; exact namesM_ok y hx hy)
  rwa [List.append_nil] at this
theorem stays_more {x y z : List Nd} (hx : okM x = true) (hy : ∀ n ∈ y, okN n = true) (hz : ∀ n ∈ z, okN n = true) : Stays x y (namesM (namesM x y) z) := by
  obtain ⟨r, hr⟩ := namesM_pre z (namesM x y)
  have h := namesM_ok z (namesM_ok y hx hy) hz
  rw [hr] at h ⊢
  exact stays_pre h
theorem namesM_small {x y : List Nd} (hx : ∀ n ∈ x, smallN n) (hy : ∀ n ∈ y, smallN n) : ∀ n ∈ namesM x y, smallN n := fun n hn => ((namesM_mem y x n).1 hn).elim (hx n) (hy n)
theorem at_one {Y : List Nd} {n : Nd} (h : okM Y = true) (hn : n ∈ Y) : atM Y [((ixN Y n : Nat) : Int)] = ([n], 0) := by
  have h1 := (ixN_at hn).1
  rw [atM_yes h (by simp [inM_nat, h1])]
  unfold pickM
  simp only [List.map_cons, List.map_nil, Int.toNat_natCast, getD_ixN hn]
theorem find_at {Y : List Nd} (h : okM Y = true) {i : Nat} (hi : i < Y.length) : findM Y (Y.getD i ([], [])) = (i, 0) := by
  obtain ⟨h1, h2⟩ := okM_iff.1 h
  rw [findM_yes h (h1 _ (nd_mem hi)) (hasN_iff.2 (nd_mem hi)), ixN_getD h2 hi]
end Go.Proofs.Ythmnoepdedjhjaa
