/- Modules' versions: which may be, their order, sets of them: plain facts. -/
import Derived.Test.YtlbibgofhhdgoaaGreatPatM
import Derived.Test.YtlbibgofhhdgoaaGreatVerM
namespace Go.Proofs.YtlbibgofhhdgoaaGreat
set_option maxRecDepth 100000

abbrev Nd := List UInt8 × List UInt8
def okN (n : Nd) : Bool := pathB n.1 && okV n.2
def ordN (a b : Nd) : Int := if a.1 = b.1 then cmpT a.2 b.2 else Lib.compareBytes a.1 b.1

theorem okN_parts {n : Nd} (h : okN n = true) : pathB n.1 = true ∧ okV n.2 = true := by
  unfold okN at h; simpa using h
theorem okN_of {n : Nd} (h : pathB n.1 = true) (k : okV n.2 = true) : okN n = true := by
  unfold okN; rw [h, k]; rfl
theorem ordN_vals (a b : Nd) : ordN a b = -1 ∨ ordN a b = 0 ∨ ordN a b = 1 := by
  unfold ordN; split
  · exact ord_V.vals _ _
  · exact cb_vals _ _
theorem ordN_swap (a b : Nd) : ordN b a = - ordN a b := by
  unfold ordN
  by_cases h : a.1 = b.1
  · rw [if_pos h, if_pos h.symm]; exact cmpT_swap _ _
  · rw [if_neg h, if_neg (fun e => h e.symm)]; exact cb_swap _ _
theorem ordN_self (a : Nd) : ordN a a = 0 := by unfold ordN; rw [if_pos rfl]; exact cmpT_self _
theorem ordN_eq {a b : Nd} (ha : okN a = true) (hb : okN b = true) (h : ordN a b = 0) : a = b := by
  unfold ordN at h
  obtain ⟨a1, a2⟩ := a
  obtain ⟨b1, b2⟩ := b
  by_cases e : a1 = b1
  · subst e
    rw [if_pos rfl] at h
    have := ver_inj (okN_parts ha).2 (okN_parts hb).2 ((ord_V.zero _ _).1 h)
    simp only at this
    rw [this]
  · rw [if_neg e] at h
    exact absurd (cb_zero _ _ h) e
theorem ordN_trans (a b c : Nd) (h1 : ordN a b ≤ 0) (h2 : ordN b c ≤ 0) : ordN a c ≤ 0 ∧ (ordN a b < 0 ∨ ordN b c < 0 → ordN a c < 0) := by
  unfold ordN at *
  by_cases e : a.1 = b.1
  · by_cases f : b.1 = c.1
    · rw [if_pos e] at *
      rw [if_pos f] at *
      rw [if_pos (e.trans f)]
      exact ord_V.trans _ _ _ h1 h2
    · rw [if_pos e] at *
      rw [if_neg f] at *
      have f' : ¬ a.1 = c.1 := fun k => f (e ▸ k)
      rw [if_neg f', e]
      have hlt : Lib.compareBytes b.1 c.1 ≠ 0 := fun k => f (cb_zero _ _ k)
      have := cb_vals b.1 c.1
      exact ⟨h2, fun _ => by omega⟩
  · by_cases f : b.1 = c.1
    · rw [if_neg e] at *
      rw [if_pos f] at *
      have f' : ¬ a.1 = c.1 := fun k => e (k.trans f.symm)
      rw [if_neg f', ← f]
      have hlt : Lib.compareBytes a.1 b.1 ≠ 0 := fun k => e (cb_zero _ _ k)
      have := cb_vals a.1 b.1
      exact ⟨h1, fun _ => by omega⟩
    · rw [if_neg e] at *
      rw [if_neg f] at *
      have h3 := cb_trans _ _ _ h1 h2
      have hlt : Lib.compareBytes a.1 b.1 ≠ 0 := fun k => e (cb_zero _ _ k)
      have := cb_vals a.1 b.1
      have h4 := h3.2 (.inl (by omega))
      have f' : ¬ a.1 = c.1 := fun k => by rw [k, cb_self] at h4; omega
      rw [if_neg f']
      exact ⟨h3.1, fun _ => h4⟩
/-- a comes ahead of b. -/
def ltN (a b : Nd) : Bool := decide (ordN a b < 0)
theorem ltN_iff {a b : Nd} : ltN a b = true ↔ ordN a b < 0 := by unfold ltN; exact decide_eq_true_iff
theorem ltN_no {a b : Nd} : ltN a b = false ↔ 0 ≤ ordN a b := by unfold ltN; rw [decide_eq_false_iff_not]; omega
theorem ltN_trans {a b c : Nd} (h : ltN a b = true) (k : ltN b c = true) : ltN a c = true := by
  rw [ltN_iff] at *
  exact (ordN_trans a b c (by omega) (by omega)).2 (.inl h)
theorem ltN_irrefl (a : Nd) : ltN a a = false := by rw [ltN_no, ordN_self]; exact Int.le_refl 0
theorem ltN_asym {a b : Nd} (h : ltN a b = true) : ltN b a = false := by
  rw [ltN_iff] at h; rw [ltN_no, ordN_swap]; omega
theorem ltN_tri {a b : Nd} (ha : okN a = true) (hb : okN b = true) : ltN a b = true ∨ a = b ∨ ltN b a = true := by
  rcases ordN_vals a b with h | h | h
  · exact .inl (ltN_iff.2 (by omega))
  · exact .inr (.inl (ordN_eq ha hb h))
  · exact .inr (.inr (ltN_iff.2 (by rw [ordN_swap]; omega)))

/-- In order, none twice. -/
abbrev Rises (l : List Nd) : Prop := l.Pairwise fun a b => ltN a b = true
theorem rises_eq : ∀ {l m : List Nd}, Rises l → Rises m → (∀ n, n ∈ l ↔ n ∈ m) → l = m
  | [], m, _, _, h => by
    cases m with
    | nil => rfl
    | cons y r => exact absurd ((h y).2 List.mem_cons_self) (by simp)
  | x :: l, [], _, _, h => absurd ((h x).1 List.mem_cons_self) (by simp)
  | x :: l, y :: m, hl, hm, h => by
    obtain ⟨h1, h2⟩ := List.pairwise_cons.1 hl
    obtain ⟨k1, k2⟩ := List.pairwise_cons.1 hm
    have e : x = y := by
      rcases List.mem_cons.1 ((h x).1 List.mem_cons_self) with e | hx
      · exact e
      · rcases List.mem_cons.1 ((h y).2 List.mem_cons_self) with e | hy
        · exact e.symm
        · have a := k1 x hx
          have b := h1 y hy
          rw [ltN_asym a] at b; cases b
    subst e
    have nx : x ∉ l := fun hx => by have := h1 x hx; rw [ltN_irrefl] at this; cases this
    have mx : x ∉ m := fun hx => by have := k1 x hx; rw [ltN_irrefl] at this; cases this
    rw [rises_eq h2 k2 (fun n => ?_)]
    constructor
    · intro hn
      rcases List.mem_cons.1 ((h n).1 (List.mem_cons_of_mem _ hn)) with e | hm'
      · subst e; exact absurd hn nx
      · exact hm'
    · intro hn
      rcases List.mem_cons.1 ((h n).2 (List.mem_cons_of_mem _ hn)) with e | hm'
      · subst e; exact absurd hn mx
      · exact hm'
/-- What is asked of place j of a set. -/
def stepN (l : List Nd) (j : Nat) : Bool := okN (l.getD j ([], [])) && (decide (j = 0) || ltN (l.getD (j - 1) ([], [])) (l.getD j ([], [])))
def checkN (l : List Nd) : Bool := (List.range l.length).all (stepN l)
theorem checkN_yes {l : List Nd} (h : ∀ j, j < l.length → stepN l j = true) : checkN l = true := List.all_eq_true.2 fun j hj => h j (List.mem_range.1 hj)
theorem checkN_no {l : List Nd} {j : Nat} (hj : j < l.length) (h : stepN l j = false) : checkN l = false := by
  cases hc : checkN l
  · rfl
  · rw [List.all_eq_true.1 hc j (List.mem_range.2 hj)] at h; cases h
theorem nd_getD {l : List Nd} {j : Nat} (h : j < l.length) : l.getD j ([], []) = l[j] := by
  rw [List.getD_eq_getElem?_getD, List.getElem?_eq_getElem h]; rfl
theorem nd_mem {l : List Nd} {j : Nat} (h : j < l.length) : l.getD j ([], []) ∈ l := by rw [nd_getD h]; exact List.getElem_mem h
theorem checkN_at {l : List Nd} (h : checkN l = true) {j : Nat} (hj : j < l.length) : stepN l j = true := List.all_eq_true.1 h j (List.mem_range.2 hj)
theorem checkN_ok {l : List Nd} (h : checkN l = true) : ∀ n ∈ l, okN n = true := by
  intro n hn
  obtain ⟨j, hj, rfl⟩ := List.getElem_of_mem hn
  have := checkN_at h hj
  unfold stepN at this
  rw [nd_getD hj] at this
  simp only [Bool.and_eq_true] at this
  exact this.1
theorem checkN_next {l : List Nd} (h : checkN l = true) {j : Nat} (hj : j + 1 < l.length) : ltN (l[j]'(by omega)) l[j + 1] = true := by
  have := checkN_at h hj
  unfold stepN at this
  rw [nd_getD hj, Nat.add_sub_cancel, nd_getD (show j < l.length by omega)] at this
  simpa using (Bool.and_eq_true _ _ ▸ this).2
theorem rises_of_next : ∀ {l : List Nd}, (∀ j (hj : j + 1 < l.length), ltN (l[j]'(by omega)) l[j + 1] = true) → Rises l
  | [], _ => List.Pairwise.nil
  | [x], _ => by simp [Rises]
  | x :: y :: r, h => by
    have ih : Rises (y :: r) := rises_of_next fun j hj => h (j + 1) (by simpa using hj)
    have h0 : ltN x y = true := h 0 (by simp)
    refine List.pairwise_cons.2 ⟨fun z hz => ?_, ih⟩
    rcases List.mem_cons.1 hz with rfl | hz
    · exact h0
    · exact ltN_trans h0 ((List.pairwise_cons.1 ih).1 z hz)
theorem checkN_rises {l : List Nd} (h : checkN l = true) : Rises l := rises_of_next fun _ hj => checkN_next h hj
theorem checkN_of {l : List Nd} (h : ∀ n ∈ l, okN n = true) (k : Rises l) : checkN l = true := by
  refine checkN_yes fun j hj => ?_
  unfold stepN
  rw [h _ (nd_mem hj), Bool.true_and]
  by_cases h0 : j = 0
  · simp [h0]
  · rw [decide_eq_false h0, Bool.false_or, nd_getD hj, nd_getD (show j - 1 < l.length by omega)]
    exact List.pairwise_iff_getElem.1 k (j - 1) j (by omega) hj (by omega)
theorem checkN_iff {l : List Nd} : checkN l = true ↔ (∀ n ∈ l, okN n = true) ∧ Rises l := ⟨fun h => ⟨checkN_ok h, checkN_rises h⟩, fun h => checkN_of h.1 h.2⟩

/-- A set with a node: what comes ahead, it, what comes behind. -/
def withN (l : List Nd) (n : Nd) : List Nd := (l.filter fun x => ltN x n) ++ n :: (l.filter fun x => ltN n x)
def hasN (l : List Nd) (n : Nd) : Bool := decide (n ∈ l)
def minusN (l m : List Nd) : List Nd := l.filter fun x => !hasN m x
theorem hasN_iff {l : List Nd} {n : Nd} : hasN l n = true ↔ n ∈ l := by unfold hasN; exact decide_eq_true_iff
theorem withN_mem {l : List Nd} {n : Nd} (hl : ∀ x ∈ l, okN x = true) (hn : okN n = true) (x : Nd) : x ∈ withN l n ↔ x ∈ l ∨ x = n := by
  unfold withN
  simp only [List.mem_append, List.mem_filter, List.mem_cons]
  constructor
  · rintro (⟨h, _⟩ | rfl | ⟨h, _⟩)
    · exact .inl h
    · exact .inr rfl
    · exact .inl h
  · rintro (h | rfl)
    · rcases ltN_tri (hl x h) hn with k | k | k
      · exact .inl ⟨h, k⟩
      · exact .inr (.inl k)
      · exact .inr (.inr ⟨h, k⟩)
    · exact .inr (.inl rfl)
theorem withN_rises {l : List Nd} {n : Nd} (h : Rises l) : Rises (withN l n) := by
  unfold withN
  refine List.pairwise_append.2 ⟨h.filter _, List.pairwise_cons.2 ⟨fun x hx => (List.mem_filter.1 hx).2, h.filter _⟩, fun x hx y hy => ?_⟩
  have hx' := (List.mem_filter.1 hx).2
  rcases List.mem_cons.1 hy with rfl | hy
  · exact hx'
  · exact ltN_trans hx' (List.mem_filter.1 hy).2
theorem withN_ok {l : List Nd} {n : Nd} (hl : ∀ x ∈ l, okN x = true) (hn : okN n = true) : ∀ x ∈ withN l n, okN x = true := fun x hx => by
  rcases (withN_mem hl hn x).1 hx with h | rfl
  · exact hl x h
  · exact hn
theorem withN_len1 (l : List Nd) (n : Nd) : (withN l n).length ≤ l.length + 1 := by
  unfold withN
  have h : ∀ l : List Nd, (l.filter fun x => ltN x n).length + (l.filter fun x => ltN n x).length ≤ l.length := by
    intro l
    induction l with
    | nil => simp
    | cons x l ih =>
      cases h1 : ltN x n
      · cases h2 : ltN n x
        · simp only [List.filter_cons, h1, h2, List.length_cons]; simp only [Bool.false_eq_true, if_false]; omega
        · simp only [List.filter_cons, h1, h2, List.length_cons]; simp only [Bool.false_eq_true, if_false, if_true, List.length_cons]; omega
      · have h2 := ltN_asym h1
        simp only [List.filter_cons, h1, h2, List.length_cons]; simp only [Bool.false_eq_true, if_false, if_true, List.length_cons]; omega
  have := h l
  simp only [List.length_append, List.length_cons]
  omega
theorem minusN_mem {l m : List Nd} (x : Nd) : x ∈ minusN l m ↔ x ∈ l ∧ x ∉ m := by
  unfold minusN; rw [List.mem_filter]; simp [hasN]
theorem minusN_len (l m : List Nd) : (minusN l m).length ≤ l.length := List.length_filter_le _ _
theorem minusN_take_succ {l m : List Nd} {k : Nat} (h : k < l.length) : minusN (l.take (k + 1)) m = minusN (l.take k) m ++ (if hasN m (l.getD k ([], [])) = true then [] else [l.getD k ([], [])]) := by
  unfold minusN
  rw [List.take_succ_eq_append_getElem h, List.filter_append, nd_getD h]
  congr 1
  cases h : hasN m l[k] <;> simp [h]
/-! ### Texts -/
theorem okV_nil : okV [] = false := rfl
end Go.Proofs.YtlbibgofhhdgoaaGreat
