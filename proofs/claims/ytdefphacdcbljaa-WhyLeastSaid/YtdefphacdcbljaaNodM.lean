/- Modules' versions: which may be, their order, sets of them: plain facts. -/
import Derived.Test.YtdefphacdcbljaaPatM
import Derived.Test.YtdefphacdcbljaaVerM
namespace Go.Proofs.Ytdefphacdcbljaa
set_option maxRecDepth 100000

abbrev Nd := List UInt8 × List UInt8
def okN (n : Nd) : Bool := pathB n.1 && okV n.2
def ordN (a b : Nd) : Int := if a.1 = b.1 then cmpT a.2 b.2 else Lib.compareBytes a.1 b.1

theorem okN_parts {n : Nd} (h : okN n = true) : pathB n.1 = true ∧ okV n.2 = true := by
  unfold okN at h; simpa using h
theorem okN_of {n : Nd} (h : pathB n.1 = true) (k : okV n.2 = true) : okN n = true := by
  unfold okN; rw [h, k]; rfl
theorem ordN_vals (a b : Nd) : ordN a b = -1 ∨ ordN a b = 0 ∨ ordN a b = 1 := by
  unfold ordN; split
  · exact ord_V.vals _ _
  · exact cb_vals _ _
theorem ordN_swap (a b : Nd) : ordN b a = - ordN a b := by
  unfold ordN
  by_cases h : a.1 = b.1
  · rw [if_pos h, if_pos h.symm]; exact cmpT_swap _ _
  · rw [if_neg h, if_neg (fun e => h e.symm)]; exact cb_swap _ _
theorem ordN_self (a : Nd) : ordN a a = 0 := by unfold ordN; rw [if_pos rfl]; exact cmpT_self _
theorem ordN_eq {a b : Nd} (ha : okN a = true) (hb : okN b = true) (h : ordN a b = 0) : a = b := by
  unfold ordN at h
  obtain ⟨a1, a2⟩ := a
  obtain ⟨b1, b2⟩ := b
  by_cases e : a1 = b1
  · subst e
    rw [if_pos rfl] at h
    have := ver_inj (okN_parts ha).2 (okN_parts hb).2 ((ord_V.zero _ _).1 h)
    simp only at this
    rw [this]
  · rw [if_neg e] at h
    exact absurd (cb_zero _ _ h) e
theorem ordN_zero {a b : Nd} (ha : okN a = true) (hb : okN b = true) : ordN a b = 0 ↔ a = b := ⟨ordN_eq ha hb, fun h => by rw [h]; exact ordN_self b⟩
theorem ordN_trans (a b c : Nd) (h1 : ordN a b ≤ 0) (h2 : ordN b c ≤ 0) : ordN a c ≤ 0 ∧ (ordN a b < 0 ∨ ordN b c < 0 → ordN a c < 0) := by
  unfold ordN at *
  by_cases e : a.1 = b.1
  · by_cases f : b.1 = c.1
    · rw [if_pos e] at *
      rw [if_pos f] at *
      rw [if_pos (e.trans f)]
      exact ord_V.trans _ _ _ h1 h2
    · rw [if_pos e] at *
      rw [if_neg f] at *
      have f' : ¬ a.1 = c.1 := fun k => f (e ▸ k)
      rw [if_neg f', e]
      have hlt : Lib.compareBytes b.1 c.1 ≠ 0 := fun k => f (cb_zero _ _ k)
      have := cb_vals b.1 c.1
      exact ⟨h2, fun _ => by omega⟩
  · by_cases f : b.1 = c.1
    · rw [if_neg e] at *
      rw [if_pos f] at *
      have f' : ¬ a.1 = c.1 := fun k => e (k.trans f.symm)
      rw [if_neg f', ← f]
      have hlt : Lib.compareBytes a.1 b.1 ≠ 0 := fun k => e (cb_zero _ _ k)
      have := cb_vals a.1 b.1
      exact ⟨h1, fun _ => by omega⟩
    · rw [if_neg e] at *
      rw [if_neg f] at *
      have h3 := cb_trans _ _ _ h1 h2
      have hlt : Lib.compareBytes a.1 b.1 ≠ 0 := fun k => e (cb_zero _ _ k)
      have := cb_vals a.1 b.1
      have h4 := h3.2 (.inl (by omega))
      have f' : ¬ a.1 = c.1 := fun k => by rw [k, cb_self] at h4; omega
      rw [if_neg f']
      exact ⟨h3.1, fun _ => h4⟩
/-- a comes ahead of b. -/
def ltN (a b : Nd) : Bool := decide (ordN a b < 0)
theorem ltN_iff {a b : Nd} : ltN a b = true ↔ ordN a b < 0 := by unfold ltN; exact decide_eq_true_iff
theorem ltN_no {a b : Nd} : ltN a b = false ↔ 0 ≤ ordN a b := by unfold ltN; rw [decide_eq_false_iff_not]; omega
theorem ltN_trans {a b c : Nd} (h : ltN a b = true) (k : ltN b c = true) : ltN a c = true := by
  rw [ltN_iff] at *
  exact (ordN_trans a b c (by omega) (by omega)).2 (.inl h)
theorem ltN_irrefl (a : Nd) : ltN a a = false := by rw [ltN_no, ordN_self]; exact Int.le_refl 0
theorem ltN_asym {a b : Nd} (h : ltN a b = true) : ltN b a = false := by
  rw [ltN_iff] at h; rw [ltN_no, ordN_swap]; omega
theorem ltN_tri {a b : Nd} (ha : okN a = true) (hb : okN b = true) : ltN a b = true ∨ a = b ∨ ltN b a = true := by
  rcases ordN_vals a b with h | h | h
  · exact .inl (ltN_iff.2 (by omega))
  · exact .inr (.inl (ordN_eq ha hb h))
  · exact .inr (.inr (ltN_iff.2 (by rw [ordN_swap]; omega)))

/-- In order, none twice. -/
abbrev Rises (l : List Nd) : Prop := l.Pairwise fun a b => ltN a b = true
theorem rises_eq : ∀ {l m : List Nd}, Rises l → Rises m → (∀ n, n ∈ l ↔ n ∈ m) → l = m
  | [], m, _, _, h => by
    cases m with
    | nil => rfl
    | cons y r => exact absurd ((h y).2 List.mem_cons_self) (by simp)
  | x :: l, [], _, _, h => absurd ((h x).1 List.mem_cons_self) (by simp)
  | x :: l, y :: m, hl, hm, h => by
    obtain ⟨h1, h2⟩ := List.pairwise_cons.1 hl
    obtain ⟨k1, k2⟩ := List.pairwise_cons.1 hm
    have e : x = y := by
      rcases List.mem_cons.1 ((h x).1 List.mem_cons_self) with e | hx
      · exact e
      · rcases List.mem_cons.1 ((h y).2 List.mem_cons_self) with e | hy
        · exact e.symm
        · have a := k1 x hx
          have b := h1 y hy
          rw [ltN_asym a] at b; cases b
    subst e
    have nx : x ∉ l := fun hx => by have := h1 x hx; rw [ltN_irrefl] at this; cases this
    have mx : x ∉ m := fun hx => by have := k1 x hx; rw [ltN_irrefl] at this; cases this
    rw [rises_eq h2 k2 (fun n => ?_)]
    constructor
    · intro hn
      rcases List.mem_cons.1 ((h n).1 (List.mem_cons_of_mem _ hn)) with e | hm'
      · subst e; exact absurd hn nx
      · exact hm'
    · intro hn
      rcases List.mem_cons.1 ((h n).2 (List.mem_cons_of_mem _ hn)) with e | hm'
      · subst e; exact absurd hn mx
      · exact hm'
theorem rises_nodup {l : List Nd} (h : Rises l) : l.Nodup := List.Pairwise.imp (fun {a b} k e => by subst e; rw [ltN_irrefl] at k; cases k) h

/-- What is asked of place j of a set. -/
def stepN (l : List Nd) (j : Nat) : Bool := okN (l.getD j ([], [])) && (decide (j = 0) || ltN (l.getD (j - 1) ([], [])) (l.getD j ([], [])))
def checkN (l : List Nd) : Bool := (List.range l.length).all (stepN l)
theorem checkN_yes {l : List Nd} (h : ∀ j, j < l.length → stepN l j = true) : checkN l = true := List.all_eq_true.2 fun j hj => h j (List.mem_range.1 hj)
theorem checkN_no {l : List Nd} {j : Nat} (hj : j < l.length) (h : stepN l j = false) : checkN l = false := by
  cases hc : checkN l
  · rfl
  · rw [List.all_eq_true.1 hc j (List.mem_range.2 hj)] at h; cases h
theorem nd_getD {l : List Nd} {j : Nat} (h : j < l.length) : l.getD j ([], []) = l[j] := by
  rw [List.getD_eq_getElem?_getD, List.getElem?_eq_getElem h]; rfl
theorem nd_mem {l : List Nd} {j : Nat} (h : j < l.length) : l.getD j ([], []) ∈ l := by rw [nd_getD h]; exact List.getElem_mem h
theorem checkN_at {l : List Nd} (h : checkN l = true) {j : Nat} (hj : j < l.length) : stepN l j = true := List.all_eq_true.1 h j (List.mem_range.2 hj)
theorem checkN_ok {l : List Nd} (h : checkN l = true) : ∀ n ∈ l, okN n = true := by
  intro n hn
  obtain ⟨j, hj, rfl⟩ := List.getElem_of_mem hn
  have := checkN_at h hj
  unfold stepN at this
  rw [nd_getD hj] at this
  simp only [Bool.and_eq_true] at this
  exact this.1
theorem checkN_next {l : List Nd} (h : checkN l = true) {j : Nat} (hj : j + 1 < l.length) : ltN (l[j]'(by omega)) l[j + 1] = true := by
  have := checkN_at h hj
  unfold stepN at this
  rw [nd_getD hj, Nat.add_sub_cancel, nd_getD (show j < l.length by omega)] at this
  simpa using (Bool.and_eq_true _ _ ▸ this).2
theorem rises_of_next : ∀ {l : List Nd}, (∀ j (hj : j + 1 < l.length), ltN (l[j]'(by omega)) l[j + 1] = true) → Rises l
  | [], _ => List.Pairwise.nil
  | [x], _ => by simp [Rises]
  | x :: y :: r, h => by
    have ih : Rises (y :: r) := rises_of_next fun j hj => h (j + 1) (by simpa using hj)
    have h0 : ltN x y = true := h 0 (by simp)
    refine List.pairwise_cons.2 ⟨fun z hz => ?_, ih⟩
    rcases List.mem_cons.1 hz with rfl | hz
    · exact h0
    · exact ltN_trans h0 ((List.pairwise_cons.1 ih).1 z hz)
theorem checkN_rises {l : List Nd} (h : checkN l = true) : Rises l := rises_of_next fun _ hj => checkN_next h hj
theorem checkN_of {l : List Nd} (h : ∀ n ∈ l, okN n = true) (k : Rises l) : checkN l = true := by
  refine checkN_yes fun j hj => ?_
  unfold stepN
  rw [h _ (nd_mem hj), Bool.true_and]
  by_cases h0 : j = 0
  · simp [h0]
  · rw [decide_eq_false h0, Bool.false_or, nd_getD hj, nd_getD (show j - 1 < l.length by omega)]
    exact List.pairwise_iff_getElem.1 k (j - 1) j (by omega) hj (by omega)
theorem checkN_iff {l : List Nd} : checkN l = true ↔ (∀ n ∈ l, okN n = true) ∧ Rises l := ⟨fun h => ⟨checkN_ok h, checkN_rises h⟩, fun h => checkN_of h.1 h.2⟩

/-- A set with a node: what comes ahead, it, what comes behind. -/
def withN (l : List Nd) (n : Nd) : List Nd := (l.filter fun x => ltN x n) ++ n :: (l.filter fun x => ltN n x)
def setN (l : List Nd) : List Nd := l.foldl withN []
def hasN (l : List Nd) (n : Nd) : Bool := decide (n ∈ l)
def minusN (l m : List Nd) : List Nd := l.filter fun x => !hasN m x
theorem hasN_iff {l : List Nd} {n : Nd} : hasN l n = true ↔ n ∈ l := by unfold hasN; exact decide_eq_true_iff
theorem hasN_not {l : List Nd} {n : Nd} : hasN l n = false ↔ n ∉ l := by unfold hasN; exact decide_eq_false_iff_not
theorem withN_mem {l : List Nd} {n : Nd} (hl : ∀ x ∈ l, okN x = true) (hn : okN n = true) (x : Nd) : x ∈ withN l n ↔ x ∈ l ∨ x = n := by
  unfold withN
  simp only [List.mem_append, List.mem_filter, List.mem_cons]
  constructor
  · rintro (⟨h, _⟩ | rfl | ⟨h, _⟩)
    · exact .inl h
    · exact .inr rfl
    · exact .inl h
  · rintro (h | rfl)
    · rcases ltN_tri (hl x h) hn with k | k | k
      · exact .inl ⟨h, k⟩
      · exact .inr (.inl k)
      · exact .inr (.inr ⟨h, k⟩)
    · exact .inr (.inl rfl)
theorem withN_rises {l : List Nd} {n : Nd} (h : Rises l) : Rises (withN l n) := by
  unfold withN
  refine List.pairwise_append.2 ⟨h.filter _, List.pairwise_cons.2 ⟨fun x hx => (List.mem_filter.1 hx).2, h.filter _⟩, fun x hx y hy => ?_⟩
  have hx' := (List.mem_filter.1 hx).2
  rcases List.mem_cons.1 hy with rfl | hy
  · exact hx'
  · exact ltN_trans hx' (List.mem_filter.1 hy).2
theorem withN_ok {l : List Nd} {n : Nd} (hl : ∀ x ∈ l, okN x = true) (hn : okN n = true) : ∀ x ∈ withN l n, okN x = true := fun x hx => by
  rcases (withN_mem hl hn x).1 hx with h | rfl
  · exact hl x h
  · exact hn
theorem withN_check {l : List Nd} {n : Nd} (h : checkN l = true) (hn : okN n = true) : checkN (withN l n) = true := checkN_of (withN_ok (checkN_ok h) hn) (withN_rises (checkN_rises h))
theorem withN_len (l : List Nd) (n : Nd) : (withN l n).length ≤ l.length + l.length + 1 := by
  unfold withN
  have h1 := List.length_filter_le (fun x => ltN x n) l
  have h2 := List.length_filter_le (fun x => ltN n x) l
  simp only [List.length_append, List.length_cons]
  omega
theorem withN_len1 (l : List Nd) (n : Nd) : (withN l n).length ≤ l.length + 1 := by
  unfold withN
  have h : ∀ l : List Nd, (l.filter fun x => ltN x n).length + (l.filter fun x => ltN n x).length ≤ l.length := by
    intro l
    induction l with
    | nil => simp
    | cons x l ih =>
      cases h1 : ltN x n
      · cases h2 : ltN n x
        · simp only [List.filter_cons, h1, h2, List.length_cons]; simp only [Bool.false_eq_true, if_false]; omega
        · simp only [List.filter_cons, h1, h2, List.length_cons]; simp only [Bool.false_eq_true, if_false, if_true, List.length_cons]; omega
      · have h2 := ltN_asym h1
        simp only [List.filter_cons, h1, h2, List.length_cons]; simp only [Bool.false_eq_true, if_false, if_true, List.length_cons]; omega
  have := h l
  simp only [List.length_append, List.length_cons]
  omega
theorem withN_same {l : List Nd} {n : Nd} (h : checkN l = true) (hn : okN n = true) (hm : n ∈ l) : withN l n = l :=
  rises_eq (withN_rises (checkN_rises h)) (checkN_rises h) fun x => by
    rw [withN_mem (checkN_ok h) hn]
    refine ⟨fun k => ?_, .inl⟩
    rcases k with k | rfl
    · exact k
    · exact hm
theorem foldl_with_mem {l : List Nd} (hl : ∀ x ∈ l, okN x = true) : ∀ {s : List Nd}, (∀ x ∈ s, okN x = true) → (∀ x, x ∈ l.foldl withN s ↔ x ∈ s ∨ x ∈ l) ∧ (∀ x ∈ l.foldl withN s, okN x = true) := by
  induction l with
  | nil => intro s hs; simp; exact fun a b h => hs (a, b) h
  | cons y l ih =>
    intro s hs
    have hy := hl y List.mem_cons_self
    obtain ⟨h1, h2⟩ := ih (fun x hx => hl x (List.mem_cons_of_mem _ hx)) (withN_ok hs hy)
    refine ⟨fun x => ?_, h2⟩
    rw [List.foldl_cons, h1 x, withN_mem hs hy, List.mem_cons]
    exact or_assoc
theorem foldl_with_rises {l : List Nd} : ∀ {s : List Nd}, Rises s → Rises (l.foldl withN s) := by
  induction l with
  | nil => intro s hs; exact hs
  | cons y l ih => intro s hs; exact ih (withN_rises hs)
theorem setN_mem {l : List Nd} (h : ∀ x ∈ l, okN x = true) (x : Nd) : x ∈ setN l ↔ x ∈ l := by
  unfold setN; rw [(foldl_with_mem h (s := []) (fun x hx => by cases hx)).1]; simp
theorem setN_rises (l : List Nd) : Rises (setN l) := foldl_with_rises List.Pairwise.nil
theorem setN_check {l : List Nd} (h : ∀ x ∈ l, okN x = true) : checkN (setN l) = true := checkN_of (fun x hx => h x ((setN_mem h x).1 hx)) (setN_rises l)
/-- Whatever rises and has the nodes of a list is its set. -/
theorem setN_is {l s : List Nd} (h : ∀ x ∈ l, okN x = true) (hs : Rises s) (hm : ∀ x, x ∈ s ↔ x ∈ l) : s = setN l :=
  rises_eq hs (setN_rises l) fun x => (hm x).trans (setN_mem h x).symm
theorem setN_id {l : List Nd} (h : checkN l = true) : setN l = l := (setN_is (checkN_ok h) (checkN_rises h) fun _ => Iff.rfl).symm
theorem foldl_with_len (l : List Nd) : ∀ s : List Nd, (l.foldl withN s).length ≤ s.length + l.length := by
  induction l with
  | nil => intro s; simp
  | cons y l ih => intro s; have := ih (withN s y); have := withN_len1 s y; rw [List.foldl_cons, List.length_cons]; omega
theorem setN_len (l : List Nd) : (setN l).length ≤ l.length := by have := foldl_with_len l []; simpa [setN] using this
theorem setN_take_succ {l : List Nd} {k : Nat} (h : k < l.length) : setN (l.take (k + 1)) = withN (setN (l.take k)) (l.getD k ([], [])) := by
  unfold setN; rw [List.take_succ_eq_append_getElem h, List.foldl_append, nd_getD h]; rfl
theorem minusN_mem {l m : List Nd} (x : Nd) : x ∈ minusN l m ↔ x ∈ l ∧ x ∉ m := by
  unfold minusN; rw [List.mem_filter]; simp [hasN]
theorem minusN_check {l m : List Nd} (h : checkN l = true) : checkN (minusN l m) = true :=
  checkN_of (fun x hx => checkN_ok h x (List.mem_filter.1 hx).1) ((checkN_rises h).filter _)
theorem minusN_len (l m : List Nd) : (minusN l m).length ≤ l.length := List.length_filter_le _ _
theorem minusN_take_succ {l m : List Nd} {k : Nat} (h : k < l.length) : minusN (l.take (k + 1)) m = minusN (l.take k) m ++ (if hasN m (l.getD k ([], [])) = true then [] else [l.getD k ([], [])]) := by
  unfold minusN
  rw [List.take_succ_eq_append_getElem h, List.filter_append, nd_getD h]
  congr 1
  cases h : hasN m l[k] <;> simp [h]
theorem minusN_self (l : List Nd) : minusN l l = [] := by
  unfold minusN
  rw [List.filter_eq_nil_iff]
  intro x hx
  simp [hasN, hx]
/-! ### Texts -/
/-- Where the first @ stands. -/
def ixA : List UInt8 → Nat
  | [] => 0
  | x :: l => if (x.toNat : Int) = 64 then 0 else ixA l + 1
theorem ixA_le (l : List UInt8) : ixA l ≤ l.length := by
  induction l with
  | nil => simp [ixA]
  | cons x l ih => rw [ixA]; split <;> simp; omega
theorem ixA_cat (a b : List UInt8) (h : ∀ c ∈ a, ¬ (c.toNat : Int) = 64) : ixA (a ++ 64 :: b) = a.length := by
  induction a with
  | nil => rfl
  | cons x a ih => rw [List.cons_append, ixA, if_neg (h x List.mem_cons_self), ih fun c hc => h c (List.mem_cons_of_mem _ hc), List.length_cons]
theorem ixA_hit (l : List UInt8) (h : ixA l < l.length) : l.drop (ixA l) = 64 :: l.drop (ixA l + 1) := by
  induction l with
  | nil => simp at h
  | cons x l ih =>
    by_cases hx : (x.toNat : Int) = 64
    · have e : ixA (x :: l) = 0 := by rw [ixA, if_pos hx]
      rw [e]
      have : x = 64 := by rw [← UInt8.toNat_inj]; have : (64 : UInt8).toNat = 64 := rfl
                          omega
      simp [this]
    · have e : ixA (x :: l) = ixA l + 1 := by rw [ixA, if_neg hx]
      rw [e] at h ⊢
      have := ih (by simpa using h)
      simpa using this
def textN (n : Nd) : List UInt8 := n.1 ++ 64 :: n.2
def cutA (l : List UInt8) : Nd := (l.take (ixA l), l.drop (ixA l + 1))
def readN (l : List UInt8) : Nd := if okN (cutA l) = true then cutA l else ([], [])
def readE (l : List UInt8) : Int := if okN (cutA l) = true then 0 else 1
theorem okV_nil : okV [] = false := rfl
theorem read_text {l : List UInt8} (h : okN (cutA l) = true) : textN (cutA l) = l := by
  have hlt : ixA l < l.length := by
    rcases Nat.lt_or_ge (ixA l) l.length with k | k
    · exact k
    · have e : (cutA l).2 = [] := List.drop_eq_nil_of_le (by show l.length ≤ ixA l + 1; omega)
      have := (okN_parts h).2
      rw [e, okV_nil] at this; cases this
  unfold textN cutA
  rw [← ixA_hit l hlt]
  exact List.take_append_drop _ _
theorem split_all (c : Int) (P : UInt8 → Prop) : ∀ l : List UInt8, (∀ p ∈ splitL c l, ∀ y ∈ p, P y) → ∀ y ∈ l, (y.toNat : Int) = c ∨ P y
  | [], _, y, hy => by cases hy
  | x :: l, h, y, hy => by
    rw [splitL] at h
    by_cases hx : (x.toNat : Int) = c
    · rw [if_pos hx] at h
      rcases List.mem_cons.1 hy with rfl | hy
      · exact .inl hx
      · exact split_all c P l (fun p hp => h p (List.mem_cons_of_mem _ hp)) y hy
    · rw [if_neg hx] at h
      cases hs : splitL c l with
      | nil => exact absurd hs (splitL_ne c l)
      | cons u t =>
        rw [hs] at h
        have h0 := h ([x] ++ u) List.mem_cons_self
        rcases List.mem_cons.1 hy with rfl | hy
        · exact .inr (h0 y (by simp))
        · refine split_all c P l (fun p hp => ?_) y hy
          rw [hs] at hp
          rcases List.mem_cons.1 hp with rfl | hp
          · exact fun z hz => h0 z (by simp [hz])
          · exact h p (List.mem_cons_of_mem _ hp)
theorem okC_64 (c : UInt8) (h : (c.toNat : Int) = 64) : okC c = false := by
  have : c = 64 := by rw [← UInt8.toNat_inj]; have : (64 : UInt8).toNat = 64 := rfl
                      omega
  subst this; decide +kernel
theorem path_no64 {l : List UInt8} (h : pathB l = true) : ∀ c ∈ l, ¬ (c.toNat : Int) = 64 := by
  intro c hc
  have h1 : ∀ p ∈ splitL 47 l, ∀ y ∈ p, okC y = true := fun p hp => elem_oct (List.all_eq_true.1 h p hp)
  rcases split_all 47 (fun y => okC y = true) l h1 c hc with k | k
  · omega
  · intro e; rw [okC_64 c e] at k; cases k
theorem text_read {n : Nd} (h : okN n = true) : cutA (textN n) = n := by
  have e := ixA_cat n.1 n.2 (path_no64 (okN_parts h).1)
  unfold cutA textN
  rw [e]
  obtain ⟨p, v⟩ := n
  simp
theorem readN_ok {l : List UInt8} (h : okN (cutA l) = true) : readN l = cutA l := by unfold readN; rw [if_pos h]
theorem readN_no {l : List UInt8} (h : okN (cutA l) = false) : readN l = ([], []) := by unfold readN; rw [if_neg (by simp [h])]
theorem readE_ok {l : List UInt8} (h : okN (cutA l) = true) : readE l = 0 := by unfold readE; rw [if_pos h]
theorem readE_no {l : List UInt8} (h : okN (cutA l) = false) : readE l = 1 := by unfold readE; rw [if_neg (by simp [h])]
theorem indexByte_A (l : List UInt8) : Lib.indexByte l 64 = if ixA l < l.length then ((ixA l : Nat) : Int) else -1 := by
  induction l with
  | nil => rfl
  | cons x l ih =>
    rw [Lib.indexByte, ih, ixA]
    by_cases hx : (x.toNat : Int) = 64
    · have ex : x = 64 := by rw [← UInt8.toNat_inj]; have : (64 : UInt8).toNat = 64 := rfl
                             omega
      simp [ex]
    · have ex : (x == 64) = false := by
        rw [beq_eq_false_iff_ne]; intro e; subst e; exact hx rfl
      rw [ex, if_neg hx]
      simp only [Bool.false_eq_true, if_false, List.length_cons]
      by_cases h : ixA l < l.length
      · have h' : ixA l + 1 < l.length + 1 := by omega
        rw [if_pos h, if_pos h']
        have : (((ixA l : Nat) : Int) == -1) = false := by rw [beq_eq_false_iff_ne]; omega
        rw [this, if_neg (by simp)]
        omega
      · have h' : ¬ ixA l + 1 < l.length + 1 := by omega
        rw [if_neg h, if_neg h']
        rfl
end Go.Proofs.Ytdefphacdcbljaa
