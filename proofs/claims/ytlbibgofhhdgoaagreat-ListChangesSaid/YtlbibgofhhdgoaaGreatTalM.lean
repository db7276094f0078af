/- Rows of versions: which may be, their nodes, the rows of nodes, what is put in and taken out: plain facts. -/
import Derived.Test.YtlbibgofhhdgoaaGreatNodM
namespace Go.Proofs.YtlbibgofhhdgoaaGreat
set_option linter.unusedVariables false
set_option maxRecDepth 100000

abbrev Rw := List UInt8 × List (List UInt8)
abbrev zR : Rw := ([], [])

/-! ### Lists each of which is as it should be, and ahead of the next one -/
section
variable {α : Type}
def chainB (ok : α → Bool) (lt : α → α → Bool) (z : α) (l : List α) (j : Nat) : Bool := ok (l.getD j z) && (decide (j = 0) || lt (l.getD (j - 1) z) (l.getD j z))
def chainA (ok : α → Bool) (lt : α → α → Bool) (z : α) (l : List α) : Bool := (List.range l.length).all (chainB ok lt z l)
theorem chain_yes {ok : α → Bool} {lt : α → α → Bool} {z : α} {l : List α} (h : ∀ j, j < l.length → chainB ok lt z l j = true) : chainA ok lt z l = true := List.all_eq_true.2 fun j hj => h j (List.mem_range.1 hj)
theorem chain_no {ok : α → Bool} {lt : α → α → Bool} {z : α} {l : List α} {j : Nat} (hj : j < l.length) (h : chainB ok lt z l j = false) : chainA ok lt z l = false := by
  cases hc : chainA ok lt z l
  · rfl
  · rw [List.all_eq_true.1 hc j (List.mem_range.2 hj)] at h; cases h
theorem chain_at {ok : α → Bool} {lt : α → α → Bool} {z : α} {l : List α} (h : chainA ok lt z l = true) {j : Nat} (hj : j < l.length) : chainB ok lt z l j = true := List.all_eq_true.1 h j (List.mem_range.2 hj)
theorem gd_at {l : List α} {z : α} {j : Nat} (h : j < l.length) : l.getD j z = l[j] := by
  rw [List.getD_eq_getElem?_getD, List.getElem?_eq_getElem h]; rfl
theorem gd_in {l : List α} {z : α} {j : Nat} (h : j < l.length) : l.getD j z ∈ l := by rw [gd_at h]; exact List.getElem_mem h
theorem pair_of_next {lt : α → α → Bool} (tr : ∀ a b c, lt a b = true → lt b c = true → lt a c = true) : ∀ {l : List α}, (∀ j (hj : j + 1 < l.length), lt (l[j]'(by omega)) l[j + 1] = true) → l.Pairwise fun a b => lt a b = true
  | [], _ => List.Pairwise.nil
  | [x], _ => by simp
  | x :: y :: r, h => by
    have ih : (y :: r).Pairwise fun a b => lt a b = true := pair_of_next tr fun j hj => h (j + 1) (by simpa using hj)
    have h0 : lt x y = true := h 0 (by simp)
    refine List.pairwise_cons.2 ⟨fun z hz => ?_, ih⟩
    rcases List.mem_cons.1 hz with rfl | hz
    · exact h0
    · exact tr _ _ _ h0 ((List.pairwise_cons.1 ih).1 z hz)
theorem chain_iff {ok : α → Bool} {lt : α → α → Bool} {z : α} {l : List α} (tr : ∀ a b c, lt a b = true → lt b c = true → lt a c = true) : chainA ok lt z l = true ↔ (∀ x ∈ l, ok x = true) ∧ l.Pairwise fun a b => lt a b = true := by
  constructor
  · intro h
    refine ⟨fun x hx => ?_, pair_of_next tr fun j hj => ?_⟩
    · obtain ⟨j, hj, rfl⟩ := List.getElem_of_mem hx
      have := chain_at h hj
      unfold chainB at this
      rw [gd_at hj, Bool.and_eq_true] at this
      exact this.1
    · have := chain_at h hj
      unfold chainB at this
      rw [gd_at hj, Nat.add_sub_cancel, gd_at (show j < l.length by omega), Bool.and_eq_true] at this
      simpa using this.2
  · rintro ⟨h, k⟩
    refine chain_yes fun j hj => ?_
    unfold chainB
    rw [h _ (gd_in hj), Bool.true_and]
    by_cases h0 : j = 0
    · simp [h0]
    · rw [decide_eq_false h0, Bool.false_or, gd_at hj, gd_at (show j - 1 < l.length by omega)]
      exact List.pairwise_iff_getElem.1 k (j - 1) j (by omega) hj (by omega)
/-- What comes ahead of a place, and what does not. -/
theorem cut_ahead {l : List α} {z : α} {f : α → Bool} {i : Nat} (hi : i ≤ l.length) (h1 : ∀ t, t < i → f (l.getD t z) = true) (h2 : ∀ t, i ≤ t → t < l.length → f (l.getD t z) = false) : l.filter f = l.take i ∧ (l.filter fun x => !f x) = l.drop i := by
  have m1 : ∀ x ∈ l.take i, f x = true := fun x hx => by
    obtain ⟨t, ht, rfl⟩ := List.getElem_of_mem hx
    have ht2 : t < i := by rw [List.length_take] at ht; omega
    have := h1 t ht2
    rw [gd_at (by omega)] at this
    rw [List.getElem_take]; exact this
  have m2 : ∀ x ∈ l.drop i, f x = false := fun x hx => by
    obtain ⟨t, ht, rfl⟩ := List.getElem_of_mem hx
    rw [List.length_drop] at ht
    have := h2 (i + t) (by omega) (by omega)
    rw [gd_at (by omega)] at this
    rw [List.getElem_drop, this]
  constructor
  · conv => lhs; rw [← List.take_append_drop i l, List.filter_append, List.filter_eq_self.2 m1, List.filter_eq_nil_iff.2 (fun x hx => by rw [m2 x hx]; simp), List.append_nil]
  · have e1 : ((l.take i).filter fun x => !f x) = [] := List.filter_eq_nil_iff.2 (fun x hx => by rw [m1 x hx]; simp)
    have e2 : ((l.drop i).filter fun x => !f x) = l.drop i := List.filter_eq_self.2 (fun x hx => by rw [m2 x hx]; rfl)
    conv => lhs; rw [← List.take_append_drop i l, List.filter_append, e1, e2, List.nil_append]
end

/-! ### Versions of a row -/
def ltV (a b : List UInt8) : Bool := decide (cmpT a b < 0)
theorem ltV_iff {a b : List UInt8} : ltV a b = true ↔ cmpT a b < 0 := by unfold ltV; exact decide_eq_true_iff
theorem ltV_trans (a b c : List UInt8) (h : ltV a b = true) (k : ltV b c = true) : ltV a c = true := by
  rw [ltV_iff] at *
  exact (ord_V.trans _ _ _ (Int.le_of_lt h) (Int.le_of_lt k)).2 (.inl h)
def fitV2 (l : List (List UInt8)) : Bool := chainA okV ltV [] l && decide (0 < l.length)
theorem fitV_iff {l : List (List UInt8)} : fitV2 l = true ↔ (∀ v ∈ l, okV v = true) ∧ (l.Pairwise fun a b => ltV a b = true) ∧ l ≠ [] := by
  unfold fitV2
  rw [Bool.and_eq_true, chain_iff ltV_trans, decide_eq_true_iff, List.length_pos_iff, and_assoc]
/-! ### Rows -/
def ltP (a b : Rw) : Bool := decide (Lib.compareBytes a.1 b.1 < 0)
theorem ltP_iff {a b : Rw} : ltP a b = true ↔ Lib.compareBytes a.1 b.1 < 0 := by unfold ltP; exact decide_eq_true_iff
theorem ltP_trans (a b c : Rw) (h : ltP a b = true) (k : ltP b c = true) : ltP a c = true := by
  rw [ltP_iff] at *
  exact (cb_trans _ _ _ (Int.le_of_lt h) (Int.le_of_lt k)).2 (.inl h)
def okRow (r : Rw) : Bool := pathB r.1 && fitV2 r.2
def okR (l : List Rw) : Bool := chainA okRow ltP zR l
theorem okR_iff {l : List Rw} : okR l = true ↔ (∀ r ∈ l, pathB r.1 = true ∧ fitV2 r.2 = true) ∧ l.Pairwise fun a b => ltP a b = true := by
  unfold okR
  rw [chain_iff ltP_trans]
  unfold okRow
  simp only [Bool.and_eq_true]
theorem ltN_path {a b : Nd} (h : Lib.compareBytes a.1 b.1 < 0) : ltN a b = true := by
  rw [ltN_iff]; unfold ordN
  rw [if_neg (fun e => by rw [e, cb_self] at h; omega)]; exact h
theorem ltN_le {a b : Nd} (h : ltN a b = true) : a.1 = b.1 ∨ Lib.compareBytes a.1 b.1 < 0 := by
  rw [ltN_iff] at h; unfold ordN at h
  by_cases e : a.1 = b.1
  · exact .inl e
  · rw [if_neg e] at h; exact .inr h
/-! ### A path's versions; versions in the stead of others -/
/-! ### What the calls answer -/
def lastV (l : List (List UInt8)) : List UInt8 := l.getD (l.length - 1) []
/-! ### Where a path's row is -/
structure FindP (l : List Rw) (p : List UInt8) (lo hi : Nat) : Prop where
  low : ∀ t, t < lo → Lib.compareBytes (l.getD t zR).1 p < 0
  high : ∀ t, hi ≤ t → t < l.length → 0 ≤ Lib.compareBytes (l.getD t zR).1 p
theorem rows_up {l : List Rw} (h : l.Pairwise fun a b => ltP a b = true) {t m : Nat} (htm : t ≤ m) (hm : m < l.length) : Lib.compareBytes (l.getD t zR).1 (l.getD m zR).1 ≤ 0 := by
  rcases Nat.lt_or_ge t m with k | k
  · rw [gd_at hm, gd_at (show t < l.length by omega)]
    exact Int.le_of_lt (ltP_iff.1 (List.pairwise_iff_getElem.1 h t m (by omega) hm k))
  · have : t = m := by omega
    rw [this, cb_self]; exact Int.le_refl 0
theorem FindP.up {l : List Rw} {p : List UInt8} {lo hi m : Nat} (h : FindP l p lo hi) (hr : l.Pairwise fun a b => ltP a b = true) (hm : m < l.length) (hl : 0 < Lib.compareBytes p (l.getD m zR).1) : FindP l p (m + 1) hi :=
  ⟨fun t ht => by
    have h1 := rows_up hr (t := t) (m := m) (by omega) hm
    have h2 : Lib.compareBytes (l.getD m zR).1 p < 0 := by rw [cb_swap]; omega
    exact (cb_trans _ _ _ h1 (Int.le_of_lt h2)).2 (.inr h2), h.high⟩
/-- Where a version is, or would go. -/
structure FindV (l : List (List UInt8)) (v : List UInt8) (lo hi : Nat) : Prop where
  low : ∀ t, t < lo → ltV (l.getD t []) v = true
  high : ∀ t, hi ≤ t → t < l.length → ltV (l.getD t []) v = false
theorem vers_up {l : List (List UInt8)} (h : l.Pairwise fun a b => ltV a b = true) {v : List UInt8} {t m : Nat} (htm : t ≤ m) (hm : m < l.length) (hl : ltV (l.getD m []) v = true) : ltV (l.getD t []) v = true := by
  rcases Nat.lt_or_ge t m with k | k
  · rw [gd_at hm] at hl
    rw [gd_at (show t < l.length by omega)]
    exact ltV_trans _ _ _ (List.pairwise_iff_getElem.1 h t m (by omega) hm k) hl
  · have : t = m := by omega
    rw [this]; exact hl
theorem FindV.up {l : List (List UInt8)} {v : List UInt8} {lo hi m : Nat} (h : FindV l v lo hi) (hr : l.Pairwise fun a b => ltV a b = true) (hm : m < l.length) (hl : ltV (l.getD m []) v = true) : FindV l v (m + 1) hi :=
  ⟨fun t ht => vers_up hr (m := m) (by omega) hm hl, h.high⟩
end Go.Proofs.YtlbibgofhhdgoaaGreat
