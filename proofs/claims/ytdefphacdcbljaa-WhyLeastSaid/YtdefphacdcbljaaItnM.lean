/- Nodes' numbers: which names may be, a node's place, nodes told one by one: plain facts. -/
import Derived.Test.YtdefphacdcbljaaNodM
namespace Go.Proofs.Ytdefphacdcbljaa
set_option maxRecDepth 100000

/-- Names that may be: all nodes may be, and none is there twice. -/
def okM (l : List Nd) : Bool := l.all okN && decide l.Nodup
theorem okM_iff {l : List Nd} : okM l = true ↔ (∀ n ∈ l, okN n = true) ∧ l.Nodup := by
  unfold okM; rw [Bool.and_eq_true, List.all_eq_true, decide_eq_true_iff]
/-- How many different ones. -/
def dcR : List Nd → Nat
  | [] => 0
  | x :: l => if hasN l x then dcR l else dcR l + 1
def dcN (l : List Nd) : Nat := dcR l.reverse
theorem hasN_reverse (l : List Nd) (n : Nd) : hasN l.reverse n = hasN l n := by
  rw [Bool.eq_iff_iff, hasN_iff, hasN_iff, List.mem_reverse]
theorem dcN_snoc (l : List Nd) (n : Nd) : dcN (l ++ [n]) = if hasN l n then dcN l else dcN l + 1 := by
  unfold dcN
  rw [List.reverse_append, List.reverse_singleton, List.singleton_append, dcR, hasN_reverse]
theorem dcR_le : ∀ l : List Nd, dcR l ≤ l.length
  | [] => Nat.le_refl _
  | x :: l => by
    have := dcR_le l
    rw [dcR, List.length_cons]; split <;> omega
theorem dcR_eq : ∀ l : List Nd, dcR l = l.length ↔ l.Nodup
  | [] => by simp [dcR]
  | x :: l => by
    have h1 := dcR_le l
    have h2 := dcR_eq l
    rw [dcR, List.length_cons, List.nodup_cons]
    by_cases h : hasN l x = true
    · rw [if_pos h]
      have := hasN_iff.1 h
      constructor
      · intro e; omega
      · intro e; exact absurd this e.1
    · rw [if_neg h]
      have hx : x ∉ l := fun k => h (hasN_iff.2 k)
      constructor
      · intro e; exact ⟨hx, h2.1 (by omega)⟩
      · intro e; rw [h2.2 e.2]
theorem dcN_le (l : List Nd) : dcN l ≤ l.length := by
  have := dcR_le l.reverse
  rw [List.length_reverse] at this; exact this
theorem nodup_rev (l : List Nd) : l.reverse.Nodup ↔ l.Nodup := by
  unfold List.Nodup
  rw [List.pairwise_reverse]
  exact ⟨fun h => h.imp fun k => k.symm, fun h => h.imp fun k => k.symm⟩
theorem dcN_eq (l : List Nd) : dcN l = l.length ↔ l.Nodup := by
  have := dcR_eq l.reverse
  rw [List.length_reverse, nodup_rev] at this; exact this
theorem dcN_lt (l : List Nd) : decide (dcN l < l.length) = !decide l.Nodup := by
  have h1 := dcN_le l
  have h2 := dcN_eq l
  by_cases h : l.Nodup
  · rw [decide_eq_true h, decide_eq_false (by have := h2.2 h; omega)]; rfl
  · rw [decide_eq_false h, decide_eq_true (by have : dcN l ≠ l.length := fun e => h (h2.1 e); omega)]; rfl

/-- A node's place: the first one; behind all, if it is not there. -/
def ixN : List Nd → Nd → Nat
  | [], _ => 0
  | x :: l, n => if x = n then 0 else ixN l n + 1
/-- A node's last place. -/
def laR : List Nd → Nd → Nat
  | [], _ => 0
  | x :: l, n => if x = n then l.length else laR l n
def laN (l : List Nd) (n : Nd) : Nat := laR l.reverse n
theorem laN_same (l : List Nd) (n : Nd) : laN (l ++ [n]) n = l.length := by
  unfold laN
  rw [List.reverse_append, List.reverse_singleton, List.singleton_append, laR, if_pos rfl, List.length_reverse]
theorem laN_other (l : List Nd) {m n : Nd} (h : m ≠ n) : laN (l ++ [m]) n = laN l n := by
  unfold laN
  rw [List.reverse_append, List.reverse_singleton, List.singleton_append, laR, if_neg h]
theorem laR_at : ∀ (l : List Nd) (n : Nd), n ∈ l → laR l n < l.length ∧ l.reverse[laR l n]? = some n
  | [], n, h => by cases h
  | x :: l, n, h => by
    rw [laR, List.reverse_cons, List.length_cons]
    by_cases e : x = n
    · rw [if_pos e]
      refine ⟨by omega, ?_⟩
      rw [List.getElem?_append_right (by simp), List.length_reverse, Nat.sub_self]
      simp [e]
    · rw [if_neg e]
      have hm : n ∈ l := by
        rcases List.mem_cons.1 h with k | k
        · exact absurd k.symm e
        · exact k
      obtain ⟨h1, h2⟩ := laR_at l n hm
      refine ⟨by omega, ?_⟩
      rw [List.getElem?_append_left (by rw [List.length_reverse]; exact h1)]
      exact h2
theorem laN_at {l : List Nd} {n : Nd} (h : n ∈ l) : laN l n < l.length ∧ l[laN l n]? = some n := by
  have := laR_at l.reverse n (List.mem_reverse.2 h)
  rw [List.length_reverse, List.reverse_reverse] at this
  exact this
theorem ixN_at : ∀ {l : List Nd} {n : Nd}, n ∈ l → ixN l n < l.length ∧ l[ixN l n]? = some n
  | [], n, h => by cases h
  | x :: l, n, h => by
    rw [ixN, List.length_cons]
    by_cases e : x = n
    · rw [if_pos e]; exact ⟨by omega, by simp [e]⟩
    · rw [if_neg e]
      have hm : n ∈ l := by
        rcases List.mem_cons.1 h with k | k
        · exact absurd k.symm e
        · exact k
      obtain ⟨h1, h2⟩ := ixN_at hm
      exact ⟨by omega, by simpa using h2⟩
theorem ixN_none : ∀ {l : List Nd} {n : Nd}, n ∉ l → ixN l n = l.length
  | [], _, _ => rfl
  | x :: l, n, h => by
    have h1 : ¬ x = n := fun e => h (by rw [e]; exact List.mem_cons_self)
    rw [ixN, if_neg h1, ixN_none (fun k => h (List.mem_cons_of_mem _ k)), List.length_cons]
theorem ixN_le (l : List Nd) (n : Nd) : ixN l n ≤ l.length := by
  by_cases h : n ∈ l
  · exact Nat.le_of_lt (ixN_at h).1
  · rw [ixN_none h]; exact Nat.le_refl _
theorem ixN_lt {l : List Nd} {n : Nd} : ixN l n < l.length ↔ n ∈ l := by
  constructor
  · intro h
    by_cases k : n ∈ l
    · exact k
    · rw [ixN_none k] at h; omega
  · intro h; exact (ixN_at h).1
theorem ixN_append : ∀ {l : List Nd} (t : List Nd) {n : Nd}, n ∈ l → ixN (l ++ t) n = ixN l n
  | [], _, _, h => by cases h
  | x :: l, t, n, h => by
    rw [List.cons_append, ixN, ixN]
    by_cases e : x = n
    · rw [if_pos e, if_pos e]
    · rw [if_neg e, if_neg e]
      have hm : n ∈ l := by
        rcases List.mem_cons.1 h with k | k
        · exact absurd k.symm e
        · exact k
      rw [ixN_append t hm]
theorem nodup_at {l : List Nd} (h : l.Nodup) {i j : Nat} {n : Nd} (hi : l[i]? = some n) (hj : l[j]? = some n) : i = j := by
  obtain ⟨hi1, hi2⟩ := List.getElem?_eq_some_iff.1 hi
  obtain ⟨hj1, hj2⟩ := List.getElem?_eq_some_iff.1 hj
  rcases Nat.lt_trichotomy i j with k | k | k
  · exact absurd (hi2.trans hj2.symm) (List.pairwise_iff_getElem.1 h i j hi1 hj1 k)
  · exact k
  · exact absurd (hj2.trans hi2.symm) (List.pairwise_iff_getElem.1 h j i hj1 hi1 k)
theorem laN_ix {l : List Nd} (h : l.Nodup) {n : Nd} (hn : n ∈ l) : laN l n = ixN l n := nodup_at h (laN_at hn).2 (ixN_at hn).2
theorem ixN_getD {l : List Nd} (h : l.Nodup) {i : Nat} (hi : i < l.length) : ixN l (l.getD i ([], [])) = i := by
  have hm := nd_mem hi
  refine nodup_at h (ixN_at hm).2 ?_
  rw [nd_getD hi, List.getElem?_eq_getElem hi]
theorem getD_ixN {l : List Nd} {n : Nd} (h : n ∈ l) : l.getD (ixN l n) ([], []) = n := by
  obtain ⟨h1, h2⟩ := ixN_at h
  rw [List.getD_eq_getElem?_getD, h2]; rfl
theorem ixN_drop : ∀ {l : List Nd} {k : Nat} {n : Nd}, (∀ j, j < k → l.getD j ([], []) ≠ n) → k < l.length → l.getD k ([], []) = n → ixN l n = k
  | [], k, n, _, h, _ => absurd h (Nat.not_lt_zero k)
  | x :: l, 0, n, _, _, h => by
    have : x = n := h
    rw [ixN, if_pos this]
  | x :: l, k + 1, n, h0, h1, h2 => by
    have hx : x ≠ n := h0 0 (Nat.succ_pos k)
    rw [ixN, if_neg hx, ixN_drop (l := l) (k := k) (fun j hj => h0 (j + 1) (by omega)) (by simpa using h1) h2]

/-- Names with a node: as they are, if it is there; else it is the last one. -/
def addM (l : List Nd) (n : Nd) : List Nd := if hasN l n then l else l ++ [n]
def namesM (l t : List Nd) : List Nd := t.foldl addM l
def idsM : List Nd → List Nd → List Nat
  | _, [] => []
  | l, n :: t => ixN l n :: idsM (addM l n) t
theorem addM_yes {l : List Nd} {n : Nd} (h : hasN l n = true) : addM l n = l := if_pos h
theorem addM_no {l : List Nd} {n : Nd} (h : hasN l n = false) : addM l n = l ++ [n] := by unfold addM; rw [h]; rfl
theorem namesM_snoc (l t : List Nd) (n : Nd) : namesM l (t ++ [n]) = addM (namesM l t) n := by
  unfold namesM; rw [List.foldl_append]; rfl
theorem idsM_snoc : ∀ (l t : List Nd) (n : Nd), idsM l (t ++ [n]) = idsM l t ++ [ixN (namesM l t) n]
  | _, [], _ => rfl
  | l, x :: t, n => by
    rw [List.cons_append, idsM, idsM, idsM_snoc (addM l x) t n, List.cons_append]; rfl
theorem idsM_len : ∀ (l t : List Nd), (idsM l t).length = t.length
  | _, [] => rfl
  | l, x :: t => by rw [idsM, List.length_cons, List.length_cons, idsM_len]
theorem addM_mem (l : List Nd) (n x : Nd) : x ∈ addM l n ↔ x ∈ l ∨ x = n := by
  cases h : hasN l n
  · rw [addM_no h]; simp
  · rw [addM_yes h]
    have := hasN_iff.1 h
    exact ⟨.inl, fun k => k.elim id fun e => e ▸ this⟩
theorem namesM_mem : ∀ (t l : List Nd) (x : Nd), x ∈ namesM l t ↔ x ∈ l ∨ x ∈ t
  | [], l, x => by simp [namesM]
  | n :: t, l, x => by
    have := namesM_mem t (addM l n) x
    have e : namesM l (n :: t) = namesM (addM l n) t := rfl
    rw [e, this, addM_mem, List.mem_cons, or_assoc]
theorem addM_len (l : List Nd) (n : Nd) : l.length ≤ (addM l n).length ∧ (addM l n).length ≤ l.length + 1 := by
  unfold addM; split <;> simp
theorem namesM_len : ∀ (t l : List Nd), l.length ≤ (namesM l t).length ∧ (namesM l t).length ≤ l.length + t.length
  | [], l => ⟨Nat.le_refl _, Nat.le_refl _⟩
  | n :: t, l => by
    have h1 := namesM_len t (addM l n)
    have h2 := addM_len l n
    have e : namesM l (n :: t) = namesM (addM l n) t := rfl
    rw [e, List.length_cons]; omega
theorem addM_ok {l : List Nd} {n : Nd} (h : okM l = true) (hn : okN n = true) : okM (addM l n) = true := by
  cases k : hasN l n
  · rw [addM_no k]
    obtain ⟨h1, h2⟩ := okM_iff.1 h
    refine okM_iff.2 ⟨fun x hx => ?_, ?_⟩
    · rcases List.mem_append.1 hx with hx | hx
      · exact h1 x hx
      · have : x = n := by simpa using hx
        rw [this]; exact hn
    · refine List.nodup_append.2 ⟨h2, by simp, fun a ha b hb => ?_⟩
      have : b = n := by simpa using hb
      intro e
      exact hasN_not.1 k (this ▸ e ▸ ha)
  · rw [addM_yes k]; exact h
theorem namesM_ok : ∀ (t : List Nd) {l : List Nd}, okM l = true → (∀ n ∈ t, okN n = true) → okM (namesM l t) = true
  | [], _, h, _ => h
  | n :: t, _, h, k => namesM_ok t (addM_ok h (k n List.mem_cons_self)) fun x hx => k x (List.mem_cons_of_mem _ hx)
theorem addM_pre (l : List Nd) (n : Nd) : ∃ t, addM l n = l ++ t := by
  cases k : hasN l n
  · exact ⟨[n], addM_no k⟩
  · exact ⟨[], by rw [addM_yes k, List.append_nil]⟩
theorem namesM_pre : ∀ (t l : List Nd), ∃ r, namesM l t = l ++ r
  | [], l => ⟨[], (List.append_nil l).symm⟩
  | n :: t, l => by
    obtain ⟨r, hr⟩ := namesM_pre t (addM l n)
    obtain ⟨s, hs⟩ := addM_pre l n
    exact ⟨s ++ r, by rw [← List.append_assoc, ← hs, ← hr]; rfl⟩
theorem ixN_names {l t : List Nd} {n : Nd} (h : n ∈ l) : ixN (namesM l t) n = ixN l n := by
  obtain ⟨r, hr⟩ := namesM_pre t l
  rw [hr, ixN_append r h]
theorem ixN_add (l : List Nd) (n : Nd) : ixN (addM l n) n = ixN l n := by
  cases k : hasN l n
  · rw [addM_no k]
    have h1 : n ∈ l ++ [n] := by simp
    have hn := hasN_not.1 k
    rw [ixN_none hn]
    refine ixN_drop (fun j hj e => ?_) (by simp) ?_
    · have : (l ++ [n]).getD j ([], []) = l.getD j ([], []) := by
        rw [List.getD_eq_getElem?_getD, List.getElem?_append_left hj, ← List.getD_eq_getElem?_getD]
      rw [this] at e
      exact hn (e ▸ nd_mem hj)
    · rw [List.getD_eq_getElem?_getD, List.getElem?_append_right (Nat.le_refl _), Nat.sub_self]; rfl
  · rw [addM_yes k]
theorem idsM_map : ∀ (t l : List Nd), idsM l t = t.map (ixN (namesM l t))
  | [], _ => rfl
  | n :: t, l => by
    have e : namesM l (n :: t) = namesM (addM l n) t := rfl
    rw [idsM, List.map_cons, e, ixN_names ((addM_mem l n n).2 (.inr rfl)), ixN_add, idsM_map t (addM l n)]
/-- What is there already is told again: nothing turns. -/
theorem namesM_all : ∀ {t l : List Nd}, (∀ n ∈ t, n ∈ l) → namesM l t = l
  | [], _, _ => rfl
  | n :: t, l, h => by
    have e : namesM l (n :: t) = namesM (addM l n) t := rfl
    rw [e, addM_yes (hasN_iff.2 (h n List.mem_cons_self))]
    exact namesM_all fun x hx => h x (List.mem_cons_of_mem _ hx)
/-- Nodes that are all different, and not there, come behind. -/
theorem namesM_new : ∀ {t l : List Nd}, (l ++ t).Nodup → namesM l t = l ++ t ∧ idsM l t = List.range' l.length t.length
  | [], l, _ => ⟨(List.append_nil l).symm, rfl⟩
  | n :: t, l, h => by
    have hn : n ∉ l := fun k => (List.nodup_append.1 h).2.2 n k n List.mem_cons_self rfl
    have e : namesM l (n :: t) = namesM (addM l n) t := rfl
    have h2 : ((l ++ [n]) ++ t).Nodup := by rw [List.append_assoc]; exact h
    obtain ⟨h3, h4⟩ := namesM_new h2
    have ha := addM_no (hasN_not.2 hn)
    rw [e, idsM, ha, h3, h4, ixN_none hn]
    exact ⟨by simp, by simp [List.range'_succ]⟩
end Go.Proofs.Ytdefphacdcbljaa
