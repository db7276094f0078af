/- Why a node is needed: chains, levels, how far, and the chain: plain facts. -/
import Derived.Test.YtdefphacdcbljaaLakM
namespace Go.Proofs.Ytdefphacdcbljaa
set_option linter.unusedVariables false
set_option maxRecDepth 100000

abbrev rootN : Nd := ([], [])
def hasD (l : List Ne) (a b : Nd) : Bool := decide ((a, b) ∈ l)
theorem hasD_iff {l : List Ne} {a b : Nd} : hasD l a b = true ↔ (a, b) ∈ l := decide_eq_true_iff
theorem okN_root : okN rootN = false := rfl
theorem may_root {l : List Ne} (h : mayK l = true) (a : Nd) : (a, rootN) ∉ l := fun hm => by
  have := (mayK_mem h hm).1
  rw [okN_root] at this; cases this
/-! ### Chains -/
def fromW (l : List Ne) : Nd → List Nd → Bool
  | _, [] => true
  | a, b :: c => hasD l a b && fromW l b c
def isW (l : List Ne) (c : List Nd) : Bool := fromW l rootN c && !c.isEmpty
/-- From a node to another one in so many steps. -/
def RW (l : List Ne) : Nat → Nd → Prop
  | 0, n => n = rootN
  | k + 1, n => ∃ m, RW l k m ∧ (m, n) ∈ l
theorem fromW_snoc (l : List Ne) : ∀ (a : Nd) (c : List Nd) (n : Nd), fromW l a (c ++ [n]) = (fromW l a c && hasD l (c.getLastD a) n)
  | a, [], n => by simp [fromW]
  | a, b :: c, n => by
    rw [List.cons_append]
    unfold fromW
    rw [fromW_snoc l b c n, Bool.and_assoc, List.getLastD_cons]
theorem isW_RW {l : List Ne} : ∀ (k : Nat) (c : List Nd), c.length = k → fromW l rootN c = true → RW l k (c.getLastD rootN)
  | 0, c, h, _ => by rw [List.eq_nil_of_length_eq_zero h]; exact rfl
  | k + 1, c, h, hc => by
    obtain ⟨x, n, rfl⟩ : ∃ x n, c = x ++ [n] := ⟨c.dropLast, c.getLast (by intro e; rw [e] at h; cases h), (List.dropLast_concat_getLast _).symm⟩
    rw [fromW_snoc, Bool.and_eq_true] at hc
    rw [List.length_append, List.length_singleton] at h
    refine ⟨x.getLastD rootN, isW_RW k x (by omega) hc.1, ?_⟩
    have := hasD_iff.1 hc.2
    simpa using this
/-! ### Levels -/
def nextW (l : List Ne) (at' met : List Nd) : List Nd := setN ((l.filter fun d => hasN at' d.1 && !hasN met d.2).map (·.2))
def lvW (l : List Ne) : Nat → List Nd × List Nd
  | 0 => ([rootN], [])
  | k + 1 => (nextW l (lvW l k).1 (lvW l k).2, (lvW l k).2 ++ nextW l (lvW l k).1 (lvW l k).2)
def atW (l : List Ne) (k : Nat) : List Nd := (lvW l k).1
def metW (l : List Ne) (k : Nat) : List Nd := (lvW l k).2
theorem atW_zero (l : List Ne) : atW l 0 = [rootN] := rfl
theorem metW_zero (l : List Ne) : metW l 0 = [] := rfl
theorem atW_succ (l : List Ne) (k : Nat) : atW l (k + 1) = nextW l (atW l k) (metW l k) := rfl
theorem metW_succ (l : List Ne) (k : Nat) : metW l (k + 1) = metW l k ++ atW l (k + 1) := rfl
theorem nextW_ok {l : List Ne} (h : mayK l = true) (a m : List Nd) : ∀ x ∈ (l.filter fun d => hasN a d.1 && !hasN m d.2).map (·.2), okN x = true := fun x hx => by
  obtain ⟨d, hd, rfl⟩ := List.mem_map.1 hx
  exact (mayK_mem h (List.mem_filter.1 hd).1).1
theorem nextW_mem {l : List Ne} (h : mayK l = true) {a m : List Nd} {n : Nd} : n ∈ nextW l a m ↔ (∃ x ∈ a, (x, n) ∈ l) ∧ n ∉ m := by
  unfold nextW
  rw [setN_mem (nextW_ok h a m), List.mem_map]
  constructor
  · rintro ⟨d, hd, rfl⟩
    obtain ⟨h1, h2⟩ := List.mem_filter.1 hd
    rw [Bool.and_eq_true, hasN_iff, Bool.not_eq_true', hasN_not] at h2
    exact ⟨⟨d.1, h2.1, h1⟩, h2.2⟩
  · rintro ⟨⟨x, hx, hl⟩, hm⟩
    refine ⟨(x, n), List.mem_filter.2 ⟨hl, ?_⟩, rfl⟩
    rw [Bool.and_eq_true, hasN_iff, Bool.not_eq_true', hasN_not]
    exact ⟨hx, hm⟩
theorem nextW_rises (l : List Ne) (a m : List Nd) : Rises (nextW l a m) := setN_rises _
theorem nextW_check {l : List Ne} (h : mayK l = true) (a m : List Nd) : checkN (nextW l a m) = true := setN_check (nextW_ok h a m)
theorem atW_check {l : List Ne} (h : mayK l = true) (k : Nat) : checkN (atW l (k + 1)) = true := nextW_check h _ _
theorem metW_mem {l : List Ne} {n : Nd} : ∀ {k : Nat}, n ∈ metW l k ↔ ∃ j, 1 ≤ j ∧ j ≤ k ∧ n ∈ atW l j
  | 0 => by rw [metW_zero]; exact ⟨fun h => absurd h (by simp), fun ⟨j, h1, h2, _⟩ => by omega⟩
  | k + 1 => by
    rw [metW_succ, List.mem_append, metW_mem]
    constructor
    · rintro (⟨j, a, b, c⟩ | h)
      · exact ⟨j, a, by omega, c⟩
      · exact ⟨k + 1, by omega, by omega, h⟩
    · rintro ⟨j, a, b, c⟩
      by_cases e : j = k + 1
      · subst e; exact .inr c
      · exact .inl ⟨j, a, by omega, c⟩
theorem RW_root {l : List Ne} (h : mayK l = true) {k : Nat} : ¬ RW l (k + 1) rootN := fun ⟨m, _, hm⟩ => may_root h m hm
/-- What stands in a level: that is so far away, and no less. -/
theorem atW_iff {l : List Ne} (h : mayK l = true) {n : Nd} : ∀ {k : Nat}, n ∈ atW l k ↔ RW l k n ∧ ∀ j, 1 ≤ j → j < k → ¬ RW l j n := by
  intro k
  induction k using Nat.strongRecOn generalizing n with
  | _ k ih =>
    cases k with
    | zero => rw [atW_zero, List.mem_singleton]; exact ⟨fun e => ⟨e, fun j a b => by omega⟩, fun e => e.1⟩
    | succ k =>
      rw [atW_succ, nextW_mem h, metW_mem]
      have hmet : (∃ j, 1 ≤ j ∧ j ≤ k ∧ n ∈ atW l j) ↔ ∃ j, 1 ≤ j ∧ j ≤ k ∧ RW l j n := by
        constructor
        · rintro ⟨j, a, b, c⟩; exact ⟨j, a, b, ((ih j (by omega)).1 c).1⟩
        · rintro ⟨j, a, b, c⟩
          induction j using Nat.strongRecOn with
          | _ j ij =>
            by_cases e : ∃ i, 1 ≤ i ∧ i < j ∧ RW l i n
            · obtain ⟨i, x, y, z⟩ := e
              exact ij i y x (by omega) z
            · exact ⟨j, a, b, (ih j (by omega)).2 ⟨c, fun i x y z => e ⟨i, x, y, z⟩⟩⟩
      rw [hmet]
      constructor
      · rintro ⟨⟨m, hm, hl⟩, hn⟩
        exact ⟨⟨m, ((ih k (by omega)).1 hm).1, hl⟩, fun j a b c => hn ⟨j, a, by omega, c⟩⟩
      · rintro ⟨⟨m, hm, hl⟩, hn⟩
        refine ⟨⟨m, (ih k (by omega)).2 ⟨hm, fun j a b c => hn (j + 1) (by omega) (by omega) ⟨m, c, hl⟩⟩, hl⟩, ?_⟩
        rintro ⟨j, a, b, c⟩
        exact hn j a (by omega) c
theorem RW_least {l : List Ne} (h : mayK l = true) {n : Nd} : ∀ {k : Nat}, 1 ≤ k → RW l k n → ∃ j, 1 ≤ j ∧ j ≤ k ∧ n ∈ atW l j := by
  intro k
  induction k using Nat.strongRecOn with
  | _ k ih =>
    intro h1 hr
    by_cases e : ∃ i, 1 ≤ i ∧ i < k ∧ RW l i n
    · obtain ⟨i, x, y, z⟩ := e
      obtain ⟨j, a, b, c⟩ := ih i y x z
      exact ⟨j, a, by omega, c⟩
    · exact ⟨k, h1, Nat.le_refl _, (atW_iff h).2 ⟨hr, fun i x y z => e ⟨i, x, y, z⟩⟩⟩
theorem atW_one {l : List Ne} (h : mayK l = true) {n : Nd} {i j : Nat} (h1 : 1 ≤ i) (h2 : 1 ≤ j) (hi : n ∈ atW l i) (hj : n ∈ atW l j) : i = j := by
  obtain ⟨a, b⟩ := (atW_iff h).1 hi
  obtain ⟨c, d⟩ := (atW_iff h).1 hj
  rcases Nat.lt_trichotomy i j with e | e | e
  · exact absurd a (d i h1 e)
  · exact e
  · exact absurd c (b j h2 e)
theorem atW_nil {l : List Ne} (h : mayK l = true) {k : Nat} (e : atW l k = []) : atW l (k + 1) = [] := by
  refine List.eq_nil_iff_forall_not_mem.2 fun n hn => ?_
  rw [atW_succ, nextW_mem h] at hn
  obtain ⟨⟨x, hx, _⟩, _⟩ := hn
  rw [e] at hx; cases hx
theorem atW_nil_le {l : List Ne} (h : mayK l = true) {k : Nat} (e : atW l k = []) : ∀ {j : Nat}, k ≤ j → atW l j = []
  | 0, hj => by rw [← Nat.le_zero.1 hj]; exact e
  | j + 1, hj => by
    by_cases x : k = j + 1
    · rw [← x]; exact e
    · exact atW_nil h (atW_nil_le h e (by omega))
theorem metW_nodup {l : List Ne} (h : mayK l = true) : ∀ k : Nat, (metW l k).Nodup
  | 0 => List.nodup_nil
  | k + 1 => by
    rw [metW_succ]
    refine List.nodup_append.2 ⟨metW_nodup h k, rises_nodup (nextW_rises _ _ _), ?_⟩
    intro a ha b hb e
    subst e
    rw [atW_succ, nextW_mem h] at hb
    exact hb.2 ha
theorem atW_to {l : List Ne} (h : mayK l = true) {n : Nd} {k : Nat} (hn : n ∈ atW l (k + 1)) : n ∈ l.map (·.2) := by
  rw [atW_succ, nextW_mem h] at hn
  obtain ⟨⟨x, _, hx⟩, _⟩ := hn
  exact List.mem_map.2 ⟨_, hx, rfl⟩
theorem metW_le {l : List Ne} (h : mayK l = true) (k : Nat) : (metW l k).length ≤ l.length := by
  have e : (l.map (·.2)).length = l.length := by simp
  rw [← e]
  refine (metW_nodup h k).length_le_of_subset fun n hn => ?_
  obtain ⟨j, a, _, c⟩ := metW_mem.1 hn
  obtain ⟨i, rfl⟩ : ∃ i, j = i + 1 := ⟨j - 1, by omega⟩
  exact atW_to h c
theorem metW_ge {l : List Ne} (h : mayK l = true) : ∀ k : Nat, atW l k ≠ [] → k ≤ (metW l k).length
  | 0, _ => Nat.zero_le _
  | k + 1, he => by
    have e : atW l k ≠ [] := fun e => he (atW_nil h e)
    have := metW_ge h k e
    rw [metW_succ, List.length_append]
    have := List.length_pos_iff.2 he
    omega
/-- There are no more levels than needs. -/
theorem atW_le {l : List Ne} (h : mayK l = true) {k : Nat} (he : atW l k ≠ []) : k ≤ l.length := Nat.le_trans (metW_ge h k he) (metW_le h k)
theorem atW_len {l : List Ne} (h : mayK l = true) (k : Nat) : (atW l (k + 1)).length ≤ l.length := by
  have := metW_le h (k + 1)
  rw [metW_succ, List.length_append] at this; omega
/-! ### How far -/
def nlW (l : List Ne) : Nat := ((List.range l.length).takeWhile fun k => !(atW l (k + 1)).isEmpty).length
def levW (l : List Ne) (k : Nat) : List (List Nd) := ((List.range k).map fun j => atW l (j + 1)).filter fun x => !x.isEmpty
def farW (l : List Ne) (n : Nd) : Nat := match (List.range l.length).find? fun k => hasN (atW l (k + 1)) n with | some k => k + 1 | none => 0
theorem farW_at {l : List Ne} (h : mayK l = true) {n : Nd} {k : Nat} (hn : n ∈ atW l (k + 1)) : farW l n = k + 1 := by
  unfold farW
  have hk : k < l.length := by
    have := atW_le h (k := k + 1) (fun e => by rw [e] at hn; cases hn)
    omega
  cases e : (List.range l.length).find? fun k => hasN (atW l (k + 1)) n with
  | none => exact absurd (hasN_iff.2 hn) (by simpa using List.find?_eq_none.1 e k (List.mem_range.2 hk))
  | some j =>
    have hj := List.find?_some e
    have := atW_one h (by omega) (by omega) (hasN_iff.1 hj) hn
    simp only
    exact this
theorem farW_zero {l : List Ne} (h : mayK l = true) {n : Nd} : farW l n = 0 ↔ ∀ k, ¬ RW l (k + 1) n := by
  constructor
  · intro e k hr
    obtain ⟨j, a, _, c⟩ := RW_least h (by omega) hr
    obtain ⟨i, rfl⟩ : ∃ i, j = i + 1 := ⟨j - 1, by omega⟩
    rw [farW_at h c] at e; cases e
  · intro hr
    unfold farW
    cases e : (List.range l.length).find? fun k => hasN (atW l (k + 1)) n with
    | none => rfl
    | some j => exact absurd ((atW_iff h).1 (hasN_iff.1 (List.find?_some (p := fun k => hasN (atW l (k + 1)) n) e))).1 (hr j)
theorem farW_pos {l : List Ne} (h : mayK l = true) {n : Nd} (hp : 0 < farW l n) : n ∈ atW l (farW l n) := by
  by_cases e : ∃ k, RW l (k + 1) n
  · obtain ⟨k, hr⟩ := e
    obtain ⟨j, a, _, c⟩ := RW_least h (by omega) hr
    obtain ⟨i, rfl⟩ : ∃ i, j = i + 1 := ⟨j - 1, by omega⟩
    rw [farW_at h c]; exact c
  · have := (farW_zero h).2 fun k hr => e ⟨k, hr⟩
    omega
theorem farW_le {l : List Ne} (h : mayK l = true) {n : Nd} {k : Nat} (hr : RW l (k + 1) n) : 0 < farW l n ∧ farW l n ≤ k + 1 := by
  obtain ⟨j, a, b, c⟩ := RW_least h (by omega) hr
  obtain ⟨i, rfl⟩ : ∃ i, j = i + 1 := ⟨j - 1, by omega⟩
  rw [farW_at h c]; omega
theorem farW_RW {l : List Ne} (h : mayK l = true) {n : Nd} (hp : 0 < farW l n) : RW l (farW l n) n := ((atW_iff h).1 (farW_pos h hp)).1
theorem farW_bound {l : List Ne} (h : mayK l = true) (n : Nd) : farW l n ≤ l.length := by
  rcases Nat.eq_zero_or_pos (farW l n) with e | e
  · omega
  · exact atW_le h (fun x => by have := farW_pos h e; rw [x] at this; cases this)
/-- A need of the root, or of what is so far away. -/
theorem farW_step {l : List Ne} (h : mayK l = true) {a b : Nd} (hm : (a, b) ∈ l) (ha : a = rootN ∨ 0 < farW l a) : 0 < farW l b ∧ farW l b ≤ farW l a + 1 := by
  rcases ha with rfl | ha
  · have := farW_le h (n := b) (k := 0) ⟨rootN, rfl, hm⟩
    omega
  · exact farW_le h ⟨a, farW_RW h ha, hm⟩
theorem farW_root {l : List Ne} (h : mayK l = true) : farW l rootN = 0 := (farW_zero h).2 fun _ => RW_root h
theorem farW_one {l : List Ne} (h : mayK l = true) {b : Nd} : farW l b = 1 ↔ (rootN, b) ∈ l := by
  constructor
  · intro e
    obtain ⟨m, hm, hl⟩ := e ▸ farW_RW h (n := b) (by omega)
    obtain rfl : m = rootN := hm
    exact hl
  · intro hm
    have := farW_step h hm (.inl rfl)
    rw [farW_root h] at this; omega
/-! ### The chain -/
def parW (l : List Ne) (k : Nat) (n : Nd) : Option Nd := (atW l k).find? fun m => hasD l m n
def chW (l : List Ne) : Nat → Nd → List Nd
  | 0, n => [n]
  | 1, n => [n]
  | k + 2, n => match parW l (k + 1) n with | some m => chW l (k + 1) m ++ [n] | none => []
theorem chW_eq (l : List Ne) (k : Nat) (n : Nd) : chW l (k + 2) n = match parW l (k + 1) n with | some m => chW l (k + 1) m ++ [n] | none => [] := rfl
theorem revW_snoc (x : List Nd) (n : Nd) : (x ++ [n]).reverse = n :: x.reverse := by simp
theorem parW_some {l : List Ne} (h : mayK l = true) {k : Nat} {n : Nd} (hn : n ∈ atW l (k + 2)) : ∃ m, parW l (k + 1) n = some m ∧ m ∈ atW l (k + 1) ∧ (m, n) ∈ l := by
  rw [atW_succ, nextW_mem h] at hn
  obtain ⟨⟨x, hx, hl⟩, _⟩ := hn
  unfold parW
  cases e : (atW l (k + 1)).find? fun m => hasD l m n with
  | none => exact absurd (hasD_iff.2 hl) (List.find?_eq_none.1 e x hx)
  | some m => exact ⟨m, rfl, List.mem_of_find?_eq_some e, hasD_iff.1 (List.find?_some (p := fun m => hasD l m n) e)⟩
theorem chW_succ {l : List Ne} (h : mayK l = true) {k : Nat} {n : Nd} (hn : n ∈ atW l (k + 2)) : ∃ m, parW l (k + 1) n = some m ∧ m ∈ atW l (k + 1) ∧ (m, n) ∈ l ∧ chW l (k + 2) n = chW l (k + 1) m ++ [n] := by
  obtain ⟨m, e, h1, h2⟩ := parW_some h hn
  exact ⟨m, e, h1, h2, by rw [chW_eq, e]⟩
theorem chW_len {l : List Ne} (h : mayK l = true) : ∀ (k : Nat) (n : Nd), n ∈ atW l (k + 1) → (chW l (k + 1) n).length = k + 1
  | 0, _, _ => rfl
  | k + 1, n, hn => by
    obtain ⟨m, _, h1, _, e⟩ := chW_succ h hn
    rw [e, List.length_append, chW_len h k m h1]; rfl
theorem chW_last {l : List Ne} (h : mayK l = true) (k : Nat) (n : Nd) (hn : n ∈ atW l (k + 1)) : ∃ x, chW l (k + 1) n = x ++ [n] := by
  cases k with
  | zero => exact ⟨[], rfl⟩
  | succ k => obtain ⟨m, _, _, _, e⟩ := chW_succ h hn; exact ⟨_, e⟩
theorem chW_from {l : List Ne} (h : mayK l = true) : ∀ (k : Nat) (n : Nd), n ∈ atW l (k + 1) → fromW l rootN (chW l (k + 1) n) = true
  | 0, n, hn => by
    have := (farW_one h).1 (farW_at h hn)
    unfold chW fromW fromW
    rw [hasD_iff.2 this]; rfl
  | k + 1, n, hn => by
    obtain ⟨m, _, h1, h2, e⟩ := chW_succ h hn
    obtain ⟨x, hx⟩ := chW_last h k m h1
    rw [e, fromW_snoc, chW_from h k m h1, hx]
    simpa using hasD_iff.2 h2
/-- Each beginning of a chain is the chain to its last one. -/
theorem chW_take {l : List Ne} (h : mayK l = true) : ∀ (k : Nat) (n : Nd), n ∈ atW l (k + 1) → ∀ i, i < k + 1 → (chW l (k + 1) n).getD i rootN ∈ atW l (i + 1) ∧ (chW l (k + 1) n).take (i + 1) = chW l (i + 1) ((chW l (k + 1) n).getD i rootN)
  | 0, n, hn, i, hi => by
    obtain rfl : i = 0 := by omega
    exact ⟨hn, rfl⟩
  | k + 1, n, hn, i, hi => by
    obtain ⟨m, _, h1, h2, e⟩ := chW_succ h hn
    have hl := chW_len h k m h1
    rw [e]
    by_cases hik : i = k + 1
    · subst hik
      have : (chW l (k + 1) m ++ [n]).getD (k + 1) rootN = n := by
        rw [List.getD_eq_getElem?_getD, List.getElem?_append_right (by omega), hl]; simp
      rw [this]
      exact ⟨hn, by rw [List.take_of_length_le (by rw [List.length_append, hl]; exact Nat.le_refl _), e]⟩
    · have hlt : i < k + 1 := by omega
      have hg : (chW l (k + 1) m ++ [n]).getD i rootN = (chW l (k + 1) m).getD i rootN := by
        rw [List.getD_eq_getElem?_getD, List.getD_eq_getElem?_getD, List.getElem?_append_left (by omega)]
      rw [hg, List.take_append_of_le_length (by omega)]
      exact chW_take h k m h1 i hlt
/-! ### None comes ahead of it -/
def lowW : List Nd → List Nd → Bool
  | a :: x, b :: y => if a = b then lowW x y else ltN a b
  | _, _ => false
/-- Held from the last one on. -/
def lowerW (a b : List Nd) : Bool := lowW a.reverse b.reverse
theorem findW_least : ∀ {l : List Nd} {p : Nd → Bool} {m x : Nd}, Rises l → l.find? p = some m → x ∈ l → p x = true → m = x ∨ ltN m x = true
  | [], _, _, _, _, h, _, _ => by cases h
  | y :: l, p, m, x, hr, h, hx, hp => by
    obtain ⟨h1, h2⟩ := List.pairwise_cons.1 hr
    rw [List.find?_cons] at h
    cases hy : p y
    · rw [hy] at h
      rcases List.mem_cons.1 hx with rfl | hx
      · rw [hy] at hp; cases hp
      · exact findW_least h2 h hx hp
    · rw [hy] at h
      obtain rfl : y = m := by simpa using h
      rcases List.mem_cons.1 hx with rfl | hx
      · exact .inl rfl
      · exact .inr (h1 x hx)
theorem chW_least {l : List Ne} (h : mayK l = true) : ∀ (k : Nat) (n : Nd), n ∈ atW l (k + 1) → ∀ c, fromW l rootN c = true → c.getLast? = some n → c.length = k + 1 → lowerW c (chW l (k + 1) n) = false
  | 0, n, hn, c, hc, hl, hk => by
    obtain ⟨x, rfl⟩ := List.length_eq_one_iff.1 hk
    obtain rfl : x = n := by simpa using hl
    unfold lowerW chW
    simp [lowW]
  | k + 1, n, hn, c, hc, hl, hk => by
    obtain ⟨m, hp, h1, h2, e⟩ := chW_succ h hn
    obtain ⟨x, y, rfl⟩ : ∃ x y, c = x ++ [y] := ⟨c.dropLast, c.getLast (by intro e; rw [e] at hk; cases hk), (List.dropLast_concat_getLast _).symm⟩
    obtain rfl : y = n := by simpa using hl
    rw [List.length_append, List.length_singleton] at hk
    obtain ⟨x, z, rfl⟩ : ∃ x2 z, x = x2 ++ [z] := ⟨x.dropLast, x.getLast (by intro e; rw [e] at hk; simp at hk), (List.dropLast_concat_getLast _).symm⟩
    rw [fromW_snoc, Bool.and_eq_true] at hc
    obtain ⟨hc1, hc2⟩ := hc
    have hz : (z, y) ∈ l := by simpa using hasD_iff.1 hc2
    have hlen : (x ++ [z]).length = k + 1 := by omega
    have hrz : RW l (k + 1) z := by simpa using isW_RW (k + 1) (x ++ [z]) hlen hc1
    have hza : z ∈ atW l (k + 1) := by
      have hf := farW_le h hrz
      have hs := farW_step h hz (.inr hf.1)
      have hy := farW_at h hn
      have : farW l z = k + 1 := by omega
      exact this ▸ farW_pos h hf.1
    have ih := chW_least h k z hza (x ++ [z]) hc1 (by simp) hlen
    have hle := findW_least (p := fun m => hasD l m y) (nextW_rises _ _ _) hp hza (hasD_iff.2 hz)
    rw [e]
    unfold lowerW
    rw [revW_snoc (x ++ [z]) y, revW_snoc (chW l (k + 1) m) y]
    unfold lowW
    rw [if_pos rfl]
    obtain ⟨q, hq⟩ := chW_last h k m h1
    rcases hle with rfl | hlt
    · exact ih
    · rw [hq, revW_snoc x z, revW_snoc q m]
      unfold lowW
      rw [if_neg (fun e => by subst e; rw [ltN_irrefl] at hlt; cases hlt)]
      exact ltN_asym hlt
/-! ### More needs, and in another order -/
theorem RW_mono {l m : List Ne} (h : ∀ d ∈ l, d ∈ m) : ∀ {k : Nat} {n : Nd}, RW l k n → RW m k n
  | 0, _, e => e
  | _ + 1, _, ⟨x, hx, hd⟩ => ⟨x, RW_mono h hx, h _ hd⟩
theorem farW_more {l m : List Ne} (hl : mayK l = true) (hm : mayK m = true) (h : ∀ d ∈ l, d ∈ m) {n : Nd} (hp : 0 < farW l n) : 0 < farW m n ∧ farW m n ≤ farW l n := by
  obtain ⟨k, hk⟩ : ∃ k, farW l n = k + 1 := ⟨farW l n - 1, by omega⟩
  rw [hk]
  exact farW_le hm (RW_mono h (hk ▸ farW_RW hl hp))
theorem nextW_same {l m : List Ne} (hm : mayK m = true) (h : ∀ d, d ∈ l ↔ d ∈ m) (a e : List Nd) : nextW l a e = nextW m a e := by
  have hl : mayK l = true := mayK_sub hm fun d hd => (h d).1 hd
  refine rises_eq (nextW_rises _ _ _) (nextW_rises _ _ _) fun n => ?_
  rw [nextW_mem hl, nextW_mem hm]
  simp only [h]
theorem lvW_same {l m : List Ne} (hm : mayK m = true) (h : ∀ d, d ∈ l ↔ d ∈ m) : ∀ k, lvW l k = lvW m k
  | 0 => rfl
  | k + 1 => by unfold lvW; rw [lvW_same hm h k, nextW_same hm h]
theorem atW_same {l m : List Ne} (hm : mayK m = true) (h : ∀ d, d ∈ l ↔ d ∈ m) (k : Nat) : atW l k = atW m k := by unfold atW; rw [lvW_same hm h]
theorem farW_same {l m : List Ne} (hm : mayK m = true) (h : ∀ d, d ∈ l ↔ d ∈ m) (n : Nd) : farW l n = farW m n := by
  have hl : mayK l = true := mayK_sub hm fun d hd => (h d).1 hd
  rcases Nat.eq_zero_or_pos (farW l n) with e | e
  · rw [e]
    refine ((farW_zero hm).2 fun k hr => (farW_zero hl).1 e k (RW_mono (fun d hd => (h d).2 hd) hr)).symm
  · have h1 := farW_more hl hm (fun d hd => (h d).1 hd) e
    have h2 := farW_more hm hl (fun d hd => (h d).2 hd) h1.1
    omega
theorem hasD_same {l m : List Ne} (h : ∀ d, d ∈ l ↔ d ∈ m) (a b : Nd) : hasD l a b = hasD m a b := by
  rw [Bool.eq_iff_iff, hasD_iff, hasD_iff, h]
theorem chW_same {l m : List Ne} (hm : mayK m = true) (h : ∀ d, d ∈ l ↔ d ∈ m) : ∀ (k : Nat) (n : Nd), chW l k n = chW m k n
  | 0, _ => rfl
  | 1, _ => rfl
  | k + 2, n => by
    have hp : parW l (k + 1) n = parW m (k + 1) n := by
      unfold parW
      rw [atW_same hm h]
      exact congrArg (fun p => List.find? p (atW m (k + 1))) (funext fun a => hasD_same h a n)
    rw [chW_eq, chW_eq, hp]
    cases parW m (k + 1) n with
    | none => rfl
    | some x => simp only; rw [chW_same hm h (k + 1) x]
/-! ### What is told -/
def allW (l : List Ne) : List Nd := setN (metW l l.length)
abbrev Dp := Nd × Int
def depW (l : List Ne) : List Dp := (allW l).map fun n => (n, (farW l n : Int))
theorem metW_ok {l : List Ne} (h : mayK l = true) {k : Nat} : ∀ n ∈ metW l k, okN n = true := fun n hn => by
  obtain ⟨j, a, _, c⟩ := metW_mem.1 hn
  obtain ⟨i, rfl⟩ : ∃ i, j = i + 1 := ⟨j - 1, by omega⟩
  exact checkN_ok (atW_check h i) n c
theorem allW_mem {l : List Ne} (h : mayK l = true) {n : Nd} : n ∈ allW l ↔ 0 < farW l n := by
  unfold allW
  rw [setN_mem (metW_ok h), metW_mem]
  constructor
  · rintro ⟨j, a, _, c⟩
    obtain ⟨i, rfl⟩ : ∃ i, j = i + 1 := ⟨j - 1, by omega⟩
    rw [farW_at h c]; omega
  · intro hp
    exact ⟨_, hp, farW_bound h n, farW_pos h hp⟩
theorem allW_rises (l : List Ne) : Rises (allW l) := setN_rises _
theorem depW_same {l m : List Ne} (hm : mayK m = true) (h : ∀ d, d ∈ l ↔ d ∈ m) : depW l = depW m := by
  have hl : mayK l = true := mayK_sub hm fun d hd => (h d).1 hd
  have : allW l = allW m := rises_eq (allW_rises l) (allW_rises m) fun n => by rw [allW_mem hl, allW_mem hm, farW_same hm h]
  unfold depW
  rw [this]
  exact List.map_congr_left fun n _ => by rw [farW_same hm h]
def depWE (l : List Ne) : List Dp × Int := if mayK l = true then (depW l, 0) else ([], 1)
def chainW (l : List Ne) (n : Nd) : List Nd := if farW l n = 0 then [] else chW l (farW l n) n
end Go.Proofs.Ytdefphacdcbljaa
