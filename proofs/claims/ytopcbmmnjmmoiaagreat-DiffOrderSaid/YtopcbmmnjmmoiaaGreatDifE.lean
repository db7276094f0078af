/- THE TEXTS OF DifM DifA DifB DifE: Lists of nodes held against one another, edits: plain facts. Edits in memory: slices of them, rows of the call's own, what comes in; two edits' sameness. Maps from nodes to numbers: how often each is there. The keys of a map from nodes to numbers, one by one, whatever their order, and what collects them. -/
import Derived.Test.YtopcbmmnjmmoiaaGreatNodM
import Derived.Test.YtopcbmmnjmmoiaaGreatRolB
import Derived.Test.YtopcbmmnjmmoiaaGreatNodY
import Derived.Test.YtopcbmmnjmmoiaaGreatNodR
import Derived.Laws.StructEq
import Derived.Deep.SlicePairs
import Derived.Deep.QuietTactic
import Derived.BigQuiet
import Derived.Maps.OwnOps
import Derived.Maps.OwnSet
import Derived.Maps.RangeWalk
import Derived.WideKeyEntry
import Derived.RangeFuncNested
import Derived.RangeFuncBox
import Derived.RangeFuncBound
import Derived.RangeFuncCalls
import Derived.Sort.MapsRangeIn
import Derived.Shelf.Abstract
import Derived.Shelf.AbstractIn
import Derived.WalkKit
import Derived.OwnWalkIn
import Derived.TacticsInMore
import Derived.RegionIn
import Derived.LoopNIn
import Derived.LoopIn
import Derived.Maps.AppendAt
namespace Go.Proofs.YtopcbmmnjmmoiaaGreat
set_option linter.unusedVariables false
set_option maxRecDepth 100000

/-- An edit: a node, and by how many more it is there. -/
abbrev De := Nd × Int
abbrev zD : De := (([], []), 0)
/-- No further than may be. -/
def inD (z : Int) : Bool := decide (-1099511627776 ≤ z) && decide (z ≤ 1099511627776)
theorem inD_iff {z : Int} : inD z = true ↔ -1099511627776 ≤ z ∧ z ≤ 1099511627776 := by unfold inD; simp
abbrev keyD (l : List De) : List Nd := l.map Prod.fst
theorem keyD_cons (x : De) (l : List De) : keyD (x :: l) = x.1 :: keyD l := rfl
def byOk (l : List De) : Bool := l.all fun e => !decide (e.2 = 0) && inD e.2
def okD (l : List De) : Bool := byOk l && checkN (keyD l)
def byD : List De → Nd → Int
  | [], _ => 0
  | e :: l, n => (if e.1 = n then e.2 else 0) + byD l n
def mkD : List Nd → (Nd → Int) → List De
  | [], _ => []
  | n :: s, f => if f n = 0 then mkD s f else (n, f n) :: mkD s f
def cntN (l : List Nd) (n : Nd) : Nat := l.count n
def turnD (l : List De) : List De := l.map fun e => (e.1, -e.2)
/-- Two edits as one, the one that comes next first. -/
def mergeD : List De → List De → List De
  | [], b => b
  | x :: a, [] => x :: a
  | x :: a, y :: b => if ltN x.1 y.1 then x :: mergeD a (y :: b) else if ltN y.1 x.1 then y :: mergeD (x :: a) b else if x.2 + y.2 = 0 then mergeD a b else (x.1, x.2 + y.2) :: mergeD a b
termination_by a b => a.length + b.length

theorem byOk_iff {l : List De} : byOk l = true ↔ ∀ e ∈ l, e.2 ≠ 0 ∧ inD e.2 = true := by
  unfold byOk; rw [List.all_eq_true]; simp
theorem okD_parts {l : List De} (h : okD l = true) : byOk l = true ∧ checkN (keyD l) = true := by unfold okD at h; simpa using h
theorem okD_of {l : List De} (h : byOk l = true) (k : checkN (keyD l) = true) : okD l = true := by unfold okD; rw [h, k]; rfl
theorem okD_ok {l : List De} (h : okD l = true) : ∀ e ∈ l, okN e.1 = true := fun e he => checkN_ok (okD_parts h).2 _ (List.mem_map_of_mem he)
theorem okD_rise {l : List De} (h : okD l = true) : Rises (keyD l) := checkN_rises (okD_parts h).2
theorem okD_nz {l : List De} (h : okD l = true) : ∀ e ∈ l, e.2 ≠ 0 := fun e he => (byOk_iff.1 (okD_parts h).1 e he).1
theorem okD_in {l : List De} (h : okD l = true) : ∀ e ∈ l, inD e.2 = true := fun e he => (byOk_iff.1 (okD_parts h).1 e he).2

/-! ### By how many -/
theorem byD_cons (e : De) (l : List De) (n : Nd) : byD (e :: l) n = (if e.1 = n then e.2 else 0) + byD l n := rfl
theorem byD_app (l m : List De) (n : Nd) : byD (l ++ m) n = byD l n + byD m n := by
  induction l with
  | nil => simp [byD]
  | cons e l ih => rw [List.cons_append, byD_cons, byD_cons, ih]; omega
theorem byD_not {l : List De} {n : Nd} (h : n ∉ keyD l) : byD l n = 0 := by
  induction l with
  | nil => rfl
  | cons e l ih =>
    have h1 : ¬ e.1 = n := fun k => h (by simp [k])
    rw [byD_cons, if_neg h1, ih (fun k => h (by simp only [List.map_cons, List.mem_cons]; exact .inr k))]; rfl
theorem byD_take {l : List De} {k : Nat} (h : k < l.length) (n : Nd) : byD (l.take (k + 1)) n = byD (l.take k) n + (if (l.getD k zD).1 = n then (l.getD k zD).2 else 0) := by
  rw [List.take_succ_eq_append_getElem h, byD_app]
  have e : l.getD k zD = l[k] := by rw [List.getD_eq_getElem?_getD, List.getElem?_eq_getElem h]; rfl
  rw [e, byD_cons]
  simp [byD]
theorem rises_cons {n : Nd} {s : List Nd} (h : Rises (n :: s)) : Rises s ∧ n ∉ s ∧ ∀ m ∈ s, ltN n m = true := by
  obtain ⟨h1, h2⟩ := List.pairwise_cons.1 h
  refine ⟨h2, ?_, h1⟩
  intro k
  have := h1 n k
  rw [ltN_irrefl] at this
  cases this
theorem byD_mem {l : List De} (h : Rises (keyD l)) {e : De} (he : e ∈ l) : byD l e.1 = e.2 := by
  induction l with
  | nil => cases he
  | cons x l ih =>
    obtain ⟨h1, h2, _⟩ := rises_cons h
    rcases List.mem_cons.1 he with rfl | he
    · rw [byD_cons, if_pos rfl, byD_not h2]; omega
    · have hne : ¬ x.1 = e.1 := fun k => h2 (by rw [k]; exact List.mem_map_of_mem he)
      rw [byD_cons, if_neg hne, ih h1 he]; omega
theorem byD_nz {l : List De} (h : Rises (keyD l)) (hz : ∀ e ∈ l, e.2 ≠ 0) (n : Nd) : n ∈ keyD l ↔ byD l n ≠ 0 := by
  constructor
  · intro hn
    obtain ⟨e, he, rfl⟩ := List.mem_map.1 hn
    rw [byD_mem h he]; exact hz e he
  · intro hn
    by_cases k : n ∈ keyD l
    · exact k
    · exact absurd (byD_not k) hn
theorem mkD_congr {s : List Nd} {f g : Nd → Int} (h : ∀ n ∈ s, f n = g n) : mkD s f = mkD s g := by
  induction s with
  | nil => rfl
  | cons n s ih =>
    have h1 := h n List.mem_cons_self
    have h2 := ih fun m hm => h m (List.mem_cons_of_mem _ hm)
    unfold mkD
    rw [h1, h2]
theorem mkD_self {l : List De} (h : Rises (keyD l)) (hz : ∀ e ∈ l, e.2 ≠ 0) : mkD (keyD l) (byD l) = l := by
  induction l with
  | nil => rfl
  | cons x l ih =>
    obtain ⟨h1, h2, _⟩ := rises_cons h
    have e : byD (x :: l) x.1 = x.2 := byD_mem h List.mem_cons_self
    have e2 : mkD (keyD l) (byD (x :: l)) = mkD (keyD l) (byD l) := mkD_congr fun n hn => by
      have : ¬ x.1 = n := fun k => h2 (k ▸ hn)
      rw [byD_cons, if_neg this]; omega
    rw [keyD_cons, mkD, e, if_neg (hz x List.mem_cons_self), e2, ih h1 fun e he => hz e (List.mem_cons_of_mem _ he)]
/-- Edits in order, none by 0, are told by how many more each node is there. -/
theorem edits_ext {l m : List De} (hl : Rises (keyD l)) (hm : Rises (keyD m)) (zl : ∀ e ∈ l, e.2 ≠ 0) (zm : ∀ e ∈ m, e.2 ≠ 0) (h : ∀ n, byD l n = byD m n) : l = m := by
  have e : keyD l = keyD m := rises_eq hl hm fun n => by rw [byD_nz hl zl, byD_nz hm zm, h]
  rw [← mkD_self hl zl, ← mkD_self hm zm, e]
  exact mkD_congr fun n _ => h n

/-! ### Edits made of a function -/
theorem mkD_app (s t : List Nd) (f : Nd → Int) : mkD (s ++ t) f = mkD s f ++ mkD t f := by
  induction s with
  | nil => rfl
  | cons n s ih =>
    rw [List.cons_append, mkD, mkD, ih]
    split <;> simp
theorem mkD_take {s : List Nd} {k : Nat} (h : k < s.length) (f : Nd → Int) : mkD (s.take (k + 1)) f = mkD (s.take k) f ++ (if f (s.getD k ([], [])) = 0 then [] else [(s.getD k ([], []), f (s.getD k ([], [])))]) := by
  rw [List.take_succ_eq_append_getElem h, mkD_app, nd_getD h]
  rfl
theorem mkD_len (s : List Nd) (f : Nd → Int) : (mkD s f).length ≤ s.length := by
  induction s with
  | nil => exact Nat.le_refl _
  | cons n s ih => rw [mkD]; split <;> simp <;> omega
theorem mkD_mem {s : List Nd} {f : Nd → Int} {e : De} : e ∈ mkD s f ↔ e.1 ∈ s ∧ e.2 = f e.1 ∧ e.2 ≠ 0 := by
  induction s with
  | nil => simp [mkD]
  | cons n s ih =>
    rw [mkD]
    obtain ⟨a, z⟩ := e
    simp only at ih
    split
    · rename_i h
      rw [ih]
      simp only [List.mem_cons]
      refine ⟨fun ⟨h1, h2, h3⟩ => ⟨.inr h1, h2, h3⟩, fun ⟨h1, h2, h3⟩ => ⟨?_, h2, h3⟩⟩
      rcases h1 with rfl | h1
      · exact absurd (h2.trans h) h3
      · exact h1
    · rename_i h
      simp only [List.mem_cons, ih, Prod.mk.injEq]
      constructor
      · rintro (⟨rfl, rfl⟩ | ⟨h1, h2, h3⟩)
        · exact ⟨.inl rfl, rfl, h⟩
        · exact ⟨.inr h1, h2, h3⟩
      · rintro ⟨rfl | h1, h2, h3⟩
        · exact .inl ⟨rfl, h2⟩
        · exact .inr ⟨h1, h2, h3⟩
theorem mkD_keys (s : List Nd) (f : Nd → Int) : keyD (mkD s f) = s.filter fun n => !decide (f n = 0) := by
  induction s with
  | nil => rfl
  | cons n s ih =>
    rw [mkD]
    by_cases h : f n = 0
    · rw [if_pos h, ih, List.filter_cons]; simp [h]
    · rw [if_neg h, keyD_cons, ih, List.filter_cons]; simp [h]
theorem mkD_rise {s : List Nd} (h : Rises s) (f : Nd → Int) : Rises (keyD (mkD s f)) := by rw [mkD_keys]; exact h.filter _
theorem mkD_nz {s : List Nd} {f : Nd → Int} : ∀ e ∈ mkD s f, e.2 ≠ 0 := fun _ he => (mkD_mem.1 he).2.2
theorem mkD_okN {s : List Nd} {f : Nd → Int} (h : ∀ n ∈ s, okN n = true) : ∀ n ∈ keyD (mkD s f), okN n = true := fun n hn => by
  rw [mkD_keys] at hn; exact h n (List.mem_filter.1 hn).1
theorem mkD_by {s : List Nd} (hs : Rises s) {f : Nd → Int} (hf : ∀ n, n ∉ s → f n = 0) (n : Nd) : byD (mkD s f) n = f n := by
  by_cases hn : n ∈ keyD (mkD s f)
  · obtain ⟨e, he, rfl⟩ := List.mem_map.1 hn
    rw [byD_mem (mkD_rise hs f) he, (mkD_mem.1 he).2.1]
  · rw [byD_not hn]
    by_cases h0 : f n = 0
    · exact h0.symm
    · exfalso
      have h1 : n ∈ s := by
        by_cases k : n ∈ s
        · exact k
        · exact absurd (hf n k) h0
      exact hn (by rw [mkD_keys]; exact List.mem_filter.2 ⟨h1, by simp [h0]⟩)
theorem mkD_okD {s : List Nd} {f : Nd → Int} (hs : Rises s) (ho : ∀ n ∈ s, okN n = true) (hf : ∀ n ∈ s, inD (f n) = true) : okD (mkD s f) = true := by
  refine okD_of (byOk_iff.2 fun e he => ?_) (checkN_of (mkD_okN ho) (mkD_rise hs f))
  obtain ⟨h1, h2, h3⟩ := mkD_mem.1 he
  exact ⟨h3, by rw [h2]; exact hf _ h1⟩

/-! ### Both -/
theorem merge_by : ∀ (a b : List De), (∀ e ∈ a, okN e.1 = true) → (∀ e ∈ b, okN e.1 = true) → ∀ n, byD (mergeD a b) n = byD a n + byD b n
  | [], b, _, _, n => by rw [mergeD]; simp [byD]
  | x :: a, [], _, _, n => by rw [mergeD]; simp [byD]
  | x :: a, y :: b, ha, hb, n => by
    have ha' : ∀ e ∈ a, okN e.1 = true := fun e he => ha e (List.mem_cons_of_mem _ he)
    have hb' : ∀ e ∈ b, okN e.1 = true := fun e he => hb e (List.mem_cons_of_mem _ he)
    rw [mergeD]
    split
    · rw [byD_cons, merge_by a (y :: b) ha' hb, byD_cons x a]; omega
    · rename_i h1
      split
      · rw [byD_cons, merge_by (x :: a) b ha hb', byD_cons y b]; omega
      · rename_i h2
        have e : x.1 = y.1 := by
          rcases ltN_tri (ha x List.mem_cons_self) (hb y List.mem_cons_self) with k | k | k
          · exact absurd k h1
          · exact k
          · exact absurd k h2
        split
        · rename_i h3
          rw [merge_by a b ha' hb', byD_cons, byD_cons, e]
          split <;> omega
        · rw [byD_cons, merge_by a b ha' hb', byD_cons, byD_cons]
          simp only [e]
          split <;> omega
termination_by a b => a.length + b.length
theorem merge_keys : ∀ (a b : List De) (n : Nd), n ∈ keyD (mergeD a b) → n ∈ keyD a ∨ n ∈ keyD b
  | [], b, n, h => by rw [mergeD] at h; exact .inr h
  | x :: a, [], n, h => by rw [mergeD] at h; exact .inl h
  | x :: a, y :: b, n, h => by
    rw [mergeD] at h
    have i1 := merge_keys a (y :: b) n
    have i2 := merge_keys (x :: a) b n
    have i3 := merge_keys a b n
    simp only [List.map_cons, List.mem_cons] at i1 i2 i3 ⊢
    split at h
    · simp only [List.map_cons, List.mem_cons] at h
      rcases h with h | h
      · exact .inl (.inl h)
      · rcases i1 h with k | k
        · exact .inl (.inr k)
        · exact .inr k
    · split at h
      · simp only [List.map_cons, List.mem_cons] at h
        rcases h with h | h
        · exact .inr (.inl h)
        · rcases i2 h with k | k
          · exact .inl k
          · exact .inr (.inr k)
      · split at h
        · rcases i3 h with k | k
          · exact .inl (.inr k)
          · exact .inr (.inr k)
        · simp only [List.map_cons, List.mem_cons] at h
          rcases h with h | h
          · exact .inl (.inl h)
          · rcases i3 h with k | k
            · exact .inl (.inr k)
            · exact .inr (.inr k)
termination_by a b => a.length + b.length
theorem merge_nz : ∀ (a b : List De), (∀ e ∈ a, e.2 ≠ 0) → (∀ e ∈ b, e.2 ≠ 0) → ∀ e ∈ mergeD a b, e.2 ≠ 0
  | [], b, _, hb, e, h => by rw [mergeD] at h; exact hb e h
  | x :: a, [], ha, _, e, h => by rw [mergeD] at h; exact ha e h
  | x :: a, y :: b, ha, hb, e, h => by
    have ha' : ∀ e ∈ a, e.2 ≠ 0 := fun e he => ha e (List.mem_cons_of_mem _ he)
    have hb' : ∀ e ∈ b, e.2 ≠ 0 := fun e he => hb e (List.mem_cons_of_mem _ he)
    rw [mergeD] at h
    split at h
    · rcases List.mem_cons.1 h with rfl | h
      · exact ha _ List.mem_cons_self
      · exact merge_nz a (y :: b) ha' hb e h
    · split at h
      · rcases List.mem_cons.1 h with rfl | h
        · exact hb _ List.mem_cons_self
        · exact merge_nz (x :: a) b ha hb' e h
      · split at h
        · exact merge_nz a b ha' hb' e h
        · rename_i h3
          rcases List.mem_cons.1 h with rfl | h
          · exact h3
          · exact merge_nz a b ha' hb' e h
termination_by a b => a.length + b.length
theorem merge_rise : ∀ (a b : List De), (∀ e ∈ a, okN e.1 = true) → (∀ e ∈ b, okN e.1 = true) → Rises (keyD a) → Rises (keyD b) → Rises (keyD (mergeD a b))
  | [], b, _, _, _, hb => by rw [mergeD]; exact hb
  | x :: a, [], _, _, ha, _ => by rw [mergeD]; exact ha
  | x :: a, y :: b, oa, ob, ha, hb => by
    have oa' : ∀ e ∈ a, okN e.1 = true := fun e he => oa e (List.mem_cons_of_mem _ he)
    have ob' : ∀ e ∈ b, okN e.1 = true := fun e he => ob e (List.mem_cons_of_mem _ he)
    obtain ⟨ha1, _, ha3⟩ := rises_cons ha
    obtain ⟨hb1, _, hb3⟩ := rises_cons hb
    rw [mergeD]
    split
    · rename_i h1
      refine List.pairwise_cons.2 ⟨fun n hn => ?_, merge_rise a (y :: b) oa' ob ha1 hb⟩
      rcases merge_keys _ _ _ hn with k | k
      · exact ha3 n k
      · simp only [List.map_cons, List.mem_cons] at k
        rcases k with rfl | k
        · exact h1
        · exact ltN_trans h1 (hb3 n k)
    · rename_i h1
      split
      · rename_i h2
        refine List.pairwise_cons.2 ⟨fun n hn => ?_, merge_rise (x :: a) b oa ob' ha hb1⟩
        rcases merge_keys _ _ _ hn with k | k
        · simp only [List.map_cons, List.mem_cons] at k
          rcases k with rfl | k
          · exact h2
          · exact ltN_trans h2 (ha3 n k)
        · exact hb3 n k
      · rename_i h2
        have e : x.1 = y.1 := by
          rcases ltN_tri (oa x List.mem_cons_self) (ob y List.mem_cons_self) with k | k | k
          · exact absurd k h1
          · exact k
          · exact absurd k h2
        split
        · exact merge_rise a b oa' ob' ha1 hb1
        · refine List.pairwise_cons.2 ⟨fun n hn => ?_, merge_rise a b oa' ob' ha1 hb1⟩
          rcases merge_keys _ _ _ hn with k | k
          · exact ha3 n k
          · simp only [e]; exact hb3 n k
termination_by a b => a.length + b.length
theorem merge_len : ∀ (a b : List De), (mergeD a b).length ≤ a.length + b.length
  | [], b => by rw [mergeD]; simp
  | x :: a, [] => by rw [mergeD]; simp
  | x :: a, y :: b => by
    have i1 := merge_len a (y :: b)
    have i2 := merge_len (x :: a) b
    have i3 := merge_len a b
    simp only [List.length_cons] at i1 i2 i3 ⊢
    rw [mergeD]
    split
    · simp only [List.length_cons]; omega
    · split
      · simp only [List.length_cons]; omega
      · split
        · omega
        · simp only [List.length_cons]; omega
termination_by a b => a.length + b.length
theorem merge_nil (a : List De) : mergeD a [] = a := by cases a <;> rw [mergeD]
theorem merge_nilL (a : List De) : mergeD [] a = a := by rw [mergeD]
theorem merge_l {x y : De} {a b : List De} (h : ltN x.1 y.1 = true) : mergeD (x :: a) (y :: b) = x :: mergeD a (y :: b) := by rw [mergeD, if_pos h]
theorem merge_r {x y : De} {a b : List De} (h : ltN y.1 x.1 = true) : mergeD (x :: a) (y :: b) = y :: mergeD (x :: a) b := by rw [mergeD, if_neg (by rw [ltN_asym h]; simp), if_pos h]
theorem merge_0 {x y : De} {a b : List De} (h : x.1 = y.1) (h0 : x.2 + y.2 = 0) : mergeD (x :: a) (y :: b) = mergeD a b := by rw [mergeD, h, ltN_irrefl, if_neg (by simp), if_neg (by simp), if_pos h0]
theorem merge_1 {x y : De} {a b : List De} (h : x.1 = y.1) (h0 : x.2 + y.2 ≠ 0) : mergeD (x :: a) (y :: b) = (x.1, x.2 + y.2) :: mergeD a b := by rw [mergeD, h, ltN_irrefl, if_neg (by simp), if_neg (by simp), if_neg h0]
theorem merge_parts {a b : List De} (ha : okD a = true) (hb : okD b = true) : Rises (keyD (mergeD a b)) ∧ (∀ n ∈ keyD (mergeD a b), okN n = true) ∧ (∀ e ∈ mergeD a b, e.2 ≠ 0) ∧ ∀ n, byD (mergeD a b) n = byD a n + byD b n :=
  ⟨merge_rise a b (okD_ok ha) (okD_ok hb) (okD_rise ha) (okD_rise hb), fun n hn => by
    rcases merge_keys _ _ _ hn with k | k
    · exact checkN_ok (okD_parts ha).2 n k
    · exact checkN_ok (okD_parts hb).2 n k, merge_nz a b (okD_nz ha) (okD_nz hb), merge_by a b (okD_ok ha) (okD_ok hb)⟩
theorem merge_okD {a b : List De} (ha : okD a = true) (hb : okD b = true) : okD (mergeD a b) = (mergeD a b).all fun e => inD e.2 := by
  obtain ⟨h1, h2, h3, _⟩ := merge_parts ha hb
  have k : checkN (keyD (mergeD a b)) = true := checkN_of h2 h1
  rw [Bool.eq_iff_iff, List.all_eq_true]
  constructor
  · exact fun h => okD_in h
  · exact fun h => okD_of (byOk_iff.2 fun e he => ⟨h3 e he, h e he⟩) k
/-- Whatever rises, has no 0, and says of each node what both say together, is both. -/
theorem merge_is {a b l : List De} (ha : okD a = true) (hb : okD b = true) (hl : Rises (keyD l)) (zl : ∀ e ∈ l, e.2 ≠ 0) (h : ∀ n, byD l n = byD a n + byD b n) : mergeD a b = l := by
  obtain ⟨h1, _, h3, h4⟩ := merge_parts ha hb
  exact edits_ext h1 hl h3 zl fun n => by rw [h4, h]
theorem merge_comm {a b : List De} (ha : okD a = true) (hb : okD b = true) : mergeD a b = mergeD b a := by
  obtain ⟨h1, _, h3, h4⟩ := merge_parts hb ha
  exact merge_is ha hb h1 h3 fun n => by rw [h4]; omega
/-- As the document has it. -/
theorem merge_doc {a b : List De} (ha : okD a = true) (hb : okD b = true) : mkD (setN (keyD a ++ keyD b)) (fun n => byD a n + byD b n) = mergeD a b := by
  have ho : ∀ n ∈ keyD a ++ keyD b, okN n = true := fun n hn => by
    rcases List.mem_append.1 hn with k | k
    · exact checkN_ok (okD_parts ha).2 n k
    · exact checkN_ok (okD_parts hb).2 n k
  refine (merge_is ha hb (mkD_rise (setN_rises _) _) mkD_nz fun n => mkD_by (setN_rises _) (fun n hn => ?_) n).symm
  rw [setN_mem ho, List.mem_append, not_or] at hn
  rw [byD_not hn.1, byD_not hn.2]; rfl

/-! ### Turned about -/
theorem turn_keys (l : List De) : keyD (turnD l) = keyD l := by unfold turnD keyD; rw [List.map_map]; rfl
theorem turn_len (l : List De) : (turnD l).length = l.length := by unfold turnD; rw [List.length_map]
theorem turn_by (l : List De) (n : Nd) : byD (turnD l) n = - byD l n := by
  induction l with
  | nil => rfl
  | cons e l ih =>
    have h : turnD (e :: l) = (e.1, -e.2) :: turnD l := rfl
    rw [h, byD_cons, byD_cons, ih]
    by_cases h : e.1 = n
    · rw [if_pos h, if_pos h]; omega
    · rw [if_neg h, if_neg h]; omega
theorem turn_nz {l : List De} (h : ∀ e ∈ l, e.2 ≠ 0) : ∀ e ∈ turnD l, e.2 ≠ 0 := fun e he => by
  obtain ⟨x, hx, rfl⟩ := List.mem_map.1 he
  have := h x hx
  simp only; omega
theorem turn_ok {l : List De} (h : okD l = true) : okD (turnD l) = true := by
  obtain ⟨h1, h2⟩ := okD_parts h
  refine okD_of (byOk_iff.2 fun e he => ?_) (by rw [turn_keys]; exact h2)
  obtain ⟨x, hx, rfl⟩ := List.mem_map.1 he
  obtain ⟨k1, k2⟩ := byOk_iff.1 h1 x hx
  rw [inD_iff] at k2 ⊢
  simp only
  exact ⟨by omega, by omega, by omega⟩
theorem turn_turn (l : List De) : turnD (turnD l) = l := by
  unfold turnD
  rw [List.map_map]
  induction l with
  | nil => rfl
  | cons e l ih =>
    obtain ⟨n, z⟩ := e
    simp only [List.map_cons, Function.comp, Int.neg_neg] at ih ⊢
    rw [ih]
theorem merge_turn {l : List De} (h : okD l = true) : mergeD l (turnD l) = [] :=
  merge_is h (turn_ok h) List.Pairwise.nil (fun e he => by cases he) fun n => by rw [turn_by]; simp [byD]; omega

/-! ### Lists of nodes held against one another -/
def difF (old now : List Nd) (n : Nd) : Int := (cntN now n : Int) - (cntN old n : Int)
def difL (old now : List Nd) : List De := mkD (setN (old ++ now)) (difF old now)
theorem cntN_app (l m : List Nd) (n : Nd) : cntN (l ++ m) n = cntN l n + cntN m n := List.count_append
theorem cntN_not {l : List Nd} {n : Nd} (h : n ∉ l) : cntN l n = 0 := List.count_eq_zero.2 h
theorem cntN_le (l : List Nd) (n : Nd) : cntN l n ≤ l.length := List.count_le_length
theorem cntN_take {l : List Nd} {k : Nat} (h : k < l.length) (n : Nd) : cntN (l.take (k + 1)) n = cntN (l.take k) n + (if l.getD k ([], []) = n then 1 else 0) := by
  rw [List.take_succ_eq_append_getElem h, cntN_app, nd_getD h]
  unfold cntN
  rw [List.count_cons]
  simp
theorem difF_not {old now : List Nd} {n : Nd} (h : n ∉ old ++ now) : difF old now n = 0 := by
  rw [List.mem_append, not_or] at h
  unfold difF; rw [cntN_not h.1, cntN_not h.2]; rfl
theorem difF_bound (old now : List Nd) (n : Nd) : -(old.length : Int) ≤ difF old now n ∧ difF old now n ≤ now.length := by
  unfold difF
  have h1 := cntN_le old n
  have h2 := cntN_le now n
  constructor <;> omega
theorem dif_by {old now : List Nd} (h : ∀ n ∈ old ++ now, okN n = true) (n : Nd) : byD (difL old now) n = difF old now n :=
  mkD_by (setN_rises _) (fun n hn => difF_not fun k => hn ((setN_mem h n).2 k)) n
theorem dif_rise (old now : List Nd) : Rises (keyD (difL old now)) := mkD_rise (setN_rises _) _
theorem dif_nz (old now : List Nd) : ∀ e ∈ difL old now, e.2 ≠ 0 := mkD_nz
theorem dif_okD {old now : List Nd} (h : ∀ n ∈ old ++ now, okN n = true) (h1 : old.length ≤ 1000000) (h2 : now.length ≤ 1000000) : okD (difL old now) = true :=
  mkD_okD (setN_rises _) (fun n hn => h n ((setN_mem h n).1 hn)) fun n _ => by
    have := difF_bound old now n
    rw [inD_iff]; omega
theorem dif_is {old now : List Nd} (h : ∀ n ∈ old ++ now, okN n = true) {l : List De} (hl : Rises (keyD l)) (zl : ∀ e ∈ l, e.2 ≠ 0) (hb : ∀ n, byD l n = difF old now n) : difL old now = l :=
  edits_ext (dif_rise _ _) hl (dif_nz _ _) zl fun n => by rw [dif_by h, hb]
theorem dif_len (old now : List Nd) : (difL old now).length ≤ old.length + now.length := by
  have h1 := mkD_len (setN (old ++ now)) (difF old now)
  have h2 := setN_len (old ++ now)
  rw [List.length_append] at h2
  unfold difL; omega

/-! ### What the laws ask -/
theorem dif_self {l : List Nd} (h : ∀ n ∈ l, okN n = true) : difL l l = [] :=
  dif_is (fun n hn => by rcases List.mem_append.1 hn with k | k <;> exact h n k) List.Pairwise.nil (fun e he => by cases he) fun n => by unfold difF byD; omega
theorem dif_turn {old now : List Nd} (ho : ∀ n ∈ old, okN n = true) (hn : ∀ n ∈ now, okN n = true) : turnD (difL old now) = difL now old := by
  have h1 : ∀ n ∈ old ++ now, okN n = true := fun n k => by rcases List.mem_append.1 k with k | k; exact ho n k; exact hn n k
  have h2 : ∀ n ∈ now ++ old, okN n = true := fun n k => by rcases List.mem_append.1 k with k | k; exact hn n k; exact ho n k
  refine (dif_is h2 (by rw [turn_keys]; exact dif_rise _ _) (turn_nz (dif_nz _ _)) fun n => ?_).symm
  rw [turn_by, dif_by h1]; unfold difF; omega
theorem dif_via {old now mid : List Nd} (ho : ∀ n ∈ old, okN n = true) (hn : ∀ n ∈ now, okN n = true) (hm : ∀ n ∈ mid, okN n = true) (l1 : old.length ≤ 1000000) (l2 : now.length ≤ 1000000) (l3 : mid.length ≤ 1000000) :
    mergeD (difL old mid) (difL mid now) = difL old now := by
  have h1 : ∀ n ∈ old ++ mid, okN n = true := fun n k => by rcases List.mem_append.1 k with k | k; exact ho n k; exact hm n k
  have h2 : ∀ n ∈ mid ++ now, okN n = true := fun n k => by rcases List.mem_append.1 k with k | k; exact hm n k; exact hn n k
  have h3 : ∀ n ∈ old ++ now, okN n = true := fun n k => by rcases List.mem_append.1 k with k | k; exact ho n k; exact hn n k
  refine merge_is (dif_okD h1 l1 l3) (dif_okD h2 l3 l2) (dif_rise _ _) (dif_nz _ _) fun n => ?_
  rw [dif_by h1, dif_by h2, dif_by h3]; unfold difF; omega
theorem dif_back {l : List Nd} (h : ∀ n ∈ l, okN n = true) : difL l l.reverse = [] :=
  dif_is (fun n hn => by rcases List.mem_append.1 hn with k | k; exact h n k; exact h n (List.mem_reverse.1 k)) List.Pairwise.nil (fun e he => by cases he) fun n => by
    unfold difF byD cntN; rw [List.count_reverse]; omega
theorem dif_one {l : List Nd} {n : Nd} (h : ∀ n ∈ l, okN n = true) (hn : okN n = true) : difL l (l.reverse ++ [n]) = [(n, 1)] :=
  dif_is (fun m hm => by
    rcases List.mem_append.1 hm with k | k
    · exact h m k
    · rcases List.mem_append.1 k with k | k
      · exact h m (List.mem_reverse.1 k)
      · rw [List.mem_singleton.1 k]; exact hn) (List.pairwise_cons.2 ⟨fun x hx => (by cases hx), List.Pairwise.nil⟩) (fun e he => by rw [List.mem_singleton.1 he]; show (1 : Int) ≠ 0; decide) fun m => by
    unfold difF
    rw [cntN_app]
    unfold cntN
    rw [List.count_reverse, List.count_cons, List.count_nil, byD_cons]
    by_cases k : n = m
    · simp [k, byD]; omega
    · simp [k, byD]
theorem dif_more {old now : List Nd} (ho : ∀ n ∈ old, okN n = true) (hn : ∀ n ∈ now, okN n = true) : difL old (old ++ now) = difL [] now :=
  dif_is (fun n k => by
    rcases List.mem_append.1 k with k | k
    · exact ho n k
    · rcases List.mem_append.1 k with k | k
      · exact ho n k
      · exact hn n k) (dif_rise _ _) (dif_nz _ _) fun n => by
    rw [dif_by (by simpa using hn)]; unfold difF; rw [cntN_app]
    have : cntN [] n = 0 := rfl
    rw [this]; omega

/-! All together -/
def sumD : List De → Int
  | [] => 0
  | e :: l => e.2 + sumD l
theorem sumD_app (l m : List De) : sumD (l ++ m) = sumD l + sumD m := by
  induction l with
  | nil => simp [sumD]
  | cons e l ih => rw [List.cons_append, sumD, sumD, ih]; omega
theorem sumD_take {l : List De} {k : Nat} (h : k < l.length) : sumD (l.take (k + 1)) = sumD (l.take k) + (l.getD k zD).2 := by
  rw [List.take_succ_eq_append_getElem h, sumD_app]
  have e : l.getD k zD = l[k] := by rw [List.getD_eq_getElem?_getD, List.getElem?_eq_getElem h]; rfl
  rw [e]; simp [sumD]
def sumN (s : List Nd) (f : Nd → Int) : Int := match s with
  | [] => 0
  | n :: s => f n + sumN s f
theorem sum_mkD (s : List Nd) (f : Nd → Int) : sumD (mkD s f) = sumN s f := by
  induction s with
  | nil => rfl
  | cons n s ih =>
    rw [mkD, sumN]
    split
    · rename_i h; rw [h, ih]; omega
    · rw [sumD, ih]
theorem sumN_sub (s : List Nd) (f g : Nd → Int) : sumN s (fun n => f n - g n) = sumN s f - sumN s g := by
  induction s with
  | nil => rfl
  | cons n s ih => simp only [sumN]; rw [ih]; omega
theorem sumN_one {s : List Nd} (hs : s.Nodup) (m : Nd) (g : Nd → Int) : sumN s (fun n => g n + if m = n then 1 else 0) = sumN s g + if m ∈ s then 1 else 0 := by
  induction s with
  | nil => simp [sumN]
  | cons n s ih =>
    obtain ⟨h1, h2⟩ := List.nodup_cons.1 hs
    simp only [sumN]
    rw [ih h2]
    by_cases k : m = n
    · subst k; simp [h1]; omega
    · simp [k]; omega
theorem sumN_cnt {s : List Nd} (hs : s.Nodup) (l : List Nd) (h : ∀ n ∈ l, n ∈ s) : sumN s (fun n => (cntN l n : Int)) = l.length := by
  induction l with
  | nil =>
    have : ∀ s : List Nd, sumN s (fun n => (cntN [] n : Int)) = 0 := by
      intro s
      induction s with
      | nil => rfl
      | cons n s ih => simp only [sumN]; rw [ih]; rfl
    simpa using this s
  | cons m l ih =>
    have e : (fun n => (cntN (m :: l) n : Int)) = fun n => (cntN l n : Int) + if m = n then 1 else 0 := by
      funext n
      unfold cntN
      rw [List.count_cons]
      by_cases k : m = n
      · simp [k]
      · simp [k]
    rw [e, sumN_one hs m (fun n => (cntN l n : Int)), ih fun n hn => h n (List.mem_cons_of_mem _ hn), if_pos (h m List.mem_cons_self)]
    simp
theorem dif_sum {old now : List Nd} (h : ∀ n ∈ old ++ now, okN n = true) : sumD (difL old now) = (now.length : Int) - old.length := by
  have hs := rises_nodup (setN_rises (old ++ now))
  have e : difF old now = fun n => (cntN now n : Int) - (cntN old n : Int) := rfl
  unfold difL
  rw [sum_mkD, e, sumN_sub, sumN_cnt hs now fun n hn => (setN_mem h n).2 (List.mem_append_right _ hn), sumN_cnt hs old fun n hn => (setN_mem h n).2 (List.mem_append_left _ hn)]
theorem sumD_bound {l : List De} {M : Int} (h : ∀ e ∈ l, -M ≤ e.2 ∧ e.2 ≤ M) (hM : 0 ≤ M) : -(M * l.length) ≤ sumD l ∧ sumD l ≤ M * l.length := by
  induction l with
  | nil => simp [sumD]
  | cons e l ih =>
    have h1 := h e List.mem_cons_self
    have h2 := ih fun x hx => h x (List.mem_cons_of_mem _ hx)
    simp only [sumD, List.length_cons]
    have h3 : M * ((l.length + 1 : Nat) : Int) = M * l.length + M := by rw [Int.natCast_add, Int.mul_add]; simp
    rw [h3]
    omega

/-! ### What each call answers -/
def allN2 (l : List Nd) : Bool := l.all okN
def diffE (old now : List Nd) : List De × Int := if (allN2 old && allN2 now) = true then (difL old now, 0) else ([], 1)
def bothE (a b : List De) : List De × Int := if (okD a && okD b) = true then if okD (mergeD a b) = true then (mergeD a b, 0) else ([], 4) else ([], 1)
def turnE (l : List De) : List De × Int := if okD l = true then (turnD l, 0) else ([], 1)
def chkD (l : List De) : Int := if okD l = true then 0 else 1
theorem allN2_iff {l : List Nd} : allN2 l = true ↔ ∀ n ∈ l, okN n = true := by unfold allN2; exact List.all_eq_true
theorem allN2_app {l m : List Nd} : allN2 (l ++ m) = (allN2 l && allN2 m) := by unfold allN2; rw [List.all_append]
theorem diffE_yes {old now : List Nd} (h : (allN2 old && allN2 now) = true) : diffE old now = (difL old now, 0) := by unfold diffE; rw [if_pos h]
theorem diffE_no {old now : List Nd} (h : (allN2 old && allN2 now) = false) : diffE old now = ([], 1) := by unfold diffE; rw [if_neg (by rw [h]; simp)]
theorem bothE_no {a b : List De} (h : (okD a && okD b) = false) : bothE a b = ([], 1) := by unfold bothE; rw [if_neg (by rw [h]; simp)]
theorem bothE_far {a b : List De} (h : (okD a && okD b) = true) (k : okD (mergeD a b) = false) : bothE a b = ([], 4) := by unfold bothE; rw [if_pos h, if_neg (by rw [k]; simp)]
theorem bothE_yes {a b : List De} (h : (okD a && okD b) = true) (k : okD (mergeD a b) = true) : bothE a b = (mergeD a b, 0) := by unfold bothE; rw [if_pos h, if_pos k]
theorem turnE_yes {l : List De} (h : okD l = true) : turnE l = (turnD l, 0) := by unfold turnE; rw [if_pos h]
theorem turnE_no {l : List De} (h : okD l = false) : turnE l = ([], 1) := by unfold turnE; rw [if_neg (by rw [h]; simp)]
theorem chkD_yes {l : List De} (h : okD l = true) : chkD l = 0 := by unfold chkD; rw [if_pos h]
theorem chkD_no {l : List De} (h : okD l = false) : chkD l = 1 := by unfold chkD; rw [if_neg (by rw [h]; simp)]
theorem bothE_comm (a b : List De) : bothE a b = bothE b a := by
  unfold bothE
  by_cases h : (okD a && okD b) = true
  · have h2 : (okD b && okD a) = true := by rw [Bool.and_comm]; exact h
    have h3 : okD a = true ∧ okD b = true := by simpa using h
    rw [if_pos h, if_pos h2, merge_comm h3.1 h3.2]
  · have h2 : ¬ (okD b && okD a) = true := by rw [Bool.and_comm]; exact h
    rw [if_neg h, if_neg h2]
theorem diffE_len (old now : List Nd) : (diffE old now).1.length ≤ old.length + now.length := by
  unfold diffE; split
  · exact dif_len _ _
  · exact Nat.zero_le _
theorem bothE_len (a b : List De) : (bothE a b).1.length ≤ a.length + b.length := by
  unfold bothE; split
  · split
    · exact merge_len _ _
    · exact Nat.zero_le _
  · exact Nat.zero_le _
theorem turnE_len (l : List De) : (turnE l).1.length ≤ l.length := by
  unfold turnE; split
  · rw [turn_len]; exact Nat.le_refl _
  · exact Nat.zero_le _
end Go.Proofs.YtopcbmmnjmmoiaaGreat

namespace Go.Proofs.YtopcbmmnjmmoiaaGreat
open Go.RowKit Go.ChangeShapes Go.WideShapes
set_option linter.unusedVariables false
set_option maxRecDepth 100000

/-- A slice of edits, in memory: nil, empty, or cells that hold them, three each. -/
structure Dfs (w : World) (v : Value) (es : List De) : Prop where
  ex : ∃ a c, v = .slice a es.length c ∧ es.length ≤ c ∧ c ≤ maxLen ∧ (a = none → c = 0) ∧ (0 < es.length → ∃ b off, a = some ⟨b, off, none⟩ ∧ b < w.heap.size ∧ ∀ j, j < es.length →
    w.cell? ⟨b, off + j * 3, none⟩ = some (.string (mkB (es.getD j zD).1.1)) ∧ w.cell? ⟨b, off + j * 3 + 1, none⟩ = some (.string (mkB (es.getD j zD).1.2)) ∧ w.cell? ⟨b, off + j * 3 + 2, none⟩ = some (.int .i64 (es.getD j zD).2))
theorem Dfs.below {w w' : World} {v : Value} {zs : List De} (h : Dfs w v zs) (hb : Below w.heap.size w w') : Dfs w' v zs := by
  obtain ⟨a, c, hv, h1, h2, hn, h3⟩ := h.ex
  refine ⟨a, c, hv, h1, h2, hn, fun hp => ?_⟩
  obtain ⟨b, off, ha, hlt, hc⟩ := h3 hp
  exact ⟨b, off, ha, Nat.lt_of_lt_of_le hlt hb.size, fun j hj => by rw [hb.cell (by exact hlt), hb.cell (by exact hlt), hb.cell (by exact hlt)]; exact hc j hj⟩
theorem Dfs.at {w : World} {a : Option Addr} {n c : Nat} {es : List De} (h : Dfs w (.slice a n c) es) (k : Nat) (hk : k < es.length) :
    ∃ b off, a = some ⟨b, off, none⟩ ∧ b < w.heap.size ∧ w.cell? ⟨b, off + k * 3, none⟩ = some (.string (mkB (es.getD k zD).1.1)) ∧ w.cell? ⟨b, off + k * 3 + 1, none⟩ = some (.string (mkB (es.getD k zD).1.2)) ∧ w.cell? ⟨b, off + k * 3 + 2, none⟩ = some (.int .i64 (es.getD k zD).2) := by
  obtain ⟨a', c', hv, _, _, _, h3⟩ := h.ex
  injection hv with e1 e2 e3
  subst e1
  obtain ⟨b, off, ha, hlt, hc⟩ := h3 (by omega)
  exact ⟨b, off, ha, hlt, hc k hk⟩
theorem dfs_none (w : World) : Dfs w (.slice none 0 0) [] := ⟨none, 0, rfl, Nat.le_refl _, by unfold maxLen; omega, fun _ => rfl, fun h => absurd h (by simp)⟩
theorem Dfs.nil {w : World} {n c : Nat} {l : List De} {a : Option Addr} (h : Dfs w (.slice a n c) l) (ha : a = none) : n = 0 ∧ c = 0 := by
  obtain ⟨a', c', hv, h1, h2, h3, -⟩ := h.ex
  injection hv with e1 e2 e3
  subst e1 e2 e3
  have := h3 ha
  omega
theorem Dfs.lenE {w : World} {A : Option Addr} {n c : Nat} {l : List De} (h : Dfs w (.slice A n c) l) : l.length = n ∧ n ≤ c ∧ c ≤ maxLen := by
  obtain ⟨_, _, hv, h1, h2, _⟩ := h.ex
  injection hv with e1 e2 e3
  subst e2 e3; exact ⟨rfl, h1, h2⟩
/-- The ones from the i-th on. -/
theorem Dfs.cut {w : World} {a : Option Addr} {n c : Nat} {l : List De} (h : Dfs w (.slice a n c) l) {i : Nat} (hi : i ≤ l.length) : Dfs w (sliced a i n c 3) (l.drop i) := by
  obtain ⟨a', c', hv, h1, h2, h3, h4⟩ := h.ex
  injection hv with e1 e2 e3
  subst e1 e2 e3
  unfold sliced
  refine ⟨_, _, by rw [List.length_drop], by rw [List.length_drop]; omega, by omega, fun hn => ?_, fun hp => ?_⟩
  · by_cases hc : c = i
    · omega
    · rw [if_neg hc] at hn
      have : a = none := by cases a <;> simp_all
      have := h3 this; omega
  · rw [List.length_drop] at hp
    obtain ⟨b, off, rfl, hb, hc⟩ := h4 (by omega)
    refine ⟨b, off + i * 3, ?_, hb, fun j hj => ?_⟩
    · rw [if_neg (by omega)]; simp [addr_add]
    · rw [List.length_drop] at hj
      have := hc (i + j) (by omega)
      have hg : (l.drop i).getD j zD = l.getD (i + j) zD := by simp [List.getD_eq_getElem?_getD, List.getElem?_drop]
      rw [hg, show off + i * 3 + j * 3 = off + (i + j) * 3 by omega]
      exact this
theorem df_getD {l : List De} {j : Nat} (h : j < l.length) : l.getD j zD = l[j] := by
  rw [List.getD_eq_getElem?_getD, List.getElem?_eq_getElem h]; rfl
theorem df_mem {l : List De} {j : Nat} (h : j < l.length) : l.getD j zD ∈ l := by rw [df_getD h]; exact List.getElem_mem h

/-! ### Edits as cells -/
abbrev dfV (e : De) : Value := .agg #[.string (mkB e.1.1), .string (mkB e.1.2), .int .i64 e.2]
abbrev dfC1 (e : De) : List Value := [.string (mkB e.1.1), .string (mkB e.1.2), .int .i64 e.2]
def dfC (es : List De) : List Value := es.flatMap dfC1
theorem dfC_len (es : List De) : (dfC es).length = es.length * 3 := by
  induction es with
  | nil => rfl
  | cons x l ih => simp only [dfC, List.flatMap_cons, List.length_append, List.length_cons, List.length_nil] at ih ⊢; omega
theorem dfC_snoc (es : List De) (x : De) : dfC (es ++ [x]) = dfC es ++ dfC1 x := by simp [dfC]
theorem dfC_app (l m : List De) : dfC (l ++ m) = dfC l ++ dfC m := by simp [dfC]
theorem dfC_one (l : List De) : ((dfC l).all fun u => u.oneCell') = true := by
  induction l with
  | nil => rfl
  | cons x l ih =>
    have e : dfC (x :: l) = .string (mkB x.1.1) :: .string (mkB x.1.2) :: .int .i64 x.2 :: dfC l := rfl
    rw [e, List.all_cons, List.all_cons, List.all_cons, ih]; rfl
theorem dfC_at (es : List De) : ∀ j, j < es.length → (dfC es)[j * 3]? = some (.string (mkB (es.getD j zD).1.1)) ∧ (dfC es)[j * 3 + 1]? = some (.string (mkB (es.getD j zD).1.2)) ∧ (dfC es)[j * 3 + 2]? = some (.int .i64 (es.getD j zD).2) := by
  induction es with
  | nil => intro j hj; exact absurd hj (Nat.not_lt_zero j)
  | cons x l ih =>
    intro j hj
    have e : dfC (x :: l) = .string (mkB x.1.1) :: .string (mkB x.1.2) :: .int .i64 x.2 :: dfC l := rfl
    rw [e]
    cases j with
    | zero => exact ⟨rfl, rfl, rfl⟩
    | succ j =>
      have := ih j (by simpa using hj)
      rw [show (j + 1) * 3 = j * 3 + 1 + 1 + 1 by omega, show j * 3 + 1 + 1 + 1 + 1 = (j * 3 + 1) + 1 + 1 + 1 by omega, show j * 3 + 1 + 1 + 1 + 2 = (j * 3 + 2) + 1 + 1 + 1 by omega]
      simpa using this
abbrev zDV : Value := .agg #[.string ByteArray.empty, .string ByteArray.empty, .int .i64 0]
theorem Tryz.info_df : (Tryz.prog.info? 42).map (fun i => (i.zero, i.size, i.bytes)) = some (some zDV, 3, 40) := by kernel_rfl
theorem Dfs.owned {w : World} {base : Nat} {e : TypeId} {v : Value} {es : List De} (h : w.ownsRow base e 3 v es.length (dfC es)) : Dfs w v es := by
  rcases Joins.ownsRow_forms h with ⟨rfl, h0⟩ | ⟨g, cap, rfl⟩
  · have : es = [] := List.eq_nil_of_length_eq_zero h0
    subst this
    exact dfs_none w
  · have hlt := h.lt g rfl
    have hcap : es.length ≤ cap ∧ cap ≤ maxLen := by
      obtain ⟨_, h | ⟨g', cap', cur, hv, _, _, h1, h2, _⟩⟩ := h
      · cases h.1
      · injection hv with _ _ hc; subst hc; exact ⟨h1, h2⟩
    refine ⟨some ⟨g, 0, none⟩, cap, rfl, hcap.1, hcap.2, (fun h => by cases h), fun _ => ⟨g, 0, rfl, hlt.2, fun j hj => ?_⟩⟩
    have := dfC_at es j hj
    rw [Nat.zero_add, h.cellAt (j * 3) (by omega), h.cellAt (j * 3 + 1) (by omega), h.cellAt (j * 3 + 2) (by omega)]
    exact this
theorem dfsO {w : World} {base : Nat} {e : TypeId} {v : Value} {es : List De} (h : w.ownsRow base e 3 v es.length (dfC es)) : ∃ a c, v = .slice a es.length c ∧ Dfs w (.slice a es.length c) es := by
  have hst := Dfs.owned h
  obtain ⟨a, c, rfl, _⟩ := hst.ex
  exact ⟨a, c, rfl, hst⟩
theorem Dfs.cells {w : World} {ad : Addr} {n c : Nat} {l : List De} (h : Dfs w (.slice (some ad) n c) l) : ∀ j u, (dfC l)[j]? = some u → w.cell? (ad.add j) = some u := by
  intro j u hj
  have hlt : j < (dfC l).length := (List.getElem?_eq_some_iff.1 hj).1
  rw [dfC_len] at hlt
  obtain ⟨k, hk⟩ : ∃ k, j = k * 3 ∨ j = k * 3 + 1 ∨ j = k * 3 + 2 := ⟨j / 3, by omega⟩
  have hkl : k < l.length := by omega
  obtain ⟨b, off, ha, -, c0, c1, c2⟩ := h.at k hkl
  obtain ⟨d0, d1, d2⟩ := dfC_at l k hkl
  cases ha
  rw [addr_add]
  rcases hk with rfl | rfl | rfl
  · rw [d0] at hj; cases hj; exact c0
  · rw [d1] at hj; cases hj; exact c1
  · rw [d2] at hj; cases hj; exact c2
theorem Dfs.src {w : World} {A : Option Addr} {n c : Nat} {l : List De} (h : Dfs w (.slice A n c) l) : ∀ ad, A = some ad → ∀ j u, (dfC l)[j]? = some u → w.cell? (ad.add j) = some u := fun _ e => by subst e; exact h.cells
theorem row3 {w : World} {g : Nat} {x0 x1 x2 : Value} {t : TypeId} (h : w.heap[g]? = some (.cells #[x0, x1, x2] t (0, 0))) :
    w.cell? ⟨g, 0, none⟩ = some x0 ∧ w.cell? ⟨g, 1, none⟩ = some x1 ∧ w.cell? ⟨g, 2, none⟩ = some x2 ∧ w.frozen? ⟨g, 0, none⟩ = false ∧ w.frozen? ⟨g, 1, none⟩ = false ∧ w.frozen? ⟨g, 2, none⟩ = false := by
  simp [World.cell?, World.frozen?, h]
/-- A parameter's own cells, just laid; the world named. -/
theorem boxD1 (w : World) (x y z : Value) (t : TypeId) : ∃ W p, w.alloc (.cells #[x, y, z] t) = W ∧ w.heap.size = p ∧ W.cell? ⟨p, 0, none⟩ = some x ∧ W.cell? ⟨p, 1, none⟩ = some y ∧ W.cell? ⟨p, 2, none⟩ = some z ∧ Below w.heap.size w W :=
  ⟨_, _, rfl, rfl, cell_new rfl rfl, cell_new rfl rfl, cell_new rfl rfl, (Below.refl _ _).alloc (Nat.le_refl _) _⟩

/-! ### Two edits' sameness -/
theorem df_fields : Tryz.prog.underlying 42 = some (.struct (Tryz.prog.fieldsOf 42)) := by kernel_rfl
theorem df_held : Tryz.prog.stoodInHeld 42 = false := by kernel_rfl
theorem int_eq (d : Nat) (a b : Int) (w : World) : Sem.run Tryz.prog (Op.equalIn (d + 1) 3 (.int .i64 a) (.int .i64 b)) w = .ok (a == b) w := by
  unfold Op.equalIn
  simp
theorem eqin_nd2 (d : Nat) (p v p' v' : List UInt8) (w : World) : Sem.run Tryz.prog (Op.equalIn (d + 1 + 1) 40 (.agg #[.string (mkB p), .string (mkB v)]) (.agg #[.string (mkB p'), .string (mkB v')])) w = .ok (decide ((p, v) = (p', v'))) w := by
  have hs := fun a b w => str_eq d a b w
  have ha : ∀ w, Sem.run Tryz.prog (isAgg 9) w = .ok false w := by intro w; kernel_rfl
  have hz : ∀ w, Sem.run Tryz.prog (sizeOf 9) w = .ok 1 w := by intro w; kernel_rfl
  rw [run_equalIn_agg w (d + 1) 40 _ _ nd_fields nd_held]
  simp only [Program.fieldsOf, Tryz.underlying40]
  go_simp
  simp only [mkB_beq]
  by_cases h1 : p = p' <;> by_cases h2 : v = v' <;> simp [h1, h2]
theorem eqin_df (p v p' v' : List UInt8) (z z' : Int) (w : World) : Sem.run Tryz.prog (Op.equalIn 10000 42 (dfV ((p, v), z)) (dfV ((p', v'), z'))) w = .ok (decide (((p, v), z) = ((p', v'), z'))) w := by
  have hs := fun p v p' v' w => eqin_nd2 9997 p v p' v' w
  have hi := fun a b w => int_eq 9998 a b w
  have ha : ∀ w, Sem.run Tryz.prog (isAgg 3) w = .ok false w := by intro w; kernel_rfl
  have hz : ∀ w, Sem.run Tryz.prog (sizeOf 3) w = .ok 1 w := by intro w; kernel_rfl
  have hb : ∀ w, Sem.run Tryz.prog (isAgg 40) w = .ok true w := by intro w; kernel_rfl
  have hy : ∀ w, Sem.run Tryz.prog (sizeOf 40) w = .ok 2 w := by intro w; kernel_rfl
  rw [show (10000 : Nat) = 9999 + 1 from rfl, run_equalIn_agg w 9999 42 _ _ df_fields df_held]
  simp only [Program.fieldsOf, Tryz.underlying42]
  go_simp
  by_cases h1 : p = p' <;> by_cases h2 : v = v' <;> by_cases h3 : z = z' <;> simp [h1, h2, h3]
theorem eq_df (p v p' v' : List UInt8) (z z' : Int) (w : World) : Sem.run Tryz.prog (binOp .eql 42 (dfV ((p, v), z)) (dfV ((p', v'), z'))) w = .ok (.bool (decide (((p, v), z) = ((p', v'), z')))) w := by
  rw [run_eql_struct, eqin_df]; rfl
theorem neq_df (p v p' v' : List UInt8) (z z' : Int) (w : World) : Sem.run Tryz.prog (binOp .neq 42 (dfV ((p, v), z)) (dfV ((p', v'), z'))) w = .ok (.bool (!decide (((p, v), z) = ((p', v'), z')))) w := by
  rw [run_neq_struct, eqin_df]; rfl
theorem guard_df (op : BinOp) (a b : Operand) (xs ys : Array Value) (w : World) : Sem.run Tryz.prog (eqGuard op 42 a b (.agg xs) (.agg ys)) w = .ok () w := run_eqGuard_agg w op _ a b xs ys (by kernel_rfl)

/-! ### What comes in -/
def fitI (z : Int) : Prop := -9223372036854775808 ≤ z ∧ z ≤ 9223372036854775807
def fitD (e : De) : Prop := fitsN e.1 ∧ fitI e.2
section
variable {H : Type} {enc : TypeId × Value → H} {w : World} {base : Nat} {spare : Nat → Bool} {held : Bool}
theorem dfs_of {a : Addr} {len cap m : Nat} {E : Nat → De} (hl : len ≤ cap) (hm : cap ≤ maxLen) (hlm : len ≤ m) (hx : ∀ i, i < m → w.cell? (a.add (i * 3)) = some (.string (mkB (E i).1.1)) ∧ w.cell? (a.add (i * 3 + 1)) = some (.string (mkB (E i).1.2)) ∧ w.cell? (a.add (i * 3 + 2)) = some (.int .i64 (E i).2) ∧ fitD (E i)) :
    ∃ l, Dfs w (.slice (some a) len cap) l ∧ ∀ e ∈ l, fitD e := by
  refine ⟨(List.range len).map E, ?_, fun e he => ?_⟩
  · have e : ((List.range len).map E).length = len := by simp
    refine ⟨some a, cap, by rw [e], by rw [e]; exact hl, hm, (fun h => by cases h), fun hp => ?_⟩
    rw [e] at hp ⊢
    obtain ⟨b, off, spot⟩ := a
    have h0 := (hx 0 (by omega)).1
    have hspot : spot = none := by simpa [Addr.add] using World.cell?_spot h0
    subst hspot
    refine ⟨b, off, rfl, ?_, fun j hj => ?_⟩
    · have := World.block_lt_of_cell? w _ h0
      simpa [Addr.add] using this
    · obtain ⟨h1, h2, h3, _⟩ := hx j (by omega)
      have hd : ((List.range len).map E).getD j zD = E j := by simp [List.getD_eq_getElem?_getD, hj]
      rw [addr_add] at h1 h2 h3
      rw [← Nat.add_assoc] at h2 h3
      rw [hd, h1, h2, h3]
      exact ⟨rfl, rfl, rfl⟩
  · obtain ⟨i, hi, rfl⟩ := List.mem_map.1 he
    exact (hx i (by have := List.mem_range.1 hi; omega)).2.2.2
theorem fit_wf {z : Int} (h : (Lit.int .i64 z).wf = true) : fitI z := by
  have h1 : (decide (IntKind.i64.min ≤ z) && decide (z ≤ IntKind.i64.max)) = true := h
  rw [Bool.and_eq_true, decide_eq_true_eq, decide_eq_true_eq] at h1
  exact h1
theorem dfs_open {fuel : Nat} {a : Option Addr} {len cap : Nat} {x : DataW H × List MemPlace} (h : DataW.trod enc Tryz.prog w base spare held fuel 24 [.slice a len cap] = some x) :
    ∃ l, Dfs w (.slice a len cap) l ∧ ∀ e ∈ l, fitD e := by
  rcases Go.Deep.open_slice Tryz.underlying24 h with ⟨hcs, _⟩ | ⟨ad, l, c, m, n, D, Pl, hcs, hb, hl, hm, hmm, -, hx⟩
  · simp only [List.cons.injEq, Value.slice.injEq, and_true] at hcs
    obtain ⟨rfl, rfl, rfl⟩ := hcs
    exact ⟨[], dfs_none w, fun l hl => by cases hl⟩
  · simp only [List.cons.injEq, Value.slice.injEq, and_true] at hcs
    obtain ⟨rfl, rfl, rfl⟩ := hcs
    have ce : Tryz.prog.cellsOf 42 = 3 := by kernel_rfl
    have cn : Tryz.prog.cellsOf 40 = 2 := by kernel_rfl
    have ci : Tryz.prog.cellsOf 3 = 1 := by kernel_rfl
    have cs : Tryz.prog.cellsOf 9 = 1 := by kernel_rfl
    have each : ∀ i, i < m → ∃ e : De, w.cell? (ad.add (i * 3)) = some (.string (mkB e.1.1)) ∧ w.cell? (ad.add (i * 3 + 1)) = some (.string (mkB e.1.2)) ∧ w.cell? (ad.add (i * 3 + 2)) = some (.int .i64 e.2) ∧ fitD e := by
      intro i hi
      obtain ⟨cs', h1, h2⟩ := hx i hi
      rw [ce] at h1
      obtain ⟨_, hlen, hcell⟩ := World.cells?_some h1
      obtain ⟨xs, k, hk, hxy, _, hxl, hf⟩ := DataW.trod_struct Tryz.underlying42 h2
      match xs, hxl, cs', hlen with
      | [y0, y1], _, [v0, v1, v2], _ =>
        have g0 := hf 0 _ rfl
        have g1 := hf 1 _ rfl
        simp [ci, cn] at g0 g1
        obtain ⟨xs2, k2, hk2, hxy2, _, hxl2, hf2⟩ := DataW.trod_struct Tryz.underlying40 g0
        match xs2, hxl2 with
        | [z0, z1], _ =>
          have f0 := hf2 0 _ rfl
          have f1 := hf2 1 _ rfl
          simp [cs] at f0 f1
          obtain ⟨s0, q0, _, e0⟩ := DataW.trod_string Tryz.underlying9 f0
          obtain ⟨s1, q1, _, e1⟩ := DataW.trod_string Tryz.underlying9 f1
          obtain ⟨z2, q2, -, e2⟩ := DataW.trod_int Tryz.underlying3 g1
          simp only [List.cons.injEq, and_true] at q0 q1 q2
          subst q0 q1 q2
          rw [Lib.size_eq] at e0 e1
          have c0 := hcell 0 (by omega)
          have c1 := hcell 1 (by omega)
          have c2 := hcell 2 (by omega)
          rw [Go.Deep.add_add] at c0 c1 c2
          exact ⟨((s0.data.toList, s1.data.toList), z2), by simpa [mkB, Lib.mk_data] using c0, by simpa [mkB, Lib.mk_data] using c1, by simpa using c2, ⟨e0, e1⟩, fit_wf e2⟩
    obtain ⟨E, hE⟩ := Go.Deep.choose_lt each
    exact dfs_of (m := m) (E := E) hl hm (by rw [hmm]; split <;> omega) hE
end
end Go.Proofs.YtopcbmmnjmmoiaaGreat

namespace Go.Proofs.YtopcbmmnjmmoiaaGreat
open Go.RowKit Go.Maps
open Go.ChangeMaps (setBlock heap_setBlock_same heap_setBlock_other)
open Go.WideMaps (KeyLaw)
set_option linter.unusedVariables false
set_option maxRecDepth 100000

theorem node_law : KeyLaw Tryz.prog 40 := ⟨fun h => by obtain ⟨n, _, rfl, _⟩ := key_inv h; exact ⟨_, rfl⟩, node_keyed.inj, node_keyed.check, node_keyed.find, node_keyed.stays⟩
/-- Block b is a map of at most nn entries: its keys are the nodes of K, and f tells the number of each (of all others it is 0). -/
structure CMap (w : World) (b nn : Nat) (K : List Nd) (f : Nd → Int) : Prop where
  fits : ∀ n ∈ K, fitsN n
  zero : ∀ n, n ∉ K → f n = 0
  ex : ∃ D : DataW Unit, w.ownsMap Tryz.prog 40 (plainElem Tryz.prog 3) b nn D ∧ ∀ n, fitsN n → has D (litN n) = hasN K n ∧ (hasN K n = true → D.atKey (litN n) (.lit (.int .i64 0)) = .lit (.int .i64 (f n)))
theorem CMap.made (w : World) : CMap (w.alloc (.map #[] 0)) w.heap.size 0 [] fun _ => 0 :=
  ⟨(fun n hn => by cases hn), (fun _ _ => rfl), _, World.ownsMap_made w _ _ _, fun n _ => ⟨by simp [has, hasN], fun h => by simp [hasN] at h⟩⟩
theorem CMap.kept {w w' : World} {b nn : Nat} {K : List Nd} {f : Nd → Int} {row : Option Nat} (h : CMap w b nn K f) (hg : w.grownBy w' row) (hne : some b ≠ row) : CMap w' b nn K f := by
  obtain ⟨hf, hz, D, ho, hD⟩ := h
  exact ⟨hf, hz, D, ho.kept hg hne, hD⟩
theorem CMap.alloc {w : World} {b nn : Nat} {K : List Nd} {f : Nd → Int} (h : CMap w b nn K f) (o : Obj) : CMap (w.alloc o) b nn K f := h.kept (World.grownBy_alloc w o none) (by simp)
theorem CMap.lt {w : World} {b nn : Nat} {K : List Nd} {f : Nd → Int} (h : CMap w b nn K f) : b < w.heap.size := by obtain ⟨_, _, D, ho, _⟩ := h; exact ho.lt
theorem CMap.near {w w' : World} {b nn : Nat} {K : List Nd} {f : Nd → Int} (h : CMap w b nn K f) (hb : w'.heap[b]? = w.heap[b]?) : CMap w' b nn K f := by
  obtain ⟨hf, hz, D, ⟨es, clock, he, rest⟩, hD⟩ := h
  exact ⟨hf, hz, D, ⟨es, clock, hb.trans he, rest⟩, hD⟩
theorem CMap.below {w w' : World} {b nn : Nat} {K : List Nd} {f : Nd → Int} (h : CMap w b nn K f) (hb : Below w.heap.size w w') : CMap w' b nn K f := h.near (hb.block b h.lt)
theorem CMap.congr {w : World} {b nn : Nat} {K : List Nd} {f g : Nd → Int} (h : CMap w b nn K f) (e : ∀ n, f n = g n) : CMap w b nn K g := by
  have : f = g := funext e
  rw [← this]; exact h
theorem CMap.mono {w : World} {b nn m : Nat} {K : List Nd} {f : Nd → Int} (h : CMap w b nn K f) (e : nn ≤ m) : CMap w b m K f := by
  obtain ⟨hf, hz, D, ho, hD⟩ := h
  exact ⟨hf, hz, D, ho.mono e, hD⟩
/-- A map from nodes to numbers, made. -/
theorem make_cmap (w : World) : (Instr.makeMap 48 none).run Tryz.prog w = .ok (.map (some w.heap.size)) (w.alloc (.map #[] 0)) := by
  simp [Instr.makeMap, Result.andThen]
theorem look_cmap {w : World} {b nn : Nat} {K : List Nd} {f : Nd → Int} {p v : List UInt8} (h : CMap w b nn K f) (hf : fitsN (p, v)) :
    Sem.run Tryz.prog (Instr.lookup 48 (.map (some b)) (.agg #[.string (mkB p), .string (mkB v)]) false) w = .ok (.int .i64 (f (p, v))) w := by
  obtain ⟨_, hz, D, hown, hD⟩ := h
  obtain ⟨h1, h2⟩ := hD _ hf
  obtain ⟨c, hr, hat, _⟩ := hown.lookup_int node_keyed Tryz.underlying48 Tryz.underlying3 (Tryz.zeroValue3 w) (key_n (p, v) hf.1 hf.2)
  have he : c = f (p, v) := by
    cases O : hasN K (p, v)
    · rw [O] at h1
      rw [atKey_of_not_has h1] at hat
      have : (0 : Int) = c := by simpa using hat
      rw [← this, hz _ (hasN_not.1 O)]
    · rw [h2 O] at hat
      have : f (p, v) = c := by simpa using hat
      exact this.symm
  subst he
  exact hr
/-- A store, as the map reads then. -/
theorem cmap_put {D : DataW Unit} {K : List Nd} {f : Nd → Int} {n : Nd} {z : Int} (hi : IsMap D) (hn : fitsN n)
    (hD : ∀ n, fitsN n → has D (litN n) = hasN K n ∧ (hasN K n = true → D.atKey (litN n) (.lit (.int .i64 0)) = .lit (.int .i64 (f n)))) :
    ∀ m, fitsN m → has (D.put (litN n) (.lit (.int .i64 z))) (litN m) = hasN (K ++ [n]) m ∧
      (hasN (K ++ [n]) m = true → (D.put (litN n) (.lit (.int .i64 z))).atKey (litN m) (.lit (.int .i64 0)) = .lit (.int .i64 (if m = n then z else f m))) := by
  have hk : WideAt.IsKeyLit (litN n) := node_keyed.key (key_n n hn.1 hn.2)
  intro m hm
  by_cases e : m = n
  · subst e
    have h1 : hasN (K ++ [m]) m = true := hasN_iff.2 (by simp)
    rw [has_put_same hi hk, h1, atKey_put_same hi hk, if_pos rfl]
    exact ⟨rfl, fun _ => rfl⟩
  · have hne : litN m ≠ litN n := fun h => e (litN_inj hm hn h)
    have h1 : hasN (K ++ [n]) m = hasN K m := by
      rw [Bool.eq_iff_iff, hasN_iff, hasN_iff]; simp [e]
    rw [has_put_other hne, h1, atKey_put_other hne, if_neg e]
    exact hD m hm
theorem CMap.stored {w w' : World} {b nn : Nat} {K : List Nd} {f : Nd → Int} {n : Nd} {z : Int} (h : CMap w b nn K f) (hn : fitsN n) (hz : fitI z) (hnn : nn < maxLen)
    (hr : (Instr.mapUpdate 48 (.map (some b)) (ndV n) (.int .i64 z)).run Tryz.prog w = .ok () w') : CMap w' b (nn + 1) (K ++ [n]) (fun m => if m = n then z else f m) ∧ w.grownBy w' (some b) := by
  obtain ⟨hf, h0, D, hown, hD⟩ := h
  have hwf : (Lit.int .i64 z).wf = true := by
    show (decide (IntKind.i64.min ≤ z) && decide (z ≤ IntKind.i64.max)) = true
    rw [Bool.and_eq_true, decide_eq_true_eq, decide_eq_true_eq]
    exact hz
  obtain ⟨w2, hrun, hown2, hturn⟩ := hown.store node_keyed Tryz.underlying48 hnn (key_n n hn.1 hn.2) (plainElem_int Tryz.underlying3 hwf)
  rw [hr] at hrun
  have e : w' = w2 := by injection hrun
  subst e
  refine ⟨⟨fits_step hf hn, fun m hm => ?_, _, hown2, cmap_put hown.isMap hn hD⟩, hturn.grown⟩
  have h1 : m ∉ K ∧ m ≠ n := by
    rw [List.mem_append, not_or] at hm
    exact ⟨hm.1, fun e => hm.2 (by rw [e]; simp)⟩
  rw [if_neg h1.2, h0 m h1.1]
theorem block_self {w : World} {b : Nat} {o : Obj} (h : w.heap[b]? = some o) : setBlock w b o = w := by
  have e : w.heap.setIfInBounds b o = w.heap := by
    apply Array.ext_getElem?
    intro i
    by_cases hi : i = b
    · subst hi
      rw [Array.getElem?_setIfInBounds_self_of_lt (Array.getElem?_eq_some_iff.1 h).1, h]
    · rw [Array.getElem?_setIfInBounds_ne (Ne.symm hi)]
  unfold setBlock
  rw [e]
theorem hasN_app_self (K : List Nd) {n : Nd} (h : n ∈ K) (m : Nd) : hasN (K ++ [n]) m = hasN K m := by
  rw [Bool.eq_iff_iff, hasN_iff, hasN_iff, List.mem_append]
  exact ⟨fun k => k.elim id fun k => by rw [List.mem_singleton.1 k]; exact h, .inl⟩
/-- 'm[n] op= x': the entry first (n has one from then on), then what is stored. -/
theorem entry_cmap {w : World} {b nn : Nat} {K : List Nd} {f : Nd → Int} {p v : List UInt8} (h : CMap w b nn K f) (hf : fitsN (p, v)) (hnn : nn < maxLen) :
    ∃ (st : Nat) (w1 : World), (Instr.mapEntry 48 (.map (some b)) (.agg #[.string (mkB p), .string (mkB v)])).run Tryz.prog w = .ok (.tuple #[.int .i64 (f (p, v)), .int .i64 (st : Int)]) w1 ∧
      CMap w1 b (nn + 1) (K ++ [(p, v)]) f ∧ w.grownBy w1 (some b) ∧
      ∀ z, fitI z → ∃ w2, (Instr.entryStore 48 (.map (some b)) (.int .i64 (st : Int)) (.int .i64 z)).run Tryz.prog w1 = .ok () w2 ∧ CMap w2 b (nn + 1) (K ++ [(p, v)]) (fun m => if m = (p, v) then z else f m) ∧ w.grownBy w2 (some b) := by
  have hz0 : ∀ u : World, (zeroValue 3).run Tryz.prog u = .ok (.int .i64 0) u := Tryz.zeroValue3
  have hlook := look_cmap h hf
  have hkey : keyOf Tryz.prog 40 (.agg #[.string (mkB p), .string (mkB v)]) = some (litN (p, v)) := key_n (p, v) hf.1 hf.2
  have ht := Tryz.underlying48
  have hC := h
  obtain ⟨_, h0, D, hown, hD⟩ := h
  obtain ⟨es, clock, hb, F, hs, rfl⟩ := hown
  obtain ⟨v0, st, es1, clock1, hE, -, hS⟩ := WideElems.entry_then_store node_law ht hz0 hb F hkey
  have hb1 : (setBlock w b (.map es1 clock1)).heap[b]? = some (.map es1 clock1) := heap_setBlock_same hb _
  have hfst : ∀ z, fitI z → ∃ w2, (Instr.entryStore 48 (.map (some b)) (.int .i64 (st : Int)) (.int .i64 z)).run Tryz.prog (setBlock w b (.map es1 clock1)) = .ok () w2 ∧ CMap w2 b (nn + 1) (K ++ [(p, v)]) (fun m => if m = (p, v) then z else f m) ∧ w.grownBy w2 (some b) := by
    intro z hz
    obtain ⟨es', clock', hr1, hr2⟩ := hS _ (.int .i64 z) hb1
    have e : setBlock (setBlock w b (.map es1 clock1)) b (.map es' clock') = setBlock w b (.map es' clock') := by simp [setBlock]
    rw [e] at hr1
    obtain ⟨k1, k2⟩ := hC.stored (n := (p, v)) hf hz hnn hr2
    exact ⟨_, hr1, k1, k2⟩
  have hgr : w.grownBy (setBlock w b (.map es1 clock1)) (some b) := ⟨rfl, rfl, rfl, by simp [setBlock], fun i _ hi => heap_setBlock_other hb _ (fun e => hi (by rw [e]))⟩
  rcases node_keyed.find w hkey es.toList F.keys with ⟨f1, f2⟩ | ⟨j, e0, f1, f2, f3⟩
  · have hrun : (Instr.mapEntry 48 (.map (some b)) (.agg #[.string (mkB p), .string (mkB v)])).run Tryz.prog w = .ok (.tuple #[.int .i64 0, .int .i64 (clock : Int)]) (setBlock w b (.map (es.push ⟨.agg #[.string (mkB p), .string (mkB v)], .int .i64 0, clock⟩) (clock + 1))) := by
      simp [Instr.mapEntry, run_underlying ht, MapKept.run_getObj_map hb, node_keyed.check w false hkey, f1, hz0, MapKept.run_setObj_map _ hb, Result.andThen, setBlock, goInt]
    have hup : (Instr.mapUpdate 48 (.map (some b)) (ndV (p, v)) (.int .i64 0)).run Tryz.prog w = .ok () (setBlock w b (.map (es.push ⟨.agg #[.string (mkB p), .string (mkB v)], .int .i64 0, clock⟩) (clock + 1))) := by
      have : ndV (p, v) = .agg #[.string (mkB p), .string (mkB v)] := rfl
      rw [this]
      simp [Instr.mapUpdate, run_underlying ht, MapKept.run_getObj_map hb, node_keyed.check w false hkey, f1, MapKept.run_setObj_map _ hb, Result.andThen, setBlock]
    have hl2 : (Instr.lookup 48 (.map (some b)) (.agg #[.string (mkB p), .string (mkB v)]) false).run Tryz.prog w = .ok (.int .i64 0) w := by
      simp [Instr.lookup, run_underlying ht, MapKept.run_getObj_map hb, node_keyed.check w _ hkey, f1, hz0, Result.andThen]
    have ef : f (p, v) = 0 := by
      have h2 := hlook.symm.trans hl2
      injection h2 with h3
      injection h3
    obtain ⟨k1, _⟩ := hC.stored (n := (p, v)) hf (show fitI 0 by unfold fitI; omega) hnn hup
    rw [hrun] at hE
    injection hE with e1 e2
    injection e1 with e1
    have e3 : ((clock : Nat) : Int) = (st : Int) := by
      have h4 : #[Value.int .i64 0, Value.int .i64 (clock : Int)] = #[v0, goInt st] := e1
      have h5 := congrArg (fun x : Array Value => x[1]?) h4
      simpa [goInt] using h5
    rw [e2] at hrun k1
    refine ⟨st, _, by rw [ef, ← e3]; exact hrun, k1.congr fun m => ?_, hgr, hfst⟩
    by_cases hm : m = (p, v)
    · rw [if_pos hm, hm, ef]
    · rw [if_neg hm]
  · have hj : es[j]? = some e0 := by simpa using f2
    have hsame : es.modify j (fun e => { e with key := (.agg #[.string (mkB p), .string (mkB v)]) }) = es := by
      apply Array.ext'
      rw [Array.toList_modify, ChangeMaps.modify_eq_set _ _ _ _ f2]
      have : ({ e0 with key := (.agg #[.string (mkB p), .string (mkB v)]) } : MapEntry) = e0 := by rw [← f3]
      rw [this]
      exact WideElems.set_self _ _ _ f2
    have hrun : (Instr.mapEntry 48 (.map (some b)) (.agg #[.string (mkB p), .string (mkB v)])).run Tryz.prog w = .ok (.tuple #[e0.val, .int .i64 (e0.born : Int)]) (setBlock w b (.map es clock)) := by
      simp [Instr.mapEntry, run_underlying ht, MapKept.run_getObj_map hb, node_keyed.check w false hkey, f1, hj, f3, node_keyed.stays w hkey, hsame, MapKept.run_setObj_map _ hb, Result.andThen, setBlock, goInt]
    have hl2 : (Instr.lookup 48 (.map (some b)) (.agg #[.string (mkB p), .string (mkB v)]) false).run Tryz.prog w = .ok e0.val w := by
      simp [Instr.lookup, run_underlying ht, MapKept.run_getObj_map hb, node_keyed.check w _ hkey, f1, Result.andThen]
    have ef : e0.val = .int .i64 (f (p, v)) := by
      have h2 := hl2.symm.trans hlook
      injection h2
    have hin : (p, v) ∈ K := by
      rw [← hasN_iff, ← (hD _ hf).1]
      rcases Maps.fit_look false node_keyed ht (hz0 w) hb F hkey with ⟨_, g2, _⟩ | ⟨e1, y, _, _, _, _, g6, _⟩
      · exact absurd f3 (g2 e0 (List.mem_of_getElem? f2))
      · exact Maps.has_true_of_atKey g6
    rw [hrun] at hE
    injection hE with e1 e2
    injection e1 with e1
    have e3 : ((e0.born : Nat) : Int) = (st : Int) := by
      have h4 : #[e0.val, Value.int .i64 (e0.born : Int)] = #[v0, goInt st] := e1
      have h5 := congrArg (fun x : Array Value => x[1]?) h4
      simpa [goInt] using h5
    have hw : setBlock w b (.map es1 clock1) = w := by rw [← e2]; exact block_self hb
    rw [e2] at hrun
    refine ⟨st, _, by rw [← ef, ← e3]; exact hrun, ?_, hgr, hfst⟩
    rw [hw]
    obtain ⟨c1, c2, D', c3, c4⟩ := hC
    refine ⟨fits_step c1 hf, fun m hm => c2 m fun k => hm (List.mem_append_left _ k), D', c3.mono (Nat.le_succ _), fun m hm => ?_⟩
    rw [hasN_app_self K hin]
    exact c4 m hm
end Go.Proofs.YtopcbmmnjmmoiaaGreat

namespace Go.Proofs.YtopcbmmnjmmoiaaGreat
open Go.RowKit Go.Maps Go.Sort Go.Shelf
set_option linter.unusedVariables false
set_option maxRecDepth 100000

def mkKey (n : Nd) : Value := .agg #[.string (mkB n.1), .string (mkB n.2)]
def mkInt (c : Int) : Value := .int .i64 c
theorem inv_key (key : Value) (kl : Lit) (h : keyOf Tryz.prog 40 key = some kl) : ∃ x : Nd, key = mkKey x := by
  obtain ⟨n, rfl, _⟩ := key_inv h; exact ⟨n, rfl⟩
theorem inv_int (v : Value) (y : DataW Unit × List MemPlace) (h : plainElem Tryz.prog 3 v = some y) : ∃ c, v = mkInt c := by
  obtain ⟨c, rfl, _⟩ := plainElem_int_inv Tryz.underlying3 h; exact ⟨c, rfl⟩
theorem MetN.all2 {D : DataW Unit} {left : Lit → Bool} {ss K : List Nd} (h : MetN D left ss) (hl : ∀ kl, left kl = false) (hf : ∀ n ∈ K, fitsN n) (hD : ∀ n, fitsN n → has D (litN n) = hasN K n) : ss.Nodup ∧ ∀ n, n ∈ ss ↔ n ∈ K := by
  refine ⟨h.1, fun n => ⟨fun hn => ?_, fun hn => ?_⟩⟩
  · have hfn := h.2.1 n hn
    have := ((h.2.2 n hfn).1 hn).1
    rw [hD n hfn, hasN_iff] at this
    exact this
  · have hfn := hf n hn
    exact (h.2.2 n hfn).2 ⟨by rw [hD n hfn, hasN_iff]; exact hn, hl _⟩

set_option maxHeartbeats 1600000 in
theorem keys1_in (F : Fence) (n : Nat) (h10 : F.fn 53) (hro : F.round = none) (hn : 1 ≤ n) (l Bm b nn : Nat) (D0 : DataW Unit) (J Jx : List Nd → World → Prop)
    (hY : ∀ pre x W, J pre W → pre.length < Maps.size D0 → YieldAt F (n - 1) Tryz.prog l #[mkKey x] W fun e W' =>
      (e = .returned (.bool true) ∧ J (pre ++ [x]) W' ∧ KeepsWalks W W') ∨ (e = .returned (.bool false) ∧ Jx (pre ++ [x]) W'))
    (W : World) (hJ : AbidesFrom W.heap.size J) (hm : W.cell? ⟨Bm, 0, none⟩ = some (.map (some b))) (hown : W.ownsMap Tryz.prog 40 (plainElem Tryz.prog 3) b nn D0) (h0 : J [] W) :
    CallsIn F n Tryz.prog 53 #[.func (.yield l) #[] #[], .pointer (some ⟨Bm, 0, none⟩)] W fun e W' => (∃ v, e = .returned v) ∧
      ((∃ ss : List Nd, (∃ left : Lit → Bool, MetN D0 left ss ∧ ∀ kl, left kl = false) ∧ J ss W') ∨ (∃ pre : List Nd, True ∧ Jx pre W')) := by
  refine callsIn_of_wp Tryz.func53 rfl h10 ?_ hro
  simp only [Tryz.ntmps53, List.size_toArray, List.length_cons, List.length_nil, Nat.reduceAdd, Nat.reduceSub, Array.replicate_succ, Array.replicate_zero, List.push_toArray, List.append_toArray, List.nil_append, List.cons_append]
  gi_wp2_with (first
    | (gi_at_range; refine wpListIn_range_own _ rfl _ 48 rfl 40 3 node_keyed Tryz.underlying48 _ b nn _ rfl hown ?_; intro w0 hrg0 hg0 hs0)
    | gi_in)
  go_frame
  gi_loopw [3] (fun _ wr => ∃ (left : Lit → Bool) (cnt : Nat) (ss : List Nd), wr.ranges Tryz.prog 40 (plainElem Tryz.prog 3) b W.heap.size nn D0 left cnt ∧ ss.length + cnt ≤ Maps.size D0 ∧ MetN D0 left ss ∧ J ss wr)
    (fun _ wr => wr.rangeLeft b W.heap.size)
  case atStart =>
    exact ⟨_, _, [], hrg0, by simp, MetN.start D0, hJ [] W w0 none h0 hg0 (fun r e => by cases e)⟩
  case round =>
    obtain ⟨left, cnt, ss, hrg, hcs, hC, hJs⟩ := hrel
    gi_wp2_with (first
      | (gi_at_next; refine wpListIn_next_ranges _ rfl _ rfl 40 node_keyed (plainElem Tryz.prog 3) mkKey mkInt inv_key inv_int b W.heap.size nn _ _ _ rfl hrg ?_ ?_)
      | gi_in)
    · intro hc0 hl0
      gi_wp2
      go_end0
      exact ⟨⟨_, rfl⟩, .inl ⟨ss, ⟨left, hC, hl0⟩, hJs⟩⟩
    · intro x1 x2 c kl yd yp w2 cnt2 hkey hlk hv hat hrg2 hlt hg2 hs2 hen
      obtain ⟨x', ex, rfl, hf1, hf2⟩ := key_inv hkey
      obtain rfl : (x1, x2) = x' := ndV_inj ex
      have hJ2 : J ss w2 := hJ ss wr w2 (some W.heap.size) hJs hg2 (fun r e => by cases e; exact ⟨Nat.le_refl _, hrg.iter_walk⟩)
      have hJ3 : J ss (w2.alloc (.cells #[.string (mkB x1), .string (mkB x2)] 40)) := hJ ss w2 _ none hJ2 (World.grownBy_alloc w2 _ none) (fun r e => by cases e)
      obtain ⟨fn, tmps, assign, body, hy, hR⟩ := hY ss (x1, x2) _ hJ3 (by omega)
      have hrg3 := hrg2.alloc (.cells #[.string (mkB x1), .string (mkB x2)] 40)
      have hC2 := hC.step (n := (x1, x2)) ⟨hf1, hf2⟩ hlk hat
      simp only [mkKey, mkInt] at hen hy ⊢
      clear hs2 hkey hv
      gi_wp2
      refine hR.mono ?_
      rintro e W3 (⟨rfl, hJ4, hk3⟩ | ⟨rfl, hJx3⟩)
      · gi_wp2
        have hrg4 := hrg3.of_walks hk3
        go_roundw
        case rel => exact ⟨_, cnt2, ss ++ [(x1, x2)], hrg4, by simp; omega, hC2, hJ4⟩
        case measure => rw [hrg4.left_eq, hrg.left_eq]; exact hlt
      · gi_wp2
        refine bodyPost_ret (results_none rfl _ _ _) rfl ?_
        exact ⟨⟨_, rfl⟩, .inr ⟨ss ++ [(x1, x2)], trivial, hJx3⟩⟩

/-- maps.Keys hands back a value that gives all keys, each once. -/
theorem keys_stops (F : Fence) (n : Nat) (h10 : F.fn 53) (hro : F.round = none) (hn : 1 ≤ n) (Bm b nn : Nat) (K : List Nd) (f : Nd → Int) (w : World) (hBm : Bm < w.heap.size)
    (hm : w.cell? ⟨Bm, 0, none⟩ = some (.map (some b))) (hown : CMap w b nn K f) :
    SeqStopsK F n Tryz.prog 53 #[.pointer (some ⟨Bm, 0, none⟩)] (fun x : Nd => #[mkKey x]) KeepsWalks (fun ss => ss.Nodup ∧ ∀ n, n ∈ ss ↔ n ∈ K) (fun _ => True) nn w := fun l J Jx W hW hJ _ hY h0 => by
  obtain ⟨hf, _, D, ho, hD⟩ := hown.below hW
  have hsz := ho.size_le
  refine (keys1_in F n h10 hro hn l Bm b nn D J Jx (fun pre x W1 hj hl => hY pre x W1 hj (by omega)) W hJ ((hW.cell (p := ⟨Bm, 0, none⟩) hBm).trans hm) ho h0).mono ?_
  rintro e W' ⟨hv, (⟨ss, ⟨left, hM, hl⟩, hj⟩ | ⟨pre, _, hj⟩)⟩
  · exact ⟨hv, .inl ⟨ss, hM.all2 hl hf fun n k => (hD n k).1, hj⟩⟩
  · exact ⟨hv, .inr ⟨pre, trivial, hj⟩⟩

set_option maxHeartbeats 400000 in
theorem keys_in (F : Fence) (n : Nat) (h7 : F.fn 38) (hro : F.round = none) (mb : Option Nat) (w : World) :
    CallsIn F n Tryz.prog 38 #[.map mb] w fun e w' => e = .returned (.func (.func 53) #[] #[.pointer (some ⟨w.heap.size, 0, none⟩)]) ∧ w' = w.alloc (.cells #[.map mb] 48) := by
  refine callsIn_of_wp Tryz.func38 rfl h7 ?_ hro
  simp only [Tryz.ntmps38, List.size_toArray, List.length_cons, List.length_nil, Nat.reduceAdd, Nat.reduceSub, Array.replicate_succ, Array.replicate_zero, List.push_toArray, List.append_toArray, List.nil_append, List.cons_append]
  gi_wp2
  go_ret
  exact ⟨rfl, rfl⟩

theorem cells_new_l (W : World) (xs : List Value) (t : TypeId) : ∀ (j : Nat) (u : Value), xs[j]? = some u → (W.alloc (.cells xs.toArray t)).cell? ((⟨W.heap.size, 0, none⟩ : Addr).add j) = some u := by
  intro j u hj
  have hadd : (⟨W.heap.size, 0, none⟩ : Addr).add j = ⟨W.heap.size, j, none⟩ := by unfold Addr.add; split <;> simp_all
  rw [hadd]
  have hh : (W.alloc (.cells xs.toArray t)).heap[W.heap.size]? = some (.cells xs.toArray t) := World.alloc_heap_new _ _
  unfold World.cell?
  rw [hh]
  simpa using hj
/-- The loop variable's own cells. -/
def AxN (w : World) (g : Nat) (lb : Array Value) (x : Nd) (a' : Act) (W : World) : Prop :=
  ∃ Bx, w.heap.size + 1 ≤ Bx ∧ W.heap[Bx]? = some (.cells #[.string (mkB x.1), .string (mkB x.2)] 40 (0, 0)) ∧
    a' = { tmps := #[.slice none 0 0, .func (.func g) #[] lb, .pointer (some ⟨w.heap.size, 0, none⟩), undef, .slice none 0 0, .pointer (some ⟨Bx, 0, none⟩), .func (.func g) #[] lb, .agg #[.string (mkB x.1), .string (mkB x.2)], undef, undef, undef, undef, undef], defers := [] }
theorem axn_own (w : World) (g : Nat) (lb : Array Value) (x : Nd) (a' : Act) (B : Nat) : OwnFrom B (fun (_ : Unit) W => AxN w g lb x a' W) := by
  rintro _ X Y row ⟨Bx, h1, h2, h3⟩ hg hr
  exact ⟨Bx, h1, (grownBy_keeps_cells hg (fun r e => (hr r e).2) h2 rfl).trans h2, h3⟩

attribute [local go_sem] Oper.semAt_some
set_option maxHeartbeats 4000000 in
/-- slices.AppendSeq(nil, seq): what came, in its order, in memory of the call's own. -/
theorem appendSeq_in (F : Fence) (n : Nat) (h11 : F.fn 68) (hro : F.round = none) (hn : 2 ≤ n) (g : Nat) (lb : Array Value) (hFg : F.fn g) (eg : ∀ args w, (callFunc g args).run Tryz.prog w = .ok (.enter g args) w)
    (S : List Nd → Prop) (N : Nat) (hN : N ≤ maxLen) (hNb : N * 32 ≤ 140737488355328) (w : World) (hseq : SeqStopsK F (n - 1) Tryz.prog g lb (fun x : Nd => #[mkKey x]) KeepsWalks S (fun _ => True) N w) :
    CallsIn F n Tryz.prog 68 #[.slice none 0 0, .func (.func g) #[] lb] w fun e w' => ∃ (v : Value) (ss : List Nd), e = .returned v ∧ S ss ∧ w'.ownsRow w.heap.size 40 2 v ss.length (ndsC ss) ∧ (v = .slice none 0 0 ↔ ss = []) ∧ Below w.heap.size w w' := by
  have h1 : 1 ≤ n := by omega
  obtain ⟨i0, hi, hz0, hz1, hz2⟩ := info_parts Tryz.info_node
  refine callsIn_of_wp_marks Tryz.func68 rfl h11 ?_ hro
  simp only [Tryz.ntmps68, List.size_toArray, List.length_cons, List.length_nil, Nat.reduceAdd, Nat.reduceSub, Array.replicate_succ, Array.replicate_zero, List.push_toArray, List.append_toArray, List.nil_append, List.cons_append]
  gi_wp2
  have bO := Boxed.new w 22 (.slice none 0 0)
  have hB0 : Below w.heap.size w (w.alloc (.cells #[.slice none 0 0] 22)) := (Below.refl _ w).alloc (Nat.le_refl _) _
  have hs0 : (w.alloc (.cells #[.slice none 0 0] 22)).heap.size = w.heap.size + 1 := by simp
  obtain ⟨W0, hW0⟩ : ∃ W0, w.alloc (.cells #[.slice none 0 0] 22) = W0 := ⟨_, rfl⟩
  rw [hW0] at bO hB0 hs0 ⊢
  clear hW0
  refine wpIn_rangeFunc_ownH hro h1 (gf := g) (lb := lb) rfl hFg eg hseq walksK_t walksK_b hB0 (fun _ => rfl)
    (fun pre W => (∃ v, Boxed W w.heap.size 22 v ∧ W.ownsRow w.heap.size 40 2 v pre.length (ndsC pre) ∧ (v = .slice none 0 0 ↔ pre = [])) ∧ Below w.heap.size w W)
    (fun _ _ _ => False)
    (OwnFrom.and (Own.from (holdsRow_own w.heap.size w.heap.size 22 40 2 (fun pre => pre.length) (fun pre => ndsC pre) (fun pre v => v = .slice none 0 0 ↔ pre = [])) _) (ownFrom_below (Nat.le_refl _) (by omega)))
    (fun _ _ _ _ _ hs _ _ => hs)
    ⟨⟨_, bO, World.ownsRow_nil _ _ _ _, by simp⟩, hB0⟩
    (AxN w g lb) (fun x a' => axn_own w g lb x a' _) ?assign ?body ?done ?stop
  case assign =>
    rintro l pre x W K ⟨⟨v, hv, hrow, hnil⟩, hB⟩ hK
    simp only [mkKey]
    gi_wp2
    refine hK _ _ ((KeepsOthers.alloc _ _).from _) (KeepsWalks.alloc _ _) ⟨⟨v, hv.alloc _, hrow.alloc _, hnil⟩, hB.alloc hB.size _⟩ ⟨W.heap.size, ?_, World.alloc_heap_new W _, rfl⟩
    have := hv.lt; omega
  case body =>
    rintro l pre x a' W hl ⟨r, hr⟩ ⟨⟨v, hv, hrow, hnil⟩, hB⟩ ⟨Bx, hBx, bX, rfl⟩ hlt
    have hc := hv.cell
    have c0 : W.cell? ⟨Bx, 0, none⟩ = some (.string (mkB x.1)) := by simp [World.cell?, bX]
    have c1 : W.cell? ⟨Bx, 1, none⟩ = some (.string (mkB x.2)) := by simp [World.cell?, bX]
    gi_wp2_with (gi_at_builtin; refine wpListIn_append_own _ rfl _ _ 22 rfl w.heap.size 40 i0 (.agg #[.string ByteArray.empty, .string ByteArray.empty]) 2 32 Tryz.underlying22 hi hz0 hz1 hz2 rfl (by decide) _ _ _ rfl (hrow.alloc _) ⟨W.heap.size, 0, none⟩ 1 1 [.string (mkB x.1), .string (mkB x.2)] rfl rfl (cells_new_l _ _ _) (by simp [Value.oneCell']) (by omega) (by omega) (by have := hB.size; simp; omega) ?_; intro v' w1 hown' hgrow _; obtain ⟨g', cap', rfl⟩ := ownsRow_succ hown'; obtain ⟨hv1, hv2, hr2, hk2, hb2⟩ := hv.appended (by decide) hrow hB.size (Nat.le_refl _) hown' hgrow; have hc1 := hv1.cell; have hf1 := hv1.frozen)
    exact ⟨hk2.from _, hk2.walks, ⟨_, hv2, by rw [ndsC_snoc]; simpa using hr2, by simp⟩, hB.trans hb2⟩
  case done =>
    rintro D ys W hD hS ⟨⟨v, hv, hrow, hnil⟩, hB⟩ hK
    have hc := hv.cell
    gi_wp2
    refine ⟨by simp, .inl ⟨_, _, rfl, run_takeDeferred hK, ?_⟩⟩
    exact ⟨_, results_tmp rfl _ _ _, v, ys, rfl, hS, ownsRow_putObj hrow _ hK rfl, hnil, hB.trans (belowK_b (w := w) (Nat.le_refl _) W D _ _ (by omega) hK rfl rfl)⟩
  case stop =>
    rintro D c pre W _ _ h _
    exact h.elim

set_option maxHeartbeats 1000000 in
theorem collect_in (F : Fence) (n : Nat) (h8 : F.fn 51) (h11 : F.fn 68) (hro : F.round = none) (hn : 3 ≤ n) (g : Nat) (lb : Array Value) (hFg : F.fn g) (eg : ∀ args w, (callFunc g args).run Tryz.prog w = .ok (.enter g args) w)
    (S : List Nd → Prop) (N : Nat) (hN : N ≤ maxLen) (hNb : N * 32 ≤ 140737488355328) (w : World) (hseq : SeqStopsK F (n - 1 - 1) Tryz.prog g lb (fun x : Nd => #[mkKey x]) KeepsWalks S (fun _ => True) N w) :
    CallsIn F n Tryz.prog 51 #[.func (.func g) #[] lb] w fun e w' => ∃ (v : Value) (ss : List Nd), e = .returned v ∧ S ss ∧ w'.ownsRow w.heap.size 40 2 v ss.length (ndsC ss) ∧ (v = .slice none 0 0 ↔ ss = []) ∧ Below w.heap.size w w' := by
  have h1 : 1 ≤ n := by omega
  refine callsIn_of_wp Tryz.func51 rfl h8 ?_ hro
  simp only [Tryz.ntmps51, List.size_toArray, List.length_cons, List.length_nil, Nat.reduceAdd, Nat.reduceSub, Array.replicate_succ, Array.replicate_zero, List.push_toArray, List.append_toArray, List.nil_append, List.cons_append]
  gi_wp2_with (gi_at_call 68; refine (appendSeq_in F (n - 1) h11 hro (by omega) g lb hFg eg S N hN hNb _ hseq).mono ?_; rintro e w' ⟨v, ss, rfl, hS, hrow, hnil, hb⟩)
  go_ret
  exact ⟨v, ss, rfl, hS, hrow, hnil, hb⟩
end Go.Proofs.YtopcbmmnjmmoiaaGreat
