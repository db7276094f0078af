/- Lists of nodes held against one another, edits: plain facts. -/
import Derived.Test.YtglhjdbnpdoinaaGreatNodM
namespace Go.Proofs.YtglhjdbnpdoinaaGreat
set_option linter.unusedVariables false
set_option maxRecDepth 100000

/-- An edit: a node, and by how many more it is there. -/
abbrev De := Nd × Int
abbrev zD : De := (([], []), 0)
/-- No further than may be. -/
def inD (z : Int) : Bool := decide (-1099511627776 ≤ z) && decide (z ≤ 1099511627776)
theorem inD_iff {z : Int} : inD z = true ↔ -1099511627776 ≤ z ∧ z ≤ 1099511627776 := by unfold inD; simp
abbrev keyD (l : List De) : List Nd := l.map Prod.fst
theorem keyD_cons (x : De) (l : List De) : keyD (x :: l) = x.1 :: keyD l := rfl
def byOk (l : List De) : Bool := l.all fun e => !decide (e.2 = 0) && inD e.2
def okD (l : List De) : Bool := byOk l && checkN (keyD l)
def byD : List De → Nd → Int
  | [], _ => 0
  | e :: l, n => (if e.1 = n then e.2 else 0) + byD l n
def mkD : List Nd → (Nd → Int) → List De
  | [], _ => []
  | n :: s, f => if f n = 0 then mkD s f else (n, f n) :: mkD s f
def cntN (l : List Nd) (n : Nd) : Nat := l.count n
def turnD (l : List De) : List De := l.map fun e => (e.1, -e.2)
/-- Two edits as one, the one that comes next first. -/
def mergeD : List De → List De → List De
  | [], b => b
  | x :: a, [] => x :: a
  | x :: a, y :: b => if ltN x.1 y.1 then x :: mergeD a (y :: b) else if ltN y.1 x.1 then y :: mergeD (x :: a) b else if x.2 + y.2 = 0 then mergeD a b else (x.1, x.2 + y.2) :: mergeD a b
termination_by a b => a.length + b.length

theorem byOk_iff {l : List De} : byOk l = true ↔ ∀ e ∈ l, e.2 ≠ 0 ∧ inD e.2 = true := by
  unfold byOk; rw [List.all_eq_true]; simp
theorem okD_parts {l : List De} (h : okD l = true) : byOk l = true ∧ checkN (keyD l) = true := by unfold okD at h; simpa using h
theorem okD_of {l : List De} (h : byOk l = true) (k : checkN (keyD l) = true) : okD l = true := by unfold okD; rw [h, k]; rfl
theorem okD_ok {l : List De} (h : okD l = true) : ∀ e ∈ l, okN e.1 = true := fun e he => checkN_ok (okD_parts h).2 _ (List.mem_map_of_mem he)
theorem okD_rise {l : List De} (h : okD l = true) : Rises (keyD l) := checkN_rises (okD_parts h).2
theorem okD_nz {l : List De} (h : okD l = true) : ∀ e ∈ l, e.2 ≠ 0 := fun e he => (byOk_iff.1 (okD_parts h).1 e he).1
theorem okD_in {l : List De} (h : okD l = true) : ∀ e ∈ l, inD e.2 = true := fun e he => (byOk_iff.1 (okD_parts h).1 e he).2

/-! ### By how many -/
theorem byD_cons (e : De) (l : List De) (n : Nd) : byD (e :: l) n = (if e.1 = n then e.2 else 0) + byD l n := rfl
theorem byD_app (l m : List De) (n : Nd) : byD (l ++ m) n = byD l n + byD m n := by
  induction l with
  | nil => simp [byD]
  | cons e l ih => rw [List.cons_append, byD_cons, byD_cons, ih]; omega
theorem byD_not {l : List De} {n : Nd} (h : n ∉ keyD l) : byD l n = 0 := by
  induction l with
  | nil => rfl
  | cons e l ih =>
    have h1 : ¬ e.1 = n := fun k => h (by simp [k])
    rw [byD_cons, if_neg h1, ih (fun k => h (by simp only [List.map_cons, List.mem_cons]; exact .inr k))]; rfl
theorem byD_take {l : List De} {k : Nat} (h : k < l.length) (n : Nd) : byD (l.take (k + 1)) n = byD (l.take k) n + (if (l.getD k zD).1 = n then (l.getD k zD).2 else 0) := by
  rw [List.take_succ_eq_append_getElem h, byD_app]
  have e : l.getD k zD = l[k] := by rw [List.getD_eq_getElem?_getD, List.getElem?_eq_getElem h]; rfl
  rw [e, byD_cons]
  simp [byD]
theorem rises_cons {n : Nd} {s : List Nd} (h : Rises (n :: s)) : Rises s ∧ n ∉ s ∧ ∀ m ∈ s, ltN n m = true := by
  obtain ⟨h1, h2⟩ := List.pairwise_cons.1 h
  refine ⟨h2, ?_, h1⟩
  intro k
  have := h1 n k
  rw [ltN_irrefl] at this
  cases this
theorem byD_mem {l : List De} (h : Rises (keyD l)) {e : De} (he : e ∈ l) : byD l e.1 = e.2 := by
  induction l with
  | nil => cases he
  | cons x l ih =>
    obtain ⟨h1, h2, _⟩ := rises_cons h
    rcases List.mem_cons.1 he with rfl | he
    · rw [byD_cons, if_pos rfl, byD_not h2]; omega
    · have hne : ¬ x.1 = e.1 := fun k => h2 (by rw [k]; exact List.mem_map_of_mem he)
      rw [byD_cons, if_neg hne, ih h1 he]; omega
theorem byD_nz {l : List De} (h : Rises (keyD l)) (hz : ∀ e ∈ l, e.2 ≠ 0) (n : Nd) : n ∈ keyD l ↔ byD l n ≠ 0 := by
  constructor
  · intro hn
    obtain ⟨e, he, rfl⟩ := List.mem_map.1 hn
    rw [byD_mem h he]; exact hz e he
  · intro hn
    by_cases k : n ∈ keyD l
    · exact k
    · exact absurd (byD_not k) hn
theorem mkD_congr {s : List Nd} {f g : Nd → Int} (h : ∀ n ∈ s, f n = g n) : mkD s f = mkD s g := by
  induction s with
  | nil => rfl
  | cons n s ih =>
    have h1 := h n List.mem_cons_self
    have h2 := ih fun m hm => h m (List.mem_cons_of_mem _ hm)
    unfold mkD
    rw [h1, h2]
theorem mkD_self {l : List De} (h : Rises (keyD l)) (hz : ∀ e ∈ l, e.2 ≠ 0) : mkD (keyD l) (byD l) = l := by
  induction l with
  | nil => rfl
  | cons x l ih =>
    obtain ⟨h1, h2, _⟩ := rises_cons h
    have e : byD (x :: l) x.1 = x.2 := byD_mem h List.mem_cons_self
    have e2 : mkD (keyD l) (byD (x :: l)) = mkD (keyD l) (byD l) := mkD_congr fun n hn => by
      have : ¬ x.1 = n := fun k => h2 (k ▸ hn)
      rw [byD_cons, if_neg this]; omega
    rw [keyD_cons, mkD, e, if_neg (hz x List.mem_cons_self), e2, ih h1 fun e he => hz e (List.mem_cons_of_mem _ he)]
/-- Edits in order, none by 0, are told by how many more each node is there. -/
theorem edits_ext {l m : List De} (hl : Rises (keyD l)) (hm : Rises (keyD m)) (zl : ∀ e ∈ l, e.2 ≠ 0) (zm : ∀ e ∈ m, e.2 ≠ 0) (h : ∀ n, byD l n = byD m n) : l = m := by
  have e : keyD l = keyD m := rises_eq hl hm fun n => by rw [byD_nz hl zl, byD_nz hm zm, h]
  rw [← mkD_self hl zl, ← mkD_self hm zm, e]
  exact mkD_congr fun n _ => h n

/-! ### Edits made of a function -/
theorem mkD_app (s t : List Nd) (f : Nd → Int) : mkD (s ++ t) f = mkD s f ++ mkD t f := by
  induction s with
  | nil => rfl
  | cons n s ih =>
    rw [List.cons_append, mkD, mkD, ih]
    split <;> simp
theorem mkD_take {s : List Nd} {k : Nat} (h : k < s.length) (f : Nd → Int) : mkD (s.take (k + 1)) f = mkD (s.take k) f ++ (if f (s.getD k ([], [])) = 0 then [] else [(s.getD k ([], []), f (s.getD k ([], [])))]) := by
  rw [List.take_succ_eq_append_getElem h, mkD_app, nd_getD h]
  rfl
theorem mkD_len (s : List Nd) (f : Nd → Int) : (mkD s f).length ≤ s.length := by
  induction s with
  | nil => exact Nat.le_refl _
  | cons n s ih => rw [mkD]; split <;> simp <;> omega
theorem mkD_mem {s : List Nd} {f : Nd → Int} {e : De} : e ∈ mkD s f ↔ e.1 ∈ s ∧ e.2 = f e.1 ∧ e.2 ≠ 0 := by
  induction s with
  | nil => simp [mkD]
  | cons n s ih =>
    rw [mkD]
    obtain ⟨a, z⟩ := e
    simp only at ih
    split
    · rename_i h
      rw [ih]
      simp only [List.mem_cons]
      refine ⟨fun ⟨h1, h2, h3⟩ => ⟨.inr h1, h2, h3⟩, fun ⟨h1, h2, h3⟩ => ⟨?_, h2, h3⟩⟩
      rcases h1 with rfl | h1
      · exact absurd (h2.trans h) h3
      · exact h1
    · rename_i h
      simp only [List.mem_cons, ih, Prod.mk.injEq]
      constructor
      · rintro (⟨rfl, rfl⟩ | ⟨h1, h2, h3⟩)
        · exact ⟨.inl rfl, rfl, h⟩
        · exact ⟨.inr h1, h2, h3⟩
      · rintro ⟨rfl | h1, h2, h3⟩
        · exact .inl ⟨rfl, h2⟩
        · exact .inr ⟨h1, h2, h3⟩
theorem mkD_keys (s : List Nd) (f : Nd → Int) : keyD (mkD s f) = s.filter fun n => !decide (f n = 0) := by
  induction s with
  | nil => rfl
  | cons n s ih =>
    rw [mkD]
    by_cases h : f n = 0
    · rw [if_pos h, ih, List.filter_cons]; simp [h]
    · rw [if_neg h, keyD_cons, ih, List.filter_cons]; simp [h]
theorem mkD_rise {s : List Nd} (h : Rises s) (f : Nd → Int) : Rises (keyD (mkD s f)) := by rw [mkD_keys]; exact h.filter _
theorem mkD_nz {s : List Nd} {f : Nd → Int} : ∀ e ∈ mkD s f, e.2 ≠ 0 := fun _ he => (mkD_mem.1 he).2.2
theorem mkD_okN {s : List Nd} {f : Nd → Int} (h : ∀ n ∈ s, okN n = true) : ∀ n ∈ keyD (mkD s f), okN n = true := fun n hn => by
  rw [mkD_keys] at hn; exact h n (List.mem_filter.1 hn).1
theorem mkD_by {s : List Nd} (hs : Rises s) {f : Nd → Int} (hf : ∀ n, n ∉ s → f n = 0) (n : Nd) : byD (mkD s f) n = f n := by
  by_cases hn : n ∈ keyD (mkD s f)
  · obtain ⟨e, he, rfl⟩ := List.mem_map.1 hn
    rw [byD_mem (mkD_rise hs f) he, (mkD_mem.1 he).2.1]
  · rw [byD_not hn]
    by_cases h0 : f n = 0
    · exact h0.symm
    · exfalso
      have h1 : n ∈ s := by
        by_cases k : n ∈ s
        · exact k
        · exact absurd (hf n k) h0
      exact hn (by rw [mkD_keys]; exact List.mem_filter.2 ⟨h1, by simp [h0]⟩)
theorem mkD_okD {s : List Nd} {f : Nd → Int} (hs : Rises s) (ho : ∀ n ∈ s, okN n = true) (hf : ∀ n ∈ s, inD (f n) = true) : okD (mkD s f) = true := by
  refine okD_of (byOk_iff.2 fun e he => ?_) (checkN_of (mkD_okN ho) (mkD_rise hs f))
  obtain ⟨h1, h2, h3⟩ := mkD_mem.1 he
  exact ⟨h3, by rw [h2]; exact hf _ h1⟩

/-! ### Both -/
theorem merge_by : ∀ (a b : List De), (∀ e ∈ a, okN e.1 = true) → (∀ e ∈ b, okN e.1 = true) → ∀ n, byD (mergeD a b) n = byD a n + byD b n
  | [], b, _, _, n => by rw [mergeD]; simp [byD]
  | x :: a, [], _, _, n => by rw [mergeD]; simp [byD]
  | x :: a, y :: b, ha, hb, n => by
    have ha' : ∀ e ∈ a, okN e.1 = true := fun e he => ha e (List.mem_cons_of_mem _ he)
    have hb' : ∀ e ∈ b, okN e.1 = true := fun e he => hb e (List.mem_cons_of_mem _ he)
    rw [mergeD]
    split
    · rw [byD_cons, merge_by a (y :: b) ha' hb, byD_cons x a]; omega
    · rename_i h1
      split
      · rw [byD_cons, merge_by (x :: a) b ha hb', byD_cons y b]; omega
      · rename_i h2
        have e : x.1 = y.1 := by
          rcases ltN_tri (ha x List.mem_cons_self) (hb y List.mem_cons_self) with k | k | k
          · exact absurd k h1
          · exact k
          · exact absurd k h2
        split
        · rename_i h3
          rw [merge_by a b ha' hb', byD_cons, byD_cons, e]
          split <;> omega
        · rw [byD_cons, merge_by a b ha' hb', byD_cons, byD_cons]
          simp only [e]
          split <;> omega
termination_by a b => a.length + b.length
theorem merge_keys : ∀ (a b : List De) (n : Nd), n ∈ keyD (mergeD a b) → n ∈ keyD a ∨ n ∈ keyD b
  | [], b, n, h => by rw [mergeD] at h; exact .inr h
  | x :: a, [], n, h => by rw [mergeD] at h; exact .inl h
  | x :: a, y :: b, n, h => by
    rw [mergeD] at h
    have i1 := merge_keys a (y :: b) n
    have i2 := merge_keys (x :: a) b n
    have i3 := merge_keys a b n
    simp only [List.map_cons, List.mem_cons] at i1 i2 i3 ⊢
    split at h
    · simp only [List.map_cons, List.mem_cons] at h
      rcases h with h | h
      · exact .inl (.inl h)
      · rcases i1 h with k | k
        · exact .inl (.inr k)
        · exact .inr k
    · split at h
      · simp only [List.map_cons, List.mem_cons] at h
        rcases h with h | h
        · exact .inr (.inl h)
        · rcases i2 h with k | k
          · exact .inl k
          · exact .inr (.inr k)
      · split at h
        · rcases i3 h with k | k
          · exact .inl (.inr k)
          · exact .inr (.inr k)
        · simp only [List.map_cons, List.mem_cons] at h
          rcases h with h | h
          · exact .inl (.inl h)
          · rcases i3 h with k | k
            · exact .inl (.inr k)
            · exact .inr (.inr k)
termination_by a b => a.length + b.length
theorem merge_nz : ∀ (a b : List De), (∀ e ∈ a, e.2 ≠ 0) → (∀ e ∈ b, e.2 ≠ 0) → ∀ e ∈ mergeD a b, e.2 ≠ 0
  | [], b, _, hb, e, h => by rw [mergeD] at h; exact hb e h
  | x :: a, [], ha, _, e, h => by rw [mergeD] at h; exact ha e h
  | x :: a, y :: b, ha, hb, e, h => by
    have ha' : ∀ e ∈ a, e.2 ≠ 0 := fun e he => ha e (List.mem_cons_of_mem _ he)
    have hb' : ∀ e ∈ b, e.2 ≠ 0 := fun e he => hb e (List.mem_cons_of_mem _ he)
    rw [mergeD] at h
    split at h
    · rcases List.mem_cons.1 h with rfl | h
      · exact ha _ List.mem_cons_self
      · exact merge_nz a (y :: b) ha' hb e h
    · split at h
      · rcases List.mem_cons.1 h with rfl | h
        · exact hb _ List.mem_cons_self
        · exact merge_nz (x :: a) b ha hb' e h
      · split at h
        · exact merge_nz a b ha' hb' e h
        · rename_i h3
          rcases List.mem_cons.1 h with rfl | h
          · exact h3
          · exact merge_nz a b ha' hb' e h
termination_by a b => a.length + b.length
theorem merge_rise : ∀ (a b : List De), (∀ e ∈ a, okN e.1 = true) → (∀ e ∈ b, okN e.1 = true) → Rises (keyD a) → Rises (keyD b) → Rises (keyD (mergeD a b))
  | [], b, _, _, _, hb => by rw [mergeD]; exact hb
  | x :: a, [], _, _, ha, _ => by rw [mergeD]; exact ha
  | x :: a, y :: b, oa, ob, ha, hb => by
    have oa' : ∀ e ∈ a, okN e.1 = true := fun e he => oa e (List.mem_cons_of_mem _ he)
    have ob' : ∀ e ∈ b, okN e.1 = true := fun e he => ob e (List.mem_cons_of_mem _ he)
    obtain ⟨ha1, _, ha3⟩ := rises_cons ha
    obtain ⟨hb1, _, hb3⟩ := rises_cons hb
    rw [mergeD]
    split
    · rename_i h1
      refine List.pairwise_cons.2 ⟨fun n hn => ?_, merge_rise a (y :: b) oa' ob ha1 hb⟩
      rcases merge_keys _ _ _ hn with k | k
      · exact ha3 n k
      · simp only [List.map_cons, List.mem_cons] at k
        rcases k with rfl | k
        · exact h1
        · exact ltN_trans h1 (hb3 n k)
    · rename_i h1
      split
      · rename_i h2
        refine List.pairwise_cons.2 ⟨fun n hn => ?_, merge_rise (x :: a) b oa ob' ha hb1⟩
        rcases merge_keys _ _ _ hn with k | k
        · simp only [List.map_cons, List.mem_cons] at k
          rcases k with rfl | k
          · exact h2
          · exact ltN_trans h2 (ha3 n k)
        · exact hb3 n k
      · rename_i h2
        have e : x.1 = y.1 := by
          rcases ltN_tri (oa x List.mem_cons_self) (ob y List.mem_cons_self) with k | k | k
          · exact absurd k h1
          · exact k
          · exact absurd k h2
        split
        · exact merge_rise a b oa' ob' ha1 hb1
        · refine List.pairwise_cons.2 ⟨fun n hn => ?_, merge_rise a b oa' ob' ha1 hb1⟩
          rcases merge_keys _ _ _ hn with k | k
          · exact ha3 n k
          · simp only [e]; exact hb3 n k
termination_by a b => a.length + b.length
theorem merge_len : ∀ (a b : List De), (mergeD a b).length ≤ a.length + b.length
  | [], b => by rw [mergeD]; simp
  | x :: a, [] => by rw [mergeD]; simp
  | x :: a, y :: b => by
    have i1 := merge_len a (y :: b)
    have i2 := merge_len (x :: a) b
    have i3 := merge_len a b
    simp only [List.length_cons] at i1 i2 i3 ⊢
    rw [mergeD]
    split
    · simp only [List.length_cons]; omega
    · split
      · simp only [List.length_cons]; omega
      · split
        · omega
        · simp only [List.length_cons]; omega
termination_by a b => a.length + b.length
theorem merge_nil (a : List De) : mergeD a [] = a := by cases a <;> rw [mergeD]
theorem merge_nilL (a : List De) : mergeD [] a = a := by rw [mergeD]
theorem merge_l {x y : De} {a b : List De} (h : ltN x.1 y.1 = true) : mergeD (x :: a) (y :: b) = x :: mergeD a (y :: b) := by rw [mergeD, if_pos h]
theorem merge_r {x y : De} {a b : List De} (h : ltN y.1 x.1 = true) : mergeD (x :: a) (y :: b) = y :: mergeD (x :: a) b := by rw [mergeD, if_neg (by rw [ltN_asym h]; simp), if_pos h]
theorem merge_0 {x y : De} {a b : List De} (h : x.1 = y.1) (h0 : x.2 + y.2 = 0) : mergeD (x :: a) (y :: b) = mergeD a b := by rw [mergeD, h, ltN_irrefl, if_neg (by simp), if_neg (by simp), if_pos h0]
theorem merge_1 {x y : De} {a b : List De} (h : x.1 = y.1) (h0 : x.2 + y.2 ≠ 0) : mergeD (x :: a) (y :: b) = (x.1, x.2 + y.2) :: mergeD a b := by rw [mergeD, h, ltN_irrefl, if_neg (by simp), if_neg (by simp), if_neg h0]
theorem merge_parts {a b : List De} (ha : okD a = true) (hb : okD b = true) : Rises (keyD (mergeD a b)) ∧ (∀ n ∈ keyD (mergeD a b), okN n = true) ∧ (∀ e ∈ mergeD a b, e.2 ≠ 0) ∧ ∀ n, byD (mergeD a b) n = byD a n + byD b n :=
  ⟨merge_rise a b (okD_ok ha) (okD_ok hb) (okD_rise ha) (okD_rise hb), fun n hn => by
    rcases merge_keys _ _ _ hn with k | k
    · exact checkN_ok (okD_parts ha).2 n k
    · exact checkN_ok (okD_parts hb).2 n k, merge_nz a b (okD_nz ha) (okD_nz hb), merge_by a b (okD_ok ha) (okD_ok hb)⟩
theorem merge_okD {a b : List De} (ha : okD a = true) (hb : okD b = true) : okD (mergeD a b) = (mergeD a b).all fun e => inD e.2 := by
  obtain ⟨h1, h2, h3, _⟩ := merge_parts ha hb
  have k : checkN (keyD (mergeD a b)) = true := checkN_of h2 h1
  rw [Bool.eq_iff_iff, List.all_eq_true]
  constructor
  · exact fun h => okD_in h
  · exact fun h => okD_of (byOk_iff.2 fun e he => ⟨h3 e he, h e he⟩) k
/-- Whatever rises, has no 0, and says of each node what both say together, is both. -/
theorem merge_is {a b l : List De} (ha : okD a = true) (hb : okD b = true) (hl : Rises (keyD l)) (zl : ∀ e ∈ l, e.2 ≠ 0) (h : ∀ n, byD l n = byD a n + byD b n) : mergeD a b = l := by
  obtain ⟨h1, _, h3, h4⟩ := merge_parts ha hb
  exact edits_ext h1 hl h3 zl fun n => by rw [h4, h]
theorem merge_comm {a b : List De} (ha : okD a = true) (hb : okD b = true) : mergeD a b = mergeD b a := by
  obtain ⟨h1, _, h3, h4⟩ := merge_parts hb ha
  exact merge_is ha hb h1 h3 fun n => by rw [h4]; omega
/-- As the document has it. -/
theorem merge_doc {a b : List De} (ha : okD a = true) (hb : okD b = true) : mkD (setN (keyD a ++ keyD b)) (fun n => byD a n + byD b n) = mergeD a b := by
  have ho : ∀ n ∈ keyD a ++ keyD b, okN n = true := fun n hn => by
    rcases List.mem_append.1 hn with k | k
    · exact checkN_ok (okD_parts ha).2 n k
    · exact checkN_ok (okD_parts hb).2 n k
  refine (merge_is ha hb (mkD_rise (setN_rises _) _) mkD_nz fun n => mkD_by (setN_rises _) (fun n hn => ?_) n).symm
  rw [setN_mem ho, List.mem_append, not_or] at hn
  rw [byD_not hn.1, byD_not hn.2]; rfl

/-! ### Turned about -/
theorem turn_keys (l : List De) : keyD (turnD l) = keyD l := by unfold turnD keyD; rw [List.map_map]; rfl
theorem turn_len (l : List De) : (turnD l).length = l.length := by unfold turnD; rw [List.length_map]
theorem turn_by (l : List De) (n : Nd) : byD (turnD l) n = - byD l n := by
  induction l with
  | nil => rfl
  | cons e l ih =>
    have h : turnD (e :: l) = (e.1, -e.2) :: turnD l := rfl
    rw [h, byD_cons, byD_cons, ih]
    by_cases h : e.1 = n
    · rw [if_pos h, if_pos h]; omega
    · rw [if_neg h, if_neg h]; omega
theorem turn_nz {l : List De} (h : ∀ e ∈ l, e.2 ≠ 0) : ∀ e ∈ turnD l, e.2 ≠ 0 := fun e he => by
  obtain ⟨x, hx, rfl⟩ := List.mem_map.1 he
  have := h x hx
  simp only; omega
theorem turn_ok {l : List De} (h : okD l = true) : okD (turnD l) = true := by
  obtain ⟨h1, h2⟩ := okD_parts h
  refine okD_of (byOk_iff.2 fun e he => ?_) (by rw [turn_keys]; exact h2)
  obtain ⟨x, hx, rfl⟩ := List.mem_map.1 he
  obtain ⟨k1, k2⟩ := byOk_iff.1 h1 x hx
  rw [inD_iff] at k2 ⊢
  simp only
  exact ⟨by omega, by omega, by omega⟩
theorem turn_turn (l : List De) : turnD (turnD l) = l := by
  unfold turnD
  rw [List.map_map]
  induction l with
  | nil => rfl
  | cons e l ih =>
    obtain ⟨n, z⟩ := e
    simp only [List.map_cons, Function.comp, Int.neg_neg] at ih ⊢
    rw [ih]
theorem merge_turn {l : List De} (h : okD l = true) : mergeD l (turnD l) = [] :=
  merge_is h (turn_ok h) List.Pairwise.nil (fun e he => by cases he) fun n => by rw [turn_by]; simp [byD]; omega

/-! ### Lists of nodes held against one another -/
def difF (old now : List Nd) (n : Nd) : Int := (cntN now n : Int) - (cntN old n : Int)
def difL (old now : List Nd) : List De := mkD (setN (old ++ now)) (difF old now)
theorem cntN_app (l m : List Nd) (n : Nd) : cntN (l ++ m) n = cntN l n + cntN m n := List.count_append
theorem cntN_not {l : List Nd} {n : Nd} (h : n ∉ l) : cntN l n = 0 := List.count_eq_zero.2 h
theorem cntN_le (l : List Nd) (n : Nd) : cntN l n ≤ l.length := List.count_le_length
theorem cntN_take {l : List Nd} {k : Nat} (h : k < l.length) (n : Nd) : cntN (l.take (k + 1)) n = cntN (l.take k) n + (if l.getD k ([], []) = n then 1 else 0) := by
  rw [List.take_succ_eq_append_getElem h, cntN_app, nd_getD h]
  unfold cntN
  rw [List.count_cons]
  simp
theorem difF_not {old now : List Nd} {n : Nd} (h : n ∉ old ++ now) : difF old now n = 0 := by
  rw [List.mem_append, not_or] at h
  unfold difF; rw [cntN_not h.1, cntN_not h.2]; rfl
theorem difF_bound (old now : List Nd) (n : Nd) : -(old.length : Int) ≤ difF old now n ∧ difF old now n ≤ now.length := by
  unfold difF
  have h1 := cntN_le old n
  have h2 := cntN_le now n
  constructor <;> omega
theorem dif_by {old now : List Nd} (h : ∀ n ∈ old ++ now, okN n = true) (n : Nd) : byD (difL old now) n = difF old now n :=
  mkD_by (setN_rises _) (fun n hn => difF_not fun k => hn ((setN_mem h n).2 k)) n
theorem dif_rise (old now : List Nd) : Rises (keyD (difL old now)) := mkD_rise (setN_rises _) _
theorem dif_nz (old now : List Nd) : ∀ e ∈ difL old now, e.2 ≠ 0 := mkD_nz
theorem dif_okD {old now : List Nd} (h : ∀ n ∈ old ++ now, okN n = true) (h1 : old.length ≤ 1000000) (h2 : now.length ≤ 1000000) : okD (difL old now) = true :=
  mkD_okD (setN_rises _) (fun n hn => h n ((setN_mem h n).1 hn)) fun n _ => by
    have := difF_bound old now n
    rw [inD_iff]; omega
theorem dif_is {old now : List Nd} (h : ∀ n ∈ old ++ now, okN n = true) {l : List De} (hl : Rises (keyD l)) (zl : ∀ e ∈ l, e.2 ≠ 0) (hb : ∀ n, byD l n = difF old now n) : difL old now = l :=
  edits_ext (dif_rise _ _) hl (dif_nz _ _) zl fun n => by rw [dif_by h, hb]
theorem dif_len (old now : List Nd) : (difL old now).length ≤ old.length + now.length := by
  have h1 := mkD_len (setN (old ++ now)) (difF old now)
  have h2 := setN_len (old ++ now)
  rw [List.length_append] at h2
  unfold difL; omega

/-! ### What the laws ask -/
theorem dif_self {l : List Nd} (h : ∀ n ∈ l, okN n = true) : difL l l = [] :=
  dif_is (fun n hn => by rcases List.mem_append.1 hn with k | k <;> exact h n k) List.Pairwise.nil (fun e he => by cases he) fun n => by unfold difF byD; omega
theorem dif_turn {old now : List Nd} (ho : ∀ n ∈ old, okN n = true) (hn : ∀ n ∈ now, okN n = true) : turnD (difL old now) = difL now old := by
  have h1 : ∀ n ∈ old ++ now, okN n = true := fun n k => by rcases List.mem_append.1 k with k | k; exact ho n k; exact hn n k
  have h2 : ∀ n ∈ now ++ old, okN n = true := fun n k => by rcases List.mem_append.1 k with k | k; exact hn n k; exact ho n k
  refine (dif_is h2 (by rw [turn_keys]; exact dif_rise _ _) (turn_nz (dif_nz _ _)) fun n => ?_).symm
  rw [turn_by, dif_by h1]; unfold difF; omega
theorem dif_via {old now mid : List Nd} (ho : ∀ n ∈ old, okN n = true) (hn : ∀ n ∈ now, okN n = true) (hm : ∀ n ∈ mid, okN n = true) (l1 : old.length ≤ 1000000) (l2 : now.length ≤ 1000000) (l3 : mid.length ≤ 1000000) :
    mergeD (difL old mid) (difL mid now) = difL old now := by
  have h1 : ∀ n ∈ old ++ mid, okN n = true := fun n k => by rcases List.mem_append.1 k with k | k; exact ho n k; exact hm n k
  have h2 : ∀ n ∈ mid ++ now, okN n = true := fun n k => by rcases List.mem_append.1 k with k | k; exact hm n k; exact hn n k
  have h3 : ∀ n ∈ old ++ now, okN n = true := fun n k => by rcases List.mem_append.1 k with k | k; exact ho n k; exact hn n k
  refine merge_is (dif_okD h1 l1 l3) (dif_okD h2 l3 l2) (dif_rise _ _) (dif_nz _ _) fun n => ?_
  rw [dif_by h1, dif_by h2, dif_by h3]; unfold difF; omega
theorem dif_back {l : List Nd} (h : ∀ n ∈ l, okN n = true) : difL l l.reverse = [] :=
  dif_is (fun n hn => by rcases List.mem_append.1 hn with k | k; exact h n k; exact h n (List.mem_reverse.1 k)) List.Pairwise.nil (fun e he => by cases he) fun n => by
    unfold difF byD cntN; rw [List.count_reverse]; omega
theorem dif_one {l : List Nd} {n : Nd} (h : ∀ n ∈ l, okN n = true) (hn : okN n = true) : difL l (l.reverse ++ [n]) = [(n, 1)] :=
  dif_is (fun m hm => by
    rcases List.mem_append.1 hm with k | k
    · exact h m k
    · rcases List.mem_append.1 k with k | k
      · exact h m (List.mem_reverse.1 k)
      · rw [List.mem_singleton.1 k]; exact hn) (List.pairwise_cons.2 ⟨fun x hx => (by cases hx), List.Pairwise.nil⟩) (fun e he => by rw [List.mem_singleton.1 he]; show (1 : Int) ≠ 0; decide) fun m => by
    unfold difF
    rw [cntN_app]
    unfold cntN
    rw [List.count_reverse, List.count_cons, List.count_nil, byD_cons]
    by_cases k : n = m
    · simp [k, byD]; omega
    · simp [k, byD]
theorem dif_more {old now : List Nd} (ho : ∀ n ∈ old, okN n = true) (hn : ∀ n ∈ now, okN n = true) : difL old (old ++ now) = difL [] now :=
  dif_is (fun n k => by
    rcases List.mem_append.1 k with k | k
    · exact ho n k
    · rcases List.mem_append.1 k with k | k
      · exact ho n k
      · exact hn n k) (dif_rise _ _) (dif_nz _ _) fun n => by
    rw [dif_by (by simpa using hn)]; unfold difF; rw [cntN_app]
    have : cntN [] n = 0 := rfl
    rw [this]; omega

/-! All together -/
def sumD : List De → Int
  | [] => 0
  | e :: l => e.2 + sumD l
theorem sumD_app (l m : List De) : sumD (l ++ m) = sumD l + sumD m := by
  induction l with
  | nil => simp [sumD]
  | cons e l ih => rw [List.cons_append, sumD, sumD, ih]; omega
theorem sumD_take {l : List De} {k : Nat} (h : k < l.length) : sumD (l.take (k + 1)) = sumD (l.take k) + (l.getD k zD).2 := by
  rw [List.take_succ_eq_append_getElem h, sumD_app]
  have e : l.getD k zD = l[k] := by rw [List.getD_eq_getElem?_getD, List.getElem?_eq_getElem h]; rfl
  rw [e]; simp [sumD]
def sumN (s : List Nd) (f : Nd → Int) : Int := match s with
  | [] => 0
  | n :: s => f n + sumN s f
theorem sum_mkD (s : List Nd) (f : Nd → Int) : sumD (mkD s f) = sumN s f := by
  induction s with
  | nil => rfl
  | cons n s ih =>
    rw [mkD, sumN]
    split
    · rename_i h; rw [h, ih]; omega
    · rw [sumD, ih]
theorem sumN_sub (s : List Nd) (f g : Nd → Int) : sumN s (fun n => f n - g n) = sumN s f - sumN s g := by
  induction s with
  | nil => rfl
  | cons n s ih => simp only [sumN]; rw [ih]; omega
theorem sumN_one {s : List Nd} (hs : s.Nodup) (m : Nd) (g : Nd → Int) : sumN s (fun n => g n + if m = n then 1 else 0) = sumN s g + if m ∈ s then 1 else 0 := by
  induction s with
  | nil => simp [sumN]
  | cons n s ih =>
    obtain ⟨h1, h2⟩ := List.nodup_cons.1 hs
    simp only [sumN]
    rw [ih h2]
    by_cases k : m = n
    · subst k; simp [h1]; omega
    · simp [k]; omega
theorem sumN_cnt {s : List Nd} (hs : s.Nodup) (l : List Nd) (h : ∀ n ∈ l, n ∈ s) : sumN s (fun n => (cntN l n : Int)) = l.length := by
  induction l with
  | nil =>
    have : ∀ s : List Nd, sumN s (fun n => (cntN [] n : Int)) = 0 := by
      intro s
      induction s with
      | nil => rfl
      | cons n s ih => simp only [sumN]; rw [ih]; rfl
    simpa using this s
  | cons m l ih =>
    have e : (fun n => (cntN (m :: l) n : Int)) = fun n => (cntN l n : Int) + if m = n then 1 else 0 := by
      funext n
      unfold cntN
      rw [List.count_cons]
      by_cases k : m = n
      · simp [k]
      · simp [k]
    rw [e, sumN_one hs m (fun n => (cntN l n : Int)), ih fun n hn => h n (List.mem_cons_of_mem _ hn), if_pos (h m List.mem_cons_self)]
    simp
theorem dif_sum {old now : List Nd} (h : ∀ n ∈ old ++ now, okN n = true) : sumD (difL old now) = (now.length : Int) - old.length := by
  have hs := rises_nodup (setN_rises (old ++ now))
  have e : difF old now = fun n => (cntN now n : Int) - (cntN old n : Int) := rfl
  unfold difL
  rw [sum_mkD, e, sumN_sub, sumN_cnt hs now fun n hn => (setN_mem h n).2 (List.mem_append_right _ hn), sumN_cnt hs old fun n hn => (setN_mem h n).2 (List.mem_append_left _ hn)]
theorem sumD_bound {l : List De} {M : Int} (h : ∀ e ∈ l, -M ≤ e.2 ∧ e.2 ≤ M) (hM : 0 ≤ M) : -(M * l.length) ≤ sumD l ∧ sumD l ≤ M * l.length := by
  induction l with
  | nil => simp [sumD]
  | cons e l ih =>
    have h1 := h e List.mem_cons_self
    have h2 := ih fun x hx => h x (List.mem_cons_of_mem _ hx)
    simp only [sumD, List.length_cons]
    have h3 : M * ((l.length + 1 : Nat) : Int) = M * l.length + M := by rw [Int.natCast_add, Int.mul_add]; simp
    rw [h3]
    omega

/-! ### What each call answers -/
def allN2 (l : List Nd) : Bool := l.all okN
def diffE (old now : List Nd) : List De × Int := if (allN2 old && allN2 now) = true then (difL old now, 0) else ([], 1)
def bothE (a b : List De) : List De × Int := if (okD a && okD b) = true then if okD (mergeD a b) = true then (mergeD a b, 0) else ([], 4) else ([], 1)
def turnE (l : List De) : List De × Int := if okD l = true then (turnD l, 0) else ([], 1)
def chkD (l : List De) : Int := if okD l = true then 0 else 1
theorem allN2_iff {l : List Nd} : allN2 l = true ↔ ∀ n ∈ l, okN n = true := by unfold allN2; exact List.all_eq_true
theorem allN2_app {l m : List Nd} : allN2 (l ++ m) = (allN2 l && allN2 m) := by unfold allN2; rw [List.all_append]
theorem diffE_yes {old now : List Nd} (h : (allN2 old && allN2 now) = true) : diffE old now = (difL old now, 0) := by unfold diffE; rw [if_pos h]
theorem diffE_no {old now : List Nd} (h : (allN2 old && allN2 now) = false) : diffE old now = ([], 1) := by unfold diffE; rw [if_neg (by rw [h]; simp)]
theorem bothE_no {a b : List De} (h : (okD a && okD b) = false) : bothE a b = ([], 1) := by unfold bothE; rw [if_neg (by rw [h]; simp)]
theorem bothE_far {a b : List De} (h : (okD a && okD b) = true) (k : okD (mergeD a b) = false) : bothE a b = ([], 4) := by unfold bothE; rw [if_pos h, if_neg (by rw [k]; simp)]
theorem bothE_yes {a b : List De} (h : (okD a && okD b) = true) (k : okD (mergeD a b) = true) : bothE a b = (mergeD a b, 0) := by unfold bothE; rw [if_pos h, if_pos k]
theorem turnE_yes {l : List De} (h : okD l = true) : turnE l = (turnD l, 0) := by unfold turnE; rw [if_pos h]
theorem turnE_no {l : List De} (h : okD l = false) : turnE l = ([], 1) := by unfold turnE; rw [if_neg (by rw [h]; simp)]
theorem chkD_yes {l : List De} (h : okD l = true) : chkD l = 0 := by unfold chkD; rw [if_pos h]
theorem chkD_no {l : List De} (h : okD l = false) : chkD l = 1 := by unfold chkD; rw [if_neg (by rw [h]; simp)]
theorem bothE_comm (a b : List De) : bothE a b = bothE b a := by
  unfold bothE
  by_cases h : (okD a && okD b) = true
  · have h2 : (okD b && okD a) = true := by rw [Bool.and_comm]; exact h
    have h3 : okD a = true ∧ okD b = true := by simpa using h
    rw [if_pos h, if_pos h2, merge_comm h3.1 h3.2]
  · have h2 : ¬ (okD b && okD a) = true := by rw [Bool.and_comm]; exact h
    rw [if_neg h, if_neg h2]
theorem diffE_len (old now : List Nd) : (diffE old now).1.length ≤ old.length + now.length := by
  unfold diffE; split
  · exact dif_len _ _
  · exact Nat.zero_le _
theorem bothE_len (a b : List De) : (bothE a b).1.length ≤ a.length + b.length := by
  unfold bothE; split
  · split
    · exact merge_len _ _
    · exact Nat.zero_le _
  · exact Nat.zero_le _
theorem turnE_len (l : List De) : (turnE l).1.length ≤ l.length := by
  unfold turnE; split
  · rw [turn_len]; exact Nat.le_refl _
  · exact Nat.zero_le _
end Go.Proofs.YtglhjdbnpdoinaaGreat
