/- Needs, asked at one of their ends; levels and chains as the program goes about them: plain facts. -/
import Derived.Test.YtdefphacdcbljaaGreatWhyN
import Derived.Test.YtdefphacdcbljaaGreatItnM
namespace Go.Proofs.YtdefphacdcbljaaGreat
set_option linter.unusedVariables false
set_option maxRecDepth 100000

def fitI (z : Int) : Prop := -9223372036854775808 ≤ z ∧ z ≤ 9223372036854775807
/-! ### Asked at one end -/
def stepA (f : Ne → Nd) (K : List Nd) (d : Ne) : List Nd := if hasN K (f d) = true then K else K ++ [f d]
/-- The one ends, each once, in the order of their first needs. -/
def keysA (f : Ne → Nd) (l : List Ne) : List Nd := l.foldl (stepA f) []
/-- The other ends of those needs that have this one. -/
def grpA (f g : Ne → Nd) (l : List Ne) (n : Nd) : List Nd := (l.filter fun d => decide (f d = n)).map g
def rowsA (f g : Ne → Nd) (l : List Ne) : List (List Nd) := (keysA f l).map (grpA f g l)
theorem keysA_snoc (f : Ne → Nd) (l : List Ne) (d : Ne) : keysA f (l ++ [d]) = if hasN (keysA f l) (f d) = true then keysA f l else keysA f l ++ [f d] := by
  unfold keysA; rw [List.foldl_append]; rfl
theorem foldl_keysA (f : Ne → Nd) : ∀ (l : List Ne) (K : List Nd), K.Nodup → (l.foldl (stepA f) K).Nodup ∧ (∀ n, n ∈ l.foldl (stepA f) K ↔ n ∈ K ∨ ∃ d ∈ l, f d = n) ∧ (l.foldl (stepA f) K).length ≤ K.length + l.length
  | [], K, h => ⟨h, fun n => ⟨.inl, fun h => h.elim id fun ⟨d, hd, _⟩ => by cases hd⟩, Nat.le_refl _⟩
  | d :: l, K, h => by
    rw [List.foldl_cons]
    by_cases o : hasN K (f d) = true
    · have e : stepA f K d = K := if_pos o
      rw [e]
      obtain ⟨h1, h2, h3⟩ := foldl_keysA f l K h
      refine ⟨h1, fun n => ?_, by rw [List.length_cons]; omega⟩
      rw [h2]
      constructor
      · rintro (k | ⟨x, hx, k⟩)
        · exact .inl k
        · exact .inr ⟨x, List.mem_cons_of_mem _ hx, k⟩
      · rintro (k | ⟨x, hx, k⟩)
        · exact .inl k
        · rcases List.mem_cons.1 hx with rfl | hx
          · exact .inl (k ▸ hasN_iff.1 o)
          · exact .inr ⟨x, hx, k⟩
    · have e : stepA f K d = K ++ [f d] := if_neg o
      have hn : f d ∉ K := fun k => o (hasN_iff.2 k)
      rw [e]
      obtain ⟨h1, h2, h3⟩ := foldl_keysA f l (K ++ [f d]) (List.nodup_append.2 ⟨h, by simp, fun a ha b hb q => hn (by rw [List.mem_singleton] at hb; rw [← hb, ← q]; exact ha)⟩)
      refine ⟨h1, fun n => ?_, by rw [List.length_append, List.length_singleton] at h3; rw [List.length_cons]; omega⟩
      rw [h2, List.mem_append, List.mem_singleton]
      constructor
      · rintro ((k | k) | ⟨x, hx, k⟩)
        · exact .inl k
        · exact .inr ⟨d, by simp, k.symm⟩
        · exact .inr ⟨x, List.mem_cons_of_mem _ hx, k⟩
      · rintro (k | ⟨x, hx, k⟩)
        · exact .inl (.inl k)
        · rcases List.mem_cons.1 hx with rfl | hx
          · exact .inl (.inr k.symm)
          · exact .inr ⟨x, hx, k⟩
theorem keysA_nodup (f : Ne → Nd) (l : List Ne) : (keysA f l).Nodup := (foldl_keysA f l [] List.nodup_nil).1
theorem keysA_mem {f : Ne → Nd} {l : List Ne} {n : Nd} : n ∈ keysA f l ↔ ∃ d ∈ l, f d = n := by
  rw [show keysA f l = l.foldl (stepA f) [] from rfl, (foldl_keysA f l [] List.nodup_nil).2.1]
  simp
theorem keysA_len (f : Ne → Nd) (l : List Ne) : (keysA f l).length ≤ l.length := by
  have := (foldl_keysA f l [] List.nodup_nil).2.2
  simpa [keysA] using this
theorem grpA_mem {f g : Ne → Nd} {l : List Ne} {n x : Nd} : x ∈ grpA f g l n ↔ ∃ d ∈ l, f d = n ∧ g d = x := by
  unfold grpA
  rw [List.mem_map]
  constructor
  · rintro ⟨d, hd, e⟩
    obtain ⟨h1, h2⟩ := List.mem_filter.1 hd
    exact ⟨d, h1, of_decide_eq_true h2, e⟩
  · rintro ⟨d, hd, h1, h2⟩
    exact ⟨d, List.mem_filter.2 ⟨hd, decide_eq_true h1⟩, h2⟩
theorem grpA_len (f g : Ne → Nd) (l : List Ne) (n : Nd) : (grpA f g l n).length ≤ l.length := by
  unfold grpA; rw [List.length_map]; exact List.length_filter_le _ _
theorem grpA_none {f g : Ne → Nd} {l : List Ne} {n : Nd} (h : hasN (keysA f l) n = false) : grpA f g l n = [] := by
  refine List.eq_nil_iff_forall_not_mem.2 fun x hx => ?_
  obtain ⟨d, hd, e, _⟩ := grpA_mem.1 hx
  exact hasN_not.1 h (keysA_mem.2 ⟨d, hd, e⟩)
theorem grpA_snoc (f g : Ne → Nd) (l : List Ne) (d : Ne) (n : Nd) : grpA f g (l ++ [d]) n = if f d = n then grpA f g l n ++ [g d] else grpA f g l n := by
  unfold grpA
  rw [List.filter_append, List.map_append]
  by_cases e : f d = n
  · rw [if_pos e, List.filter_cons, decide_eq_true e]; simp
  · rw [if_neg e, List.filter_cons, decide_eq_false e]; simp
theorem rowsA_len (f g : Ne → Nd) (l : List Ne) : (rowsA f g l).length = (keysA f l).length := by unfold rowsA; rw [List.length_map]
theorem grpA_step {f g : Ne → Nd} {l : List Ne} {K : List Nd} {d : Ne} (hn : K.Nodup) {q : Nat} (hq : q < K.length) (hd : K.getD q ([], []) = f d) : K.map (grpA f g (l ++ [d])) = (K.map (grpA f g l)).set q ((K.map (grpA f g l)).getD q [] ++ [g d]) := by
  rw [nd_getD hq] at hd
  have hg : (K.map (grpA f g l)).getD q [] = grpA f g l K[q] := by simp [List.getD_eq_getElem?_getD, hq]
  rw [hg]
  apply List.ext_getElem
  · simp
  · intro j h1 h2
    have hj : j < K.length := by simpa using h1
    rw [List.getElem_map, List.getElem_set, grpA_snoc, List.getElem_map]
    by_cases e : q = j
    · subst e
      rw [if_pos rfl, if_pos hd.symm]
    · rw [if_neg e, if_neg fun k => e ((List.getElem_inj hn).1 (hd.trans k))]
/-- A need more at a node that has been met. -/
theorem rowsA_old {f g : Ne → Nd} {l : List Ne} {d : Ne} (h : hasN (keysA f l) (f d) = true) : keysA f (l ++ [d]) = keysA f l ∧ laN (keysA f l) (f d) < (keysA f l).length ∧
    rowsA f g (l ++ [d]) = (rowsA f g l).set (laN (keysA f l) (f d)) ((rowsA f g l).getD (laN (keysA f l) (f d)) [] ++ [g d]) := by
  have e : keysA f (l ++ [d]) = keysA f l := by rw [keysA_snoc, if_pos h]
  obtain ⟨h1, h2⟩ := laN_at (hasN_iff.1 h)
  refine ⟨e, h1, ?_⟩
  unfold rowsA
  rw [e]
  exact grpA_step (keysA_nodup f l) h1 (by rw [List.getD_eq_getElem?_getD, h2]; rfl)
/-- A need more at a node that is new. -/
theorem rowsA_new {f g : Ne → Nd} {l : List Ne} {d : Ne} (h : hasN (keysA f l) (f d) = false) : keysA f (l ++ [d]) = keysA f l ++ [f d] ∧
    rowsA f g (l ++ [d]) = (rowsA f g l ++ [[]]).set (keysA f l).length ((rowsA f g l ++ [[]]).getD (keysA f l).length [] ++ [g d]) := by
  have e : keysA f (l ++ [d]) = keysA f l ++ [f d] := by rw [keysA_snoc, if_neg (by rw [h]; exact Bool.false_ne_true)]
  refine ⟨e, ?_⟩
  have hn := keysA_nodup f (l ++ [d])
  have hr : rowsA f g l ++ [[]] = (keysA f (l ++ [d])).map (grpA f g l) := by rw [e, List.map_append, List.map_singleton, grpA_none h]; rfl
  rw [hr]
  unfold rowsA
  refine grpA_step hn (by rw [e]; simp) ?_
  rw [e]; simp [List.getD_eq_getElem?_getD]
/-- What is asked, told of the rows. -/
theorem rowsA_at {f g : Ne → Nd} {l : List Ne} {n : Nd} (h : hasN (keysA f l) n = true) : laN (keysA f l) n < (rowsA f g l).length ∧ (rowsA f g l).getD (laN (keysA f l) n) [] = grpA f g l n := by
  obtain ⟨h1, h2⟩ := laN_at (hasN_iff.1 h)
  refine ⟨by rw [rowsA_len]; exact h1, ?_⟩
  unfold rowsA
  rw [List.getD_eq_getElem?_getD, List.getElem?_map, h2]; rfl
abbrev needA (l : List Ne) : Nd → List Nd := grpA (·.1) (·.2) l
theorem needA_mem {l : List Ne} {n x : Nd} : x ∈ needA l n ↔ (n, x) ∈ l := by
  rw [grpA_mem]
  exact ⟨fun ⟨d, hd, h1, h2⟩ => by rw [← h1, ← h2]; exact hd, fun h => ⟨_, h, rfl, rfl⟩⟩

/-! ### Levels -/
theorem far_ok {l : List Ne} (h : mayK l = true) {n : Nd} (hp : 0 < farW l n) : okN n = true := by
  obtain ⟨k, hk⟩ : ∃ k, farW l n = k + 1 := ⟨farW l n - 1, by omega⟩
  have := farW_pos h hp
  rw [hk] at this
  exact checkN_ok (atW_check h k) n this
theorem far_to {l : List Ne} (h : mayK l = true) {n : Nd} (hp : 0 < farW l n) : n ∈ l.map (·.2) := by
  obtain ⟨k, hk⟩ : ∃ k, farW l n = k + 1 := ⟨farW l n - 1, by omega⟩
  have := farW_pos h hp
  rw [hk] at this
  exact atW_to h this
/-- Before a level is gone through: k levels are known, K. -/
structure LevI (l : List Ne) (k : Nat) (K L : List Nd) : Prop where
  nodup : K.Nodup
  keys : ∀ n, n ∈ K ↔ 0 < farW l n ∧ farW l n ≤ k
  far : ∀ n ∈ L, 0 < farW l n ∧ farW l n ≤ k + 1
  all : ∀ n, farW l n = k + 1 → n ∈ L
  fin : L ≠ [] → k ≤ l.length
  len : k ≤ l.length + 1
  big : L.length ≤ l.length * l.length
theorem LevI.start {l : List Ne} (h : mayK l = true) : LevI l 0 [] (needA l rootN) := by
  refine ⟨List.nodup_nil, fun n => ⟨fun h => (by cases h), fun h => by omega⟩, fun n hn => ?_, fun n hn => ?_, fun _ => Nat.zero_le _, Nat.zero_le _, ?_⟩
  · have := (farW_one h).2 (needA_mem.1 hn)
    omega
  · exact needA_mem.2 ((farW_one h).1 hn)
  · have h1 := grpA_len (·.1) (·.2) l rootN
    rcases Nat.eq_zero_or_pos l.length with e | e
    · exact Nat.le_trans h1 (by rw [e]; exact Nat.zero_le _)
    · exact Nat.le_trans h1 (Nat.le_mul_of_pos_right _ e)
/-- While it is: of its first i nodes D are new, and X is what these need. -/
structure LevJ (l : List Ne) (K L : List Nd) (i : Nat) (D X : List Nd) : Prop where
  nodup : (K ++ D).Nodup
  new : ∀ n, n ∈ D ↔ n ∈ L.take i ∧ n ∉ K
  is : X = D.flatMap (needA l)
theorem LevJ.start {l : List Ne} {K L : List Nd} (h : K.Nodup) : LevJ l K L 0 [] [] := ⟨by simpa using h, fun n => by simp, rfl⟩
theorem LevJ.known {l : List Ne} {K L D X : List Nd} {i : Nat} (h : LevJ l K L i D X) (hi : i < L.length) (ho : hasN (K ++ D) (L.getD i ([], [])) = true) : LevJ l K L (i + 1) D X := by
  refine ⟨h.nodup, fun n => ?_, h.is⟩
  rw [h.new, List.take_succ_eq_append_getElem hi, ← nd_getD hi, List.mem_append, List.mem_singleton]
  constructor
  · rintro ⟨a, b⟩; exact ⟨.inl a, b⟩
  · rintro ⟨a | rfl, b⟩
    · exact ⟨a, b⟩
    · rcases List.mem_append.1 (hasN_iff.1 ho) with q | q
      · exact absurd q b
      · exact (h.new _).1 q
theorem LevJ.more {l : List Ne} {K L D X : List Nd} {i : Nat} (h : LevJ l K L i D X) (hi : i < L.length) (ho : hasN (K ++ D) (L.getD i ([], [])) = false) : LevJ l K L (i + 1) (D ++ [L.getD i ([], [])]) (X ++ needA l (L.getD i ([], []))) := by
  have hn := hasN_not.1 ho
  refine ⟨?_, fun n => ?_, ?_⟩
  · rw [← List.append_assoc]
    exact List.nodup_append.2 ⟨h.nodup, by simp, fun a ha b hb q => hn (by rw [List.mem_singleton] at hb; rw [← hb, ← q]; exact ha)⟩
  · rw [List.mem_append, h.new, List.take_succ_eq_append_getElem hi, ← nd_getD hi, List.mem_append, List.mem_singleton]
    constructor
    · rintro (⟨a, b⟩ | rfl)
      · exact ⟨.inl a, b⟩
      · exact ⟨.inr rfl, fun q => hn (List.mem_append_left _ q)⟩
    · rintro ⟨a | rfl, b⟩
      · exact .inl ⟨a, b⟩
      · exact .inr rfl
  · rw [h.is, List.flatMap_append]; simp
theorem LevJ.farD {l : List Ne} {k : Nat} {K L D X : List Nd} {i : Nat} (hI : LevI l k K L) (h : LevJ l K L i D X) {n : Nd} (hn : n ∈ D) : farW l n = k + 1 := by
  obtain ⟨a, b⟩ := (h.new n).1 hn
  have c := hI.far n (List.mem_of_mem_take a)
  refine Nat.le_antisymm c.2 (Nat.lt_of_not_le fun q => b ((hI.keys n).2 ⟨c.1, q⟩))
theorem flatA_len (l : List Ne) : ∀ D : List Nd, (D.flatMap (needA l)).length ≤ D.length * l.length
  | [] => by simp
  | n :: D => by
    have h1 := flatA_len l D
    have h2 := grpA_len (·.1) (·.2) l n
    rw [List.flatMap_cons, List.length_append, List.length_cons, Nat.succ_mul]
    have : (needA l n).length ≤ l.length := h2
    omega
theorem LevJ.lenD {l : List Ne} (hm : mayK l = true) {k : Nat} {K L D X : List Nd} {i : Nat} (hI : LevI l k K L) (h : LevJ l K L i D X) : (K ++ D).length ≤ l.length ∧ D.length ≤ l.length ∧ X.length ≤ l.length * l.length := by
  have e : (l.map (·.2)).length = l.length := by simp
  have h0 : (K ++ D).length ≤ l.length := by
    rw [← e]
    refine h.nodup.length_le_of_subset fun n hn => ?_
    rcases List.mem_append.1 hn with q | q
    · exact far_to hm ((hI.keys n).1 q).1
    · exact far_to hm (by rw [h.farD hI q]; omega)
  have h1 : D.length ≤ l.length := by rw [List.length_append] at h0; omega
  refine ⟨h0, h1, ?_⟩
  rw [h.is]
  exact Nat.le_trans (flatA_len l D) (Nat.mul_le_mul_right _ h1)
theorem LevJ.done {l : List Ne} (hm : mayK l = true) {k : Nat} {K L D X : List Nd} (hI : LevI l k K L) (h : LevJ l K L L.length D X) (hL : L ≠ []) : LevI l (k + 1) (K ++ D) X := by
  have hnew : ∀ n, n ∈ D ↔ farW l n = k + 1 := fun n => by
    refine ⟨h.farD hI, fun e => (h.new n).2 ⟨by rw [List.take_length]; exact hI.all n e, fun q => ?_⟩⟩
    have := (hI.keys n).1 q
    omega
  have hk := hI.fin hL
  refine ⟨h.nodup, fun n => ?_, fun n hn => ?_, fun n hn => ?_, fun hX => ?_, by omega, (h.lenD hm hI).2.2⟩
  · rw [List.mem_append, hI.keys, hnew]; omega
  · rw [h.is] at hn
    obtain ⟨m, hmD, hx⟩ := List.mem_flatMap.1 hn
    have h1 := (hnew m).1 hmD
    have := farW_step hm (needA_mem.1 hx) (.inr (by omega))
    omega
  · obtain ⟨m, hr, hl⟩ := hn ▸ farW_RW hm (n := n) (by omega)
    rw [h.is]
    refine List.mem_flatMap.2 ⟨m, (hnew m).2 ?_, needA_mem.2 hl⟩
    have h1 := farW_le hm hr
    have h2 := farW_step hm hl (.inr h1.1)
    omega
  · rw [h.is] at hX
    obtain ⟨n, hn⟩ := List.exists_mem_of_ne_nil _ hX
    obtain ⟨m, hmD, _⟩ := List.mem_flatMap.1 hn
    have := farW_bound hm m
    rw [(hnew m).1 hmD] at this
    exact this
theorem LevI.done {l : List Ne} (hm : mayK l = true) {k : Nat} {K : List Nd} (h : LevI l k K []) : ∀ n, n ∈ K ↔ 0 < farW l n := fun n => by
  rw [h.keys]
  refine ⟨fun q => q.1, fun q => ⟨q, Nat.le_of_not_lt fun c => ?_⟩⟩
  have he : atW l (k + 1) = [] := List.eq_nil_iff_forall_not_mem.2 fun x hx => by
    have := h.all x (farW_at hm hx)
    cases this
  have := farW_pos hm q
  rw [atW_nil_le hm he c] at this
  cases this
/-- How far, as far as it is known. -/
def farK (l : List Ne) (K : List Nd) (n : Nd) : Int := if hasN K n = true then (farW l n : Int) else 0
theorem farK_step {l : List Ne} {K : List Nd} {n : Nd} {k : Nat} (h : farW l n = k) (m : Nd) : (if m = n then (k : Int) else farK l K m) = farK l (K ++ [n]) m := by
  unfold farK
  by_cases e : m = n
  · subst e
    have : hasN (K ++ [m]) m = true := hasN_iff.2 (by simp)
    rw [if_pos rfl, if_pos this, h]
  · have : hasN (K ++ [n]) m = hasN K m := by rw [Bool.eq_iff_iff, hasN_iff, hasN_iff]; simp [e]
    rw [if_neg e, this]
theorem farK_all {l : List Ne} {K : List Nd} (h : ∀ n, n ∈ K ↔ 0 < farW l n) (n : Nd) : farK l K n = (farW l n : Int) := by
  unfold farK
  by_cases e : hasN K n = true
  · rw [if_pos e]
  · have : ¬ 0 < farW l n := fun q => e (hasN_iff.2 ((h n).2 q))
    rw [if_neg e]; omega

/-! ### From the end on -/
def closeW (l : List Ne) (d : Ne) : Bool := decide (0 < farW l d.1) && decide (farW l d.1 + 1 = farW l d.2)
def closeL (l : List Ne) : List Ne := l.filter (closeW l)
abbrev nearA (l : List Ne) : Nd → List Nd := grpA (·.2) (·.1) (closeL l)
theorem nearA_mem {l : List Ne} {n x : Nd} : x ∈ nearA l n ↔ (x, n) ∈ l ∧ 0 < farW l x ∧ farW l x + 1 = farW l n := by
  rw [grpA_mem]
  constructor
  · rintro ⟨d, hd, h1, h2⟩
    obtain ⟨h3, h4⟩ := List.mem_filter.1 hd
    unfold closeW at h4
    rw [Bool.and_eq_true, decide_eq_true_eq, decide_eq_true_eq] at h4
    rw [← h1, ← h2]
    exact ⟨h3, h4⟩
  · rintro ⟨h1, h2, h3⟩
    refine ⟨_, List.mem_filter.2 ⟨h1, ?_⟩, rfl, rfl⟩
    unfold closeW
    rw [Bool.and_eq_true, decide_eq_true_eq, decide_eq_true_eq]
    exact ⟨h2, h3⟩
theorem nearA_some {l : List Ne} (h : mayK l = true) {n : Nd} {k : Nat} (hn : farW l n = k + 2) : nearA l n ≠ [] := by
  obtain ⟨m, _, h1, h2⟩ := parW_some h ((atW_far h).2 hn)
  have e := (atW_far h).1 h1
  have : m ∈ nearA l n := nearA_mem.2 ⟨h2, by omega, by omega⟩
  exact List.ne_nil_of_mem this
theorem chain_ahead {l : List Ne} (h : mayK l = true) {n : Nd} (hp : 0 < farW l n) {i : Nat} (hi : i + 1 < farW l n) {m : Nd} (hm : m ∈ nearA l ((chW l (farW l n) n).getD (i + 1) rootN)) (hb : ∀ x ∈ nearA l ((chW l (farW l n) n).getD (i + 1) rootN), m = x ∨ ltN m x = true) : m = (chW l (farW l n) n).getD i rootN := by
  obtain ⟨h1, -, -, h4⟩ := chain_facts h hp
  obtain ⟨e1, e2⟩ := h4 (i + 1) hi
  obtain ⟨c, hc⟩ : ∃ c, chW l (farW l n) n = c := ⟨_, rfl⟩
  rw [hc] at h1 e1 e2 hm hb ⊢
  obtain ⟨y, hy⟩ : ∃ y, c.getD (i + 1) rootN = y := ⟨_, rfl⟩
  rw [hy] at e1 e2 hm hb
  obtain ⟨q1, q2, q3⟩ := nearA_mem.1 hm
  have hma : m ∈ atW l (i + 1) := (atW_far h).2 (by omega)
  have hch := chW_is hma q1 fun x hx hxl => hb x (nearA_mem.2 ⟨hxl, by rw [(atW_far h).1 hx]; omega, by rw [(atW_far h).1 hx]; omega⟩)
  obtain ⟨x, hx⟩ := chW_last h i m hma
  have hlen := chW_len h i m hma
  rw [hch, hx] at e2
  rw [hx, List.length_append, List.length_singleton] at hlen
  have e3 : (c.take (i + 1 + 1)).getD i rootN = c.getD i rootN := by
    rw [List.getD_eq_getElem?_getD, List.getD_eq_getElem?_getD, List.getElem?_take, if_pos (by omega)]
  rw [← e3, e2, List.append_assoc, List.getD_eq_getElem?_getD, List.getElem?_append_right (by omega), show i - x.length = 0 by omega]
  rfl
theorem chain_set {c R : List Nd} {i : Nat} (hl : R.length = c.length) (hi : i < c.length) (h : R.drop (i + 1) = c.drop (i + 1)) : (R.set i (c.getD i rootN)).drop i = c.drop i := by
  rw [List.drop_eq_getElem_cons (by rw [List.length_set, hl]; exact hi), List.drop_eq_getElem_cons hi, List.getElem_set_self, List.drop_set_of_lt (by omega), h, nd_getD hi]
theorem chain_at {c R : List Nd} {i : Nat} (h : R.drop i = c.drop i) : R.getD i rootN = c.getD i rootN := by
  have e := congrArg List.head? h
  rw [List.head?_drop, List.head?_drop] at e
  rw [List.getD_eq_getElem?_getD, List.getD_eq_getElem?_getD, e]
/-- The first one, in order, of those that have been met. -/
def leastW (m : Nd) (L : List Nd) : Prop := m ∈ L ∧ ∀ x ∈ L, m = x ∨ ltN m x = true
theorem leastW_one (n : Nd) : leastW n [n] := ⟨by simp, fun x hx => .inl (List.mem_singleton.1 hx).symm⟩
theorem leastW_next {m n : Nd} {L : List Nd} (h : leastW m L) (hl : ltN n m = true) : leastW n (L ++ [n]) :=
  ⟨by simp, fun x hx => by
    rcases List.mem_append.1 hx with q | q
    · rcases h.2 x q with rfl | q
      · exact .inr hl
      · exact .inr (ltN_trans hl q)
    · exact .inl (List.mem_singleton.1 q).symm⟩
theorem leastW_stay {m n : Nd} {L : List Nd} (h : leastW m L) (hm : okN m = true) (hn : okN n = true) (hl : ltN n m = false) : leastW m (L ++ [n]) :=
  ⟨List.mem_append_left _ h.1, fun x hx => by
    rcases List.mem_append.1 hx with q | q
    · exact h.2 x q
    · rw [List.mem_singleton.1 q]
      rcases ltN_tri hm hn with a | a | a
      · exact .inr a
      · exact .inl a
      · rw [a] at hl; cases hl⟩
/-! ### What is told -/
theorem depW_take {l : List Ne} {k : Nat} (h : k < (allW l).length) : (depW l).take (k + 1) = (depW l).take k ++ [((allW l).getD k ([], []), (farW l ((allW l).getD k ([], [])) : Int))] := by
  have h2 : k < (depW l).length := by rw [depW_len]; exact h
  have e : (depW l)[k] = ((allW l)[k], (farW l (allW l)[k] : Int)) := by simp [depW]
  rw [List.take_succ_eq_append_getElem h2, e, nd_getD h]
def isWE (l : List Ne) (c : List Nd) : Bool × Int := if (mayK l && (!c.isEmpty && c.all okN)) = true then (isW l c, 0) else (false, 1)
theorem isWE_no {l : List Ne} {c : List Nd} (h : (mayK l && (!c.isEmpty && c.all okN)) = false) : isWE l c = (false, 1) := by unfold isWE; rw [h]; rfl
theorem isWE_yes {l : List Ne} {c : List Nd} (h : mayK l = true) (h1 : c.isEmpty = false) (h2 : c.all okN = true) : isWE l c = (fromW l rootN c, 0) := by
  unfold isWE isW
  rw [h, h1, h2]; simp
theorem chainE_no {l : List Ne} {n : Nd} (h : (mayK l && okN n) = false) : chainE l n = ([], 1) := by unfold chainE; rw [h]; rfl
theorem chainE_none {l : List Ne} {n : Nd} (h : mayK l = true) (k : okN n = true) (e : farW l n = 0) : chainE l n = ([], 11) := by unfold chainE; rw [h, k, e]; rfl
theorem chainE_yes {l : List Ne} {n : Nd} (h : mayK l = true) (k : okN n = true) (e : 0 < farW l n) : chainE l n = (chW l (farW l n) n, 0) := by
  unfold chainE
  rw [h, k, if_neg (show ¬ farW l n = 0 by omega)]; rfl
end Go.Proofs.YtdefphacdcbljaaGreat
