/- Levels, how far, and the chain, as loops come to them; what is picked backward: plain facts. -/
import Derived.Test.YtdefphacdcbljaaWhyM
namespace Go.Proofs.Ytdefphacdcbljaa
set_option linter.unusedVariables false
set_option maxRecDepth 100000

/-! ### One level -/
theorem nextW_nil (l : List Ne) (a m : List Nd) : nextW (l.take 0) a m = [] := by rw [List.take_zero]; rfl
theorem nextW_take {l : List Ne} {k : Nat} (h : k < l.length) (a m : List Nd) : nextW (l.take (k + 1)) a m =
    if (hasN a (l.getD k zNe).1 && !hasN m (l.getD k zNe).2) = true then withN (nextW (l.take k) a m) (l.getD k zNe).2 else nextW (l.take k) a m := by
  unfold nextW
  rw [ne_take h, List.filter_append]
  cases e : (hasN a (l.getD k zNe).1 && !hasN m (l.getD k zNe).2)
  · rw [List.filter_cons, e]; simp
  · rw [List.filter_cons, e]
    simp only [if_true, List.filter_nil, List.map_append, List.map_cons, List.map_nil]
    unfold setN; rw [List.foldl_append]; rfl
theorem nextW_len (l : List Ne) (a m : List Nd) : (nextW l a m).length ≤ l.length := by
  unfold nextW
  refine Nat.le_trans (setN_len _) ?_
  rw [List.length_map]; exact List.length_filter_le _ _
/-! ### All levels -/
theorem levW_zero (l : List Ne) : levW l 0 = [] := rfl
theorem levW_succ (l : List Ne) (k : Nat) : levW l (k + 1) = levW l k ++ (if (atW l (k + 1)).isEmpty = true then [] else [atW l (k + 1)]) := by
  unfold levW
  rw [List.range_succ, List.map_append, List.filter_append]
  cases e : (atW l (k + 1)).isEmpty
  · simp [e]
  · simp [e]
theorem levW_len (l : List Ne) (k : Nat) : (levW l k).length ≤ k := by
  unfold levW
  refine Nat.le_trans (List.length_filter_le _ _) ?_
  simp
def levsW (l : List Ne) : List (List Nd) := levW l l.length
theorem levW_stay {l : List Ne} (h : mayK l = true) {k : Nat} (e : atW l k = []) (hk : 0 < k) : ∀ {j : Nat}, levW l (k + j) = levW l (k - 1)
  | 0 => by
    obtain ⟨i, rfl⟩ : ∃ i, k = i + 1 := ⟨k - 1, by omega⟩
    rw [Nat.add_zero, levW_succ, e]
    simp
  | j + 1 => by
    rw [← Nat.add_assoc, levW_succ, atW_nil_le h e (by omega), levW_stay h e hk]
    simp
/-- When a level is empty, all are there. -/
theorem levW_all {l : List Ne} (h : mayK l = true) {k : Nat} (e : atW l k = []) : levW l k = levsW l := by
  have hk : 0 < k := by
    rcases Nat.eq_zero_or_pos k with rfl | hp
    · rw [atW_zero] at e; cases e
    · exact hp
  have h1 : levW l k = levW l (k - 1) := levW_stay h e hk (j := 0)
  unfold levsW
  by_cases hl : k ≤ l.length
  · obtain ⟨j, hj⟩ : ∃ j, l.length = k + j := ⟨l.length - k, by omega⟩
    rw [hj, levW_stay h e hk, h1]
  · have hz : atW l (l.length + 1) = [] := by
      refine Classical.byContradiction fun he => ?_
      have := atW_le h he
      omega
    obtain ⟨j, hj⟩ : ∃ j, k = (l.length + 1) + j := ⟨k - (l.length + 1), by omega⟩
    rw [hj, levW_stay h hz (by omega)]
    rfl
theorem levW_full {l : List Ne} (h : mayK l = true) : ∀ {k : Nat}, atW l k ≠ [] → levW l k = (List.range k).map fun j => atW l (j + 1)
  | 0, _ => rfl
  | k + 1, e => by
    have e1 : atW l k ≠ [] := fun x => e (atW_nil h x)
    rw [levW_succ, levW_full h e1, List.range_succ, List.map_append]
    have : (atW l (k + 1)).isEmpty = false := by cases hx : atW l (k + 1) <;> simp_all
    rw [this]; simp
/-- The levels are those up to the last one that is not empty. -/
theorem levsW_is {l : List Ne} (h : mayK l = true) : ∃ N, N ≤ l.length ∧ levsW l = (List.range N).map (fun j => atW l (j + 1)) ∧ (∀ k, 1 ≤ k → k ≤ N → atW l k ≠ []) ∧ ∀ k, N < k → atW l k = [] := by
  have hz : atW l (l.length + 1) = [] := by
    refine Classical.byContradiction fun he => ?_
    have := atW_le h he
    omega
  have key : ∀ k, atW l (k + 1) = [] → ∃ N, N ≤ k ∧ atW l N ≠ [] ∧ atW l (N + 1) = [] := by
    intro k
    induction k with
    | zero => exact fun e => ⟨0, Nat.le_refl _, (by rw [atW_zero]; exact List.cons_ne_nil _ _), e⟩
    | succ k ih =>
      intro e
      by_cases x : atW l (k + 1) = []
      · obtain ⟨N, a, b, c⟩ := ih x
        exact ⟨N, by omega, b, c⟩
      · exact ⟨k + 1, Nat.le_refl _, x, e⟩
  obtain ⟨N, hN, h1, h2⟩ := key l.length hz
  refine ⟨N, hN, ?_, ?_, fun k hk => atW_nil_le h h2 (by omega)⟩
  · rw [← levW_all h h2, levW_succ, levW_full h h1, h2]; simp
  · intro k _ hk e
    exact h1 (atW_nil_le h e hk)
theorem levsW_at {l : List Ne} (h : mayK l = true) {k : Nat} (e : atW l (k + 1) ≠ []) : k < (levsW l).length ∧ (levsW l).getD k [] = atW l (k + 1) := by
  obtain ⟨N, hN, h1, h2, h3⟩ := levsW_is h
  have hk : k < N := by
    refine Classical.byContradiction fun x => e (h3 _ (by omega))
  rw [h1]
  refine ⟨by simp; exact hk, ?_⟩
  simp [List.getD_eq_getElem?_getD, hk]
theorem levsW_len {l : List Ne} : (levsW l).length ≤ l.length := levW_len _ _
theorem levsW_get {l : List Ne} (h : mayK l = true) {k : Nat} (hk : k < (levsW l).length) : (levsW l).getD k [] = atW l (k + 1) ∧ atW l (k + 1) ≠ [] := by
  obtain ⟨N, hN, h1, h2, h3⟩ := levsW_is h
  rw [h1] at hk ⊢
  simp at hk
  refine ⟨by simp [List.getD_eq_getElem?_getD, hk], h2 _ (by omega) (by omega)⟩
/-- How far, told of the levels. -/
def depIn (ls : List (List Nd)) (n : Nd) : Nat := match ls with
  | [] => 0
  | x :: t => if hasN x n = true then 1 else (if depIn t n = 0 then 0 else depIn t n + 1)
theorem depIn_no : ∀ {ls : List (List Nd)} {n : Nd}, (∀ k, k < ls.length → hasN (ls.getD k []) n = false) → depIn ls n = 0
  | [], _, _ => rfl
  | x :: t, n, h => by
    have h0 := h 0 (by simp)
    have ht : depIn t n = 0 := depIn_no fun k hk => by
      have := h (k + 1) (by simpa using hk)
      simpa using this
    unfold depIn
    rw [show hasN x n = false by simpa using h0, ht]; rfl
theorem depIn_at : ∀ {ls : List (List Nd)} {n : Nd} {k : Nat}, k < ls.length → hasN (ls.getD k []) n = true → (∀ j, j < k → hasN (ls.getD j []) n = false) → depIn ls n = k + 1
  | [], _, _, h, _, _ => absurd h (by simp)
  | x :: t, n, 0, _, h, _ => by
    unfold depIn
    rw [show hasN x n = true by simpa using h]; rfl
  | x :: t, n, k + 1, hk, h, hb => by
    have h0 := hb 0 (by omega)
    have ht : depIn t n = k + 1 := depIn_at (by simpa using hk) (by simpa using h) fun j hj => by
      have := hb (j + 1) (by omega)
      simpa using this
    unfold depIn
    rw [show hasN x n = false by simpa using h0, ht]; rfl
theorem depIn_far {l : List Ne} (h : mayK l = true) (n : Nd) : depIn (levsW l) n = farW l n := by
  rcases Nat.eq_zero_or_pos (farW l n) with e | e
  · rw [e]
    refine depIn_no fun k hk => ?_
    obtain ⟨a, _⟩ := levsW_get h hk
    rw [a, hasN_not]
    intro hn
    rw [farW_at h hn] at e; cases e
  · obtain ⟨k, hk⟩ : ∃ k, farW l n = k + 1 := ⟨farW l n - 1, by omega⟩
    have hn := farW_pos h e
    rw [hk] at hn ⊢
    obtain ⟨a, b⟩ := levsW_at h (k := k) (fun x => by rw [x] at hn; cases hn)
    refine depIn_at a (by rw [b]; exact hasN_iff.2 hn) fun j hj => ?_
    obtain ⟨c, _⟩ := levsW_get h (k := j) (by omega)
    rw [c, hasN_not]
    intro hj2
    have := farW_at h hj2
    omega
/-! ### All of them -/
theorem flatW_take {ls : List (List Nd)} {k : Nat} (h : k < ls.length) : (ls.take (k + 1)).flatten = (ls.take k).flatten ++ ls.getD k [] := by
  rw [List.take_succ_eq_append_getElem h, List.flatten_append]
  simp [List.getD_eq_getElem?_getD, h]
theorem levsW_mem {l : List Ne} (h : mayK l = true) (n : Nd) : n ∈ (levsW l).flatten ↔ 0 < farW l n := by
  rw [List.mem_flatten]
  constructor
  · rintro ⟨x, hx, hn⟩
    obtain ⟨k, hk, rfl⟩ := List.mem_iff_getElem.1 hx
    obtain ⟨a, _⟩ := levsW_get h hk
    have e : (levsW l)[k] = atW l (k + 1) := by rw [← a]; simp [List.getD_eq_getElem?_getD, hk]
    rw [e] at hn
    rw [farW_at h hn]; omega
  · intro hp
    obtain ⟨k, hk⟩ : ∃ k, farW l n = k + 1 := ⟨farW l n - 1, by omega⟩
    have hn := farW_pos h hp
    rw [hk] at hn
    obtain ⟨a, b⟩ := levsW_at h (k := k) (fun x => by rw [x] at hn; cases hn)
    refine ⟨_, List.getElem_mem a, ?_⟩
    have e : (levsW l)[k] = atW l (k + 1) := by rw [← b]; simp [List.getD_eq_getElem?_getD, a]
    rw [e]; exact hn
theorem levsW_ok {l : List Ne} (h : mayK l = true) : ∀ n ∈ (levsW l).flatten, okN n = true := fun n hn => by
  have hp := (levsW_mem h n).1 hn
  obtain ⟨k, hk⟩ : ∃ k, farW l n = k + 1 := ⟨farW l n - 1, by omega⟩
  have := farW_pos h hp
  rw [hk] at this
  exact checkN_ok (atW_check h k) n this
theorem levsW_set {l : List Ne} (h : mayK l = true) : setN (levsW l).flatten = allW l :=
  rises_eq (setN_rises _) (allW_rises l) fun n => by rw [setN_mem (levsW_ok h), levsW_mem h, allW_mem h]
/-- A set of nodes is all that is told of, if it has just those that are some way off. -/
theorem allW_is {l : List Ne} (h : mayK l = true) {s : List Nd} (hs : Rises s) (hm : ∀ n, n ∈ s ↔ 0 < farW l n) : s = allW l :=
  rises_eq hs (allW_rises l) fun n => by rw [hm, allW_mem h]
theorem allW_len {l : List Ne} (h : mayK l = true) : (allW l).length ≤ l.length := by
  unfold allW
  exact Nat.le_trans (setN_len _) (metW_le h _)
theorem allW_check {l : List Ne} (h : mayK l = true) : checkN (allW l) = true := setN_check (metW_ok h)
theorem depW_len (l : List Ne) : (depW l).length = (allW l).length := by unfold depW; rw [List.length_map]
/-! ### Held from the end on -/
theorem lowW_cons (a b : Nd) (x y : List Nd) : lowW (a :: x) (b :: y) = if a = b then lowW x y else ltN a b := rfl
theorem lowW_app : ∀ (s x y : List Nd), lowW (s ++ x) (s ++ y) = lowW x y
  | [], _, _ => rfl
  | a :: s, x, y => by
    rw [List.cons_append, List.cons_append, lowW_cons, if_pos rfl, lowW_app s x y]
theorem lowW_self : ∀ s : List Nd, lowW s s = false
  | [] => rfl
  | a :: s => by rw [lowW_cons, if_pos rfl, lowW_self s]
theorem lowerW_self (a : List Nd) : lowerW a a = false := lowW_self _
theorem dropW_eq {a : List Nd} {i : Nat} (h : i < a.length) : a = a.take i ++ a.getD i ([], []) :: a.drop (i + 1) := by
  rw [nd_getD h, ← List.drop_eq_getElem_cons h, List.take_append_drop]
theorem lowerW_at {a b : List Nd} {i : Nat} (ha : i < a.length) (hb : i < b.length) (hd : a.drop (i + 1) = b.drop (i + 1)) (hn : a.getD i ([], []) ≠ b.getD i ([], [])) : lowerW a b = ltN (a.getD i ([], [])) (b.getD i ([], [])) := by
  have ea := dropW_eq ha
  have eb := dropW_eq hb
  have h1 : a.reverse = (b.drop (i + 1)).reverse ++ (a.getD i ([], []) :: (a.take i).reverse) := by
    conv => lhs; rw [ea, List.reverse_append, List.reverse_cons, hd]
    simp
  have h2 : b.reverse = (b.drop (i + 1)).reverse ++ (b.getD i ([], []) :: (b.take i).reverse) := by
    conv => lhs; rw [eb, List.reverse_append, List.reverse_cons]
    simp
  unfold lowerW
  rw [h1, h2, lowW_app, lowW_cons, if_neg hn]
theorem dropW_next {a b : List Nd} {i : Nat} (ha : i < a.length) (hb : i < b.length) (hd : a.drop (i + 1) = b.drop (i + 1)) (hn : a.getD i ([], []) = b.getD i ([], [])) : a.drop i = b.drop i := by
  rw [List.drop_eq_getElem_cons ha, List.drop_eq_getElem_cons hb, hd, ← nd_getD ha, ← nd_getD hb, hn]
/-! ### Backward, by whatever needs -/
def backW (l : List Ne) (n : Nd) : List Nd := (l.filter (toK n)).map (·.1)
theorem backW_mem {l : List Ne} {n x : Nd} : x ∈ backW l n ↔ (x, n) ∈ l := by
  unfold backW
  rw [List.mem_map]
  constructor
  · rintro ⟨⟨a, b⟩, hd, rfl⟩
    obtain ⟨h1, h2⟩ := List.mem_filter.1 hd
    have h3 := toK_iff.1 h2
    simp only at h3
    rw [← h3]; exact h1
  · intro h
    exact ⟨(x, n), List.mem_filter.2 ⟨h, toK_iff.2 rfl⟩, rfl⟩
theorem backW_take {l : List Ne} {k : Nat} (h : k < l.length) (n : Nd) : backW (l.take (k + 1)) n = if (l.getD k zNe).2 = n then backW (l.take k) n ++ [(l.getD k zNe).1] else backW (l.take k) n := by
  unfold backW
  rw [ne_take h, List.filter_append, List.map_append]
  by_cases e : (l.getD k zNe).2 = n
  · rw [if_pos e, List.filter_cons, toK_iff.2 e]; simp
  · rw [if_neg e, List.filter_cons, show toK n (l.getD k zNe) = false from decide_eq_false e]; simp
theorem backW_len (l : List Ne) (n : Nd) : (backW l n).length ≤ l.length := by
  unfold backW
  rw [List.length_map]; exact List.length_filter_le _ _
/-- Steps, each a need, from the first one on, to n. -/
def stepsW (l : List Ne) (n : Nd) (o : List Nd) : Prop := ∃ a t, o = a :: t ∧ fromW l a t = true ∧ o.getLast? = some n
theorem stepsW_one (l : List Ne) (n : Nd) : stepsW l n [n] := ⟨n, [], rfl, rfl, rfl⟩
theorem stepsW_cons {l : List Ne} {n x a : Nd} {t : List Nd} (h : stepsW l n (a :: t)) (hx : (x, a) ∈ l) : stepsW l n (x :: a :: t) := by
  obtain ⟨b, s, e, h1, h2⟩ := h
  obtain ⟨rfl, rfl⟩ := List.cons.inj e
  refine ⟨x, a :: t, rfl, ?_, by simpa using h2⟩
  unfold fromW
  rw [hasD_iff.2 hx, h1]; rfl
/-- What begins at the root, and ends at the node, is no shorter than the chain, and does not come ahead of it. -/
theorem stepsW_least {l : List Ne} (h : mayK l = true) {n : Nd} {o : List Nd} (ho : stepsW l n o) (hr : (rootN, o.headD rootN) ∈ l) : 0 < farW l n ∧ farW l n ≤ o.length ∧ (o.length = farW l n → lowerW o (chW l (farW l n) n) = false) := by
  obtain ⟨a, t, rfl, h1, h2⟩ := ho
  have hf : fromW l rootN (a :: t) = true := by unfold fromW; rw [hasD_iff.2 (by simpa using hr), h1]; rfl
  have hl : (a :: t).getLastD rootN = n := by rw [List.getLastD_eq_getLast?, h2]; rfl
  have hR := isW_RW (t.length + 1) (a :: t) (by simp) hf
  rw [hl] at hR
  have hle := farW_le h hR
  refine ⟨hle.1, by simpa using hle.2, fun e => ?_⟩
  obtain ⟨k, hk⟩ : ∃ k, farW l n = k + 1 := ⟨farW l n - 1, by omega⟩
  have hn := farW_pos h hle.1
  rw [hk] at hn e ⊢
  exact chW_least h k n hn _ hf h2 e
/-! ### What is told of a chain -/
def chainE (l : List Ne) (n : Nd) : List Nd × Int := if (mayK l && okN n) = true then (if farW l n = 0 then ([], 11) else (chW l (farW l n) n, 0)) else ([], 1)
theorem chain_facts {l : List Ne} (h : mayK l = true) {n : Nd} (hp : 0 < farW l n) : (chW l (farW l n) n).length = farW l n ∧ fromW l rootN (chW l (farW l n) n) = true ∧ (∃ x, chW l (farW l n) n = x ++ [n]) ∧
    ∀ i, i < farW l n → farW l ((chW l (farW l n) n).getD i rootN) = i + 1 ∧ (chW l (farW l n) n).take (i + 1) = chW l (i + 1) ((chW l (farW l n) n).getD i rootN) := by
  obtain ⟨k, hk⟩ : ∃ k, farW l n = k + 1 := ⟨farW l n - 1, by omega⟩
  have hn := farW_pos h hp
  rw [hk] at hn ⊢
  refine ⟨chW_len h k n hn, chW_from h k n hn, chW_last h k n hn, fun i hi => ?_⟩
  obtain ⟨a, b⟩ := chW_take h k n hn i hi
  exact ⟨farW_at h a, b⟩
theorem chain_new {l : List Ne} (h : mayK l = true) {n : Nd} (hp : 0 < farW l n) {i : Nat} (hi : i < farW l n) : hasN ((chW l (farW l n) n).take i) ((chW l (farW l n) n).getD i rootN) = false := by
  obtain ⟨h1, -, -, h4⟩ := chain_facts h hp
  rw [hasN_not]
  intro hm
  obtain ⟨j, hj, e⟩ := List.mem_iff_getElem.1 hm
  have hj2 : j < i := by
    rw [List.length_take] at hj; omega
  rw [List.getElem_take] at e
  have e2 : (chW l (farW l n) n).getD j rootN = (chW l (farW l n) n).getD i rootN := by
    rw [← e]; exact nd_getD (by omega)
  have a := (h4 j (by omega)).1
  have b := (h4 i hi).1
  rw [e2, b] at a
  omega
theorem chW_ok {l : List Ne} (h : mayK l = true) {n : Nd} (hp : 0 < farW l n) : ∀ x ∈ chW l (farW l n) n, okN x = true := fun x hx => by
  obtain ⟨h1, -, -, h4⟩ := chain_facts h hp
  obtain ⟨j, hj, rfl⟩ := List.mem_iff_getElem.1 hx
  have a := (h4 j (by omega)).1
  have e : (chW l (farW l n) n).getD j rootN = (chW l (farW l n) n)[j] := nd_getD hj
  rw [e] at a
  have hp2 : 0 < farW l (chW l (farW l n) n)[j] := by omega
  obtain ⟨k, hk⟩ : ∃ k, farW l (chW l (farW l n) n)[j] = k + 1 := ⟨j, a⟩
  have := farW_pos h hp2
  rw [hk] at this
  exact checkN_ok (atW_check h k) _ this
/-! ### As a program may go about it -/
theorem atW_far {l : List Ne} (h : mayK l = true) {n : Nd} {k : Nat} : n ∈ atW l (k + 1) ↔ farW l n = k + 1 :=
  ⟨fun hn => farW_at h hn, fun e => by have := farW_pos h (n := n) (by omega); rwa [e] at this⟩
/-- The least of those that are one nearer, and need it. -/
theorem parW_is {l : List Ne} {k : Nat} {n m : Nd} (hm : m ∈ atW l (k + 1)) (hl : (m, n) ∈ l) (hb : ∀ x ∈ atW l (k + 1), (x, n) ∈ l → m = x ∨ ltN m x = true) : parW l (k + 1) n = some m := by
  unfold parW
  cases e : (atW l (k + 1)).find? fun m => hasD l m n with
  | none => exact absurd (hasD_iff.2 hl) (List.find?_eq_none.1 e m hm)
  | some x =>
    have h1 := findW_least (p := fun m => hasD l m n) (nextW_rises _ _ _) e hm (hasD_iff.2 hl)
    have h2 := hb x (List.mem_of_find?_eq_some e) (hasD_iff.1 (List.find?_some (p := fun m => hasD l m n) e))
    rcases h1 with rfl | h1
    · rfl
    · rcases h2 with rfl | h2
      · rfl
      · rw [ltN_asym h1] at h2; cases h2
theorem chW_is {l : List Ne} {k : Nat} {n m : Nd} (hm : m ∈ atW l (k + 1)) (hl : (m, n) ∈ l) (hb : ∀ x ∈ atW l (k + 1), (x, n) ∈ l → m = x ∨ ltN m x = true) : chW l (k + 2) n = chW l (k + 1) m ++ [n] := by
  rw [chW_eq, parW_is hm hl hb]
/-- Of those that need it the ones that are some way off, but the root, are at most one nearer. -/
theorem farW_near {l : List Ne} (h : mayK l = true) {x n : Nd} (hl : (x, n) ∈ l) (hx : 0 < farW l x) : farW l n ≤ farW l x + 1 := (farW_step h hl (.inr hx)).2
/-- A list is a chain just if each is a need of the one ahead, the first one's the root. -/
theorem fromW_iff (l : List Ne) : ∀ (a : Nd) (c : List Nd), fromW l a c = true ↔ ∀ i, i < c.length → ((a :: c).getD i rootN, c.getD i rootN) ∈ l
  | a, [] => ⟨fun _ i hi => absurd hi (by simp), fun _ => rfl⟩
  | a, b :: c => by
    unfold fromW
    rw [Bool.and_eq_true, hasD_iff, fromW_iff l b c]
    constructor
    · rintro ⟨h1, h2⟩ i hi
      cases i with
      | zero => exact h1
      | succ i => exact h2 i (by simpa using hi)
    · intro h
      exact ⟨h 0 (by simp), fun i hi => h (i + 1) (by simpa using hi)⟩
theorem fromW_take {l : List Ne} {a : Nd} {c : List Nd} {k : Nat} (h : k < c.length) : fromW l a (c.take (k + 1)) = (fromW l a (c.take k) && hasD l ((a :: c).getD k rootN) (c.getD k rootN)) := by
  have e : c.take (k + 1) = c.take k ++ [c.getD k rootN] := by rw [List.take_succ_eq_append_getElem h]; simp [List.getD_eq_getElem?_getD, h]
  rw [e, fromW_snoc]
  congr 2
  cases k with
  | zero => rfl
  | succ k =>
    rw [List.getLastD_eq_getLast?, List.getLast?_take]
    simp [List.getD_eq_getElem?_getD, show k < c.length by omega]
end Go.Proofs.Ytdefphacdcbljaa
