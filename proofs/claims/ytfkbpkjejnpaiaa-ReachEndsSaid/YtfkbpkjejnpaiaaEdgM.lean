/- Edges between numbers: plain facts. -/
import Derived.Test.YtfkbpkjejnpaiaaOctH
namespace Go.Proofs.Ytfkbpkjejnpaiaa
set_option maxRecDepth 100000

/-- An edge: From, To, and how often. -/
abbrev Ed := Int × Int × Int
abbrev zE : Ed := (0, 0, 0)
abbrev topE : Int := 1099511627776
theorem ed_getD {l : List Ed} {k : Nat} (h : k < l.length) : l.getD k zE = l[k] := by simp [List.getD_eq_getElem?_getD, List.getElem?_eq_getElem h]
theorem ed_mem {l : List Ed} {k : Nat} (h : k < l.length) : l.getD k zE ∈ l := by rw [ed_getD h]; exact List.getElem_mem h
theorem ed_take {l : List Ed} {k : Nat} (h : k < l.length) : l.take (k + 1) = l.take k ++ [l.getD k zE] := by rw [List.take_succ_eq_append_getElem h, ed_getD h]

/-! ### Order -/
def cmpI (x y : Int) : Int := if x < y then -1 else if y < x then 1 else 0
def orI (x y : Int) : Int := if x = 0 then y else x
def ordE (a b : Ed) : Int := orI (cmpI a.1 b.1) (cmpI a.2.1 b.2.1)
def ltE (a b : Ed) : Bool := decide (a.1 < b.1) || (decide (a.1 = b.1) && decide (a.2.1 < b.2.1))
theorem ltE_iff {a b : Ed} : ltE a b = true ↔ a.1 < b.1 ∨ a.1 = b.1 ∧ a.2.1 < b.2.1 := by simp [ltE]
theorem cmpI_cases (x y : Int) : x < y ∧ cmpI x y = -1 ∨ y < x ∧ cmpI x y = 1 ∨ x = y ∧ cmpI x y = 0 := by
  unfold cmpI
  by_cases h : x < y
  · left; exact ⟨h, if_pos h⟩
  · right; rw [if_neg h]
    by_cases k : y < x
    · left; exact ⟨k, if_pos k⟩
    · right; exact ⟨by omega, if_neg k⟩
theorem ordE_cases (a b : Ed) : ltE a b = true ∧ ordE a b = -1 ∨ ltE b a = true ∧ ordE a b = 1 ∨ (a.1 = b.1 ∧ a.2.1 = b.2.1) ∧ ordE a b = 0 := by
  unfold ordE orI
  rcases cmpI_cases a.1 b.1 with ⟨h, e⟩ | ⟨h, e⟩ | ⟨h, e⟩
  · left; rw [e]; exact ⟨ltE_iff.2 (.inl h), rfl⟩
  · right; left; rw [e]; exact ⟨ltE_iff.2 (.inl h), rfl⟩
  · rw [e]
    rcases cmpI_cases a.2.1 b.2.1 with ⟨k, g⟩ | ⟨k, g⟩ | ⟨k, g⟩
    · left; rw [g]; exact ⟨ltE_iff.2 (.inr ⟨h, k⟩), rfl⟩
    · right; left; rw [g]; exact ⟨ltE_iff.2 (.inr ⟨h.symm, k⟩), rfl⟩
    · right; right; rw [g]; exact ⟨⟨h, k⟩, rfl⟩
theorem ltE_asymm {a b : Ed} (h : ltE a b = true) : ltE b a = false := by
  cases k : ltE b a
  · rfl
  · rw [ltE_iff] at h k; omega
theorem ltE_irrefl (a : Ed) : ltE a a = false := by
  cases k : ltE a a
  · rfl
  · rw [ltE_iff] at k; omega
theorem ltE_trans {a b c : Ed} (h : ltE a b = true) (k : ltE b c = true) : ltE a c = true := by
  rw [ltE_iff] at h k ⊢; omega
theorem ord_lt (a b : Ed) : decide (ordE a b < 0) = ltE a b := by
  rcases ordE_cases a b with ⟨h, e⟩ | ⟨h, e⟩ | ⟨⟨h, k⟩, e⟩
  · rw [h, e]; rfl
  · rw [ltE_asymm h, e]; rfl
  · rw [e]; cases g : ltE a b
    · rfl
    · rw [ltE_iff] at g; omega
theorem ord_gt (a b : Ed) : decide (0 < ordE a b) = ltE b a := by
  rcases ordE_cases a b with ⟨h, e⟩ | ⟨h, e⟩ | ⟨⟨h, k⟩, e⟩
  · rw [ltE_asymm h, e]; rfl
  · rw [h, e]; rfl
  · rw [e]; cases g : ltE b a
    · rfl
    · rw [ltE_iff] at g; omega
theorem ord_bd (a b : Ed) : -1 ≤ ordE a b ∧ ordE a b ≤ 1 := by
  rcases ordE_cases a b with ⟨_, e⟩ | ⟨_, e⟩ | ⟨_, e⟩ <;> rw [e] <;> omega

/-! ### May edges be -/
def oneE (e : Ed) : Bool := decide (-1 ≤ e.1) && decide (0 ≤ e.2.1) && decide (1 ≤ e.2.2) && decide (e.2.2 ≤ topE)
theorem oneE_iff {e : Ed} : oneE e = true ↔ -1 ≤ e.1 ∧ 0 ≤ e.2.1 ∧ 1 ≤ e.2.2 ∧ e.2.2 ≤ topE := by simp [oneE, and_assoc]
def stepE (l : List Ed) (k : Nat) : Bool := oneE (l.getD k zE) && (k == 0 || ltE (l.getD (k - 1) zE) (l.getD k zE))
def okE (l : List Ed) : Bool := (List.range l.length).all (stepE l)
theorem okE_yes {l : List Ed} {k : Nat} (hk : l.length ≤ k) (h : ∀ j, j < k → stepE l j = true) : okE l = true :=
  List.all_eq_true.2 fun j hj => h j (Nat.lt_of_lt_of_le (List.mem_range.1 hj) hk)
theorem okE_no {l : List Ed} {k : Nat} (hk : k < l.length) (h : stepE l k = false) : okE l = false := by
  cases e : okE l
  · rfl
  · have := List.all_eq_true.1 e k (List.mem_range.2 hk); rw [h] at this; cases this
theorem okE_iff {l : List Ed} : okE l = true ↔ (∀ e ∈ l, oneE e = true) ∧ l.Pairwise (fun a b => ltE a b = true) := by
  unfold okE
  rw [List.all_eq_true]
  constructor
  · intro h
    have h1 : ∀ j, j < l.length → stepE l j = true := fun j hj => h j (List.mem_range.2 hj)
    refine ⟨fun e he => ?_, ?_⟩
    · obtain ⟨j, hj, rfl⟩ := List.getElem_of_mem he
      have := h1 j hj
      unfold stepE at this
      rw [Bool.and_eq_true, ed_getD hj] at this
      exact this.1
    · rw [List.pairwise_iff_getElem]
      intro i j hi hj hij
      have key : ∀ j, i < j → (hj : j < l.length) → ltE l[i] l[j] = true := by
        intro j
        induction j with
        | zero => intro h; exact absurd h (Nat.not_lt_zero _)
        | succ j ih =>
          intro hij hj
          have hs := h1 (j + 1) hj
          unfold stepE at hs
          rw [Bool.and_eq_true, ed_getD hj, Nat.add_sub_cancel, ed_getD (show j < l.length by omega)] at hs
          have h2 : ltE l[j] l[j + 1] = true := by simpa using hs.2
          by_cases e : i = j
          · subst e; exact h2
          · exact ltE_trans (ih (by omega) (by omega)) h2
      exact key j hij hj
  · rintro ⟨h1, h2⟩ j hj
    have hj := List.mem_range.1 hj
    unfold stepE
    rw [Bool.and_eq_true, ed_getD hj]
    refine ⟨h1 _ (List.getElem_mem hj), ?_⟩
    cases j with
    | zero => rfl
    | succ j =>
      rw [Nat.add_sub_cancel, ed_getD (show j < l.length by omega), Bool.or_eq_true]
      exact .inr (List.pairwise_iff_getElem.1 h2 j (j + 1) (by omega) hj (by omega))
theorem okE_sub {l m : List Ed} (h : okE l = true) (hs : m.Sublist l) : okE m = true := by
  obtain ⟨h1, h2⟩ := okE_iff.1 h
  exact okE_iff.2 ⟨fun e he => h1 e (hs.subset he), h2.sublist hs⟩
theorem okE_take {l : List Ed} (h : okE l = true) (k : Nat) : okE (l.take k) = true := okE_sub h (List.take_sublist k l)
theorem okE_nil : okE [] = true := rfl

/-! ### How often a pair is there -/
def isP (f t : Int) (e : Ed) : Bool := decide (e.1 = f) && decide (e.2.1 = t)
theorem isP_iff {f t : Int} {e : Ed} : isP f t e = true ↔ e.1 = f ∧ e.2.1 = t := by simp [isP]
def sumE : List Ed → Int
  | [] => 0
  | e :: l => e.2.2 + sumE l
theorem sumE_app (l m : List Ed) : sumE (l ++ m) = sumE l + sumE m := by
  induction l with
  | nil => simp [sumE]
  | cons x l ih => rw [List.cons_append, sumE, sumE, ih]; omega
def manyE (l : List Ed) (f t : Int) : Int := sumE (l.filter (isP f t))
theorem manyE_app (l m : List Ed) (f t : Int) : manyE (l ++ m) f t = manyE l f t + manyE m f t := by unfold manyE; rw [List.filter_append, sumE_app]
theorem manyE_one (x : Ed) (f t : Int) : manyE [x] f t = if isP f t x then x.2.2 else 0 := by
  unfold manyE
  cases h : isP f t x <;> simp [h, sumE]
theorem manyE_nil (f t : Int) : manyE [] f t = 0 := rfl
theorem filter_short {l : List Ed} (h : okE l = true) (f t : Int) : (l.filter (isP f t)).length ≤ 1 := by
  obtain ⟨-, h2⟩ := okE_iff.1 h
  have h3 := h2.sublist (List.filter_sublist (p := isP f t) (l := l))
  have h4 : ∀ e ∈ l.filter (isP f t), e.1 = f ∧ e.2.1 = t := fun e he => isP_iff.1 (List.mem_filter.1 he).2
  generalize l.filter (isP f t) = F at h3 h4
  match F, h3, h4 with
  | [], _, _ => exact Nat.zero_le _
  | [_], _, _ => exact Nat.le_refl _
  | a :: b :: r, h3, h4 =>
    exfalso
    have h5 := (List.pairwise_cons.1 h3).1 b (by simp)
    have ha := h4 a (by simp)
    have hb := h4 b (by simp)
    rw [ltE_iff] at h5; omega
theorem many_cases {l : List Ed} (h : okE l = true) (f t : Int) :
    (l.filter (isP f t) = [] ∧ manyE l f t = 0) ∨ (f, t, manyE l f t) ∈ l ∧ l.filter (isP f t) = [(f, t, manyE l f t)] ∧ 1 ≤ manyE l f t ∧ manyE l f t ≤ topE := by
  have h1 := filter_short h f t
  cases hF : l.filter (isP f t) with
  | nil => left; exact ⟨rfl, by unfold manyE; rw [hF]; rfl⟩
  | cons e r =>
    rw [hF] at h1
    have hr : r = [] := List.eq_nil_of_length_eq_zero (by rw [List.length_cons] at h1; omega)
    subst hr
    have hm : e ∈ l.filter (isP f t) := by rw [hF]; exact List.mem_cons_self
    obtain ⟨m1, m2⟩ := List.mem_filter.1 hm
    obtain ⟨e1, e2⟩ := isP_iff.1 m2
    have he : manyE l f t = e.2.2 := by unfold manyE; rw [hF]; simp [sumE]
    have hE : e = (f, t, manyE l f t) := by rw [he, ← e1, ← e2]
    have ho := oneE_iff.1 ((okE_iff.1 h).1 e m1)
    right
    refine ⟨by rw [← hE]; exact m1, by rw [hE], by rw [he]; exact ho.2.2.1, by rw [he]; exact ho.2.2.2⟩
theorem many_bd {l : List Ed} (h : okE l = true) (f t : Int) : 0 ≤ manyE l f t ∧ manyE l f t ≤ topE := by
  rcases many_cases h f t with ⟨_, e⟩ | ⟨_, _, e, k⟩
  · rw [e]; decide
  · omega
theorem sum_take_bd {l : List Ed} (h : okE l = true) (f t : Int) (k : Nat) : 0 ≤ sumE ((l.filter (isP f t)).take k) ∧ sumE ((l.filter (isP f t)).take k) ≤ topE := by
  rcases many_cases h f t with ⟨e, _⟩ | ⟨_, e, e1, e2⟩
  · rw [e]; simp [sumE]
  · rw [e]; cases k
    · simp [sumE]
    · simp [sumE]; omega
theorem mem_many {l : List Ed} (h : okE l = true) (e : Ed) : e ∈ l ↔ 1 ≤ e.2.2 ∧ manyE l e.1 e.2.1 = e.2.2 := by
  constructor
  · intro he
    have hm : e ∈ l.filter (isP e.1 e.2.1) := List.mem_filter.2 ⟨he, isP_iff.2 ⟨rfl, rfl⟩⟩
    rcases many_cases h e.1 e.2.1 with ⟨k, _⟩ | ⟨_, k, k1, _⟩
    · rw [k] at hm; cases hm
    · rw [k] at hm
      have := List.mem_singleton.1 hm
      have h2 : e.2.2 = manyE l e.1 e.2.1 := congrArg (·.2.2) this
      exact ⟨by omega, h2.symm⟩
  · rintro ⟨h1, h2⟩
    rcases many_cases h e.1 e.2.1 with ⟨_, k⟩ | ⟨k, _⟩
    · omega
    · rw [h2] at k; exact k
theorem sorted_ext : ∀ {a b : List Ed}, a.Pairwise (fun x y => ltE x y = true) → b.Pairwise (fun x y => ltE x y = true) → (∀ e, e ∈ a ↔ e ∈ b) → a = b
  | [], [], _, _, _ => rfl
  | [], y :: b, _, _, h => absurd ((h y).2 List.mem_cons_self) (by simp)
  | x :: a, [], _, _, h => absurd ((h x).1 List.mem_cons_self) (by simp)
  | x :: a, y :: b, ha, hb, h => by
    obtain ⟨a1, a2⟩ := List.pairwise_cons.1 ha
    obtain ⟨b1, b2⟩ := List.pairwise_cons.1 hb
    have hxy : x = y := by
      rcases List.mem_cons.1 ((h x).1 List.mem_cons_self) with e | e
      · exact e
      · rcases List.mem_cons.1 ((h y).2 List.mem_cons_self) with g | g
        · exact g.symm
        · have k1 := b1 x e; have k2 := a1 y g; rw [ltE_asymm k1] at k2; cases k2
    subst hxy
    have : a = b := sorted_ext a2 b2 fun e => by
      constructor
      · intro he
        rcases List.mem_cons.1 ((h e).1 (List.mem_cons_of_mem _ he)) with g | g
        · subst g; have := a1 e he; rw [ltE_irrefl] at this; cases this
        · exact g
      · intro he
        rcases List.mem_cons.1 ((h e).2 (List.mem_cons_of_mem _ he)) with g | g
        · subst g; have := b1 e he; rw [ltE_irrefl] at this; cases this
        · exact g
    rw [this]
theorem edges_ext {a b : List Ed} (ha : okE a = true) (hb : okE b = true) (h : ∀ f t, manyE a f t = manyE b f t) : a = b :=
  sorted_ext (okE_iff.1 ha).2 (okE_iff.1 hb).2 fun e => by rw [mem_many ha, mem_many hb, h]

/-! ### Edges with a pair so often -/
def midE (x : Ed) : List Ed := if 0 < x.2.2 then [x] else []
def withE (l : List Ed) (x : Ed) : List Ed := (l.filter fun e => ltE e x) ++ midE x ++ l.filter fun e => ltE x e
theorem midE_len (x : Ed) : (midE x).length ≤ 1 := by unfold midE; split <;> simp
theorem withE_len (l : List Ed) (x : Ed) : (withE l x).length ≤ 2 * l.length + 1 := by
  unfold withE
  have h1 := List.length_filter_le (fun e => ltE e x) l
  have h2 := List.length_filter_le (fun e => ltE x e) l
  have h3 := midE_len x
  rw [List.length_append, List.length_append]; omega
theorem mem_with {l : List Ed} {x e : Ed} : e ∈ withE l x ↔ e ∈ l ∧ ltE e x = true ∨ (e = x ∧ 0 < x.2.2) ∨ e ∈ l ∧ ltE x e = true := by
  unfold withE midE
  rw [List.mem_append, List.mem_append, List.mem_filter, List.mem_filter]
  by_cases h : 0 < x.2.2 <;> simp [h, or_assoc]
theorem with_ok {l : List Ed} {x : Ed} (h : okE l = true) (h1 : -1 ≤ x.1) (h2 : 0 ≤ x.2.1) (h3 : x.2.2 ≤ topE) : okE (withE l x) = true := by
  obtain ⟨o1, o2⟩ := okE_iff.1 h
  refine okE_iff.2 ⟨fun e he => ?_, ?_⟩
  · rcases mem_with.1 he with ⟨k, _⟩ | ⟨rfl, k⟩ | ⟨k, _⟩
    · exact o1 e k
    · exact oneE_iff.2 ⟨h1, h2, by omega, h3⟩
    · exact o1 e k
  · have hm : ∀ e ∈ midE x, e = x := fun e he => by
      unfold midE at he; split at he
      · exact List.mem_singleton.1 he
      · cases he
    unfold withE
    rw [List.pairwise_append, List.pairwise_append]
    refine ⟨⟨o2.sublist List.filter_sublist, ?_, fun a ha b hb => ?_⟩, o2.sublist List.filter_sublist, fun a ha b hb => ?_⟩
    · unfold midE; split
      · exact List.pairwise_singleton _ _
      · exact List.Pairwise.nil
    · rw [hm b hb]; exact (List.mem_filter.1 ha).2
    · have hb2 : ltE x b = true := (List.mem_filter.1 hb).2
      rcases List.mem_append.1 ha with ha | ha
      · exact ltE_trans (List.mem_filter.1 ha).2 hb2
      · rw [hm a ha]; exact hb2
theorem many_filter (p : Ed → Bool) (l : List Ed) (f t : Int) (c : Bool) (h : ∀ e ∈ l, isP f t e = true → p e = c) : manyE (l.filter p) f t = if c then manyE l f t else 0 := by
  induction l with
  | nil => cases c <;> rfl
  | cons x l ih =>
    have hx := h x List.mem_cons_self
    have ih := ih fun e he => h e (List.mem_cons_of_mem _ he)
    unfold manyE at ih ⊢
    cases hp : isP f t x
    · have e0 : (x :: l).filter (isP f t) = l.filter (isP f t) := List.filter_cons_of_neg (by rw [hp]; simp)
      rw [e0, ← ih]
      cases hq : p x
      · have e1 : (x :: l).filter p = l.filter p := List.filter_cons_of_neg (by rw [hq]; simp)
        rw [e1]
      · have e1 : (x :: l).filter p = x :: l.filter p := List.filter_cons_of_pos hq
        rw [e1, List.filter_cons_of_neg (by rw [hp]; simp)]
    · have e0 : (x :: l).filter (isP f t) = x :: l.filter (isP f t) := List.filter_cons_of_pos hp
      rw [e0, sumE]
      have hq := hx hp
      cases c
      · have e1 : (x :: l).filter p = l.filter p := List.filter_cons_of_neg (by rw [hq]; simp)
        rw [e1]
        simpa using ih
      · have e1 : (x :: l).filter p = x :: l.filter p := List.filter_cons_of_pos hq
        rw [e1, List.filter_cons_of_pos hp, sumE]
        simp only [if_true] at ih ⊢
        rw [ih]
theorem with_many {l : List Ed} {x : Ed} (hn : 0 ≤ x.2.2) (f t : Int) : manyE (withE l x) f t = if isP f t x then x.2.2 else manyE l f t := by
  unfold withE
  rw [manyE_app, manyE_app]
  have e1 := many_filter (fun e => ltE e x) l f t (ltE (f, t, 0) x) (fun e _ he => by
    obtain ⟨rfl, rfl⟩ := isP_iff.1 he; rfl)
  have e2 := many_filter (fun e => ltE x e) l f t (ltE x (f, t, 0)) (fun e _ he => by
    obtain ⟨rfl, rfl⟩ := isP_iff.1 he; rfl)
  rw [e1, e2]
  have e3 : manyE (midE x) f t = if isP f t x then x.2.2 else 0 := by
    unfold midE
    split
    · exact manyE_one x f t
    · rw [manyE_nil]; split <;> omega
  rw [e3]
  cases hp : isP f t x
  · rcases ordE_cases (f, t, 0) x with ⟨h, _⟩ | ⟨h, _⟩ | ⟨h, _⟩
    · rw [h, ltE_asymm h]; simp
    · rw [h, ltE_asymm h]; simp
    · exfalso
      have : isP f t x = true := isP_iff.2 ⟨h.1.symm, h.2.symm⟩
      rw [hp] at this; cases this
  · obtain ⟨rfl, rfl⟩ := isP_iff.1 hp
    have h1 : ltE (x.1, x.2.1, 0) x = false := ltE_irrefl x
    have h2 : ltE x (x.1, x.2.1, 0) = false := ltE_irrefl x
    rw [h1, h2]; simp

/-! ### Where edges lead, and whence they come -/
def nextE (l : List Ed) (f : Int) : List Int := (l.filter fun e => decide (e.1 = f)).map (·.2.1)
def backE (l : List Ed) (t : Int) : List Int := (l.filter fun e => decide (e.2.1 = t)).map (·.1)
theorem nextE_len (l : List Ed) (f : Int) : (nextE l f).length ≤ l.length := by unfold nextE; rw [List.length_map]; exact List.length_filter_le _ _
theorem backE_len (l : List Ed) (t : Int) : (backE l t).length ≤ l.length := by unfold backE; rw [List.length_map]; exact List.length_filter_le _ _
theorem nextE_snoc (l : List Ed) (f : Int) (y : Ed) : nextE (l ++ [y]) f = nextE l f ++ (if y.1 = f then [y.2.1] else []) := by
  unfold nextE
  rw [List.filter_append, List.map_append]
  by_cases h : y.1 = f <;> simp [h]
theorem backE_snoc (l : List Ed) (t : Int) (y : Ed) : backE (l ++ [y]) t = backE l t ++ (if y.2.1 = t then [y.1] else []) := by
  unfold backE
  rw [List.filter_append, List.map_append]
  by_cases h : y.2.1 = t <;> simp [h]
theorem next_rises {l : List Ed} (h : okE l = true) (f : Int) : (nextE l f).Pairwise (· < ·) := by
  unfold nextE
  rw [List.pairwise_map]
  have h3 := (okE_iff.1 h).2.sublist (List.filter_sublist (p := fun e => decide (e.1 = f)) (l := l))
  refine List.Pairwise.imp_of_mem (fun {a b} ha hb hab => ?_) h3
  have e1 : a.1 = f := by simpa using (List.mem_filter.1 ha).2
  have e2 : b.1 = f := by simpa using (List.mem_filter.1 hb).2
  rw [ltE_iff] at hab; omega
theorem back_rises {l : List Ed} (h : okE l = true) (t : Int) : (backE l t).Pairwise (· < ·) := by
  unfold backE
  rw [List.pairwise_map]
  have h3 := (okE_iff.1 h).2.sublist (List.filter_sublist (p := fun e => decide (e.2.1 = t)) (l := l))
  refine List.Pairwise.imp_of_mem (fun {a b} ha hb hab => ?_) h3
  have e1 : a.2.1 = t := by simpa using (List.mem_filter.1 ha).2
  have e2 : b.2.1 = t := by simpa using (List.mem_filter.1 hb).2
  rw [ltE_iff] at hab; omega
theorem many_there {l : List Ed} (h : okE l = true) (f t : Int) : 0 < manyE l f t ↔ ∃ e ∈ l, e.1 = f ∧ e.2.1 = t := by
  constructor
  · intro hp
    rcases many_cases h f t with ⟨_, k⟩ | ⟨k, _⟩
    · omega
    · exact ⟨_, k, rfl, rfl⟩
  · rintro ⟨e, he, rfl, rfl⟩
    have := (mem_many h e).1 he; omega
theorem has_next {l : List Ed} (h : okE l = true) (f t : Int) : hasB (nextE l f) t = decide (0 < manyE l f t) := by
  unfold hasB
  rw [decide_eq_decide, many_there h]
  unfold nextE
  simp only [List.mem_map, List.mem_filter, decide_eq_true_eq]
  exact ⟨fun ⟨e, ⟨a, b⟩, c⟩ => ⟨e, a, b, c⟩, fun ⟨e, a, b, c⟩ => ⟨e, ⟨a, b⟩, c⟩⟩
theorem has_back {l : List Ed} (h : okE l = true) (f t : Int) : hasB (backE l t) f = decide (0 < manyE l f t) := by
  unfold hasB
  rw [decide_eq_decide, many_there h]
  unfold backE
  simp only [List.mem_map, List.mem_filter, decide_eq_true_eq]
  exact ⟨fun ⟨e, ⟨a, b⟩, c⟩ => ⟨e, a, c, b⟩, fun ⟨e, a, b, c⟩ => ⟨e, ⟨a, c⟩, b⟩⟩

/-! ### Ends -/
def addI (m : List Int) (x : Int) : List Int := if x ∈ m then m else m ++ [x]
theorem addI_mem (m : List Int) (x y : Int) : y ∈ addI m x ↔ y ∈ m ∨ y = x := by
  unfold addI
  by_cases h : x ∈ m
  · rw [if_pos h]; exact ⟨.inl, fun k => k.elim id (fun e => e ▸ h)⟩
  · rw [if_neg h]; simp
theorem addI_nodup {m : List Int} (h : m.Nodup) (x : Int) : (addI m x).Nodup := by
  unfold addI
  by_cases hx : x ∈ m
  · rw [if_pos hx]; exact h
  · rw [if_neg hx]
    exact List.nodup_append.2 ⟨h, by simp, fun a ha b hb => by simp at hb; subst hb; exact fun e => hx (e ▸ ha)⟩
theorem addI_len (m : List Int) (x : Int) : m.length ≤ (addI m x).length ∧ (addI m x).length ≤ m.length + 1 := by
  unfold addI; split
  · omega
  · simp
def metI (m : List Int) (e : Ed) : List Int := addI (if 0 ≤ e.1 then addI m e.1 else m) e.2.1
def metE (l : List Ed) : List Int := l.foldl metI []
theorem metE_snoc (l : List Ed) (e : Ed) : metE (l ++ [e]) = metI (metE l) e := by unfold metE; rw [List.foldl_append]; rfl
theorem metI_mem (m : List Int) (e : Ed) (x : Int) : x ∈ metI m e ↔ x ∈ m ∨ (0 ≤ e.1 ∧ x = e.1) ∨ x = e.2.1 := by
  unfold metI
  rw [addI_mem]
  by_cases h : 0 ≤ e.1
  · rw [if_pos h, addI_mem]; simp [h, or_assoc]
  · rw [if_neg h]; simp [h]
theorem foldl_met (l : List Ed) : ∀ m : List Int, (m.Nodup → (l.foldl metI m).Nodup) ∧ (∀ x, x ∈ l.foldl metI m ↔ x ∈ m ∨ ∃ e ∈ l, (0 ≤ e.1 ∧ x = e.1) ∨ x = e.2.1) ∧ (l.foldl metI m).length ≤ m.length + 2 * l.length := by
  induction l with
  | nil => intro m; exact ⟨id, fun x => by simp, Nat.le_refl _⟩
  | cons e l ih =>
    intro m
    obtain ⟨h1, h2, h3⟩ := ih (metI m e)
    rw [List.foldl_cons]
    refine ⟨fun hm => h1 ?_, fun x => ?_, ?_⟩
    · unfold metI; refine addI_nodup ?_ _; split
      · exact addI_nodup hm _
      · exact hm
    · rw [h2, metI_mem]; simp only [List.mem_cons, or_assoc]
      constructor
      · rintro (h | h | h | ⟨g, hg, h⟩)
        · exact .inl h
        · exact .inr ⟨e, .inl rfl, .inl h⟩
        · exact .inr ⟨e, .inl rfl, .inr h⟩
        · exact .inr ⟨g, .inr hg, h⟩
      · rintro (h | ⟨g, rfl | hg, h⟩)
        · exact .inl h
        · exact .inr (h.elim .inl fun k => .inr (.inl k))
        · exact .inr (.inr (.inr ⟨g, hg, h⟩))
    · have h4 : (metI m e).length ≤ m.length + 2 := by
        unfold metI
        have a1 := (addI_len (if 0 ≤ e.1 then addI m e.1 else m) e.2.1).2
        have a2 := (addI_len m e.1).2
        have a3 : (if 0 ≤ e.1 then addI m e.1 else m).length ≤ m.length + 1 := by
          split
          · exact a2
          · omega
        omega
      rw [List.length_cons]; omega
theorem metE_nodup (l : List Ed) : (metE l).Nodup := (foldl_met l []).1 List.nodup_nil
theorem metE_mem (l : List Ed) (x : Int) : x ∈ metE l ↔ ∃ e ∈ l, (0 ≤ e.1 ∧ x = e.1) ∨ x = e.2.1 := by
  have := (foldl_met l []).2.1 x
  unfold metE; simpa using this
theorem metE_len (l : List Ed) : (metE l).length ≤ 2 * l.length := by
  have := (foldl_met l []).2.2
  unfold metE; simpa using this
def endsE (l : List Ed) : Nat := (metE l).length
theorem ends_zero {l : List Ed} : endsE l = 0 ↔ l = [] := by
  constructor
  · intro h
    cases l with
    | nil => rfl
    | cons e l =>
      have : e.2.1 ∈ metE (e :: l) := (metE_mem _ _).2 ⟨e, List.mem_cons_self, .inr rfl⟩
      rw [List.eq_nil_of_length_eq_zero h] at this; cases this
  · rintro rfl; rfl
theorem nodupI_len : ∀ {l m : List Int}, l.Nodup → (∀ x ∈ l, x ∈ m) → l.length ≤ m.length
  | [], _, _, _ => Nat.zero_le _
  | a :: l, m, hl, h => by
    obtain ⟨h1, h2⟩ := List.nodup_cons.1 hl
    have ha := h a List.mem_cons_self
    have := nodupI_len (m := m.erase a) h2 fun x hx => by
      have hne : x ≠ a := fun e => h1 (e ▸ hx)
      exact (List.mem_erase_of_ne hne).2 (h x (List.mem_cons_of_mem _ hx))
    rw [List.length_erase_of_mem ha] at this
    have hp := List.length_pos_of_mem ha
    rw [List.length_cons]; omega
theorem sameI_len {l m : List Int} (hl : l.Nodup) (hm : m.Nodup) (h : ∀ x, x ∈ l ↔ x ∈ m) : l.length = m.length :=
  Nat.le_antisymm (nodupI_len hl fun x hx => (h x).1 hx) (nodupI_len hm fun x hx => (h x).2 hx)
theorem ends_same {l m : List Ed} (h : ∀ x, x ∈ metE l ↔ x ∈ metE m) : endsE l = endsE m := sameI_len (metE_nodup l) (metE_nodup m) h
/-- A pair of ends that are there adds none. -/
theorem ends_with {l : List Ed} {f t n : Int} (hf : f = -1 ∨ f ∈ metE l) (ht : t ∈ metE l) (hn : 0 < n) : endsE (withE l (f, t, n)) = endsE l := by
  refine ends_same fun x => ?_
  rw [metE_mem, metE_mem]
  constructor
  · rintro ⟨e, he, h⟩
    rcases mem_with.1 he with ⟨k, _⟩ | ⟨rfl, _⟩ | ⟨k, _⟩
    · exact ⟨e, k, h⟩
    · rcases h with ⟨h0, h⟩ | h
      · simp only at h0 h
        subst h
        rcases hf with hf | hf
        · omega
        · exact (metE_mem _ _).1 hf
      · simp only at h; subst h; exact (metE_mem _ _).1 ht
    · exact ⟨e, k, h⟩
  · rintro ⟨e, he, h⟩
    rcases ordE_cases e (f, t, n) with ⟨k, _⟩ | ⟨k, _⟩ | ⟨k, _⟩
    · exact ⟨e, mem_with.2 (.inl ⟨he, k⟩), h⟩
    · exact ⟨e, mem_with.2 (.inr (.inr ⟨he, k⟩)), h⟩
    · refine ⟨(f, t, n), mem_with.2 (.inr (.inl ⟨rfl, hn⟩)), ?_⟩
      rw [k.1, k.2] at h
      exact h
/-- All numbers that edges have, Root among them, one behind the other. -/
def setE (l : List Ed) : List Int := l.foldl (fun m e => addI (addI m e.1) e.2.1) []
theorem setE_snoc (l : List Ed) (e : Ed) : setE (l ++ [e]) = addI (addI (setE l) e.1) e.2.1 := by unfold setE; rw [List.foldl_append]; rfl
theorem foldl_set (l : List Ed) : ∀ m : List Int, (m.Nodup → (l.foldl (fun m e => addI (addI m e.1) e.2.1) m).Nodup) ∧ (∀ x, x ∈ l.foldl (fun m e => addI (addI m e.1) e.2.1) m ↔ x ∈ m ∨ ∃ e ∈ l, x = e.1 ∨ x = e.2.1) := by
  induction l with
  | nil => intro m; exact ⟨id, fun x => by simp⟩
  | cons e l ih =>
    intro m
    obtain ⟨h1, h2⟩ := ih (addI (addI m e.1) e.2.1)
    rw [List.foldl_cons]
    refine ⟨fun hm => h1 (addI_nodup (addI_nodup hm _) _), fun x => ?_⟩
    rw [h2, addI_mem, addI_mem]; simp only [List.mem_cons, or_assoc]
    constructor
    · rintro (h | h | h | ⟨g, hg, h⟩)
      · exact .inl h
      · exact .inr ⟨e, .inl rfl, .inl h⟩
      · exact .inr ⟨e, .inl rfl, .inr h⟩
      · exact .inr ⟨g, .inr hg, h⟩
    · rintro (h | ⟨g, rfl | hg, h⟩)
      · exact .inl h
      · exact .inr (h.elim .inl fun k => .inr (.inl k))
      · exact .inr (.inr (.inr ⟨g, hg, h⟩))
theorem setE_nodup (l : List Ed) : (setE l).Nodup := (foldl_set l []).1 List.nodup_nil
theorem setE_mem (l : List Ed) (x : Int) : x ∈ setE l ↔ ∃ e ∈ l, x = e.1 ∨ x = e.2.1 := by
  have := (foldl_set l []).2 x
  unfold setE; simpa using this
/-- Without Root they are the ends. -/
theorem ends_set {l : List Ed} (h : okE l = true) : ((setE l).erase (-1)).length = endsE l := by
  refine sameI_len ((setE_nodup l).erase _) (metE_nodup l) fun x => ?_
  rw [(setE_nodup l).mem_erase_iff, setE_mem, metE_mem]
  have ho := (okE_iff.1 h).1
  constructor
  · rintro ⟨hx, e, he, h | h⟩
    · have := oneE_iff.1 (ho e he)
      exact ⟨e, he, .inl ⟨by omega, h⟩⟩
    · exact ⟨e, he, .inr h⟩
  · rintro ⟨e, he, ⟨h0, h⟩ | h⟩
    · exact ⟨by omega, e, he, .inl h⟩
    · have := oneE_iff.1 (ho e he)
      exact ⟨by omega, e, he, .inr h⟩
end Go.Proofs.Ytfkbpkjejnpaiaa
