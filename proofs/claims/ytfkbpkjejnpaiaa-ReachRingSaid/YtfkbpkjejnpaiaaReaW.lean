/- A pair more, a pair less: how often each pair is there; rings. Plain facts. -/
import Derived.Test.YtfkbpkjejnpaiaaReaV
import Derived.Test.YtfkbpkjejnpaiaaEdgP
namespace Go.Proofs.Ytfkbpkjejnpaiaa
set_option linter.unusedVariables false
set_option maxRecDepth 100000

theorem fil_excl {α : Type} (p q : α → Bool) (l : List α) (h : ∀ x, p x = true → q x = true → False) : (l.filter p).length + (l.filter q).length ≤ l.length := by
  induction l with
  | nil => simp
  | cons x l ih =>
    have := h x
    cases hp : p x <;> cases hq : q x <;> simp [hp, hq] at this ⊢ <;> omega
theorem with_len1 (l : List Ed) (x : Ed) : (withE l x).length ≤ l.length + 1 := by
  unfold withE
  have h1 := fil_excl (fun e => ltE e x) (fun e => ltE x e) l fun e h1 h2 => by
    unfold ltE at h1 h2
    simp at h1 h2
    omega
  have h2 := midE_len x
  simp only [List.length_append]
  omega
theorem isP_not {x y f t n : Int} (h : ¬ (x = f ∧ y = t)) : isP x y (f, t, n) = false := by
  cases e : isP x y (f, t, n)
  · rfl
  · exact absurd ((isP_iff.1 e).imp Eq.symm Eq.symm) h
theorem isP_yes (f t n : Int) : isP f t (f, t, n) = true := isP_iff.2 ⟨rfl, rfl⟩

/-- What a pair more makes of edges. -/
structure More (E : List Ed) (f t : Int) (M : List Ed) : Prop where
  ok : okE M = true
  many : ∀ x y, manyE M x y = manyE E x y + if x = f ∧ y = t then 1 else 0
  len : M.length ≤ E.length + 1
  fit : (∀ e ∈ E, fitE e) → fitI f → fitI t → ∀ e ∈ M, fitE e
/-- What a pair less makes of edges. -/
structure Less (E : List Ed) (f t : Int) (M : List Ed) : Prop where
  ok : okE M = true
  many : ∀ x y, manyE M x y = manyE E x y - if x = f ∧ y = t then 1 else 0
  len : M.length ≤ E.length + 1
  fit : (∀ e ∈ E, fitE e) → fitI f → fitI t → ∀ e ∈ M, fitE e
theorem link_of {E : List Ed} {f t : Int} (h : okE E = true) (hf : -1 ≤ f) (ht : 0 ≤ t) (hm : manyE E f t < topE) :
    linkK (E, liveE E) f t = 0 ∧ ∃ M, linkG (E, liveE E) f t = (M, liveE M) ∧ linkD (E, liveE E) f t = minusI (liveE M) (liveE E) ∧ More E f t M := by
  have hok : okG (E, liveE E) = true := okG_of h
  obtain ⟨h1, h2⟩ := linkL_of hok f t
  have hmy := mayE_of h hf ht
  have hK : addK E f t = 0 := by unfold addK; rw [if_pos hmy, if_neg (by omega)]
  have hL : addL E f t = withE E (f, t, manyE E f t + 1) := by unfold addL; rw [if_pos hK]
  have hk0 : linkK (E, liveE E) f t = 0 := by rw [h2]; exact hK
  have hb := (many_bd h f t).1
  obtain ⟨v1, v2⟩ := link_vals hk0 (E := withE E (f, t, manyE E f t + 1)) (by rw [h1]; exact hL) (L := _) rfl
  refine ⟨hk0, _, v1, v2, ?_, fun x y => ?_, with_len1 _ _, fun a b c => ?_⟩
  · exact with_ok h hf ht (by show manyE E f t + 1 ≤ topE; omega)
  · rw [with_many (by show 0 ≤ manyE E f t + 1; omega)]
    by_cases e : x = f ∧ y = t
    · obtain ⟨rfl, rfl⟩ := e
      rw [isP_yes, if_pos rfl, if_pos ⟨rfl, rfl⟩]
    · rw [isP_not e, if_neg e]; simp
  · have := (link_ok hk0).2 a b c
    rw [h1, hL] at this
    exact this
theorem unlk_of {E : List Ed} {f t : Int} (h : okE E = true) (hf : -1 ≤ f) (ht : 0 ≤ t) (hm : 0 < manyE E f t) :
    unlkK (E, liveE E) f t = 0 ∧ ∃ M, unlkG (E, liveE E) f t = (M, liveE M) ∧ unlkD (E, liveE E) f t = minusI (liveE E) (liveE M) ∧ Less E f t M := by
  have hok : okG (E, liveE E) = true := okG_of h
  obtain ⟨h1, h2⟩ := unlkL_of hok f t
  have hmy := mayE_of h hf ht
  have hK : dropK E f t = 0 := by unfold dropK; rw [if_pos hmy, if_neg (by omega)]
  have hL : dropL E f t = withE E (f, t, manyE E f t - 1) := by unfold dropL; rw [if_pos hK]
  have hk0 : unlkK (E, liveE E) f t = 0 := by rw [h2]; exact hK
  have hb := (many_bd h f t).2
  obtain ⟨v1, v2⟩ := unlk_vals hk0 (E := withE E (f, t, manyE E f t - 1)) (by rw [h1]; exact hL) (L := _) rfl
  refine ⟨hk0, _, v1, v2, ?_, fun x y => ?_, with_len1 _ _, fun a b c => ?_⟩
  · exact with_ok h hf ht (by show manyE E f t - 1 ≤ topE; omega)
  · rw [with_many (by show 0 ≤ manyE E f t - 1; omega)]
    by_cases e : x = f ∧ y = t
    · obtain ⟨rfl, rfl⟩ := e
      rw [isP_yes, if_pos rfl, if_pos ⟨rfl, rfl⟩]
    · rw [isP_not e, if_neg e]; simp
  · have := (unlk_ok hk0).2 a b c
    rw [h1, hL] at this
    exact this
theorem unlk_zero {E : List Ed} {f t : Int} (h : okE E = true) (hf : -1 ≤ f) (ht : 0 ≤ t) (hm : manyE E f t = 0) : unlkK (E, liveE E) f t = 2 ∧ unlkG (E, liveE E) f t = (E, liveE E) ∧ unlkD (E, liveE E) f t = [] := by
  have hok : okG (E, liveE E) = true := okG_of h
  have hK : unlkK (E, liveE E) f t = 2 := by rw [(unlkL_of hok f t).2]; unfold dropK; rw [if_pos (mayE_of h hf ht), if_pos hm]
  refine ⟨hK, ?_, ?_⟩
  · unfold unlkG; rw [hK]; rfl
  · unfold unlkD; rw [hK]; rfl

/-! ### Rings -/
structure RingE (n k : Nat) (c : Int → Int) (E : List Ed) : Prop where
  ok : okE E = true
  many : ∀ x y, manyE E x y = if x = -1 then c y else if 0 ≤ x ∧ x < (k : Int) ∧ y = (x + 1) % (n : Int) then 1 else 0
theorem RingE.none (n : Nat) : RingE n 0 (fun _ => 0) [] := ⟨by decide, fun x y => by
  have : manyE [] x y = 0 := rfl
  rw [this]
  split
  · rfl
  · rw [if_neg (by omega)]⟩
theorem RingE.to {n k : Nat} {c : Int → Int} {E : List Ed} (h : RingE n k c E) (x y : Int) : toE E x y ↔ (x = -1 ∧ 0 < c y) ∨ (0 ≤ x ∧ x < (k : Int) ∧ y = (x + 1) % (n : Int)) := by
  rw [to_there h.ok, h.many]
  by_cases e : x = -1
  · rw [if_pos e]; constructor
    · intro h; exact .inl ⟨e, h⟩
    · rintro (h | h)
      · exact h.2
      · omega
  · rw [if_neg e]; constructor
    · intro h; split at h
      · rename_i h2; exact .inr h2
      · omega
    · rintro (h | h)
      · exact absurd h.1 e
      · rw [if_pos h]; omega
theorem RingE.grow {n k : Nat} {c : Int → Int} {E M : List Ed} (h : RingE n k c E) (hm : More E k (((k : Int) + 1) % (n : Int)) M) : RingE n (k + 1) c M := ⟨hm.ok, fun x y => by
  rw [hm.many, h.many]
  by_cases e : x = -1
  · rw [if_pos e, if_pos e, if_neg (by omega)]; simp
  · rw [if_neg e, if_neg e]
    by_cases e1 : x = (k : Int)
    · subst e1
      rw [if_neg (by omega)]
      by_cases e2 : y = ((k : Int) + 1) % (n : Int)
      · rw [if_pos ⟨rfl, e2⟩, if_pos ⟨by omega, by omega, e2⟩]; rfl
      · rw [if_neg (fun h => e2 h.2), if_neg (fun h => e2 h.2.2)]; rfl
    · rw [if_neg (show ¬ (x = (k : Int) ∧ y = ((k : Int) + 1) % (n : Int)) from fun h => e1 h.1)]
      by_cases e2 : 0 ≤ x ∧ x < (k : Int) ∧ y = (x + 1) % (n : Int)
      · rw [if_pos e2, if_pos ⟨e2.1, by omega, e2.2.2⟩]; rfl
      · rw [if_neg e2, if_neg (fun h => e2 ⟨h.1, by omega, h.2.2⟩)]; rfl⟩
theorem RingE.feed {n k : Nat} {c : Int → Int} {E M : List Ed} {a : Int} (h : RingE n k c E) (hm : More E (-1) a M) : RingE n k (fun y => c y + if y = a then 1 else 0) M := ⟨hm.ok, fun x y => by
  rw [hm.many, h.many]
  by_cases e : x = -1
  · rw [if_pos e, if_pos e]
    by_cases e1 : y = a
    · rw [if_pos ⟨e, e1⟩, if_pos e1]
    · rw [if_neg (fun h => e1 h.2), if_neg e1]
  · rw [if_neg e, if_neg e, if_neg (show ¬ (x = -1 ∧ y = a) from fun h => e h.1)]; simp⟩
theorem RingE.cut {n k : Nat} {c : Int → Int} {E M : List Ed} {a : Int} (h : RingE n k c E) (hm : Less E (-1) a M) : RingE n k (fun y => c y - if y = a then 1 else 0) M := ⟨hm.ok, fun x y => by
  rw [hm.many, h.many]
  by_cases e : x = -1
  · rw [if_pos e, if_pos e]
    by_cases e1 : y = a
    · rw [if_pos ⟨e, e1⟩, if_pos e1]
    · rw [if_neg (fun h => e1 h.2), if_neg e1]
  · rw [if_neg e, if_neg e, if_neg (show ¬ (x = -1 ∧ y = a) from fun h => e h.1)]; simp⟩
theorem RingE.uniq {n k : Nat} {c d : Int → Int} {E M : List Ed} (h : RingE n k c E) (h2 : RingE n k d M) (hcd : ∀ y, c y = d y) : E = M :=
  edges_ext h.ok h2.ok fun x y => by rw [h.many, h2.many, hcd]
theorem RingE.dead {n k : Nat} {c : Int → Int} {E : List Ed} (h : RingE n k c E) (hc : ∀ y, ¬ 0 < c y) : liveE E = [] :=
  List.eq_nil_iff_forall_not_mem.2 fun z hz => by
    obtain ⟨h1, h2⟩ := live_mem.1 hz
    have : z = -1 := h2.closed (P := fun z => z = -1) (fun x y hx k => by
      subst hx
      rcases (h.to _ _).1 k with k | k
      · exact absurd k.2 (hc y)
      · omega) rfl
    exact h1 this
def rngI (n : Nat) : List Int := (List.range n).map fun i : Nat => (i : Int)
theorem rng_len (n : Nat) : (rngI n).length = n := by simp [rngI]
theorem rng_mem {n : Nat} {z : Int} : z ∈ rngI n ↔ 0 ≤ z ∧ z < (n : Int) := by
  unfold rngI
  rw [List.mem_map]
  constructor
  · rintro ⟨i, hi, rfl⟩
    have := List.mem_range.1 hi
    omega
  · intro h; exact ⟨z.toNat, List.mem_range.2 (by omega), by omega⟩
theorem rng_pw (n : Nat) : (rngI n).Pairwise (· < ·) := by
  unfold rngI
  rw [List.pairwise_map]
  exact List.pairwise_lt_range.imp fun h => by omega
theorem RingE.live {n : Nat} {c : Int → Int} {E : List Ed} (h : RingE n n c E) {a : Int} (ha : 0 < c a) (hc : ∀ y, 0 < c y → 0 ≤ y ∧ y < (n : Int)) : liveE E = rngI n :=
  (live_uniq (rng_pw n) fun z => by
    have hA := hc a ha
    have hn : (0 : Int) < n := by omega
    rw [rng_mem]
    constructor
    · intro hz
      refine ⟨by omega, ?_⟩
      have step : ∀ j : Nat, Way E (-1) ((a + (j : Int)) % (n : Int)) := fun j => by
        induction j with
        | zero =>
          have : (a + ((0 : Nat) : Int)) % (n : Int) = a := by rw [Int.natCast_zero, Int.add_zero]; exact Int.emod_eq_of_lt hA.1 hA.2
          rw [this]
          exact Way.here.on ((h.to _ _).2 (.inl ⟨rfl, ha⟩))
        | succ j ih =>
          have h1 := Int.emod_nonneg (a + (j : Int)) (show (n : Int) ≠ 0 by omega)
          have h2 := Int.emod_lt_of_pos (a + (j : Int)) hn
          refine ih.on ((h.to _ _).2 (.inr ⟨h1, h2, ?_⟩))
          rw [Int.emod_add_emod]
          congr 1
          omega
      have := step (z + (n : Int) - a).toNat
      have e : (a + (((z + (n : Int) - a).toNat : Nat) : Int)) = z + (n : Int) := by omega
      rw [e, Int.add_emod_right, Int.emod_eq_of_lt hz.1 hz.2] at this
      exact this
    · rintro ⟨h1, h2⟩
      have := h2.closed (P := fun z => z = -1 ∨ (0 ≤ z ∧ z < (n : Int))) (fun x y hx k => by
        rcases (h.to _ _).1 k with k | k
        · exact .inr (hc y k.2)
        · refine .inr ?_
          rw [k.2.2]
          exact ⟨Int.emod_nonneg _ (by omega), Int.emod_lt_of_pos _ hn⟩) (.inl rfl)
      rcases this with e | e
      · exact absurd e h1
      · exact e).symm
theorem minus_self (l : List Int) : minusI l l = [] := minus_none fun _ h => h
theorem minus_nil (l : List Int) : minusI l [] = l := by simp [minusI, hasB]
/-- A round of the ring. -/
theorem ring_step {n k : Nat} {E : List Ed} (h : RingE n k (fun _ => 0) E) (hn : 0 < n) (hk : k < n) :
    linkK (E, []) k (((k : Int) + 1) % (n : Int)) = 0 ∧ ∃ M, linkG (E, []) k (((k : Int) + 1) % (n : Int)) = (M, []) ∧ linkD (E, []) k (((k : Int) + 1) % (n : Int)) = [] ∧ RingE n (k + 1) (fun _ => 0) M ∧ M.length ≤ E.length + 1 ∧ ((∀ e ∈ E, fitE e) → fitI k → fitI (((k : Int) + 1) % (n : Int)) → ∀ e ∈ M, fitE e) := by
  have hd := h.dead fun _ => by omega
  have hm : manyE E k (((k : Int) + 1) % (n : Int)) = 0 := by rw [h.many, if_neg (by omega), if_neg (by omega)]
  obtain ⟨h1, M, h2, h3, h4⟩ := link_of h.ok (show -1 ≤ (k : Int) by omega) (Int.emod_nonneg _ (show (n : Int) ≠ 0 by omega)) (by rw [hm]; decide)
  have hg := h.grow h4
  have hd2 := hg.dead fun _ => by omega
  rw [hd] at h1 h2 h3
  rw [hd2] at h2 h3
  exact ⟨h1, M, h2, h3, hg, h4.len, h4.fit⟩
/-- Fed at one place, at two, at the other one, at none. -/
theorem ring_all {n : Nat} {E : List Ed} (h : RingE n n (fun _ => 0) E) {a b : Int} (ha : 0 ≤ a ∧ a < (n : Int)) (hb : 0 ≤ b ∧ b < (n : Int)) (hl : E.length ≤ n) (hf : ∀ e ∈ E, fitE e) (hn : n ≤ 12) :
    ∃ A B C : List Ed, (linkK (E, []) (-1) a = 0 ∧ linkG (E, []) (-1) a = (A, rngI n) ∧ linkD (E, []) (-1) a = rngI n)
      ∧ (linkK (A, rngI n) (-1) b = 0 ∧ linkG (A, rngI n) (-1) b = (B, rngI n) ∧ linkD (A, rngI n) (-1) b = [])
      ∧ (unlkK (B, rngI n) (-1) a = 0 ∧ unlkG (B, rngI n) (-1) a = (C, rngI n) ∧ unlkD (B, rngI n) (-1) a = [])
      ∧ (unlkK (C, rngI n) (-1) b = 0 ∧ unlkG (C, rngI n) (-1) b = (E, []) ∧ unlkD (C, rngI n) (-1) b = rngI n)
      ∧ (A.length ≤ 13 ∧ ∀ e ∈ A, fitE e) ∧ (B.length ≤ 14 ∧ ∀ e ∈ B, fitE e) ∧ (C.length ≤ 15 ∧ ∀ e ∈ C, fitE e) := by
  have f1 : fitI (-1) := ⟨by decide, by decide⟩
  have fa : fitI a := ⟨by omega, by omega⟩
  have fb : fitI b := ⟨by omega, by omega⟩
  have hd := h.dead fun _ => by omega
  have m0 : manyE E (-1) a = 0 := by rw [h.many, if_pos rfl]
  obtain ⟨k1, A, g1, d1, M1⟩ := link_of h.ok (f := -1) (t := a) (by omega) ha.1 (by rw [m0]; decide)
  have r1 := h.feed M1
  have l1 : liveE A = rngI n := r1.live (a := a) (by simp) fun y hy => by
    by_cases e : y = a
    · rw [e]; exact ha
    · simp [e] at hy
  rw [hd] at k1 g1 d1
  rw [l1, minus_nil] at d1
  rw [l1] at g1
  have a1 := M1.fit hf f1 fa
  have a2 := M1.len
  have m1 : manyE A (-1) b < topE := by
    rw [r1.many, if_pos rfl]
    show 0 + _ < topE
    split <;> decide
  obtain ⟨k2, B, g2, d2, M2⟩ := link_of r1.ok (f := -1) (t := b) (by omega) hb.1 m1
  have r2 := r1.feed M2
  have l2 : liveE B = rngI n := r2.live (a := b) (by simp; split <;> omega) fun y hy => by
    by_cases e : y = a
    · rw [e]; exact ha
    · by_cases e2 : y = b
      · rw [e2]; exact hb
      · simp [e, e2] at hy
  rw [l1] at k2 g2 d2
  rw [l2, minus_self] at d2
  rw [l2] at g2
  have b1 := M2.fit a1 f1 fb
  have b2 := M2.len
  have m2 : 0 < manyE B (-1) a := by
    rw [r2.many, if_pos rfl]
    show 0 < 0 + (if a = a then 1 else 0) + (if a = b then 1 else 0)
    rw [if_pos rfl]
    split <;> decide
  obtain ⟨k3, C, g3, d3, M3⟩ := unlk_of r2.ok (f := -1) (t := a) (by omega) ha.1 m2
  have r3 := r2.cut M3
  have l3 : liveE C = rngI n := r3.live (a := b) (by simp; omega) fun y hy => by
    by_cases e2 : y = b
    · rw [e2]; exact hb
    · simp [e2] at hy
  rw [l2] at k3 g3 d3
  rw [l3, minus_self] at d3
  rw [l3] at g3
  have c1 := M3.fit b1 f1 fa
  have c2 := M3.len
  have m3 : 0 < manyE C (-1) b := by
    rw [r3.many, if_pos rfl]
    show 0 < 0 + (if b = a then 1 else 0) + (if b = b then 1 else 0) - (if b = a then 1 else 0)
    rw [if_pos (show b = b from rfl)]
    split <;> decide
  obtain ⟨k4, D, g4, d4, M4⟩ := unlk_of r3.ok (f := -1) (t := b) (by omega) hb.1 m3
  have r4 := r3.cut M4
  have hD : D = E := r4.uniq h fun y => by
    show 0 + (if y = a then 1 else 0) + (if y = b then 1 else 0) - (if y = a then 1 else 0) - (if y = b then 1 else 0) = 0
    omega
  rw [l3] at k4 g4 d4
  rw [hD, hd] at g4 d4
  rw [minus_nil] at d4
  exact ⟨A, B, C, ⟨k1, g1, d1⟩, ⟨k2, g2, d2⟩, ⟨k3, g3, d3⟩, ⟨k4, g4, d4⟩, ⟨by omega, a1⟩, ⟨by omega, b1⟩, ⟨by omega, c1⟩⟩
end Go.Proofs.Ytfkbpkjejnpaiaa
