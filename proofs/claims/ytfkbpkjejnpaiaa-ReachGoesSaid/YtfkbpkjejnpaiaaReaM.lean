/- What edges reach from a number, and what is reached from Root: plain facts. -/
import Derived.Test.YtfkbpkjejnpaiaaEdgM
namespace Go.Proofs.Ytfkbpkjejnpaiaa
set_option linter.unusedVariables false
set_option maxRecDepth 100000

/-! ### Numbers, rising -/
def riseI (S : List Int) : List Int := S.mergeSort fun x y => decide (x ≤ y)
theorem rise_perm (S : List Int) : (riseI S).Perm S := List.mergeSort_perm S _
theorem rise_mem {S : List Int} {z : Int} : z ∈ riseI S ↔ z ∈ S := (rise_perm S).mem_iff
theorem rise_len (S : List Int) : (riseI S).length = S.length := (rise_perm S).length_eq
theorem rise_pw {S : List Int} (h : S.Nodup) : (riseI S).Pairwise (· < ·) := by
  have h1 : (riseI S).Pairwise (fun x y => decide (x ≤ y) = true) := List.pairwise_mergeSort (fun a b c h k => by simp at h k ⊢; omega) (fun a b => by simp; omega) S
  have h2 : (riseI S).Nodup := (rise_perm S).nodup_iff.2 h
  exact (h1.and h2).imp fun h => by
    obtain ⟨h, k⟩ := h
    rw [decide_eq_true_eq] at h
    omega
theorem pw_nodup {S : List Int} (h : S.Pairwise (· < ·)) : S.Nodup := h.imp fun h => by omega
theorem rises_uniq {a b : List Int} (ha : a.Pairwise (· < ·)) (hb : b.Pairwise (· < ·)) (h : ∀ z, z ∈ a ↔ z ∈ b) : a = b :=
  List.Perm.eq_of_pairwise (le := fun x y => x < y) (fun x y _ _ h1 h2 => by omega) ha hb ((List.perm_ext_iff_of_nodup (pw_nodup ha) (pw_nodup hb)).2 h)
def minusI (a b : List Int) : List Int := a.filter fun z => !hasB b z
theorem minus_mem {a b : List Int} {z : Int} : z ∈ minusI a b ↔ z ∈ a ∧ z ∉ b := by simp [minusI, hasB]
theorem minus_len (a b : List Int) : (minusI a b).length ≤ a.length := List.length_filter_le _ _
theorem minus_pw {a b : List Int} (h : a.Pairwise (· < ·)) : (minusI a b).Pairwise (· < ·) := h.sublist List.filter_sublist
theorem minus_none {a b : List Int} (h : ∀ z ∈ a, z ∈ b) : minusI a b = [] := List.filter_eq_nil_iff.2 fun z hz => by simp [hasB, h z hz]

/-! ### Ways -/
def toE (l : List Ed) (x y : Int) : Prop := ∃ e ∈ l, e.1 = x ∧ e.2.1 = y
inductive Way (l : List Ed) (x : Int) : Int → Prop
  | here : Way l x x
  | on {y z : Int} (h : Way l x y) (k : toE l y z) : Way l x z
theorem Way.trans {l : List Ed} {x y z : Int} (h : Way l x y) (k : Way l y z) : Way l x z := by
  induction k with
  | here => exact h
  | on _ k ih => exact ih.on k
theorem Way.mono {l m : List Ed} (hs : ∀ x y, toE l x y → toE m x y) {x y : Int} (h : Way l x y) : Way m x y := by
  induction h with
  | here => exact .here
  | on _ k ih => exact ih.on (hs _ _ k)
theorem Way.closed {l : List Ed} {P : Int → Prop} (hc : ∀ y z, P y → toE l y z → P z) {x y : Int} (h : Way l x y) (hx : P x) : P y := by
  induction h with
  | here => exact hx
  | on _ k ih => exact hc _ _ ih k
theorem Way.last {l : List Ed} {x y : Int} (h : Way l x y) : y = x ∨ ∃ z, Way l x z ∧ toE l z y := by
  cases h with
  | here => exact .inl rfl
  | on h k => exact .inr ⟨_, h, k⟩
theorem to_there {l : List Ed} (h : okE l = true) {x y : Int} : toE l x y ↔ 0 < manyE l x y := (many_there h x y).symm
theorem to_ok {l : List Ed} (h : okE l = true) {x y : Int} (k : toE l x y) : -1 ≤ x ∧ 0 ≤ y := by
  obtain ⟨e, he, rfl, rfl⟩ := k
  have := oneE_iff.1 ((okE_iff.1 h).1 e he)
  exact ⟨this.1, this.2.1⟩

/-! ### What is reached -/
noncomputable def wayB (l : List Ed) (z : Int) : Bool := @decide (z ≠ -1 ∧ Way l (-1) z) (Classical.propDecidable _)
theorem wayB_iff {l : List Ed} {z : Int} : wayB l z = true ↔ z ≠ -1 ∧ Way l (-1) z := by unfold wayB; exact @decide_eq_true_iff _ (Classical.propDecidable _)
noncomputable def liveE (l : List Ed) : List Int := riseI ((setE l).filter (wayB l))
theorem live_mem {l : List Ed} {z : Int} : z ∈ liveE l ↔ z ≠ -1 ∧ Way l (-1) z := by
  unfold liveE
  rw [rise_mem, List.mem_filter, wayB_iff]
  refine ⟨fun h => h.2, fun h => ⟨?_, h⟩⟩
  rcases h.2.last with e | ⟨y, -, e, he, -, rfl⟩
  · exact absurd e h.1
  · exact (setE_mem l _).2 ⟨e, he, .inr rfl⟩
theorem live_pw (l : List Ed) : (liveE l).Pairwise (· < ·) := rise_pw ((setE_nodup l).sublist List.filter_sublist)
theorem live_uniq {l : List Ed} {L : List Int} (h : L.Pairwise (· < ·)) (hm : ∀ z, z ∈ L ↔ z ≠ -1 ∧ Way l (-1) z) : L = liveE l :=
  rises_uniq h (live_pw l) fun z => (hm z).trans live_mem.symm
theorem live_to {l : List Ed} {z : Int} (h : z ∈ liveE l) : ∃ e ∈ l, e.2.1 = z := by
  obtain ⟨h1, h2⟩ := live_mem.1 h
  rcases h2.last with e | ⟨y, -, e, he, -, hz⟩
  · exact absurd e h1
  · exact ⟨e, he, hz⟩
theorem live_len (l : List Ed) : (liveE l).length ≤ l.length := by
  have := nodupI_len (pw_nodup (live_pw l)) (m := l.map (·.2.1)) fun z hz => by
    obtain ⟨e, he, rfl⟩ := live_to hz
    exact List.mem_map.2 ⟨e, he, rfl⟩
  simpa using this
theorem live_nil : liveE [] = [] := List.eq_nil_of_length_eq_zero (Nat.le_zero.1 (live_len []))
/-- Told anew: a set that has just what is reached, Root among it. -/
theorem live_of {l : List Ed} {S : List Int} (hn : S.Nodup) (h : ∀ z, z ∈ S ↔ Way l (-1) z) : (riseI S).filter (fun z => !hasB [-1] z) = liveE l :=
  live_uniq ((rise_pw hn).sublist List.filter_sublist) fun z => by
    rw [List.mem_filter, rise_mem, h]; simp [hasB]; exact and_comm

/-! ### What spreads -/
structure Spread (l : List Ed) (S : List Int) (n : Int) (T : List Int) : Prop where
  sub : ∀ x ∈ S, x ∈ T
  num : n ∈ T
  shut : ∀ x ∈ T, x ∉ S → ∀ y, toE l x y → y ∈ T
  way : ∀ x ∈ T, x ∉ S → Way l n x
theorem spread_none {l : List Ed} {n : Int} {T : List Int} (h : Spread l [] n T) (z : Int) : z ∈ T ↔ Way l n z :=
  ⟨fun hz => h.way z hz (by simp), fun hw => hw.closed (P := (· ∈ T)) (fun y z hy k => h.shut y hy (by simp) z k) h.num⟩
/-- What is still to do, and what is in already. -/
structure Spr (l : List Ed) (S0 : List Int) (n : Int) (S todo : List Int) : Prop where
  sub : ∀ x ∈ S0, x ∈ S
  num : n ∈ S ∨ n ∈ todo
  shut : ∀ x ∈ S, x ∉ S0 → ∀ y, toE l x y → y ∈ S ∨ y ∈ todo
  way : ∀ x ∈ S, x ∉ S0 → Way l n x
  tway : ∀ x ∈ todo, Way l n x
def cntE (l : List Ed) (S : List Int) : Nat := (l.filter fun e => !hasB S e.1).length
theorem cnt_le (l : List Ed) (S : List Int) : cntE l S ≤ l.length := List.length_filter_le _ _
theorem next_to {l : List Ed} {x y : Int} : y ∈ nextE l x ↔ toE l x y := by
  unfold nextE toE
  constructor
  · intro h
    obtain ⟨e, he, rfl⟩ := List.mem_map.1 h
    obtain ⟨h1, h2⟩ := List.mem_filter.1 he
    exact ⟨e, h1, by simpa using h2, rfl⟩
  · rintro ⟨e, he, rfl, rfl⟩
    exact List.mem_map.2 ⟨e, List.mem_filter.2 ⟨he, by simp⟩, rfl⟩
theorem Spr.start (l : List Ed) (S0 : List Int) (n : Int) : Spr l S0 n S0 [n] :=
  ⟨fun _ h => h, .inr (by simp), fun x h k => absurd h k, fun x h k => absurd h k, fun x h => by rw [List.mem_singleton] at h; subst h; exact .here⟩
theorem Spr.skip {l : List Ed} {S0 S ts : List Int} {n x : Int} (h : Spr l S0 n S (ts ++ [x])) (hx : x ∈ S) : Spr l S0 n S ts :=
  have key : ∀ y, y ∈ ts ++ [x] → y ∈ S ∨ y ∈ ts := fun y hy => by
    rw [List.mem_append, List.mem_singleton] at hy
    rcases hy with hy | rfl
    · exact .inr hy
    · exact .inl hx
  ⟨h.sub, h.num.elim .inl (key n), fun y hy k z hz => (h.shut y hy k z hz).elim .inl (key z), h.way, fun y hy => h.tway y (List.mem_append_left _ hy)⟩
theorem Spr.take {l : List Ed} {S0 S ts : List Int} {n x : Int} (h : Spr l S0 n S (ts ++ [x])) (hx : x ∉ S) : Spr l S0 n (addI S x) (ts ++ nextE l x) := by
  have key : ∀ y, y ∈ S ∨ y ∈ ts ++ [x] → y ∈ addI S x ∨ y ∈ ts ++ nextE l x := fun y hy => by
    rw [List.mem_append, List.mem_singleton] at hy
    rw [addI_mem, List.mem_append]
    rcases hy with hy | hy | rfl
    · exact .inl (.inl hy)
    · exact .inr (.inl hy)
    · exact .inl (.inr rfl)
  have hw := h.tway x (by simp)
  refine ⟨fun y hy => (addI_mem S x y).2 (.inl (h.sub y hy)), key n h.num, fun y hy k z hz => ?_, fun y hy k => ?_, fun y hy => ?_⟩
  · rcases (addI_mem S x y).1 hy with hy | rfl
    · exact key z (h.shut y hy k z hz)
    · exact .inr (List.mem_append_right _ (next_to.2 hz))
  · rcases (addI_mem S x y).1 hy with hy | rfl
    · exact h.way y hy k
    · exact hw
  · rcases List.mem_append.1 hy with hy | hy
    · exact h.tway y (List.mem_append_left _ hy)
    · exact hw.on (next_to.1 hy)
theorem Spr.done {l : List Ed} {S0 S : List Int} {n : Int} (h : Spr l S0 n S []) : Spread l S0 n S :=
  ⟨h.sub, h.num.elim id (by simp), fun x hx k y hy => (h.shut x hx k y hy).elim id (by simp), h.way⟩
theorem cnt_add (l : List Ed) {S : List Int} {x : Int} (hx : x ∉ S) : cntE l (addI S x) + (nextE l x).length = cntE l S := by
  unfold cntE nextE
  rw [List.length_map]
  induction l with
  | nil => rfl
  | cons e l ih =>
    have hm := addI_mem S x e.1
    by_cases h1 : e.1 ∈ S
    · have hne : e.1 ≠ x := fun h => hx (h ▸ h1)
      have h2 : e.1 ∈ addI S x := hm.2 (.inl h1)
      simp [hasB, h1, h2, hne] at ih ⊢
      exact ih
    · by_cases h3 : e.1 = x
      · have h2 : e.1 ∈ addI S x := hm.2 (.inr h3)
        rw [List.filter_cons_of_neg (by simp [hasB, h2]), List.filter_cons_of_pos (by simp [h3]), List.filter_cons_of_pos (by simp [hasB, h1]), List.length_cons, List.length_cons]
        omega
      · have h2 : e.1 ∉ addI S x := fun h => (hm.1 h).elim h1 h3
        simp [hasB, h1, h2, h3] at ih ⊢
        omega

/-! ### A pair more, a pair less -/
theorem reach_of {l : List Ed} {T : List Int} (h : Spread l [] (-1) T) (z : Int) : z ∈ T ↔ Way l (-1) z := spread_none h z
theorem link_on {l0 l : List Ed} {f t : Int} {S T : List Int} (hl : ∀ x y, toE l x y ↔ toE l0 x y ∨ (x = f ∧ y = t)) (hS : ∀ z, z ∈ S ↔ Way l0 (-1) z) (hf : f ∈ S) (h : Spread l S t T) (z : Int) : z ∈ T ↔ Way l (-1) z := by
  have h0 : ∀ y, y ∈ S → Way l (-1) y := fun y hy => ((hS y).1 hy).mono fun a b k => (hl a b).2 (.inl k)
  constructor
  · intro hz
    by_cases k : z ∈ S
    · exact h0 z k
    · exact ((h0 f hf).on ((hl f t).2 (.inr ⟨rfl, rfl⟩))).trans (h.way z hz k)
  · intro hw
    refine hw.closed (P := (· ∈ T)) (fun y z hy k => ?_) (h.sub _ ((hS _).2 .here))
    by_cases hs : y ∈ S
    · rcases (hl y z).1 k with k | ⟨rfl, rfl⟩
      · exact h.sub z ((hS z).2 (((hS y).1 hs).on k))
      · exact h.num
    · exact h.shut y hy hs z k
theorem link_off {l0 l : List Ed} {f t : Int} {S : List Int} (hl : ∀ x y, toE l x y ↔ toE l0 x y ∨ (x = f ∧ y = t)) (hS : ∀ z, z ∈ S ↔ Way l0 (-1) z) (hf : f ∉ S) (z : Int) : z ∈ S ↔ Way l (-1) z := by
  constructor
  · intro hz; exact ((hS z).1 hz).mono fun a b k => (hl a b).2 (.inl k)
  · intro hw
    refine hw.closed (P := (· ∈ S)) (fun y z hy k => ?_) ((hS _).2 .here)
    rcases (hl y z).1 k with k | ⟨rfl, rfl⟩
    · exact (hS z).2 (((hS y).1 hy).on k)
    · exact absurd hy hf
theorem way_or {l0 l : List Ed} {f t : Int} (hl : ∀ x y, toE l0 x y ↔ toE l x y ∨ (x = f ∧ y = t)) {r z : Int} (h : Way l0 r z) : Way l r z ∨ Way l t z := by
  induction h with
  | here => exact .inl .here
  | on _ k ih =>
    rcases (hl _ _).1 k with k | ⟨rfl, rfl⟩
    · exact ih.imp (·.on k) (·.on k)
    · exact .inr .here
/-- What is left while edges are looked at again, k of them so far. -/
structure Back (l : List Ed) (R0 R : List Int) (k : Nat) : Prop where
  sub : ∀ x ∈ R0, x ∈ R
  shut : ∀ x ∈ R, x ∉ R0 → ∀ y, toE l x y → y ∈ R
  done : ∀ j, j < k → j < l.length → (l.getD j zE).1 ∈ R0 → (l.getD j zE).2.1 ∈ R
  way : ∀ x ∈ R, Way l (-1) x
theorem Back.first {l : List Ed} {t : Int} {S D R : List Int} (hw : ∀ x ∈ S, Way l (-1) x ∨ Way l t x) (hD : Spread l [] t D) (hR : ∀ z, z ∈ R ↔ z ∈ S ∧ z ∉ D) : Back l R R 0 :=
  ⟨fun _ h => h, fun x h k => absurd h k, fun j hj => absurd hj (Nat.not_lt_zero j), fun x hx => by
    obtain ⟨h1, h2⟩ := (hR x).1 hx
    rcases hw x h1 with h | h
    · exact h
    · exact absurd ((spread_none hD x).2 h) h2⟩
theorem Back.skip {l : List Ed} {R0 R : List Int} {k : Nat} (h : Back l R0 R k) (hn : (l.getD k zE).1 ∉ R) : Back l R0 R (k + 1) :=
  ⟨h.sub, h.shut, fun j hj hjl hm => by
    rcases Nat.lt_succ_iff_lt_or_eq.1 hj with hj | rfl
    · exact h.done j hj hjl hm
    · exact absurd (h.sub _ hm) hn, h.way⟩
theorem Back.take {l : List Ed} {R0 R T : List Int} {k : Nat} (h : Back l R0 R k) (hk : k < l.length) (hn : (l.getD k zE).1 ∈ R) (hT : Spread l R (l.getD k zE).2.1 T) : Back l R0 T (k + 1) := by
  refine ⟨fun x hx => hT.sub x (h.sub x hx), fun x hx hx0 y hy => ?_, fun j hj hjl hm => ?_, fun x hx => ?_⟩
  · by_cases hr : x ∈ R
    · exact hT.sub y (h.shut x hr hx0 y hy)
    · exact hT.shut x hx hr y hy
  · rcases Nat.lt_succ_iff_lt_or_eq.1 hj with hj | rfl
    · exact hT.sub _ (h.done j hj hjl hm)
    · exact hT.num
  · by_cases hr : x ∈ R
    · exact h.way x hr
    · exact ((h.way _ hn).on ⟨_, ed_mem hk, rfl, rfl⟩).trans (hT.way x hx hr)
theorem Back.all {l : List Ed} {R0 R : List Int} {k : Nat} (h : Back l R0 R k) (hk : l.length ≤ k) (h0 : -1 ∈ R0) (z : Int) : z ∈ R ↔ Way l (-1) z := by
  refine ⟨h.way z, fun hw => hw.closed (P := (· ∈ R)) (fun y z hy hk2 => ?_) (h.sub _ h0)⟩
  by_cases hr : y ∈ R0
  · obtain ⟨e, he, rfl, rfl⟩ := hk2
    obtain ⟨j, hj, rfl⟩ := List.getElem_of_mem he
    have := h.done j (by omega) hj (by rw [ed_getD hj]; exact hr)
    rwa [ed_getD hj] at this
  · exact h.shut y hy hr z hk2
theorem doubt_root {l : List Ed} (hok : okE l = true) {t : Int} (ht : 0 ≤ t) {D : List Int} (hD : Spread l [] t D) : -1 ∉ D := fun h => by
  rcases ((spread_none hD _).1 h).last with e | ⟨z, -, k⟩
  · omega
  · have := (to_ok hok k).2; omega
theorem unlink_off {l0 l : List Ed} {f t : Int} {S : List Int} (hl : ∀ x y, toE l0 x y ↔ toE l x y ∨ (x = f ∧ y = t)) (hS : ∀ z, z ∈ S ↔ Way l0 (-1) z) (hf : f ∉ S) (z : Int) : z ∈ S ↔ Way l (-1) z := by
  constructor
  · intro hz
    have h := (hS z).1 hz
    clear hz
    induction h with
    | here => exact .here
    | on h k ih =>
      rcases (hl _ _).1 k with k | ⟨rfl, rfl⟩
      · exact ih.on k
      · exact absurd ((hS _).2 h) hf
  · intro hw; exact (hS z).2 (hw.mono fun a b k => (hl a b).2 (.inl k))

/-! ### Graphs -/
abbrev Gr := List Ed × List Int
noncomputable def okG (g : Gr) : Bool := okE g.1 && decide (g.2 = liveE g.1)
theorem okG_iff {g : Gr} : okG g = true ↔ okE g.1 = true ∧ g.2 = liveE g.1 := by unfold okG; rw [Bool.and_eq_true, decide_eq_true_eq]
noncomputable def gOf (l : List Ed) : Gr := if okE l then (l, liveE l) else ([], [])
theorem gOf_ok {l : List Ed} (h : okE l = true) : gOf l = (l, liveE l) := by unfold gOf; rw [if_pos h]
theorem gOf_no {l : List Ed} (h : okE l = false) : gOf l = ([], []) := by unfold gOf; rw [if_neg (by rw [h]; decide)]
theorem okG_of {l : List Ed} (h : okE l = true) : okG (l, liveE l) = true := okG_iff.2 ⟨h, rfl⟩
noncomputable def gchk (g : Gr) : Int := if okG g then 0 else 1
/-- Which numbers a graph's Root, and what is reached of it, are. -/
theorem known_way {g : Gr} (h : okG g = true) {S : List Int} (hS : ∀ z, z ∈ S ↔ z ∈ g.2 ∨ z = -1) (z : Int) : z ∈ S ↔ Way g.1 (-1) z := by
  obtain ⟨-, h2⟩ := okG_iff.1 h
  rw [hS, h2, live_mem]
  by_cases e : z = -1
  · subst e; simp; exact .here
  · simp [e]
end Go.Proofs.Ytfkbpkjejnpaiaa
