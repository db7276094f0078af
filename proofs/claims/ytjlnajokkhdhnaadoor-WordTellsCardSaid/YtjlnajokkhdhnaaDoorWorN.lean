/- Words: plain facts of the statements: no version is a go's number, each of these is a path; what lives, and goes on. -/
import Derived.Test.YtjlnajokkhdhnaaDoorWorH
import Derived.Deep.RegionHeld3
namespace Go.Proofs.YtjlnajokkhdhnaaDoor
open Go.RowKit
set_option maxRecDepth 100000

def simB (k : Nat) (R : List (Nat × Nat)) : Bool := R.all fun p => (!(endsO k p.1) || endsO 0 p.2) && (List.range 256).all fun c => match stepO k p.1 c with
  | none => true
  | some a => match stepO 0 p.2 c with
    | none => false
    | some b => R.contains (a, b)
theorem sim_acc {k : Nat} {R : List (Nat × Nat)} (hR : simB k R = true) : ∀ (l : List UInt8) (a b : Nat), (a, b) ∈ R → accO k a l = true → accO 0 b l = true
  | [], a, b, hm, h => by
    have := List.all_eq_true.1 hR _ hm
    rw [Bool.and_eq_true, Bool.or_eq_true, Bool.not_eq_true'] at this
    rw [acc_nil] at h ⊢
    rcases this.1 with h1 | h1
    · rw [h1] at h; cases h
    · exact h1
  | c :: l, a, b, hm, h => by
    have := List.all_eq_true.1 hR _ hm
    rw [Bool.and_eq_true] at this
    have hc := List.all_eq_true.1 this.2 c.toNat (List.mem_range.2 (UInt8.toNat_lt c))
    cases hs : stepO k a c.toNat with
    | none => rw [acc_none l hs] at h; cases h
    | some a' =>
      rw [acc_some l hs] at h
      simp only [hs] at hc
      cases ht : stepO 0 b c.toNat with
      | none => simp only [ht] at hc; cases hc
      | some b' =>
        simp only [ht] at hc
        rw [acc_some l ht]
        exact sim_acc hR l a' b' (by simpa using hc) h
theorem ver_path {l : List UInt8} (h : okV l = true) : pathB l = true := by
  rw [ver_acc] at h; rw [path_acc]
  exact sim_acc (k := 1) (R := [(0, 0), (1, 1), (2, 1), (3, 1), (4, 2), (5, 1), (6, 1), (7, 2), (8, 1), (9, 1), (10, 1), (10, 2), (11, 1), (12, 1), (13, 1)]) (by decide +kernel) l 0 0 (by decide) h
theorem go_path {l : List UInt8} (h : goB l = true) : pathB l = true := by
  rw [go_acc] at h; rw [path_acc]
  exact sim_acc (k := 2) (R := [(0, 0), (1, 1), (2, 1), (3, 2), (4, 1), (5, 1), (6, 2), (7, 1), (8, 1)]) (by decide +kernel) l 0 0 (by decide) h
theorem ver_nogo {l : List UInt8} (h : okV l = true) : goB l = false := by
  rw [ver_acc] at h; rw [go_acc]
  cases l with
  | nil => rfl
  | cons c r =>
    by_cases hc : c.toNat = 118
    · rw [acc_none r (by rw [hc]; decide +kernel)]
    · have := ver_first ⟨c.toNat, UInt8.toNat_lt c⟩
      dsimp only at this
      rw [acc_none r (this.2 hc)] at h; cases h
theorem kinds_nil : pathB [] = false ∧ okV [] = false ∧ goB [] = false := ⟨by rw [path_acc]; rfl, by rw [ver_acc]; rfl, by rw [go_acc]; rfl⟩

theorem live_cat (k : Nat) : ∀ (x y : List UInt8) (a : Nat), liveN k a x ≤ liveN k a (x ++ y) ∧ (liveN k a x < x.length → liveN k a (x ++ y) = liveN k a x)
  | [], y, a => ⟨Nat.zero_le _, fun h => by simp at h⟩
  | c :: x, y, a => by
    rw [List.cons_append, liveN, liveN]
    cases hs : stepO k a c.toNat with
    | none => exact ⟨Nat.le_refl _, fun _ => rfl⟩
    | some b =>
      obtain ⟨h1, h2⟩ := live_cat k x y b
      exact ⟨by simpa using h1, fun h => by simpa using h2 (by simpa using h)⟩
theorem live_take (k : Nat) : ∀ (x : List UInt8) (a i : Nat), i ≤ liveN k a x → liveN k a (x.take i) = i
  | _, a, 0, _ => by simp [liveN]
  | [], a, i + 1, h => by simp [liveN] at h
  | c :: x, a, i + 1, h => by
    rw [List.take_succ_cons]
    rw [liveN] at h ⊢
    cases hs : stepO k a c.toNat with
    | none => rw [hs] at h; simp at h
    | some b =>
      rw [hs] at h
      simp only at h ⊢
      rw [live_take k x b i (by omega)]
theorem whole_live {k : Nat} (hk : k < 3) {l : List UInt8} (h : wholeO k l = true) : liveN k 0 l = l.length := by
  rw [whole_walk hk, Bool.and_eq_true, decide_eq_true_eq] at h; exact h.1
theorem short_whole {k : Nat} (hk : k < 3) {l : List UInt8} (h : liveN k 0 l < l.length) : wholeO k l = false := by
  rw [whole_walk hk, decide_eq_false (by omega), Bool.false_and]
theorem lives_facts {k : Nat} (hk : k < 3) (x y : List UInt8) :
    (liveN k 0 x < x.length ∧ liveN k 0 (x ++ y) = liveN k 0 x ∧ wholeO k x = false ∧ wholeO k (x ++ y) = false) ∨ (liveN k 0 x = x.length ∧ liveN k 0 x ≤ liveN k 0 (x ++ y)) := by
  have hle := liveN_le k x 0
  obtain ⟨h1, h2⟩ := live_cat k x y 0
  rcases Nat.lt_or_ge (liveN k 0 x) x.length with h | h
  · have e := h2 h
    exact .inl ⟨h, e, short_whole hk h, short_whole hk (by rw [e, List.length_append]; omega)⟩
  · exact .inr ⟨by omega, h1⟩

theorem live_app (k : Nat) : ∀ (x y : List UInt8) (a e : Nat), runO k a x = some e → liveN k a (x ++ y) = x.length + liveN k e y
  | [], y, a, e, h => by rw [runO] at h; injection h with h; subst h; simp
  | c :: x, y, a, e, h => by
    rw [runO] at h
    rw [List.cons_append, liveN]
    cases hs : stepO k a c.toNat with
    | none => rw [hs] at h; cases h
    | some b =>
      rw [hs] at h
      simp only
      rw [live_app k x y b e h, List.length_cons]; omega
theorem onward {k : Nat} {x : List UInt8} {e : Nat} (he : runO k 0 x = some e) (u : UInt8) :
    (stepO k e u.toNat = none → liveN k 0 (x ++ [u]) = x.length) ∧ (∀ b, stepO k e u.toNat = some b → liveN k 0 (x ++ [u]) = x.length + 1 ∧ runO k 0 (x ++ [u]) = some b) := by
  have h1 := live_app k x [u] 0 e he
  have h2 := run_cat k x [u] 0
  rw [he] at h2
  simp only [runO] at h2
  simp only [liveN] at h1
  refine ⟨fun h => ?_, fun b h => ?_⟩
  · rw [h1, h]; rfl
  · rw [h1, h2, h]; exact ⟨rfl, rfl⟩
theorem rest_len : ∀ k : Fin 3, ∀ a : Fin 14, (restO k.1 a.1).length ≤ 6 := by decide +kernel
theorem run_round {k a e : Nat} {c : UInt8} {l : List UInt8} (h : runO k a (c :: l) = some e) : ∃ b, stepO k a c.toNat = some b ∧ runO k b l = some e := by
  rw [runO] at h
  cases hs : stepO k a c.toNat with
  | none => rw [hs] at h; cases h
  | some b => rw [hs] at h; exact ⟨b, rfl, h⟩

/-- What stays behind every call: the table, and what lay below. -/
def Kept (w0 w : World) : Prop := RestIs w ∧ Below w0.heap.size w0 w
theorem Kept.step {w0 w w1 : World} (h : Kept w0 w) (hb : Below w.heap.size w w1) : Kept w0 w1 := ⟨h.1.below hb, below_step h.2 hb⟩
theorem Kept.drew {w0 w : World} (h : Kept w0 w) : Kept w0 w.drew := h.step (below_q ⟨1, rfl⟩)
theorem Kept.rests {w0 w : World} (h : Kept w0 w) : RestIs w := h.1
theorem Kept.alloc {w0 w : World} (h : Kept w0 w) (o : Obj) : Kept w0 (w.alloc o) := h.step ((Below.refl _ _).alloc (Nat.le_refl _) _)
theorem take_next {k : Nat} {x : List UInt8} {j a : Nat} (hj : j < x.length) (h : runO k 0 (x.take j) = some a) :
    runO k 0 (x.take (j + 1)) = stepO k a x[j].toNat := by
  rw [List.take_succ_eq_append_getElem hj, run_cat, h]
  simp only [runO]
  cases stepO k a x[j].toNat <;> rfl
end Go.Proofs.YtjlnajokkhdhnaaDoor
