/- Maps keyed by nodes: what a key reads as, and a set of nodes in a map. -/
import Derived.Test.YtdefphacdcbljaaNodM
import Derived.Maps.OwnSet
import Derived.DeepKeys4
import Derived.Sort.KeysCollected
namespace Go.Proofs.Ytdefphacdcbljaa
open Go.RowKit Go.Maps
set_option maxRecDepth 100000

theorem laid_out : laidOutB Try.prog = true := by kernel_rfl
theorem node_keyed : Keyed Try.prog 24 := Keyed.of_law (deep_law_laid laid_out (m := 9) (by decide) (of_decide_eq_true (by kernel_rfl)) (by kernel_rfl) (by kernel_rfl))
def ndV (n : Nd) : Value := .agg #[.string (mkB n.1), .string (mkB n.2)]
def litN (n : Nd) : Lit := .string (keyBytes [.string n.1, .string n.2])
theorem ndV_inj {n m : Nd} (h : ndV n = ndV m) : n = m := by
  unfold ndV at h
  simp only [Value.agg.injEq, Array.mk.injEq, List.cons.injEq, Value.string.injEq, and_true] at h
  exact Prod.ext (mkB_inj h.1) (mkB_inj h.2)
theorem key_type : Try.prog.keyType 24 = true := by kernel_rfl
theorem cells_nd : Try.prog.cellsOf 24 = 2 := by kernel_rfl
theorem cells_st : Try.prog.cellsOf 9 = 1 := by kernel_rfl
theorem lits_st (d : Nat) (s : ByteArray) : Try.prog.keyLits (d + 1) 9 [.string s] = if s.size ≤ maxLen then some [.string s.data.toList] else none := by
  simp only [Program.keyLits, Try.underlying9]
theorem lits_inv (d : Nat) (v : Value) (ls : List Lit) (h : Try.prog.keyLits (d + 1) 9 [v] = some ls) : ∃ s : ByteArray, v = .string s ∧ s.size ≤ maxLen ∧ ls = [.string s.data.toList] := by
  cases v <;> simp only [Program.keyLits, Try.underlying9] at h <;> first | (cases h; done) | skip
  rename_i s
  by_cases hs : s.size ≤ maxLen
  · rw [if_pos hs] at h; exact ⟨s, rfl, hs, (Option.some.inj h).symm⟩
  · rw [if_neg hs] at h; cases h
theorem lits_nd (d : Nat) (x y : Value) : Try.prog.keyLits (d + 1) 24 [x, y] = (Try.prog.keyLits d 9 [x]).bind fun a => (Try.prog.keyLits d 9 [y]).map fun b => a ++ b := by
  simp only [Program.keyLits, Try.underlying24, cells_nd]
  rw [if_pos ⟨rfl, by simp⟩]
  simp only [List.mapM_cons, List.mapM_nil, cells_st]
  simp only [List.drop_zero, List.take_succ_cons, List.take_zero, List.drop_succ_cons]
  cases Try.prog.keyLits d 9 [x] with
  | none => rfl
  | some a =>
    cases Try.prog.keyLits d 9 [y] with
    | none => rfl
    | some b => simp
theorem key_nd (s t : ByteArray) (hs : s.size ≤ maxLen) (ht : t.size ≤ maxLen) : keyOf Try.prog 24 (.agg #[.string s, .string t]) = some (.string (keyBytes [.string s.data.toList, .string t.data.toList])) := by
  have hsz : Try.prog.types.size = Try.prog.types.size - 1 + 1 := by kernel_rfl
  have hf : (Value.agg #[.string s, .string t]).formed Try.prog 24 = true := by
    simp only [Value.formed, Try.underlying24, cells_nd]; rfl
  simp only [keyOf, Try.underlying24, key_type, hf, Bool.and_self, if_true, Value.cells]
  rw [lits_nd, hsz, lits_st, lits_st, if_pos hs, if_pos ht]
  rfl
theorem key_n (n : Nd) (h1 : n.1.length ≤ maxLen) (h2 : n.2.length ≤ maxLen) : keyOf Try.prog 24 (ndV n) = some (litN n) := by
  have := key_nd (mkB n.1) (mkB n.2) (by rw [mkB_size]; exact h1) (by rw [mkB_size]; exact h2)
  rwa [mkB_list, mkB_list] at this
theorem key_inv {v : Value} {l : Lit} (h : keyOf Try.prog 24 v = some l) : ∃ n : Nd, v = ndV n ∧ l = litN n ∧ n.1.length ≤ maxLen ∧ n.2.length ≤ maxLen := by
  have hsz : Try.prog.types.size = Try.prog.types.size - 1 + 1 := by kernel_rfl
  simp only [keyOf, Try.underlying24, key_type, Bool.true_and] at h
  by_cases hf : v.formed Try.prog 24 = true
  · rw [if_pos hf] at h
    cases v <;> simp only [Value.formed, Try.underlying24] at hf <;> first | (cases hf; done) | skip
    rename_i cs
    rw [cells_nd, beq_iff_eq] at hf
    obtain ⟨⟨l0⟩⟩ := cs
    · simp at hf
    rename_i l1
    obtain ⟨⟩ | ⟨y, l2⟩ := l1
    · simp at hf
    obtain ⟨⟩ | ⟨z, l3⟩ := l2
    · rename_i x
      have e : (Value.agg #[x, y]).cells.toList = [x, y] := rfl
      rw [e, lits_nd, hsz] at h
      simp only [Option.map_eq_some_iff, Option.bind_eq_some_iff] at h
      obtain ⟨ls, ⟨a, ha, b, hb, rfl⟩, rfl⟩ := h
      obtain ⟨s, rfl, hs, rfl⟩ := lits_inv _ _ _ ha
      obtain ⟨t, rfl, ht, rfl⟩ := lits_inv _ _ _ hb
      rw [Lib.size_eq] at hs ht
      refine ⟨(s.data.toList, t.data.toList), ?_, rfl, hs, ht⟩
      unfold ndV mkB
      rfl
    · simp at hf
  · rw [if_neg hf] at h; cases h
/-- A node that is short enough to be read. -/
def fitsN (n : Nd) : Prop := n.1.length ≤ maxLen ∧ n.2.length ≤ maxLen
theorem litN_inj {n m : Nd} (hn : fitsN n) (hm : fitsN m) (h : litN n = litN m) : n = m :=
  ndV_inj (node_keyed.inj (key_n n hn.1 hn.2) (h ▸ key_n m hm.1 hm.2))

/-- Block b is a map of at most nn entries whose keys are the nodes of K. -/
structure NMap (w : World) (b nn : Nat) (K : List Nd) : Prop where
  fits : ∀ n ∈ K, fitsN n
  ex : ∃ D : DataW Unit, w.ownsMap Try.prog 24 unitElem b nn D ∧ ∀ kl, has D kl = true ↔ ∃ n ∈ K, kl = litN n
theorem NMap.made (w : World) : NMap (w.alloc (.map #[] 0)) w.heap.size 0 [] :=
  ⟨(fun n hn => by cases hn), _, World.ownsMap_made w _ _ _, fun kl => by simp [has]⟩
theorem NMap.kept {w w' : World} {b nn : Nat} {K : List Nd} {row : Option Nat} (h : NMap w b nn K) (hg : w.grownBy w' row) (hne : some b ≠ row) : NMap w' b nn K := by
  obtain ⟨hf, D, ho, hD⟩ := h
  exact ⟨hf, D, ho.kept hg hne, hD⟩
theorem NMap.alloc {w : World} {b nn : Nat} {K : List Nd} (h : NMap w b nn K) (o : Obj) : NMap (w.alloc o) b nn K := h.kept (World.grownBy_alloc w o none) (by simp)
theorem NMap.lt {w : World} {b nn : Nat} {K : List Nd} (h : NMap w b nn K) : b < w.heap.size := by obtain ⟨_, D, ho, _⟩ := h; exact ho.lt
theorem NMap.below {w w' : World} {b nn : Nat} {K : List Nd} (h : NMap w b nn K) (hb : Below w.heap.size w w') : NMap w' b nn K := by
  have hlt := h.lt
  obtain ⟨hf, D, ⟨es, clock, he, rest⟩, hD⟩ := h
  exact ⟨hf, D, ⟨es, clock, (hb.block b hlt).trans he, rest⟩, hD⟩
theorem has_step {D : DataW Unit} {K : List Nd} {n : Nd} (hi : IsMap D) (hn : fitsN n) (hD : ∀ kl, has D kl = true ↔ ∃ n ∈ K, kl = litN n) (kl : Lit) :
    has (D.put (litN n) (.agg [])) kl = true ↔ ∃ m ∈ K ++ [n], kl = litN m := by
  have hk : WideAt.IsKeyLit (litN n) := node_keyed.key (key_n n hn.1 hn.2)
  by_cases e : kl = litN n
  · subst e
    rw [has_put_same hi hk]
    exact ⟨fun _ => ⟨n, by simp, rfl⟩, fun _ => rfl⟩
  · rw [has_put_other e, hD kl]
    constructor
    · rintro ⟨m, hm, rfl⟩; exact ⟨m, List.mem_append_left _ hm, rfl⟩
    · rintro ⟨m, hm, rfl⟩
      rcases List.mem_append.1 hm with hm | hm
      · exact ⟨m, hm, rfl⟩
      · simp only [List.mem_singleton] at hm; subst hm; exact absurd rfl e
theorem fits_step {K : List Nd} {n : Nd} (hf : ∀ n ∈ K, fitsN n) (hn : fitsN n) : ∀ m ∈ K ++ [n], fitsN m := by
  intro m hm
  rcases List.mem_append.1 hm with hm | hm
  · exact hf m hm
  · simp only [List.mem_singleton] at hm; subst hm; exact hn
theorem has_hasN {D : DataW Unit} {K : List Nd} (hf : ∀ n ∈ K, fitsN n) (hD : ∀ kl, has D kl = true ↔ ∃ n ∈ K, kl = litN n) (n : Nd) (hn : fitsN n) : has D (litN n) = hasN K n := by
  rw [Bool.eq_iff_iff, hD, hasN_iff]
  constructor
  · rintro ⟨m, hm, e⟩; rw [litN_inj hn (hf m hm) e]; exact hm
  · intro h; exact ⟨n, h, rfl⟩
/-- What a range over the map has met. -/
def MetN (D : DataW Unit) (left : Lit → Bool) (ss : List Nd) : Prop := ss.Nodup ∧ (∀ n ∈ ss, fitsN n) ∧ ∀ n, fitsN n → (n ∈ ss ↔ (has D (litN n) = true ∧ left (litN n) = false))
theorem MetN.start (D : DataW Unit) : MetN D (has D) [] := ⟨List.nodup_nil, (fun n hn => by cases hn), fun n _ => by cases has D (litN n) <;> simp⟩
theorem MetN.step {D : DataW Unit} {left : Lit → Bool} {ss : List Nd} (h : MetN D left ss) {n : Nd} (hn : fitsN n) {y : DataW Unit} (hlk : left (litN n) = true) (hat : ∀ zd, D.atKey (litN n) zd = y) :
    MetN D (fun z => left z && !z.sameKey (litN n)) (ss ++ [n]) := by
  have hhas : has D (litN n) = true := has_true_of_atKey hat
  have hk : WideAt.IsKeyLit (litN n) := node_keyed.key (key_n n hn.1 hn.2)
  have hnew : n ∉ ss := fun hx => by have := ((h.2.2 n hn).1 hx).2; rw [hlk] at this; cases this
  refine ⟨List.nodup_append.2 ⟨h.1, by simp, fun a ha b hb => by simp at hb; subst hb; exact fun e => hnew (e ▸ ha)⟩, fits_step h.2.1 hn, fun m hm => ?_⟩
  by_cases hy : m = n
  · subst hy; simp [hhas, WideAt.sameKey_self hk]
  · have hs : (litN m).sameKey (litN n) = false := sameKey_ne fun e => hy (litN_inj hm hn e)
    simp [h.2.2 m hm, hy, hs]
theorem MetN.all {D : DataW Unit} {left : Lit → Bool} {ss K : List Nd} (h : MetN D left ss) (hl : ∀ kl, left kl = false) (hf : ∀ n ∈ K, fitsN n) (hD : ∀ kl, has D kl = true ↔ ∃ n ∈ K, kl = litN n) : ss.Nodup ∧ ∀ n, n ∈ ss ↔ n ∈ K := by
  refine ⟨h.1, fun n => ?_⟩
  constructor
  · intro hn
    have hfn := h.2.1 n hn
    have := ((h.2.2 n hfn).1 hn).1
    rw [has_hasN hf hD n hfn, hasN_iff] at this
    exact this
  · intro hn
    have hfn := hf n hn
    exact (h.2.2 n hfn).2 ⟨by rw [has_hasN hf hD n hfn, hasN_iff]; exact hn, hl _⟩
end Go.Proofs.Ytdefphacdcbljaa
