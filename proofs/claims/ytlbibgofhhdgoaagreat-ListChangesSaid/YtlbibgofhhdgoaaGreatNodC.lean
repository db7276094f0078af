/- Maps keyed by nodes: what a key reads as, and a set of nodes in a map. -/
import Derived.Test.YtlbibgofhhdgoaaGreatNodM
import Derived.Maps.OwnSet
import Derived.DeepKeys4
import Derived.Sort.KeysCollected
namespace Go.Proofs.YtlbibgofhhdgoaaGreat
open Go.RowKit Go.Maps
set_option maxRecDepth 100000

theorem laid_out : laidOutB Tryz.prog = true := by kernel_rfl
theorem node_keyed : Keyed Tryz.prog 55 := Keyed.of_law (deep_law_laid laid_out (m := 9) (by decide) (of_decide_eq_true (by kernel_rfl)) (by kernel_rfl) (by kernel_rfl))
def ndV (n : Nd) : Value := .agg #[.string (mkB n.1), .string (mkB n.2)]
def litN (n : Nd) : Lit := .string (keyBytes [.string n.1, .string n.2])
theorem ndV_inj {n m : Nd} (h : ndV n = ndV m) : n = m := by
  unfold ndV at h
  simp only [Value.agg.injEq, Array.mk.injEq, List.cons.injEq, Value.string.injEq, and_true] at h
  exact Prod.ext (mkB_inj h.1) (mkB_inj h.2)
theorem key_type : Tryz.prog.keyType 55 = true := by kernel_rfl
theorem cells_nd : Tryz.prog.cellsOf 55 = 2 := by kernel_rfl
theorem cells_st : Tryz.prog.cellsOf 9 = 1 := by kernel_rfl
theorem lits_st (d : Nat) (s : ByteArray) : Tryz.prog.keyLits (d + 1) 9 [.string s] = if s.size ≤ maxLen then some [.string s.data.toList] else none := by
  simp only [Program.keyLits, Tryz.underlying9]
theorem lits_nd (d : Nat) (x y : Value) : Tryz.prog.keyLits (d + 1) 55 [x, y] = (Tryz.prog.keyLits d 9 [x]).bind fun a => (Tryz.prog.keyLits d 9 [y]).map fun b => a ++ b := by
  simp only [Program.keyLits, Tryz.underlying55, cells_nd]
  rw [if_pos ⟨rfl, by simp⟩]
  simp only [List.mapM_cons, List.mapM_nil, cells_st]
  simp only [List.drop_zero, List.take_succ_cons, List.take_zero, List.drop_succ_cons]
  cases Tryz.prog.keyLits d 9 [x] with
  | none => rfl
  | some a =>
    cases Tryz.prog.keyLits d 9 [y] with
    | none => rfl
    | some b => simp
theorem key_nd (s t : ByteArray) (hs : s.size ≤ maxLen) (ht : t.size ≤ maxLen) : keyOf Tryz.prog 55 (.agg #[.string s, .string t]) = some (.string (keyBytes [.string s.data.toList, .string t.data.toList])) := by
  have hsz : Tryz.prog.types.size = Tryz.prog.types.size - 1 + 1 := by kernel_rfl
  have hf : (Value.agg #[.string s, .string t]).formed Tryz.prog 55 = true := by
    simp only [Value.formed, Tryz.underlying55, cells_nd]; rfl
  simp only [keyOf, Tryz.underlying55, key_type, hf, Bool.and_self, if_true, Value.cells]
  rw [lits_nd, hsz, lits_st, lits_st, if_pos hs, if_pos ht]
  rfl
theorem key_n (n : Nd) (h1 : n.1.length ≤ maxLen) (h2 : n.2.length ≤ maxLen) : keyOf Tryz.prog 55 (ndV n) = some (litN n) := by
  have := key_nd (mkB n.1) (mkB n.2) (by rw [mkB_size]; exact h1) (by rw [mkB_size]; exact h2)
  rwa [mkB_list, mkB_list] at this
/-- A node that is short enough to be read. -/
def fitsN (n : Nd) : Prop := n.1.length ≤ maxLen ∧ n.2.length ≤ maxLen
theorem litN_inj {n m : Nd} (hn : fitsN n) (hm : fitsN m) (h : litN n = litN m) : n = m :=
  ndV_inj (node_keyed.inj (key_n n hn.1 hn.2) (h ▸ key_n m hm.1 hm.2))

/-- Block b is a map of at most nn entries whose keys are the nodes of K. -/
structure NMap (w : World) (b nn : Nat) (K : List Nd) : Prop where
  fits : ∀ n ∈ K, fitsN n
  ex : ∃ D : DataW Unit, w.ownsMap Tryz.prog 55 unitElem b nn D ∧ ∀ kl, has D kl = true ↔ ∃ n ∈ K, kl = litN n
theorem NMap.made (w : World) : NMap (w.alloc (.map #[] 0)) w.heap.size 0 [] :=
  ⟨(fun n hn => by cases hn), _, World.ownsMap_made w _ _ _, fun kl => by simp [has]⟩
theorem NMap.kept {w w' : World} {b nn : Nat} {K : List Nd} {row : Option Nat} (h : NMap w b nn K) (hg : w.grownBy w' row) (hne : some b ≠ row) : NMap w' b nn K := by
  obtain ⟨hf, D, ho, hD⟩ := h
  exact ⟨hf, D, ho.kept hg hne, hD⟩
theorem NMap.alloc {w : World} {b nn : Nat} {K : List Nd} (h : NMap w b nn K) (o : Obj) : NMap (w.alloc o) b nn K := h.kept (World.grownBy_alloc w o none) (by simp)
theorem NMap.lt {w : World} {b nn : Nat} {K : List Nd} (h : NMap w b nn K) : b < w.heap.size := by obtain ⟨_, D, ho, _⟩ := h; exact ho.lt
theorem NMap.below {w w' : World} {b nn : Nat} {K : List Nd} (h : NMap w b nn K) (hb : Below w.heap.size w w') : NMap w' b nn K := by
  have hlt := h.lt
  obtain ⟨hf, D, ⟨es, clock, he, rest⟩, hD⟩ := h
  exact ⟨hf, D, ⟨es, clock, (hb.block b hlt).trans he, rest⟩, hD⟩
theorem has_hasN {D : DataW Unit} {K : List Nd} (hf : ∀ n ∈ K, fitsN n) (hD : ∀ kl, has D kl = true ↔ ∃ n ∈ K, kl = litN n) (n : Nd) (hn : fitsN n) : has D (litN n) = hasN K n := by
  rw [Bool.eq_iff_iff, hD, hasN_iff]
  constructor
  · rintro ⟨m, hm, e⟩; rw [litN_inj hn (hf m hm) e]; exact hm
  · intro h; exact ⟨n, h, rfl⟩
/-- What a range over the map has met. -/
def MetN (D : DataW Unit) (left : Lit → Bool) (ss : List Nd) : Prop := ss.Nodup ∧ (∀ n ∈ ss, fitsN n) ∧ ∀ n, fitsN n → (n ∈ ss ↔ (has D (litN n) = true ∧ left (litN n) = false))
theorem MetN.start (D : DataW Unit) : MetN D (has D) [] := ⟨List.nodup_nil, (fun n hn => by cases hn), fun n _ => by cases has D (litN n) <;> simp⟩
theorem MetN.all {D : DataW Unit} {left : Lit → Bool} {ss K : List Nd} (h : MetN D left ss) (hl : ∀ kl, left kl = false) (hf : ∀ n ∈ K, fitsN n) (hD : ∀ kl, has D kl = true ↔ ∃ n ∈ K, kl = litN n) : ss.Nodup ∧ ∀ n, n ∈ ss ↔ n ∈ K := by
  refine ⟨h.1, fun n => ?_⟩
  constructor
  · intro hn
    have hfn := h.2.1 n hn
    have := ((h.2.2 n hfn).1 hn).1
    rw [has_hasN hf hD n hfn, hasN_iff] at this
    exact this
  · intro hn
    have hfn := hf n hn
    exact (h.2.2 n hfn).2 ⟨by rw [has_hasN hf hD n hfn, hasN_iff]; exact hn, hl _⟩
end Go.Proofs.YtlbibgofhhdgoaaGreat
