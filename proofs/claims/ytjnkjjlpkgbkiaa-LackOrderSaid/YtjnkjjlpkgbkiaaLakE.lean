/- THE TEXTS OF ItnM ItnA LakB LakD LakE: Nodes' numbers: which names may be, a node's place, nodes told one by one: plain facts. Maps from nodes to numbers: each node's last place; all nodes may be; the map of some nodes. Maps from nodes to places; needs of the root, of a node, not wanted: what closures ask; the first need that is asked for. A copy of needs; needs without those that are not wanted, in place. Where needs come from: a set, and whether the root; may needs be. -/
import Derived.Test.YtjnkjjlpkgbkiaaNodM
import Derived.Test.YtjnkjjlpkgbkiaaRolA
import Derived.Maps.OwnOps
import Derived.Test.YtjnkjjlpkgbkiaaLakA
import Derived.Shelf.Abstract
import Derived.Laws.MakeOwn
import Derived.Laws.CopyRow
import Derived.Laws.CopyOwn
import Derived.Test.YtjnkjjlpkgbkiaaNodK
namespace Go.Proofs.Ytjnkjjlpkgbkiaa
set_option maxRecDepth 100000

/-- Names that may be: all nodes may be, and none is there twice. -/
def okM (l : List Nd) : Bool := l.all okN && decide l.Nodup
theorem okM_iff {l : List Nd} : okM l = true ↔ (∀ n ∈ l, okN n = true) ∧ l.Nodup := by
  unfold okM; rw [Bool.and_eq_true, List.all_eq_true, decide_eq_true_iff]
/-- How many different ones. -/
def dcR : List Nd → Nat
  | [] => 0
  | x :: l => if hasN l x then dcR l else dcR l + 1
def dcN (l : List Nd) : Nat := dcR l.reverse
theorem hasN_reverse (l : List Nd) (n : Nd) : hasN l.reverse n = hasN l n := by
  rw [Bool.eq_iff_iff, hasN_iff, hasN_iff, List.mem_reverse]
theorem dcN_snoc (l : List Nd) (n : Nd) : dcN (l ++ [n]) = if hasN l n then dcN l else dcN l + 1 := by
  unfold dcN
  rw [List.reverse_append, List.reverse_singleton, List.singleton_append, dcR, hasN_reverse]
theorem dcR_le : ∀ l : List Nd, dcR l ≤ l.length
  | [] => Nat.le_refl _
  | x :: l => by
    have := dcR_le l
    rw [dcR, List.length_cons]; split <;> omega
theorem dcR_eq : ∀ l : List Nd, dcR l = l.length ↔ l.Nodup
  | [] => by simp [dcR]
  | x :: l => by
    have h1 := dcR_le l
    have h2 := dcR_eq l
    rw [dcR, List.length_cons, List.nodup_cons]
    by_cases h : hasN l x = true
    · rw [if_pos h]
      have := hasN_iff.1 h
      constructor
      · intro e; omega
      · intro e; exact absurd this e.1
    · rw [if_neg h]
      have hx : x ∉ l := fun k => h (hasN_iff.2 k)
      constructor
      · intro e; exact ⟨hx, h2.1 (by omega)⟩
      · intro e; rw [h2.2 e.2]
theorem dcN_le (l : List Nd) : dcN l ≤ l.length := by
  have := dcR_le l.reverse
  rw [List.length_reverse] at this; exact this
theorem nodup_rev (l : List Nd) : l.reverse.Nodup ↔ l.Nodup := by
  unfold List.Nodup
  rw [List.pairwise_reverse]
  exact ⟨fun h => h.imp fun k => k.symm, fun h => h.imp fun k => k.symm⟩
theorem dcN_eq (l : List Nd) : dcN l = l.length ↔ l.Nodup := by
  have := dcR_eq l.reverse
  rw [List.length_reverse, nodup_rev] at this; exact this
theorem dcN_lt (l : List Nd) : decide (dcN l < l.length) = !decide l.Nodup := by
  have h1 := dcN_le l
  have h2 := dcN_eq l
  by_cases h : l.Nodup
  · rw [decide_eq_true h, decide_eq_false (by have := h2.2 h; omega)]; rfl
  · rw [decide_eq_false h, decide_eq_true (by have : dcN l ≠ l.length := fun e => h (h2.1 e); omega)]; rfl

/-- A node's place: the first one; behind all, if it is not there. -/
def ixN : List Nd → Nd → Nat
  | [], _ => 0
  | x :: l, n => if x = n then 0 else ixN l n + 1
/-- A node's last place. -/
def laR : List Nd → Nd → Nat
  | [], _ => 0
  | x :: l, n => if x = n then l.length else laR l n
def laN (l : List Nd) (n : Nd) : Nat := laR l.reverse n
theorem laN_same (l : List Nd) (n : Nd) : laN (l ++ [n]) n = l.length := by
  unfold laN
  rw [List.reverse_append, List.reverse_singleton, List.singleton_append, laR, if_pos rfl, List.length_reverse]
theorem laN_other (l : List Nd) {m n : Nd} (h : m ≠ n) : laN (l ++ [m]) n = laN l n := by
  unfold laN
  rw [List.reverse_append, List.reverse_singleton, List.singleton_append, laR, if_neg h]
theorem laR_at : ∀ (l : List Nd) (n : Nd), n ∈ l → laR l n < l.length ∧ l.reverse[laR l n]? = some n
  | [], n, h => by cases h
  | x :: l, n, h => by
    rw [laR, List.reverse_cons, List.length_cons]
    by_cases e : x = n
    · rw [if_pos e]
      refine ⟨by omega, ?_⟩
      rw [List.getElem?_append_right (by simp), List.length_reverse, Nat.sub_self]
      simp [e]
    · rw [if_neg e]
      have hm : n ∈ l := by
        rcases List.mem_cons.1 h with k | k
        · exact absurd k.symm e
        · exact k
      obtain ⟨h1, h2⟩ := laR_at l n hm
      refine ⟨by omega, ?_⟩
      rw [List.getElem?_append_left (by rw [List.length_reverse]; exact h1)]
      exact h2
theorem laN_at {l : List Nd} {n : Nd} (h : n ∈ l) : laN l n < l.length ∧ l[laN l n]? = some n := by
  have := laR_at l.reverse n (List.mem_reverse.2 h)
  rw [List.length_reverse, List.reverse_reverse] at this
  exact this
theorem ixN_at : ∀ {l : List Nd} {n : Nd}, n ∈ l → ixN l n < l.length ∧ l[ixN l n]? = some n
  | [], n, h => by cases h
  | x :: l, n, h => by
    rw [ixN, List.length_cons]
    by_cases e : x = n
    · rw [if_pos e]; exact ⟨by omega, by simp [e]⟩
    · rw [if_neg e]
      have hm : n ∈ l := by
        rcases List.mem_cons.1 h with k | k
        · exact absurd k.symm e
        · exact k
      obtain ⟨h1, h2⟩ := ixN_at hm
      exact ⟨by omega, by simpa using h2⟩
theorem ixN_none : ∀ {l : List Nd} {n : Nd}, n ∉ l → ixN l n = l.length
  | [], _, _ => rfl
  | x :: l, n, h => by
    have h1 : ¬ x = n := fun e => h (by rw [e]; exact List.mem_cons_self)
    rw [ixN, if_neg h1, ixN_none (fun k => h (List.mem_cons_of_mem _ k)), List.length_cons]
theorem ixN_le (l : List Nd) (n : Nd) : ixN l n ≤ l.length := by
  by_cases h : n ∈ l
  · exact Nat.le_of_lt (ixN_at h).1
  · rw [ixN_none h]; exact Nat.le_refl _
theorem ixN_lt {l : List Nd} {n : Nd} : ixN l n < l.length ↔ n ∈ l := by
  constructor
  · intro h
    by_cases k : n ∈ l
    · exact k
    · rw [ixN_none k] at h; omega
  · intro h; exact (ixN_at h).1
theorem ixN_append : ∀ {l : List Nd} (t : List Nd) {n : Nd}, n ∈ l → ixN (l ++ t) n = ixN l n
  | [], _, _, h => by cases h
  | x :: l, t, n, h => by
    rw [List.cons_append, ixN, ixN]
    by_cases e : x = n
    · rw [if_pos e, if_pos e]
    · rw [if_neg e, if_neg e]
      have hm : n ∈ l := by
        rcases List.mem_cons.1 h with k | k
        · exact absurd k.symm e
        · exact k
      rw [ixN_append t hm]
theorem nodup_at {l : List Nd} (h : l.Nodup) {i j : Nat} {n : Nd} (hi : l[i]? = some n) (hj : l[j]? = some n) : i = j := by
  obtain ⟨hi1, hi2⟩ := List.getElem?_eq_some_iff.1 hi
  obtain ⟨hj1, hj2⟩ := List.getElem?_eq_some_iff.1 hj
  rcases Nat.lt_trichotomy i j with k | k | k
  · exact absurd (hi2.trans hj2.symm) (List.pairwise_iff_getElem.1 h i j hi1 hj1 k)
  · exact k
  · exact absurd (hj2.trans hi2.symm) (List.pairwise_iff_getElem.1 h j i hj1 hi1 k)
theorem laN_ix {l : List Nd} (h : l.Nodup) {n : Nd} (hn : n ∈ l) : laN l n = ixN l n := nodup_at h (laN_at hn).2 (ixN_at hn).2
theorem ixN_getD {l : List Nd} (h : l.Nodup) {i : Nat} (hi : i < l.length) : ixN l (l.getD i ([], [])) = i := by
  have hm := nd_mem hi
  refine nodup_at h (ixN_at hm).2 ?_
  rw [nd_getD hi, List.getElem?_eq_getElem hi]
theorem getD_ixN {l : List Nd} {n : Nd} (h : n ∈ l) : l.getD (ixN l n) ([], []) = n := by
  obtain ⟨h1, h2⟩ := ixN_at h
  rw [List.getD_eq_getElem?_getD, h2]; rfl
theorem ixN_drop : ∀ {l : List Nd} {k : Nat} {n : Nd}, (∀ j, j < k → l.getD j ([], []) ≠ n) → k < l.length → l.getD k ([], []) = n → ixN l n = k
  | [], k, n, _, h, _ => absurd h (Nat.not_lt_zero k)
  | x :: l, 0, n, _, _, h => by
    have : x = n := h
    rw [ixN, if_pos this]
  | x :: l, k + 1, n, h0, h1, h2 => by
    have hx : x ≠ n := h0 0 (Nat.succ_pos k)
    rw [ixN, if_neg hx, ixN_drop (l := l) (k := k) (fun j hj => h0 (j + 1) (by omega)) (by simpa using h1) h2]

/-- Names with a node: as they are, if it is there; else it is the last one. -/
def addM (l : List Nd) (n : Nd) : List Nd := if hasN l n then l else l ++ [n]
def namesM (l t : List Nd) : List Nd := t.foldl addM l
def idsM : List Nd → List Nd → List Nat
  | _, [] => []
  | l, n :: t => ixN l n :: idsM (addM l n) t
theorem addM_yes {l : List Nd} {n : Nd} (h : hasN l n = true) : addM l n = l := if_pos h
theorem addM_no {l : List Nd} {n : Nd} (h : hasN l n = false) : addM l n = l ++ [n] := by unfold addM; rw [h]; rfl
theorem namesM_snoc (l t : List Nd) (n : Nd) : namesM l (t ++ [n]) = addM (namesM l t) n := by
  unfold namesM; rw [List.foldl_append]; rfl
theorem idsM_snoc : ∀ (l t : List Nd) (n : Nd), idsM l (t ++ [n]) = idsM l t ++ [ixN (namesM l t) n]
  | _, [], _ => rfl
  | l, x :: t, n => by
    rw [List.cons_append, idsM, idsM, idsM_snoc (addM l x) t n, List.cons_append]; rfl
theorem idsM_len : ∀ (l t : List Nd), (idsM l t).length = t.length
  | _, [] => rfl
  | l, x :: t => by rw [idsM, List.length_cons, List.length_cons, idsM_len]
theorem addM_mem (l : List Nd) (n x : Nd) : x ∈ addM l n ↔ x ∈ l ∨ x = n := by
  cases h : hasN l n
  · rw [addM_no h]; simp
  · rw [addM_yes h]
    have := hasN_iff.1 h
    exact ⟨.inl, fun k => k.elim id fun e => e ▸ this⟩
theorem namesM_mem : ∀ (t l : List Nd) (x : Nd), x ∈ namesM l t ↔ x ∈ l ∨ x ∈ t
  | [], l, x => by simp [namesM]
  | n :: t, l, x => by
    have := namesM_mem t (addM l n) x
    have e : namesM l (n :: t) = namesM (addM l n) t := rfl
    rw [e, this, addM_mem, List.mem_cons, or_assoc]
theorem addM_len (l : List Nd) (n : Nd) : l.length ≤ (addM l n).length ∧ (addM l n).length ≤ l.length + 1 := by
  unfold addM; split <;> simp
theorem namesM_len : ∀ (t l : List Nd), l.length ≤ (namesM l t).length ∧ (namesM l t).length ≤ l.length + t.length
  | [], l => ⟨Nat.le_refl _, Nat.le_refl _⟩
  | n :: t, l => by
    have h1 := namesM_len t (addM l n)
    have h2 := addM_len l n
    have e : namesM l (n :: t) = namesM (addM l n) t := rfl
    rw [e, List.length_cons]; omega
theorem addM_ok {l : List Nd} {n : Nd} (h : okM l = true) (hn : okN n = true) : okM (addM l n) = true := by
  cases k : hasN l n
  · rw [addM_no k]
    obtain ⟨h1, h2⟩ := okM_iff.1 h
    refine okM_iff.2 ⟨fun x hx => ?_, ?_⟩
    · rcases List.mem_append.1 hx with hx | hx
      · exact h1 x hx
      · have : x = n := by simpa using hx
        rw [this]; exact hn
    · refine List.nodup_append.2 ⟨h2, by simp, fun a ha b hb => ?_⟩
      have : b = n := by simpa using hb
      intro e
      exact hasN_not.1 k (this ▸ e ▸ ha)
  · rw [addM_yes k]; exact h
theorem namesM_ok : ∀ (t : List Nd) {l : List Nd}, okM l = true → (∀ n ∈ t, okN n = true) → okM (namesM l t) = true
  | [], _, h, _ => h
  | n :: t, _, h, k => namesM_ok t (addM_ok h (k n List.mem_cons_self)) fun x hx => k x (List.mem_cons_of_mem _ hx)
theorem addM_pre (l : List Nd) (n : Nd) : ∃ t, addM l n = l ++ t := by
  cases k : hasN l n
  · exact ⟨[n], addM_no k⟩
  · exact ⟨[], by rw [addM_yes k, List.append_nil]⟩
theorem namesM_pre : ∀ (t l : List Nd), ∃ r, namesM l t = l ++ r
  | [], l => ⟨[], (List.append_nil l).symm⟩
  | n :: t, l => by
    obtain ⟨r, hr⟩ := namesM_pre t (addM l n)
    obtain ⟨s, hs⟩ := addM_pre l n
    exact ⟨s ++ r, by rw [← List.append_assoc, ← hs, ← hr]; rfl⟩
theorem ixN_names {l t : List Nd} {n : Nd} (h : n ∈ l) : ixN (namesM l t) n = ixN l n := by
  obtain ⟨r, hr⟩ := namesM_pre t l
  rw [hr, ixN_append r h]
theorem ixN_add (l : List Nd) (n : Nd) : ixN (addM l n) n = ixN l n := by
  cases k : hasN l n
  · rw [addM_no k]
    have h1 : n ∈ l ++ [n] := by simp
    have hn := hasN_not.1 k
    rw [ixN_none hn]
    refine ixN_drop (fun j hj e => ?_) (by simp) ?_
    · have : (l ++ [n]).getD j ([], []) = l.getD j ([], []) := by
        rw [List.getD_eq_getElem?_getD, List.getElem?_append_left hj, ← List.getD_eq_getElem?_getD]
      rw [this] at e
      exact hn (e ▸ nd_mem hj)
    · rw [List.getD_eq_getElem?_getD, List.getElem?_append_right (Nat.le_refl _), Nat.sub_self]; rfl
  · rw [addM_yes k]
theorem idsM_map : ∀ (t l : List Nd), idsM l t = t.map (ixN (namesM l t))
  | [], _ => rfl
  | n :: t, l => by
    have e : namesM l (n :: t) = namesM (addM l n) t := rfl
    rw [idsM, List.map_cons, e, ixN_names ((addM_mem l n n).2 (.inr rfl)), ixN_add, idsM_map t (addM l n)]
/-- What is there already is told again: nothing turns. -/
theorem namesM_all : ∀ {t l : List Nd}, (∀ n ∈ t, n ∈ l) → namesM l t = l
  | [], _, _ => rfl
  | n :: t, l, h => by
    have e : namesM l (n :: t) = namesM (addM l n) t := rfl
    rw [e, addM_yes (hasN_iff.2 (h n List.mem_cons_self))]
    exact namesM_all fun x hx => h x (List.mem_cons_of_mem _ hx)
/-- Nodes that are all different, and not there, come behind. -/
theorem namesM_new : ∀ {t l : List Nd}, (l ++ t).Nodup → namesM l t = l ++ t ∧ idsM l t = List.range' l.length t.length
  | [], l, _ => ⟨(List.append_nil l).symm, rfl⟩
  | n :: t, l, h => by
    have hn : n ∉ l := fun k => (List.nodup_append.1 h).2.2 n k n List.mem_cons_self rfl
    have e : namesM l (n :: t) = namesM (addM l n) t := rfl
    have h2 : ((l ++ [n]) ++ t).Nodup := by rw [List.append_assoc]; exact h
    obtain ⟨h3, h4⟩ := namesM_new h2
    have ha := addM_no (hasN_not.2 hn)
    rw [e, idsM, ha, h3, h4, ixN_none hn]
    exact ⟨by simp, by simp [List.range'_succ]⟩
end Go.Proofs.Ytjnkjjlpkgbkiaa

namespace Go.Proofs.Ytjnkjjlpkgbkiaa
open Go.RowKit Go.Maps
set_option maxRecDepth 100000

/-! ### A map that the call makes: each node of a list with its last place -/
structure IMap (w : World) (b nn : Nat) (K : List Nd) : Prop where
  fits : ∀ n ∈ K, fitsN n
  ex : ∃ D : DataW Unit, w.ownsMap Try.prog 31 (plainElem Try.prog 3) b nn D ∧ Maps.size D = dcN K ∧ ∀ n, fitsN n → has D (litN n) = hasN K n ∧ (hasN K n = true → D.atKey (litN n) (.lit (.int .i64 0)) = .lit (.int .i64 (laN K n)))
theorem IMap.made (w : World) : IMap (w.alloc (.map #[] 0)) w.heap.size 0 [] :=
  ⟨(fun n hn => by cases hn), _, World.ownsMap_made w _ _ _, rfl, fun n _ => ⟨by simp [has, hasN], fun h => by simp [hasN] at h⟩⟩
theorem IMap.kept {w w' : World} {b nn : Nat} {K : List Nd} {row : Option Nat} (h : IMap w b nn K) (hg : w.grownBy w' row) (hne : some b ≠ row) : IMap w' b nn K := by
  obtain ⟨hf, D, ho, hD⟩ := h
  exact ⟨hf, D, ho.kept hg hne, hD⟩
theorem IMap.alloc {w : World} {b nn : Nat} {K : List Nd} (h : IMap w b nn K) (o : Obj) : IMap (w.alloc o) b nn K := h.kept (World.grownBy_alloc w o none) (by simp)
theorem IMap.lt {w : World} {b nn : Nat} {K : List Nd} (h : IMap w b nn K) : b < w.heap.size := by obtain ⟨_, D, ho, _⟩ := h; exact ho.lt
theorem IMap.near {w w' : World} {b nn : Nat} {K : List Nd} (h : IMap w b nn K) (hb : w'.heap[b]? = w.heap[b]?) : IMap w' b nn K := by
  obtain ⟨hf, D, ⟨es, clock, he, rest⟩, hD⟩ := h
  exact ⟨hf, D, ⟨es, clock, hb.trans he, rest⟩, hD⟩
theorem IMap.below {w w' : World} {b nn : Nat} {K : List Nd} (h : IMap w b nn K) (hb : Below w.heap.size w w') : IMap w' b nn K := h.near (hb.block b h.lt)
theorem imap_step {D : DataW Unit} {K : List Nd} {n : Nd} (hi : Tidy D) (hn : fitsN n) (hs : Maps.size D = dcN K)
    (hD : ∀ n, fitsN n → has D (litN n) = hasN K n ∧ (hasN K n = true → D.atKey (litN n) (.lit (.int .i64 0)) = .lit (.int .i64 (laN K n)))) :
    Maps.size (D.put (litN n) (.lit (.int .i64 K.length))) = dcN (K ++ [n]) ∧ ∀ m, fitsN m → has (D.put (litN n) (.lit (.int .i64 K.length))) (litN m) = hasN (K ++ [n]) m ∧
      (hasN (K ++ [n]) m = true → (D.put (litN n) (.lit (.int .i64 K.length))).atKey (litN m) (.lit (.int .i64 0)) = .lit (.int .i64 (laN (K ++ [n]) m))) := by
  have hk : WideAt.IsKeyLit (litN n) := node_keyed.key (key_n n hn.1 hn.2)
  refine ⟨?_, fun m hm => ?_⟩
  · rw [size_put hi, (hD n hn).1, hs, dcN_snoc]
  · by_cases e : m = n
    · subst e
      have h1 : hasN (K ++ [m]) m = true := hasN_iff.2 (by simp)
      rw [has_put_same hi.isMap hk, h1, atKey_put_same hi.isMap hk, laN_same]
      exact ⟨rfl, fun _ => rfl⟩
    · have hne : litN m ≠ litN n := fun h => e (litN_inj hm hn h)
      have h1 : hasN (K ++ [n]) m = hasN K m := by
        rw [Bool.eq_iff_iff, hasN_iff, hasN_iff]; simp [e]
      rw [has_put_other hne, h1, atKey_put_other hne, laN_other K (fun h => e h.symm)]
      exact hD m hm

theorem make_imap (n : Int) (w : World) : (Instr.makeMap 46 (some (.int .i64 n))).run Try.prog w = .ok (.map (some w.heap.size)) (w.alloc (.map #[] 0)) := by
  simp [Instr.makeMap, run_underlying Try.underlying46, asInt, asIntOf, Result.andThen]

theorem all_drop {ns : List Nd} {k : Nat} (h : k < ns.length) : (ns.drop k).all okN = (okN (ns.getD k ([], [])) && (ns.drop (k + 1)).all okN) := by
  rw [List.drop_eq_getElem_cons h, List.all_cons, nd_getD h]

end Go.Proofs.Ytjnkjjlpkgbkiaa

namespace Go.Proofs.Ytjnkjjlpkgbkiaa
open Go.RowKit Go.Maps Go.ChangeShapes Go.WideShapes
set_option linter.unusedVariables false
set_option maxRecDepth 100000

/-! ### Places -/
theorem lookok_imap {w : World} {b n : Nat} {L : List Nd} {p v : List UInt8} (h : IMap w b n L) (hf : fitsN (p, v)) {O : Bool} (ho : hasN L (p, v) = O) :
    ∃ I : Int, Sem.run Try.prog (Instr.lookup 46 (.map (some b)) (.agg #[.string (mkB p), .string (mkB v)]) true) w = .ok (.tuple #[.int .i64 I, .bool O]) w := by
  obtain ⟨_, D, hown, _, hD⟩ := h
  obtain ⟨h1, h2⟩ := hD _ hf
  obtain ⟨u, ps, hr, hv⟩ := hown.look_ok node_keyed Try.underlying46 (Try.zeroValue3 w) (plainElem_int Try.underlying3 (by decide)) (key_n (p, v) hf.1 hf.2)
  obtain ⟨c, rfl, hc, _⟩ := plainElem_int_inv Try.underlying3 hv
  rw [h1, ho] at hr
  exact ⟨c, hr⟩
theorem lookat_imap {w : World} {b n : Nat} {L : List Nd} {p v : List UInt8} (h : IMap w b n L) (hf : fitsN (p, v)) (hm : hasN L (p, v) = true) {k : Nat} (hk : laN L (p, v) = k) :
    Sem.run Try.prog (Instr.lookup 46 (.map (some b)) (.agg #[.string (mkB p), .string (mkB v)]) false) w = .ok (.int .i64 (k : Int)) w := by
  obtain ⟨_, D, hown, _, hD⟩ := h
  obtain ⟨h1, h2⟩ := hD _ hf
  obtain ⟨c, hr, hat, _⟩ := hown.lookup_int node_keyed Try.underlying46 Try.underlying3 (Try.zeroValue3 w) (key_n (p, v) hf.1 hf.2)
  rw [h2 hm, hk] at hat
  have : (k : Int) = c := by simpa using hat
  subst this
  exact hr

set_option maxHeartbeats 1600000 in
theorem lplaces_any (V : Value) (ns : List Nd) (w : World) (h : Nds w V ns) (hf : ∀ n ∈ ns, fitsN n) :
    Calls Try.prog 15 #[V] w fun e w' => ∃ b, e = .returned (.map (some b)) ∧ IMap w' b ns.length ns ∧ w.heap.size ≤ b ∧ Below w.heap.size w w' := by
  obtain ⟨a, c, rfl, h1, h2, -, -⟩ := h.ex
  unfold maxLen at h2
  have hmm := make_imap
  obtain ⟨n, hn⟩ : ∃ n, ns.length = n := ⟨_, rfl⟩
  rw [hn] at h1 h ⊢
  have HN := Lib.hid hn; have ST := Lib.hid h; have HF := Lib.hid hf
  clear h hn hf
  go_enter Try.func15, Try.ntmps15
  go_wp2
  obtain ⟨W, hW⟩ : ∃ W, w.alloc (.map #[] 0) = W := ⟨_, rfl⟩
  have M0 := Lib.hid (IMap.made w)
  have B0 := Lib.hid ((Below.refl w.heap.size w).alloc (Nat.le_refl _) (.map #[] 0))
  rw [hW] at M0 B0 ⊢
  obtain ⟨g, hg⟩ : ∃ g, w.heap.size = g := ⟨_, rfl⟩
  have HG := Lib.hid hg
  rw [hg] at M0 B0 ⊢
  clear hW hg
  go_loopw [11] (fun i wr => ∃ k : Nat, k ≤ n ∧ i = .int .i64 k ∧ Hid (IMap wr g k (ns.take k)) ∧ Hid (Below g w wr)) (fun i _ => n - (intOf i).toNat)
  case atStart => exact ⟨0, Nat.zero_le _, rfl, Lib.hid (by simpa using M0.out), B0⟩
  case round =>
    obtain ⟨k, hk, rfl, HM, HB⟩ := hrel
    by_cases hlt : k < n
    · have hkl : k < ns.length := by rw [HN.out]; exact hlt
      obtain ⟨b, off, rfl, -, hc0, hc1⟩ := (ST.out.below (by rw [HG.out]; exact HB.out)).at k hkl
      have htk : ns.take (k + 1) = ns.take k ++ [ns.getD k ([], [])] := by rw [List.take_succ_eq_append_getElem hkl, nd_getD hkl]
      have hlen : (ns.take k).length = k := by rw [List.length_take]; omega
      have hyf := HF.out _ (nd_mem hkl)
      obtain ⟨y, hy⟩ : ∃ y, y = ns.getD k ([], []) := ⟨_, rfl⟩
      rw [← hy] at hc0 hc1 htk hyf
      obtain ⟨y1, y2⟩ := y
      simp only at hc0 hc1
      have HTK := Lib.hid htk; have HYF := Lib.hid hyf; have HLEN := Lib.hid hlen
      clear hy htk hyf hlen
      obtain ⟨hfk, D, hown, hsz, hD⟩ := HM.out
      have HFK := Lib.hid hfk; have HSZ := Lib.hid hsz; have HD := Lib.hid hD; clear hfk hsz hD
      have hkb : (k : Int) < (n : Int) := by omega
      go_wp2_with (at_mapUpdate; refine wpList_mapUpdate_own _ rfl _ _ _ 46 rfl 31 3 node_keyed Try.underlying46 (plainElem Try.prog 3) g k D rfl (hown.alloc _) (by unfold maxLen; omega) _ _ (litN (y1, y2)) rfl rfl (key_n (y1, y2) HYF.out.1 HYF.out.2) (.lit (.int .i64 k)) [] (plainElem_int Try.underlying3 (WalkArith.wf_i64 (by omega))) ?_; intro w1 hown1 hgrow1)
      have hst := imap_step (hown.tidy node_keyed) HYF.out HSZ.out HD.out
      rw [HLEN.out] at hst
      have hM : IMap w1 g (k + 1) (ns.take (k + 1)) := by
        rw [HTK.out]
        exact ⟨fits_step HFK.out HYF.out, _, hown1, hst.1, hst.2⟩
      have hB : Below g w w1 := by
        have hgs : g ≤ w.heap.size := by rw [HG.out]; exact Nat.le_refl _
        have h0 : g ≤ wr.heap.size := Nat.le_trans hgs HB.out.size
        exact (HB.out.alloc h0 _).grown hgrow1 (by simp; omega) (fun j e => by cases e; exact Nat.le_refl _)
      have HMN := Lib.hid hM; have HBN := Lib.hid hB
      clear hM hB hown1 hgrow1 hown hst
      go_roundw
      case rel => exact ⟨k + 1, by omega, by go_num, HMN, HBN⟩
      case measure => simp [intOf]; omega
    · go_wp2
      go_ret
      have e : k = n := by omega
      subst e
      have hM := HM.out
      rw [List.take_of_length_le (by rw [HN.out]; exact Nat.le_refl _)] at hM
      exact ⟨g, rfl, hM, by rw [HG.out]; exact Nat.le_refl _, by rw [HG.out]; exact HB.out⟩

/-! ### What is asked of a need -/
theorem eq_ndz (p v : List UInt8) (w : World) : Sem.run Try.prog (binOp .eql 31 (.agg #[.string (mkB p), .string (mkB v)]) (.agg #[.string { data := #[] }, .string { data := #[] }])) w = .ok (.bool (decide ((p, v) = (([], []) : Nd)))) w := eq_nd p v [] [] w
theorem neq_ndz (p v : List UInt8) (w : World) : Sem.run Try.prog (binOp .neq 31 (.agg #[.string (mkB p), .string (mkB v)]) (.agg #[.string { data := #[] }, .string { data := #[] }])) w = .ok (.bool (!decide ((p, v) = (([], []) : Nd)))) w := neq_nd p v [] [] w
set_option maxHeartbeats 400000 in
theorem lroot_any (p v q u : List UInt8) (w : World) :
    Calls Try.prog 18 #[.agg #[.string (mkB p), .string (mkB v), .string (mkB q), .string (mkB u)]] w fun e w' => e = .returned (.bool (rootK ((p, v), (q, u)))) ∧ Below w.heap.size w w' := by
  obtain ⟨W, g, hW, hg, c0, c1, c2, c3, hb⟩ := boxNe w (.string (mkB p)) (.string (mkB v)) (.string (mkB q)) (.string (mkB u)) 33
  have B := Lib.hid hb; have HW := Lib.hid hW; have HG := Lib.hid hg; clear hb hW hg
  have hgd := guard_nd; have heq := eq_ndz p v
  obtain ⟨R, hR⟩ : ∃ R, rootK ((p, v), (q, u)) = R := ⟨_, rfl⟩
  rw [hR]
  rw [show decide ((p, v) = (([], []) : Nd)) = R from hR] at heq
  clear hR
  go_enter Try.func18, Try.ntmps18
  go_upto_region 1 with fail
  rw [HW.out, HG.out]
  go_wp2
  go_ret
  exact ⟨rfl, B.out⟩
/-! ### A function value, asked of needs -/
def AsksK (F : Nat) (lb : Array Value) (p : Ne → Bool) (B : Nat) (w : World) (l : List Ne) : Prop :=
  ∀ w', Below B w w' → ∀ d ∈ l, Calls Try.prog F (#[neV d] ++ lb) w' fun e w'' => e = .returned (.bool (p d)) ∧ Below w'.heap.size w' w''
theorem AsksK.below {F : Nat} {lb : Array Value} {p : Ne → Bool} {B : Nat} {w w1 : World} {l : List Ne} (h : AsksK F lb p B w l) (hb : Below B w w1) : AsksK F lb p B w1 l := fun w' hw d hd => h w' (hb.trans hw) d hd
theorem AsksK.mono {F : Nat} {lb : Array Value} {p : Ne → Bool} {B B' : Nat} {w : World} {l : List Ne} (h : AsksK F lb p B w l) (hb : B ≤ B') : AsksK F lb p B' w l := fun w' hw d hd => h w' (hw.mono hb) d hd
theorem AsksK.sub {F : Nat} {lb : Array Value} {p : Ne → Bool} {B : Nat} {w : World} {l m : List Ne} (h : AsksK F lb p B w l) (hm : ∀ d ∈ m, d ∈ l) : AsksK F lb p B w m := fun w' hw d hd => h w' hw d (hm d hd)
theorem asks_root (B : Nat) (w : World) (l : List Ne) : AsksK 18 #[] rootK B w l := fun w' _ d _ => lroot_any d.1.1 d.1.2 d.2.1 d.2.2 w'

/-! ### The first need that is asked for -/
def fixK (p : Ne → Bool) : List Ne → Nat → Int
  | [], _ => -1
  | d :: l, n => if p d = true then (n : Int) else fixK p l (n + 1)
theorem fixK_drop {p : Ne → Bool} {l : List Ne} {k : Nat} (h : k < l.length) : fixK p (l.drop k) k = if p (l.getD k zNe) = true then (k : Int) else fixK p (l.drop (k + 1)) (k + 1) := by
  rw [List.drop_eq_getElem_cons h, fixK, ne_getD h]
theorem fixK_spec (p : Ne → Bool) : ∀ (l : List Ne) (n : Nat), (fixK p l n = -1 ∧ ∀ d ∈ l, p d = false) ∨ ∃ k, k < l.length ∧ fixK p l n = ((n + k : Nat) : Int) ∧ p (l.getD k zNe) = true ∧ ∀ d ∈ l.take k, p d = false
  | [], _ => .inl ⟨rfl, fun d hd => by cases hd⟩
  | x :: l, n => by
    cases h : p x
    · rw [fixK, if_neg (by rw [h]; exact Bool.false_ne_true)]
      rcases fixK_spec p l (n + 1) with ⟨e, ha⟩ | ⟨k, hk, e, ht, ha⟩
      · exact .inl ⟨e, fun d hd => by rcases List.mem_cons.1 hd with rfl | hd; exact h; exact ha d hd⟩
      · refine .inr ⟨k + 1, by simpa using hk, by rw [e]; congr 1; omega, by simpa using ht, fun d hd => ?_⟩
        rw [List.take_succ_cons] at hd
        rcases List.mem_cons.1 hd with rfl | hd
        · exact h
        · exact ha d hd
    · exact .inr ⟨0, by simp, by rw [fixK, if_pos h]; rfl, h, fun d hd => by cases hd⟩
theorem fixK_any (p : Ne → Bool) (l : List Ne) : decide (0 ≤ fixK p l 0) = l.any p := by
  rcases fixK_spec p l 0 with ⟨e, ha⟩ | ⟨k, hk, e, ht, ha⟩
  · rw [e, show l.any p = false from List.any_eq_false.2 fun d hd => by rw [ha d hd]; exact Bool.false_ne_true]; rfl
  · rw [e, show l.any p = true from List.any_eq_true.2 ⟨_, ne_mem hk, ht⟩]
    exact decide_eq_true (by omega)

set_option maxHeartbeats 800000 in
theorem lindex_any (F : Nat) (lb : Array Value) (eg : ∀ args w, (callFunc F args).run Try.prog w = .ok (.enter F args) w) (p : Ne → Bool) (V : Value) (l : List Ne) (w : World) (B : Nat) (hB : B ≤ w.heap.size) (h : Nes w V l) (hp : AsksK F lb p B w l) :
    Calls Try.prog 31 #[V, .func (.func F) #[] lb] w fun e w' => e = .returned (.int .i64 (fixK p l 0)) ∧ Below w.heap.size w w' := by
  obtain ⟨a, c, rfl, h1, h2, -, -⟩ := h.ex
  unfold maxLen at h2
  obtain ⟨n, hn⟩ : ∃ n, l.length = n := ⟨_, rfl⟩
  obtain ⟨R, hR⟩ : ∃ R, fixK p l 0 = R := ⟨_, rfl⟩
  rw [hR]
  rw [hn] at h1 h ⊢
  have ST := Lib.hid h; have HN := Lib.hid hn; have HR := Lib.hid hR; have HP := Lib.hid hp; have HBB := Lib.hid hB
  clear h hn hR hp hB
  go_enter Try.func31, Try.ntmps31
  go_wp2
  go_loopw [8] (fun i wr => ∃ k : Nat, k ≤ n ∧ i = .int .i64 k ∧ Hid (fixK p (l.drop k) k = R) ∧ Hid (Below w.heap.size w wr)) (fun i _ => n - (intOf i).toNat)
  case atStart => exact ⟨0, Nat.zero_le _, rfl, Lib.hid (by simpa using HR.out), Lib.hid (Below.refl _ _)⟩
  case round =>
    obtain ⟨k, hk, rfl, H, HB⟩ := hrel
    by_cases hlt : k < n
    · have hkl : k < l.length := by rw [HN.out]; exact hlt
      obtain ⟨b, off, rfl, -, hc0, hc1, hc2, hc3⟩ := (ST.out.below HB.out).at k hkl
      have hd := fixK_drop (p := p) hkl
      have hcall := HP.out wr (HB.out.mono HBB.out) _ (ne_mem hkl)
      obtain ⟨y, hy⟩ : ∃ y, y = l.getD k zNe := ⟨_, rfl⟩
      rw [← hy] at hc0 hc1 hc2 hc3 hd hcall
      obtain ⟨⟨y1, y2⟩, y3, y4⟩ := y
      simp only [neV] at hc0 hc1 hc2 hc3 hcall
      obtain ⟨I, hI⟩ : ∃ I, p ((y1, y2), y3, y4) = I := ⟨_, rfl⟩
      rw [hI] at hd hcall
      have HD := Lib.hid hd
      clear hy hI hd
      have hkb : (k : Int) < (n : Int) := by omega
      cases I
      · go_wp2_with (go_at_fn F; refine hcall.mono ?_; rintro e w1 ⟨rfl, hb1⟩; have B1 := Lib.hid (below_step HB.out hb1); clear hb1 hcall)
        have H5 : Hid (fixK p (l.drop (k + 1)) (k + 1) = R) := Lib.hid (by rw [← H.out, HD.out]; rfl)
        go_roundw
        case rel => exact ⟨k + 1, by omega, by go_num, H5, B1⟩
        case measure => simp [intOf]; omega
      · go_wp2_with (go_at_fn F; refine hcall.mono ?_; rintro e w1 ⟨rfl, hb1⟩; have B1 := Lib.hid (below_step HB.out hb1); clear hb1 hcall)
        go_ret
        refine ⟨?_, B1.out⟩
        rw [← H.out, HD.out]; rfl
    · go_wp2
      go_ret
      refine ⟨?_, HB.out⟩
      rw [← H.out, List.drop_eq_nil_of_le (by rw [HN.out]; omega)]; rfl
set_option maxHeartbeats 400000 in
theorem lcont_any (F : Nat) (lb : Array Value) (eg : ∀ args w, (callFunc F args).run Try.prog w = .ok (.enter F args) w) (p : Ne → Bool) (V : Value) (l : List Ne) (w : World) (B : Nat) (hB : B ≤ w.heap.size) (h : Nes w V l) (hp : AsksK F lb p B w l) :
    Calls Try.prog 26 #[V, .func (.func F) #[] lb] w fun e w' => e = .returned (.bool (l.any p)) ∧ Below w.heap.size w w' := by
  have K := Lib.hid (lindex_any F lb eg p V l w B hB h hp)
  have HI := Lib.hid (fixK_any p l)
  obtain ⟨a, c, rfl, -⟩ := h.ex
  obtain ⟨R, hR⟩ : ∃ R, l.any p = R := ⟨_, rfl⟩
  obtain ⟨I, hI⟩ : ∃ I, fixK p l 0 = I := ⟨_, rfl⟩
  obtain ⟨n, hn⟩ : ∃ n, l.length = n := ⟨_, rfl⟩
  rw [hI, hn] at K
  rw [hR, hI] at HI
  rw [hR, hn]
  clear hR hn h hI hp hB
  go_enter Try.func26, Try.ntmps26
  go_wp2_with (go_at_call 31; refine K.out.mono ?_; rintro e w1 ⟨rfl, hb1⟩; have B := Lib.hid hb1; clear hb1)
  go_ret
  exact ⟨by rw [← HI.out]; rfl, B.out⟩
end Go.Proofs.Ytjnkjjlpkgbkiaa

namespace Go.Proofs.Ytjnkjjlpkgbkiaa
open Go.RowKit
set_option linter.unusedVariables false
set_option maxRecDepth 100000

set_option maxHeartbeats 800000 in
theorem lclone_any (U : Value) (l : List Ne) (w : World) (hU : Nes w U l) (hl : l.length ≤ 1000000) :
    Calls Try.prog 24 #[U] w fun e w' => ∃ v, e = .returned v ∧ w'.ownsRow w.heap.size 33 4 v l.length (neC l) ∧ Below w.heap.size w w' := by
  obtain ⟨a, c, rfl, h1, h2, h3, h4⟩ := hU.ex
  have q : ∀ (w : World) (a : Option Addr) (n c n' c' : Nat), (binOp .eql 23 (.slice a n c) (.slice none n' c')).run Try.prog w = .ok (.bool a.isNone) w := fun w a n c n' c' => Lib.run_eql_slice_nil w _ _ a n c n' c' Try.underlying23
  cases a with
  | none =>
    have hc : c = 0 := h3 rfl
    subst hc
    have : l = [] := List.eq_nil_of_length_eq_zero (by omega)
    subst this
    go_enter Try.func24, Try.ntmps24
    go_wp2
    go_ret
    exact ⟨_, rfl, World.ownsRow_nil _ _ _ _, Below.refl _ _⟩
  | some ad =>
    obtain ⟨n, hn⟩ : ∃ n, l.length = n := ⟨_, rfl⟩
    have hcl := neC_len l
    rw [hn] at hU hl hcl ⊢
    have SU := Lib.hid hU
    clear hU h1 h2 h3 h4 hn
    go_enter Try.func24, Try.ntmps24
    go_wp2_with (at_builtin; refine wpList_append_src rfl _ _ 23 rfl w.heap.size 33 zNeV 4 64 Try.underlying23 Try.info_ne rfl (by decide) _ 0 [] rfl (World.ownsRow_made w #[] 0 (Nat.le_refl _) (by unfold maxLen; omega) rfl) (some ad) n c (neC l) rfl hcl (fun h => by cases h) (fun ad' e => by cases e; exact (SU.out.below ((Below.refl _ _).alloc (Nat.le_refl _) _)).cells) (neC_one l) (by omega) (by unfold maxLen; omega) (by simp) ?_)
    intro v' w' hown hb
    have hown2 : w'.ownsRow w.heap.size 33 4 v' l.length (neC l) := by
      rw [show l.length = n by have := neC_len l; omega]; first | exact hown | simpa using hown
    have hnl : l.length = n := by have := neC_len l; omega
    rw [hnl] at hown2
    have HN := Lib.hid hown2; have HB := Lib.hid (((Below.refl w.heap.size w).alloc (Nat.le_refl _) _).trans hb.toBelow)
    clear hown hown2 hb hnl hcl
    go_wp2
    go_ret
    exact ⟨_, rfl, HN.out, HB.out⟩

/-! ### One of them written over; those behind cleared -/
theorem neC_take : ∀ (l : List Ne) (i : Nat), neC (l.take i) = (neC l).take (i * 4)
  | [], i => by simp [neC]
  | x :: l, 0 => by simp [neC]
  | x :: l, i + 1 => by
    have e : ∀ (x : Ne) (l : List Ne), neC (x :: l) = .string (mkB x.1.1) :: .string (mkB x.1.2) :: .string (mkB x.2.1) :: .string (mkB x.2.2) :: neC l := fun _ _ => rfl
    rw [List.take_succ_cons, e, e, neC_take l i, show (i + 1) * 4 = i * 4 + 1 + 1 + 1 + 1 by omega, List.take_succ_cons, List.take_succ_cons, List.take_succ_cons, List.take_succ_cons]
theorem neC_set : ∀ (l : List Ne) (i : Nat) (d : Ne), i < l.length → neC (l.set i d) = (neC l).take (i * 4) ++ neC1 d ++ (neC l).drop (i * 4 + 4)
  | [], i, _, h => absurd h (Nat.not_lt_zero i)
  | x :: l, 0, d, _ => rfl
  | x :: l, i + 1, d, h => by
    have e : ∀ (x : Ne) (l : List Ne), neC (x :: l) = .string (mkB x.1.1) :: .string (mkB x.1.2) :: .string (mkB x.2.1) :: .string (mkB x.2.2) :: neC l := fun _ _ => rfl
    rw [List.set_cons_succ, e, e, neC_set l i d (by simpa using h), show (i + 1) * 4 = i * 4 + 1 + 1 + 1 + 1 by omega, List.take_succ_cons, List.take_succ_cons, List.take_succ_cons, List.take_succ_cons, show i * 4 + 1 + 1 + 1 + 1 + 4 = (i * 4 + 4) + 1 + 1 + 1 + 1 by omega, List.drop_succ_cons, List.drop_succ_cons, List.drop_succ_cons, List.drop_succ_cons]
    rfl
theorem mid_take {α : Type} (C vs : List α) (A N : Nat) (h : A + vs.length ≤ N) (hC : N ≤ C.length) : (C.take A ++ vs ++ C.drop (A + vs.length)).take N = (C.take N).take A ++ vs ++ (C.take N).drop (A + vs.length) := by
  have h1 : (C.take A ++ vs).length = A + vs.length := by rw [List.length_append, List.length_take]; omega
  rw [List.take_append, h1, List.take_of_length_le (by rw [h1]; exact h), List.take_take, Nat.min_eq_left (by omega), List.drop_take]
section
variable {w : World} {B g n c : Nat} {L : List Ne}
theorem own_cur (h : w.ownsRow B 33 4 (.slice (some ⟨g, 0, none⟩) n c) n (neC L)) : ∃ cur, w.heap[g]? = some (.cells cur 33 (0, 0)) ∧ B ≤ g ∧ n ≤ c ∧ c ≤ maxLen ∧ cur.size = c * 4 ∧ cur.toList.take (n * 4) = neC L ∧ L.length = n := by
  obtain ⟨h1, h2⟩ := h
  rw [neC_len] at h1
  rcases h2 with ⟨hv, _⟩ | ⟨g', cap, cur, hv, hb, hh, h3, h4, h5, h6⟩
  · cases hv
  · injection hv with e1 e2 e3
    injection e1 with e1
    injection e1 with e1
    subst e1 e3
    exact ⟨cur, hh, hb, h3, h4, h5, h6, by omega⟩
theorem own_of {cur : Array Value} {n' : Nat} {L' : List Ne} (hh : w.heap[g]? = some (.cells cur 33 (0, 0))) (hb : B ≤ g) (h3 : n' ≤ c) (h4 : c ≤ maxLen) (h5 : cur.size = c * 4) (h6 : cur.toList.take (n' * 4) = neC L') (hl : L'.length = n') : w.ownsRow B 33 4 (.slice (some ⟨g, 0, none⟩) n' c) n' (neC L') :=
  ⟨by rw [neC_len, hl], .inr ⟨g, c, cur, rfl, hb, hh, h3, h4, h5, h6⟩⟩
theorem zero_oneNe (k : Nat) : (zNeV.cells[k % zNeV.cells.size]!).oneCell' = true := by
  have h : k % 4 < 4 := Nat.mod_lt _ (by decide)
  show ((#[.string ByteArray.empty, .string ByteArray.empty, .string ByteArray.empty, .string ByteArray.empty] : Array Value)[k % 4]!).oneCell' = true
  obtain ⟨m, hm⟩ : ∃ m, k % 4 = m := ⟨_, rfl⟩
  rw [hm] at h ⊢
  have h2 : m = 0 ∨ m = 1 ∨ m = 2 ∨ m = 3 := by omega
  rcases h2 with rfl | rfl | rfl | rfl <;> rfl
theorem put_ne (h : w.ownsRow B 33 4 (.slice (some ⟨g, 0, none⟩) n c) n (neC L)) {i : Nat} (hi : i < n) (d : Ne) :
    ∃ w', (Instr.storeAt 33 (.pointer (some ⟨g, i * 4, none⟩)) (neV d)).run Try.prog w = .ok () w' ∧ w'.ownsRow B 33 4 (.slice (some ⟨g, 0, none⟩) n c) n (neC (L.set i d)) ∧ Below B w w' := by
  obtain ⟨cur, hh, hb, h3, h4, h5, h6, hl⟩ := own_cur h
  obtain ⟨inf, hi1, hz, hsize, hby⟩ := info_parts Try.info_ne
  have hcl : cur.toList.length = c * 4 := by rw [Array.length_toList, h5]
  obtain ⟨A, hA⟩ : ∃ A, A = (cur.toList.take (i * 4) ++ neC1 d ++ cur.toList.drop (i * 4 + 4)).toArray := ⟨_, rfl⟩
  have hst : (storeCells ⟨g, i * 4, none⟩ (neC1 d)).run Try.prog w = .ok () (w.setRow g A) := by
    have h := run_storeCells_at Try.prog g (i * 4) 33 (neC1 d) 0 cur w hh (by simp only [List.length_cons, List.length_nil]; omega) (fun v hv => by
      simp only [List.mem_cons, List.not_mem_nil, or_false] at hv
      rcases hv with rfl | rfl | rfl | rfl <;> rfl)
    rw [Nat.add_zero] at h
    rw [hA]; exact h
  refine ⟨w.setRow g A, ?_, own_of (setRow_heap w g _ _ _ _ hh) hb h3 h4 ?_ ?_ (by rw [List.length_set, hl]), below_setRow (Below.refl _ _) hb _⟩
  · simp only [Instr.storeAt, Instr.sureAddr, Sem.run_bind, Sem.run_pure, Result.andThen_ok]
    simp [storeVar, sizeOf, typeInfo, hi1, hsize, Value.cells, hst]
  · rw [hA]
    simp only [List.size_toArray, List.length_append, List.length_take, List.length_drop, List.length_cons, List.length_nil, hcl]
    omega
  · have e : (neC1 d).length = 4 := rfl
    have hm := mid_take cur.toList (neC1 d) (i * 4) (n * 4) (by rw [e]; omega) (by rw [hcl]; omega)
    rw [e, h6] at hm
    rw [hA, List.toList_toArray, hm, neC_set L i d (by omega)]
theorem clear_ne (h : w.ownsRow B 33 4 (.slice (some ⟨g, 0, none⟩) n c) n (neC L)) {i : Nat} (hi : i ≤ n) :
    ∃ A m k w', (∀ w, (Instr.sliceAt 23 (.slice (some ⟨g, 0, none⟩) n c) (some (.int .i64 (i : Int))) none none).run Try.prog w = .ok (.slice A m k) w) ∧ (∀ ty, (Builtin.clear_ #[23] ty #[.slice A m k]).run Try.prog w = .ok (.tuple #[]) w') ∧
      w'.ownsRow B 33 4 (.slice (some ⟨g, 0, none⟩) i c) i (neC (L.take i)) ∧ Below B w w' := by
  obtain ⟨cur, hh, hb, h3, h4, h5, h6, hl⟩ := own_cur h
  have hcl : cur.toList.length = c * 4 := by rw [Array.length_toList, h5]
  have hz : ∀ w, (zeroValue 33).run Try.prog w = .ok zNeV w := fun w => Try.zeroValue33 w
  have hsl : ∀ w, (Instr.sliceAt 23 (.slice (some ⟨g, 0, none⟩) n c) (some (.int .i64 (i : Int))) none none).run Try.prog w = .ok (sliced (some ⟨g, 0, none⟩) i n c 4) w := by
    intro w
    have h1 : (0 : Int) ≤ (i : Int) := by omega
    have h2 : (i : Int) ≤ (n : Int) := by omega
    have h3 : (n : Int) ≤ (c : Int) := by omega
    go_simp
  by_cases hin : i = n
  · subst hin
    obtain ⟨A, hA⟩ : ∃ A, sliced (some ⟨g, 0, none⟩) i i c 4 = .slice A 0 (c - i) := ⟨_, by unfold sliced; rw [Nat.sub_self]⟩
    rw [hA] at hsl
    refine ⟨A, 0, c - i, w, hsl, fun ty => ?_, ?_, Below.refl _ _⟩
    · cases A <;> simp [Builtin.clear_, run_underlying Try.underlying23, Result.andThen]
    · rw [List.take_of_length_le (by rw [hl]; exact Nat.le_refl _)]; exact h
  · have hci : ¬ c = i := by omega
    unfold sliced at hsl
    rw [if_neg hci] at hsl
    obtain ⟨Z, hZ⟩ : ∃ Z, Z = (Builtin.zeroCells zNeV.cells (n - i)).toList := ⟨_, rfl⟩
    have hzl : Z.length = (n - i) * 4 := by rw [hZ, Array.length_toList, size_zeroCells]; rfl
    have hz1 : ∀ v ∈ Z, v.oneCell' = true := by
      intro v hv
      rw [hZ, Array.mem_toList_iff] at hv
      obtain ⟨q, hq, rfl⟩ := Array.getElem_of_mem hv
      simp only [Builtin.zeroCells, Array.getElem_map, Array.getElem_range]
      exact zero_oneNe _
    obtain ⟨X, hX⟩ : ∃ X, X = (cur.toList.take (i * 4) ++ Z ++ cur.toList.drop (i * 4 + Z.length)).toArray := ⟨_, rfl⟩
    have hst : (storeCells ⟨g, i * 4, none⟩ Z).run Try.prog w = .ok () (w.setRow g X) := by
      have h := run_storeCells_at Try.prog g (i * 4) 33 Z 0 cur w hh (by rw [hzl]; omega) hz1
      rw [Nat.add_zero] at h
      rw [hX]; exact h
    refine ⟨_, _, _, w.setRow g X, hsl, fun ty => ?_, own_of (setRow_heap w g _ _ _ _ hh) hb (by omega) h4 ?_ ?_ (by rw [List.length_take]; omega), below_setRow (Below.refl _ _) hb _⟩
    · obtain ⟨m, hmm⟩ : ∃ m, n - i = m + 1 := ⟨n - i - 1, by omega⟩
      rw [hmm] at hZ ⊢
      simp only [Option.map_some, addr_add, Nat.zero_add]
      simp [Builtin.clear_, run_underlying Try.underlying23, hz, Result.andThen, ← hZ, hst]
    · rw [hX]
      simp only [List.size_toArray, List.length_append, List.length_take, List.length_drop, hzl, hcl]
      omega
    · rw [hX, List.toList_toArray, List.append_assoc, List.take_append_of_le_length (by rw [List.length_take]; omega), List.take_take, Nat.min_self, neC_take, ← h6, List.take_take, Nat.min_eq_left (by omega)]
theorem ne_front (w : World) (A : Option Addr) (n c i : Nat) (h : i ≤ c) : (Instr.sliceAt 23 (.slice A n c) none (some (.int .i64 i)) none).run Try.prog w = .ok (sliced A 0 i c 4) w := by
  have h1 : (0 : Int) ≤ (i : Int) := by omega
  have h2 : (i : Int) ≤ (c : Int) := by omega
  go_simp
end
section
variable {ops : Array Oper} {rest : List Oper} {o : Oper} {a : Act} {w : World} {Q : Exit → Act → World → Prop}
theorem wpList_store_ne (hgd : o.guard = none) (x y : Operand) (ho : o.op = .store 33 x y) {B g n c i I : Nat} {L : List Ne} (d : Ne) (hx : a.eval x = .pointer (some ⟨g, I, none⟩)) (hI : I = i * 4) (hy : a.eval y = neV d)
    (hown : w.ownsRow B 33 4 (.slice (some ⟨g, 0, none⟩) n c) n (neC L)) (hi : i < n)
    (hK : ∀ w', w'.ownsRow B 33 4 (.slice (some ⟨g, 0, none⟩) n c) n (neC (L.set i d)) → Below B w w' → wpList Try.prog ops Q rest (a.put o.dst undef) w') : wpList Try.prog ops Q (o :: rest) a w := by
  subst hI
  obtain ⟨w', hr, h1, h2⟩ := put_ne hown hi d
  refine wpList_plain hgd fun K' hK' => ?_
  unfold Oper.wp
  simp only [execOp, ho, hx, hy, hr, Sem.run_bind, Sem.run_pure, Result.andThen_ok]
  exact hK' _ _ (hK w' h1 h2)
end

/-! ### What is kept so far -/
structure KeepK (p : Ne → Bool) (l : List Ne) (i j : Nat) (L : List Ne) : Prop where
  len : L.length = l.length
  lt : i < j
  done : L.take i = (l.take j).filter fun d => !p d
  rest : L.drop j = l.drop j
theorem KeepK.start {p : Ne → Bool} {l : List Ne} {k : Nat} (hk : k < l.length) (hp : p (l.getD k zNe) = true) (ha : ∀ d ∈ l.take k, p d = false) : KeepK p l k (k + 1) l := by
  refine ⟨rfl, Nat.lt_succ_self _, ?_, rfl⟩
  rw [ne_take hk, List.filter_append, List.filter_eq_self.2 (fun d hd => by rw [ha d hd]; rfl), List.filter_cons, hp]
  simp
theorem KeepK.at {p : Ne → Bool} {l L : List Ne} {i j : Nat} (h : KeepK p l i j L) (hj : j < l.length) : L.getD j zNe = l.getD j zNe := by
  have e := congrArg List.head? h.rest
  rw [List.head?_drop, List.head?_drop] at e
  rw [List.getD_eq_getElem?_getD, List.getD_eq_getElem?_getD, e]
theorem KeepK.skip {p : Ne → Bool} {l L : List Ne} {i j : Nat} (h : KeepK p l i j L) (hj : j < l.length) (hp : p (l.getD j zNe) = true) : KeepK p l i (j + 1) L := by
  refine ⟨h.len, by have := h.lt; omega, ?_, ?_⟩
  · rw [h.done, ne_take hj, List.filter_append, List.filter_cons, hp]; simp
  · rw [← List.drop_drop, h.rest, List.drop_drop]
theorem KeepK.keep {p : Ne → Bool} {l L : List Ne} {i j : Nat} (h : KeepK p l i j L) (hj : j < l.length) (hp : p (l.getD j zNe) = false) : KeepK p l (i + 1) (j + 1) (L.set i (l.getD j zNe)) := by
  have hlt := h.lt
  have hl := h.len
  refine ⟨by rw [List.length_set, hl], by omega, ?_, ?_⟩
  · rw [List.take_succ_eq_append_getElem (by rw [List.length_set]; omega), List.getElem_set_self, List.take_set_of_le (Nat.le_refl _), h.done, ne_take hj, List.filter_append, List.filter_cons, hp]; simp
  · rw [List.drop_set_of_lt (by omega), ← List.drop_drop, h.rest, List.drop_drop]
theorem KeepK.all {p : Ne → Bool} {l L : List Ne} {i : Nat} (h : KeepK p l i l.length L) : L.take i = l.filter fun d => !p d := by rw [h.done, List.take_length]

set_option maxHeartbeats 3200000 in
theorem ldel_any (F : Nat) (lb : Array Value) (eg : ∀ args w, (callFunc F args).run Try.prog w = .ok (.enter F args) w) (p : Ne → Bool) (V : Value) (l : List Ne) (w : World) (B : Nat) (hB : B ≤ w.heap.size) (hown : w.ownsRow B 33 4 V l.length (neC l)) (hp : AsksK F lb p B w l) (hl : l.length ≤ 1000000) :
    Calls Try.prog 23 #[V, .func (.func F) #[] lb] w fun e w' => ∃ a c, e = .returned (.slice a (l.filter fun d => !p d).length c) ∧ Nes w' (.slice a (l.filter fun d => !p d).length c) (l.filter fun d => !p d) ∧ Below B w w' := by
  have K := lindex_any F lb eg p V l w B hB (Nes.owned hown) hp
  rcases fixK_spec p l 0 with ⟨e1, hall⟩ | ⟨k, hk, e1, hpk, hall⟩
  · rw [e1] at K
    have e2 : (l.filter fun d => !p d) = l := List.filter_eq_self.2 fun d hd => by rw [hall d hd]; rfl
    rw [e2]
    obtain ⟨a, c, rfl, hnes⟩ := nesO hown
    obtain ⟨n, hn⟩ : ∃ n, l.length = n := ⟨_, rfl⟩
    rw [hn] at hnes K ⊢
    have SN := Lib.hid hnes; have HB := Lib.hid hB; have KK := Lib.hid K
    clear hnes hown hp e1 e2 hall hl hB hn K
    go_enter Try.func23, Try.ntmps23
    go_wp2_with (go_at_call 31; refine KK.out.mono ?_; rintro e w1 ⟨rfl, hb1⟩; have B1 := Lib.hid hb1; clear hb1)
    go_ret
    exact ⟨a, c, rfl, SN.out.below B1.out, B1.out.mono HB.out⟩
  · rw [e1, Nat.zero_add] at K
    rcases hown with ⟨hx, ⟨rfl, h0⟩ | ⟨g, c, cur, rfl, hbg, hh, h3, h4, h5, h6⟩⟩
    · exact absurd hk (by omega)
    · have ho : w.ownsRow B 33 4 (.slice (some ⟨g, 0, none⟩) l.length c) l.length (neC l) := own_of hh hbg h3 h4 h5 h6 rfl
      have KI := Lib.hid (KeepK.start hk hpk hall)
      obtain ⟨R, hR⟩ : ∃ R, (l.filter fun d => !p d) = R := ⟨_, rfl⟩
      rw [hR]
      obtain ⟨n, hn⟩ : ∃ n, l.length = n := ⟨_, rfl⟩
      rw [hn] at ho hk K hl ⊢
      have HO := Lib.hid ho; have HN := Lib.hid hn; have HP := Lib.hid hp; have HR := Lib.hid hR; have HBB := Lib.hid hB; have KK := Lib.hid K
      unfold maxLen at h4
      rw [hn] at h3
      clear ho hn hp hR hx hbg hh h5 h6 e1 hpk hall cur hB K
      have hne1 : ((k : Int) == -1) = false := beq_eq_false_iff_ne.2 (by omega)
      go_enter Try.func23, Try.ntmps23
      go_wp2_with (go_at_call 31; refine KK.out.mono ?_; rintro e w1 ⟨rfl, hb1⟩; have HO1 := Lib.hid (ownsRow_belowB HO.out hb1); have B1 := Lib.hid (hb1.mono HBB.out); clear hb1)
      go_loopw [5, 6] (fun si sj wr => ∃ (i j : Nat) (L : List Ne), si = .int .i64 i ∧ sj = .int .i64 j ∧ i < j ∧ j ≤ n ∧ Hid (KeepK p l i j L) ∧ Hid (wr.ownsRow B 33 4 (.slice (some ⟨g, 0, none⟩) n c) n (neC L)) ∧ Hid (Below B w wr)) (fun _ sj _ => n - (intOf sj).toNat)
      case atStart => exact ⟨k, k + 1, l, rfl, by go_num, by omega, by omega, KI, HO1, B1⟩
      case round =>
        obtain ⟨i, j, L, rfl, rfl, hij, hjn, HK, HOW, HB⟩ := hrel
        by_cases hlt : j < n
        · have hjl : j < l.length := by rw [HN.out]; exact hlt
          have hLj : j < L.length := by rw [HK.out.len, HN.out]; exact hlt
          obtain ⟨b, off, hab, -, hc0, hc1, hc2, hc3⟩ := ((by have h := Nes.owned (es := L) (v := .slice (some ⟨g, 0, none⟩) n c) (by rw [HK.out.len, HN.out]; exact HOW.out); exact h) : Nes wr (.slice (some ⟨g, 0, none⟩) n c) L).at j hLj
          injection hab with hab
          injection hab with e1 e2
          subst e1 e2
          rw [HK.out.at hjl] at hc0 hc1 hc2 hc3
          rw [Nat.zero_add] at hc0 hc1 hc2 hc3
          have hsk := HK.out.skip hjl
          have hke := HK.out.keep hjl
          have hcall := fun w1 (hb : Below B w w1) => HP.out w1 hb _ (ne_mem hjl)
          obtain ⟨y, hy⟩ : ∃ y, y = l.getD j zNe := ⟨_, rfl⟩
          rw [← hy] at hc0 hc1 hc2 hc3 hsk hke hcall
          obtain ⟨⟨y1, y2⟩, y3, y4⟩ := y
          simp only [neV] at hc0 hc1 hc2 hc3 hcall
          obtain ⟨I, hI⟩ : ∃ I, p ((y1, y2), y3, y4) = I := ⟨_, rfl⟩
          rw [hI] at hsk hke hcall
          have HC := Lib.hid hcall; have HSK := Lib.hid hsk; have HKE := Lib.hid hke
          clear hy hI hsk hke hcall
          have hjb : (j : Int) < (n : Int) := by omega
          have hib : (i : Int) < (n : Int) := by omega
          have hix := fun w => idx_ne (w := w) (b := g) (off := 0) (n := n) (c := c) (k := i) (by omega)
          have hjx := fun w => idx_ne (w := w) (b := g) (off := 0) (n := n) (c := c) (k := j) (by omega)
          simp only [Nat.zero_add] at hix hjx
          have hBw : B ≤ wr.heap.size := Nat.le_trans HBB.out HB.out.size
          go_upto_region 8 with fail
          obtain ⟨X, q, hX, hq, d0, d1, d2, d3, hxb⟩ := boxNe wr (.string (mkB y1)) (.string (mkB y2)) (.string (mkB y3)) (.string (mkB y4)) 33
          rw [hX, hq]
          have HOX := Lib.hid (ownsRow_belowB HOW.out hxb); have BX := Lib.hid (HB.out.trans (hxb.mono hBw)); have hBX : B ≤ X.heap.size := Nat.le_trans hBw hxb.size
          have HCX := Lib.hid (HC.out X BX.out)
          clear hX hq hxb hc0 hc1 hc2 hc3
          cases I
          · go_upto_region 9 with (go_at_fn F; refine HCX.out.mono ?_; rintro e w2 ⟨rfl, hb1⟩; have HO2 := Lib.hid (ownsRow_belowB HOX.out hb1); have B2 := Lib.hid (BX.out.trans (hb1.mono hBX)); replace d0 := cell_keep d0 hb1; replace d1 := cell_keep d1 hb1; replace d2 := cell_keep d2 hb1; replace d3 := cell_keep d3 hb1; clear hb1 HCX)
            go_wp2_with (with_reducible refine wpList_store_ne (o := ⟨none, _, _, _, _, _⟩) rfl _ _ rfl ((y1, y2), y3, y4) rfl rfl rfl HO2.out (show i < n by omega) ?_; intro w3 hO3 hb3; have HO3 := Lib.hid hO3; have B3 := Lib.hid (B2.out.trans hb3); clear hO3 hb3)
            go_roundw
            case rel => exact ⟨i + 1, j + 1, _, by go_num, by go_num, by omega, by omega, Lib.hid (HKE.out trivial), HO3, B3⟩
            case measure => simp [intOf]; omega
          · go_wp2_with (go_at_fn F; refine HCX.out.mono ?_; rintro e w2 ⟨rfl, hb1⟩; have HO2 := Lib.hid (ownsRow_belowB HOX.out hb1); have B2 := Lib.hid (BX.out.trans (hb1.mono hBX)); clear hb1 HCX)
            go_roundw
            case rel => exact ⟨i, j + 1, _, rfl, by go_num, by omega, by omega, Lib.hid (HSK.out trivial), HO2, B2⟩
            case measure => simp [intOf]; omega
        · have e : j = n := by omega
          subst e
          obtain ⟨A, m, kk, w2, hsl, hcl, ho2, hb2⟩ := clear_ne HOW.out (i := i) (by omega)
          have hall := HK.out
          rw [← HN.out] at hall
          have hal := hall.all
          rw [HR.out] at hal
          rw [hal] at ho2
          have hlen : R.length = i := by rw [← hal, List.length_take, HK.out.len, HN.out]; omega
          have hfr : ∀ w, (Instr.sliceAt 23 (.slice (some ⟨g, 0, none⟩) j c) none (some (.int .i64 (i : Int))) none).run Try.prog w = .ok (.slice (some ⟨g, 0, none⟩) i c) w := fun w => by
            rw [ne_front w (some ⟨g, 0, none⟩) j c i (by omega)]
            unfold sliced
            rw [if_neg (by omega)]
            simp [addr_add]
          have HO2 := Lib.hid ho2; have B2 := Lib.hid (HB.out.trans hb2); have HLEN := Lib.hid hlen
          clear ho2 hb2 hall hal hlen
          go_wp2
          go_ret
          rw [HLEN.out]
          exact ⟨_, c, rfl, Nes.owned (by rw [HLEN.out]; exact HO2.out), B2.out⟩

set_option maxHeartbeats 800000 in
theorem lwithout_any (F : Nat) (lb : Array Value) (eg : ∀ args w, (callFunc F args).run Try.prog w = .ok (.enter F args) w) (p : Ne → Bool) (V : Value) (l : List Ne) (w : World) (h : Nes w V l) (hp : AsksK F lb p w.heap.size w l) (hl : l.length ≤ 1000000) :
    Calls Try.prog 16 #[V, .func (.func F) #[] lb] w fun e w' => ∃ a c, e = .returned (.slice a (l.filter fun d => !p d).length c) ∧ Nes w' (.slice a (l.filter fun d => !p d).length c) (l.filter fun d => !p d) ∧ Below w.heap.size w w' := by
  obtain ⟨a, c, rfl, h1, h2, -, -⟩ := h.ex
  obtain ⟨R, hR⟩ : ∃ R, (l.filter fun d => !p d) = R := ⟨_, rfl⟩
  have K1 := Lib.hid (lclone_any _ l w h hl)
  have K2 := Lib.hid (fun V w' (hb : Below w.heap.size w w') (ho : w'.ownsRow w.heap.size 33 4 V l.length (neC l)) => ldel_any F lb eg p V l w' w.heap.size hb.size ho (hp.below hb) hl)
  rw [hR] at K2 ⊢
  obtain ⟨n, hn⟩ : ∃ n, l.length = n := ⟨_, rfl⟩
  rw [hn] at K1 K2 ⊢
  clear h h1 h2 hp hl hn hR
  go_enter Try.func16, Try.ntmps16
  go_wp2_with (first
    | (go_at_call 24; refine K1.out.mono ?_; rintro e w1 ⟨v, rfl, ho, hb1⟩; have HO := Lib.hid ho; have B1 := Lib.hid hb1; clear hb1 ho)
    | (go_at_call 23; refine (K2.out _ _ B1.out HO.out).mono ?_; rintro e w2 ⟨a2, c2, rfl, hs, hb2⟩; have HS := Lib.hid hs; have B2 := Lib.hid (B1.out.trans hb2); clear hb2 hs))
  go_ret
  exact ⟨a2, c2, rfl, HS.out, B2.out⟩
end Go.Proofs.Ytjnkjjlpkgbkiaa

namespace Go.Proofs.Ytjnkjjlpkgbkiaa
open Go.RowKit Go.ChangeShapes Go.WideShapes
set_option linter.unusedVariables false
set_option maxRecDepth 100000

def smallNe (d : Ne) : Prop := smallN d.1 ∧ smallN d.2
theorem small_fitNe {d : Ne} (h : smallNe d) : fitNe d := ⟨fits_small h.1, fits_small h.2⟩
theorem map_getD {l : List Ne} {k : Nat} (h : k < l.length) : (l.map (·.1)).getD k ([], []) = (l.getD k zNe).1 := by
  rw [nd_getD (by rw [List.length_map]; exact h), ne_getD h, List.getElem_map]
theorem nd_take {l : List Nd} {k : Nat} (h : k < l.length) : l.take (k + 1) = l.take k ++ [l.getD k ([], [])] := by
  rw [List.take_succ_eq_append_getElem h, nd_getD h]

/-! ### The set, as a row of the call's own -/
set_option maxHeartbeats 1600000 in
theorem nseto_any (V : Value) (l : List Nd) (w : World) (hV : Nds w V l) (sl : ∀ n ∈ l, smallN n) (hl : l.length ≤ 1000000) :
    Calls Try.prog 25 #[V] w fun e w' => ∃ v, e = .returned (.tuple #[v, .int .i64 (setNE l).2]) ∧ w'.ownsRow w.heap.size 31 2 v (setNE l).1.length (ndsC (setNE l).1) ∧ Below w.heap.size w w' := by
  obtain ⟨a, c, rfl, h1, h2, -, -⟩ := hV.ex
  unfold maxLen at h2
  obtain ⟨n, hn⟩ : ∃ n, l.length = n := ⟨_, rfl⟩
  rw [hn] at h1 hV hl ⊢
  have SV := Lib.hid hV; have HN := Lib.hid hn; have SL := Lib.hid sl
  obtain ⟨R, hR⟩ : ∃ R, setNE l = R := ⟨_, rfl⟩
  rw [hR]
  obtain ⟨R1, R2⟩ := R
  simp only
  have HR := Lib.hid hR
  clear hV hn sl hR
  go_enter Try.func25, Try.ntmps25
  go_wp2
  go_loopw [8] (fun i wr => ∃ k : Nat, k ≤ n ∧ i = .int .i64 k ∧ Hid (allN (l.take k) = true) ∧ Hid (Below w.heap.size w wr)) (fun i _ => n - (intOf i).toNat)
  case atStart => exact ⟨0, Nat.zero_le _, rfl, Lib.hid (by simp [allN]), Lib.hid (Below.refl _ _)⟩
  case round =>
    obtain ⟨k, hk, rfl, HA, HB⟩ := hrel
    by_cases hlt : k < n
    · have hkl : k < l.length := by rw [HN.out]; exact hlt
      obtain ⟨b, off, rfl, -, hc0, hc1⟩ := (SV.out.below HB.out).at k hkl
      obtain ⟨y, hy⟩ : ∃ y, y = l.getD k ([], []) := ⟨_, rfl⟩
      have hsy : smallN y := by rw [hy]; exact SL.out _ (nd_mem hkl)
      obtain ⟨o, ho⟩ : ∃ o, okN y = o := ⟨_, rfl⟩
      rw [← hy] at hc0 hc1
      have HY := Lib.hid hy; have HS := Lib.hid hsy; have HO := Lib.hid ho
      clear hy hsy ho
      obtain ⟨y1, y2⟩ := y
      simp only at hc0 hc1
      cases o
      · have he := setNE_no (allN_no hkl (by rw [← HY.out]; exact HO.out))
        rw [HR.out] at he
        obtain ⟨rfl, rfl⟩ := Prod.mk.inj he
        go_upto_region 4 with fail
        obtain ⟨X, q, hX, hq, d0, d1, hxb⟩ := boxB1 wr (.string (mkB y1)) (.string (mkB y2)) 31
        rw [hX, hq]
        have B := Lib.hid (below_step HB.out hxb)
        clear hX hq hc0 hc1 hxb
        go_wp2_with (go_at_call 22; refine (nmay_any _ _ _ HS.out.1 HS.out.2).mono ?_; rintro e w1 ⟨rfl, hb1⟩; rw [HO.out]; replace B := Lib.hid (below_step B.out hb1); clear hb1)
        go_ret2
        exact ⟨_, rfl, World.ownsRow_nil _ _ _ _, B.out⟩
      · have hat := allN_take hkl (by rw [← HY.out]; exact HO.out) HA.out
        have HAT := Lib.hid hat; clear hat
        go_upto_region 4 with fail
        obtain ⟨X, q, hX, hq, d0, d1, hxb⟩ := boxB1 wr (.string (mkB y1)) (.string (mkB y2)) 31
        rw [hX, hq]
        have B := Lib.hid (below_step HB.out hxb)
        clear hX hq hc0 hc1 hxb
        go_wp2_with (go_at_call 22; refine (nmay_any _ _ _ HS.out.1 HS.out.2).mono ?_; rintro e w1 ⟨rfl, hb1⟩; rw [HO.out]; replace B := Lib.hid (below_step B.out hb1); clear hb1)
        go_roundw
        case rel => exact ⟨k + 1, by omega, by go_num, HAT, B⟩
        case measure => simp [intOf]; omega
    · have e : k = n := by omega
      subst e
      have hal := HA.out
      rw [List.take_of_length_le (by rw [HN.out]; exact Nat.le_refl _)] at hal
      have he := setNE_yes hal
      rw [HR.out] at he
      obtain ⟨rfl, rfl⟩ := Prod.mk.inj he
      have HOK := Lib.hid (allN_ok hal)
      clear hal HA HR he
      go_wp2_with (first
        | (go_at_call 28; refine (gather_any _ l _ (SV.out.below HB.out) (fun n hn => fits_small (SL.out n hn))).mono ?_; rintro e w1 ⟨g, rfl, hM, -, hb1⟩; have MP := Lib.hid hM; have B := Lib.hid (below_step HB.out hb1); clear hb1 hM)
        | (go_at_call 33; refine (callsIn_wide.1 (keys_in Fence.wide 5 trivial rfl (some g) _)).mono ?_; rintro e w2 ⟨rfl, rfl⟩; have MP2 := Lib.hid (MP.out.alloc (.cells #[.map (some g)] 59)); have hck := cell_new (X := w1) (cs := #[.map (some g)]) (t := 59) (i := 0) rfl rfl)
        | (go_at_call 32; refine (nsorted_any _ _ _ l _ (by simp) hck MP2.out (fun n hn => ⟨HOK.out n hn, SL.out n hn⟩) (by rw [HN.out]; exact hl) (by rw [HN.out]; exact hl)).mono ?_; rintro e w3 ⟨v, ss, rfl, hrs, hmem, hrow, hb3⟩))
      go_ret2
      have hss := setN_is HOK.out hrs hmem
      subst hss
      exact ⟨v, rfl, row_base hrow (by have h1 := B.out.size; simp; omega), below_step (B.out.alloc B.out.size _) hb3⟩

set_option maxHeartbeats 1600000 in
theorem lwhenceo_any (V : Value) (l : List Ne) (w : World) (h : Nes w V l) (hm : mayK l = true) (hs : ∀ d ∈ l, smallNe d) (hl : l.length ≤ 1000000) :
    Calls Try.prog 19 #[V] w fun e w' => ∃ v, e = .returned (.tuple #[v, .bool (whK l).2]) ∧ w'.ownsRow w.heap.size 31 2 v (whK l).1.length (ndsC (whK l).1) ∧ Below w.heap.size w w' := by
  obtain ⟨a, c, rfl, h1, h2, -, -⟩ := h.ex
  have eg : ∀ args w, (callFunc 18 args).run Try.prog w = .ok (.enter 18 args) w := enters_of Try.func18 (by kernel_rfl) rfl
  have kw := fun V w' (h' : Nes w' V l) => lwithout_any 18 #[] eg rootK V l w' h' (asks_root _ _ _) hl
  have kc := fun V w' (h' : Nes w' V l) => lcont_any 18 #[] eg rootK V l w' w'.heap.size (Nat.le_refl _) h' (asks_root _ _ _)
  obtain ⟨L, hL⟩ : ∃ L, (l.filter fun d => !rootK d) = L := ⟨_, rfl⟩
  have hF : fromK l = L.map (·.1) := by rw [← hL]; rfl
  have hLs : ∀ d ∈ L, smallNe d := fun d hd => hs d (by rw [← hL] at hd; exact (List.mem_filter.1 hd).1)
  have hok := fromK_ok hm
  have hFl := Nat.le_trans (fromK_len l) hl
  have hFs : ∀ x ∈ fromK l, smallN x := fun x hx => by
    obtain ⟨d, hd, -, rfl⟩ := fromK_mem.1 hx
    exact (hs d hd).1
  have hse : setNE (fromK l) = (setN (fromK l), 0) := setNE_yes (List.all_eq_true.2 hok)
  have ks := fun V w' (h' : Nds w' V (fromK l)) => nseto_any V (fromK l) w' h' hFs hFl
  rw [hse] at ks
  rw [hL] at kw
  obtain ⟨A1, hA1⟩ : ∃ A, setN (fromK l) = A := ⟨_, rfl⟩
  obtain ⟨A2, hA2⟩ : ∃ A, l.any rootK = A := ⟨_, rfl⟩
  have hwh : whK l = (A1, A2) := by unfold whK; rw [hA1, hA2]
  rw [hwh]
  rw [hA1] at ks
  rw [hA2] at kc
  simp only
  obtain ⟨FR, hFR⟩ : ∃ FR, fromK l = FR := ⟨_, rfl⟩
  rw [hFR] at hF ks hFl
  obtain ⟨m, hm'⟩ : ∃ m, L.length = m := ⟨_, rfl⟩
  have hFRm : FR.length = m := by rw [hF, List.length_map, hm']
  rw [hFRm] at hFl
  rw [hm'] at kw
  obtain ⟨n, hn⟩ : ∃ n, l.length = n := ⟨_, rfl⟩
  rw [hn] at h h1
  rw [hn]
  have ST := Lib.hid h; have KW := Lib.hid kw; have KC := Lib.hid kc; have KS := Lib.hid ks; have HF := Lib.hid hF; have HM := Lib.hid hm'; have HFM := Lib.hid hFRm
  clear h hL hLs hok hFs hse hA1 hA2 hwh hFR kw kc ks hF hm' hFRm hn hm hs hl h1 h2 eg
  go_enter Try.func19, Try.ntmps19
  go_wp2_with (go_at_call 16; refine (KW.out _ _ ST.out).mono ?_; rintro e W ⟨a1, c1, rfl, hs1, hb1⟩; have SL := Lib.hid hs1; have B1 := Lib.hid hb1; clear hs1 hb1 KW)
  go_loopw [4, 12] (fun v i wr => ∃ k : Nat, k ≤ m ∧ i = .int .i64 k ∧ Hid (wr.ownsRow W.heap.size 31 2 v k (ndsC (FR.take k))) ∧ Hid (Below W.heap.size W wr)) (fun _ i _ => m - (intOf i).toNat)
  case atStart => exact ⟨0, Nat.zero_le _, rfl, Lib.hid (World.ownsRow_nil _ _ _ _), Lib.hid (Below.refl _ _)⟩
  case round =>
    obtain ⟨k, hk, rfl, HO, HB⟩ := hrel
    by_cases hlt : k < m
    · have hkl : k < L.length := by rw [HM.out]; exact hlt
      obtain ⟨b, off, rfl, -, hc0, hc1, hc2, hc3⟩ := (SL.out.below HB.out).at k hkl
      have htk := nd_take (l := FR) (k := k) (by rw [HFM.out]; exact hlt)
      have hg : FR.getD k ([], []) = (L.getD k zNe).1 := by rw [HF.out]; exact map_getD hkl
      rw [hg] at htk
      obtain ⟨y, hy⟩ : ∃ y, y = L.getD k zNe := ⟨_, rfl⟩
      rw [← hy] at hc0 hc1 hc2 hc3 htk
      obtain ⟨⟨y1, y2⟩, y3, y4⟩ := y
      simp only at hc0 hc1 hc2 hc3 htk
      have HTK := Lib.hid htk
      clear hg hy htk
      have hkb : (k : Int) < (m : Int) := by omega
      go_upto_region 5 with fail
      obtain ⟨X, q, hX, hq, d0, d1, d2, d3, hxb⟩ := boxNe wr (.string (mkB y1)) (.string (mkB y2)) (.string (mkB y3)) (.string (mkB y4)) 33
      rw [hX, hq]
      have hqw := ownsRow_belowB HO.out hxb
      have hxb2 : Below W.heap.size W X := HB.out.trans (hxb.mono HB.out.size)
      have hxs := hxb2.size
      clear hX hq hc0 hc1 hc2 hc3 hxb
      go_wp2_with (at_builtin; refine wpList_append_new rfl _ _ 22 rfl W.heap.size 31 (.agg #[.string ByteArray.empty, .string ByteArray.empty]) 2 32 Try.underlying22 Try.info_node rfl (by decide) _ _ _ rfl hqw [.string (mkB y1), .string (mkB y2)] rfl rfl rfl (by omega) (by unfold maxLen; omega) hxs ?_)
      intro v' w' hown' hb'
      have e2 : ndsC (FR.take k) ++ [.string (mkB y1), .string (mkB y2)] = ndsC (FR.take (k + 1)) := by rw [HTK.out]; exact (ndsC_snoc _ (y1, y2)).symm
      rw [e2] at hown'
      have HON := Lib.hid hown'; have HBN := Lib.hid (hxb2.trans hb'.toBelow)
      clear hown' hb' hqw hxb2 e2
      go_wp2
      go_roundw
      case rel => exact ⟨k + 1, by omega, by go_num, HON, HBN⟩
      case measure => simp [intOf]; omega
    · have e : k = m := by omega
      subst e
      have hO := HO.out
      rw [List.take_of_length_le (by rw [HFM.out]; exact Nat.le_refl _)] at hO
      have hO2 := Nds.owned (by rw [HFM.out]; exact hO : wr.ownsRow W.heap.size 31 2 _ FR.length (ndsC FR))
      have HV := Lib.hid hO2; have B2 := Lib.hid (below_step B1.out HB.out)
      clear hO hO2
      go_wp2_with (first
        | (go_at_call 25; refine (KS.out _ _ HV.out).mono ?_; rintro e w2 ⟨v2, rfl, hs2, hb2⟩; have S2 := Lib.hid hs2; have B3 := Lib.hid (below_step B2.out hb2); clear hs2 hb2)
        | (go_at_call 26; refine (KC.out _ _ (ST.out.below B3.out)).mono ?_; rintro e w3 ⟨rfl, hb3⟩; have B4 := Lib.hid hb3; clear hb3))
      go_ret2
      exact ⟨v2, rfl, ownsRow_belowB (row_base S2.out B2.out.size) B4.out, below_step B3.out B4.out⟩
theorem lwhence_any (V : Value) (l : List Ne) (w : World) (h : Nes w V l) (hm : mayK l = true) (hs : ∀ d ∈ l, smallNe d) (hl : l.length ≤ 1000000) :
    Calls Try.prog 19 #[V] w fun e w' => ∃ a c, e = .returned (.tuple #[.slice a (whK l).1.length c, .bool (whK l).2]) ∧ Nds w' (.slice a (whK l).1.length c) (whK l).1 ∧ Below w.heap.size w w' :=
  (lwhenceo_any V l w h hm hs hl).mono fun e w' ⟨v, he, ho, hb⟩ => by
    obtain ⟨a, c, rfl, hn⟩ := ndsO ho
    exact ⟨a, c, he, hn, hb⟩
end Go.Proofs.Ytjnkjjlpkgbkiaa
