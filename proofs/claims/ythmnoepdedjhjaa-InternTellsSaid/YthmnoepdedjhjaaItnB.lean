/- THE TEXTS OF ItnM ItnA ItnB: Nodes' numbers: which names may be, a node's place, nodes told one by one: plain facts. Maps from nodes to numbers: each node's last place; all nodes may be; the map of some nodes. Names: a box that holds them; may they be: of the program. -/
import Derived.Test.YthmnoepdedjhjaaNodM
import Derived.Test.YthmnoepdedjhjaaRolA
import Derived.Maps.OwnOps
import Derived.Test.YthmnoepdedjhjaaRolB
namespace Go.Proofs.Ythmnoepdedjhjaa
set_option maxRecDepth 100000

/-- Names that may be: all nodes may be, and none is there twice. -/
def okM (l : List Nd) : Bool := l.all okN && decide l.Nodup
theorem okM_iff {l : List Nd} : okM l = true ↔ (∀ n ∈ l, okN n = true) ∧ l.Nodup := by
  unfold okM; rw [Bool.and_eq_true, List.all_eq_true, decide_eq_true_iff]
/-- How many different ones. -/
def dcR : List Nd → Nat
  | [] => 0
  | x :: l => if hasN l x then dcR l else dcR l + 1
def dcN (l : List Nd) : Nat := dcR l.reverse
theorem hasN_reverse (l : List Nd) (n : Nd) : hasN l.reverse n = hasN l n := by
  rw [Bool.eq_iff_iff, hasN_iff, hasN_iff, List.mem_reverse]
theorem dcN_snoc (l : List Nd) (n : Nd) : dcN (l ++ [n]) = if hasN l n then dcN l else dcN l + 1 := by
  unfold dcN
  rw [List.reverse_append, List.reverse_singleton, List.singleton_append, dcR, hasN_reverse]
theorem dcR_le : ∀ l : List Nd, dcR l ≤ l.length
  | [] => Nat.le_refl _
  | x :: l => by
    have := dcR_le l
    rw [dcR, List.length_cons]; split <;> omega
theorem dcR_eq : ∀ l : List Nd, dcR l = l.length ↔ l.Nodup
  | [] => by simp [dcR]
  | x :: l => by
    have h1 := dcR_le l
    have h2 := dcR_eq l
    rw [dcR, List.length_cons, List.nodup_cons]
    by_cases h : hasN l x = true
    · rw [if_pos h]
      have := hasN_iff.1 h
      constructor
      · intro e; omega
      · intro e; exact absurd this e.1
    · rw [if_neg h]
      have hx : x ∉ l := fun k => h (hasN_iff.2 k)
      constructor
      · intro e; exact ⟨hx, h2.1 (by omega)⟩
      · intro e; rw [h2.2 e.2]
theorem dcN_le (l : List Nd) : dcN l ≤ l.length := by
  have := dcR_le l.reverse
  rw [List.length_reverse] at this; exact this
theorem nodup_rev (l : List Nd) : l.reverse.Nodup ↔ l.Nodup := by
  unfold List.Nodup
  rw [List.pairwise_reverse]
  exact ⟨fun h => h.imp fun k => k.symm, fun h => h.imp fun k => k.symm⟩
theorem dcN_eq (l : List Nd) : dcN l = l.length ↔ l.Nodup := by
  have := dcR_eq l.reverse
  rw [List.length_reverse, nodup_rev] at this; exact this
theorem dcN_lt (l : List Nd) : decide (dcN l < l.length) = !decide l.Nodup := by
  have h1 := dcN_le l
  have h2 := dcN_eq l
  by_cases h : l.Nodup
  · rw [decide_eq_true h, decide_eq_false (by have := h2.2 h; omega)]; rfl
  · rw [decide_eq_false h, decide_eq_true (by have : dcN l ≠ l.length := fun e => h (h2.1 e); omega)]; rfl

/-- A node's place: the first one; behind all, if it is not there. -/
def ixN : List Nd → Nd → Nat
  | [], _ => 0
  | x :: l, n => if x = n then 0 else ixN l n + 1
/-- A node's last place. -/
def laR : List Nd → Nd → Nat
  | [], _ => 0
  | x :: l, n => if x = n then l.length else laR l n
def laN (l : List Nd) (n : Nd) : Nat := laR l.reverse n
theorem laN_same (l : List Nd) (n : Nd) : laN (l ++ [n]) n = l.length := by
  unfold laN
  rw [List.reverse_append, List.reverse_singleton, List.singleton_append, laR, if_pos rfl, List.length_reverse]
theorem laN_other (l : List Nd) {m n : Nd} (h : m ≠ n) : laN (l ++ [m]) n = laN l n := by
  unfold laN
  rw [List.reverse_append, List.reverse_singleton, List.singleton_append, laR, if_neg h]
theorem laR_at : ∀ (l : List Nd) (n : Nd), n ∈ l → laR l n < l.length ∧ l.reverse[laR l n]? = some n
  | [], n, h => by cases h
  | x :: l, n, h => by
    rw [laR, List.reverse_cons, List.length_cons]
    by_cases e : x = n
    · rw [if_pos e]
      refine ⟨by omega, ?_⟩
      rw [List.getElem?_append_right (by simp), List.length_reverse, Nat.sub_self]
      simp [e]
    · rw [if_neg e]
      have hm : n ∈ l := by
        rcases List.mem_cons.1 h with k | k
        · exact absurd k.symm e
        · exact k
      obtain ⟨h1, h2⟩ := laR_at l n hm
      refine ⟨by omega, ?_⟩
      rw [List.getElem?_append_left (by rw [List.length_reverse]; exact h1)]
      exact h2
theorem laN_at {l : List Nd} {n : Nd} (h : n ∈ l) : laN l n < l.length ∧ l[laN l n]? = some n := by
  have := laR_at l.reverse n (List.mem_reverse.2 h)
  rw [List.length_reverse, List.reverse_reverse] at this
  exact this
theorem ixN_at : ∀ {l : List Nd} {n : Nd}, n ∈ l → ixN l n < l.length ∧ l[ixN l n]? = some n
  | [], n, h => by cases h
  | x :: l, n, h => by
    rw [ixN, List.length_cons]
    by_cases e : x = n
    · rw [if_pos e]; exact ⟨by omega, by simp [e]⟩
    · rw [if_neg e]
      have hm : n ∈ l := by
        rcases List.mem_cons.1 h with k | k
        · exact absurd k.symm e
        · exact k
      obtain ⟨h1, h2⟩ := ixN_at hm
      exact ⟨by omega, by simpa using h2⟩
theorem ixN_none : ∀ {l : List Nd} {n : Nd}, n ∉ l → ixN l n = l.length
  | [], _, _ => rfl
  | x :: l, n, h => by
    have h1 : ¬ x = n := fun e => h (by rw [e]; exact List.mem_cons_self)
    rw [ixN, if_neg h1, ixN_none (fun k => h (List.mem_cons_of_mem _ k)), List.length_cons]
theorem ixN_le (l : List Nd) (n : Nd) : ixN l n ≤ l.length := by
  by_cases h : n ∈ l
  · exact Nat.le_of_lt (ixN_at h).1
  · rw [ixN_none h]; exact Nat.le_refl _
theorem ixN_lt {l : List Nd} {n : Nd} : ixN l n < l.length ↔ n ∈ l := by
  constructor
  · intro h
    by_cases k : n ∈ l
    · exact k
    · rw [ixN_none k] at h; omega
  · intro h; exact (ixN_at h).1
theorem ixN_append : ∀ {l : List Nd} (t : List Nd) {n : Nd}, n ∈ l → ixN (l ++ t) n = ixN l n
  | [], _, _, h => by cases h
  | x :: l, t, n, h => by
    rw [List.cons_append, ixN, ixN]
    by_cases e : x = n
    · rw [if_pos e, if_pos e]
    · rw [if_neg e, if_neg e]
      have hm : n ∈ l := by
        rcases List.mem_cons.1 h with k | k
        · exact absurd k.symm e
        · exact k
      rw [ixN_append t hm]
theorem nodup_at {l : List Nd} (h : l.Nodup) {i j : Nat} {n : Nd} (hi : l[i]? = some n) (hj : l[j]? = some n) : i = j := by
  obtain ⟨hi1, hi2⟩ := List.getElem?_eq_some_iff.1 hi
  obtain ⟨hj1, hj2⟩ := List.getElem?_eq_some_iff.1 hj
  rcases Nat.lt_trichotomy i j with k | k | k
  · exact absurd (hi2.trans hj2.symm) (List.pairwise_iff_getElem.1 h i j hi1 hj1 k)
  · exact k
  · exact absurd (hj2.trans hi2.symm) (List.pairwise_iff_getElem.1 h j i hj1 hi1 k)
theorem laN_ix {l : List Nd} (h : l.Nodup) {n : Nd} (hn : n ∈ l) : laN l n = ixN l n := nodup_at h (laN_at hn).2 (ixN_at hn).2
theorem ixN_getD {l : List Nd} (h : l.Nodup) {i : Nat} (hi : i < l.length) : ixN l (l.getD i ([], [])) = i := by
  have hm := nd_mem hi
  refine nodup_at h (ixN_at hm).2 ?_
  rw [nd_getD hi, List.getElem?_eq_getElem hi]
theorem getD_ixN {l : List Nd} {n : Nd} (h : n ∈ l) : l.getD (ixN l n) ([], []) = n := by
  obtain ⟨h1, h2⟩ := ixN_at h
  rw [List.getD_eq_getElem?_getD, h2]; rfl
theorem ixN_drop : ∀ {l : List Nd} {k : Nat} {n : Nd}, (∀ j, j < k → l.getD j ([], []) ≠ n) → k < l.length → l.getD k ([], []) = n → ixN l n = k
  | [], k, n, _, h, _ => absurd h (Nat.not_lt_zero k)
  | x :: l, 0, n, _, _, h => by
    have : x = n := h
    rw [ixN, if_pos this]
  | x :: l, k + 1, n, h0, h1, h2 => by
    have hx : x ≠ n := h0 0 (Nat.succ_pos k)
    rw [ixN, if_neg hx, ixN_drop (l := l) (k := k) (fun j hj => h0 (j + 1) (by omega)) (by simpa using h1) h2]

/-- Names with a node: as they are, if it is there; else it is the last one. -/
def addM (l : List Nd) (n : Nd) : List Nd := if hasN l n then l else l ++ [n]
def namesM (l t : List Nd) : List Nd := t.foldl addM l
def idsM : List Nd → List Nd → List Nat
  | _, [] => []
  | l, n :: t => ixN l n :: idsM (addM l n) t
theorem addM_yes {l : List Nd} {n : Nd} (h : hasN l n = true) : addM l n = l := if_pos h
theorem addM_no {l : List Nd} {n : Nd} (h : hasN l n = false) : addM l n = l ++ [n] := by unfold addM; rw [h]; rfl
theorem namesM_snoc (l t : List Nd) (n : Nd) : namesM l (t ++ [n]) = addM (namesM l t) n := by
  unfold namesM; rw [List.foldl_append]; rfl
theorem idsM_snoc : ∀ (l t : List Nd) (n : Nd), idsM l (t ++ [n]) = idsM l t ++ [ixN (namesM l t) n]
  | _, [], _ => rfl
  | l, x :: t, n => by
    rw [List.cons_append, idsM, idsM, idsM_snoc (addM l x) t n, List.cons_append]; rfl
theorem idsM_len : ∀ (l t : List Nd), (idsM l t).length = t.length
  | _, [] => rfl
  | l, x :: t => by rw [idsM, List.length_cons, List.length_cons, idsM_len]
theorem addM_mem (l : List Nd) (n x : Nd) : x ∈ addM l n ↔ x ∈ l ∨ x = n := by
  cases h : hasN l n
  · rw [addM_no h]; simp
  · rw [addM_yes h]
    have := hasN_iff.1 h
    exact ⟨.inl, fun k => k.elim id fun e => e ▸ this⟩
theorem namesM_mem : ∀ (t l : List Nd) (x : Nd), x ∈ namesM l t ↔ x ∈ l ∨ x ∈ t
  | [], l, x => by simp [namesM]
  | n :: t, l, x => by
    have := namesM_mem t (addM l n) x
    have e : namesM l (n :: t) = namesM (addM l n) t := rfl
    rw [e, this, addM_mem, List.mem_cons, or_assoc]
theorem addM_len (l : List Nd) (n : Nd) : l.length ≤ (addM l n).length ∧ (addM l n).length ≤ l.length + 1 := by
  unfold addM; split <;> simp
theorem namesM_len : ∀ (t l : List Nd), l.length ≤ (namesM l t).length ∧ (namesM l t).length ≤ l.length + t.length
  | [], l => ⟨Nat.le_refl _, Nat.le_refl _⟩
  | n :: t, l => by
    have h1 := namesM_len t (addM l n)
    have h2 := addM_len l n
    have e : namesM l (n :: t) = namesM (addM l n) t := rfl
    rw [e, List.length_cons]; omega
theorem addM_ok {l : List Nd} {n : Nd} (h : okM l = true) (hn : okN n = true) : okM (addM l n) = true := by
  cases k : hasN l n
  · rw [addM_no k]
    obtain ⟨h1, h2⟩ := okM_iff.1 h
    refine okM_iff.2 ⟨fun x hx => ?_, ?_⟩
    · rcases List.mem_append.1 hx with hx | hx
      · exact h1 x hx
      · have : x = n := by simpa using hx
        rw [this]; exact hn
    · refine List.nodup_append.2 ⟨h2, by simp, fun a ha b hb => ?_⟩
      have : b = n := by simpa using hb
      intro e
      exact hasN_not.1 k (this ▸ e ▸ ha)
  · rw [addM_yes k]; exact h
theorem namesM_ok : ∀ (t : List Nd) {l : List Nd}, okM l = true → (∀ n ∈ t, okN n = true) → okM (namesM l t) = true
  | [], _, h, _ => h
  | n :: t, _, h, k => namesM_ok t (addM_ok h (k n List.mem_cons_self)) fun x hx => k x (List.mem_cons_of_mem _ hx)
theorem addM_pre (l : List Nd) (n : Nd) : ∃ t, addM l n = l ++ t := by
  cases k : hasN l n
  · exact ⟨[n], addM_no k⟩
  · exact ⟨[], by rw [addM_yes k, List.append_nil]⟩
theorem namesM_pre : ∀ (t l : List Nd), ∃ r, namesM l t = l ++ r
  | [], l => ⟨[], (List.append_nil l).symm⟩
  | n :: t, l => by
    obtain ⟨r, hr⟩ := namesM_pre t (addM l n)
    obtain ⟨s, hs⟩ := addM_pre l n
    exact ⟨s ++ r, by rw [← List.append_assoc, ← hs, ← hr]; rfl⟩
theorem ixN_names {l t : List Nd} {n : Nd} (h : n ∈ l) : ixN (namesM l t) n = ixN l n := by
  obtain ⟨r, hr⟩ := namesM_pre t l
  rw [hr, ixN_append r h]
theorem ixN_add (l : List Nd) (n : Nd) : ixN (addM l n) n = ixN l n := by
  cases k : hasN l n
  · rw [addM_no k]
    have h1 : n ∈ l ++ [n] := by simp
    have hn := hasN_not.1 k
    rw [ixN_none hn]
    refine ixN_drop (fun j hj e => ?_) (by simp) ?_
    · have : (l ++ [n]).getD j ([], []) = l.getD j ([], []) := by
        rw [List.getD_eq_getElem?_getD, List.getElem?_append_left hj, ← List.getD_eq_getElem?_getD]
      rw [this] at e
      exact hn (e ▸ nd_mem hj)
    · rw [List.getD_eq_getElem?_getD, List.getElem?_append_right (Nat.le_refl _), Nat.sub_self]; rfl
  · rw [addM_yes k]
theorem idsM_map : ∀ (t l : List Nd), idsM l t = t.map (ixN (namesM l t))
  | [], _ => rfl
  | n :: t, l => by
    have e : namesM l (n :: t) = namesM (addM l n) t := rfl
    rw [idsM, List.map_cons, e, ixN_names ((addM_mem l n n).2 (.inr rfl)), ixN_add, idsM_map t (addM l n)]
/-- What is there already is told again: nothing turns. -/
theorem namesM_all : ∀ {t l : List Nd}, (∀ n ∈ t, n ∈ l) → namesM l t = l
  | [], _, _ => rfl
  | n :: t, l, h => by
    have e : namesM l (n :: t) = namesM (addM l n) t := rfl
    rw [e, addM_yes (hasN_iff.2 (h n List.mem_cons_self))]
    exact namesM_all fun x hx => h x (List.mem_cons_of_mem _ hx)
/-- Nodes that are all different, and not there, come behind. -/
theorem namesM_new : ∀ {t l : List Nd}, (l ++ t).Nodup → namesM l t = l ++ t ∧ idsM l t = List.range' l.length t.length
  | [], l, _ => ⟨(List.append_nil l).symm, rfl⟩
  | n :: t, l, h => by
    have hn : n ∉ l := fun k => (List.nodup_append.1 h).2.2 n k n List.mem_cons_self rfl
    have e : namesM l (n :: t) = namesM (addM l n) t := rfl
    have h2 : ((l ++ [n]) ++ t).Nodup := by rw [List.append_assoc]; exact h
    obtain ⟨h3, h4⟩ := namesM_new h2
    have ha := addM_no (hasN_not.2 hn)
    rw [e, idsM, ha, h3, h4, ixN_none hn]
    exact ⟨by simp, by simp [List.range'_succ]⟩
end Go.Proofs.Ythmnoepdedjhjaa

namespace Go.Proofs.Ythmnoepdedjhjaa
open Go.RowKit Go.Maps
set_option maxRecDepth 100000

/-! ### A map that the call makes: each node of a list with its last place -/
structure IMap (w : World) (b nn : Nat) (K : List Nd) : Prop where
  fits : ∀ n ∈ K, fitsN n
  ex : ∃ D : DataW Unit, w.ownsMap Try.prog 26 (plainElem Try.prog 3) b nn D ∧ Maps.size D = dcN K ∧ ∀ n, fitsN n → has D (litN n) = hasN K n ∧ (hasN K n = true → D.atKey (litN n) (.lit (.int .i64 0)) = .lit (.int .i64 (laN K n)))
theorem IMap.made (w : World) : IMap (w.alloc (.map #[] 0)) w.heap.size 0 [] :=
  ⟨(fun n hn => by cases hn), _, World.ownsMap_made w _ _ _, rfl, fun n _ => ⟨by simp [has, hasN], fun h => by simp [hasN] at h⟩⟩
theorem IMap.kept {w w' : World} {b nn : Nat} {K : List Nd} {row : Option Nat} (h : IMap w b nn K) (hg : w.grownBy w' row) (hne : some b ≠ row) : IMap w' b nn K := by
  obtain ⟨hf, D, ho, hD⟩ := h
  exact ⟨hf, D, ho.kept hg hne, hD⟩
theorem IMap.alloc {w : World} {b nn : Nat} {K : List Nd} (h : IMap w b nn K) (o : Obj) : IMap (w.alloc o) b nn K := h.kept (World.grownBy_alloc w o none) (by simp)
theorem IMap.lt {w : World} {b nn : Nat} {K : List Nd} (h : IMap w b nn K) : b < w.heap.size := by obtain ⟨_, D, ho, _⟩ := h; exact ho.lt
theorem IMap.near {w w' : World} {b nn : Nat} {K : List Nd} (h : IMap w b nn K) (hb : w'.heap[b]? = w.heap[b]?) : IMap w' b nn K := by
  obtain ⟨hf, D, ⟨es, clock, he, rest⟩, hD⟩ := h
  exact ⟨hf, D, ⟨es, clock, hb.trans he, rest⟩, hD⟩
theorem IMap.below {w w' : World} {b nn : Nat} {K : List Nd} (h : IMap w b nn K) (hb : Below w.heap.size w w') : IMap w' b nn K := h.near (hb.block b h.lt)
theorem imap_step {D : DataW Unit} {K : List Nd} {n : Nd} (hi : Tidy D) (hn : fitsN n) (hs : Maps.size D = dcN K)
    (hD : ∀ n, fitsN n → has D (litN n) = hasN K n ∧ (hasN K n = true → D.atKey (litN n) (.lit (.int .i64 0)) = .lit (.int .i64 (laN K n)))) :
    Maps.size (D.put (litN n) (.lit (.int .i64 K.length))) = dcN (K ++ [n]) ∧ ∀ m, fitsN m → has (D.put (litN n) (.lit (.int .i64 K.length))) (litN m) = hasN (K ++ [n]) m ∧
      (hasN (K ++ [n]) m = true → (D.put (litN n) (.lit (.int .i64 K.length))).atKey (litN m) (.lit (.int .i64 0)) = .lit (.int .i64 (laN (K ++ [n]) m))) := by
  have hk : WideAt.IsKeyLit (litN n) := node_keyed.key (key_n n hn.1 hn.2)
  refine ⟨?_, fun m hm => ?_⟩
  · rw [size_put hi, (hD n hn).1, hs, dcN_snoc]
  · by_cases e : m = n
    · subst e
      have h1 : hasN (K ++ [m]) m = true := hasN_iff.2 (by simp)
      rw [has_put_same hi.isMap hk, h1, atKey_put_same hi.isMap hk, laN_same]
      exact ⟨rfl, fun _ => rfl⟩
    · have hne : litN m ≠ litN n := fun h => e (litN_inj hm hn h)
      have h1 : hasN (K ++ [n]) m = hasN K m := by
        rw [Bool.eq_iff_iff, hasN_iff, hasN_iff]; simp [e]
      rw [has_put_other hne, h1, atKey_put_other hne, laN_other K (fun h => e h.symm)]
      exact hD m hm

theorem make_imap (n : Int) (w : World) : (Instr.makeMap 56 (some (.int .i64 n))).run Try.prog w = .ok (.map (some w.heap.size)) (w.alloc (.map #[] 0)) := by
  simp [Instr.makeMap, run_underlying Try.underlying56, asInt, asIntOf, Result.andThen]

theorem all_drop {ns : List Nd} {k : Nat} (h : k < ns.length) : (ns.drop k).all okN = (okN (ns.getD k ([], [])) && (ns.drop (k + 1)).all okN) := by
  rw [List.drop_eq_getElem_cons h, List.all_cons, nd_getD h]

set_option maxHeartbeats 1600000 in
theorem imay_any (V : Value) (ns : List Nd) (w : World) (h : Nds w V ns) (hs : ∀ n ∈ ns, smallN n) :
    Calls Try.prog 25 #[V] w fun e w' => e = .returned (.bool (ns.all okN)) ∧ Below w.heap.size w w' := by
  obtain ⟨a, c, rfl, h1, h2, -, -⟩ := h.ex
  unfold maxLen at h2
  obtain ⟨n, hn⟩ : ∃ n, ns.length = n := ⟨_, rfl⟩
  rw [hn] at h1 h ⊢
  obtain ⟨R, hR⟩ : ∃ R, ns.all okN = R := ⟨_, rfl⟩
  rw [hR]
  have HN := Lib.hid hn; have ST := Lib.hid h; have HR := Lib.hid hR; have HS := Lib.hid hs
  clear h hn hR hs
  go_enter Try.func25, Try.ntmps25
  go_wp2
  go_loopw [7] (fun i wr => ∃ k : Nat, k ≤ n ∧ i = .int .i64 k ∧ Hid ((ns.drop k).all okN = R) ∧ Hid (Below w.heap.size w wr)) (fun i _ => n - (intOf i).toNat)
  case atStart => exact ⟨0, Nat.zero_le _, rfl, Lib.hid (by simpa using HR.out), Lib.hid (Below.refl _ _)⟩
  case round =>
    obtain ⟨k, hk, rfl, H, HB⟩ := hrel
    by_cases hlt : k < n
    · have hkl : k < ns.length := by rw [HN.out]; exact hlt
      obtain ⟨b, off, rfl, -, hc0, hc1⟩ := (ST.out.below HB.out).at k hkl
      have hd := all_drop hkl
      have hsm := HS.out _ (nd_mem hkl)
      obtain ⟨y, hy⟩ : ∃ y, y = ns.getD k ([], []) := ⟨_, rfl⟩
      rw [← hy] at hc0 hc1 hd hsm
      obtain ⟨y1, y2⟩ := y
      simp only at hc0 hc1
      obtain ⟨o, ho⟩ : ∃ o, okN (y1, y2) = o := ⟨_, rfl⟩
      rw [ho] at hd
      have HO := Lib.hid ho; have HD := Lib.hid hd; have HSM := Lib.hid hsm
      clear hy ho hd hsm
      have hkb : (k : Int) < (n : Int) := by omega
      cases o
      · go_wp2_with (go_at_call 31; refine (nmay_any y1 y2 _ HSM.out.1 HSM.out.2).mono ?_; rintro e w1 ⟨rfl, hb1⟩; rw [HO.out]; have B1 := Lib.hid hb1; clear hb1)
        go_ret
        exact ⟨by rw [← H.out, HD.out]; rfl, below_step (HB.out.alloc HB.out.size _) B1.out⟩
      · go_wp2_with (go_at_call 31; refine (nmay_any y1 y2 _ HSM.out.1 HSM.out.2).mono ?_; rintro e w1 ⟨rfl, hb1⟩; rw [HO.out]; have B1 := Lib.hid hb1; clear hb1)
        have H5 : Hid ((ns.drop (k + 1)).all okN = R) := Lib.hid (by rw [← H.out, HD.out]; rfl)
        go_roundw
        case rel => exact ⟨k + 1, by omega, by go_num, H5, Lib.hid (below_step (HB.out.alloc HB.out.size _) B1.out)⟩
        case measure => simp [intOf]; omega
    · go_wp2
      go_ret
      refine ⟨?_, HB.out⟩
      rw [← H.out, List.drop_eq_nil_of_le (by rw [HN.out]; omega)]; rfl

set_option maxHeartbeats 1600000 in
theorem inumbers_any (V : Value) (ns : List Nd) (w : World) (h : Nds w V ns) (hf : ∀ n ∈ ns, fitsN n) :
    Calls Try.prog 26 #[V] w fun e w' => ∃ b, e = .returned (.map (some b)) ∧ IMap w' b ns.length ns ∧ w.heap.size ≤ b ∧ Below w.heap.size w w' := by
  obtain ⟨a, c, rfl, h1, h2, -, -⟩ := h.ex
  unfold maxLen at h2
  have hmm := make_imap
  obtain ⟨n, hn⟩ : ∃ n, ns.length = n := ⟨_, rfl⟩
  rw [hn] at h1 h ⊢
  have HN := Lib.hid hn; have ST := Lib.hid h; have HF := Lib.hid hf
  clear h hn hf
  go_enter Try.func26, Try.ntmps26
  go_wp2
  obtain ⟨W, hW⟩ : ∃ W, w.alloc (.map #[] 0) = W := ⟨_, rfl⟩
  have M0 := Lib.hid (IMap.made w)
  have B0 := Lib.hid ((Below.refl w.heap.size w).alloc (Nat.le_refl _) (.map #[] 0))
  rw [hW] at M0 B0 ⊢
  obtain ⟨g, hg⟩ : ∃ g, w.heap.size = g := ⟨_, rfl⟩
  have HG := Lib.hid hg
  rw [hg] at M0 B0 ⊢
  clear hW hg
  go_loopw [11] (fun i wr => ∃ k : Nat, k ≤ n ∧ i = .int .i64 k ∧ Hid (IMap wr g k (ns.take k)) ∧ Hid (Below g w wr)) (fun i _ => n - (intOf i).toNat)
  case atStart => exact ⟨0, Nat.zero_le _, rfl, Lib.hid (by simpa using M0.out), B0⟩
  case round =>
    obtain ⟨k, hk, rfl, HM, HB⟩ := hrel
    by_cases hlt : k < n
    · have hkl : k < ns.length := by rw [HN.out]; exact hlt
      obtain ⟨b, off, rfl, -, hc0, hc1⟩ := (ST.out.below (by rw [HG.out]; exact HB.out)).at k hkl
      have htk : ns.take (k + 1) = ns.take k ++ [ns.getD k ([], [])] := by rw [List.take_succ_eq_append_getElem hkl, nd_getD hkl]
      have hlen : (ns.take k).length = k := by rw [List.length_take]; omega
      have hyf := HF.out _ (nd_mem hkl)
      obtain ⟨y, hy⟩ : ∃ y, y = ns.getD k ([], []) := ⟨_, rfl⟩
      rw [← hy] at hc0 hc1 htk hyf
      obtain ⟨y1, y2⟩ := y
      simp only at hc0 hc1
      have HTK := Lib.hid htk; have HYF := Lib.hid hyf; have HLEN := Lib.hid hlen
      clear hy htk hyf hlen
      obtain ⟨hfk, D, hown, hsz, hD⟩ := HM.out
      have HFK := Lib.hid hfk; have HSZ := Lib.hid hsz; have HD := Lib.hid hD; clear hfk hsz hD
      have hkb : (k : Int) < (n : Int) := by omega
      go_wp2_with (at_mapUpdate; refine wpList_mapUpdate_own _ rfl _ _ _ 56 rfl 26 3 node_keyed Try.underlying56 (plainElem Try.prog 3) g k D rfl (hown.alloc _) (by unfold maxLen; omega) _ _ (litN (y1, y2)) rfl rfl (key_n (y1, y2) HYF.out.1 HYF.out.2) (.lit (.int .i64 k)) [] (plainElem_int Try.underlying3 (WalkArith.wf_i64 (by omega))) ?_; intro w1 hown1 hgrow1)
      have hst := imap_step (hown.tidy node_keyed) HYF.out HSZ.out HD.out
      rw [HLEN.out] at hst
      have hM : IMap w1 g (k + 1) (ns.take (k + 1)) := by
        rw [HTK.out]
        exact ⟨fits_step HFK.out HYF.out, _, hown1, hst.1, hst.2⟩
      have hB : Below g w w1 := by
        have hgs : g ≤ w.heap.size := by rw [HG.out]; exact Nat.le_refl _
        have h0 : g ≤ wr.heap.size := Nat.le_trans hgs HB.out.size
        exact (HB.out.alloc h0 _).grown hgrow1 (by simp; omega) (fun j e => by cases e; exact Nat.le_refl _)
      have HMN := Lib.hid hM; have HBN := Lib.hid hB
      clear hM hB hown1 hgrow1 hown hst
      go_roundw
      case rel => exact ⟨k + 1, by omega, by go_num, HMN, HBN⟩
      case measure => simp [intOf]; omega
    · go_wp2
      go_ret
      have e : k = n := by omega
      subst e
      have hM := HM.out
      rw [List.take_of_length_le (by rw [HN.out]; exact Nat.le_refl _)] at hM
      exact ⟨g, rfl, hM, by rw [HG.out]; exact Nat.le_refl _, by rw [HG.out]; exact HB.out⟩
end Go.Proofs.Ythmnoepdedjhjaa

namespace Go.Proofs.Ythmnoepdedjhjaa
open Go.RowKit Go.Maps
set_option maxRecDepth 100000

theorem imap_near {L : List Nd} {n : Nat} : ∀ (w w' : World) (v : Value) (ob : Option Nat), (∀ b, ob = some b → w'.heap[b]? = w.heap[b]?) → (∃ b, v = .map (some b) ∧ ob = some b ∧ IMap w b n L) → ∃ b, v = .map (some b) ∧ ob = some b ∧ IMap w' b n L := by
  rintro w w' v ob hb ⟨b, rfl, rfl, hm⟩
  exact ⟨b, rfl, rfl, hm.near (hb b rfl)⟩
theorem len_imap {w : World} {b n : Nat} {L : List Nd} (h : IMap w b n L) {t : TypeId} : Sem.run Try.prog (Builtin.len_ #[56] t #[.map (some b)]) w = .ok (.int .i64 (dcN L : Int)) w := by
  obtain ⟨_, D, ho, hs, _⟩ := h
  rw [ho.len Try.underlying56 t, hs]
theorem ldm_slice {w : World} {g n c : Nat} {a : Option Addr} (h : w.cell? ⟨g, 0, none⟩ = some (.slice a n c)) : Sem.run Try.prog (Instr.loadAt 22 (.pointer (some ⟨g, 0, none⟩))) w = .ok (.slice a n c) w := by
  go_simp
theorem ldm_names {w : World} {g n c : Nat} {a : Option Addr} (h : w.cell? ⟨g, 0, none⟩ = some (.slice a n c)) : Sem.run Try.prog (Instr.loadAt 24 (.pointer (some ⟨g, 0, none⟩))) w = .ok (.agg #[.slice a n c]) w := by
  go_simp
theorem bin_lss {w : World} {x y : Nat} {b : Bool} (h : decide (x < y) = b) : Sem.run Try.prog (binOp .lss 3 (.int .i64 (x : Int)) (.int .i64 (y : Int))) w = .ok (.bool b) w := by
  have e : decide ((x : Int) < (y : Int)) = b := by rw [← h]; exact decide_eq_decide.2 (by omega)
  rw [← e]
  go_simp
/-- A parameter's own cell, just laid; the world named. -/
theorem boxM (w : World) (x : Value) (t : TypeId) : ∃ W g, w.alloc (.cells #[x] t) = W ∧ w.heap.size = g ∧ W.cell? ⟨g, 0, none⟩ = some x ∧ Below w.heap.size w W :=
  ⟨_, _, rfl, rfl, cell_new rfl rfl, (Below.refl _ _).alloc (Nat.le_refl _) _⟩
theorem fits_small {l : List Nd} (h : ∀ n ∈ l, smallN n) : ∀ n ∈ l, fitsN n := fun n hn => ⟨Nat.le_trans (h n hn).1 (by decide), Nat.le_trans (h n hn).2 (by decide)⟩

/-- Whether names may be, as a number. -/
def chkM (l : List Nd) : Int := if okM l then 0 else 1
theorem chkM_no {l : List Nd} (h : l.all okN = false) : chkM l = 1 := by unfold chkM okM; rw [h]; rfl
theorem chkM_yes {l : List Nd} (h : l.all okN = true) : chkM l = if decide (dcN l < l.length) then 1 else 0 := by
  unfold chkM okM
  rw [h, Bool.true_and, dcN_lt]
  cases decide l.Nodup <;> rfl

set_option maxHeartbeats 1600000 in
theorem icheck_any (V : Value) (L : List Nd) (w : World) (h : Nds w V L) (hs : ∀ n ∈ L, smallN n) :
    Calls Try.prog 13 #[.agg #[V]] w fun e w' => e = .returned (.int .i64 (chkM L)) ∧ Below w.heap.size w w' := by
  obtain ⟨a, c, rfl, h1, h2, -, -⟩ := h.ex
  unfold maxLen at h2
  obtain ⟨n, hn⟩ : ∃ n, L.length = n := ⟨_, rfl⟩
  rw [hn] at h1 h ⊢
  obtain ⟨W, g, hW, hg, d0, hb⟩ := boxM w (.slice a n c) 24
  have SL := Lib.hid (h.below hb); have SM := Lib.hid hs; have SF := Lib.hid (fits_small hs); have HN := Lib.hid hn; have HW := Lib.hid hW; have HG := Lib.hid hg; have B := Lib.hid hb
  clear h hs hn hW hg hb
  have e1 : ∀ args w, (callFunc 25 args).run Try.prog w = .ok (.enter 25 args) w := enters_of Try.func25 (by kernel_rfl) rfl
  have e2 : ∀ args w, (callFunc 26 args).run Try.prog w = .ok (.enter 26 args) w := enters_of Try.func26 (by kernel_rfl) rfl
  obtain ⟨R, hR⟩ : ∃ R, L.all okN = R := ⟨_, rfl⟩
  have HR := Lib.hid hR
  obtain ⟨C, hC⟩ : ∃ C, chkM L = C := ⟨_, rfl⟩
  rw [hC]
  have HC := Lib.hid hC; clear hC
  go_enter Try.func13, Try.ntmps13
  go_upto_region 1 with fail
  rw [HW.out, HG.out]
  cases R
  · rw [chkM_no hR] at HC
    clear hR
    refine rol_run (by kernel_rfl) [[], [0], [0, 1], [0, 1, 2], [0, 1, 2, 3], [0, 1, 2, 3, 4], [0, 1, 2, 3, 4, 5], [0, 1, 2, 3, 4, 5, 6], [0, 1, 2, 3, 4, 5, 6, 7], [0, 1, 2, 3, 4], [0, 1, 2, 3, 4, 9], [0, 1, 2, 3, 4, 9, 10], [0, 1, 2, 3, 4, 5, 6, 7, 8, 9, 10, 11], [0, 1, 2, 3, 4, 5, 6, 7, 8, 9, 10, 11, 12]] (by kernel_rfl) [3, 4, 5, 6, 7, 8, 9, 10, 11, 12, 13, 14, 15, 16] [[], [0], [1], [2], [3], [4], [4], [4], [4], [4], [4], [4], [4], [4]] [0, 0, 0, 0, 0, 0, 0, 0, 0, 0, 0, 0, 0, 0] [0, 0, 0, 0, 0, 0, 0, 0, 0, 0, 0, 0, 0, 0] [1000, 1000, 1000, 1000, 1000, 1000, 1000, 1000, 1000, 1000, 1000, 1000, 1000, 1000] [.val 3 (.pointer (some ⟨g, 0, none⟩)), .val 4 (.slice a n c), .val 5 (.bool false), .val 6 (.bool true), .val 7 (.bool true), .val 8 undef, .val 9 undef, .val 10 undef, .val 11 undef, .val 12 undef, .val 13 undef, .val 14 undef, .val 15 undef, .val 16 (.bool true)] (by kernel_rfl) ?_ (W.heap.size) (W.heap.size) rfl (Below.refl _ _) rfl (fun _ => 0) ?_ ?_ ?_
    · intro j hj
      have hj3 : j < 14 := hj
      have hj2 : j = 0 ∨ j = 1 ∨ j = 2 ∨ j = 3 ∨ j = 4 ∨ j = 5 ∨ j = 6 ∨ j = 7 ∨ j = 8 ∨ j = 9 ∨ j = 10 ∨ j = 11 ∨ j = 12 ∨ j = 13 := by omega
      clear hj hj3
      rcases hj2 with rfl | rfl | rfl | rfl | rfl | rfl | rfl | rfl | rfl | rfl | rfl | rfl | rfl | rfl
      · exact trivial
      · exact trivial
      · exact trivial
      · exact trivial
      · exact trivial
      · exact trivial
      · exact trivial
      · exact trivial
      · exact trivial
      · exact trivial
      · exact trivial
      · exact trivial
      · exact trivial
      · exact trivial
    · intro j hj0 hj
      exact absurd hj (Nat.not_lt.2 hj0)
    · intro i hi a wx who hG hF
      have hz : a.tmps.size = 17 := hG.size
      have hi3 : i < 14 := hi
      have hi2 : i = 0 ∨ i = 1 ∨ i = 2 ∨ i = 3 ∨ i = 4 ∨ i = 5 ∨ i = 6 ∨ i = 7 ∨ i = 8 ∨ i = 9 ∨ i = 10 ∨ i = 11 ∨ i = 12 ∨ i = 13 := by omega
      clear hi hi3
      rcases hi2 with rfl | rfl | rfl | rfl | rfl | rfl | rfl | rfl | rfl | rfl | rfl | rfl | rfl | rfl
      · exact rol_val rfl rfl rfl (by rw [hz]; decide) (ex_field rfl (eval_slot ((hG.slots 1 (by decide)).trans rfl)) (by go_simp)) hG.below
      · exact rol_val rfl rfl rfl (by rw [hz]; decide) (ex_load rfl (eval_slot (hF 0 (by decide))) (ldm_slice (cell_keep d0 hG.below))) hG.below
      · refine rol_call rfl rfl rfl (by rw [hz]; decide) (ex_call rfl (by simp [eval_slot (hF 1 (by decide))]) e1) (imay_any _ _ wx (SL.out.below hG.below) SM.out) ?_ hG.below hG.new
        rintro e w1 ⟨rfl, hb1⟩
        rw [HR.out]
        exact ⟨_, rfl, hb1, .inl rfl⟩
      · exact rol_val rfl rfl rfl (by rw [hz]; decide) (ex_un rfl (eval_slot (hF 2 (by decide))) rfl) hG.below
      · exact rol_val rfl rfl rfl (by rw [hz]; decide) (ex_move (Or.inl rfl) (eval_slot (hF 3 (by decide)))) hG.below
      · exact rol_val_skip rfl (want_no rfl rfl (hF 4 (by decide)) (by decide)) rfl (by rw [hz]; decide) hG.below
      · exact rol_val_skip rfl (want_no rfl rfl (hF 4 (by decide)) (by decide)) rfl (by rw [hz]; decide) hG.below
      · exact rol_val_skip rfl (want_no rfl rfl (hF 4 (by decide)) (by decide)) rfl (by rw [hz]; decide) hG.below
      · exact rol_val_skip rfl (want_no rfl rfl (hF 4 (by decide)) (by decide)) rfl (by rw [hz]; decide) hG.below
      · exact rol_val_skip rfl (want_no rfl rfl (hF 4 (by decide)) (by decide)) rfl (by rw [hz]; decide) hG.below
      · exact rol_val_skip rfl (want_no rfl rfl (hF 4 (by decide)) (by decide)) rfl (by rw [hz]; decide) hG.below
      · exact rol_val_skip rfl (want_no rfl rfl (hF 4 (by decide)) (by decide)) rfl (by rw [hz]; decide) hG.below
      · exact rol_val_skip rfl (want_no rfl rfl (hF 4 (by decide)) (by decide)) rfl (by rw [hz]; decide) hG.below
      · exact rol_val rfl rfl rfl (by rw [hz]; decide) (ex_pick_yes rfl (eval_slot (hF 4 (by decide))) rfl) hG.below
    · intro a wx who hG hF
      have fv16 : a.tmps.getD 16 undef = .bool true := eval_slot (s := 16) (hF 13 (of_decide_eq_true (by kernel_rfl)) (of_decide_eq_true (by kernel_rfl)))
      have hbx := hG.below
      have hnx := hG.new
      rw [hG.frame]
      simp only [List.foldl_cons, List.foldl_nil, List.setIfInBounds_toArray, List.set_cons_zero, List.set_cons_succ]
      generalize a.tmps.getD 3 undef = u3
      generalize a.tmps.getD 4 undef = u4
      generalize a.tmps.getD 5 undef = u5
      generalize a.tmps.getD 6 undef = u6
      generalize a.tmps.getD 7 undef = u7
      generalize a.tmps.getD 8 undef = u8
      generalize a.tmps.getD 9 undef = u9
      generalize a.tmps.getD 10 undef = u10
      generalize a.tmps.getD 11 undef = u11
      generalize a.tmps.getD 12 undef = u12
      generalize a.tmps.getD 13 undef = u13
      generalize a.tmps.getD 14 undef = u14
      generalize a.tmps.getD 15 undef = u15
      rw [fv16]
      clear hF hG fv16
      go_wp2
      go_ret
      exact ⟨by rw [← HC.out]; rfl, below_step B.out hbx⟩
  · obtain ⟨X, hX⟩ : ∃ X, decide (dcN L < n) = X := ⟨_, rfl⟩
    rw [chkM_yes hR, HN.out, hX] at HC
    clear hR
    have HX := Lib.hid hX; clear hX
    refine rol_run (by kernel_rfl) [[], [0], [0, 1], [0, 1, 2], [0, 1, 2, 3], [0, 1, 2, 3, 4], [0, 1, 2, 3, 4, 5], [0, 1, 2, 3, 4, 5, 6], [0, 1, 2, 3, 4, 5, 6, 7], [0, 1, 2, 3, 4], [0, 1, 2, 3, 4, 9], [0, 1, 2, 3, 4, 9, 10], [0, 1, 2, 3, 4, 5, 6, 7, 8, 9, 10, 11], [0, 1, 2, 3, 4, 5, 6, 7, 8, 9, 10, 11, 12]] (by kernel_rfl) [3, 4, 5, 6, 7, 8, 9, 10, 11, 12, 13, 14, 15, 16] [[], [0], [1], [2], [3], [4], [4, 5], [4, 6], [4, 7], [4], [4, 9], [4, 10], [4, 8, 11], [4, 12]] [0, 0, 0, 0, 0, 0, 0, 1, 0, 0, 0, 0, 0, 0] [0, 0, 0, 0, 0, 0, 0, 1, 0, 0, 0, 0, 0, 0] [1000, 1000, 1000, 1000, 1000, 1000, 1000, 1000, 1000, 1000, 1000, 1000, 1000, 1000] [.val 3 (.pointer (some ⟨g, 0, none⟩)), .val 4 (.slice a n c), .val 5 (.bool true), .val 6 (.bool false), .val 7 (.bool false), .val 8 (.pointer (some ⟨g, 0, none⟩)), .val 9 (.slice a n c), .mem 10 (fun w v ob => ∃ b, v = .map (some b) ∧ ob = some b ∧ IMap w b n L), .val 11 (.int .i64 (dcN L : Int)), .val 12 (.pointer (some ⟨g, 0, none⟩)), .val 13 (.slice a n c), .val 14 (.int .i64 (n : Int)), .val 15 (.bool X), .val 16 (.bool X)] (by kernel_rfl) ?_ (W.heap.size) (W.heap.size) rfl (Below.refl _ _) rfl (fun _ => 0) ?_ ?_ ?_
    · intro j hj
      have hj3 : j < 14 := hj
      have hj2 : j = 0 ∨ j = 1 ∨ j = 2 ∨ j = 3 ∨ j = 4 ∨ j = 5 ∨ j = 6 ∨ j = 7 ∨ j = 8 ∨ j = 9 ∨ j = 10 ∨ j = 11 ∨ j = 12 ∨ j = 13 := by omega
      clear hj hj3
      rcases hj2 with rfl | rfl | rfl | rfl | rfl | rfl | rfl | rfl | rfl | rfl | rfl | rfl | rfl | rfl
      · exact trivial
      · exact trivial
      · exact trivial
      · exact trivial
      · exact trivial
      · exact trivial
      · exact trivial
      · exact imap_near
      · exact trivial
      · exact trivial
      · exact trivial
      · exact trivial
      · exact trivial
      · exact trivial
    · intro j hj0 hj
      exact absurd hj (Nat.not_lt.2 hj0)
    · intro i hi a wx who hG hF
      have hz : a.tmps.size = 17 := hG.size
      have hi3 : i < 14 := hi
      have hi2 : i = 0 ∨ i = 1 ∨ i = 2 ∨ i = 3 ∨ i = 4 ∨ i = 5 ∨ i = 6 ∨ i = 7 ∨ i = 8 ∨ i = 9 ∨ i = 10 ∨ i = 11 ∨ i = 12 ∨ i = 13 := by omega
      clear hi hi3
      rcases hi2 with rfl | rfl | rfl | rfl | rfl | rfl | rfl | rfl | rfl | rfl | rfl | rfl | rfl | rfl
      · exact rol_val rfl rfl rfl (by rw [hz]; decide) (ex_field rfl (eval_slot ((hG.slots 1 (by decide)).trans rfl)) (by go_simp)) hG.below
      · exact rol_val rfl rfl rfl (by rw [hz]; decide) (ex_load rfl (eval_slot (hF 0 (by decide))) (ldm_slice (cell_keep d0 hG.below))) hG.below
      · refine rol_call rfl rfl rfl (by rw [hz]; decide) (ex_call rfl (by simp [eval_slot (hF 1 (by decide))]) e1) (imay_any _ _ wx (SL.out.below hG.below) SM.out) ?_ hG.below hG.new
        rintro e w1 ⟨rfl, hb1⟩
        rw [HR.out]
        exact ⟨_, rfl, hb1, .inl rfl⟩
      · exact rol_val rfl rfl rfl (by rw [hz]; decide) (ex_un rfl (eval_slot (hF 2 (by decide))) rfl) hG.below
      · exact rol_val rfl rfl rfl (by rw [hz]; decide) (ex_move (Or.inl rfl) (eval_slot (hF 3 (by decide)))) hG.below
      · exact rol_val rfl (want_yes rfl rfl (hF 4 (by decide))) rfl (by rw [hz]; decide) (ex_field rfl (eval_slot ((hG.slots 1 (by decide)).trans rfl)) (by go_simp)) hG.below
      · exact rol_val rfl (want_yes rfl rfl (hF 4 (by decide))) rfl (by rw [hz]; decide) (ex_load rfl (eval_slot (hF 5 (by decide))) (ldm_slice (cell_keep d0 hG.below))) hG.below
      · refine rol_call rfl (want_yes rfl rfl (hF 4 (by decide))) rfl (by rw [hz]; decide) (ex_call rfl (by simp [eval_slot (hF 6 (by decide))]) e2) (inumbers_any _ _ wx (SL.out.below hG.below) SF.out) ?_ hG.below hG.new
        rintro e w1 ⟨b, rfl, hm, hb, hb1⟩
        rw [HN.out] at hm
        exact ⟨_, rfl, hb1, .inr ⟨_, some b, rfl, fun _ e => by cases e; exact ⟨hb, hm.lt⟩, b, rfl, rfl, hm⟩⟩
      · obtain ⟨v, ob, hv, -, b, rfl, -, hm⟩ := hF 7 (by decide)
        exact rol_val rfl (want_yes rfl rfl (hF 4 (by decide))) rfl (by rw [hz]; decide) (ex_len rfl (eval_slot hv) (len_imap hm)) hG.below
      · exact rol_val rfl (want_yes rfl rfl (hF 4 (by decide))) rfl (by rw [hz]; decide) (ex_field rfl (eval_slot ((hG.slots 1 (by decide)).trans rfl)) (by go_simp)) hG.below
      · exact rol_val rfl (want_yes rfl rfl (hF 4 (by decide))) rfl (by rw [hz]; decide) (ex_load rfl (eval_slot (hF 9 (by decide))) (ldm_slice (cell_keep d0 hG.below))) hG.below
      · exact rol_val rfl (want_yes rfl rfl (hF 4 (by decide))) rfl (by rw [hz]; decide) (ex_len rfl (eval_slot (hF 10 (by decide))) (by go_simp)) hG.below
      · exact rol_val rfl (want_yes rfl rfl (hF 4 (by decide))) rfl (by rw [hz]; decide) (ex_bin rfl (eval_slot (hF 8 (by decide))) (eval_slot (hF 11 (by decide))) rfl (bin_lss HX.out)) hG.below
      · exact rol_val rfl rfl rfl (by rw [hz]; decide) (ex_pick_no rfl (eval_slot (hF 4 (by decide))) (eval_slot (hF 12 (by decide)))) hG.below
    · intro a wx who hG hF
      have fv16 : a.tmps.getD 16 undef = .bool X := eval_slot (s := 16) (hF 13 (of_decide_eq_true (by kernel_rfl)) (of_decide_eq_true (by kernel_rfl)))
      have hbx := hG.below
      have hnx := hG.new
      rw [hG.frame]
      simp only [List.foldl_cons, List.foldl_nil, List.setIfInBounds_toArray, List.set_cons_zero, List.set_cons_succ]
      generalize a.tmps.getD 3 undef = u3
      generalize a.tmps.getD 4 undef = u4
      generalize a.tmps.getD 5 undef = u5
      generalize a.tmps.getD 6 undef = u6
      generalize a.tmps.getD 7 undef = u7
      generalize a.tmps.getD 8 undef = u8
      generalize a.tmps.getD 9 undef = u9
      generalize a.tmps.getD 10 undef = u10
      generalize a.tmps.getD 11 undef = u11
      generalize a.tmps.getD 12 undef = u12
      generalize a.tmps.getD 13 undef = u13
      generalize a.tmps.getD 14 undef = u14
      generalize a.tmps.getD 15 undef = u15
      rw [fv16]
      clear hF hG fv16
      cases X
      · go_wp2
        go_ret
        exact ⟨by rw [← HC.out]; rfl, below_step B.out hbx⟩
      · go_wp2
        go_ret
        exact ⟨by rw [← HC.out]; rfl, below_step B.out hbx⟩
end Go.Proofs.Ythmnoepdedjhjaa
