/- THE TEXTS OF StoM NodF NodP StoD: Texts by nodes: plain facts. Whether a list of nodes is a set: of the program. The document's own: is a list a set, a set without another one's nodes, a set with a node, a list's set. Stores of the program and of the document: may they be, are they the same. -/
import Derived.Test.YtceefoiffkgliaaNodM
import Derived.Test.YtceefoiffkgliaaNodG
import Derived.Deep.Draws
import Derived.Deep.QuietTactic
import Derived.BigQuiet
import Derived.Deep.RegionWith
import Derived.Deep.CutRange
import Derived.Deep.DeepCutAuto
import Derived.Deep.RegionHeld3
import Derived.Deep.DrawnRows
import Derived.Test.YtceefoiffkgliaaNodN
import Derived.Test.YtceefoiffkgliaaStoB
namespace Go.Proofs.Ytceefoiffkgliaa
set_option linter.unusedVariables false
set_option maxRecDepth 100000

abbrev Txt := List UInt8
abbrev Sto := List (Nd × Txt)
def okS (K : List Nd) (T : List Txt) : Bool := checkN K && decide (K.length = T.length)
def okP (S : Sto) : Bool := checkN (S.map Prod.fst)
def putP (S : Sto) (n : Nd) (t : Txt) : Sto := (S.filter fun x => ltN x.1 n) ++ (n, t) :: S.filter fun x => ltN n x.1
def dropP (S : Sto) (n : Nd) : Sto := S.filter fun x => !decide (x.1 = n)
def getP (S : Sto) (n : Nd) : Txt := match S.find? fun x => decide (x.1 = n) with | some x => x.2 | none => []
abbrev hasP (S : Sto) (n : Nd) : Bool := hasN (S.map Prod.fst) n

theorem zip_maps (S : Sto) : (S.map Prod.fst).zip (S.map Prod.snd) = S := by
  induction S with
  | nil => rfl
  | cons x S ih => simp [ih]
theorem okS_zip {K : List Nd} {T : List Txt} (h : okS K T = true) : (K.zip T).map Prod.fst = K ∧ (K.zip T).map Prod.snd = T ∧ okP (K.zip T) = true := by
  unfold okS at h
  rw [Bool.and_eq_true, decide_eq_true_iff] at h
  have e1 : (K.zip T).map Prod.fst = K := List.map_fst_zip (Nat.le_of_eq h.2)
  exact ⟨e1, List.map_snd_zip (Nat.le_of_eq h.2.symm), by unfold okP; rw [e1]; exact h.1⟩
theorem okS_of {S : Sto} (h : okP S = true) : okS (S.map Prod.fst) (S.map Prod.snd) = true := by
  unfold okS okP at *; rw [h]; simp

abbrev RiseP (S : Sto) : Prop := S.Pairwise fun a b => ltN a.1 b.1 = true
theorem okP_iff {S : Sto} : okP S = true ↔ (∀ x ∈ S, okN x.1 = true) ∧ RiseP S := by
  unfold okP
  rw [checkN_iff]
  unfold Rises RiseP
  rw [List.pairwise_map]
  refine and_congr ⟨fun h x hx => h _ (List.mem_map_of_mem hx), fun h n hn => ?_⟩ Iff.rfl
  obtain ⟨x, hx, rfl⟩ := List.mem_map.1 hn
  exact h x hx
theorem okP_ok {S : Sto} (h : okP S = true) : ∀ x ∈ S, okN x.1 = true := (okP_iff.1 h).1
theorem okP_rise {S : Sto} (h : okP S = true) : RiseP S := (okP_iff.1 h).2
theorem rise_same {S : Sto} (h : RiseP S) {x y : Nd × Txt} (hx : x ∈ S) (hy : y ∈ S) (e : x.1 = y.1) : x = y := by
  obtain ⟨i, hi, rfl⟩ := List.getElem_of_mem hx
  obtain ⟨j, hj, rfl⟩ := List.getElem_of_mem hy
  rcases Nat.lt_trichotomy i j with k | k | k
  · have := List.pairwise_iff_getElem.1 h i j hi hj k
    rw [e, ltN_irrefl] at this; cases this
  · subst k; rfl
  · have := List.pairwise_iff_getElem.1 h j i hj hi k
    rw [e, ltN_irrefl] at this; cases this
theorem rise_nodup {S : Sto} (h : RiseP S) : S.Nodup := List.Pairwise.imp (fun {a b} k e => by subst e; rw [ltN_irrefl] at k; cases k) h
theorem rise_eq : ∀ {l m : Sto}, RiseP l → RiseP m → (∀ n, n ∈ l ↔ n ∈ m) → l = m
  | [], m, _, _, h => by
    cases m with
    | nil => rfl
    | cons y r => exact absurd ((h y).2 List.mem_cons_self) (by simp)
  | x :: l, [], _, _, h => absurd ((h x).1 List.mem_cons_self) (by simp)
  | x :: l, y :: m, hl, hm, h => by
    obtain ⟨h1, h2⟩ := List.pairwise_cons.1 hl
    obtain ⟨k1, k2⟩ := List.pairwise_cons.1 hm
    have e : x = y := by
      rcases List.mem_cons.1 ((h x).1 List.mem_cons_self) with e | hx
      · exact e
      · rcases List.mem_cons.1 ((h y).2 List.mem_cons_self) with e | hy
        · exact e.symm
        · have a := k1 x hx
          have b := h1 y hy
          rw [ltN_asym a] at b; cases b
    subst e
    have nx : x ∉ l := fun hx => by have := h1 x hx; rw [ltN_irrefl] at this; cases this
    have mx : x ∉ m := fun hx => by have := k1 x hx; rw [ltN_irrefl] at this; cases this
    rw [rise_eq h2 k2 (fun n => ?_)]
    constructor
    · intro hn
      rcases List.mem_cons.1 ((h n).1 (List.mem_cons_of_mem _ hn)) with e | hm'
      · subst e; exact absurd hn nx
      · exact hm'
    · intro hn
      rcases List.mem_cons.1 ((h n).2 (List.mem_cons_of_mem _ hn)) with e | hm'
      · subst e; exact absurd hn mx
      · exact hm'
theorem sto_eq {S S' : Sto} (h : okP S = true) (h' : okP S' = true) (m : ∀ x, x ∈ S ↔ x ∈ S') : S = S' := rise_eq (okP_rise h) (okP_rise h') m
theorem sto_perm {S S' : Sto} (h : S.Nodup) (h' : S'.Nodup) (m : ∀ x, x ∈ S ↔ x ∈ S') : S.length = S'.length := ((List.perm_ext_iff_of_nodup h h').2 m).length_eq

/-! ### Who is there -/
theorem hasP_iff {S : Sto} {n : Nd} : hasP S n = true ↔ ∃ t, (n, t) ∈ S := by
  unfold hasP
  rw [hasN_iff, List.mem_map]
  constructor
  · rintro ⟨⟨a, t⟩, h, rfl⟩; exact ⟨t, h⟩
  · rintro ⟨t, h⟩; exact ⟨_, h, rfl⟩
theorem hasP_not {S : Sto} {n : Nd} : hasP S n = false ↔ ∀ t, (n, t) ∉ S := by
  rw [← Bool.not_eq_true, hasP_iff]; exact ⟨fun h t ht => h ⟨t, ht⟩, fun h ⟨t, ht⟩ => h t ht⟩
theorem getP_mem {S : Sto} (h : RiseP S) {n : Nd} {t : Txt} (hm : (n, t) ∈ S) : getP S n = t := by
  unfold getP
  cases e : S.find? (fun x => decide (x.1 = n)) with
  | none =>
    have := List.find?_eq_none.1 e _ hm
    simp at this
  | some x =>
    have h1 : x.1 = n := by simpa using List.find?_some e
    have h2 := List.mem_of_find?_eq_some e
    rw [rise_same h h2 hm h1]
theorem getP_none {S : Sto} {n : Nd} (h : hasP S n = false) : getP S n = [] := by
  unfold getP
  cases e : S.find? (fun x => decide (x.1 = n)) with
  | none => rfl
  | some x =>
    have h1 : x.1 = n := by simpa using List.find?_some e
    have h2 := List.mem_of_find?_eq_some e
    obtain ⟨a, t⟩ := x
    simp only at h1
    subst h1
    exact absurd h2 (hasP_not.1 h t)
theorem getP_in {S : Sto} (h : RiseP S) {n : Nd} (hm : hasP S n = true) : (n, getP S n) ∈ S := by
  obtain ⟨t, ht⟩ := hasP_iff.1 hm
  rw [getP_mem h ht]; exact ht
theorem get_same {S S' : Sto} (h : RiseP S) (h' : RiseP S') {n : Nd} (hm : ∀ t, (n, t) ∈ S ↔ (n, t) ∈ S') : hasP S n = hasP S' n ∧ getP S n = getP S' n := by
  have e : hasP S n = hasP S' n := by
    rw [Bool.eq_iff_iff, hasP_iff, hasP_iff]
    exact ⟨fun ⟨t, ht⟩ => ⟨t, (hm t).1 ht⟩, fun ⟨t, ht⟩ => ⟨t, (hm t).2 ht⟩⟩
  refine ⟨e, ?_⟩
  cases hs : hasP S n
  · rw [getP_none hs, getP_none (by rw [← e]; exact hs)]
  · rw [getP_mem h ((hm _).2 (getP_in h' (by rw [← e]; exact hs)))]

/-! ### Put and Drop -/
theorem put_mem {S : Sto} {n : Nd} {t : Txt} (hS : okP S = true) (hn : okN n = true) (x : Nd × Txt) : x ∈ putP S n t ↔ (x ∈ S ∧ x.1 ≠ n) ∨ x = (n, t) := by
  unfold putP
  simp only [List.mem_append, List.mem_filter, List.mem_cons]
  constructor
  · rintro (⟨h, k⟩ | rfl | ⟨h, k⟩)
    · exact .inl ⟨h, fun e => by rw [e, ltN_irrefl] at k; cases k⟩
    · exact .inr rfl
    · exact .inl ⟨h, fun e => by rw [e, ltN_irrefl] at k; cases k⟩
  · rintro (⟨h, k⟩ | rfl)
    · rcases ltN_tri (okP_ok hS x h) hn with g | g | g
      · exact .inl ⟨h, g⟩
      · exact absurd g k
      · exact .inr (.inr ⟨h, g⟩)
    · exact .inr (.inl rfl)
theorem drop_mem {S : Sto} {n : Nd} (x : Nd × Txt) : x ∈ dropP S n ↔ x ∈ S ∧ x.1 ≠ n := by
  unfold dropP; rw [List.mem_filter]; simp
theorem put_rise {S : Sto} {n : Nd} {t : Txt} (h : RiseP S) : RiseP (putP S n t) := by
  unfold putP
  refine List.pairwise_append.2 ⟨h.filter _, List.pairwise_cons.2 ⟨fun x hx => (List.mem_filter.1 hx).2, h.filter _⟩, fun x hx y hy => ?_⟩
  have hx' := (List.mem_filter.1 hx).2
  rcases List.mem_cons.1 hy with rfl | hy
  · exact hx'
  · exact ltN_trans hx' (List.mem_filter.1 hy).2
theorem put_ok {S : Sto} {n : Nd} {t : Txt} (h : okP S = true) (hn : okN n = true) : okP (putP S n t) = true :=
  okP_iff.2 ⟨fun x hx => by
    rcases (put_mem h hn x).1 hx with ⟨k, _⟩ | rfl
    · exact okP_ok h x k
    · exact hn, put_rise (okP_rise h)⟩
theorem drop_ok {S : Sto} {n : Nd} (h : okP S = true) : okP (dropP S n) = true :=
  okP_iff.2 ⟨fun x hx => okP_ok h x ((drop_mem x).1 hx).1, (okP_rise h).filter _⟩
theorem put_has {S : Sto} {n : Nd} {t : Txt} (h : okP S = true) (hn : okN n = true) : hasP (putP S n t) n = true := hasP_iff.2 ⟨t, (put_mem h hn _).2 (.inr rfl)⟩
theorem put_get {S : Sto} {n : Nd} {t : Txt} (h : okP S = true) (hn : okN n = true) : getP (putP S n t) n = t := getP_mem (put_rise (okP_rise h)) ((put_mem h hn _).2 (.inr rfl))
theorem put_other' {S : Sto} {n o : Nd} {t : Txt} (h : okP S = true) (hn : okN n = true) (ho : o ≠ n) : hasP (putP S n t) o = hasP S o ∧ getP (putP S n t) o = getP S o :=
  get_same (put_rise (okP_rise h)) (okP_rise h) fun _ => by
    rw [put_mem h hn]
    exact ⟨fun k => k.elim (fun k => k.1) (fun e => absurd (Prod.mk.inj e).1 ho), fun k => .inl ⟨k, ho⟩⟩
theorem drop_has {S : Sto} {n : Nd} : hasP (dropP S n) n = false := hasP_not.2 fun t ht => ((drop_mem _).1 ht).2 rfl
theorem drop_other {S : Sto} {n o : Nd} (h : okP S = true) (ho : o ≠ n) : hasP (dropP S n) o = hasP S o ∧ getP (dropP S n) o = getP S o :=
  get_same (S := dropP S n) ((okP_rise h).filter _) (okP_rise h) fun _ => by
    rw [drop_mem]; exact ⟨fun k => k.1, fun k => ⟨k, ho⟩⟩
theorem put_put {S : Sto} {n o : Nd} {a b : Txt} (h : okP S = true) (hn : okN n = true) (ho : okN o = true) (hne : n ≠ o) : putP (putP S n a) o b = putP (putP S o b) n a :=
  sto_eq (put_ok (put_ok h hn) ho) (put_ok (put_ok h ho) hn) fun x => by
    rw [put_mem (put_ok h hn) ho, put_mem h hn, put_mem (put_ok h ho) hn, put_mem h ho]
    constructor
    · rintro (⟨⟨k1, k2⟩ | rfl, k3⟩ | rfl)
      · exact .inl ⟨.inl ⟨k1, k3⟩, k2⟩
      · exact .inr rfl
      · exact .inl ⟨.inr rfl, fun e => hne e.symm⟩
    · rintro (⟨⟨k1, k2⟩ | rfl, k3⟩ | rfl)
      · exact .inl ⟨.inl ⟨k1, k3⟩, k2⟩
      · exact .inr rfl
      · exact .inl ⟨.inr rfl, fun e => hne e⟩
theorem drop_len {S : Sto} {n : Nd} (h : okP S = true) (hm : hasP S n = true) : S.length = (dropP S n).length + 1 := by
  have hd := rise_nodup (okP_rise h)
  refine sto_perm (S' := (n, getP S n) :: dropP S n) hd (List.nodup_cons.2 ⟨fun k => ((drop_mem _).1 k).2 rfl, hd.filter _⟩) fun x => ?_
  rw [List.mem_cons, drop_mem]
  constructor
  · intro hx
    by_cases e : x.1 = n
    · exact .inl (rise_same (okP_rise h) hx (getP_in (okP_rise h) hm) e)
    · exact .inr ⟨hx, e⟩
  · rintro (rfl | ⟨k, _⟩)
    · exact getP_in (okP_rise h) hm
    · exact k
theorem drop_none {S : Sto} {n : Nd} (hm : hasP S n = false) : dropP S n = S := by
  unfold dropP
  rw [List.filter_eq_self]
  intro x hx
  have : x.1 ≠ n := fun e => hasP_not.1 hm x.2 (by rw [← e]; exact hx)
  simp [this]
theorem put_len {S : Sto} {n : Nd} {t : Txt} (h : okP S = true) (hn : okN n = true) : (putP S n t).length = (dropP S n).length + 1 := by
  have := drop_len (put_ok h hn (t := t)) (put_has h hn)
  rw [this]
  congr 1
  refine sto_perm ((rise_nodup (put_rise (okP_rise h))).filter _) ((rise_nodup (okP_rise h)).filter _) fun x => ?_
  rw [drop_mem, drop_mem, put_mem h hn]
  exact ⟨fun ⟨k1, k2⟩ => k1.elim (fun k => k) (fun e => absurd (by rw [e]) k2), fun k => ⟨.inl k, k.2⟩⟩
theorem put_len_le (S : Sto) (n : Nd) (t : Txt) (h : okP S = true) (hn : okN n = true) : (putP S n t).length ≤ S.length + 1 := by
  rw [put_len h hn]; have : (dropP S n).length ≤ S.length := List.length_filter_le _ _; omega
theorem drop_len_le (S : Sto) (n : Nd) : (dropP S n).length ≤ S.length := List.length_filter_le _ _

/-! ### By places -/
theorem filter_take {α : Type} {l : List α} {f : α → Bool} {i : Nat} (hi : i ≤ l.length) (h1 : ∀ t (ht : t < l.length), t < i → f l[t] = true) (h2 : ∀ t (ht : t < l.length), i ≤ t → f l[t] = false) : l.filter f = l.take i := by
  have e1 : (l.take i).filter f = l.take i := List.filter_eq_self.2 fun x hx => by
    obtain ⟨t, ht, rfl⟩ := List.getElem_of_mem hx
    rw [List.length_take] at ht
    rw [List.getElem_take]; exact h1 t (by omega) (by omega)
  have e2 : (l.drop i).filter f = [] := List.filter_eq_nil_iff.2 fun x hx => by
    obtain ⟨t, ht, rfl⟩ := List.getElem_of_mem hx
    rw [List.length_drop] at ht
    rw [List.getElem_drop, h2 (i + t) (by omega) (by omega)]; simp
  conv => lhs; rw [← List.take_append_drop i l, List.filter_append, e1, e2, List.append_nil]
theorem filter_drop {α : Type} {l : List α} {f : α → Bool} {i : Nat} (h1 : ∀ t (ht : t < l.length), t < i → f l[t] = false) (h2 : ∀ t (ht : t < l.length), i ≤ t → f l[t] = true) : l.filter f = l.drop i := by
  have e1 : (l.take i).filter f = [] := List.filter_eq_nil_iff.2 fun x hx => by
    obtain ⟨t, ht, rfl⟩ := List.getElem_of_mem hx
    rw [List.length_take] at ht
    rw [List.getElem_take, h1 t (by omega) (by omega)]; simp
  have e2 : (l.drop i).filter f = l.drop i := List.filter_eq_self.2 fun x hx => by
    obtain ⟨t, ht, rfl⟩ := List.getElem_of_mem hx
    rw [List.length_drop] at ht
    rw [List.getElem_drop]; exact h2 (i + t) (by omega) (by omega)
  conv => lhs; rw [← List.take_append_drop i l, List.filter_append, e1, e2, List.nil_append]
/-- Place i is where n's key is, or would go. -/
structure Spot (S : Sto) (n : Nd) (i : Nat) : Prop where
  le : i ≤ S.length
  low : ∀ t (ht : t < S.length), t < i → ltN (S[t]).1 n = true
  high : ∀ t (ht : t < S.length), i ≤ t → ltN (S[t]).1 n = false
theorem Spot.at {S : Sto} {n : Nd} {i : Nat} (h : Spot S n i) (hS : okP S = true) (hm : hasP S n = true) : ∃ hi : i < S.length, (S[i]).1 = n := by
  obtain ⟨t, ht⟩ := hasP_iff.1 hm
  obtain ⟨j, hj, e⟩ := List.getElem_of_mem ht
  have hji : ¬ j < i := fun k => by have := h.low j hj k; rw [e, ltN_irrefl] at this; cases this
  have hi : i < S.length := by omega
  refine ⟨hi, ?_⟩
  rcases Nat.lt_or_ge i j with k | k
  · have h1 := List.pairwise_iff_getElem.1 (okP_rise hS) i j hi hj k
    rw [e, h.high i hi (Nat.le_refl _)] at h1; cases h1
  · have : i = j := by omega
    subst this; rw [e]
theorem Spot.above {S : Sto} {n : Nd} {i : Nat} (h : Spot S n i) (hS : okP S = true) (hn : okN n = true) (t : Nat) (ht : t < S.length) (hit : i ≤ t) (hne : (S[t]).1 ≠ n) : ltN n (S[t]).1 = true := by
  rcases ltN_tri (okP_ok hS _ (List.getElem_mem ht)) hn with k | k | k
  · rw [h.high t ht hit] at k; cases k
  · exact absurd k hne
  · exact k
theorem Spot.ahead {S : Sto} {n : Nd} {i : Nat} (h : Spot S n i) : (S.filter fun x => ltN x.1 n) = S.take i := filter_take h.le h.low h.high
theorem put_in {S : Sto} {n : Nd} {t : Txt} {i : Nat} (h : Spot S n i) (hS : okP S = true) (hn : okN n = true) (hm : hasP S n = true) : putP S n t = S.take i ++ [(n, t)] ++ S.drop (i + 1) := by
  obtain ⟨hi, e⟩ := h.at hS hm
  have e2 : (S.filter fun x => ltN n x.1) = S.drop (i + 1) := filter_drop (fun t ht k => by
    rcases Nat.lt_or_ge t i with g | g
    · exact ltN_asym (h.low t ht g)
    · have : t = i := by omega
      subst this; rw [e, ltN_irrefl]) fun t ht k => h.above hS hn t ht (by omega) fun e2 => by
        have := List.pairwise_iff_getElem.1 (okP_rise hS) i t hi ht (by omega)
        rw [e, e2, ltN_irrefl] at this; cases this
  unfold putP
  rw [h.ahead, e2]; simp
theorem put_out {S : Sto} {n : Nd} {t : Txt} {i : Nat} (h : Spot S n i) (hS : okP S = true) (hn : okN n = true) (hm : hasP S n = false) : putP S n t = S.take i ++ [(n, t)] ++ S.drop i := by
  have e2 : (S.filter fun x => ltN n x.1) = S.drop i := filter_drop (fun t ht k => ltN_asym (h.low t ht k)) fun t ht k => h.above hS hn t ht k fun e2 => hasP_not.1 hm (S[t]).2 (by rw [← e2]; exact List.getElem_mem ht)
  unfold putP
  rw [h.ahead, e2]; simp
theorem drop_in {S : Sto} {n : Nd} {i : Nat} (h : Spot S n i) (hS : okP S = true) (hm : hasP S n = true) : dropP S n = S.take i ++ S.drop (i + 1) := by
  obtain ⟨hi, e⟩ := h.at hS hm
  have h1 : (S.take i).filter (fun x => !decide (x.1 = n)) = S.take i := List.filter_eq_self.2 fun x hx => by
    obtain ⟨t, ht, rfl⟩ := List.getElem_of_mem hx
    rw [List.length_take] at ht
    rw [List.getElem_take]
    have := h.low t (by omega) (by omega)
    have hne : (S[t]'(by omega)).1 ≠ n := fun e => by rw [e, ltN_irrefl] at this; cases this
    simp [hne]
  have h2 : (S.drop (i + 1)).filter (fun x => !decide (x.1 = n)) = S.drop (i + 1) := List.filter_eq_self.2 fun x hx => by
    obtain ⟨t, ht, rfl⟩ := List.getElem_of_mem hx
    rw [List.length_drop] at ht
    rw [List.getElem_drop]
    have := List.pairwise_iff_getElem.1 (okP_rise hS) i (i + 1 + t) hi (by omega) (by omega)
    have hne : (S[i + 1 + t]'(by omega)).1 ≠ n := fun e2 => by rw [e, e2, ltN_irrefl] at this; cases this
    simp [hne]
  unfold dropP
  conv => lhs; rw [← List.take_append_drop i S, List.filter_append, h1, List.drop_eq_getElem_cons hi, List.filter_cons, h2]
  simp [e]
theorem get_in {S : Sto} {n : Nd} {i : Nat} (h : Spot S n i) (hS : okP S = true) (hm : hasP S n = true) : getP S n = (S.map Prod.snd).getD i [] := by
  obtain ⟨hi, e⟩ := h.at hS hm
  have hx : (n, (S[i]).2) ∈ S := by rw [← e]; exact List.getElem_mem hi
  rw [getP_mem (okP_rise hS) hx]
  simp [List.getD_eq_getElem?_getD, hi]
/-- A place told by its key. -/
theorem spot_of {S : Sto} {n : Nd} {i : Nat} (hS : okP S = true) (hi : i < S.length) (e : (S[i]).1 = n) : Spot S n i :=
  ⟨Nat.le_of_lt hi, fun t ht k => by rw [← e]; exact List.pairwise_iff_getElem.1 (okP_rise hS) t i ht hi k, fun t ht k => by
    rcases Nat.lt_or_ge i t with g | g
    · have := List.pairwise_iff_getElem.1 (okP_rise hS) i t hi ht g
      rw [← e]; exact ltN_asym this
    · have : t = i := by omega
      subst this; rw [e, ltN_irrefl]⟩

/-! ### What each call answers -/
def getE (K : List Nd) (T : List Txt) (n : Nd) : Txt × Int := if (okS K T && okN n) = true then (if hasN K n = true then (getP (K.zip T) n, 0) else ([], 2)) else ([], 1)
def putE (K : List Nd) (T : List Txt) (n : Nd) (t : Txt) : List Nd × List Txt × Int := if (okS K T && okN n) = true then ((putP (K.zip T) n t).map Prod.fst, (putP (K.zip T) n t).map Prod.snd, 0) else (K, T, 1)
def dropE (K : List Nd) (T : List Txt) (n : Nd) : List Nd × List Txt × Int := if (okS K T && okN n) = true then (if hasN K n = true then ((dropP (K.zip T) n).map Prod.fst, (dropP (K.zip T) n).map Prod.snd, 0) else (K, T, 2)) else (K, T, 1)
theorem getE_no {K : List Nd} {T : List Txt} {n : Nd} (h : (okS K T && okN n) = false) : getE K T n = ([], 1) := by unfold getE; rw [h]; rfl
theorem getE_yes {S : Sto} {n : Nd} (h : okP S = true) (hn : okN n = true) : getE (S.map Prod.fst) (S.map Prod.snd) n = if hasP S n = true then (getP S n, 0) else ([], 2) := by
  unfold getE; rw [okS_of h, hn, zip_maps]; rfl
theorem putE_no {K : List Nd} {T : List Txt} {n : Nd} {t : Txt} (h : (okS K T && okN n) = false) : putE K T n t = (K, T, 1) := by unfold putE; rw [h]; rfl
theorem putE_yes {S : Sto} {n : Nd} {t : Txt} (h : okP S = true) (hn : okN n = true) : putE (S.map Prod.fst) (S.map Prod.snd) n t = ((putP S n t).map Prod.fst, (putP S n t).map Prod.snd, 0) := by
  unfold putE; rw [okS_of h, hn, zip_maps]; rfl
theorem dropE_no {K : List Nd} {T : List Txt} {n : Nd} (h : (okS K T && okN n) = false) : dropE K T n = (K, T, 1) := by unfold dropE; rw [h]; rfl
theorem dropE_yes {S : Sto} {n : Nd} (h : okP S = true) (hn : okN n = true) : dropE (S.map Prod.fst) (S.map Prod.snd) n = if hasP S n = true then ((dropP S n).map Prod.fst, (dropP S n).map Prod.snd, 0) else (S.map Prod.fst, S.map Prod.snd, 2) := by
  unfold dropE; rw [okS_of h, hn, zip_maps]; rfl
def chkS (K : List Nd) (T : List Txt) : Int := if okS K T = true then 0 else 1
theorem chkS_val (K : List Nd) (T : List Txt) : chkS K T = 0 ∨ chkS K T = 1 := by unfold chkS; split <;> simp
end Go.Proofs.Ytceefoiffkgliaa

namespace Go.Proofs.Ytceefoiffkgliaa
open Go.RowKit
set_option maxRecDepth 100000
attribute [local go_sem ↓] Go.wp_at_zero Go.wp_at_succ

set_option maxHeartbeats 3200000 in
theorem ncheck_any (v : Value) (ns : List Nd) (w : World) (h : Nds w v ns) (hs : ∀ n ∈ ns, smallN n) :
    Calls Try.prog 29 #[v] w fun e w' => e = .returned (.int .i64 (if checkN ns = true then 0 else 1)) ∧ Below w.heap.size w w' := by
  obtain ⟨a, c, rfl, h1, h2, -, -⟩ := h.ex
  unfold maxLen at h2
  obtain ⟨n, hn⟩ : ∃ n, ns.length = n := ⟨_, rfl⟩
  obtain ⟨T, hT⟩ : ∃ T : Int, (if checkN ns = true then 0 else 1) = T := ⟨_, rfl⟩
  rw [hT]
  have HT := Lib.hid hT; clear hT
  rw [hn] at h1 h ⊢
  have HN := Lib.hid hn; have ST := Lib.hid h; have HS := Lib.hid hs
  clear h hn hs
  go_enter Try.func29, Try.ntmps29
  go_wp2
  go_loopw [7] (fun i wr => ∃ k : Nat, k ≤ n ∧ i = .int .i64 k ∧ Hid (∀ j, j < k → stepN ns j = true) ∧ Hid (Below w.heap.size w wr)) (fun i _ => n - (intOf i).toNat)
  case atStart => exact ⟨0, Nat.zero_le _, rfl, Lib.hid fun j hj => absurd hj (Nat.not_lt_zero j), Lib.hid (Below.refl _ _)⟩
  case round =>
    obtain ⟨k, hk, rfl, HM, HB⟩ := hrel
    by_cases hlt : k < n
    · have hkl : k < ns.length := by rw [HN.out]; exact hlt
      obtain ⟨y, hy⟩ : ∃ y, y = ns.getD k ([], []) := ⟨_, rfl⟩
      have hsy : smallN y := by rw [hy]; exact HS.out _ (nd_mem hkl)
      obtain ⟨x, hx⟩ : ∃ x, x = ns.getD (k - 1) ([], []) := ⟨_, rfl⟩
      have hsx : smallN x := by rw [hx]; exact HS.out _ (nd_mem (by omega))
      have hst : stepN ns k = (okN y && (decide (k = 0) || ltN x y)) := by unfold stepN; rw [← hy, ← hx]
      obtain ⟨b, off, rfl, hbk, hc0, hc1⟩ := (ST.out.below HB.out).at k hkl
      rw [← hy] at hc0 hc1
      have hpr : w.heap.size = w.heap.size ∧ wr.cell? ⟨b, off + (k - 1) * 2, none⟩ = some (.string (mkB x.1)) ∧ wr.cell? ⟨b, off + (k - 1) * 2 + 1, none⟩ = some (.string (mkB x.2)) := by
        obtain ⟨b', off', e, _, p0, p1⟩ := (ST.out.below HB.out).at (k - 1) (by omega)
        cases e
        rw [← hx] at p0 p1
        exact ⟨rfl, p0, p1⟩
      obtain ⟨-, hp0, hp1⟩ := hpr
      obtain ⟨o, ho⟩ : ∃ o, okN y = o := ⟨_, rfl⟩
      have hox : 0 < k → okN x = true := fun h0 => by
        have := HM.out (k - 1) (by omega)
        unfold stepN at this
        rw [← hx] at this
        simp only [Bool.and_eq_true] at this
        exact this.1
      have HSY := Lib.hid hsy; have HSX := Lib.hid hsx; have HY := Lib.hid hy; have HX := Lib.hid hx; have HSTEP := Lib.hid hst; have HO := Lib.hid ho; have HOX := Lib.hid hox; have HKL := Lib.hid hkl
      clear hsy hsx hy hx hst ho hox hkl
      obtain ⟨W, g, hW, hg, d0, d1, hb⟩ := boxB1 wr (.string (mkB y.1)) (.string (mkB y.2)) 27
      have p0 := cell_keep hp0 hb
      have p1 := cell_keep hp1 hb
      have HW := Lib.hid hW; have HG := Lib.hid hg; have B := Lib.hid (below_step HB.out hb)
      clear hW hg hb
      go_upto_region 4 with fail
      rw [HW.out, HG.out]
      clear hc0 hc1 hp0 hp1
      cases o
      · have hno : Hid (checkN ns = false) := Lib.hid (checkN_no HKL.out (by rw [HSTEP.out, HO.out]; rfl))
        go_cut [28] from 12 to 28 (fun s28 wx => s28 = .bool true ∧ Below w.heap.size w wx)
        case first =>
          refine wp_region_held_drew (S := fun w' => w'.cell? ⟨g, 0, none⟩ = some (.string (mkB y.1)) ∧ w'.cell? ⟨g, 1, none⟩ = some (.string (mkB y.2)) ∧ w'.cell? ⟨b, off + (k - 1) * 2, none⟩ = some (.string (mkB x.1)) ∧ w'.cell? ⟨b, off + (k - 1) * 2 + 1, none⟩ = some (.string (mkB x.2)) ∧ Below w.heap.size w w') (by kernel_rfl) (by exact ⟨cell_drew d0, cell_drew d1, cell_drew p0, cell_drew p1, below_step B.out (below_q ⟨1, rfl⟩)⟩) (fun hS => ?_)
          refine wpAnyH_take (i := 0) (v := ?_) rfl (by kernel_rfl) (by kernel_rfl) (by kernel_rfl) (fun _ _ _ h => h) (Or.inl ⟨by kernel_rfl, ?_⟩) hS ?_
          rotate_left
          · intro w hSw; (try dsimp only at hSw); go_simp; try (with_reducible rfl)
          simp only [Act.put, List.getElem_toArray, List.getElem_cons_zero, List.setIfInBounds_toArray, List.set_cons_zero, List.set_cons_succ]
          refine wpAnyH_ready (rs := [1]) (by kernel_rfl) (by simp) (AllReadyH.cons rfl (fun K hK => ?_) AllReadyH.nil)
          go_simp
          go_at_call 38; refine (nmay_any _ _ _ HSY.out.1 HSY.out.2).mono ?_; rintro e w1 ⟨rfl, hb1⟩; rw [HO.out]
          refine hK.out _ _ (by exact ⟨cell_keep hS.1 hb1, cell_keep hS.2.1 hb1, cell_keep hS.2.2.1 hb1, cell_keep hS.2.2.2.1 hb1, below_step hS.2.2.2.2 hb1⟩) (fun hS => ?_)
          clear hK K
          try simp only [Act.put, List.getElem_toArray, List.getElem_cons_succ, List.getElem_cons_zero, List.setIfInBounds_toArray, List.set_cons_zero, List.set_cons_succ]
          refine wpAnyH_take (i := 2) (v := ?_) rfl (by kernel_rfl) (by kernel_rfl) (by kernel_rfl) (fun _ _ _ h => h) (Or.inl ⟨by kernel_rfl, ?_⟩) hS ?_
          rotate_left
          · intro w hSw; (try dsimp only at hSw); go_simp; try (with_reducible rfl)
          simp only [Act.put, List.getElem_toArray, List.getElem_cons_succ, List.getElem_cons_zero, List.setIfInBounds_toArray, List.set_cons_zero, List.set_cons_succ]
          refine wpAnyH_take (i := 3) (v := ?_) rfl (by kernel_rfl) (by kernel_rfl) (by kernel_rfl) (fun _ _ _ h => h) (Or.inl ⟨by kernel_rfl, ?_⟩) hS ?_
          rotate_left
          · intro w hSw; (try dsimp only at hSw); go_simp; try (with_reducible rfl)
          simp only [Act.put, List.getElem_toArray, List.getElem_cons_succ, List.getElem_cons_zero, List.setIfInBounds_toArray, List.set_cons_zero, List.set_cons_succ]
          refine wpAnyH_take (i := 4) (v := undef) rfl (by kernel_rfl) (by kernel_rfl) (by kernel_rfl) (fun _ _ _ h => h) (Or.inr ⟨by kernel_rfl, rfl⟩) hS ?_
          simp only [Act.put, List.getElem_toArray, List.getElem_cons_succ, List.getElem_cons_zero, List.setIfInBounds_toArray, List.set_cons_zero, List.set_cons_succ]
          refine wpAnyH_take (i := 5) (v := undef) rfl (by kernel_rfl) (by kernel_rfl) (by kernel_rfl) (fun _ _ _ h => h) (Or.inr ⟨by kernel_rfl, rfl⟩) hS ?_
          simp only [Act.put, List.getElem_toArray, List.getElem_cons_succ, List.getElem_cons_zero, List.setIfInBounds_toArray, List.set_cons_zero, List.set_cons_succ]
          refine wpAnyH_take (i := 6) (v := undef) rfl (by kernel_rfl) (by kernel_rfl) (by kernel_rfl) (fun _ _ _ h => h) (Or.inr ⟨by kernel_rfl, rfl⟩) hS ?_
          simp only [Act.put, List.getElem_toArray, List.getElem_cons_succ, List.getElem_cons_zero, List.setIfInBounds_toArray, List.set_cons_zero, List.set_cons_succ]
          refine wpAnyH_take (i := 7) (v := undef) rfl (by kernel_rfl) (by kernel_rfl) (by kernel_rfl) (fun _ _ _ h => h) (Or.inr ⟨by kernel_rfl, rfl⟩) hS ?_
          simp only [Act.put, List.getElem_toArray, List.getElem_cons_succ, List.getElem_cons_zero, List.setIfInBounds_toArray, List.set_cons_zero, List.set_cons_succ]
          refine wpAnyH_take (i := 8) (v := undef) rfl (by kernel_rfl) (by kernel_rfl) (by kernel_rfl) (fun _ _ _ h => h) (Or.inr ⟨by kernel_rfl, rfl⟩) hS ?_
          simp only [Act.put, List.getElem_toArray, List.getElem_cons_succ, List.getElem_cons_zero, List.setIfInBounds_toArray, List.set_cons_zero, List.set_cons_succ]
          refine wpAnyH_take (i := 9) (v := undef) rfl (by kernel_rfl) (by kernel_rfl) (by kernel_rfl) (fun _ _ _ h => h) (Or.inr ⟨by kernel_rfl, rfl⟩) hS ?_
          simp only [Act.put, List.getElem_toArray, List.getElem_cons_succ, List.getElem_cons_zero, List.setIfInBounds_toArray, List.set_cons_zero, List.set_cons_succ]
          refine wpAnyH_take (i := 10) (v := undef) rfl (by kernel_rfl) (by kernel_rfl) (by kernel_rfl) (fun _ _ _ h => h) (Or.inr ⟨by kernel_rfl, rfl⟩) hS ?_
          simp only [Act.put, List.getElem_toArray, List.getElem_cons_succ, List.getElem_cons_zero, List.setIfInBounds_toArray, List.set_cons_zero, List.set_cons_succ]
          refine wpAnyH_take (i := 11) (v := undef) rfl (by kernel_rfl) (by kernel_rfl) (by kernel_rfl) (fun _ _ _ h => h) (Or.inr ⟨by kernel_rfl, rfl⟩) hS ?_
          simp only [Act.put, List.getElem_toArray, List.getElem_cons_succ, List.getElem_cons_zero, List.setIfInBounds_toArray, List.set_cons_zero, List.set_cons_succ]
          refine wpAnyH_take (i := 12) (v := undef) rfl (by kernel_rfl) (by kernel_rfl) (by kernel_rfl) (fun _ _ _ h => h) (Or.inr ⟨by kernel_rfl, rfl⟩) hS ?_
          simp only [Act.put, List.getElem_toArray, List.getElem_cons_succ, List.getElem_cons_zero, List.setIfInBounds_toArray, List.set_cons_zero, List.set_cons_succ]
          refine wpAnyH_take (i := 13) (v := undef) rfl (by kernel_rfl) (by kernel_rfl) (by kernel_rfl) (fun _ _ _ h => h) (Or.inr ⟨by kernel_rfl, rfl⟩) hS ?_
          simp only [Act.put, List.getElem_toArray, List.getElem_cons_succ, List.getElem_cons_zero, List.setIfInBounds_toArray, List.set_cons_zero, List.set_cons_succ]
          refine wpAnyH_take (i := 14) (v := undef) rfl (by kernel_rfl) (by kernel_rfl) (by kernel_rfl) (fun _ _ _ h => h) (Or.inr ⟨by kernel_rfl, rfl⟩) hS ?_
          simp only [Act.put, List.getElem_toArray, List.getElem_cons_succ, List.getElem_cons_zero, List.setIfInBounds_toArray, List.set_cons_zero, List.set_cons_succ]
          refine wpAnyH_take (i := 15) (v := undef) rfl (by kernel_rfl) (by kernel_rfl) (by kernel_rfl) (fun _ _ _ h => h) (Or.inr ⟨by kernel_rfl, rfl⟩) hS ?_
          simp only [Act.put, List.getElem_toArray, List.getElem_cons_succ, List.getElem_cons_zero, List.setIfInBounds_toArray, List.set_cons_zero, List.set_cons_succ]
          refine wpAnyH_take (i := 16) (v := ?_) rfl (by kernel_rfl) (by kernel_rfl) (by kernel_rfl) (fun _ _ _ h => h) (Or.inl ⟨by kernel_rfl, ?_⟩) hS ?_
          rotate_left
          · intro w hSw; (try dsimp only at hSw); go_simp; try (with_reducible rfl)
          simp only [Act.put, List.getElem_toArray, List.getElem_cons_succ, List.getElem_cons_zero, List.setIfInBounds_toArray, List.set_cons_zero, List.set_cons_succ]
          refine wpAnyH_done (by kernel_rfl) ?_ _
          go_wp2_with fail
          go_meet
          exact ⟨rfl, hS.2.2.2.2⟩
        case rest =>
          obtain ⟨rfl, hbw⟩ := hcut
          go_wp2
          go_ret
          exact ⟨by rw [← HT.out, if_neg (by rw [hno.out]; simp)]; rfl, hbw⟩
      · by_cases h0 : k = 0
        · subst h0
          have hyes : Hid (stepN ns 0 = true) := Lib.hid (by rw [HSTEP.out, HO.out]; rfl)
          go_cut [28] from 12 to 28 (fun s28 wx => s28 = .bool false ∧ Below w.heap.size w wx)
          case first =>
            refine wp_region_held_drew (S := fun w' => w'.cell? ⟨g, 0, none⟩ = some (.string (mkB y.1)) ∧ w'.cell? ⟨g, 1, none⟩ = some (.string (mkB y.2)) ∧ w'.cell? ⟨b, off + (0 - 1) * 2, none⟩ = some (.string (mkB x.1)) ∧ w'.cell? ⟨b, off + (0 - 1) * 2 + 1, none⟩ = some (.string (mkB x.2)) ∧ Below w.heap.size w w') (by kernel_rfl) (by exact ⟨cell_drew d0, cell_drew d1, cell_drew p0, cell_drew p1, below_step B.out (below_q ⟨1, rfl⟩)⟩) (fun hS => ?_)
            refine wpAnyH_take (i := 0) (v := ?_) rfl (by kernel_rfl) (by kernel_rfl) (by kernel_rfl) (fun _ _ _ h => h) (Or.inl ⟨by kernel_rfl, ?_⟩) hS ?_
            rotate_left
            · intro w hSw; (try dsimp only at hSw); go_simp; try (with_reducible rfl)
            simp only [Act.put, List.getElem_toArray, List.getElem_cons_zero, List.setIfInBounds_toArray, List.set_cons_zero, List.set_cons_succ]
            refine wpAnyH_ready (rs := [1]) (by kernel_rfl) (by simp) (AllReadyH.cons rfl (fun K hK => ?_) AllReadyH.nil)
            go_simp
            go_at_call 38; refine (nmay_any _ _ _ HSY.out.1 HSY.out.2).mono ?_; rintro e w1 ⟨rfl, hb1⟩; rw [HO.out]
            refine hK.out _ _ (by exact ⟨cell_keep hS.1 hb1, cell_keep hS.2.1 hb1, cell_keep hS.2.2.1 hb1, cell_keep hS.2.2.2.1 hb1, below_step hS.2.2.2.2 hb1⟩) (fun hS => ?_)
            clear hK K
            try simp only [Act.put, List.getElem_toArray, List.getElem_cons_succ, List.getElem_cons_zero, List.setIfInBounds_toArray, List.set_cons_zero, List.set_cons_succ]
            refine wpAnyH_take (i := 2) (v := ?_) rfl (by kernel_rfl) (by kernel_rfl) (by kernel_rfl) (fun _ _ _ h => h) (Or.inl ⟨by kernel_rfl, ?_⟩) hS ?_
            rotate_left
            · intro w hSw; (try dsimp only at hSw); go_simp; try (with_reducible rfl)
            simp only [Act.put, List.getElem_toArray, List.getElem_cons_succ, List.getElem_cons_zero, List.setIfInBounds_toArray, List.set_cons_zero, List.set_cons_succ]
            refine wpAnyH_take (i := 3) (v := ?_) rfl (by kernel_rfl) (by kernel_rfl) (by kernel_rfl) (fun _ _ _ h => h) (Or.inl ⟨by kernel_rfl, ?_⟩) hS ?_
            rotate_left
            · intro w hSw; (try dsimp only at hSw); go_simp; try (with_reducible rfl)
            simp only [Act.put, List.getElem_toArray, List.getElem_cons_succ, List.getElem_cons_zero, List.setIfInBounds_toArray, List.set_cons_zero, List.set_cons_succ]
            refine wpAnyH_take (i := 4) (v := ?_) rfl (by kernel_rfl) (by kernel_rfl) (by kernel_rfl) (fun _ _ _ h => h) (Or.inl ⟨by kernel_rfl, ?_⟩) hS ?_
            rotate_left
            · intro w hSw; (try dsimp only at hSw); go_simp; try (with_reducible rfl)
            simp only [Act.put, List.getElem_toArray, List.getElem_cons_succ, List.getElem_cons_zero, List.setIfInBounds_toArray, List.set_cons_zero, List.set_cons_succ]
            refine wpAnyH_take (i := 5) (v := ?_) rfl (by kernel_rfl) (by kernel_rfl) (by kernel_rfl) (fun _ _ _ h => h) (Or.inl ⟨by kernel_rfl, ?_⟩) hS ?_
            rotate_left
            · intro w hSw; (try dsimp only at hSw); go_simp; try (with_reducible rfl)
            simp only [Act.put, List.getElem_toArray, List.getElem_cons_succ, List.getElem_cons_zero, List.setIfInBounds_toArray, List.set_cons_zero, List.set_cons_succ]
            refine wpAnyH_take (i := 6) (v := ?_) rfl (by kernel_rfl) (by kernel_rfl) (by kernel_rfl) (fun _ _ _ h => h) (Or.inl ⟨by kernel_rfl, ?_⟩) hS ?_
            rotate_left
            · intro w hSw; (try dsimp only at hSw); go_simp; try (with_reducible rfl)
            simp only [Act.put, List.getElem_toArray, List.getElem_cons_succ, List.getElem_cons_zero, List.setIfInBounds_toArray, List.set_cons_zero, List.set_cons_succ]
            refine wpAnyH_take (i := 7) (v := undef) rfl (by kernel_rfl) (by kernel_rfl) (by kernel_rfl) (fun _ _ _ h => h) (Or.inr ⟨by kernel_rfl, rfl⟩) hS ?_
            simp only [Act.put, List.getElem_toArray, List.getElem_cons_succ, List.getElem_cons_zero, List.setIfInBounds_toArray, List.set_cons_zero, List.set_cons_succ]
            refine wpAnyH_take (i := 8) (v := undef) rfl (by kernel_rfl) (by kernel_rfl) (by kernel_rfl) (fun _ _ _ h => h) (Or.inr ⟨by kernel_rfl, rfl⟩) hS ?_
            simp only [Act.put, List.getElem_toArray, List.getElem_cons_succ, List.getElem_cons_zero, List.setIfInBounds_toArray, List.set_cons_zero, List.set_cons_succ]
            refine wpAnyH_take (i := 9) (v := undef) rfl (by kernel_rfl) (by kernel_rfl) (by kernel_rfl) (fun _ _ _ h => h) (Or.inr ⟨by kernel_rfl, rfl⟩) hS ?_
            simp only [Act.put, List.getElem_toArray, List.getElem_cons_succ, List.getElem_cons_zero, List.setIfInBounds_toArray, List.set_cons_zero, List.set_cons_succ]
            refine wpAnyH_take (i := 10) (v := undef) rfl (by kernel_rfl) (by kernel_rfl) (by kernel_rfl) (fun _ _ _ h => h) (Or.inr ⟨by kernel_rfl, rfl⟩) hS ?_
            simp only [Act.put, List.getElem_toArray, List.getElem_cons_succ, List.getElem_cons_zero, List.setIfInBounds_toArray, List.set_cons_zero, List.set_cons_succ]
            refine wpAnyH_take (i := 11) (v := undef) rfl (by kernel_rfl) (by kernel_rfl) (by kernel_rfl) (fun _ _ _ h => h) (Or.inr ⟨by kernel_rfl, rfl⟩) hS ?_
            simp only [Act.put, List.getElem_toArray, List.getElem_cons_succ, List.getElem_cons_zero, List.setIfInBounds_toArray, List.set_cons_zero, List.set_cons_succ]
            refine wpAnyH_take (i := 12) (v := undef) rfl (by kernel_rfl) (by kernel_rfl) (by kernel_rfl) (fun _ _ _ h => h) (Or.inr ⟨by kernel_rfl, rfl⟩) hS ?_
            simp only [Act.put, List.getElem_toArray, List.getElem_cons_succ, List.getElem_cons_zero, List.setIfInBounds_toArray, List.set_cons_zero, List.set_cons_succ]
            refine wpAnyH_take (i := 13) (v := undef) rfl (by kernel_rfl) (by kernel_rfl) (by kernel_rfl) (fun _ _ _ h => h) (Or.inr ⟨by kernel_rfl, rfl⟩) hS ?_
            simp only [Act.put, List.getElem_toArray, List.getElem_cons_succ, List.getElem_cons_zero, List.setIfInBounds_toArray, List.set_cons_zero, List.set_cons_succ]
            refine wpAnyH_take (i := 14) (v := undef) rfl (by kernel_rfl) (by kernel_rfl) (by kernel_rfl) (fun _ _ _ h => h) (Or.inr ⟨by kernel_rfl, rfl⟩) hS ?_
            simp only [Act.put, List.getElem_toArray, List.getElem_cons_succ, List.getElem_cons_zero, List.setIfInBounds_toArray, List.set_cons_zero, List.set_cons_succ]
            refine wpAnyH_take (i := 15) (v := ?_) rfl (by kernel_rfl) (by kernel_rfl) (by kernel_rfl) (fun _ _ _ h => h) (Or.inl ⟨by kernel_rfl, ?_⟩) hS ?_
            rotate_left
            · intro w hSw; (try dsimp only at hSw); go_simp; try (with_reducible rfl)
            simp only [Act.put, List.getElem_toArray, List.getElem_cons_succ, List.getElem_cons_zero, List.setIfInBounds_toArray, List.set_cons_zero, List.set_cons_succ]
            refine wpAnyH_take (i := 16) (v := ?_) rfl (by kernel_rfl) (by kernel_rfl) (by kernel_rfl) (fun _ _ _ h => h) (Or.inl ⟨by kernel_rfl, ?_⟩) hS ?_
            rotate_left
            · intro w hSw; (try dsimp only at hSw); go_simp; try (with_reducible rfl)
            simp only [Act.put, List.getElem_toArray, List.getElem_cons_succ, List.getElem_cons_zero, List.setIfInBounds_toArray, List.set_cons_zero, List.set_cons_succ]
            refine wpAnyH_done (by kernel_rfl) ?_ _
            go_wp2_with fail
            go_meet
            exact ⟨rfl, hS.2.2.2.2⟩
          case rest =>
            obtain ⟨rfl, hbw⟩ := hcut
            have HBW := Lib.hid hbw; clear hbw
            have HNEW : Hid (∀ j, j < 0 + 1 → stepN ns j = true) := Lib.hid fun j hj => by
              rcases Nat.lt_or_ge j 0 with h | h
              · exact HM.out j h
              · obtain rfl : j = 0 := by omega
                exact hyes.out
            go_wp2
            go_roundw
            case rel => exact ⟨0 + 1, by omega, by go_num, HNEW, HBW⟩
            case measure => simp [intOf]; omega
        · have HOXX := Lib.hid (HOX.out (by omega))
          have hw1 : IntKind.i64.wrap ((k : Int) - 1) = (k : Int) - 1 := IntWalk.i64_in _ (by omega)
          have hb0 : (0 : Int) ≤ (k : Int) - 1 ∧ (k : Int) - 1 < (n : Int) := by omega
          have hkt : ((k : Int) - 1).toNat = k - 1 := by omega
          have hkp : (0 : Int) < (k : Int) := by omega
          have hk1 : (1 : Int) ≤ (k : Int) := by omega
          have hkn : 0 < k := by omega
          rcases ordN_vals x y with hr | hr | hr
          · have HR := Lib.hid hr; clear hr
            have hyes : Hid (stepN ns k = true) := Lib.hid (by rw [HSTEP.out, HO.out, ltN_iff.2 (by rw [HR.out]; decide), Bool.or_true]; rfl)
            go_cut [28] from 12 to 28 (fun s28 wx => s28 = .bool false ∧ Below w.heap.size w wx)
            case first =>
              refine wp_region_held_drew (S := fun w' => w'.cell? ⟨g, 0, none⟩ = some (.string (mkB y.1)) ∧ w'.cell? ⟨g, 1, none⟩ = some (.string (mkB y.2)) ∧ w'.cell? ⟨b, off + (k - 1) * 2, none⟩ = some (.string (mkB x.1)) ∧ w'.cell? ⟨b, off + (k - 1) * 2 + 1, none⟩ = some (.string (mkB x.2)) ∧ Below w.heap.size w w') (by kernel_rfl) (by exact ⟨cell_drew d0, cell_drew d1, cell_drew p0, cell_drew p1, below_step B.out (below_q ⟨1, rfl⟩)⟩) (fun hS => ?_)
              refine wpAnyH_take (i := 0) (v := ?_) rfl (by kernel_rfl) (by kernel_rfl) (by kernel_rfl) (fun _ _ _ h => h) (Or.inl ⟨by kernel_rfl, ?_⟩) hS ?_
              rotate_left
              · intro w hSw; (try dsimp only at hSw); go_simp; try (with_reducible rfl)
              simp only [Act.put, List.getElem_toArray, List.getElem_cons_zero, List.setIfInBounds_toArray, List.set_cons_zero, List.set_cons_succ]
              refine wpAnyH_ready (rs := [1]) (by kernel_rfl) (by simp) (AllReadyH.cons rfl (fun K hK => ?_) AllReadyH.nil)
              go_simp
              go_at_call 38; refine (nmay_any _ _ _ HSY.out.1 HSY.out.2).mono ?_; rintro e w1 ⟨rfl, hb1⟩; rw [HO.out]
              refine hK.out _ _ (by exact ⟨cell_keep hS.1 hb1, cell_keep hS.2.1 hb1, cell_keep hS.2.2.1 hb1, cell_keep hS.2.2.2.1 hb1, below_step hS.2.2.2.2 hb1⟩) (fun hS => ?_)
              clear hK K
              try simp only [Act.put, List.getElem_toArray, List.getElem_cons_succ, List.getElem_cons_zero, List.setIfInBounds_toArray, List.set_cons_zero, List.set_cons_succ]
              refine wpAnyH_take (i := 2) (v := ?_) rfl (by kernel_rfl) (by kernel_rfl) (by kernel_rfl) (fun _ _ _ h => h) (Or.inl ⟨by kernel_rfl, ?_⟩) hS ?_
              rotate_left
              · intro w hSw; (try dsimp only at hSw); go_simp; try (with_reducible rfl)
              simp only [Act.put, List.getElem_toArray, List.getElem_cons_succ, List.getElem_cons_zero, List.setIfInBounds_toArray, List.set_cons_zero, List.set_cons_succ]
              refine wpAnyH_take (i := 3) (v := ?_) rfl (by kernel_rfl) (by kernel_rfl) (by kernel_rfl) (fun _ _ _ h => h) (Or.inl ⟨by kernel_rfl, ?_⟩) hS ?_
              rotate_left
              · intro w hSw; (try dsimp only at hSw); go_simp; try (with_reducible rfl)
              simp only [Act.put, List.getElem_toArray, List.getElem_cons_succ, List.getElem_cons_zero, List.setIfInBounds_toArray, List.set_cons_zero, List.set_cons_succ]
              refine wpAnyH_take (i := 4) (v := ?_) rfl (by kernel_rfl) (by kernel_rfl) (by kernel_rfl) (fun _ _ _ h => h) (Or.inl ⟨by kernel_rfl, ?_⟩) hS ?_
              rotate_left
              · intro w hSw; (try dsimp only at hSw); go_simp; try (with_reducible rfl)
              simp only [Act.put, List.getElem_toArray, List.getElem_cons_succ, List.getElem_cons_zero, List.setIfInBounds_toArray, List.set_cons_zero, List.set_cons_succ]
              refine wpAnyH_take (i := 5) (v := ?_) rfl (by kernel_rfl) (by kernel_rfl) (by kernel_rfl) (fun _ _ _ h => h) (Or.inl ⟨by kernel_rfl, ?_⟩) hS ?_
              rotate_left
              · intro w hSw; (try dsimp only at hSw); go_simp; try (with_reducible rfl)
              simp only [Act.put, List.getElem_toArray, List.getElem_cons_succ, List.getElem_cons_zero, List.setIfInBounds_toArray, List.set_cons_zero, List.set_cons_succ]
              refine wpAnyH_take (i := 6) (v := ?_) rfl (by kernel_rfl) (by kernel_rfl) (by kernel_rfl) (fun _ _ _ h => h) (Or.inl ⟨by kernel_rfl, ?_⟩) hS ?_
              rotate_left
              · intro w hSw; (try dsimp only at hSw); go_simp; try (with_reducible rfl)
              simp only [Act.put, List.getElem_toArray, List.getElem_cons_succ, List.getElem_cons_zero, List.setIfInBounds_toArray, List.set_cons_zero, List.set_cons_succ]
              refine wpAnyH_take (i := 7) (v := ?_) rfl (by kernel_rfl) (by kernel_rfl) (by kernel_rfl) (fun _ _ _ h => h) (Or.inl ⟨by kernel_rfl, ?_⟩) hS ?_
              rotate_left
              · intro w hSw; (try dsimp only at hSw); go_simp; try (with_reducible rfl)
              simp only [Act.put, List.getElem_toArray, List.getElem_cons_succ, List.getElem_cons_zero, List.setIfInBounds_toArray, List.set_cons_zero, List.set_cons_succ]
              refine wpAnyH_take (i := 8) (v := ?_) rfl (by kernel_rfl) (by kernel_rfl) (by kernel_rfl) (fun _ _ _ h => h) (Or.inl ⟨by kernel_rfl, ?_⟩) hS ?_
              rotate_left
              · intro w hSw; (try dsimp only at hSw); go_simp; try (with_reducible rfl)
              simp only [Act.put, List.getElem_toArray, List.getElem_cons_succ, List.getElem_cons_zero, List.setIfInBounds_toArray, List.set_cons_zero, List.set_cons_succ]
              refine wpAnyH_take (i := 9) (v := ?_) rfl (by kernel_rfl) (by kernel_rfl) (by kernel_rfl) (fun _ _ _ h => h) (Or.inl ⟨by kernel_rfl, ?_⟩) hS ?_
              rotate_left
              · intro w hSw; (try dsimp only at hSw); go_simp; try (with_reducible rfl)
              simp only [Act.put, List.getElem_toArray, List.getElem_cons_succ, List.getElem_cons_zero, List.setIfInBounds_toArray, List.set_cons_zero, List.set_cons_succ]
              refine wpAnyH_take (i := 10) (v := ?_) rfl (by kernel_rfl) (by kernel_rfl) (by kernel_rfl) (fun _ _ _ h => h) (Or.inl ⟨by kernel_rfl, ?_⟩) hS ?_
              rotate_left
              · intro w hSw; (try dsimp only at hSw); go_simp; try (with_reducible rfl)
              simp only [Act.put, List.getElem_toArray, List.getElem_cons_succ, List.getElem_cons_zero, List.setIfInBounds_toArray, List.set_cons_zero, List.set_cons_succ]
              refine wpAnyH_take (i := 11) (v := ?_) rfl (by kernel_rfl) (by kernel_rfl) (by kernel_rfl) (fun _ _ _ h => h) (Or.inl ⟨by kernel_rfl, ?_⟩) hS ?_
              rotate_left
              · intro w hSw; (try dsimp only at hSw); go_simp; try (with_reducible rfl)
              simp only [Act.put, List.getElem_toArray, List.getElem_cons_succ, List.getElem_cons_zero, List.setIfInBounds_toArray, List.set_cons_zero, List.set_cons_succ]
              refine wpAnyH_take (i := 12) (v := ?_) rfl (by kernel_rfl) (by kernel_rfl) (by kernel_rfl) (fun _ _ _ h => h) (Or.inl ⟨by kernel_rfl, ?_⟩) hS ?_
              rotate_left
              · intro w hSw; (try dsimp only at hSw); go_simp; try (with_reducible rfl)
              simp only [Act.put, List.getElem_toArray, List.getElem_cons_succ, List.getElem_cons_zero, List.setIfInBounds_toArray, List.set_cons_zero, List.set_cons_succ]
              refine wpAnyH_ready (rs := [13]) (by kernel_rfl) (by simp) (AllReadyH.cons rfl (fun K hK => ?_) AllReadyH.nil)
              go_simp
              go_at_call 44; refine (norder_any _ _ _ _ _ HSX.out.2 HSY.out.2 HOXX.out HO.out).mono ?_; rintro e w1 ⟨rfl, hb1⟩; rw [HR.out]
              refine hK.out _ _ (by exact ⟨cell_keep hS.1 hb1, cell_keep hS.2.1 hb1, cell_keep hS.2.2.1 hb1, cell_keep hS.2.2.2.1 hb1, below_step hS.2.2.2.2 hb1⟩) (fun hS => ?_)
              clear hK K
              try simp only [Act.put, List.getElem_toArray, List.getElem_cons_succ, List.getElem_cons_zero, List.setIfInBounds_toArray, List.set_cons_zero, List.set_cons_succ]
              refine wpAnyH_take (i := 14) (v := ?_) rfl (by kernel_rfl) (by kernel_rfl) (by kernel_rfl) (fun _ _ _ h => h) (Or.inl ⟨by kernel_rfl, ?_⟩) hS ?_
              rotate_left
              · intro w hSw; (try dsimp only at hSw); go_simp; try (with_reducible rfl)
              simp only [Act.put, List.getElem_toArray, List.getElem_cons_succ, List.getElem_cons_zero, List.setIfInBounds_toArray, List.set_cons_zero, List.set_cons_succ]
              refine wpAnyH_take (i := 15) (v := ?_) rfl (by kernel_rfl) (by kernel_rfl) (by kernel_rfl) (fun _ _ _ h => h) (Or.inl ⟨by kernel_rfl, ?_⟩) hS ?_
              rotate_left
              · intro w hSw; (try dsimp only at hSw); go_simp; try (with_reducible rfl)
              simp only [Act.put, List.getElem_toArray, List.getElem_cons_succ, List.getElem_cons_zero, List.setIfInBounds_toArray, List.set_cons_zero, List.set_cons_succ]
              refine wpAnyH_take (i := 16) (v := ?_) rfl (by kernel_rfl) (by kernel_rfl) (by kernel_rfl) (fun _ _ _ h => h) (Or.inl ⟨by kernel_rfl, ?_⟩) hS ?_
              rotate_left
              · intro w hSw; (try dsimp only at hSw); go_simp; try (with_reducible rfl)
              simp only [Act.put, List.getElem_toArray, List.getElem_cons_succ, List.getElem_cons_zero, List.setIfInBounds_toArray, List.set_cons_zero, List.set_cons_succ]
              refine wpAnyH_done (by kernel_rfl) ?_ _
              go_wp2_with fail
              go_meet
              exact ⟨rfl, hS.2.2.2.2⟩
            case rest =>
              obtain ⟨rfl, hbw⟩ := hcut
              have HBW := Lib.hid hbw; clear hbw
              have HNEW : Hid (∀ j, j < k + 1 → stepN ns j = true) := Lib.hid fun j hj => by
                rcases Nat.lt_or_ge j k with h | h
                · exact HM.out j h
                · obtain rfl : j = k := by omega
                  exact hyes.out
              go_wp2
              go_roundw
              case rel => exact ⟨k + 1, by omega, by go_num, HNEW, HBW⟩
              case measure => simp [intOf]; omega
          · have HR := Lib.hid hr; clear hr
            have hno : Hid (checkN ns = false) := Lib.hid (checkN_no HKL.out (by rw [HSTEP.out, HO.out, ltN_no.2 (by rw [HR.out]; decide), decide_eq_false h0]; rfl))
            go_cut [28] from 12 to 28 (fun s28 wx => s28 = .bool true ∧ Below w.heap.size w wx)
            case first =>
              refine wp_region_held_drew (S := fun w' => w'.cell? ⟨g, 0, none⟩ = some (.string (mkB y.1)) ∧ w'.cell? ⟨g, 1, none⟩ = some (.string (mkB y.2)) ∧ w'.cell? ⟨b, off + (k - 1) * 2, none⟩ = some (.string (mkB x.1)) ∧ w'.cell? ⟨b, off + (k - 1) * 2 + 1, none⟩ = some (.string (mkB x.2)) ∧ Below w.heap.size w w') (by kernel_rfl) (by exact ⟨cell_drew d0, cell_drew d1, cell_drew p0, cell_drew p1, below_step B.out (below_q ⟨1, rfl⟩)⟩) (fun hS => ?_)
              refine wpAnyH_take (i := 0) (v := ?_) rfl (by kernel_rfl) (by kernel_rfl) (by kernel_rfl) (fun _ _ _ h => h) (Or.inl ⟨by kernel_rfl, ?_⟩) hS ?_
              rotate_left
              · intro w hSw; (try dsimp only at hSw); go_simp; try (with_reducible rfl)
              simp only [Act.put, List.getElem_toArray, List.getElem_cons_zero, List.setIfInBounds_toArray, List.set_cons_zero, List.set_cons_succ]
              refine wpAnyH_ready (rs := [1]) (by kernel_rfl) (by simp) (AllReadyH.cons rfl (fun K hK => ?_) AllReadyH.nil)
              go_simp
              go_at_call 38; refine (nmay_any _ _ _ HSY.out.1 HSY.out.2).mono ?_; rintro e w1 ⟨rfl, hb1⟩; rw [HO.out]
              refine hK.out _ _ (by exact ⟨cell_keep hS.1 hb1, cell_keep hS.2.1 hb1, cell_keep hS.2.2.1 hb1, cell_keep hS.2.2.2.1 hb1, below_step hS.2.2.2.2 hb1⟩) (fun hS => ?_)
              clear hK K
              try simp only [Act.put, List.getElem_toArray, List.getElem_cons_succ, List.getElem_cons_zero, List.setIfInBounds_toArray, List.set_cons_zero, List.set_cons_succ]
              refine wpAnyH_take (i := 2) (v := ?_) rfl (by kernel_rfl) (by kernel_rfl) (by kernel_rfl) (fun _ _ _ h => h) (Or.inl ⟨by kernel_rfl, ?_⟩) hS ?_
              rotate_left
              · intro w hSw; (try dsimp only at hSw); go_simp; try (with_reducible rfl)
              simp only [Act.put, List.getElem_toArray, List.getElem_cons_succ, List.getElem_cons_zero, List.setIfInBounds_toArray, List.set_cons_zero, List.set_cons_succ]
              refine wpAnyH_take (i := 3) (v := ?_) rfl (by kernel_rfl) (by kernel_rfl) (by kernel_rfl) (fun _ _ _ h => h) (Or.inl ⟨by kernel_rfl, ?_⟩) hS ?_
              rotate_left
              · intro w hSw; (try dsimp only at hSw); go_simp; try (with_reducible rfl)
              simp only [Act.put, List.getElem_toArray, List.getElem_cons_succ, List.getElem_cons_zero, List.setIfInBounds_toArray, List.set_cons_zero, List.set_cons_succ]
              refine wpAnyH_take (i := 4) (v := ?_) rfl (by kernel_rfl) (by kernel_rfl) (by kernel_rfl) (fun _ _ _ h => h) (Or.inl ⟨by kernel_rfl, ?_⟩) hS ?_
              rotate_left
              · intro w hSw; (try dsimp only at hSw); go_simp; try (with_reducible rfl)
              simp only [Act.put, List.getElem_toArray, List.getElem_cons_succ, List.getElem_cons_zero, List.setIfInBounds_toArray, List.set_cons_zero, List.set_cons_succ]
              refine wpAnyH_take (i := 5) (v := ?_) rfl (by kernel_rfl) (by kernel_rfl) (by kernel_rfl) (fun _ _ _ h => h) (Or.inl ⟨by kernel_rfl, ?_⟩) hS ?_
              rotate_left
              · intro w hSw; (try dsimp only at hSw); go_simp; try (with_reducible rfl)
              simp only [Act.put, List.getElem_toArray, List.getElem_cons_succ, List.getElem_cons_zero, List.setIfInBounds_toArray, List.set_cons_zero, List.set_cons_succ]
              refine wpAnyH_take (i := 6) (v := ?_) rfl (by kernel_rfl) (by kernel_rfl) (by kernel_rfl) (fun _ _ _ h => h) (Or.inl ⟨by kernel_rfl, ?_⟩) hS ?_
              rotate_left
              · intro w hSw; (try dsimp only at hSw); go_simp; try (with_reducible rfl)
              simp only [Act.put, List.getElem_toArray, List.getElem_cons_succ, List.getElem_cons_zero, List.setIfInBounds_toArray, List.set_cons_zero, List.set_cons_succ]
              refine wpAnyH_take (i := 7) (v := ?_) rfl (by kernel_rfl) (by kernel_rfl) (by kernel_rfl) (fun _ _ _ h => h) (Or.inl ⟨by kernel_rfl, ?_⟩) hS ?_
              rotate_left
              · intro w hSw; (try dsimp only at hSw); go_simp; try (with_reducible rfl)
              simp only [Act.put, List.getElem_toArray, List.getElem_cons_succ, List.getElem_cons_zero, List.setIfInBounds_toArray, List.set_cons_zero, List.set_cons_succ]
              refine wpAnyH_take (i := 8) (v := ?_) rfl (by kernel_rfl) (by kernel_rfl) (by kernel_rfl) (fun _ _ _ h => h) (Or.inl ⟨by kernel_rfl, ?_⟩) hS ?_
              rotate_left
              · intro w hSw; (try dsimp only at hSw); go_simp; try (with_reducible rfl)
              simp only [Act.put, List.getElem_toArray, List.getElem_cons_succ, List.getElem_cons_zero, List.setIfInBounds_toArray, List.set_cons_zero, List.set_cons_succ]
              refine wpAnyH_take (i := 9) (v := ?_) rfl (by kernel_rfl) (by kernel_rfl) (by kernel_rfl) (fun _ _ _ h => h) (Or.inl ⟨by kernel_rfl, ?_⟩) hS ?_
              rotate_left
              · intro w hSw; (try dsimp only at hSw); go_simp; try (with_reducible rfl)
              simp only [Act.put, List.getElem_toArray, List.getElem_cons_succ, List.getElem_cons_zero, List.setIfInBounds_toArray, List.set_cons_zero, List.set_cons_succ]
              refine wpAnyH_take (i := 10) (v := ?_) rfl (by kernel_rfl) (by kernel_rfl) (by kernel_rfl) (fun _ _ _ h => h) (Or.inl ⟨by kernel_rfl, ?_⟩) hS ?_
              rotate_left
              · intro w hSw; (try dsimp only at hSw); go_simp; try (with_reducible rfl)
              simp only [Act.put, List.getElem_toArray, List.getElem_cons_succ, List.getElem_cons_zero, List.setIfInBounds_toArray, List.set_cons_zero, List.set_cons_succ]
              refine wpAnyH_take (i := 11) (v := ?_) rfl (by kernel_rfl) (by kernel_rfl) (by kernel_rfl) (fun _ _ _ h => h) (Or.inl ⟨by kernel_rfl, ?_⟩) hS ?_
              rotate_left
              · intro w hSw; (try dsimp only at hSw); go_simp; try (with_reducible rfl)
              simp only [Act.put, List.getElem_toArray, List.getElem_cons_succ, List.getElem_cons_zero, List.setIfInBounds_toArray, List.set_cons_zero, List.set_cons_succ]
              refine wpAnyH_take (i := 12) (v := ?_) rfl (by kernel_rfl) (by kernel_rfl) (by kernel_rfl) (fun _ _ _ h => h) (Or.inl ⟨by kernel_rfl, ?_⟩) hS ?_
              rotate_left
              · intro w hSw; (try dsimp only at hSw); go_simp; try (with_reducible rfl)
              simp only [Act.put, List.getElem_toArray, List.getElem_cons_succ, List.getElem_cons_zero, List.setIfInBounds_toArray, List.set_cons_zero, List.set_cons_succ]
              refine wpAnyH_ready (rs := [13]) (by kernel_rfl) (by simp) (AllReadyH.cons rfl (fun K hK => ?_) AllReadyH.nil)
              go_simp
              go_at_call 44; refine (norder_any _ _ _ _ _ HSX.out.2 HSY.out.2 HOXX.out HO.out).mono ?_; rintro e w1 ⟨rfl, hb1⟩; rw [HR.out]
              refine hK.out _ _ (by exact ⟨cell_keep hS.1 hb1, cell_keep hS.2.1 hb1, cell_keep hS.2.2.1 hb1, cell_keep hS.2.2.2.1 hb1, below_step hS.2.2.2.2 hb1⟩) (fun hS => ?_)
              clear hK K
              try simp only [Act.put, List.getElem_toArray, List.getElem_cons_succ, List.getElem_cons_zero, List.setIfInBounds_toArray, List.set_cons_zero, List.set_cons_succ]
              refine wpAnyH_take (i := 14) (v := ?_) rfl (by kernel_rfl) (by kernel_rfl) (by kernel_rfl) (fun _ _ _ h => h) (Or.inl ⟨by kernel_rfl, ?_⟩) hS ?_
              rotate_left
              · intro w hSw; (try dsimp only at hSw); go_simp; try (with_reducible rfl)
              simp only [Act.put, List.getElem_toArray, List.getElem_cons_succ, List.getElem_cons_zero, List.setIfInBounds_toArray, List.set_cons_zero, List.set_cons_succ]
              refine wpAnyH_take (i := 15) (v := ?_) rfl (by kernel_rfl) (by kernel_rfl) (by kernel_rfl) (fun _ _ _ h => h) (Or.inl ⟨by kernel_rfl, ?_⟩) hS ?_
              rotate_left
              · intro w hSw; (try dsimp only at hSw); go_simp; try (with_reducible rfl)
              simp only [Act.put, List.getElem_toArray, List.getElem_cons_succ, List.getElem_cons_zero, List.setIfInBounds_toArray, List.set_cons_zero, List.set_cons_succ]
              refine wpAnyH_take (i := 16) (v := ?_) rfl (by kernel_rfl) (by kernel_rfl) (by kernel_rfl) (fun _ _ _ h => h) (Or.inl ⟨by kernel_rfl, ?_⟩) hS ?_
              rotate_left
              · intro w hSw; (try dsimp only at hSw); go_simp; try (with_reducible rfl)
              simp only [Act.put, List.getElem_toArray, List.getElem_cons_succ, List.getElem_cons_zero, List.setIfInBounds_toArray, List.set_cons_zero, List.set_cons_succ]
              refine wpAnyH_done (by kernel_rfl) ?_ _
              go_wp2_with fail
              go_meet
              exact ⟨rfl, hS.2.2.2.2⟩
            case rest =>
              obtain ⟨rfl, hbw⟩ := hcut
              go_wp2
              go_ret
              exact ⟨by rw [← HT.out, if_neg (by rw [hno.out]; simp)]; rfl, hbw⟩
          · have HR := Lib.hid hr; clear hr
            have hno : Hid (checkN ns = false) := Lib.hid (checkN_no HKL.out (by rw [HSTEP.out, HO.out, ltN_no.2 (by rw [HR.out]; decide), decide_eq_false h0]; rfl))
            go_cut [28] from 12 to 28 (fun s28 wx => s28 = .bool true ∧ Below w.heap.size w wx)
            case first =>
              refine wp_region_held_drew (S := fun w' => w'.cell? ⟨g, 0, none⟩ = some (.string (mkB y.1)) ∧ w'.cell? ⟨g, 1, none⟩ = some (.string (mkB y.2)) ∧ w'.cell? ⟨b, off + (k - 1) * 2, none⟩ = some (.string (mkB x.1)) ∧ w'.cell? ⟨b, off + (k - 1) * 2 + 1, none⟩ = some (.string (mkB x.2)) ∧ Below w.heap.size w w') (by kernel_rfl) (by exact ⟨cell_drew d0, cell_drew d1, cell_drew p0, cell_drew p1, below_step B.out (below_q ⟨1, rfl⟩)⟩) (fun hS => ?_)
              refine wpAnyH_take (i := 0) (v := ?_) rfl (by kernel_rfl) (by kernel_rfl) (by kernel_rfl) (fun _ _ _ h => h) (Or.inl ⟨by kernel_rfl, ?_⟩) hS ?_
              rotate_left
              · intro w hSw; (try dsimp only at hSw); go_simp; try (with_reducible rfl)
              simp only [Act.put, List.getElem_toArray, List.getElem_cons_zero, List.setIfInBounds_toArray, List.set_cons_zero, List.set_cons_succ]
              refine wpAnyH_ready (rs := [1]) (by kernel_rfl) (by simp) (AllReadyH.cons rfl (fun K hK => ?_) AllReadyH.nil)
              go_simp
              go_at_call 38; refine (nmay_any _ _ _ HSY.out.1 HSY.out.2).mono ?_; rintro e w1 ⟨rfl, hb1⟩; rw [HO.out]
              refine hK.out _ _ (by exact ⟨cell_keep hS.1 hb1, cell_keep hS.2.1 hb1, cell_keep hS.2.2.1 hb1, cell_keep hS.2.2.2.1 hb1, below_step hS.2.2.2.2 hb1⟩) (fun hS => ?_)
              clear hK K
              try simp only [Act.put, List.getElem_toArray, List.getElem_cons_succ, List.getElem_cons_zero, List.setIfInBounds_toArray, List.set_cons_zero, List.set_cons_succ]
              refine wpAnyH_take (i := 2) (v := ?_) rfl (by kernel_rfl) (by kernel_rfl) (by kernel_rfl) (fun _ _ _ h => h) (Or.inl ⟨by kernel_rfl, ?_⟩) hS ?_
              rotate_left
              · intro w hSw; (try dsimp only at hSw); go_simp; try (with_reducible rfl)
              simp only [Act.put, List.getElem_toArray, List.getElem_cons_succ, List.getElem_cons_zero, List.setIfInBounds_toArray, List.set_cons_zero, List.set_cons_succ]
              refine wpAnyH_take (i := 3) (v := ?_) rfl (by kernel_rfl) (by kernel_rfl) (by kernel_rfl) (fun _ _ _ h => h) (Or.inl ⟨by kernel_rfl, ?_⟩) hS ?_
              rotate_left
              · intro w hSw; (try dsimp only at hSw); go_simp; try (with_reducible rfl)
              simp only [Act.put, List.getElem_toArray, List.getElem_cons_succ, List.getElem_cons_zero, List.setIfInBounds_toArray, List.set_cons_zero, List.set_cons_succ]
              refine wpAnyH_take (i := 4) (v := ?_) rfl (by kernel_rfl) (by kernel_rfl) (by kernel_rfl) (fun _ _ _ h => h) (Or.inl ⟨by kernel_rfl, ?_⟩) hS ?_
              rotate_left
              · intro w hSw; (try dsimp only at hSw); go_simp; try (with_reducible rfl)
              simp only [Act.put, List.getElem_toArray, List.getElem_cons_succ, List.getElem_cons_zero, List.setIfInBounds_toArray, List.set_cons_zero, List.set_cons_succ]
              refine wpAnyH_take (i := 5) (v := ?_) rfl (by kernel_rfl) (by kernel_rfl) (by kernel_rfl) (fun _ _ _ h => h) (Or.inl ⟨by kernel_rfl, ?_⟩) hS ?_
              rotate_left
              · intro w hSw; (try dsimp only at hSw); go_simp; try (with_reducible rfl)
              simp only [Act.put, List.getElem_toArray, List.getElem_cons_succ, List.getElem_cons_zero, List.setIfInBounds_toArray, List.set_cons_zero, List.set_cons_succ]
              refine wpAnyH_take (i := 6) (v := ?_) rfl (by kernel_rfl) (by kernel_rfl) (by kernel_rfl) (fun _ _ _ h => h) (Or.inl ⟨by kernel_rfl, ?_⟩) hS ?_
              rotate_left
              · intro w hSw; (try dsimp only at hSw); go_simp; try (with_reducible rfl)
              simp only [Act.put, List.getElem_toArray, List.getElem_cons_succ, List.getElem_cons_zero, List.setIfInBounds_toArray, List.set_cons_zero, List.set_cons_succ]
              refine wpAnyH_take (i := 7) (v := ?_) rfl (by kernel_rfl) (by kernel_rfl) (by kernel_rfl) (fun _ _ _ h => h) (Or.inl ⟨by kernel_rfl, ?_⟩) hS ?_
              rotate_left
              · intro w hSw; (try dsimp only at hSw); go_simp; try (with_reducible rfl)
              simp only [Act.put, List.getElem_toArray, List.getElem_cons_succ, List.getElem_cons_zero, List.setIfInBounds_toArray, List.set_cons_zero, List.set_cons_succ]
              refine wpAnyH_take (i := 8) (v := ?_) rfl (by kernel_rfl) (by kernel_rfl) (by kernel_rfl) (fun _ _ _ h => h) (Or.inl ⟨by kernel_rfl, ?_⟩) hS ?_
              rotate_left
              · intro w hSw; (try dsimp only at hSw); go_simp; try (with_reducible rfl)
              simp only [Act.put, List.getElem_toArray, List.getElem_cons_succ, List.getElem_cons_zero, List.setIfInBounds_toArray, List.set_cons_zero, List.set_cons_succ]
              refine wpAnyH_take (i := 9) (v := ?_) rfl (by kernel_rfl) (by kernel_rfl) (by kernel_rfl) (fun _ _ _ h => h) (Or.inl ⟨by kernel_rfl, ?_⟩) hS ?_
              rotate_left
              · intro w hSw; (try dsimp only at hSw); go_simp; try (with_reducible rfl)
              simp only [Act.put, List.getElem_toArray, List.getElem_cons_succ, List.getElem_cons_zero, List.setIfInBounds_toArray, List.set_cons_zero, List.set_cons_succ]
              refine wpAnyH_take (i := 10) (v := ?_) rfl (by kernel_rfl) (by kernel_rfl) (by kernel_rfl) (fun _ _ _ h => h) (Or.inl ⟨by kernel_rfl, ?_⟩) hS ?_
              rotate_left
              · intro w hSw; (try dsimp only at hSw); go_simp; try (with_reducible rfl)
              simp only [Act.put, List.getElem_toArray, List.getElem_cons_succ, List.getElem_cons_zero, List.setIfInBounds_toArray, List.set_cons_zero, List.set_cons_succ]
              refine wpAnyH_take (i := 11) (v := ?_) rfl (by kernel_rfl) (by kernel_rfl) (by kernel_rfl) (fun _ _ _ h => h) (Or.inl ⟨by kernel_rfl, ?_⟩) hS ?_
              rotate_left
              · intro w hSw; (try dsimp only at hSw); go_simp; try (with_reducible rfl)
              simp only [Act.put, List.getElem_toArray, List.getElem_cons_succ, List.getElem_cons_zero, List.setIfInBounds_toArray, List.set_cons_zero, List.set_cons_succ]
              refine wpAnyH_take (i := 12) (v := ?_) rfl (by kernel_rfl) (by kernel_rfl) (by kernel_rfl) (fun _ _ _ h => h) (Or.inl ⟨by kernel_rfl, ?_⟩) hS ?_
              rotate_left
              · intro w hSw; (try dsimp only at hSw); go_simp; try (with_reducible rfl)
              simp only [Act.put, List.getElem_toArray, List.getElem_cons_succ, List.getElem_cons_zero, List.setIfInBounds_toArray, List.set_cons_zero, List.set_cons_succ]
              refine wpAnyH_ready (rs := [13]) (by kernel_rfl) (by simp) (AllReadyH.cons rfl (fun K hK => ?_) AllReadyH.nil)
              go_simp
              go_at_call 44; refine (norder_any _ _ _ _ _ HSX.out.2 HSY.out.2 HOXX.out HO.out).mono ?_; rintro e w1 ⟨rfl, hb1⟩; rw [HR.out]
              refine hK.out _ _ (by exact ⟨cell_keep hS.1 hb1, cell_keep hS.2.1 hb1, cell_keep hS.2.2.1 hb1, cell_keep hS.2.2.2.1 hb1, below_step hS.2.2.2.2 hb1⟩) (fun hS => ?_)
              clear hK K
              try simp only [Act.put, List.getElem_toArray, List.getElem_cons_succ, List.getElem_cons_zero, List.setIfInBounds_toArray, List.set_cons_zero, List.set_cons_succ]
              refine wpAnyH_take (i := 14) (v := ?_) rfl (by kernel_rfl) (by kernel_rfl) (by kernel_rfl) (fun _ _ _ h => h) (Or.inl ⟨by kernel_rfl, ?_⟩) hS ?_
              rotate_left
              · intro w hSw; (try dsimp only at hSw); go_simp; try (with_reducible rfl)
              simp only [Act.put, List.getElem_toArray, List.getElem_cons_succ, List.getElem_cons_zero, List.setIfInBounds_toArray, List.set_cons_zero, List.set_cons_succ]
              refine wpAnyH_take (i := 15) (v := ?_) rfl (by kernel_rfl) (by kernel_rfl) (by kernel_rfl) (fun _ _ _ h => h) (Or.inl ⟨by kernel_rfl, ?_⟩) hS ?_
              rotate_left
              · intro w hSw; (try dsimp only at hSw); go_simp; try (with_reducible rfl)
              simp only [Act.put, List.getElem_toArray, List.getElem_cons_succ, List.getElem_cons_zero, List.setIfInBounds_toArray, List.set_cons_zero, List.set_cons_succ]
              refine wpAnyH_take (i := 16) (v := ?_) rfl (by kernel_rfl) (by kernel_rfl) (by kernel_rfl) (fun _ _ _ h => h) (Or.inl ⟨by kernel_rfl, ?_⟩) hS ?_
              rotate_left
              · intro w hSw; (try dsimp only at hSw); go_simp; try (with_reducible rfl)
              simp only [Act.put, List.getElem_toArray, List.getElem_cons_succ, List.getElem_cons_zero, List.setIfInBounds_toArray, List.set_cons_zero, List.set_cons_succ]
              refine wpAnyH_done (by kernel_rfl) ?_ _
              go_wp2_with fail
              go_meet
              exact ⟨rfl, hS.2.2.2.2⟩
            case rest =>
              obtain ⟨rfl, hbw⟩ := hcut
              go_wp2
              go_ret
              exact ⟨by rw [← HT.out, if_neg (by rw [hno.out]; simp)]; rfl, hbw⟩
    · go_wp2
      go_ret
      have e : k = n := by omega
      subst e
      have hc : checkN ns = true := checkN_yes fun j hj => HM.out j (by rw [← HN.out]; exact hj)
      exact ⟨by rw [← HT.out, if_pos hc]; rfl, HB.out⟩
end Go.Proofs.Ytceefoiffkgliaa

namespace Go.Proofs.Ytceefoiffkgliaa
open Go.RowKit
set_option maxRecDepth 100000
attribute [local go_sem ↓] Go.wp_at_zero Go.wp_at_succ

set_option maxHeartbeats 3200000 in
theorem refncheck_any (v : Value) (ns : List Nd) (w : World) (h : Nds w v ns) (hs : ∀ n ∈ ns, smallN n) :
    Calls Try.prog 30 #[v] w fun e w' => e = .returned (.bool (checkN ns)) ∧ Below w.heap.size w w' := by
  obtain ⟨a, c, rfl, h1, h2, -, -⟩ := h.ex
  unfold maxLen at h2
  obtain ⟨n, hn⟩ : ∃ n, ns.length = n := ⟨_, rfl⟩
  obtain ⟨T, hT⟩ : ∃ T, checkN ns = T := ⟨_, rfl⟩
  rw [hT]
  have HT := Lib.hid hT; clear hT
  rw [hn] at h1 h ⊢
  have HN := Lib.hid hn; have ST := Lib.hid h; have HS := Lib.hid hs
  clear h hn hs
  go_enter Try.func30, Try.ntmps30
  go_wp2
  go_loopw [3] (fun i wr => ∃ k : Nat, k ≤ n ∧ i = .int .i64 k ∧ Hid (∀ j, j < k → stepN ns j = true) ∧ Hid (Below w.heap.size w wr)) (fun i _ => n - (intOf i).toNat)
  case atStart => exact ⟨0, Nat.zero_le _, rfl, Lib.hid fun j hj => absurd hj (Nat.not_lt_zero j), Lib.hid (Below.refl _ _)⟩
  case round =>
    obtain ⟨k, hk, rfl, HM, HB⟩ := hrel
    by_cases hlt : k < n
    · have hkl : k < ns.length := by rw [HN.out]; exact hlt
      obtain ⟨y, hy⟩ : ∃ y, y = ns.getD k ([], []) := ⟨_, rfl⟩
      have hsy : smallN y := by rw [hy]; exact HS.out _ (nd_mem hkl)
      obtain ⟨x, hx⟩ : ∃ x, x = ns.getD (k - 1) ([], []) := ⟨_, rfl⟩
      have hsx : smallN x := by rw [hx]; exact HS.out _ (nd_mem (by omega))
      have hst : stepN ns k = (okN y && (decide (k = 0) || ltN x y)) := by unfold stepN; rw [← hy, ← hx]
      obtain ⟨b, off, rfl, hbk, d0, d1⟩ := (ST.out.below HB.out).at k hkl
      rw [← hy] at d0 d1
      have hpr : w.heap.size = w.heap.size ∧ wr.cell? ⟨b, off + (k - 1) * 2, none⟩ = some (.string (mkB x.1)) ∧ wr.cell? ⟨b, off + (k - 1) * 2 + 1, none⟩ = some (.string (mkB x.2)) := by
        obtain ⟨b', off', e, _, p0, p1⟩ := (ST.out.below HB.out).at (k - 1) (by omega)
        cases e
        rw [← hx] at p0 p1
        exact ⟨rfl, p0, p1⟩
      obtain ⟨-, p0, p1⟩ := hpr
      obtain ⟨o, ho⟩ : ∃ o, okN y = o := ⟨_, rfl⟩
      have hox : 0 < k → okN x = true := fun h0 => by
        have := HM.out (k - 1) (by omega)
        unfold stepN at this
        rw [← hx] at this
        simp only [Bool.and_eq_true] at this
        exact this.1
      have hkn : (k : Int) < (n : Int) := by omega
      have hk0 : (0 : Int) ≤ (k : Int) := by omega
      have HSY := Lib.hid hsy; have HSX := Lib.hid hsx; have HY := Lib.hid hy; have HX := Lib.hid hx; have HSTEP := Lib.hid hst; have HO := Lib.hid ho; have HOX := Lib.hid hox; have HKL := Lib.hid hkl
      clear hsy hsx hy hx hst ho hox hkl
      have B := HB
      obtain ⟨x1, x2⟩ := x
      obtain ⟨y1, y2⟩ := y
      simp only at d0 d1 p0 p1
      go_upto_region 4 with fail
      cases o
      · have hno : Hid (checkN ns = false) := Lib.hid (checkN_no HKL.out (by rw [HSTEP.out, HO.out]; rfl))
        go_cut [32] from 10 to 32 (fun s32 wx => s32 = .bool true ∧ Below w.heap.size w wx)
        case first =>
          refine wp_region_held_drew (S := fun w' => w'.cell? ⟨b, off + k * 2, none⟩ = some (.string (mkB y1)) ∧ w'.cell? ⟨b, off + k * 2 + 1, none⟩ = some (.string (mkB y2)) ∧ w'.cell? ⟨b, off + (k - 1) * 2, none⟩ = some (.string (mkB x1)) ∧ w'.cell? ⟨b, off + (k - 1) * 2 + 1, none⟩ = some (.string (mkB x2)) ∧ Below w.heap.size w w') (by kernel_rfl) (by exact ⟨cell_drew d0, cell_drew d1, cell_drew p0, cell_drew p1, below_step B.out (below_q ⟨1, rfl⟩)⟩) (fun hS => ?_)
          refine wpAnyH_take (i := 0) (v := ?_) rfl (by kernel_rfl) (by kernel_rfl) (by kernel_rfl) (fun _ _ _ h => h) (Or.inl ⟨by kernel_rfl, ?_⟩) hS ?_
          rotate_left
          · intro w hSw; (try dsimp only at hSw); go_simp; try (with_reducible rfl)
          simp only [Act.put, List.getElem_toArray, List.getElem_cons_zero, List.setIfInBounds_toArray, List.set_cons_zero, List.set_cons_succ]
          refine wpAnyH_take (i := 1) (v := ?_) rfl (by kernel_rfl) (by kernel_rfl) (by kernel_rfl) (fun _ _ _ h => h) (Or.inl ⟨by kernel_rfl, ?_⟩) hS ?_
          rotate_left
          · intro w hSw; (try dsimp only at hSw); go_simp; try (with_reducible rfl)
          simp only [Act.put, List.getElem_toArray, List.getElem_cons_succ, List.getElem_cons_zero, List.setIfInBounds_toArray, List.set_cons_zero, List.set_cons_succ]
          refine wpAnyH_take (i := 2) (v := ?_) rfl (by kernel_rfl) (by kernel_rfl) (by kernel_rfl) (fun _ _ _ h => h) (Or.inl ⟨by kernel_rfl, ?_⟩) hS ?_
          rotate_left
          · intro w hSw; (try dsimp only at hSw); go_simp; try (with_reducible rfl)
          simp only [Act.put, List.getElem_toArray, List.getElem_cons_succ, List.getElem_cons_zero, List.setIfInBounds_toArray, List.set_cons_zero, List.set_cons_succ]
          refine wpAnyH_take (i := 3) (v := ?_) rfl (by kernel_rfl) (by kernel_rfl) (by kernel_rfl) (fun _ _ _ h => h) (Or.inl ⟨by kernel_rfl, ?_⟩) hS ?_
          rotate_left
          · intro w hSw; (try dsimp only at hSw); go_simp; try (with_reducible rfl)
          simp only [Act.put, List.getElem_toArray, List.getElem_cons_succ, List.getElem_cons_zero, List.setIfInBounds_toArray, List.set_cons_zero, List.set_cons_succ]
          refine wpAnyH_ready (rs := [4]) (by kernel_rfl) (by simp) (AllReadyH.cons rfl (fun K hK => ?_) AllReadyH.nil)
          go_simp
          go_at_call 17; refine (refnmay_any _ _ _ HSY.out.1 HSY.out.2).mono ?_; rintro e w1 ⟨rfl, hb1⟩; rw [HO.out]
          refine hK.out _ _ (by exact ⟨cell_keep hS.1 hb1, cell_keep hS.2.1 hb1, cell_keep hS.2.2.1 hb1, cell_keep hS.2.2.2.1 hb1, below_step hS.2.2.2.2 hb1⟩) (fun hS => ?_)
          clear hK K
          try simp only [Act.put, List.getElem_toArray, List.getElem_cons_succ, List.getElem_cons_zero, List.setIfInBounds_toArray, List.set_cons_zero, List.set_cons_succ]
          refine wpAnyH_take (i := 5) (v := ?_) rfl (by kernel_rfl) (by kernel_rfl) (by kernel_rfl) (fun _ _ _ h => h) (Or.inl ⟨by kernel_rfl, ?_⟩) hS ?_
          rotate_left
          · intro w hSw; (try dsimp only at hSw); go_simp; try (with_reducible rfl)
          simp only [Act.put, List.getElem_toArray, List.getElem_cons_succ, List.getElem_cons_zero, List.setIfInBounds_toArray, List.set_cons_zero, List.set_cons_succ]
          refine wpAnyH_take (i := 6) (v := ?_) rfl (by kernel_rfl) (by kernel_rfl) (by kernel_rfl) (fun _ _ _ h => h) (Or.inl ⟨by kernel_rfl, ?_⟩) hS ?_
          rotate_left
          · intro w hSw; (try dsimp only at hSw); go_simp; try (with_reducible rfl)
          simp only [Act.put, List.getElem_toArray, List.getElem_cons_succ, List.getElem_cons_zero, List.setIfInBounds_toArray, List.set_cons_zero, List.set_cons_succ]
          refine wpAnyH_take (i := 7) (v := undef) rfl (by kernel_rfl) (by kernel_rfl) (by kernel_rfl) (fun _ _ _ h => h) (Or.inr ⟨by kernel_rfl, rfl⟩) hS ?_
          simp only [Act.put, List.getElem_toArray, List.getElem_cons_succ, List.getElem_cons_zero, List.setIfInBounds_toArray, List.set_cons_zero, List.set_cons_succ]
          refine wpAnyH_take (i := 8) (v := undef) rfl (by kernel_rfl) (by kernel_rfl) (by kernel_rfl) (fun _ _ _ h => h) (Or.inr ⟨by kernel_rfl, rfl⟩) hS ?_
          simp only [Act.put, List.getElem_toArray, List.getElem_cons_succ, List.getElem_cons_zero, List.setIfInBounds_toArray, List.set_cons_zero, List.set_cons_succ]
          refine wpAnyH_take (i := 9) (v := undef) rfl (by kernel_rfl) (by kernel_rfl) (by kernel_rfl) (fun _ _ _ h => h) (Or.inr ⟨by kernel_rfl, rfl⟩) hS ?_
          simp only [Act.put, List.getElem_toArray, List.getElem_cons_succ, List.getElem_cons_zero, List.setIfInBounds_toArray, List.set_cons_zero, List.set_cons_succ]
          refine wpAnyH_take (i := 10) (v := undef) rfl (by kernel_rfl) (by kernel_rfl) (by kernel_rfl) (fun _ _ _ h => h) (Or.inr ⟨by kernel_rfl, rfl⟩) hS ?_
          simp only [Act.put, List.getElem_toArray, List.getElem_cons_succ, List.getElem_cons_zero, List.setIfInBounds_toArray, List.set_cons_zero, List.set_cons_succ]
          refine wpAnyH_take (i := 11) (v := undef) rfl (by kernel_rfl) (by kernel_rfl) (by kernel_rfl) (fun _ _ _ h => h) (Or.inr ⟨by kernel_rfl, rfl⟩) hS ?_
          simp only [Act.put, List.getElem_toArray, List.getElem_cons_succ, List.getElem_cons_zero, List.setIfInBounds_toArray, List.set_cons_zero, List.set_cons_succ]
          refine wpAnyH_take (i := 12) (v := undef) rfl (by kernel_rfl) (by kernel_rfl) (by kernel_rfl) (fun _ _ _ h => h) (Or.inr ⟨by kernel_rfl, rfl⟩) hS ?_
          simp only [Act.put, List.getElem_toArray, List.getElem_cons_succ, List.getElem_cons_zero, List.setIfInBounds_toArray, List.set_cons_zero, List.set_cons_succ]
          refine wpAnyH_take (i := 13) (v := undef) rfl (by kernel_rfl) (by kernel_rfl) (by kernel_rfl) (fun _ _ _ h => h) (Or.inr ⟨by kernel_rfl, rfl⟩) hS ?_
          simp only [Act.put, List.getElem_toArray, List.getElem_cons_succ, List.getElem_cons_zero, List.setIfInBounds_toArray, List.set_cons_zero, List.set_cons_succ]
          refine wpAnyH_take (i := 14) (v := undef) rfl (by kernel_rfl) (by kernel_rfl) (by kernel_rfl) (fun _ _ _ h => h) (Or.inr ⟨by kernel_rfl, rfl⟩) hS ?_
          simp only [Act.put, List.getElem_toArray, List.getElem_cons_succ, List.getElem_cons_zero, List.setIfInBounds_toArray, List.set_cons_zero, List.set_cons_succ]
          refine wpAnyH_take (i := 15) (v := undef) rfl (by kernel_rfl) (by kernel_rfl) (by kernel_rfl) (fun _ _ _ h => h) (Or.inr ⟨by kernel_rfl, rfl⟩) hS ?_
          simp only [Act.put, List.getElem_toArray, List.getElem_cons_succ, List.getElem_cons_zero, List.setIfInBounds_toArray, List.set_cons_zero, List.set_cons_succ]
          refine wpAnyH_take (i := 16) (v := undef) rfl (by kernel_rfl) (by kernel_rfl) (by kernel_rfl) (fun _ _ _ h => h) (Or.inr ⟨by kernel_rfl, rfl⟩) hS ?_
          simp only [Act.put, List.getElem_toArray, List.getElem_cons_succ, List.getElem_cons_zero, List.setIfInBounds_toArray, List.set_cons_zero, List.set_cons_succ]
          refine wpAnyH_take (i := 17) (v := undef) rfl (by kernel_rfl) (by kernel_rfl) (by kernel_rfl) (fun _ _ _ h => h) (Or.inr ⟨by kernel_rfl, rfl⟩) hS ?_
          simp only [Act.put, List.getElem_toArray, List.getElem_cons_succ, List.getElem_cons_zero, List.setIfInBounds_toArray, List.set_cons_zero, List.set_cons_succ]
          refine wpAnyH_take (i := 18) (v := undef) rfl (by kernel_rfl) (by kernel_rfl) (by kernel_rfl) (fun _ _ _ h => h) (Or.inr ⟨by kernel_rfl, rfl⟩) hS ?_
          simp only [Act.put, List.getElem_toArray, List.getElem_cons_succ, List.getElem_cons_zero, List.setIfInBounds_toArray, List.set_cons_zero, List.set_cons_succ]
          refine wpAnyH_take (i := 19) (v := undef) rfl (by kernel_rfl) (by kernel_rfl) (by kernel_rfl) (fun _ _ _ h => h) (Or.inr ⟨by kernel_rfl, rfl⟩) hS ?_
          simp only [Act.put, List.getElem_toArray, List.getElem_cons_succ, List.getElem_cons_zero, List.setIfInBounds_toArray, List.set_cons_zero, List.set_cons_succ]
          refine wpAnyH_take (i := 20) (v := undef) rfl (by kernel_rfl) (by kernel_rfl) (by kernel_rfl) (fun _ _ _ h => h) (Or.inr ⟨by kernel_rfl, rfl⟩) hS ?_
          simp only [Act.put, List.getElem_toArray, List.getElem_cons_succ, List.getElem_cons_zero, List.setIfInBounds_toArray, List.set_cons_zero, List.set_cons_succ]
          refine wpAnyH_take (i := 21) (v := undef) rfl (by kernel_rfl) (by kernel_rfl) (by kernel_rfl) (fun _ _ _ h => h) (Or.inr ⟨by kernel_rfl, rfl⟩) hS ?_
          simp only [Act.put, List.getElem_toArray, List.getElem_cons_succ, List.getElem_cons_zero, List.setIfInBounds_toArray, List.set_cons_zero, List.set_cons_succ]
          refine wpAnyH_take (i := 22) (v := ?_) rfl (by kernel_rfl) (by kernel_rfl) (by kernel_rfl) (fun _ _ _ h => h) (Or.inl ⟨by kernel_rfl, ?_⟩) hS ?_
          rotate_left
          · intro w hSw; (try dsimp only at hSw); go_simp; try (with_reducible rfl)
          simp only [Act.put, List.getElem_toArray, List.getElem_cons_succ, List.getElem_cons_zero, List.setIfInBounds_toArray, List.set_cons_zero, List.set_cons_succ]
          refine wpAnyH_done (by kernel_rfl) ?_ _
          go_wp2_with fail
          go_meet
          exact ⟨rfl, hS.2.2.2.2⟩
        case rest =>
          obtain ⟨rfl, hbw⟩ := hcut
          go_wp2
          go_ret
          exact ⟨by have h := HT.out; rw [hno.out] at h; subst h; rfl, hbw⟩
      · by_cases h0 : k = 0
        · subst h0
          have hyes : Hid (stepN ns 0 = true) := Lib.hid (by rw [HSTEP.out, HO.out]; rfl)
          go_cut [32] from 10 to 32 (fun s32 wx => s32 = .bool false ∧ Below w.heap.size w wx)
          case first =>
            have d0 : wr.cell? ⟨b, off, none⟩ = some (.string (mkB y1)) := by simpa using d0
            have d1 : wr.cell? ⟨b, off + 1, none⟩ = some (.string (mkB y2)) := by simpa using d1
            clear p0 p1
            refine wp_region_held_drew (S := fun w' => w'.cell? ⟨b, off, none⟩ = some (.string (mkB y1)) ∧ w'.cell? ⟨b, off + 1, none⟩ = some (.string (mkB y2)) ∧ Below w.heap.size w w') (by kernel_rfl) (by exact ⟨cell_drew d0, cell_drew d1, below_step B.out (below_q ⟨1, rfl⟩)⟩) (fun hS => ?_)
            refine wpAnyH_take (i := 0) (v := ?_) rfl (by kernel_rfl) (by kernel_rfl) (by kernel_rfl) (fun _ _ _ h => h) (Or.inl ⟨by kernel_rfl, ?_⟩) hS ?_
            rotate_left
            · intro w hSw; (try dsimp only at hSw); go_simp; try (with_reducible rfl)
            simp only [Act.put, List.getElem_toArray, List.getElem_cons_zero, List.setIfInBounds_toArray, List.set_cons_zero, List.set_cons_succ]
            refine wpAnyH_take (i := 1) (v := ?_) rfl (by kernel_rfl) (by kernel_rfl) (by kernel_rfl) (fun _ _ _ h => h) (Or.inl ⟨by kernel_rfl, ?_⟩) hS ?_
            rotate_left
            · intro w hSw; (try dsimp only at hSw); go_simp; try (with_reducible rfl)
            simp only [Act.put, List.getElem_toArray, List.getElem_cons_succ, List.getElem_cons_zero, List.setIfInBounds_toArray, List.set_cons_zero, List.set_cons_succ]
            refine wpAnyH_take (i := 2) (v := ?_) rfl (by kernel_rfl) (by kernel_rfl) (by kernel_rfl) (fun _ _ _ h => h) (Or.inl ⟨by kernel_rfl, ?_⟩) hS ?_
            rotate_left
            · intro w hSw; (try dsimp only at hSw); go_simp; try (with_reducible rfl)
            simp only [Act.put, List.getElem_toArray, List.getElem_cons_succ, List.getElem_cons_zero, List.setIfInBounds_toArray, List.set_cons_zero, List.set_cons_succ]
            refine wpAnyH_take (i := 3) (v := ?_) rfl (by kernel_rfl) (by kernel_rfl) (by kernel_rfl) (fun _ _ _ h => h) (Or.inl ⟨by kernel_rfl, ?_⟩) hS ?_
            rotate_left
            · intro w hSw; (try dsimp only at hSw); go_simp; try (with_reducible rfl)
            simp only [Act.put, List.getElem_toArray, List.getElem_cons_succ, List.getElem_cons_zero, List.setIfInBounds_toArray, List.set_cons_zero, List.set_cons_succ]
            refine wpAnyH_ready (rs := [4]) (by kernel_rfl) (by simp) (AllReadyH.cons rfl (fun K hK => ?_) AllReadyH.nil)
            go_simp
            go_at_call 17; refine (refnmay_any _ _ _ HSY.out.1 HSY.out.2).mono ?_; rintro e w1 ⟨rfl, hb1⟩; rw [HO.out]
            refine hK.out _ _ (by exact ⟨cell_keep hS.1 hb1, cell_keep hS.2.1 hb1, below_step hS.2.2 hb1⟩) (fun hS => ?_)
            clear hK K
            try simp only [Act.put, List.getElem_toArray, List.getElem_cons_succ, List.getElem_cons_zero, List.setIfInBounds_toArray, List.set_cons_zero, List.set_cons_succ]
            refine wpAnyH_take (i := 5) (v := ?_) rfl (by kernel_rfl) (by kernel_rfl) (by kernel_rfl) (fun _ _ _ h => h) (Or.inl ⟨by kernel_rfl, ?_⟩) hS ?_
            rotate_left
            · intro w hSw; (try dsimp only at hSw); go_simp; try (with_reducible rfl)
            simp only [Act.put, List.getElem_toArray, List.getElem_cons_succ, List.getElem_cons_zero, List.setIfInBounds_toArray, List.set_cons_zero, List.set_cons_succ]
            refine wpAnyH_take (i := 6) (v := ?_) rfl (by kernel_rfl) (by kernel_rfl) (by kernel_rfl) (fun _ _ _ h => h) (Or.inl ⟨by kernel_rfl, ?_⟩) hS ?_
            rotate_left
            · intro w hSw; (try dsimp only at hSw); go_simp; try (with_reducible rfl)
            simp only [Act.put, List.getElem_toArray, List.getElem_cons_succ, List.getElem_cons_zero, List.setIfInBounds_toArray, List.set_cons_zero, List.set_cons_succ]
            refine wpAnyH_take (i := 7) (v := ?_) rfl (by kernel_rfl) (by kernel_rfl) (by kernel_rfl) (fun _ _ _ h => h) (Or.inl ⟨by kernel_rfl, ?_⟩) hS ?_
            rotate_left
            · intro w hSw; (try dsimp only at hSw); go_simp; try (with_reducible rfl)
            simp only [Act.put, List.getElem_toArray, List.getElem_cons_succ, List.getElem_cons_zero, List.setIfInBounds_toArray, List.set_cons_zero, List.set_cons_succ]
            refine wpAnyH_take (i := 8) (v := ?_) rfl (by kernel_rfl) (by kernel_rfl) (by kernel_rfl) (fun _ _ _ h => h) (Or.inl ⟨by kernel_rfl, ?_⟩) hS ?_
            rotate_left
            · intro w hSw; (try dsimp only at hSw); go_simp; try (with_reducible rfl)
            simp only [Act.put, List.getElem_toArray, List.getElem_cons_succ, List.getElem_cons_zero, List.setIfInBounds_toArray, List.set_cons_zero, List.set_cons_succ]
            refine wpAnyH_take (i := 9) (v := ?_) rfl (by kernel_rfl) (by kernel_rfl) (by kernel_rfl) (fun _ _ _ h => h) (Or.inl ⟨by kernel_rfl, ?_⟩) hS ?_
            rotate_left
            · intro w hSw; (try dsimp only at hSw); go_simp; try (with_reducible rfl)
            simp only [Act.put, List.getElem_toArray, List.getElem_cons_succ, List.getElem_cons_zero, List.setIfInBounds_toArray, List.set_cons_zero, List.set_cons_succ]
            refine wpAnyH_take (i := 10) (v := undef) rfl (by kernel_rfl) (by kernel_rfl) (by kernel_rfl) (fun _ _ _ h => h) (Or.inr ⟨by kernel_rfl, rfl⟩) hS ?_
            simp only [Act.put, List.getElem_toArray, List.getElem_cons_succ, List.getElem_cons_zero, List.setIfInBounds_toArray, List.set_cons_zero, List.set_cons_succ]
            refine wpAnyH_take (i := 11) (v := undef) rfl (by kernel_rfl) (by kernel_rfl) (by kernel_rfl) (fun _ _ _ h => h) (Or.inr ⟨by kernel_rfl, rfl⟩) hS ?_
            simp only [Act.put, List.getElem_toArray, List.getElem_cons_succ, List.getElem_cons_zero, List.setIfInBounds_toArray, List.set_cons_zero, List.set_cons_succ]
            refine wpAnyH_take (i := 12) (v := undef) rfl (by kernel_rfl) (by kernel_rfl) (by kernel_rfl) (fun _ _ _ h => h) (Or.inr ⟨by kernel_rfl, rfl⟩) hS ?_
            simp only [Act.put, List.getElem_toArray, List.getElem_cons_succ, List.getElem_cons_zero, List.setIfInBounds_toArray, List.set_cons_zero, List.set_cons_succ]
            refine wpAnyH_take (i := 13) (v := undef) rfl (by kernel_rfl) (by kernel_rfl) (by kernel_rfl) (fun _ _ _ h => h) (Or.inr ⟨by kernel_rfl, rfl⟩) hS ?_
            simp only [Act.put, List.getElem_toArray, List.getElem_cons_succ, List.getElem_cons_zero, List.setIfInBounds_toArray, List.set_cons_zero, List.set_cons_succ]
            refine wpAnyH_take (i := 14) (v := undef) rfl (by kernel_rfl) (by kernel_rfl) (by kernel_rfl) (fun _ _ _ h => h) (Or.inr ⟨by kernel_rfl, rfl⟩) hS ?_
            simp only [Act.put, List.getElem_toArray, List.getElem_cons_succ, List.getElem_cons_zero, List.setIfInBounds_toArray, List.set_cons_zero, List.set_cons_succ]
            refine wpAnyH_take (i := 15) (v := undef) rfl (by kernel_rfl) (by kernel_rfl) (by kernel_rfl) (fun _ _ _ h => h) (Or.inr ⟨by kernel_rfl, rfl⟩) hS ?_
            simp only [Act.put, List.getElem_toArray, List.getElem_cons_succ, List.getElem_cons_zero, List.setIfInBounds_toArray, List.set_cons_zero, List.set_cons_succ]
            refine wpAnyH_take (i := 16) (v := undef) rfl (by kernel_rfl) (by kernel_rfl) (by kernel_rfl) (fun _ _ _ h => h) (Or.inr ⟨by kernel_rfl, rfl⟩) hS ?_
            simp only [Act.put, List.getElem_toArray, List.getElem_cons_succ, List.getElem_cons_zero, List.setIfInBounds_toArray, List.set_cons_zero, List.set_cons_succ]
            refine wpAnyH_take (i := 17) (v := undef) rfl (by kernel_rfl) (by kernel_rfl) (by kernel_rfl) (fun _ _ _ h => h) (Or.inr ⟨by kernel_rfl, rfl⟩) hS ?_
            simp only [Act.put, List.getElem_toArray, List.getElem_cons_succ, List.getElem_cons_zero, List.setIfInBounds_toArray, List.set_cons_zero, List.set_cons_succ]
            refine wpAnyH_take (i := 18) (v := undef) rfl (by kernel_rfl) (by kernel_rfl) (by kernel_rfl) (fun _ _ _ h => h) (Or.inr ⟨by kernel_rfl, rfl⟩) hS ?_
            simp only [Act.put, List.getElem_toArray, List.getElem_cons_succ, List.getElem_cons_zero, List.setIfInBounds_toArray, List.set_cons_zero, List.set_cons_succ]
            refine wpAnyH_take (i := 19) (v := undef) rfl (by kernel_rfl) (by kernel_rfl) (by kernel_rfl) (fun _ _ _ h => h) (Or.inr ⟨by kernel_rfl, rfl⟩) hS ?_
            simp only [Act.put, List.getElem_toArray, List.getElem_cons_succ, List.getElem_cons_zero, List.setIfInBounds_toArray, List.set_cons_zero, List.set_cons_succ]
            refine wpAnyH_take (i := 20) (v := undef) rfl (by kernel_rfl) (by kernel_rfl) (by kernel_rfl) (fun _ _ _ h => h) (Or.inr ⟨by kernel_rfl, rfl⟩) hS ?_
            simp only [Act.put, List.getElem_toArray, List.getElem_cons_succ, List.getElem_cons_zero, List.setIfInBounds_toArray, List.set_cons_zero, List.set_cons_succ]
            refine wpAnyH_take (i := 21) (v := ?_) rfl (by kernel_rfl) (by kernel_rfl) (by kernel_rfl) (fun _ _ _ h => h) (Or.inl ⟨by kernel_rfl, ?_⟩) hS ?_
            rotate_left
            · intro w hSw; (try dsimp only at hSw); go_simp; try (with_reducible rfl)
            simp only [Act.put, List.getElem_toArray, List.getElem_cons_succ, List.getElem_cons_zero, List.setIfInBounds_toArray, List.set_cons_zero, List.set_cons_succ]
            refine wpAnyH_take (i := 22) (v := ?_) rfl (by kernel_rfl) (by kernel_rfl) (by kernel_rfl) (fun _ _ _ h => h) (Or.inl ⟨by kernel_rfl, ?_⟩) hS ?_
            rotate_left
            · intro w hSw; (try dsimp only at hSw); go_simp; try (with_reducible rfl)
            simp only [Act.put, List.getElem_toArray, List.getElem_cons_succ, List.getElem_cons_zero, List.setIfInBounds_toArray, List.set_cons_zero, List.set_cons_succ]
            refine wpAnyH_done (by kernel_rfl) ?_ _
            go_wp2_with fail
            go_meet
            exact ⟨rfl, hS.2.2⟩
          case rest =>
            obtain ⟨rfl, hbw⟩ := hcut
            have HBW := Lib.hid hbw; clear hbw
            have HNEW : Hid (∀ j, j < 0 + 1 → stepN ns j = true) := Lib.hid fun j hj => by
              rcases Nat.lt_or_ge j 0 with h | h
              · exact HM.out j h
              · obtain rfl : j = 0 := by omega
                exact hyes.out
            go_wp2
            go_roundw
            case rel => exact ⟨0 + 1, by omega, by go_num, HNEW, HBW⟩
            case measure => simp [intOf]; omega
        · have HOXX := Lib.hid (HOX.out (by omega))
          have hw1 : IntKind.i64.wrap ((k : Int) - 1) = (k : Int) - 1 := IntWalk.i64_in _ (by omega)
          have hb0 : (0 : Int) ≤ (k : Int) - 1 ∧ (k : Int) - 1 < (n : Int) := by omega
          have hkt : ((k : Int) - 1).toNat = k - 1 := by omega
          have hkp : (0 : Int) < (k : Int) := by omega
          have hk1 : (1 : Int) ≤ (k : Int) := by omega
          have hkn : 0 < k := by omega
          obtain ⟨lt, hlt2⟩ : ∃ v, ltN (x1, x2) (y1, y2) = v := ⟨_, rfl⟩
          cases lt
          · have HR := Lib.hid hlt2; clear hlt2
            have hno : Hid (checkN ns = false) := Lib.hid (checkN_no HKL.out (by rw [HSTEP.out, HO.out, HR.out, decide_eq_false h0]; rfl))
            go_cut [32] from 10 to 32 (fun s32 wx => s32 = .bool true ∧ Below w.heap.size w wx)
            case first =>
              refine wp_region_held_drew (S := fun w' => w'.cell? ⟨b, off + k * 2, none⟩ = some (.string (mkB y1)) ∧ w'.cell? ⟨b, off + k * 2 + 1, none⟩ = some (.string (mkB y2)) ∧ w'.cell? ⟨b, off + (k - 1) * 2, none⟩ = some (.string (mkB x1)) ∧ w'.cell? ⟨b, off + (k - 1) * 2 + 1, none⟩ = some (.string (mkB x2)) ∧ Below w.heap.size w w') (by kernel_rfl) (by exact ⟨cell_drew d0, cell_drew d1, cell_drew p0, cell_drew p1, below_step B.out (below_q ⟨1, rfl⟩)⟩) (fun hS => ?_)
              refine wpAnyH_take (i := 0) (v := ?_) rfl (by kernel_rfl) (by kernel_rfl) (by kernel_rfl) (fun _ _ _ h => h) (Or.inl ⟨by kernel_rfl, ?_⟩) hS ?_
              rotate_left
              · intro w hSw; (try dsimp only at hSw); go_simp; try (with_reducible rfl)
              simp only [Act.put, List.getElem_toArray, List.getElem_cons_zero, List.setIfInBounds_toArray, List.set_cons_zero, List.set_cons_succ]
              refine wpAnyH_take (i := 1) (v := ?_) rfl (by kernel_rfl) (by kernel_rfl) (by kernel_rfl) (fun _ _ _ h => h) (Or.inl ⟨by kernel_rfl, ?_⟩) hS ?_
              rotate_left
              · intro w hSw; (try dsimp only at hSw); go_simp; try (with_reducible rfl)
              simp only [Act.put, List.getElem_toArray, List.getElem_cons_succ, List.getElem_cons_zero, List.setIfInBounds_toArray, List.set_cons_zero, List.set_cons_succ]
              refine wpAnyH_take (i := 2) (v := ?_) rfl (by kernel_rfl) (by kernel_rfl) (by kernel_rfl) (fun _ _ _ h => h) (Or.inl ⟨by kernel_rfl, ?_⟩) hS ?_
              rotate_left
              · intro w hSw; (try dsimp only at hSw); go_simp; try (with_reducible rfl)
              simp only [Act.put, List.getElem_toArray, List.getElem_cons_succ, List.getElem_cons_zero, List.setIfInBounds_toArray, List.set_cons_zero, List.set_cons_succ]
              refine wpAnyH_take (i := 3) (v := ?_) rfl (by kernel_rfl) (by kernel_rfl) (by kernel_rfl) (fun _ _ _ h => h) (Or.inl ⟨by kernel_rfl, ?_⟩) hS ?_
              rotate_left
              · intro w hSw; (try dsimp only at hSw); go_simp; try (with_reducible rfl)
              simp only [Act.put, List.getElem_toArray, List.getElem_cons_succ, List.getElem_cons_zero, List.setIfInBounds_toArray, List.set_cons_zero, List.set_cons_succ]
              refine wpAnyH_ready (rs := [4]) (by kernel_rfl) (by simp) (AllReadyH.cons rfl (fun K hK => ?_) AllReadyH.nil)
              go_simp
              go_at_call 17; refine (refnmay_any _ _ _ HSY.out.1 HSY.out.2).mono ?_; rintro e w1 ⟨rfl, hb1⟩; rw [HO.out]
              refine hK.out _ _ (by exact ⟨cell_keep hS.1 hb1, cell_keep hS.2.1 hb1, cell_keep hS.2.2.1 hb1, cell_keep hS.2.2.2.1 hb1, below_step hS.2.2.2.2 hb1⟩) (fun hS => ?_)
              clear hK K
              try simp only [Act.put, List.getElem_toArray, List.getElem_cons_succ, List.getElem_cons_zero, List.setIfInBounds_toArray, List.set_cons_zero, List.set_cons_succ]
              refine wpAnyH_take (i := 5) (v := ?_) rfl (by kernel_rfl) (by kernel_rfl) (by kernel_rfl) (fun _ _ _ h => h) (Or.inl ⟨by kernel_rfl, ?_⟩) hS ?_
              rotate_left
              · intro w hSw; (try dsimp only at hSw); go_simp; try (with_reducible rfl)
              simp only [Act.put, List.getElem_toArray, List.getElem_cons_succ, List.getElem_cons_zero, List.setIfInBounds_toArray, List.set_cons_zero, List.set_cons_succ]
              refine wpAnyH_take (i := 6) (v := ?_) rfl (by kernel_rfl) (by kernel_rfl) (by kernel_rfl) (fun _ _ _ h => h) (Or.inl ⟨by kernel_rfl, ?_⟩) hS ?_
              rotate_left
              · intro w hSw; (try dsimp only at hSw); go_simp; try (with_reducible rfl)
              simp only [Act.put, List.getElem_toArray, List.getElem_cons_succ, List.getElem_cons_zero, List.setIfInBounds_toArray, List.set_cons_zero, List.set_cons_succ]
              refine wpAnyH_take (i := 7) (v := ?_) rfl (by kernel_rfl) (by kernel_rfl) (by kernel_rfl) (fun _ _ _ h => h) (Or.inl ⟨by kernel_rfl, ?_⟩) hS ?_
              rotate_left
              · intro w hSw; (try dsimp only at hSw); go_simp; try (with_reducible rfl)
              simp only [Act.put, List.getElem_toArray, List.getElem_cons_succ, List.getElem_cons_zero, List.setIfInBounds_toArray, List.set_cons_zero, List.set_cons_succ]
              refine wpAnyH_take (i := 8) (v := ?_) rfl (by kernel_rfl) (by kernel_rfl) (by kernel_rfl) (fun _ _ _ h => h) (Or.inl ⟨by kernel_rfl, ?_⟩) hS ?_
              rotate_left
              · intro w hSw; (try dsimp only at hSw); go_simp; try (with_reducible rfl)
              simp only [Act.put, List.getElem_toArray, List.getElem_cons_succ, List.getElem_cons_zero, List.setIfInBounds_toArray, List.set_cons_zero, List.set_cons_succ]
              refine wpAnyH_take (i := 9) (v := ?_) rfl (by kernel_rfl) (by kernel_rfl) (by kernel_rfl) (fun _ _ _ h => h) (Or.inl ⟨by kernel_rfl, ?_⟩) hS ?_
              rotate_left
              · intro w hSw; (try dsimp only at hSw); go_simp; try (with_reducible rfl)
              simp only [Act.put, List.getElem_toArray, List.getElem_cons_succ, List.getElem_cons_zero, List.setIfInBounds_toArray, List.set_cons_zero, List.set_cons_succ]
              refine wpAnyH_take (i := 10) (v := ?_) rfl (by kernel_rfl) (by kernel_rfl) (by kernel_rfl) (fun _ _ _ h => h) (Or.inl ⟨by kernel_rfl, ?_⟩) hS ?_
              rotate_left
              · intro w hSw; (try dsimp only at hSw); go_simp; try (with_reducible rfl)
              simp only [Act.put, List.getElem_toArray, List.getElem_cons_succ, List.getElem_cons_zero, List.setIfInBounds_toArray, List.set_cons_zero, List.set_cons_succ]
              refine wpAnyH_take (i := 11) (v := ?_) rfl (by kernel_rfl) (by kernel_rfl) (by kernel_rfl) (fun _ _ _ h => h) (Or.inl ⟨by kernel_rfl, ?_⟩) hS ?_
              rotate_left
              · intro w hSw; (try dsimp only at hSw); go_simp; try (with_reducible rfl)
              simp only [Act.put, List.getElem_toArray, List.getElem_cons_succ, List.getElem_cons_zero, List.setIfInBounds_toArray, List.set_cons_zero, List.set_cons_succ]
              refine wpAnyH_take (i := 12) (v := ?_) rfl (by kernel_rfl) (by kernel_rfl) (by kernel_rfl) (fun _ _ _ h => h) (Or.inl ⟨by kernel_rfl, ?_⟩) hS ?_
              rotate_left
              · intro w hSw; (try dsimp only at hSw); go_simp; try (with_reducible rfl)
              simp only [Act.put, List.getElem_toArray, List.getElem_cons_succ, List.getElem_cons_zero, List.setIfInBounds_toArray, List.set_cons_zero, List.set_cons_succ]
              refine wpAnyH_take (i := 13) (v := ?_) rfl (by kernel_rfl) (by kernel_rfl) (by kernel_rfl) (fun _ _ _ h => h) (Or.inl ⟨by kernel_rfl, ?_⟩) hS ?_
              rotate_left
              · intro w hSw; (try dsimp only at hSw); go_simp; try (with_reducible rfl)
              simp only [Act.put, List.getElem_toArray, List.getElem_cons_succ, List.getElem_cons_zero, List.setIfInBounds_toArray, List.set_cons_zero, List.set_cons_succ]
              refine wpAnyH_take (i := 14) (v := ?_) rfl (by kernel_rfl) (by kernel_rfl) (by kernel_rfl) (fun _ _ _ h => h) (Or.inl ⟨by kernel_rfl, ?_⟩) hS ?_
              rotate_left
              · intro w hSw; (try dsimp only at hSw); go_simp; try (with_reducible rfl)
              simp only [Act.put, List.getElem_toArray, List.getElem_cons_succ, List.getElem_cons_zero, List.setIfInBounds_toArray, List.set_cons_zero, List.set_cons_succ]
              refine wpAnyH_take (i := 15) (v := ?_) rfl (by kernel_rfl) (by kernel_rfl) (by kernel_rfl) (fun _ _ _ h => h) (Or.inl ⟨by kernel_rfl, ?_⟩) hS ?_
              rotate_left
              · intro w hSw; (try dsimp only at hSw); go_simp; try (with_reducible rfl)
              simp only [Act.put, List.getElem_toArray, List.getElem_cons_succ, List.getElem_cons_zero, List.setIfInBounds_toArray, List.set_cons_zero, List.set_cons_succ]
              refine wpAnyH_take (i := 16) (v := ?_) rfl (by kernel_rfl) (by kernel_rfl) (by kernel_rfl) (fun _ _ _ h => h) (Or.inl ⟨by kernel_rfl, ?_⟩) hS ?_
              rotate_left
              · intro w hSw; (try dsimp only at hSw); go_simp; try (with_reducible rfl)
              simp only [Act.put, List.getElem_toArray, List.getElem_cons_succ, List.getElem_cons_zero, List.setIfInBounds_toArray, List.set_cons_zero, List.set_cons_succ]
              refine wpAnyH_take (i := 17) (v := ?_) rfl (by kernel_rfl) (by kernel_rfl) (by kernel_rfl) (fun _ _ _ h => h) (Or.inl ⟨by kernel_rfl, ?_⟩) hS ?_
              rotate_left
              · intro w hSw; (try dsimp only at hSw); go_simp; try (with_reducible rfl)
              simp only [Act.put, List.getElem_toArray, List.getElem_cons_succ, List.getElem_cons_zero, List.setIfInBounds_toArray, List.set_cons_zero, List.set_cons_succ]
              refine wpAnyH_take (i := 18) (v := ?_) rfl (by kernel_rfl) (by kernel_rfl) (by kernel_rfl) (fun _ _ _ h => h) (Or.inl ⟨by kernel_rfl, ?_⟩) hS ?_
              rotate_left
              · intro w hSw; (try dsimp only at hSw); go_simp; try (with_reducible rfl)
              simp only [Act.put, List.getElem_toArray, List.getElem_cons_succ, List.getElem_cons_zero, List.setIfInBounds_toArray, List.set_cons_zero, List.set_cons_succ]
              refine wpAnyH_ready (rs := [19]) (by kernel_rfl) (by simp) (AllReadyH.cons rfl (fun K hK => ?_) AllReadyH.nil)
              go_simp
              go_at_call 37; refine (refless_any _ _ _ _ _ HSX.out.1 HSX.out.2 HSY.out.1 HSY.out.2 HOXX.out HO.out).mono ?_; rintro e w1 ⟨rfl, hb1⟩; rw [HR.out]
              refine hK.out _ _ (by exact ⟨cell_keep hS.1 hb1, cell_keep hS.2.1 hb1, cell_keep hS.2.2.1 hb1, cell_keep hS.2.2.2.1 hb1, below_step hS.2.2.2.2 hb1⟩) (fun hS => ?_)
              clear hK K
              try simp only [Act.put, List.getElem_toArray, List.getElem_cons_succ, List.getElem_cons_zero, List.setIfInBounds_toArray, List.set_cons_zero, List.set_cons_succ]
              refine wpAnyH_take (i := 20) (v := ?_) rfl (by kernel_rfl) (by kernel_rfl) (by kernel_rfl) (fun _ _ _ h => h) (Or.inl ⟨by kernel_rfl, ?_⟩) hS ?_
              rotate_left
              · intro w hSw; (try dsimp only at hSw); go_simp; try (with_reducible rfl)
              simp only [Act.put, List.getElem_toArray, List.getElem_cons_succ, List.getElem_cons_zero, List.setIfInBounds_toArray, List.set_cons_zero, List.set_cons_succ]
              refine wpAnyH_take (i := 21) (v := ?_) rfl (by kernel_rfl) (by kernel_rfl) (by kernel_rfl) (fun _ _ _ h => h) (Or.inl ⟨by kernel_rfl, ?_⟩) hS ?_
              rotate_left
              · intro w hSw; (try dsimp only at hSw); go_simp; try (with_reducible rfl)
              simp only [Act.put, List.getElem_toArray, List.getElem_cons_succ, List.getElem_cons_zero, List.setIfInBounds_toArray, List.set_cons_zero, List.set_cons_succ]
              refine wpAnyH_take (i := 22) (v := ?_) rfl (by kernel_rfl) (by kernel_rfl) (by kernel_rfl) (fun _ _ _ h => h) (Or.inl ⟨by kernel_rfl, ?_⟩) hS ?_
              rotate_left
              · intro w hSw; (try dsimp only at hSw); go_simp; try (with_reducible rfl)
              simp only [Act.put, List.getElem_toArray, List.getElem_cons_succ, List.getElem_cons_zero, List.setIfInBounds_toArray, List.set_cons_zero, List.set_cons_succ]
              refine wpAnyH_done (by kernel_rfl) ?_ _
              go_wp2_with fail
              go_meet
              exact ⟨rfl, hS.2.2.2.2⟩
            case rest =>
              obtain ⟨rfl, hbw⟩ := hcut
              go_wp2
              go_ret
              exact ⟨by have h := HT.out; rw [hno.out] at h; subst h; rfl, hbw⟩
          · have HR := Lib.hid hlt2; clear hlt2
            have hyes : Hid (stepN ns k = true) := Lib.hid (by rw [HSTEP.out, HO.out, HR.out, Bool.or_true]; rfl)
            go_cut [32] from 10 to 32 (fun s32 wx => s32 = .bool false ∧ Below w.heap.size w wx)
            case first =>
              refine wp_region_held_drew (S := fun w' => w'.cell? ⟨b, off + k * 2, none⟩ = some (.string (mkB y1)) ∧ w'.cell? ⟨b, off + k * 2 + 1, none⟩ = some (.string (mkB y2)) ∧ w'.cell? ⟨b, off + (k - 1) * 2, none⟩ = some (.string (mkB x1)) ∧ w'.cell? ⟨b, off + (k - 1) * 2 + 1, none⟩ = some (.string (mkB x2)) ∧ Below w.heap.size w w') (by kernel_rfl) (by exact ⟨cell_drew d0, cell_drew d1, cell_drew p0, cell_drew p1, below_step B.out (below_q ⟨1, rfl⟩)⟩) (fun hS => ?_)
              refine wpAnyH_take (i := 0) (v := ?_) rfl (by kernel_rfl) (by kernel_rfl) (by kernel_rfl) (fun _ _ _ h => h) (Or.inl ⟨by kernel_rfl, ?_⟩) hS ?_
              rotate_left
              · intro w hSw; (try dsimp only at hSw); go_simp; try (with_reducible rfl)
              simp only [Act.put, List.getElem_toArray, List.getElem_cons_zero, List.setIfInBounds_toArray, List.set_cons_zero, List.set_cons_succ]
              refine wpAnyH_take (i := 1) (v := ?_) rfl (by kernel_rfl) (by kernel_rfl) (by kernel_rfl) (fun _ _ _ h => h) (Or.inl ⟨by kernel_rfl, ?_⟩) hS ?_
              rotate_left
              · intro w hSw; (try dsimp only at hSw); go_simp; try (with_reducible rfl)
              simp only [Act.put, List.getElem_toArray, List.getElem_cons_succ, List.getElem_cons_zero, List.setIfInBounds_toArray, List.set_cons_zero, List.set_cons_succ]
              refine wpAnyH_take (i := 2) (v := ?_) rfl (by kernel_rfl) (by kernel_rfl) (by kernel_rfl) (fun _ _ _ h => h) (Or.inl ⟨by kernel_rfl, ?_⟩) hS ?_
              rotate_left
              · intro w hSw; (try dsimp only at hSw); go_simp; try (with_reducible rfl)
              simp only [Act.put, List.getElem_toArray, List.getElem_cons_succ, List.getElem_cons_zero, List.setIfInBounds_toArray, List.set_cons_zero, List.set_cons_succ]
              refine wpAnyH_take (i := 3) (v := ?_) rfl (by kernel_rfl) (by kernel_rfl) (by kernel_rfl) (fun _ _ _ h => h) (Or.inl ⟨by kernel_rfl, ?_⟩) hS ?_
              rotate_left
              · intro w hSw; (try dsimp only at hSw); go_simp; try (with_reducible rfl)
              simp only [Act.put, List.getElem_toArray, List.getElem_cons_succ, List.getElem_cons_zero, List.setIfInBounds_toArray, List.set_cons_zero, List.set_cons_succ]
              refine wpAnyH_ready (rs := [4]) (by kernel_rfl) (by simp) (AllReadyH.cons rfl (fun K hK => ?_) AllReadyH.nil)
              go_simp
              go_at_call 17; refine (refnmay_any _ _ _ HSY.out.1 HSY.out.2).mono ?_; rintro e w1 ⟨rfl, hb1⟩; rw [HO.out]
              refine hK.out _ _ (by exact ⟨cell_keep hS.1 hb1, cell_keep hS.2.1 hb1, cell_keep hS.2.2.1 hb1, cell_keep hS.2.2.2.1 hb1, below_step hS.2.2.2.2 hb1⟩) (fun hS => ?_)
              clear hK K
              try simp only [Act.put, List.getElem_toArray, List.getElem_cons_succ, List.getElem_cons_zero, List.setIfInBounds_toArray, List.set_cons_zero, List.set_cons_succ]
              refine wpAnyH_take (i := 5) (v := ?_) rfl (by kernel_rfl) (by kernel_rfl) (by kernel_rfl) (fun _ _ _ h => h) (Or.inl ⟨by kernel_rfl, ?_⟩) hS ?_
              rotate_left
              · intro w hSw; (try dsimp only at hSw); go_simp; try (with_reducible rfl)
              simp only [Act.put, List.getElem_toArray, List.getElem_cons_succ, List.getElem_cons_zero, List.setIfInBounds_toArray, List.set_cons_zero, List.set_cons_succ]
              refine wpAnyH_take (i := 6) (v := ?_) rfl (by kernel_rfl) (by kernel_rfl) (by kernel_rfl) (fun _ _ _ h => h) (Or.inl ⟨by kernel_rfl, ?_⟩) hS ?_
              rotate_left
              · intro w hSw; (try dsimp only at hSw); go_simp; try (with_reducible rfl)
              simp only [Act.put, List.getElem_toArray, List.getElem_cons_succ, List.getElem_cons_zero, List.setIfInBounds_toArray, List.set_cons_zero, List.set_cons_succ]
              refine wpAnyH_take (i := 7) (v := ?_) rfl (by kernel_rfl) (by kernel_rfl) (by kernel_rfl) (fun _ _ _ h => h) (Or.inl ⟨by kernel_rfl, ?_⟩) hS ?_
              rotate_left
              · intro w hSw; (try dsimp only at hSw); go_simp; try (with_reducible rfl)
              simp only [Act.put, List.getElem_toArray, List.getElem_cons_succ, List.getElem_cons_zero, List.setIfInBounds_toArray, List.set_cons_zero, List.set_cons_succ]
              refine wpAnyH_take (i := 8) (v := ?_) rfl (by kernel_rfl) (by kernel_rfl) (by kernel_rfl) (fun _ _ _ h => h) (Or.inl ⟨by kernel_rfl, ?_⟩) hS ?_
              rotate_left
              · intro w hSw; (try dsimp only at hSw); go_simp; try (with_reducible rfl)
              simp only [Act.put, List.getElem_toArray, List.getElem_cons_succ, List.getElem_cons_zero, List.setIfInBounds_toArray, List.set_cons_zero, List.set_cons_succ]
              refine wpAnyH_take (i := 9) (v := ?_) rfl (by kernel_rfl) (by kernel_rfl) (by kernel_rfl) (fun _ _ _ h => h) (Or.inl ⟨by kernel_rfl, ?_⟩) hS ?_
              rotate_left
              · intro w hSw; (try dsimp only at hSw); go_simp; try (with_reducible rfl)
              simp only [Act.put, List.getElem_toArray, List.getElem_cons_succ, List.getElem_cons_zero, List.setIfInBounds_toArray, List.set_cons_zero, List.set_cons_succ]
              refine wpAnyH_take (i := 10) (v := ?_) rfl (by kernel_rfl) (by kernel_rfl) (by kernel_rfl) (fun _ _ _ h => h) (Or.inl ⟨by kernel_rfl, ?_⟩) hS ?_
              rotate_left
              · intro w hSw; (try dsimp only at hSw); go_simp; try (with_reducible rfl)
              simp only [Act.put, List.getElem_toArray, List.getElem_cons_succ, List.getElem_cons_zero, List.setIfInBounds_toArray, List.set_cons_zero, List.set_cons_succ]
              refine wpAnyH_take (i := 11) (v := ?_) rfl (by kernel_rfl) (by kernel_rfl) (by kernel_rfl) (fun _ _ _ h => h) (Or.inl ⟨by kernel_rfl, ?_⟩) hS ?_
              rotate_left
              · intro w hSw; (try dsimp only at hSw); go_simp; try (with_reducible rfl)
              simp only [Act.put, List.getElem_toArray, List.getElem_cons_succ, List.getElem_cons_zero, List.setIfInBounds_toArray, List.set_cons_zero, List.set_cons_succ]
              refine wpAnyH_take (i := 12) (v := ?_) rfl (by kernel_rfl) (by kernel_rfl) (by kernel_rfl) (fun _ _ _ h => h) (Or.inl ⟨by kernel_rfl, ?_⟩) hS ?_
              rotate_left
              · intro w hSw; (try dsimp only at hSw); go_simp; try (with_reducible rfl)
              simp only [Act.put, List.getElem_toArray, List.getElem_cons_succ, List.getElem_cons_zero, List.setIfInBounds_toArray, List.set_cons_zero, List.set_cons_succ]
              refine wpAnyH_take (i := 13) (v := ?_) rfl (by kernel_rfl) (by kernel_rfl) (by kernel_rfl) (fun _ _ _ h => h) (Or.inl ⟨by kernel_rfl, ?_⟩) hS ?_
              rotate_left
              · intro w hSw; (try dsimp only at hSw); go_simp; try (with_reducible rfl)
              simp only [Act.put, List.getElem_toArray, List.getElem_cons_succ, List.getElem_cons_zero, List.setIfInBounds_toArray, List.set_cons_zero, List.set_cons_succ]
              refine wpAnyH_take (i := 14) (v := ?_) rfl (by kernel_rfl) (by kernel_rfl) (by kernel_rfl) (fun _ _ _ h => h) (Or.inl ⟨by kernel_rfl, ?_⟩) hS ?_
              rotate_left
              · intro w hSw; (try dsimp only at hSw); go_simp; try (with_reducible rfl)
              simp only [Act.put, List.getElem_toArray, List.getElem_cons_succ, List.getElem_cons_zero, List.setIfInBounds_toArray, List.set_cons_zero, List.set_cons_succ]
              refine wpAnyH_take (i := 15) (v := ?_) rfl (by kernel_rfl) (by kernel_rfl) (by kernel_rfl) (fun _ _ _ h => h) (Or.inl ⟨by kernel_rfl, ?_⟩) hS ?_
              rotate_left
              · intro w hSw; (try dsimp only at hSw); go_simp; try (with_reducible rfl)
              simp only [Act.put, List.getElem_toArray, List.getElem_cons_succ, List.getElem_cons_zero, List.setIfInBounds_toArray, List.set_cons_zero, List.set_cons_succ]
              refine wpAnyH_take (i := 16) (v := ?_) rfl (by kernel_rfl) (by kernel_rfl) (by kernel_rfl) (fun _ _ _ h => h) (Or.inl ⟨by kernel_rfl, ?_⟩) hS ?_
              rotate_left
              · intro w hSw; (try dsimp only at hSw); go_simp; try (with_reducible rfl)
              simp only [Act.put, List.getElem_toArray, List.getElem_cons_succ, List.getElem_cons_zero, List.setIfInBounds_toArray, List.set_cons_zero, List.set_cons_succ]
              refine wpAnyH_take (i := 17) (v := ?_) rfl (by kernel_rfl) (by kernel_rfl) (by kernel_rfl) (fun _ _ _ h => h) (Or.inl ⟨by kernel_rfl, ?_⟩) hS ?_
              rotate_left
              · intro w hSw; (try dsimp only at hSw); go_simp; try (with_reducible rfl)
              simp only [Act.put, List.getElem_toArray, List.getElem_cons_succ, List.getElem_cons_zero, List.setIfInBounds_toArray, List.set_cons_zero, List.set_cons_succ]
              refine wpAnyH_take (i := 18) (v := ?_) rfl (by kernel_rfl) (by kernel_rfl) (by kernel_rfl) (fun _ _ _ h => h) (Or.inl ⟨by kernel_rfl, ?_⟩) hS ?_
              rotate_left
              · intro w hSw; (try dsimp only at hSw); go_simp; try (with_reducible rfl)
              simp only [Act.put, List.getElem_toArray, List.getElem_cons_succ, List.getElem_cons_zero, List.setIfInBounds_toArray, List.set_cons_zero, List.set_cons_succ]
              refine wpAnyH_ready (rs := [19]) (by kernel_rfl) (by simp) (AllReadyH.cons rfl (fun K hK => ?_) AllReadyH.nil)
              go_simp
              go_at_call 37; refine (refless_any _ _ _ _ _ HSX.out.1 HSX.out.2 HSY.out.1 HSY.out.2 HOXX.out HO.out).mono ?_; rintro e w1 ⟨rfl, hb1⟩; rw [HR.out]
              refine hK.out _ _ (by exact ⟨cell_keep hS.1 hb1, cell_keep hS.2.1 hb1, cell_keep hS.2.2.1 hb1, cell_keep hS.2.2.2.1 hb1, below_step hS.2.2.2.2 hb1⟩) (fun hS => ?_)
              clear hK K
              try simp only [Act.put, List.getElem_toArray, List.getElem_cons_succ, List.getElem_cons_zero, List.setIfInBounds_toArray, List.set_cons_zero, List.set_cons_succ]
              refine wpAnyH_take (i := 20) (v := ?_) rfl (by kernel_rfl) (by kernel_rfl) (by kernel_rfl) (fun _ _ _ h => h) (Or.inl ⟨by kernel_rfl, ?_⟩) hS ?_
              rotate_left
              · intro w hSw; (try dsimp only at hSw); go_simp; try (with_reducible rfl)
              simp only [Act.put, List.getElem_toArray, List.getElem_cons_succ, List.getElem_cons_zero, List.setIfInBounds_toArray, List.set_cons_zero, List.set_cons_succ]
              refine wpAnyH_take (i := 21) (v := ?_) rfl (by kernel_rfl) (by kernel_rfl) (by kernel_rfl) (fun _ _ _ h => h) (Or.inl ⟨by kernel_rfl, ?_⟩) hS ?_
              rotate_left
              · intro w hSw; (try dsimp only at hSw); go_simp; try (with_reducible rfl)
              simp only [Act.put, List.getElem_toArray, List.getElem_cons_succ, List.getElem_cons_zero, List.setIfInBounds_toArray, List.set_cons_zero, List.set_cons_succ]
              refine wpAnyH_take (i := 22) (v := ?_) rfl (by kernel_rfl) (by kernel_rfl) (by kernel_rfl) (fun _ _ _ h => h) (Or.inl ⟨by kernel_rfl, ?_⟩) hS ?_
              rotate_left
              · intro w hSw; (try dsimp only at hSw); go_simp; try (with_reducible rfl)
              simp only [Act.put, List.getElem_toArray, List.getElem_cons_succ, List.getElem_cons_zero, List.setIfInBounds_toArray, List.set_cons_zero, List.set_cons_succ]
              refine wpAnyH_done (by kernel_rfl) ?_ _
              go_wp2_with fail
              go_meet
              exact ⟨rfl, hS.2.2.2.2⟩
            case rest =>
              obtain ⟨rfl, hbw⟩ := hcut
              have HBW := Lib.hid hbw; clear hbw
              have HNEW : Hid (∀ j, j < k + 1 → stepN ns j = true) := Lib.hid fun j hj => by
                rcases Nat.lt_or_ge j k with h | h
                · exact HM.out j h
                · obtain rfl : j = k := by omega
                  exact hyes.out
              go_wp2
              go_roundw
              case rel => exact ⟨k + 1, by omega, by go_num, HNEW, HBW⟩
              case measure => simp [intOf]; omega
    · go_wp2
      go_ret
      have e : k = n := by omega
      subst e
      have hc : checkN ns = true := checkN_yes fun j hj => HM.out j (by rw [← HN.out]; exact hj)
      exact ⟨by have h := HT.out; rw [hc] at h; subst h; rfl, HB.out⟩
end Go.Proofs.Ytceefoiffkgliaa

namespace Go.Proofs.Ytceefoiffkgliaa
open Go.RowKit
set_option linter.unusedVariables false
set_option maxRecDepth 100000

set_option maxHeartbeats 1600000 in
theorem neq_any (U V : Value) (ns ms : List Nd) (w : World) (hu : Nds w U ns) (hv : Nds w V ms) :
    Calls Try.prog 31 #[U, V] w fun e w' => e = .returned (.bool (decide (ns = ms))) ∧ Below w.heap.size w w' := by
  obtain ⟨a, c, rfl, h1, h2, -, -⟩ := hu.ex
  obtain ⟨a', c', rfl, h1', h2', -, -⟩ := hv.ex
  unfold maxLen at h2 h2'
  obtain ⟨n, hn⟩ : ∃ n, ns.length = n := ⟨_, rfl⟩
  obtain ⟨m, hm⟩ : ∃ m, ms.length = m := ⟨_, rfl⟩
  rw [hn] at h1 hu ⊢
  rw [hm] at h1' hv ⊢
  obtain ⟨R, hR⟩ : ∃ R, decide (ns = ms) = R := ⟨_, rfl⟩
  rw [hR]
  have HN := Lib.hid hn; have HM := Lib.hid hm; have SU := Lib.hid hu; have SV := Lib.hid hv; have HR := Lib.hid hR
  clear hu hv hn hm hR
  by_cases hl : n = m
  · subst hl
    have h0 : ((n : Int) != (n : Int)) = false := by simp
    go_enter Try.func31, Try.ntmps31
    go_wp2
    go_loopw [13] (fun i wr => ∃ k q : Nat, k ≤ n ∧ i = .int .i64 k ∧ wr = w.drewN q ∧ Hid (ns.take k = ms.take k)) (fun i _ => n - (intOf i).toNat)
    case atStart => exact ⟨0, 0, Nat.zero_le _, rfl, rfl, Lib.hid (by simp)⟩
    case round =>
      obtain ⟨k, q, hk, rfl, rfl, H⟩ := hrel
      by_cases hlt : k < n
      · have hkl : k < ns.length := by rw [HN.out]; exact hlt
        have hkm : k < ms.length := by rw [HM.out]; exact hlt
        obtain ⟨Wq, hWq⟩ : ∃ Wq, w.drewN q = Wq := ⟨_, rfl⟩
        have hbq : Below w.heap.size w Wq := by rw [← hWq]; exact below_q ⟨q, rfl⟩
        obtain ⟨b, off, rfl, -, hc0, hc1⟩ := (SU.out.below hbq).at k hkl
        obtain ⟨b', off', rfl, -, hd0, hd1⟩ := (SV.out.below hbq).at k hkm
        obtain ⟨x, hx⟩ : ∃ x, x = ns.getD k ([], []) := ⟨_, rfl⟩
        obtain ⟨y, hy⟩ : ∃ y, y = ms.getD k ([], []) := ⟨_, rfl⟩
        rw [← hx] at hc0 hc1
        rw [← hy] at hd0 hd1
        have e1 : ns.take (k + 1) = ns.take k ++ [x] := by rw [List.take_succ_eq_append_getElem hkl, hx, nd_getD hkl]
        have e2 : ms.take (k + 1) = ms.take k ++ [y] := by rw [List.take_succ_eq_append_getElem hkm, hy, nd_getD hkm]
        obtain ⟨x1, x2⟩ := x
        obtain ⟨y1, y2⟩ := y
        simp only at hc0 hc1 hd0 hd1
        rw [hWq]
        have HWq := Lib.hid hWq; have E1 := Lib.hid e1; have E2 := Lib.hid e2; clear hx hy hbq hWq e1 e2
        have hgd := guard_nd
        have heq := neq_nd x1 x2 y1 y2
        obtain ⟨o, ho⟩ : ∃ o, decide ((x1, x2) = (y1, y2)) = o := ⟨_, rfl⟩
        rw [ho] at heq
        have HO := Lib.hid ho; clear ho
        have hkb : (k : Int) < (n : Int) := by omega
        cases o
        · simp only [Bool.not_false] at heq
          go_wp2_with fail
          go_quiet (fail)
          go_wp2
          go_ret
          refine ⟨?_, below_step (below_q ⟨q, HWq.out.symm⟩) (below_q ⟨nq, rfl⟩)⟩
          rw [← HR.out, decide_eq_false fun e => ?_]
          · rfl
          · have h5 := E1.out
            rw [e, E2.out] at h5
            have h6 := List.append_inj_right' h5 rfl
            simp only [List.cons.injEq, and_true] at h6
            have := of_decide_eq_false HO.out
            exact this h6.symm
        · simp only [Bool.not_true] at heq
          go_wp2_with fail
          go_quiet (fail)
          go_wp2
          have H5 : Hid (ns.take (k + 1) = ms.take (k + 1)) := Lib.hid (by rw [E1.out, E2.out, H.out, of_decide_eq_true HO.out])
          go_roundw
          case rel => exact ⟨k + 1, q + nq, by omega, by go_num, by rw [← HWq.out, World.drewN_drewN], H5⟩
          case measure => simp [intOf]; omega
      · go_wp2
        go_ret
        refine ⟨?_, below_q ⟨q, rfl⟩⟩
        have e : k = n := by omega
        subst e
        have h5 := H.out
        rw [List.take_of_length_le (by rw [HN.out]; exact Nat.le_refl _), List.take_of_length_le (by rw [HM.out]; exact Nat.le_refl _)] at h5
        rw [← HR.out, decide_eq_true h5]; rfl
  · have h0 : ((n : Int) != (m : Int)) = true := by simp; omega
    have HL := Lib.hid hl; clear hl
    go_enter Try.func31, Try.ntmps31
    go_wp2
    go_ret
    refine ⟨?_, Below.refl _ _⟩
    rw [← HR.out, decide_eq_false fun e => HL.out (by rw [← HN.out, ← HM.out, e])]; rfl
set_option maxHeartbeats 1000000 in
theorem teq_any (u v : Value) (a b : List (List UInt8)) (w : World) (ha : Strs w u a) (hb : Strs w v b) :
    Calls Try.prog 32 #[u, v] w fun e w' => e = .returned (.bool (sameB a b)) ∧ ∃ n, w' = w.drewN n := by
  obtain ⟨pa, ca, rfl, ha1, ha2, _, ha3⟩ := ha.ex
  obtain ⟨pb, cb, rfl, hb1, hb2, _, hb3⟩ := hb.ex
  clear ha hb
  unfold maxLen at ha2 hb2
  have HA := Lib.hid ha3; have HB := Lib.hid hb3; clear ha3 hb3
  by_cases hl : a.length = b.length
  · have h0 : ((a.length : Int) != (b.length : Int)) = false := by simp [hl]
    have HL := Lib.hid hl; clear hl
    go_enter Try.func32, Try.ntmps32
    go_wp2
    go_loopw [13] (fun i wr => ∃ k : Nat, k ≤ a.length ∧ i = .int .i64 k ∧ Hid (a.take k = b.take k) ∧ ∃ n, wr = w.drewN n) (fun i _ => a.length - (intOf i).toNat)
    case atStart => exact ⟨0, Nat.zero_le _, rfl, Lib.hid (by simp), 0, rfl⟩
    case round =>
      obtain ⟨k, hk, rfl, H, n, rfl⟩ := hrel
      by_cases hlt : k < a.length
      · have hlb : k < b.length := by rw [← HL.out]; exact hlt
        obtain ⟨ba, oa, hpa, _, hca⟩ := HA.out (by omega)
        obtain ⟨bb, ob, hpb, _, hcb⟩ := HB.out (by omega)
        subst hpa hpb
        have hc1 := hca k hlt
        have hc2 := hcb k hlb
        clear hca hcb
        unfold strV at hc1 hc2
        obtain ⟨x, hx⟩ : ∃ x : ByteArray, x = ⟨(a.getD k []).toArray⟩ := ⟨_, rfl⟩
        obtain ⟨y, hy⟩ : ∃ y : ByteArray, y = ⟨(b.getD k []).toArray⟩ := ⟨_, rfl⟩
        rw [← hx] at hc1
        rw [← hy] at hc2
        have HX := Lib.hid hx; have HY := Lib.hid hy; clear hx hy
        go_wp2
        go_quiet (fail)
        go_wp2
        · have h9 : (!x.toList == y.toList) = true := by assumption
          go_ret
          refine ⟨ret_bool ?_, drew2 _ _ _⟩
          unfold sameB
          rw [eq_comm, decide_eq_false_iff_not]
          intro e
          subst e
          rw [HX.out, HY.out] at h9
          simp at h9
        · have h9 : (!x.toList == y.toList) = false := by assumption
          have h8 : a.getD k [] = b.getD k [] := by
            rw [HX.out, HY.out] at h9
            simp [Lib.toList_data] at h9
            simpa [List.getD_eq_getElem?_getD] using h9
          have h7 : a.take (k + 1) = b.take (k + 1) := by
            rw [List.take_succ_eq_append_getElem hlt, List.take_succ_eq_append_getElem hlb, H.out]
            have ea : a.getD k [] = a[k] := by simp [List.getD_eq_getElem?_getD, List.getElem?_eq_getElem hlt]
            have eb : b.getD k [] = b[k] := by simp [List.getD_eq_getElem?_getD, List.getElem?_eq_getElem hlb]
            rw [← ea, ← eb, h8]
          have H7 := Lib.hid h7; clear h7 h8 h9
          go_roundw
          case rel => exact ⟨k + 1, by omega, by go_num, H7, _, rfl⟩
          case measure => simp [intOf]; omega
      · go_wp2
        go_ret
        have e : a = b := by
          have h5 := H.out
          rw [List.take_of_length_le (by omega), List.take_of_length_le (by have := HL.out; omega)] at h5
          exact h5
        exact ⟨ret_bool (by simp [sameB, e]), _, rfl⟩
  · have h0 : ((a.length : Int) != (b.length : Int)) = true := by simp; omega
    have HL := Lib.hid hl; clear hl
    go_enter Try.func32, Try.ntmps32
    go_wp2
    go_ret
    exact ⟨ret_bool (by unfold sameB; rw [decide_eq_false]; intro e; exact HL.out (by rw [e])), 0, rfl⟩

/-- A store's own cells, just laid; the world named. -/
theorem boxS (w : World) (x y : Value) (t : TypeId) : ∃ W g, w.alloc (.cells #[x, y] t) = W ∧ w.heap.size = g ∧ W.heap[g]? = some (.cells #[x, y] t (0, 0)) ∧ W.cell? ⟨g, 0, none⟩ = some x ∧ W.cell? ⟨g, 1, none⟩ = some y ∧ Below w.heap.size w W :=
  ⟨_, _, rfl, rfl, heap_alloc_new _ _, cell_new rfl rfl, cell_new rfl rfl, (Below.refl _ _).alloc (Nat.le_refl _) _⟩
theorem boxS2 (w : World) (x y x' y' : Value) (t t' : TypeId) : ∃ W g g', (w.alloc (.cells #[x, y] t)).alloc (.cells #[x', y'] t') = W ∧ w.heap.size = g ∧ w.heap.size + 1 = g' ∧ W.heap[g]? = some (.cells #[x, y] t (0, 0)) ∧ W.heap[g']? = some (.cells #[x', y'] t' (0, 0)) ∧ Below w.heap.size w W :=
  ⟨_, _, _, rfl, rfl, rfl, row_keepB (heap_alloc_new _ _) ((Below.refl _ _).alloc (Nat.le_refl _) _), by have := heap_alloc_new (w.alloc (.cells #[x, y] t)) (.cells #[x', y'] t'); simpa using this, ((Below.refl _ _).alloc (Nat.le_refl _) _).alloc (by simp) _⟩

set_option maxHeartbeats 800000 in
theorem schk_any (A B : Option Addr) (n c m d : Nat) (K : List Nd) (T : List (List UInt8)) (w : World) (hk : Nds w (.slice A n c) K) (ht : Strs w (.slice B m d) T) (hs : ∀ n ∈ K, smallN n) :
    Calls Try.prog 13 #[.agg #[.slice A n c, .slice B m d]] w fun e w' => e = .returned (.int .i64 (chkS K T)) ∧ Below w.heap.size w w' := by
  obtain ⟨hK, hn1, hn2⟩ := hk.lenE
  obtain ⟨hT, hm1, hm2⟩ := ht.lenE
  unfold maxLen at hn2 hm2
  obtain ⟨C, hC⟩ : ∃ C, chkS K T = C := ⟨_, rfl⟩
  rw [hC]
  have e : C = if (checkN K && decide (n = m)) = true then 0 else 1 := by rw [← hC, ← hK, ← hT]; rfl
  obtain ⟨W, g, hW, hg, -, d0, d1, hb⟩ := boxS w (.slice A n c) (.slice B m d) 25
  have SK := Lib.hid (hk.below hb); have HS := Lib.hid hs; have HE := Lib.hid e; have HW := Lib.hid hW; have HG := Lib.hid hg; have BB := Lib.hid hb
  clear hk ht hs e hW hg hb hC hK hT
  by_cases hl : n = m
  · subst hl
    obtain ⟨x, hx⟩ : ∃ x, checkN K = x := ⟨_, rfl⟩
    have hX : C = if x = true then 0 else 1 := by rw [HE.out, hx]; simp
    have HX := Lib.hid hX; have HCX := Lib.hid hx
    clear hX hx
    go_enter Try.func13, Try.ntmps13
    go_upto_region 1 with fail
    rw [HW.out, HG.out]
    go_wp2_with (go_at_call 29; refine (ncheck_any _ K _ SK.out HS.out).mono ?_; rintro e w1 ⟨rfl, hb1⟩; rw [HCX.out, ← HX.out]; replace BB := Lib.hid (below_step BB.out hb1); clear hb1)
    go_ret
    exact ⟨rfl, BB.out⟩
  · have hC1 : C = 1 := by rw [HE.out, decide_eq_false hl, Bool.and_false]; rfl
    have h0 : ((n : Int) != (m : Int)) = true := by simp; omega
    subst hC1
    clear hl HE
    go_enter Try.func13, Try.ntmps13
    go_upto_region 1 with fail
    rw [HW.out, HG.out]
    go_wp2
    go_ret
    exact ⟨rfl, BB.out⟩
set_option maxHeartbeats 800000 in
theorem refsmay_any (A B : Option Addr) (n c m d : Nat) (K : List Nd) (T : List (List UInt8)) (w : World) (hk : Nds w (.slice A n c) K) (ht : Strs w (.slice B m d) T) (hs : ∀ n ∈ K, smallN n) :
    Calls Try.prog 14 #[.agg #[.slice A n c, .slice B m d]] w fun e w' => e = .returned (.bool (okS K T)) ∧ Below w.heap.size w w' := by
  obtain ⟨hK, hn1, hn2⟩ := hk.lenE
  obtain ⟨hT, hm1, hm2⟩ := ht.lenE
  unfold maxLen at hn2 hm2
  obtain ⟨C, hC⟩ : ∃ C, okS K T = C := ⟨_, rfl⟩
  rw [hC]
  have e : C = (checkN K && decide (n = m)) := by rw [← hC, ← hK, ← hT]; rfl
  obtain ⟨W, g, hW, hg, -, d0, d1, hb⟩ := boxS w (.slice A n c) (.slice B m d) 25
  obtain ⟨x, hx⟩ : ∃ x, checkN K = x := ⟨_, rfl⟩
  rw [hx] at e
  obtain ⟨y, hy⟩ : ∃ y, decide (n = m) = y := ⟨_, rfl⟩
  rw [hy] at e
  have h0 : ((m : Int) == (n : Int)) = y := by
    rw [← hy]
    by_cases h : n = m
    · subst h; simp
    · have : ¬ (m : Int) = (n : Int) := by omega
      simp [h, this]
  have SK := Lib.hid (hk.below hb); have HS := Lib.hid hs; have HE := Lib.hid e; have HW := Lib.hid hW; have HG := Lib.hid hg; have BB := Lib.hid hb; have HCX := Lib.hid hx
  clear hk ht hs e hW hg hb hC hK hT hx hy
  cases x
  · go_enter Try.func14, Try.ntmps14
    go_upto_region 1 with fail
    rw [HW.out, HG.out]
    go_wp2_with (go_at_call 30; refine (refncheck_any _ K _ SK.out HS.out).mono ?_; rintro e w1 ⟨rfl, hb1⟩; rw [HCX.out]; replace BB := Lib.hid (below_step BB.out hb1); replace d0 := cell_keep d0 hb1; replace d1 := cell_keep d1 hb1; clear hb1)
    go_ret
    exact ⟨by rw [HE.out]; rfl, BB.out⟩
  · go_enter Try.func14, Try.ntmps14
    go_upto_region 1 with fail
    rw [HW.out, HG.out]
    go_wp2_with (go_at_call 30; refine (refncheck_any _ K _ SK.out HS.out).mono ?_; rintro e w1 ⟨rfl, hb1⟩; rw [HCX.out]; replace BB := Lib.hid (below_step BB.out hb1); replace d0 := cell_keep d0 hb1; replace d1 := cell_keep d1 hb1; clear hb1)
    go_ret
    exact ⟨by rw [HE.out]; rfl, BB.out⟩
def sameS (K K' : List Nd) (T T' : List (List UInt8)) : Bool := decide (K = K') && decide (T = T')
theorem teq_b (u v : Value) (a b : List (List UInt8)) (w : World) (ha : Strs w u a) (hb : Strs w v b) :
    Calls Try.prog 32 #[u, v] w fun e w' => e = .returned (.bool (decide (a = b))) ∧ Below w.heap.size w w' := (teq_any u v a b w ha hb).mono fun _ _ ⟨h1, h2⟩ => ⟨h1, below_q h2⟩
theorem tsame_b (u v : Value) (a b : List (List UInt8)) (w : World) (ha : Strs w u a) (hb : Strs w v b) :
    Calls Try.prog 34 #[u, v] w fun e w' => e = .returned (.bool (decide (a = b))) ∧ Below w.heap.size w w' := (same_any u v a b w ha hb).mono fun _ _ ⟨h1, h2⟩ => ⟨h1, below_q h2⟩
set_option maxHeartbeats 800000 in
theorem ssame_any (A B A' B' : Option Addr) (n c m d n' c' m' d' : Nat) (K K' : List Nd) (T T' : List (List UInt8)) (w : World) (hk : Nds w (.slice A n c) K) (ht : Strs w (.slice B m d) T) (hk' : Nds w (.slice A' n' c') K') (ht' : Strs w (.slice B' m' d') T') :
    Calls Try.prog 15 #[.agg #[.slice A n c, .slice B m d], .agg #[.slice A' n' c', .slice B' m' d']] w fun e w' => e = .returned (.bool (sameS K K' T T')) ∧ Below w.heap.size w w' := by
  obtain ⟨C, hC⟩ : ∃ C, sameS K K' T T' = C := ⟨_, rfl⟩
  rw [hC]
  unfold sameS at hC
  obtain ⟨W, g, g', hW, hg, hg', r0, r1, hb⟩ := boxS2 w (.slice A n c) (.slice B m d) (.slice A' n' c') (.slice B' m' d') 25 25
  obtain ⟨d0, d1, -, -⟩ := row2 r0
  obtain ⟨d2, d3, -, -⟩ := row2 r1
  obtain ⟨x, hx⟩ : ∃ x, decide (K = K') = x := ⟨_, rfl⟩
  obtain ⟨y, hy⟩ : ∃ y, decide (T = T') = y := ⟨_, rfl⟩
  rw [hx, hy] at hC
  have SK := Lib.hid (hk.below hb); have SK' := Lib.hid (hk'.below hb); have ST := Lib.hid (ht.belowB hb); have ST' := Lib.hid (ht'.belowB hb)
  have HE := Lib.hid hC; have HW := Lib.hid hW; have HG := Lib.hid hg; have HG' := Lib.hid hg'; have BB := Lib.hid hb; have HX := Lib.hid hx; have HY := Lib.hid hy
  clear hk hk' ht ht' hC hW hg hg' hb hx hy r0 r1
  cases x
  all_goals
    go_enter Try.func15, Try.ntmps15
    go_upto_region 1 with fail
    rw [HW.out, HG'.out, HG.out]
    go_wp2_with (first
      | (go_at_call 31; refine (neq_any _ _ K K' _ SK.out SK'.out).mono ?_; rintro e w1 ⟨rfl, hb1⟩; rw [HX.out]; replace BB := Lib.hid (below_step BB.out hb1); replace d1 := cell_keep d1 hb1; replace d3 := cell_keep d3 hb1; replace ST := Lib.hid (ST.out.belowB hb1); replace ST' := Lib.hid (ST'.out.belowB hb1); clear hb1)
      | (go_at_call 32; refine (teq_b _ _ T T' _ ST.out ST'.out).mono ?_; rintro e w1 ⟨rfl, hb1⟩; rw [HY.out]; replace BB := Lib.hid (below_step BB.out hb1); clear hb1))
    go_ret
    exact ⟨by rw [← HE.out]; rfl, BB.out⟩
set_option maxHeartbeats 800000 in
theorem refssame_any (A B A' B' : Option Addr) (n c m d n' c' m' d' : Nat) (K K' : List Nd) (T T' : List (List UInt8)) (w : World) (hk : Nds w (.slice A n c) K) (ht : Strs w (.slice B m d) T) (hk' : Nds w (.slice A' n' c') K') (ht' : Strs w (.slice B' m' d') T') :
    Calls Try.prog 16 #[.agg #[.slice A n c, .slice B m d], .agg #[.slice A' n' c', .slice B' m' d']] w fun e w' => e = .returned (.bool (sameS K K' T T')) ∧ Below w.heap.size w w' := by
  obtain ⟨C, hC⟩ : ∃ C, sameS K K' T T' = C := ⟨_, rfl⟩
  rw [hC]
  unfold sameS at hC
  obtain ⟨W, g, g', hW, hg, hg', r0, r1, hb⟩ := boxS2 w (.slice A n c) (.slice B m d) (.slice A' n' c') (.slice B' m' d') 25 25
  obtain ⟨d0, d1, -, -⟩ := row2 r0
  obtain ⟨d2, d3, -, -⟩ := row2 r1
  obtain ⟨x, hx⟩ : ∃ x, decide (K = K') = x := ⟨_, rfl⟩
  obtain ⟨y, hy⟩ : ∃ y, decide (T = T') = y := ⟨_, rfl⟩
  rw [hx, hy] at hC
  have SK := Lib.hid (hk.below hb); have SK' := Lib.hid (hk'.below hb); have ST := Lib.hid (ht.belowB hb); have ST' := Lib.hid (ht'.belowB hb)
  have HE := Lib.hid hC; have HW := Lib.hid hW; have HG := Lib.hid hg; have HG' := Lib.hid hg'; have BB := Lib.hid hb; have HX := Lib.hid hx; have HY := Lib.hid hy
  clear hk hk' ht ht' hC hW hg hg' hb hx hy r0 r1
  cases x
  all_goals
    go_enter Try.func16, Try.ntmps16
    go_upto_region 1 with fail
    rw [HW.out, HG'.out, HG.out]
    go_wp2_with (first
      | (go_at_call 33; refine (nsame_any _ _ K K' _ SK.out SK'.out).mono ?_; rintro e w1 ⟨rfl, hb1⟩; rw [HX.out]; replace BB := Lib.hid (below_step BB.out hb1); replace d1 := cell_keep d1 hb1; replace d3 := cell_keep d3 hb1; replace ST := Lib.hid (ST.out.belowB hb1); replace ST' := Lib.hid (ST'.out.belowB hb1); clear hb1)
      | (go_at_call 34; refine (tsame_b _ _ T T' _ ST.out ST'.out).mono ?_; rintro e w1 ⟨rfl, hb1⟩; rw [HY.out]; replace BB := Lib.hid (below_step BB.out hb1); clear hb1))
    go_ret
    exact ⟨by rw [← HE.out]; rfl, BB.out⟩

/-! ### A text no longer than is looked at -/
def few8 (l : List UInt8) : List UInt8 := l.take 160
theorem few8_len (l : List UInt8) : (few8 l).length ≤ 160 := by unfold few8; rw [List.length_take]; omega
set_option maxHeartbeats 400000 in
theorem few8_any (l : List UInt8) (w : World) (hl : l.length ≤ maxLen) :
    Calls Try.prog 23 #[.string (mkB l)] w fun e w' => e = .returned (.string (mkB (few8 l))) ∧ w = w' := by
  obtain ⟨n, hn⟩ : ∃ n, (mkB l).size = n := ⟨_, rfl⟩
  have hn2 : l.length = n := by rw [← hn, mkB_size]
  have hnl := hl
  rw [hn2] at hnl
  unfold maxLen at hnl
  have hex : (mkB l).extract 0 160 = mkB (few8 l) := by
    have := strV_extract (mkB l) 0 160
    rw [mkB_list] at this
    exact Value.string.inj this
  by_cases h : 160 < n
  · have HE := Lib.hid hex; have hb : (160 : Int) < (n : Int) := by omega
    clear hex
    go_enter Try.func23, Try.ntmps23
    go_wp2
    go_ret
    exact ⟨by rw [← HE.out]; rfl, rfl⟩
  · have e : few8 l = l := by unfold few8; rw [List.take_of_length_le (by omega)]
    have hb : ¬ (160 : Int) < (n : Int) := by omega
    rw [e]
    clear hex e
    go_enter Try.func23, Try.ntmps23
    go_wp2
    go_ret
    exact ⟨rfl, rfl⟩
end Go.Proofs.Ytceefoiffkgliaa
