/- All of a store's keys dropped, in whatever order, and put again: plain facts; and what a region makes of answers with an error beside them. -/
import Derived.Test.YtceefoiffkgliaaStoS
namespace Go.Proofs.Ytceefoiffkgliaa
open Go.RowKit
set_option linter.unusedVariables false
set_option maxRecDepth 100000

theorem rot_eq {i a n : Nat} (hi : i < n) (ha : a < n) : (i + a) % n = if i + a < n then i + a else i + a - n := by
  split
  · exact Nat.mod_eq_of_lt (by assumption)
  · rw [Nat.mod_eq_sub_mod (by omega), Nat.mod_eq_of_lt (by omega)]
theorem rot_red (i t n : Nat) : (i + t) % n = (i + t % n) % n := by rw [Nat.add_mod_mod]
theorem rot_lt {i t n : Nat} (hn : 0 < n) : (i + t) % n < n := Nat.mod_lt _ hn
theorem rot_inj {i j t n : Nat} (hi : i < n) (hj : j < n) (h : (i + t) % n = (j + t) % n) : i = j := by
  have ha : t % n < n := Nat.mod_lt _ (by omega)
  rw [rot_red, rot_red j, rot_eq hi ha, rot_eq hj ha] at h
  split at h <;> split at h <;> omega
theorem rot_surj {m t n : Nat} (hm : m < n) : ∃ j, j < n ∧ (j + t) % n = m := by
  have ha : t % n < n := Nat.mod_lt _ (by omega)
  by_cases h : t % n ≤ m
  · refine ⟨m - t % n, by omega, ?_⟩
    rw [rot_red, rot_eq (by omega) ha, if_pos (by omega)]; omega
  · refine ⟨m + n - t % n, by omega, ?_⟩
    rw [rot_red, rot_eq (by omega) ha, if_neg (by omega)]; omega

theorem rise_idx {S : Sto} (h : RiseP S) {i j : Nat} (hi : i < S.length) (hj : j < S.length) (e : S[i] = S[j]) : i = j := by
  rcases Nat.lt_trichotomy i j with k | k | k
  · have := List.pairwise_iff_getElem.1 h i j hi hj k
    rw [e, ltN_irrefl] at this; cases this
  · exact k
  · have := List.pairwise_iff_getElem.1 h j i hj hi k
    rw [e, ltN_irrefl] at this; cases this
def keyR (S : Sto) (t i : Nat) : Nd × Txt := S.getD ((i + t) % S.length) (([], []), [])
def outR (S : Sto) (t : Nat) : Nat → Sto
  | 0 => S
  | i + 1 => dropP (outR S t i) (keyR S t i).1
def inR (S : Sto) (t : Nat) : Nat → Sto
  | 0 => []
  | i + 1 => putP (inR S t i) (keyR S t i).1 (keyR S t i).2
theorem keyR_at {S : Sto} {t i : Nat} (hn : 0 < S.length) : ∃ h : (i + t) % S.length < S.length, keyR S t i = S[(i + t) % S.length] := ⟨rot_lt hn, by unfold keyR; rw [List.getD_eq_getElem?_getD, List.getElem?_eq_getElem (rot_lt hn)]; rfl⟩
theorem keyR_mem {S : Sto} {t i : Nat} (hn : 0 < S.length) : keyR S t i ∈ S := by obtain ⟨h, e⟩ := keyR_at (t := t) (i := i) hn; rw [e]; exact List.getElem_mem h
theorem keyR_inj {S : Sto} (hS : okP S = true) {t i j : Nat} (hi : i < S.length) (hj : j < S.length) (h : (keyR S t i).1 = (keyR S t j).1) : i = j := by
  have hn : 0 < S.length := by omega
  obtain ⟨h1, e1⟩ := keyR_at (t := t) (i := i) hn
  obtain ⟨h2, e2⟩ := keyR_at (t := t) (i := j) hn
  have := rise_same (okP_rise hS) (keyR_mem hn) (keyR_mem hn) h
  rw [e1, e2] at this
  exact rot_inj hi hj (rise_idx (okP_rise hS) h1 h2 this)
theorem outR_ok {S : Sto} (hS : okP S = true) (t : Nat) : ∀ i, okP (outR S t i) = true
  | 0 => hS
  | i + 1 => drop_ok (outR_ok hS t i)
theorem inR_ok {S : Sto} (hS : okP S = true) {t : Nat} (hn : 0 < S.length) : ∀ i, okP (inR S t i) = true
  | 0 => rfl
  | i + 1 => put_ok (inR_ok hS hn i) (okP_ok hS _ (keyR_mem hn))
theorem outR_mem {S : Sto} {t : Nat} (x : Nd × Txt) : ∀ i, x ∈ outR S t i ↔ x ∈ S ∧ ∀ j, j < i → x.1 ≠ (keyR S t j).1
  | 0 => by simp [outR]
  | i + 1 => by
    show x ∈ dropP (outR S t i) (keyR S t i).1 ↔ _
    rw [drop_mem, outR_mem x i]
    constructor
    · rintro ⟨⟨h1, h2⟩, h3⟩
      refine ⟨h1, fun j hj => ?_⟩
      by_cases e : j = i
      · subst e; exact h3
      · exact h2 j (by omega)
    · rintro ⟨h1, h2⟩
      exact ⟨⟨h1, fun j hj => h2 j (by omega)⟩, h2 i (by omega)⟩
theorem inR_mem {S : Sto} (hS : okP S = true) {t : Nat} (hn : 0 < S.length) (x : Nd × Txt) : ∀ i, x ∈ inR S t i ↔ ∃ j, j < i ∧ x = keyR S t j
  | 0 => by simp [inR]
  | i + 1 => by
    show x ∈ putP (inR S t i) (keyR S t i).1 (keyR S t i).2 ↔ _
    rw [put_mem (inR_ok hS hn i) (okP_ok hS _ (keyR_mem hn)), inR_mem hS hn x i]
    constructor
    · rintro (⟨⟨j, hj, e⟩, _⟩ | e)
      · exact ⟨j, by omega, e⟩
      · exact ⟨i, by omega, e⟩
    · rintro ⟨j, hj, e⟩
      by_cases h : x.1 = (keyR S t i).1
      · right
        rw [e] at h ⊢
        exact rise_same (okP_rise hS) (keyR_mem hn) (keyR_mem hn) h
      · left
        refine ⟨⟨j, ?_, e⟩, h⟩
        by_cases hji : j = i
        · subst hji; exact absurd (by rw [e]) h
        · omega
theorem outR_has {S : Sto} (hS : okP S = true) {t i : Nat} (hi : i < S.length) : hasP (outR S t i) (keyR S t i).1 = true := by
  have hn : 0 < S.length := by omega
  refine hasP_iff.2 ⟨(keyR S t i).2, (outR_mem _ i).2 ⟨keyR_mem hn, fun j hj e => ?_⟩⟩
  have := keyR_inj hS (t := t) hi (by omega) e
  omega
theorem outR_all {S : Sto} (t : Nat) : outR S t S.length = [] := by
  rw [List.eq_nil_iff_forall_not_mem]
  intro x hx
  obtain ⟨h1, h2⟩ := (outR_mem x S.length).1 hx
  obtain ⟨m, hm, rfl⟩ := List.getElem_of_mem h1
  obtain ⟨j, hj, e⟩ := rot_surj (t := t) hm
  obtain ⟨h3, e3⟩ := keyR_at (S := S) (t := t) (i := j) (by omega)
  refine h2 j hj ?_
  rw [e3]
  simp only [e]
theorem inR_all {S : Sto} (hS : okP S = true) (t : Nat) (hn : 0 < S.length) : inR S t S.length = S :=
  sto_eq (inR_ok hS hn _) hS fun x => by
    rw [inR_mem hS hn]
    constructor
    · rintro ⟨j, _, rfl⟩; exact keyR_mem hn
    · intro hx
      obtain ⟨m, hm, rfl⟩ := List.getElem_of_mem hx
      obtain ⟨j, hj, e⟩ := rot_surj (t := t) hm
      obtain ⟨h3, e3⟩ := keyR_at (S := S) (t := t) (i := j) hn
      exact ⟨j, hj, by rw [e3]; simp only [e]⟩
theorem outR_len {S : Sto} {t : Nat} : ∀ i, (outR S t i).length ≤ S.length
  | 0 => Nat.le_refl _
  | i + 1 => Nat.le_trans (drop_len_le _ _) (outR_len i)
theorem inR_len {S : Sto} (hS : okP S = true) {t : Nat} (hn : 0 < S.length) : ∀ i, (inR S t i).length ≤ i
  | 0 => Nat.le_refl _
  | i + 1 => Nat.le_trans (put_len_le _ _ _ (inR_ok hS hn i) (okP_ok hS _ (keyR_mem hn))) (Nat.succ_le_succ (inR_len hS hn i))
theorem outR_small {S : Sto} {t : Nat} (hs : ∀ x ∈ S, smallN x.1) (i : Nat) : ∀ x ∈ (outR S t i).map Prod.fst, smallN x := fun x hx => by
  obtain ⟨y, hy, rfl⟩ := List.mem_map.1 hx
  exact hs y ((outR_mem y i).1 hy).1
theorem inR_small {S : Sto} (hS : okP S = true) {t : Nat} (hn : 0 < S.length) (hs : ∀ x ∈ S, smallN x.1) (i : Nat) : ∀ x ∈ (inR S t i).map Prod.fst, smallN x := fun x hx => by
  obtain ⟨y, hy, rfl⟩ := List.mem_map.1 hx
  obtain ⟨j, _, rfl⟩ := (inR_mem hS hn y i).1 hy
  exact hs _ (keyR_mem hn)
theorem cast_modS (a : Int) (n : Nat) (h : 0 ≤ a) : a.tmod (n : Int) = ((a.toNat % n : Nat) : Int) := by
  rw [Int.tmod_eq_emod_of_nonneg h, Int.natCast_emod, Int.toNat_of_nonneg h]

/-! ### Answers with an error beside them -/
section
variable {ops : Array Oper} {Q : Exit → Act → World → Prop} {a : Act} {w w0 : World} {who : Nat → Nat} {i B r ro : Nat} {o : Oper}
theorem rol_ext_sto (ho : ops[i]? = some o) (hw : Region.wanted o (yielded ops a.tmps) = true) {s : Nat} (hd : o.dst = some s) (hs : s < a.tmps.size) {t : Nat} (hop : o.op = .extract (.tmp t) 0) {N : Nat} {K : List Nd} {T : List (List UInt8)} {e : Value} (h : (RLeaf.mems t (tupG N K T e)).holds r a w who) (hb : Below B w0 w) :
    wpOp Try.prog ops Q i (RPost ops i r ro (.mems s (stoG N K T)) B w0 a w who) a w := by
  obtain ⟨v, bs, hv, hbs, u, rfl, hp⟩ := h
  exact rol_vals ho hw hd hs (ex_extract hop (eval_slot hv) rfl) hbs hp hb
theorem rol_ext_err (ho : ops[i]? = some o) (hw : Region.wanted o (yielded ops a.tmps) = true) {s : Nat} (hd : o.dst = some s) (hs : s < a.tmps.size) {t : Nat} (hop : o.op = .extract (.tmp t) 1) {N : Nat} {K : List Nd} {T : List (List UInt8)} {e : Value} {r2 : Nat} (h : (RLeaf.mems t (tupG N K T e)).holds r2 a w who) (hb : Below B w0 w) :
    wpOp Try.prog ops Q i (RPost ops i r ro (.val s e) B w0 a w who) a w := by
  obtain ⟨v, bs, hv, hbs, u, rfl, hp⟩ := h
  exact rol_val ho hw hd hs (ex_extract hop (eval_slot hv) rfl) hb
/-- A known store is put into a box. -/
theorem rol_box_val (ho : ops[i]? = some o) (hw : Region.wanted o (yielded ops a.tmps) = true) (hd : o.dst = none) {x y : Operand} {g : Nat} (hop : o.op = .store 25 x y) (hx : a.eval x = .pointer (some ⟨g, 0, none⟩)) {A A' : Option Addr} {n c m d : Nat} (hy : a.eval y = .agg #[.slice A n c, .slice A' m d])
    {x0 y0 : Value} {ty : TypeId} (hg : (RLeaf.box g (.cells #[x0, y0] ty)).holds r a w who) (hb : Below B w0 w) (hB : B ≤ g) : wpOp Try.prog ops Q i (RPost ops i r r (.box g (.cells #[.slice A n c, .slice A' m d] ty)) B w0 a w who) a w := by
  refine rol_store ho hw hd (ex_store hop hx hy (store_sto hg.1)) hg (row2_set hg.1 _ _) (fun k hk => ?_) (by simp [World.setCell]) ((hb.setCell hB _).setCell hB _)
  rw [Below.heap_setCell _ ⟨g, 1, none⟩ _ k hk, Below.heap_setCell _ ⟨g, 0, none⟩ _ k hk]
end
/-- A store's rows, whatever slot they are told of. -/
def stoX (X : Value) (N : Nat) (K : List Nd) (T : List (List UInt8)) : World → Value → (Nat → Prop) → Prop := fun w _ bs => stoG N K T w X bs
theorem stoX_near {X : Value} {N : Nat} {K : List Nd} {T : List (List UInt8)} : ∀ (w w' : World) (v : Value) (bs : Nat → Prop), (∀ b, bs b → w'.heap[b]? = w.heap[b]?) → stoX X N K T w v bs → stoX X N K T w' v bs := fun w w' _ bs hb h => stoG_near w w' X bs hb h
/-- Its rows lie not where boxes of stores do. -/
theorem StoO.toX {w : World} {N : Nat} {X : Value} {K : List Nd} {T : List (List UInt8)} (h : StoO w N X K T) : ∃ bs : Nat → Prop, (∀ b, bs b → b < w.heap.size ∧ ∀ cs, w.heap[b]? ≠ some (.cells cs 25 (0, 0))) ∧ stoG N K T w X bs := by
  obtain ⟨x, y, rfl, h1, h2⟩ := h
  refine ⟨fun b => x.ownBlock = some b ∨ y.ownBlock = some b, fun b e => ?_, x, y, rfl, h1, h2, fun b e => .inl e, fun b e => .inr e⟩
  rcases e with e | e
  · exact ⟨(own_lt h1 e).2, fun cs hh => own_nebox h1 hh (by decide) e⟩
  · exact ⟨(own_lt h2 e).2, fun cs hh => own_nebox h2 hh (by decide) e⟩
end Go.Proofs.Ytceefoiffkgliaa
