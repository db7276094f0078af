/- Rows of versions: which may be, their nodes, the rows of nodes, what is put in and taken out: plain facts. -/
import Derived.Test.YtlbibgofhhdgoaaGreatNodM
namespace Go.Proofs.YtlbibgofhhdgoaaGreat
set_option linter.unusedVariables false
set_option maxRecDepth 100000

abbrev Rw := List UInt8 × List (List UInt8)
abbrev zR : Rw := ([], [])

/-! ### Lists each of which is as it should be, and ahead of the next one -/
section
variable {α : Type}
def chainB (ok : α → Bool) (lt : α → α → Bool) (z : α) (l : List α) (j : Nat) : Bool := ok (l.getD j z) && (decide (j = 0) || lt (l.getD (j - 1) z) (l.getD j z))
def chainA (ok : α → Bool) (lt : α → α → Bool) (z : α) (l : List α) : Bool := (List.range l.length).all (chainB ok lt z l)
theorem chain_yes {ok : α → Bool} {lt : α → α → Bool} {z : α} {l : List α} (h : ∀ j, j < l.length → chainB ok lt z l j = true) : chainA ok lt z l = true := List.all_eq_true.2 fun j hj => h j (List.mem_range.1 hj)
theorem chain_no {ok : α → Bool} {lt : α → α → Bool} {z : α} {l : List α} {j : Nat} (hj : j < l.length) (h : chainB ok lt z l j = false) : chainA ok lt z l = false := by
  cases hc : chainA ok lt z l
  · rfl
  · rw [List.all_eq_true.1 hc j (List.mem_range.2 hj)] at h; cases h
theorem chain_at {ok : α → Bool} {lt : α → α → Bool} {z : α} {l : List α} (h : chainA ok lt z l = true) {j : Nat} (hj : j < l.length) : chainB ok lt z l j = true := List.all_eq_true.1 h j (List.mem_range.2 hj)
theorem gd_at {l : List α} {z : α} {j : Nat} (h : j < l.length) : l.getD j z = l[j] := by
  rw [List.getD_eq_getElem?_getD, List.getElem?_eq_getElem h]; rfl
theorem gd_in {l : List α} {z : α} {j : Nat} (h : j < l.length) : l.getD j z ∈ l := by rw [gd_at h]; exact List.getElem_mem h
theorem pair_of_next {lt : α → α → Bool} (tr : ∀ a b c, lt a b = true → lt b c = true → lt a c = true) : ∀ {l : List α}, (∀ j (hj : j + 1 < l.length), lt (l[j]'(by omega)) l[j + 1] = true) → l.Pairwise fun a b => lt a b = true
  | [], _ => List.Pairwise.nil
  | [x], _ => by simp
  | x :: y :: r, h => by
    have ih : (y :: r).Pairwise fun a b => lt a b = true := pair_of_next tr fun j hj => h (j + 1) (by simpa using hj)
    have h0 : lt x y = true := h 0 (by simp)
    refine List.pairwise_cons.2 ⟨fun z hz => ?_, ih⟩
    rcases List.mem_cons.1 hz with rfl | hz
    · exact h0
    · exact tr _ _ _ h0 ((List.pairwise_cons.1 ih).1 z hz)
theorem chain_iff {ok : α → Bool} {lt : α → α → Bool} {z : α} {l : List α} (tr : ∀ a b c, lt a b = true → lt b c = true → lt a c = true) : chainA ok lt z l = true ↔ (∀ x ∈ l, ok x = true) ∧ l.Pairwise fun a b => lt a b = true := by
  constructor
  · intro h
    refine ⟨fun x hx => ?_, pair_of_next tr fun j hj => ?_⟩
    · obtain ⟨j, hj, rfl⟩ := List.getElem_of_mem hx
      have := chain_at h hj
      unfold chainB at this
      rw [gd_at hj, Bool.and_eq_true] at this
      exact this.1
    · have := chain_at h hj
      unfold chainB at this
      rw [gd_at hj, Nat.add_sub_cancel, gd_at (show j < l.length by omega), Bool.and_eq_true] at this
      simpa using this.2
  · rintro ⟨h, k⟩
    refine chain_yes fun j hj => ?_
    unfold chainB
    rw [h _ (gd_in hj), Bool.true_and]
    by_cases h0 : j = 0
    · simp [h0]
    · rw [decide_eq_false h0, Bool.false_or, gd_at hj, gd_at (show j - 1 < l.length by omega)]
      exact List.pairwise_iff_getElem.1 k (j - 1) j (by omega) hj (by omega)
/-- What comes ahead of a place, and what does not. -/
theorem cut_ahead {l : List α} {z : α} {f : α → Bool} {i : Nat} (hi : i ≤ l.length) (h1 : ∀ t, t < i → f (l.getD t z) = true) (h2 : ∀ t, i ≤ t → t < l.length → f (l.getD t z) = false) : l.filter f = l.take i ∧ (l.filter fun x => !f x) = l.drop i := by
  have m1 : ∀ x ∈ l.take i, f x = true := fun x hx => by
    obtain ⟨t, ht, rfl⟩ := List.getElem_of_mem hx
    have ht2 : t < i := by rw [List.length_take] at ht; omega
    have := h1 t ht2
    rw [gd_at (by omega)] at this
    rw [List.getElem_take]; exact this
  have m2 : ∀ x ∈ l.drop i, f x = false := fun x hx => by
    obtain ⟨t, ht, rfl⟩ := List.getElem_of_mem hx
    rw [List.length_drop] at ht
    have := h2 (i + t) (by omega) (by omega)
    rw [gd_at (by omega)] at this
    rw [List.getElem_drop, this]
  constructor
  · conv => lhs; rw [← List.take_append_drop i l, List.filter_append, List.filter_eq_self.2 m1, List.filter_eq_nil_iff.2 (fun x hx => by rw [m2 x hx]; simp), List.append_nil]
  · have e1 : ((l.take i).filter fun x => !f x) = [] := List.filter_eq_nil_iff.2 (fun x hx => by rw [m1 x hx]; simp)
    have e2 : ((l.drop i).filter fun x => !f x) = l.drop i := List.filter_eq_self.2 (fun x hx => by rw [m2 x hx]; rfl)
    conv => lhs; rw [← List.take_append_drop i l, List.filter_append, e1, e2, List.nil_append]
end

/-! ### Versions of a row -/
def ltV (a b : List UInt8) : Bool := decide (cmpT a b < 0)
theorem ltV_iff {a b : List UInt8} : ltV a b = true ↔ cmpT a b < 0 := by unfold ltV; exact decide_eq_true_iff
theorem ltV_no {a b : List UInt8} : ltV a b = false ↔ 0 ≤ cmpT a b := by unfold ltV; rw [decide_eq_false_iff_not]; omega
theorem ltV_trans (a b c : List UInt8) (h : ltV a b = true) (k : ltV b c = true) : ltV a c = true := by
  rw [ltV_iff] at *
  exact (ord_V.trans _ _ _ (Int.le_of_lt h) (Int.le_of_lt k)).2 (.inl h)
theorem ltV_irrefl (a : List UInt8) : ltV a a = false := by rw [ltV_no, cmpT_self]; exact Int.le_refl 0
theorem ltV_asym {a b : List UInt8} (h : ltV a b = true) : ltV b a = false := by
  rw [ltV_iff] at h; rw [ltV_no, cmpT_swap]; omega
theorem cmpT_eq {a b : List UInt8} (ha : okV a = true) (hb : okV b = true) (h : cmpT a b = 0) : a = b := ver_inj ha hb ((ord_V.zero _ _).1 h)
theorem ltV_tri {a b : List UInt8} (ha : okV a = true) (hb : okV b = true) : ltV a b = true ∨ a = b ∨ ltV b a = true := by
  rcases ord_V.vals (verOf a) (verOf b) with h | h | h
  · exact .inl (ltV_iff.2 (by show cmpT a b < 0; rw [show cmpT a b = -1 from h]; omega))
  · exact .inr (.inl (cmpT_eq ha hb h))
  · exact .inr (.inr (ltV_iff.2 (by rw [cmpT_swap, show cmpT a b = 1 from h]; omega)))
def fitV2 (l : List (List UInt8)) : Bool := chainA okV ltV [] l && decide (0 < l.length)
theorem fitV_iff {l : List (List UInt8)} : fitV2 l = true ↔ (∀ v ∈ l, okV v = true) ∧ (l.Pairwise fun a b => ltV a b = true) ∧ l ≠ [] := by
  unfold fitV2
  rw [Bool.and_eq_true, chain_iff ltV_trans, decide_eq_true_iff, List.length_pos_iff, and_assoc]
theorem pair_nodup {l : List (List UInt8)} (h : l.Pairwise fun a b => ltV a b = true) : l.Nodup := List.Pairwise.imp (fun {a b} k e => by subst e; rw [ltV_irrefl] at k; cases k) h

/-! ### Rows -/
def ltP (a b : Rw) : Bool := decide (Lib.compareBytes a.1 b.1 < 0)
theorem ltP_iff {a b : Rw} : ltP a b = true ↔ Lib.compareBytes a.1 b.1 < 0 := by unfold ltP; exact decide_eq_true_iff
theorem ltP_trans (a b c : Rw) (h : ltP a b = true) (k : ltP b c = true) : ltP a c = true := by
  rw [ltP_iff] at *
  exact (cb_trans _ _ _ (Int.le_of_lt h) (Int.le_of_lt k)).2 (.inl h)
theorem ltP_ne {a b : Rw} (h : ltP a b = true) : a.1 ≠ b.1 := fun e => by rw [ltP_iff, e, cb_self] at h; omega
def okRow (r : Rw) : Bool := pathB r.1 && fitV2 r.2
def okR (l : List Rw) : Bool := chainA okRow ltP zR l
theorem okR_iff {l : List Rw} : okR l = true ↔ (∀ r ∈ l, pathB r.1 = true ∧ fitV2 r.2 = true) ∧ l.Pairwise fun a b => ltP a b = true := by
  unfold okR
  rw [chain_iff ltP_trans]
  unfold okRow
  simp only [Bool.and_eq_true]
theorem okR_nil : okR [] = true := rfl

def rwAll (l : List Rw) : List Nd := l.flatMap fun r => r.2.map fun v => (r.1, v)
theorem rwAll_mem {l : List Rw} {n : Nd} : n ∈ rwAll l ↔ ∃ r ∈ l, r.1 = n.1 ∧ n.2 ∈ r.2 := by
  unfold rwAll
  rw [List.mem_flatMap]
  constructor
  · rintro ⟨r, hr, h⟩
    obtain ⟨v, hv, rfl⟩ := List.mem_map.1 h
    exact ⟨r, hr, rfl, hv⟩
  · rintro ⟨r, hr, h1, h2⟩
    refine ⟨r, hr, List.mem_map.2 ⟨n.2, h2, ?_⟩⟩
    rw [h1]
theorem rwAll_app (l m : List Rw) : rwAll (l ++ m) = rwAll l ++ rwAll m := by unfold rwAll; exact List.flatMap_append
theorem rwAll_cons (r : Rw) (l : List Rw) : rwAll (r :: l) = (r.2.map fun v => (r.1, v)) ++ rwAll l := by unfold rwAll; exact List.flatMap_cons
theorem rwAll_one (r : Rw) : rwAll [r] = r.2.map fun v => (r.1, v) := by rw [rwAll_cons]; simp [rwAll]
theorem all_okN {l : List Rw} (h : okR l = true) : ∀ n ∈ rwAll l, okN n = true := fun n hn => by
  obtain ⟨r, hr, h1, h2⟩ := rwAll_mem.1 hn
  have h3 := (okR_iff.1 h).1 r hr
  exact okN_of (by rw [← h1]; exact h3.1) ((fitV_iff.1 h3.2).1 _ h2)
theorem ltN_path {a b : Nd} (h : Lib.compareBytes a.1 b.1 < 0) : ltN a b = true := by
  rw [ltN_iff]; unfold ordN
  rw [if_neg (fun e => by rw [e, cb_self] at h; omega)]; exact h
theorem ltN_same {a b : Nd} (h : a.1 = b.1) : ltN a b = ltV a.2 b.2 := by
  unfold ltN ltV ordN; rw [if_pos h]
theorem ltN_le {a b : Nd} (h : ltN a b = true) : a.1 = b.1 ∨ Lib.compareBytes a.1 b.1 < 0 := by
  rw [ltN_iff] at h; unfold ordN at h
  by_cases e : a.1 = b.1
  · exact .inl e
  · rw [if_neg e] at h; exact .inr h
theorem all_rises : ∀ {l : List Rw}, okR l = true → Rises (rwAll l)
  | [], _ => by unfold rwAll; exact List.Pairwise.nil
  | r :: l, h => by
    obtain ⟨h1, h2⟩ := okR_iff.1 h
    obtain ⟨h3, h4⟩ := List.pairwise_cons.1 h2
    have ih : Rises (rwAll l) := all_rises (okR_iff.2 ⟨fun x hx => h1 x (List.mem_cons_of_mem _ hx), h4⟩)
    rw [rwAll_cons]
    refine List.pairwise_append.2 ⟨List.pairwise_map.2 ((fitV_iff.1 (h1 r List.mem_cons_self).2).2.1.imp fun {a b} k => by rw [ltN_same (a := (r.1, a)) (b := (r.1, b)) rfl]; exact k), ih, fun a ha b hb => ?_⟩
    obtain ⟨v, hv, rfl⟩ := List.mem_map.1 ha
    obtain ⟨s, hs, e1, e2⟩ := rwAll_mem.1 hb
    have := ltP_iff.1 (h3 s hs)
    rw [e1] at this
    exact ltN_path this
theorem all_check {l : List Rw} (h : okR l = true) : checkN (rwAll l) = true := checkN_of (all_okN h) (all_rises h)

/-- A node behind rows. -/
def pushR (l : List Rw) (n : Nd) : List Rw :=
  match l.getLast? with
  | some r => if r.1 = n.1 then l.dropLast ++ [(r.1, r.2 ++ [n.2])] else l ++ [(n.1, [n.2])]
  | none => [(n.1, [n.2])]
def rwOf (s : List Nd) : List Rw := s.foldl pushR []
theorem push_nil (n : Nd) : pushR [] n = [(n.1, [n.2])] := rfl
theorem push_same (l : List Rw) (p : List UInt8) (vs : List (List UInt8)) (v : List UInt8) : pushR (l ++ [(p, vs)]) (p, v) = l ++ [(p, vs ++ [v])] := by
  unfold pushR
  rw [List.getLast?_concat]
  simp
theorem push_new (l : List Rw) (r : Rw) (n : Nd) (h : r.1 ≠ n.1) : pushR (l ++ [r]) n = l ++ [r] ++ [(n.1, [n.2])] := by
  unfold pushR
  rw [List.getLast?_concat]
  simp only
  rw [if_neg h]
theorem snoc_cases {α : Type} (l : List α) : l = [] ∨ ∃ k x, l = k ++ [x] := by
  rcases List.eq_nil_or_concat l with h | ⟨k, x, h⟩
  · exact .inl h
  · exact .inr ⟨k, x, by rw [h, List.concat_eq_append]⟩
theorem rwOf_snoc (s : List Nd) (n : Nd) : rwOf (s ++ [n]) = pushR (rwOf s) n := by unfold rwOf; rw [List.foldl_append]; rfl
theorem push_ahead {l : List Rw} {n : Nd} (h : ∀ r ∈ l, r.1 ≠ n.1) : pushR l n = l ++ [(n.1, [n.2])] := by
  rcases snoc_cases l with rfl | ⟨k, r, rfl⟩
  · rfl
  · exact push_new k r n (h r (by simp))
theorem all_push (l : List Rw) (n : Nd) : rwAll (pushR l n) = rwAll l ++ [n] := by
  rcases snoc_cases l with rfl | ⟨k, ⟨p, vs⟩, rfl⟩
  · rw [push_nil, rwAll_one]; rfl
  · by_cases h : p = n.1
    · subst h
      rw [push_same k n.1 vs n.2, rwAll_app, rwAll_app, rwAll_one, rwAll_one, List.map_append]
      simp
    · rw [push_new k (p, vs) n h, rwAll_app, rwAll_one]; rfl
theorem all_fold : ∀ (s : List Nd) (l : List Rw), rwAll (s.foldl pushR l) = rwAll l ++ s
  | [], l => by simp
  | n :: s, l => by rw [List.foldl_cons, all_fold s, all_push]; simp
theorem all_of (s : List Nd) : rwAll (rwOf s) = s := by unfold rwOf; rw [all_fold]; rfl
theorem push_ok {l : List Rw} {n : Nd} (h : okR l = true) (hn : okN n = true) (hl : ∀ x ∈ rwAll l, ltN x n = true) : okR (pushR l n) = true := by
  obtain ⟨hp, hv⟩ := okN_parts hn
  have one : fitV2 [n.2] = true := fitV_iff.2 ⟨fun v hv' => by rw [List.mem_singleton.1 hv']; exact hv, by simp, by simp⟩
  obtain ⟨h1, h2⟩ := okR_iff.1 h
  rcases snoc_cases l with rfl | ⟨k, ⟨p, vs⟩, rfl⟩
  · rw [push_nil]
    exact okR_iff.2 ⟨fun r hr => by rw [List.mem_singleton.1 hr]; exact ⟨hp, one⟩, by simp⟩
  · have hlast := h1 (p, vs) (by simp)
    obtain ⟨f1, f2, f3⟩ := fitV_iff.1 hlast.2
    obtain ⟨q1, -, q3⟩ := List.pairwise_append.1 h2
    by_cases e : p = n.1
    · subst e
      rw [push_same]
      refine okR_iff.2 ⟨fun r hr => ?_, ?_⟩
      · rcases List.mem_append.1 hr with hr | hr
        · exact h1 r (List.mem_append_left _ hr)
        · rw [List.mem_singleton.1 hr]
          refine ⟨hp, fitV_iff.2 ⟨fun v hv' => ?_, ?_, by simp⟩⟩
          · rcases List.mem_append.1 hv' with hv' | hv'
            · exact f1 v hv'
            · rw [List.mem_singleton.1 hv']; exact hv
          · refine List.pairwise_append.2 ⟨f2, by simp, fun a ha b hb => ?_⟩
            rw [List.mem_singleton.1 hb]
            have := hl (n.1, a) (rwAll_mem.2 ⟨(n.1, vs), by simp, rfl, ha⟩)
            rwa [ltN_same (a := (n.1, a)) (b := n) rfl] at this
      · refine List.pairwise_append.2 ⟨q1, by simp, fun a ha b hb => ?_⟩
        rw [List.mem_singleton.1 hb]
        have := ltP_iff.1 (q3 a ha (n.1, vs) (by simp))
        exact ltP_iff.2 this
    · rw [push_new k (p, vs) n e]
      have hpn : Lib.compareBytes p n.1 < 0 := by
        obtain ⟨v, hv'⟩ := List.exists_mem_of_ne_nil _ f3
        have := hl (p, v) (rwAll_mem.2 ⟨(p, vs), by simp, rfl, hv'⟩)
        rcases ltN_le this with k | k
        · exact absurd k e
        · exact k
      refine okR_iff.2 ⟨fun r hr => ?_, List.pairwise_append.2 ⟨h2, by simp, fun a ha b hb => ?_⟩⟩
      · rcases List.mem_append.1 hr with hr | hr
        · exact h1 r hr
        · rw [List.mem_singleton.1 hr]; exact ⟨hp, one⟩
      · rw [List.mem_singleton.1 hb, ltP_iff]
        show Lib.compareBytes a.1 n.1 < 0
        rcases List.mem_append.1 ha with ha | ha
        · have := ltP_iff.1 (q3 a ha (p, vs) (by simp))
          exact (cb_trans _ _ _ (Int.le_of_lt this) (Int.le_of_lt hpn)).2 (.inl this)
        · rw [List.mem_singleton.1 ha]; exact hpn
theorem fold_ok : ∀ (s : List Nd) (l : List Rw), okR l = true → checkN (rwAll l ++ s) = true → okR (s.foldl pushR l) = true
  | [], l, h, _ => h
  | n :: s, l, h, hc => by
    obtain ⟨c1, c2⟩ := checkN_iff.1 hc
    rw [List.foldl_cons]
    refine fold_ok s _ (push_ok h (c1 n (by simp)) fun x hx => (List.pairwise_append.1 c2).2.2 x hx n (by simp)) ?_
    rw [all_push, List.append_assoc]; exact hc
theorem of_ok {s : List Nd} (h : checkN s = true) : okR (rwOf s) = true := fold_ok s [] okR_nil (by simpa [rwAll] using h)
theorem fold_row (p : List UInt8) : ∀ (vs us : List (List UInt8)) (k : List Rw), (vs.map fun v => (p, v)).foldl pushR (k ++ [(p, us)]) = k ++ [(p, us ++ vs)]
  | [], us, k => by simp
  | v :: vs, us, k => by
    rw [List.map_cons, List.foldl_cons, push_same, fold_row p vs (us ++ [v]) k]; simp
theorem fold_all : ∀ (l k : List Rw), okR (k ++ l) = true → (rwAll l).foldl pushR k = k ++ l
  | [], k, _ => by simp [rwAll]
  | (p, vs) :: l, k, h => by
    obtain ⟨h1, h2⟩ := okR_iff.1 h
    rw [rwAll_cons, List.foldl_append]
    have hne := (fitV_iff.1 (h1 (p, vs) (by simp)).2).2.2
    cases vs with
    | nil => exact absurd rfl hne
    | cons v vs =>
      have ha : ∀ r ∈ k, r.1 ≠ p := fun r hr => ltP_ne ((List.pairwise_append.1 h2).2.2 r hr (p, v :: vs) (by simp))
      simp only
      rw [List.map_cons, List.foldl_cons, push_ahead (n := (p, v)) ha, fold_row, List.singleton_append, fold_all l _ (by simpa using h)]
      simp
theorem of_all {l : List Rw} (h : okR l = true) : rwOf (rwAll l) = l := by
  have := fold_all l [] (by simpa using h)
  simpa [rwOf] using this
theorem rows_eq {a b : List Rw} (ha : okR a = true) (hb : okR b = true) (h : ∀ n, n ∈ rwAll a ↔ n ∈ rwAll b) : a = b := by
  rw [← of_all ha, ← of_all hb, rises_eq (all_rises ha) (all_rises hb) h]
theorem rows_is {a : List Rw} {s : List Nd} (ha : okR a = true) (hs : checkN s = true) (h : ∀ n, n ∈ rwAll a ↔ n ∈ s) : a = rwOf s := rows_eq ha (of_ok hs) fun n => by rw [all_of]; exact h n
theorem may_is (l : List Rw) : (checkN (rwAll l) && decide (l = rwOf (rwAll l))) = okR l := by
  rw [Bool.eq_iff_iff, Bool.and_eq_true, decide_eq_true_iff]
  constructor
  · rintro ⟨h1, h2⟩
    rw [h2]; exact of_ok h1
  · intro h
    exact ⟨all_check h, (of_all h).symm⟩

/-! ### A path's versions; versions in the stead of others -/
def rwVer (l : List Rw) (p : List UInt8) : List (List UInt8) := ((rwAll l).filter fun n => decide (n.1 = p)).map (·.2)
theorem ver_mem {l : List Rw} {p v : List UInt8} : v ∈ rwVer l p ↔ (p, v) ∈ rwAll l := by
  unfold rwVer
  rw [List.mem_map]
  constructor
  · rintro ⟨⟨q, u⟩, h, rfl⟩
    obtain ⟨h1, h2⟩ := List.mem_filter.1 h
    have : q = p := by simpa using h2
    rw [← this]; exact h1
  · intro h
    exact ⟨(p, v), List.mem_filter.2 ⟨h, by simp⟩, rfl⟩
theorem ver_pair {l : List Rw} (h : okR l = true) (p : List UInt8) : (rwVer l p).Pairwise fun a b => ltV a b = true := by
  unfold rwVer
  refine List.pairwise_map.2 (List.Pairwise.imp_of_mem (fun {a b} ha hb k => ?_) ((all_rises h).filter _))
  have e1 : a.1 = p := by simpa using (List.mem_filter.1 ha).2
  have e2 : b.1 = p := by simpa using (List.mem_filter.1 hb).2
  rwa [ltN_same (e1.trans e2.symm)] at k
theorem ver_ok {l : List Rw} (h : okR l = true) (p : List UInt8) : ∀ v ∈ rwVer l p, okV v = true := fun v hv => (okN_parts (all_okN h _ (ver_mem.1 hv))).2
theorem ver_fit {l : List Rw} (h : okR l = true) (p : List UInt8) : rwVer l p = [] ∨ fitV2 (rwVer l p) = true := by
  by_cases e : rwVer l p = []
  · exact .inl e
  · exact .inr (fitV_iff.2 ⟨ver_ok h p, ver_pair h p, e⟩)
theorem flt_none {l : List Rw} {p : List UInt8} (h : ∀ r ∈ l, r.1 ≠ p) : ((rwAll l).filter fun n => decide (n.1 = p)) = [] := by
  rw [List.filter_eq_nil_iff]
  intro n hn
  obtain ⟨r, hr, e, -⟩ := rwAll_mem.1 hn
  have := h r hr
  rw [e] at this
  simp [this]
theorem ver_at {l k : List Rw} {r : Rw} (h : okR (l ++ r :: k) = true) : rwVer (l ++ r :: k) r.1 = r.2 := by
  obtain ⟨-, h2⟩ := okR_iff.1 h
  obtain ⟨-, q2, q3⟩ := List.pairwise_append.1 h2
  have n1 : ∀ x ∈ l, x.1 ≠ r.1 := fun x hx => ltP_ne (q3 x hx r List.mem_cons_self)
  have n2 : ∀ x ∈ k, x.1 ≠ r.1 := fun x hx => (ltP_ne ((List.pairwise_cons.1 q2).1 x hx)).symm
  unfold rwVer
  rw [rwAll_app, rwAll_cons, List.filter_append, List.filter_append, flt_none n1, flt_none n2, List.nil_append, List.append_nil, List.filter_eq_self.2 (fun n hn => by obtain ⟨v, -, rfl⟩ := List.mem_map.1 hn; simp), List.map_map, show ((fun n : Nd => n.2) ∘ fun v => (r.1, v)) = id from rfl, List.map_id]
theorem ver_none {l : List Rw} {p : List UInt8} (h : ∀ r ∈ l, r.1 ≠ p) : rwVer l p = [] := by unfold rwVer; rw [flt_none h]; rfl

def rwWith (l : List Rw) (p : List UInt8) (vs : List (List UInt8)) : List Rw :=
  (l.filter fun r => decide (Lib.compareBytes r.1 p < 0)) ++ ((if vs = [] then [] else [(p, vs)]) ++ l.filter fun r => decide (Lib.compareBytes p r.1 < 0))
theorem cb_ne_lt {a b : List UInt8} (h : a ≠ b) : Lib.compareBytes a b < 0 ∨ Lib.compareBytes b a < 0 := by
  rcases cb_vals a b with k | k | k
  · exact .inl (by omega)
  · exact absurd (cb_zero _ _ k) h
  · exact .inr (by rw [cb_swap]; omega)
theorem with_mem {l : List Rw} {p : List UInt8} {vs : List (List UInt8)} (n : Nd) : n ∈ rwAll (rwWith l p vs) ↔ (n.1 = p ∧ n.2 ∈ vs) ∨ (n.1 ≠ p ∧ n ∈ rwAll l) := by
  unfold rwWith
  rw [rwAll_app, rwAll_app, List.mem_append, List.mem_append]
  have mid : n ∈ rwAll (if vs = [] then [] else [(p, vs)]) ↔ n.1 = p ∧ n.2 ∈ vs := by
    by_cases e : vs = []
    · rw [if_pos e, e]; simp [rwAll]
    · rw [if_neg e, rwAll_mem]
      constructor
      · rintro ⟨r, hr, h1, h2⟩
        rw [List.mem_singleton.1 hr] at h1 h2
        exact ⟨h1.symm, h2⟩
      · rintro ⟨h1, h2⟩
        exact ⟨(p, vs), List.mem_singleton.2 rfl, h1.symm, h2⟩
  have fl : ∀ f : Rw → Bool, n ∈ rwAll (l.filter f) → n ∈ rwAll l := fun f h => by
    obtain ⟨r, hr, h1, h2⟩ := rwAll_mem.1 h
    exact rwAll_mem.2 ⟨r, (List.mem_filter.1 hr).1, h1, h2⟩
  rw [mid]
  constructor
  · rintro (h | h | h)
    · refine .inr ⟨fun e => ?_, fl _ h⟩
      obtain ⟨r, hr, h1, -⟩ := rwAll_mem.1 h
      have := (List.mem_filter.1 hr).2
      rw [h1, e, cb_self] at this; simp at this
    · exact .inl h
    · refine .inr ⟨fun e => ?_, fl _ h⟩
      obtain ⟨r, hr, h1, -⟩ := rwAll_mem.1 h
      have := (List.mem_filter.1 hr).2
      rw [h1, e, cb_self] at this; simp at this
  · rintro (h | ⟨h1, h2⟩)
    · exact .inr (.inl h)
    · obtain ⟨r, hr, e1, e2⟩ := rwAll_mem.1 h2
      rcases cb_ne_lt h1 with k | k
      · exact .inl (rwAll_mem.2 ⟨r, List.mem_filter.2 ⟨hr, by rw [e1]; simpa using k⟩, e1, e2⟩)
      · exact .inr (.inr (rwAll_mem.2 ⟨r, List.mem_filter.2 ⟨hr, by rw [e1]; simpa using k⟩, e1, e2⟩))
theorem with_ok {l : List Rw} {p : List UInt8} {vs : List (List UInt8)} (h : okR l = true) (hp : pathB p = true) (hv : vs = [] ∨ fitV2 vs = true) : okR (rwWith l p vs) = true := by
  obtain ⟨h1, h2⟩ := okR_iff.1 h
  unfold rwWith
  refine okR_iff.2 ⟨fun r hr => ?_, ?_⟩
  · rcases List.mem_append.1 hr with hr | hr
    · exact h1 r (List.mem_filter.1 hr).1
    · rcases List.mem_append.1 hr with hr | hr
      · by_cases e : vs = []
        · rw [if_pos e] at hr; cases hr
        · rw [if_neg e] at hr
          rw [List.mem_singleton.1 hr]
          exact ⟨hp, hv.resolve_left e⟩
      · exact h1 r (List.mem_filter.1 hr).1
  · have mid : ∀ a ∈ (if vs = [] then [] else [(p, vs)] : List Rw), a.1 = p := fun a ha => by
      by_cases e : vs = []
      · rw [if_pos e] at ha; cases ha
      · rw [if_neg e] at ha; rw [List.mem_singleton.1 ha]
    refine List.pairwise_append.2 ⟨h2.filter _, List.pairwise_append.2 ⟨by by_cases e : vs = [] <;> simp [e], h2.filter _, fun a ha b hb => ?_⟩, fun a ha b hb => ?_⟩
    · rw [ltP_iff, mid a ha]
      simpa using (List.mem_filter.1 hb).2
    · have ka : Lib.compareBytes a.1 p < 0 := by simpa using (List.mem_filter.1 ha).2
      rcases List.mem_append.1 hb with hb | hb
      · rw [ltP_iff, mid b hb]; exact ka
      · have kb : Lib.compareBytes p b.1 < 0 := by simpa using (List.mem_filter.1 hb).2
        rw [ltP_iff]
        exact (cb_trans _ _ _ (Int.le_of_lt ka) (Int.le_of_lt kb)).2 (.inl ka)

def insV (l : List (List UInt8)) (v : List UInt8) : List (List UInt8) := (l.filter fun x => ltV x v) ++ v :: l.filter fun x => !ltV x v
def delV (l : List (List UInt8)) (v : List UInt8) : List (List UInt8) := (l.filter fun x => ltV x v) ++ (l.filter fun x => !ltV x v).drop 1
theorem ins_mem {l : List (List UInt8)} {v u : List UInt8} : u ∈ insV l v ↔ u ∈ l ∨ u = v := by
  unfold insV
  rw [List.mem_append, List.mem_cons, List.mem_filter, List.mem_filter]
  constructor
  · rintro (⟨h, -⟩ | h | ⟨h, -⟩)
    · exact .inl h
    · exact .inr h
    · exact .inl h
  · rintro (h | h)
    · cases e : ltV u v with
      | true => exact .inl ⟨h, rfl⟩
      | false => exact .inr (.inr ⟨h, rfl⟩)
    · exact .inr (.inl h)
theorem ins_fit {l : List (List UInt8)} {v : List UInt8} (ho : ∀ x ∈ l, okV x = true) (hp : l.Pairwise fun a b => ltV a b = true) (hv : okV v = true) (hn : v ∉ l) : fitV2 (insV l v) = true := by
  refine fitV_iff.2 ⟨fun x hx => ?_, ?_, by unfold insV; simp⟩
  · rcases ins_mem.1 hx with h | rfl
    · exact ho x h
    · exact hv
  · unfold insV
    refine List.pairwise_append.2 ⟨hp.filter _, List.pairwise_cons.2 ⟨fun x hx => ?_, hp.filter _⟩, fun a ha b hb => ?_⟩
    · obtain ⟨h1, h2⟩ := List.mem_filter.1 hx
      have h3 : ltV x v = false := by simpa using h2
      rcases ltV_tri (ho x h1) hv with k | k | k
      · rw [k] at h3; cases h3
      · subst k; exact absurd h1 hn
      · exact k
    · have ka := (List.mem_filter.1 ha).2
      rcases List.mem_cons.1 hb with rfl | hb
      · exact ka
      · obtain ⟨h1, h2⟩ := List.mem_filter.1 hb
        have h3 : ltV b v = false := by simpa using h2
        rcases ltV_tri (ho b h1) hv with k | k | k
        · rw [k] at h3; cases h3
        · subst k; exact ka
        · exact ltV_trans _ _ _ ka k
/-- Behind what comes ahead of a version that is there it stands itself. -/
theorem flt_head {l : List (List UInt8)} {v : List UInt8} (ho : ∀ x ∈ l, okV x = true) (hp : l.Pairwise fun a b => ltV a b = true) (hv : okV v = true) (hm : v ∈ l) : (l.filter fun x => !ltV x v) = v :: l.filter fun x => ltV v x := by
  induction l with
  | nil => cases hm
  | cons x l ih =>
    obtain ⟨h1, h2⟩ := List.pairwise_cons.1 hp
    by_cases e : x = v
    · subst e
      rw [List.filter_cons, ltV_irrefl, List.filter_cons, ltV_irrefl]
      simp only [Bool.not_false, if_true, Bool.false_eq_true, if_false]
      congr 1
      refine List.filter_congr fun y hy => ?_
      rw [h1 y hy, ltV_asym (h1 y hy)]; rfl
    · have hm' : v ∈ l := by
        rcases List.mem_cons.1 hm with k | k
        · exact absurd k.symm e
        · exact k
      have hx := h1 v hm'
      rw [List.filter_cons, hx, List.filter_cons, ltV_asym hx]
      simp only [Bool.not_true, Bool.false_eq_true, if_false]
      exact ih (fun y hy => ho y (List.mem_cons_of_mem _ hy)) h2 hm'
theorem del_eq {l : List (List UInt8)} {v : List UInt8} (ho : ∀ x ∈ l, okV x = true) (hp : l.Pairwise fun a b => ltV a b = true) (hv : okV v = true) (hm : v ∈ l) : delV l v = (l.filter fun x => ltV x v) ++ l.filter fun x => ltV v x := by
  unfold delV; rw [flt_head ho hp hv hm]; rfl
theorem del_mem {l : List (List UInt8)} {v u : List UInt8} (ho : ∀ x ∈ l, okV x = true) (hp : l.Pairwise fun a b => ltV a b = true) (hv : okV v = true) (hm : v ∈ l) : u ∈ delV l v ↔ u ∈ l ∧ u ≠ v := by
  rw [del_eq ho hp hv hm, List.mem_append, List.mem_filter, List.mem_filter]
  constructor
  · rintro (⟨h, k⟩ | ⟨h, k⟩)
    · exact ⟨h, fun e => by rw [e, ltV_irrefl] at k; cases k⟩
    · exact ⟨h, fun e => by rw [e, ltV_irrefl] at k; cases k⟩
  · rintro ⟨h, k⟩
    rcases ltV_tri (ho u h) hv with q | q | q
    · exact .inl ⟨h, q⟩
    · exact absurd q k
    · exact .inr ⟨h, q⟩
theorem del_fit {l : List (List UInt8)} {v : List UInt8} (ho : ∀ x ∈ l, okV x = true) (hp : l.Pairwise fun a b => ltV a b = true) (hv : okV v = true) (hm : v ∈ l) : delV l v = [] ∨ fitV2 (delV l v) = true := by
  by_cases e : delV l v = []
  · exact .inl e
  · refine .inr (fitV_iff.2 ⟨fun x hx => ho x ((del_mem ho hp hv hm).1 hx).1, ?_, e⟩)
    rw [del_eq ho hp hv hm]
    refine List.pairwise_append.2 ⟨hp.filter _, hp.filter _, fun a ha b hb => ltV_trans _ _ _ (List.mem_filter.1 ha).2 (List.mem_filter.1 hb).2⟩

/-! ### What the calls answer -/
def addE (l : List Rw) (n : Nd) : List Rw × Int := if (okR l && okN n) = true then (if hasN (rwAll l) n = true then (l, 3) else (rwOf (withN (rwAll l) n), 0)) else (l, 1)
def dropE (l : List Rw) (n : Nd) : List Rw × Int := if (okR l && okN n) = true then (if hasN (rwAll l) n = true then (rwOf (minusN (rwAll l) [n]), 0) else (l, 2)) else (l, 1)
def rowsE (s : List Nd) : List Rw × Int := if s.all okN = true then (rwOf (setN s), 0) else ([], 1)
def allE (l : List Rw) : List Nd × Int := if okR l = true then (rwAll l, 0) else ([], 1)
def lastV (l : List (List UInt8)) : List UInt8 := l.getD (l.length - 1) []
def bestE (l : List Rw) (p : List UInt8) : List UInt8 × Int := if (okR l && pathB p) = true then (if rwVer l p = [] then ([], 2) else (lastV (rwVer l p), 0)) else ([], 1)
theorem add_is {l : List Rw} {n : Nd} (h : okR l = true) (hn : okN n = true) (hm : hasN (rwAll l) n = false) : rwWith l n.1 (insV (rwVer l n.1) n.2) = rwOf (withN (rwAll l) n) := by
  obtain ⟨hp, hv⟩ := okN_parts hn
  have hm' : n.2 ∉ rwVer l n.1 := fun k => hasN_not.1 hm (ver_mem.1 k)
  refine rows_is (with_ok h hp (.inr (ins_fit (ver_ok h _) (ver_pair h _) hv hm'))) (withN_check (all_check h) hn) fun x => ?_
  rw [with_mem, withN_mem (all_okN h) hn, ins_mem]
  obtain ⟨x1, x2⟩ := x
  obtain ⟨n1, n2⟩ := n
  simp only
  constructor
  · rintro (⟨rfl, h1 | rfl⟩ | ⟨-, h2⟩)
    · exact .inl (ver_mem.1 h1)
    · exact .inr rfl
    · exact .inl h2
  · rintro (h1 | h1)
    · by_cases e : x1 = n1
      · subst e; exact .inl ⟨rfl, .inl (ver_mem.2 h1)⟩
      · exact .inr ⟨e, h1⟩
    · injection h1 with e1 e2
      exact .inl ⟨e1, .inr e2⟩
theorem drop_is {l : List Rw} {n : Nd} (h : okR l = true) (hn : okN n = true) (hm : hasN (rwAll l) n = true) : rwWith l n.1 (delV (rwVer l n.1) n.2) = rwOf (minusN (rwAll l) [n]) := by
  obtain ⟨hp, hv⟩ := okN_parts hn
  have hm' : n.2 ∈ rwVer l n.1 := ver_mem.2 (hasN_iff.1 hm)
  refine rows_is (with_ok h hp (del_fit (ver_ok h _) (ver_pair h _) hv hm')) (minusN_check (all_check h)) fun x => ?_
  rw [with_mem, minusN_mem, del_mem (ver_ok h _) (ver_pair h _) hv hm']
  obtain ⟨x1, x2⟩ := x
  obtain ⟨n1, n2⟩ := n
  simp only [List.mem_singleton, Prod.mk.injEq, ne_eq, not_and]
  constructor
  · rintro (⟨rfl, h1, h2⟩ | ⟨h1, h2⟩)
    · exact ⟨ver_mem.1 h1, fun _ => h2⟩
    · exact ⟨h2, fun e => absurd e h1⟩
  · rintro ⟨h1, h2⟩
    by_cases e : x1 = n1
    · subst e; exact .inl ⟨rfl, ver_mem.2 h1, h2 rfl⟩
    · exact .inr ⟨e, h1⟩

/-! ### Where a path's row is -/
structure FindP (l : List Rw) (p : List UInt8) (lo hi : Nat) : Prop where
  low : ∀ t, t < lo → Lib.compareBytes (l.getD t zR).1 p < 0
  high : ∀ t, hi ≤ t → t < l.length → 0 ≤ Lib.compareBytes (l.getD t zR).1 p
theorem rows_up {l : List Rw} (h : l.Pairwise fun a b => ltP a b = true) {t m : Nat} (htm : t ≤ m) (hm : m < l.length) : Lib.compareBytes (l.getD t zR).1 (l.getD m zR).1 ≤ 0 := by
  rcases Nat.lt_or_ge t m with k | k
  · rw [gd_at hm, gd_at (show t < l.length by omega)]
    exact Int.le_of_lt (ltP_iff.1 (List.pairwise_iff_getElem.1 h t m (by omega) hm k))
  · have : t = m := by omega
    rw [this, cb_self]; exact Int.le_refl 0
theorem FindP.up {l : List Rw} {p : List UInt8} {lo hi m : Nat} (h : FindP l p lo hi) (hr : l.Pairwise fun a b => ltP a b = true) (hm : m < l.length) (hl : 0 < Lib.compareBytes p (l.getD m zR).1) : FindP l p (m + 1) hi :=
  ⟨fun t ht => by
    have h1 := rows_up hr (t := t) (m := m) (by omega) hm
    have h2 : Lib.compareBytes (l.getD m zR).1 p < 0 := by rw [cb_swap]; omega
    exact (cb_trans _ _ _ h1 (Int.le_of_lt h2)).2 (.inr h2), h.high⟩
theorem FindP.down {l : List Rw} {p : List UInt8} {lo hi m : Nat} (h : FindP l p lo hi) (hr : l.Pairwise fun a b => ltP a b = true) (hl : Lib.compareBytes p (l.getD m zR).1 ≤ 0) : FindP l p lo m :=
  ⟨h.low, fun t ht htn => by
    have h1 := rows_up hr (t := m) (m := t) ht htn
    have h2 := (cb_trans _ _ _ hl h1).1
    rw [cb_swap]; omega⟩
def foundP (l : List Rw) (p : List UInt8) (i : Nat) : Bool := decide (i < l.length) && decide (Lib.compareBytes p (l.getD i zR).1 = 0)
theorem found_eq {l : List Rw} {p : List UInt8} {i : Nat} (h : foundP l p i = true) : i < l.length ∧ (l.getD i zR).1 = p := by
  unfold foundP at h
  rw [Bool.and_eq_true, decide_eq_true_iff, decide_eq_true_iff] at h
  exact ⟨h.1, (cb_zero _ _ h.2).symm⟩
theorem found_not {l : List Rw} {p : List UInt8} {i : Nat} (hi : i ≤ l.length) (hr : l.Pairwise fun a b => ltP a b = true) (h : FindP l p i i) (hn : foundP l p i = false) : ∀ r ∈ l, r.1 ≠ p := by
  intro r hr' e
  obtain ⟨j, hj, rfl⟩ := List.getElem_of_mem hr'
  have hji : ¬ j < i := fun k => by have := h.low j k; rw [gd_at hj, e, cb_self] at this; omega
  have hil : i < l.length := by omega
  unfold foundP at hn
  rw [decide_eq_true hil, Bool.true_and, decide_eq_false_iff_not] at hn
  have h1 := h.high i (Nat.le_refl _) hil
  have h2 := rows_up hr (t := i) (m := j) (by omega) hj
  rw [gd_at hj, e] at h2
  have h3 := cb_swap (l.getD i zR).1 p
  omega
theorem split_at {l : List Rw} {i : Nat} (h : i < l.length) : l = l.take i ++ l.getD i zR :: l.drop (i + 1) := by
  rw [gd_at h]
  conv => lhs; rw [← List.take_append_drop i l, List.drop_eq_getElem_cons h]
theorem ver_found {l : List Rw} {p : List UInt8} {i : Nat} (hl : okR l = true) (h : foundP l p i = true) : rwVer l p = (l.getD i zR).2 := by
  obtain ⟨h1, h2⟩ := found_eq h
  have e := split_at h1
  have key : ∀ (a b : List Rw) (r : Rw), l = a ++ r :: b → rwVer l r.1 = r.2 := fun a b r q => by subst q; exact ver_at hl
  rw [← h2]
  exact key _ _ _ e
theorem ver_not {l : List Rw} {p : List UInt8} {i : Nat} (hi : i ≤ l.length) (hl : okR l = true) (hf : FindP l p i i) (h : foundP l p i = false) : rwVer l p = [] := ver_none (found_not hi (okR_iff.1 hl).2 hf h)
/-- What stands ahead of a path's place, and behind it. -/
theorem with_cut {l : List Rw} {p : List UInt8} {i : Nat} (vs : List (List UInt8)) (hi : i ≤ l.length) (hl : okR l = true) (hf : FindP l p i i) : rwWith l p vs = l.take i ++ ((if vs = [] then [] else [(p, vs)]) ++ l.drop (if foundP l p i = true then i + 1 else i)) := by
  obtain ⟨-, h2⟩ := okR_iff.1 hl
  have c1 := (cut_ahead (f := fun r : Rw => decide (Lib.compareBytes r.1 p < 0)) hi (fun t ht => decide_eq_true (hf.low t ht)) (fun t h1 h3 => decide_eq_false (by have := hf.high t h1 h3; omega))).1
  unfold rwWith
  rw [c1]
  congr 2
  cases hq : foundP l p i with
  | false =>
    rw [if_neg (by simp)]
    rw [← (cut_ahead (f := fun r : Rw => decide (Lib.compareBytes r.1 p < 0)) hi (fun t ht => decide_eq_true (hf.low t ht)) (fun t h1 h3 => decide_eq_false (by have := hf.high t h1 h3; omega))).2]
    have hn := found_not hi h2 hf hq
    refine List.filter_congr fun r hr => ?_
    rcases cb_ne_lt (hn r hr) with k | k
    · rw [decide_eq_true k, decide_eq_false (by rw [cb_swap]; omega)]; rfl
    · rw [decide_eq_true k, decide_eq_false (by rw [cb_swap]; omega)]; rfl
  | true =>
    rw [if_pos rfl]
    obtain ⟨hil, he⟩ := found_eq hq
    have q := (cut_ahead (l := l) (z := zR) (i := i + 1) (f := fun r : Rw => !decide (Lib.compareBytes p r.1 < 0)) (by omega) (fun t ht => ?_) (fun t h1 h3 => ?_)).2
    · rw [← q]
      refine List.filter_congr fun r _ => ?_
      rw [Bool.not_not]
    · have := rows_up h2 (t := t) (m := i) (by omega) hil
      rw [he] at this
      rw [decide_eq_false (by rw [cb_swap]; omega)]; rfl
    · have h4 := ltP_iff.1 (List.pairwise_iff_getElem.1 h2 i t hil h3 (by omega))
      rw [gd_at hil] at he
      rw [he] at h4
      rw [gd_at h3, decide_eq_true h4]; rfl
/-- Where a version is, or would go. -/
structure FindV (l : List (List UInt8)) (v : List UInt8) (lo hi : Nat) : Prop where
  low : ∀ t, t < lo → ltV (l.getD t []) v = true
  high : ∀ t, hi ≤ t → t < l.length → ltV (l.getD t []) v = false
theorem vers_up {l : List (List UInt8)} (h : l.Pairwise fun a b => ltV a b = true) {v : List UInt8} {t m : Nat} (htm : t ≤ m) (hm : m < l.length) (hl : ltV (l.getD m []) v = true) : ltV (l.getD t []) v = true := by
  rcases Nat.lt_or_ge t m with k | k
  · rw [gd_at hm] at hl
    rw [gd_at (show t < l.length by omega)]
    exact ltV_trans _ _ _ (List.pairwise_iff_getElem.1 h t m (by omega) hm k) hl
  · have : t = m := by omega
    rw [this]; exact hl
theorem FindV.up {l : List (List UInt8)} {v : List UInt8} {lo hi m : Nat} (h : FindV l v lo hi) (hr : l.Pairwise fun a b => ltV a b = true) (hm : m < l.length) (hl : ltV (l.getD m []) v = true) : FindV l v (m + 1) hi :=
  ⟨fun t ht => vers_up hr (m := m) (by omega) hm hl, h.high⟩
theorem FindV.down {l : List (List UInt8)} {v : List UInt8} {lo hi m : Nat} (h : FindV l v lo hi) (hr : l.Pairwise fun a b => ltV a b = true) (hl : ltV (l.getD m []) v = false) : FindV l v lo m :=
  ⟨h.low, fun t ht htn => by
    cases e : ltV (l.getD t []) v with
    | false => rfl
    | true => rw [vers_up hr ht htn e] at hl; cases hl⟩
def foundV (l : List (List UInt8)) (v : List UInt8) (i : Nat) : Bool := decide (i < l.length) && decide (cmpT (l.getD i []) v = 0)
theorem foundV_is {l : List (List UInt8)} {v : List UInt8} {i : Nat} (ho : ∀ x ∈ l, okV x = true) (hp : l.Pairwise fun a b => ltV a b = true) (hv : okV v = true) (h : FindV l v i i) : foundV l v i = decide (v ∈ l) := by
  unfold foundV
  rw [Bool.eq_iff_iff, Bool.and_eq_true, decide_eq_true_iff, decide_eq_true_iff, decide_eq_true_iff]
  constructor
  · rintro ⟨h1, h2⟩
    rw [← cmpT_eq (ho _ (gd_in h1)) hv h2]; exact gd_in h1
  · intro hm
    obtain ⟨j, hj, rfl⟩ := List.getElem_of_mem hm
    have hji : ¬ j < i := fun k => by have := h.low j k; rw [gd_at hj, ltV_irrefl] at this; cases this
    have hil : i < l.length := by omega
    refine ⟨hil, ?_⟩
    rcases Nat.lt_or_ge i j with k | k
    · have h1 := List.pairwise_iff_getElem.1 hp i j hil hj k
      have h2 := h.high i (Nat.le_refl _) hil
      rw [gd_at hil, h1] at h2; cases h2
    · have : i = j := by omega
      subst this; rw [gd_at hil, cmpT_self]
theorem ins_cut {l : List (List UInt8)} {v : List UInt8} {i : Nat} (hi : i ≤ l.length) (h : FindV l v i i) : insV l v = l.take i ++ v :: l.drop i := by
  have c := cut_ahead (f := fun x => ltV x v) hi h.low h.high
  unfold insV; rw [c.1, c.2]
theorem del_cut {l : List (List UInt8)} {v : List UInt8} {i : Nat} (hi : i ≤ l.length) (h : FindV l v i i) : delV l v = l.take i ++ l.drop (i + 1) := by
  have c := cut_ahead (f := fun x => ltV x v) hi h.low h.high
  unfold delV; rw [c.1, c.2, List.drop_drop]
end Go.Proofs.YtlbibgofhhdgoaaGreat
