/- What the laws of rows lean on: a node is put into a box; how many rows there are, and how long; plain facts. -/
import Derived.Test.YtlbibgofhhdgoaaGreatTalR
namespace Go.Proofs.YtlbibgofhhdgoaaGreat
open Go.RowKit
set_option linter.unusedVariables false
set_option maxRecDepth 100000

theorem st_ndT {w : World} {g : Nat} {q1 q2 : List UInt8} {x0 y0 : Value} {t : TypeId} (h : w.heap[g]? = some (.cells #[x0, y0] t (0, 0))) : Sem.run Tryz.prog (Instr.storeAt 55 (.pointer (some ⟨g, 0, none⟩)) (.agg #[.string (mkB q1), .string (mkB q2)])) w = .ok () ((w.setCell ⟨g, 0, none⟩ (.string (mkB q1))).setCell ⟨g, 1, none⟩ (.string (mkB q2))) := by
  obtain ⟨d0, d1, f0, f1⟩ := row2 h
  go_simp
section
variable {ops : Array Oper} {Q : Exit → Act → World → Prop} {a : Act} {w w0 : World} {who : Nat → Nat} {i B r ro : Nat} {o : Oper}
/-- A node is put into a box. -/
theorem rol_box_ndT (ho : ops[i]? = some o) (hw : Region.wanted o (yielded ops a.tmps) = true) (hd : o.dst = none) {x y : Operand} {g : Nat} (hop : o.op = .store 55 x y) (hx : a.eval x = .pointer (some ⟨g, 0, none⟩)) {q1 q2 : List UInt8} (hy : a.eval y = .agg #[.string (mkB q1), .string (mkB q2)])
    {x0 y0 : Value} {ty : TypeId} (hg : (RLeaf.box g (.cells #[x0, y0] ty)).holds r a w who) (hb : Below B w0 w) (hB : B ≤ g) : wpOp Tryz.prog ops Q i (RPost ops i r r (.box g (.cells #[.string (mkB q1), .string (mkB q2)] ty)) B w0 a w who) a w := by
  refine rol_store ho hw hd (ex_store hop hx hy (st_ndT hg.1)) hg (row2_set hg.1 _ _) (fun k hk => ?_) (by simp [World.setCell]) ((hb.setCell hB _).setCell hB _)
  rw [Below.heap_setCell _ ⟨g, 1, none⟩ _ k hk, Below.heap_setCell _ ⟨g, 0, none⟩ _ k hk]
end
theorem mkB_all (a : ByteArray) : ∃ l, a = mkB l ∧ l.length = a.size := ⟨a.data.toList, by simp only [mkB, Lib.mk_data], by rw [Lib.size_eq]⟩
theorem str_nil : ((mkB []).toList == []) = true := by rw [Lib.toList_data, mkB_list]; rfl
theorem dec_rows (l : List Rw) : decide (l = l) = true := decide_eq_true rfl
theorem dec_nds (l : List Nd) : decide (l = l) = true := decide_eq_true rfl

/-! ### How many rows there are, and how long -/
structure SzR (k : Nat) (l : List Rw) : Prop where
  len : l.length ≤ k
  vers : ∀ r ∈ l, r.2.length ≤ k
  path : ∀ r ∈ l, r.1.length ≤ 1000000000
  text : ∀ r ∈ l, ∀ x ∈ r.2, x.length ≤ 1000000000
theorem SzR.few (l : List Rw) : SzR 12 (fewR l) := ⟨fewR_len l, fewR_vers, fun r hr => Nat.le_trans (fewR_path r hr) (by decide), fun r hr x hx => Nat.le_trans (fewR_text r hr x hx) (by decide)⟩
theorem SzR.nil : SzR 0 [] := ⟨Nat.le_refl _, fun r hr => (by cases hr), fun r hr => (by cases hr), fun r hr => (by cases hr)⟩
theorem SzR.mono {k k' : Nat} {l : List Rw} (h : SzR k l) (hk : k ≤ k') : SzR k' l := ⟨Nat.le_trans h.len hk, fun r hr => Nat.le_trans (h.vers r hr) hk, h.path, h.text⟩
theorem SzR.versK {k k' : Nat} {l : List Rw} (h : SzR k l) (hk : k ≤ k') : ∀ r ∈ l, r.2.length ≤ k' := fun r hr => Nat.le_trans (h.vers r hr) hk
theorem SzR.nds {k : Nat} {l : List Rw} (h : SzR k l) : ∀ n ∈ rwAll l, smallN n := fun n hn => by
  obtain ⟨r, hr, h1, h2⟩ := rwAll_mem.1 hn
  exact ⟨by rw [← h1]; exact h.path r hr, h.text r hr _ h2⟩
theorem SzR.many {k : Nat} {l : List Rw} (h : SzR k l) : (rwAll l).length ≤ k * k := Nat.le_trans (all_len h.vers) (Nat.mul_le_mul_right _ h.len)
theorem SzR.push {k : Nat} {l : List Rw} {n : Nd} (h : SzR k l) (hn : smallN n) : SzR (k + 1) (pushR l n) := by
  rcases snoc_cases l with rfl | ⟨m, r, rfl⟩
  · rw [push_nil]
    refine ⟨by simp, fun r hr => ?_, fun r hr => ?_, fun r hr x hx => ?_⟩ <;> (rw [List.mem_singleton] at hr; subst hr)
    · simp
    · exact hn.1
    · rw [List.mem_singleton] at hx; subst hx; exact hn.2
  · have hm : ∀ s ∈ m, s ∈ m ++ [r] := fun s hs => List.mem_append.2 (.inl hs)
    have hr0 : r ∈ m ++ [r] := List.mem_append.2 (.inr (List.mem_singleton.2 rfl))
    have hlen := h.len
    rw [List.length_append, List.length_singleton] at hlen
    obtain ⟨p, vs⟩ := r
    obtain ⟨q, v⟩ := n
    by_cases e : p = q
    · subst e
      rw [push_same]
      refine ⟨by rw [List.length_append, List.length_singleton]; omega, fun s hs => ?_, fun s hs => ?_, fun s hs x hx => ?_⟩ <;> rcases List.mem_append.1 hs with k | k
      · have := h.vers s (hm s k); omega
      · rw [List.mem_singleton] at k; subst k; have := h.vers (p, vs) hr0; simp only [List.length_append, List.length_singleton] at this ⊢; omega
      · exact h.path s (hm s k)
      · rw [List.mem_singleton] at k; subst k; exact h.path (p, vs) hr0
      · exact h.text s (hm s k) x hx
      · rw [List.mem_singleton] at k; subst k
        rcases List.mem_append.1 hx with k | k
        · exact h.text (p, vs) hr0 x k
        · rw [List.mem_singleton] at k; subst k; exact hn.2
    · rw [push_new m (p, vs) (q, v) e]
      refine ⟨by rw [List.length_append, List.length_append, List.length_singleton, List.length_singleton]; omega, fun s hs => ?_, fun s hs => ?_, fun s hs x hx => ?_⟩ <;> rcases List.mem_append.1 hs with k | k
      · have := h.vers s k; omega
      · rw [List.mem_singleton] at k; subst k; simp
      · exact h.path s k
      · rw [List.mem_singleton] at k; subst k; exact hn.1
      · exact h.text s k x hx
      · rw [List.mem_singleton] at k; subst k; rw [List.mem_singleton] at hx; subst hx; exact hn.2
theorem SzR.fold : ∀ (s : List Nd) {k : Nat} {l : List Rw}, SzR k l → (∀ n ∈ s, smallN n) → SzR (k + s.length) (s.foldl pushR l)
  | [], _, _, h, _ => h
  | n :: s, k, l, h, hs => by
    have := SzR.fold s (h.push (hs n (List.mem_cons_self ..))) fun x hx => hs x (List.mem_cons_of_mem _ hx)
    rw [List.length_cons, List.foldl_cons]
    exact this.mono (by omega)
theorem SzR.of {s : List Nd} {k : Nat} (hs : ∀ n ∈ s, smallN n) (hl : s.length ≤ k) : SzR k (rwOf s) := (SzR.fold s SzR.nil hs).mono (by omega)
theorem small_with {s : List Nd} {n : Nd} (hs : ∀ x ∈ s, smallN x) (hn : smallN n) : ∀ x ∈ withN s n, smallN x := fun x hx => by
  unfold withN at hx
  rcases List.mem_append.1 hx with k | k
  · exact hs x (List.mem_filter.1 k).1
  · rcases List.mem_cons.1 k with rfl | k
    · exact hn
    · exact hs x (List.mem_filter.1 k).1
theorem small_minus {s m : List Nd} (hs : ∀ x ∈ s, smallN x) : ∀ x ∈ minusN s m, smallN x := fun x hx => hs x ((minusN_mem x).1 hx).1
theorem small_set {s : List Nd} (hs : ∀ x ∈ s, smallN x) : ∀ x ∈ setN s, smallN x := by
  have key : ∀ (s a : List Nd), (∀ x ∈ s, smallN x) → (∀ x ∈ a, smallN x) → ∀ x ∈ s.foldl withN a, smallN x := by
    intro s
    induction s with
    | nil => exact fun a _ h => h
    | cons n s ih => exact fun a h k => ih _ (fun x hx => h x (List.mem_cons_of_mem _ hx)) (small_with k (h n (List.mem_cons_self ..)))
  exact key s [] hs fun x hx => by cases hx
/-! ### Plain facts -/
theorem with_ne {l : List Rw} {n : Nd} (h : okR l = true) (hn : okN n = true) (hm : hasN (rwAll l) n = false) : rwOf (withN (rwAll l) n) ≠ l := fun e => by
  have h1 := congrArg rwAll e
  rw [all_of] at h1
  have h2 : n ∈ withN (rwAll l) n := (withN_mem (all_okN h) hn n).2 (.inr rfl)
  rw [h1] at h2
  exact hasN_not.1 hm h2
end Go.Proofs.YtlbibgofhhdgoaaGreat
