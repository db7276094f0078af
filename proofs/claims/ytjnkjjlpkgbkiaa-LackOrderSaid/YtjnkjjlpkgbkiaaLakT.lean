/- What the law of needs in another order leans on: needs turned about, each twice; the root's need more; lacks and an error, in regions by roles. -/
import Derived.Test.YtjnkjjlpkgbkiaaLakN
namespace Go.Proofs.Ytjnkjjlpkgbkiaa
open Go.RowKit
set_option linter.unusedVariables false
set_option maxRecDepth 100000

/-! ### Plain -/
def dupK (l : List Ne) : List Ne := l.reverse.flatMap fun x => [x, x]
theorem dupK_step {l : List Ne} {j : Nat} (h : j < l.length) : dupK (l.drop j) = dupK (l.drop (j + 1)) ++ [l.getD j zNe, l.getD j zNe] := by
  unfold dupK
  rw [List.drop_eq_getElem_cons h, List.reverse_cons, List.flatMap_append, ne_getD h]; simp
theorem dupK_end (l : List Ne) : dupK (l.drop l.length) = [] := by rw [List.drop_length]; rfl
theorem dupK_mem (l : List Ne) (x : Ne) : x ∈ dupK l ↔ x ∈ l := by
  unfold dupK
  rw [List.mem_flatMap]
  constructor
  · rintro ⟨y, hy, hx⟩
    simp only [List.mem_cons, List.not_mem_nil, or_false, or_self] at hx
    rw [hx]; exact List.mem_reverse.1 hy
  · intro h
    exact ⟨x, List.mem_reverse.2 h, by simp⟩
theorem dupK_len (l : List Ne) : (dupK l).length = l.length * 2 := by
  unfold dupK
  induction l with
  | nil => rfl
  | cons x l ih => rw [List.reverse_cons, List.flatMap_append, List.length_append, ih, List.length_cons]; simp; omega
theorem dupK_may (l : List Ne) : mayK (dupK l) = mayK l := by
  rw [Bool.eq_iff_iff]
  exact ⟨fun h => mayK_sub h fun d hd => (dupK_mem l d).2 hd, fun h => mayK_sub h fun d hd => (dupK_mem l d).1 hd⟩
theorem dupK_lack (a b : List Nd) (l : List Ne) : lackKE a b (dupK l) = lackKE a b l := by
  unfold lackKE
  rw [dupK_may]
  by_cases h : ((checkN a && checkN b) && mayK l) = true
  · rw [if_pos h, if_pos h]
    rw [Bool.and_eq_true] at h
    rw [lackK_same h.2 (dupK_mem l)]
  · rw [if_neg h, if_neg h]
/-- The root's need of n more. -/
theorem byK_root {l : List Ne} (n x : Nd) : byK (l ++ [(([], []), n)]) x = if n = x then ((byK l x).1, true) else byK l x := by
  unfold byK
  rw [List.filter_append, List.filter_cons, List.filter_nil]
  by_cases h : n = x
  · have ht : toK x (([], []), n) = true := toK_iff.2 h
    rw [if_pos h, if_pos ht, whK_snoc]
    rfl
  · have ht : toK x ((([], []), n) : Ne) = false := by
      cases e : toK x ((([], []), n) : Ne)
      · rfl
      · exact absurd (toK_iff.1 e) h
    rw [if_neg h, if_neg (by rw [ht]; exact Bool.false_ne_true), List.append_nil]
theorem liveK_root (live : List Nd) (l : List Ne) (n : Nd) : liveK live (l ++ [(([], []), n)]) = liveK live l ++ [(([], []), n)] := by
  unfold liveK
  rw [List.filter_append, List.filter_cons]
  have h : rootK ((([], []), n) : Ne) = true := rfl
  rw [h, Bool.or_true]; rfl
theorem lackK_root {live : List Nd} {l : List Ne} {n : Nd} {M : List Nd} (h : (n :: M).Nodup) : lackK live (n :: M) (l ++ [(([], []), n)]) = (n, ((byK (liveK live l) n).1, true)) :: lackK live M l := by
  unfold lackK
  rw [List.map_cons, liveK_root, byK_root, if_pos rfl]
  congr 1
  refine List.map_congr_left fun x hx => ?_
  rw [byK_root, if_neg (fun e => (List.nodup_cons.1 h).1 (by rw [e]; exact hx))]
theorem lackK_cons (live : List Nd) (l : List Ne) (n : Nd) (M : List Nd) : lackK live (n :: M) l = (n, byK (liveK live l) n) :: lackK live M l := rfl

/-! ### In memory -/
theorem idx0_lk {w : World} {b off n c : Nat} (h : 0 < n) : (Instr.indexAt 26 (.slice (some ⟨b, off, none⟩) n c) (.int .i64 0)).run Try.prog w = .ok (.pointer (some ⟨b, off, none⟩)) w := by
  have h3 : (0 : Int) < (n : Int) := by omega
  go_simp
theorem fld0_lk {w : World} {b off : Nat} : Sem.run Try.prog (Instr.fieldAt 37 (.pointer (some ⟨b, off, none⟩)) 0) w = .ok (.pointer (some ⟨b, off, none⟩)) w := by go_simp
theorem fld1_lk {w : World} {b off : Nat} : Sem.run Try.prog (Instr.fieldAt 37 (.pointer (some ⟨b, off, none⟩)) 1) w = .ok (.pointer (some ⟨b, off + 2, none⟩)) w := by go_simp
theorem fld2_lk {w : World} {b off : Nat} : Sem.run Try.prog (Instr.fieldAt 37 (.pointer (some ⟨b, off, none⟩)) 2) w = .ok (.pointer (some ⟨b, off + 3, none⟩)) w := by go_simp
theorem Lks.tail {w : World} {A : Option Addr} {n c : Nat} {x : Lk} {l : List Lk} (h : Lks w (.slice A n c) (x :: l)) : ∃ A' m d, (∀ w, (Instr.sliceAt 26 (.slice A n c) (some (.int .i64 1)) none none).run Try.prog w = .ok (.slice A' m d) w) ∧ ∀ w', Lks w' (.slice A n c) (x :: l) → Lks w' (.slice A' m d) l := by
  obtain ⟨h1, h2, h3⟩ := h.lenL
  rw [List.length_cons] at h1
  obtain ⟨A', e, hA⟩ := h.back (i := 1) (by omega)
  refine ⟨A', n - 1, c - 1, fun w => ?_, fun w' h' => hA w' h'⟩
  have hr := lk_back w A n c 1 (by omega) h2
  rw [e] at hr
  exact hr
/-- Lacks in a slot: their blocks among bs. -/
def lkG (N : Nat) (rs : List Lk) : World → Value → (Nat → Prop) → Prop := fun w v bs => ∃ ys, w.ownsRow N 37 4 v rs.length (lkC rs ys) ∧ LkI w N ys rs ∧ (∀ b, v.ownBlock = some b → bs b) ∧ ∀ j, j < rs.length → ∀ b, (ys.getD j undef).ownBlock = some b → bs b
theorem lkG_near {N : Nat} {rs : List Lk} : ∀ (w w' : World) (v : Value) (bs : Nat → Prop), (∀ b, bs b → w'.heap[b]? = w.heap[b]?) → lkG N rs w v bs → lkG N rs w' v bs := by
  rintro w w' v bs hb ⟨ys, h1, h2, h3, h4⟩
  exact ⟨ys, row_heap h1 fun b e => hb b (h3 b e), ⟨h2.1, fun j hj => row_heap (h2.2 j hj) fun b e => hb b (h4 j hj b e)⟩, h3, h4⟩
theorem lkG.own {N : Nat} {rs : List Lk} {w : World} {v : Value} {bs : Nat → Prop} (h : lkG N rs w v bs) : LkO w N v rs := by
  obtain ⟨ys, h1, h2, _⟩ := h
  exact ⟨ys, h1, h2⟩
def tupLk (N : Nat) (rs : List Lk) (k : Int) : World → Value → (Nat → Prop) → Prop := fun w v bs => ∃ u, v = .tuple #[u, .int .i64 k] ∧ lkG N rs w u bs
theorem tupLk_near {N : Nat} {rs : List Lk} {k : Int} : ∀ (w w' : World) (v : Value) (bs : Nat → Prop), (∀ b, bs b → w'.heap[b]? = w.heap[b]?) → tupLk N rs k w v bs → tupLk N rs k w' v bs := by
  rintro w w' v bs hb ⟨u, rfl, h⟩
  exact ⟨u, rfl, lkG_near w w' u bs hb h⟩
theorem LkO.toT {w : World} {N N' : Nat} {v : Value} {rs : List Lk} {k : Int} (h : LkO w N v rs) (hn : N' ≤ N) : ∃ bs : Nat → Prop, (∀ b, bs b → N ≤ b ∧ b < w.heap.size) ∧ tupLk N' rs k w (.tuple #[v, .int .i64 k]) bs := by
  obtain ⟨ys, h1, h2⟩ := h
  refine ⟨fun b => v.ownBlock = some b ∨ ∃ j, j < rs.length ∧ (ys.getD j undef).ownBlock = some b, fun b e => ?_, v, rfl, ys, row_base h1 hn, ⟨h2.1, fun j hj => row_base (h2.2 j hj) hn⟩, fun b e => .inl e, fun j hj b e => .inr ⟨j, hj, e⟩⟩
  rcases e with e | ⟨j, hj, e⟩
  · exact h1.lt b e
  · exact (h2.2 j hj).lt b e
end Go.Proofs.Ytjnkjjlpkgbkiaa
