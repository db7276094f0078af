/- Changes in a row of the call's own, each turned about where it lies. -/
import Derived.Test.YtlbibgofhhdgoaaLisR
namespace Go.Proofs.Ytlbibgofhhdgoaa
open Go.RowKit
set_option linter.unusedVariables false
set_option maxRecDepth 100000

def tw (x : Ch) : Ch := (x.1, x.2.2, x.2.1)
def turnK (k : Nat) (l : List Ch) : List Ch := (l.take k).map tw ++ l.drop k
theorem turnK_zero (l : List Ch) : turnK 0 l = l := by simp [turnK]
theorem turnK_all {l : List Ch} {k : Nat} (h : l.length ≤ k) : turnK k l = turnC l := by unfold turnK turnC; rw [List.take_of_length_le h, List.drop_eq_nil_of_le h, List.append_nil]; rfl
theorem turnK_len (l : List Ch) (k : Nat) : (turnK k l).length = l.length := by simp [turnK]; omega
theorem turnC_len (l : List Ch) : (turnC l).length = l.length := List.length_map _
theorem turnK_split {l : List Ch} {k : Nat} (h : k < l.length) : turnK k l = (l.take k).map tw ++ l[k] :: l.drop (k + 1) := by
  unfold turnK; rw [List.drop_eq_getElem_cons h]
theorem turnK_mid {l : List Ch} {k : Nat} (h : k < l.length) : ((l.take k).map tw).length = k := by rw [List.length_map, List.length_take]; omega
theorem turnK_at {l : List Ch} {k : Nat} (h : k < l.length) : (turnK k l).getD k zC = l.getD k zC := by
  rw [turnK_split h, List.getD_eq_getElem?_getD, List.getElem?_append_right (by rw [turnK_mid h]; exact Nat.le_refl _), turnK_mid h, Nat.sub_self, ch_getD h]; rfl
theorem turnK_succ {l : List Ch} {k : Nat} (h : k < l.length) : turnK (k + 1) l = (turnK k l).set k (tw (l.getD k zC)) := by
  rw [turnK_split h, List.set_append_right _ _ (by rw [turnK_mid h]; exact Nat.le_refl _), turnK_mid h, Nat.sub_self, ch_getD h]
  unfold turnK
  rw [List.take_succ_eq_append_getElem h, List.map_append, List.append_assoc]; rfl
theorem chC_set (l : List Ch) : ∀ (k : Nat) (p v u : Tx), k < l.length → (l.getD k zC).1 = p → ((chC l).set (k * 3 + 1) (.string (mkB v))).set (k * 3 + 2) (.string (mkB u)) = chC (l.set k (p, v, u)) := by
  induction l with
  | nil => intro k _ _ _ h; exact absurd h (Nat.not_lt_zero k)
  | cons x l ih =>
    intro k p v u h hp
    have e : chC (x :: l) = .string (mkB x.1) :: .string (mkB x.2.1) :: .string (mkB x.2.2) :: chC l := rfl
    cases k with
    | zero =>
      have h2 : x.1 = p := hp
      subst h2
      rfl
    | succ k =>
      rw [e, show (k + 1) * 3 + 1 = k * 3 + 1 + 1 + 1 + 1 by omega, show (k + 1) * 3 + 2 = k * 3 + 2 + 1 + 1 + 1 by omega]
      simp only [List.set_cons_succ]
      rw [ih k p v u (by simpa using h) (by simpa using hp)]
      rfl
theorem own_turn {w : World} {base : Nat} {e : TypeId} {A : Option Addr} {n c k : Nat} {l : List Ch} (h : w.ownsRow base e 3 (.slice A n c) n (chC l)) (hl : l.length = n) (hk : k < n) :
    ∃ g cur, A = some ⟨g, 0, none⟩ ∧ base ≤ g ∧ w.heap[g]? = some (.cells cur e (0, 0)) ∧ cur[k * 3 + 1]? = some (.string (mkB (l.getD k zC).2.1)) ∧ cur[k * 3 + 2]? = some (.string (mkB (l.getD k zC).2.2)) ∧
      ∀ w' : World, w'.heap[g]? = some (.cells ((cur.setIfInBounds (k * 3 + 1) (.string (mkB (l.getD k zC).2.2))).setIfInBounds (k * 3 + 2) (.string (mkB (l.getD k zC).2.1))) e (0, 0)) → w'.ownsRow base e 3 (.slice A n c) n (chC (l.set k (tw (l.getD k zC)))) := by
  obtain ⟨h1, ⟨hv, hn⟩ | ⟨g, cap, cur, hv, hg, hh, r1, r2, r3, r4⟩⟩ := h
  · omega
  · injection hv with e1 e2 e3
    subst e1 e3
    obtain ⟨-, d1, d2⟩ := chC_at l k (by omega)
    have hat : ∀ j, j < n * 3 → cur[j]? = (chC l)[j]? := fun j hj => by
      rw [← r4, List.getElem?_take, if_pos hj, Array.getElem?_toList]
    refine ⟨g, cur, rfl, hg, hh, by rw [hat _ (by omega)]; exact d1, by rw [hat _ (by omega)]; exact d2, fun w' h' => ⟨?_, .inr ⟨g, c, _, rfl, hg, h', r1, r2, by rw [Array.size_setIfInBounds, Array.size_setIfInBounds]; exact r3, ?_⟩⟩⟩
    · rw [chC_len, List.length_set, hl]
    · rw [Array.toList_setIfInBounds, Array.toList_setIfInBounds, List.take_set, List.take_set, r4]
      exact chC_set l k _ _ _ (by omega) rfl
theorem own_chs {w : World} {base n : Nat} {e : TypeId} {v : Value} {l : List Ch} (h : w.ownsRow base e 3 v n (chC l)) (hl : l.length = n) : Chs w v l := by subst hl; exact Chs.owned h
theorem own_slice {w : World} {base n : Nat} {e : TypeId} {v : Value} {l : List Ch} (h : w.ownsRow base e 3 v n (chC l)) (hl : l.length = n) : ∃ a c, v = .slice a n c ∧ True := by
  subst hl
  obtain ⟨a, c, hv, -⟩ := chsO h
  exact ⟨a, c, hv, trivial⟩
theorem turnC_small {c : List Ch} (h : ∀ x ∈ c, smallC x) : ∀ x ∈ turnC c, smallC x := fun x hx => by
  obtain ⟨y, hy, rfl⟩ := List.mem_map.1 hx
  obtain ⟨h1, h2, h3⟩ := h y hy
  exact ⟨h1, h3, h2⟩
theorem smallC_fit {x : Ch} (h : smallC x) : fitC x := ⟨Nat.le_trans h.1 (by unfold maxLen; decide), Nat.le_trans h.2.1 (by unfold maxLen; decide), Nat.le_trans h.2.2 (by unfold maxLen; decide)⟩

/-! ### A text is put into a cell of a row -/
theorem cell_blk {w : World} {g j : Nat} {cur : Array Value} {t : TypeId} {v : Value} (h : w.heap[g]? = some (.cells cur t (0, 0))) (hc : cur[j]? = some v) : w.cell? ⟨g, j, none⟩ = some v := by simp [World.cell?, h, hc]
theorem free_blk {w : World} {g j : Nat} {cur : Array Value} {t : TypeId} (h : w.heap[g]? = some (.cells cur t (0, 0))) : w.frozen? ⟨g, j, none⟩ = false := by simp [World.frozen?, h]
theorem blk_set {w : World} {g j : Nat} {cur : Array Value} {t : TypeId} {u : Value} (h : w.heap[g]? = some (.cells cur t (0, 0))) : (w.setCell ⟨g, j, none⟩ u).heap[g]? = some (.cells (cur.setIfInBounds j u) t (0, 0)) := by
  simp [World.setCell, Array.getElem?_modify, h]
theorem st_strS {w : World} {g j : Nat} {u : Value} {q : Tx} (h : w.cell? ⟨g, j, none⟩ = some u) (hf : w.frozen? ⟨g, j, none⟩ = false) : Sem.run Try.prog (Instr.storeAt 9 (.pointer (some ⟨g, j, none⟩)) (.string (mkB q))) w = .ok () (w.setCell ⟨g, j, none⟩ (.string (mkB q))) := by
  go_simp
theorem idx_ch0 {w : World} {b n c k : Nat} (h : k < n) : (Instr.indexAt 27 (.slice (some ⟨b, 0, none⟩) n c) (.int .i64 (k : Int))).run Try.prog w = .ok (.pointer (some ⟨b, k * 3, none⟩)) w := by
  have := idx_ch (w := w) (b := b) (off := 0) (c := c) h
  rwa [Nat.zero_add] at this
section
variable {ops : Array Oper} {Q : Exit → Act → World → Prop} {a : Act} {w w0 : World} {who : Nat → Nat} {i B r ro : Nat} {o : Oper}
theorem rol_cellS (ho : ops[i]? = some o) (hw : Region.wanted o (yielded ops a.tmps) = true) (hd : o.dst = none) {x y : Operand} {g j : Nat} (hop : o.op = .store 9 x y) (hx : a.eval x = .pointer (some ⟨g, j, none⟩)) {q : Tx} (hy : a.eval y = .string (mkB q))
    {cur : Array Value} {ty : TypeId} (hg : (RLeaf.box g (.cells cur ty (0, 0))).holds r a w who) (hj : j < cur.size) (hb : Below B w0 w) (hB : B ≤ g) : wpOp Try.prog ops Q i (RPost ops i r r (.box g (.cells (cur.setIfInBounds j (.string (mkB q))) ty (0, 0))) B w0 a w who) a w :=
  rol_store ho hw hd (ex_store hop hx hy (st_strS (cell_blk hg.1 (Array.getElem?_eq_getElem hj)) (free_blk hg.1))) hg (blk_set hg.1) (fun k hk => Below.heap_setCell _ ⟨g, j, none⟩ _ k hk) (by simp [World.setCell]) (hb.setCell hB _)
end
end Go.Proofs.Ytlbibgofhhdgoaa
