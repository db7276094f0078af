/- Slices of slices of nodes, in memory; rows of them of the call's own; rows of nodes that grow. -/
import Derived.Test.YtdefphacdcbljaaGreatWhyA
import Derived.Test.YtdefphacdcbljaaGreatLakA
import Derived.Laws.AppendOwn
namespace Go.Proofs.YtdefphacdcbljaaGreat
open Go.RowKit Go.ChangeShapes Go.WideShapes
set_option linter.unusedVariables false
set_option maxRecDepth 100000

/-- A slice of slices of nodes, in memory: nil, empty, or cells that hold them. -/
structure NdL (w : World) (v : Value) (ls : List (List Nd)) : Prop where
  ex : ∃ a c, v = .slice a ls.length c ∧ ls.length ≤ c ∧ c ≤ maxLen ∧ (0 < ls.length → ∃ b off, a = some ⟨b, off, none⟩ ∧ ∀ j, j < ls.length → ∃ a' n' c', w.cell? ⟨b, off + j, none⟩ = some (.slice a' n' c') ∧ Nds w (.slice a' n' c') (ls.getD j []))
theorem NdL.below {w w' : World} {v : Value} {ls : List (List Nd)} (h : NdL w v ls) (hb : Below w.heap.size w w') : NdL w' v ls := by
  obtain ⟨a, c, hv, h1, h2, h3⟩ := h.ex
  refine ⟨a, c, hv, h1, h2, fun hp => ?_⟩
  obtain ⟨b, off, ha, hc⟩ := h3 hp
  refine ⟨b, off, ha, fun j hj => ?_⟩
  obtain ⟨a', n', c', h4, h5⟩ := hc j hj
  exact ⟨a', n', c', cell_keep h4 hb, h5.below hb⟩
theorem NdL.at {w : World} {a : Option Addr} {n c : Nat} {ls : List (List Nd)} (h : NdL w (.slice a n c) ls) (j : Nat) (hj : j < ls.length) : ∃ b off a' n' c', a = some ⟨b, off, none⟩ ∧ w.cell? ⟨b, off + j, none⟩ = some (.slice a' n' c') ∧ Nds w (.slice a' n' c') (ls.getD j []) := by
  obtain ⟨a0, c0, hv, _, _, h3⟩ := h.ex
  injection hv with e1 e2 e3
  subst e1
  obtain ⟨b, off, ha, hc⟩ := h3 (by omega)
  obtain ⟨a', n', c', h4, h5⟩ := hc j hj
  exact ⟨b, off, a', n', c', ha, h4, h5⟩
theorem NdL.lenU {w : World} {a : Option Addr} {n c : Nat} {ls : List (List Nd)} (h : NdL w (.slice a n c) ls) : ls.length = n ∧ n ≤ c ∧ c ≤ maxLen := by
  obtain ⟨_, _, hv, h1, h2, _⟩ := h.ex
  injection hv with e1 e2 e3
  subst e2 e3; exact ⟨rfl, h1, h2⟩
theorem ndl_none (w : World) : NdL w (.slice none 0 0) [] := ⟨none, 0, rfl, Nat.le_refl _, by unfold maxLen; omega, fun h => absurd h (by simp)⟩

theorem idx_ndl {w : World} {b off n c k : Nat} (h : k < n) : (Instr.indexAt 39 (.slice (some ⟨b, off, none⟩) n c) (.int .i64 (k : Int))).run Tryz.prog w = .ok (.pointer (some ⟨b, off + k, none⟩)) w := by
  have h1 : (0 : Int) ≤ (k : Int) := by omega
  have h3 : (k : Int) < (n : Int) := by omega
  go_simp
theorem ld_ndsU {w : World} {g i n c : Nat} {a : Option Addr} (h : w.cell? ⟨g, i, none⟩ = some (.slice a n c)) : Sem.run Tryz.prog (Instr.loadAt 31 (.pointer (some ⟨g, i, none⟩))) w = .ok (.slice a n c) w := by
  go_simp
theorem Tryz.info_nl : (Tryz.prog.info? 31).map (fun i => (i.zero, i.size, i.bytes)) = some (some (.slice none 0 0), 1, 24) := by kernel_rfl
/-- Slices of nodes, each a row of its own. -/
def RowsN (w : World) (xs : List Value) (L : List (List Nd)) : Prop := xs.length = L.length ∧ ∀ j, j < L.length → ∃ x N, xs[j]? = some x ∧ w.ownsRow N 24 2 x (L.getD j []).length (ndsC (L.getD j []))
theorem RowsN.below {w w' : World} {xs : List Value} {L : List (List Nd)} (h : RowsN w xs L) (hb : Below w.heap.size w w') : RowsN w' xs L :=
  ⟨h.1, fun j hj => by obtain ⟨x, N, h1, h2⟩ := h.2 j hj; exact ⟨x, N, h1, ownsRow_belowB h2 hb⟩⟩
theorem RowsN.grown {w w' : World} {xs : List Value} {L : List (List Nd)} {V : Value} {N n : Nat} {ys : List Value} (h : RowsN w xs L) (hV : w.ownsRow N 31 1 V n ys) (hg : w.grownBy w' V.ownBlock) : RowsN w' xs L :=
  ⟨h.1, fun j hj => by
    obtain ⟨x, M, h1, h2⟩ := h.2 j hj
    refine ⟨x, M, h1, row_heap h2 fun b e => hg.block b (own_lt h2 e).2 fun q => ?_⟩
    exact own_apart hV h2 (by decide) b q.symm e⟩
theorem RowsN.snoc {w : World} {xs : List Value} {L : List (List Nd)} (h : RowsN w xs L) {x : Value} {l : List Nd} {N : Nat} (hx : w.ownsRow N 24 2 x l.length (ndsC l)) : RowsN w (xs ++ [x]) (L ++ [l]) := by
  refine ⟨by rw [List.length_append, List.length_append, h.1]; rfl, fun j hj => ?_⟩
  by_cases hlt : j < L.length
  · obtain ⟨y, M, h1, h2⟩ := h.2 j hlt
    refine ⟨y, M, by rw [List.getElem?_append_left (by rw [h.1]; exact hlt)]; exact h1, ?_⟩
    have e : (L ++ [l]).getD j [] = L.getD j [] := by simp [List.getD_eq_getElem?_getD, List.getElem?_append_left hlt]
    rw [e]; exact h2
  · have hj2 : j = L.length := by rw [List.length_append, List.length_singleton] at hj; omega
    subst hj2
    refine ⟨x, N, by rw [← h.1]; simp, ?_⟩
    have e : (L ++ [l]).getD L.length [] = l := by simp [List.getD_eq_getElem?_getD]
    rw [e]; exact hx
theorem RowsN.ndl {w : World} {xs : List Value} {L : List (List Nd)} (h : RowsN w xs L) {N n : Nat} {V : Value} (hV : w.ownsRow N 31 1 V n xs) (hn : n = L.length) : NdL w V L := by
  subst hn
  rcases Joins.ownsRow_forms hV with ⟨rfl, h0⟩ | ⟨g, cap, rfl⟩
  · have : L = [] := List.eq_nil_of_length_eq_zero h0
    subst this
    exact ndl_none w
  · have hcap : L.length ≤ cap ∧ cap ≤ maxLen := by
      obtain ⟨_, h | ⟨g', cap', cur, hv, _, _, h1, h2, _⟩⟩ := hV
      · cases h.1
      · injection hv with _ _ hc; subst hc; exact ⟨h1, h2⟩
    refine ⟨some ⟨g, 0, none⟩, cap, rfl, hcap.1, hcap.2, fun _ => ⟨g, 0, rfl, fun j hj => ?_⟩⟩
    obtain ⟨x, M, h1, h2⟩ := h.2 j hj
    obtain ⟨a, c, rfl, hnd⟩ := ndsO h2
    refine ⟨a, _, c, ?_, hnd⟩
    rw [Nat.zero_add, hV.cellAt j (by omega)]
    exact h1
section
variable {wr : World} {ops : Array Oper} {rest : List Oper} {o : Oper} {a : Act} {Q : Exit → Act → World → Prop}
/-- 'l = append(l, x)', l the call's own: x has just been laid in a block of its own. -/
theorem wpList_push_nl (hgd : o.guard = none) (s x : Operand) (ho : o.op = .call { callee := .builtin .append, args := #[s, x], argTypes := #[39, 39] })
    (base : Nat) (V : Value) (xs : List Value) (n : Nat) (hs : a.eval s = V) (hown : wr.ownsRow base 31 1 V n xs) (A : Option Addr) (m c : Nat) (N : Nat) (hN : wr.heap.size = N) (hx : a.eval x = .slice (some ⟨N, 0, none⟩) 1 1) (hlen : n ≤ 1000000) (hbase : base ≤ wr.heap.size)
    (h : ∀ a' c' w', w'.ownsRow base 31 1 (.slice a' (n + 1) c') (n + 1) (xs ++ [.slice A m c]) → wr.grownBy w' V.ownBlock → wpList Tryz.prog ops Q rest (a.put o.dst (.slice a' (n + 1) c')) w') :
    wpList Tryz.prog ops Q (o :: rest) a (wr.alloc (.cells #[.slice A m c] 31)) := by
  subst hN
  refine wpList_plain hgd fun K' hK' => ?_
  obtain ⟨i, hi, hz, hsize, hby⟩ := info_parts Tryz.info_nl
  obtain ⟨v', w', hr, h2, h3, _, h5⟩ := run_append_own_at (P := Tryz.prog) (wr.alloc (.cells #[.slice A m c] 31)) base 39 o.type 31 i (.slice none 0 0) 1 24 Tryz.underlying39 hi hz hsize hby rfl (by decide) V n _ (hown.alloc _) ⟨wr.heap.size, 0, none⟩ 1 1 [.slice A m c] rfl (by
    intro j u hj
    have hj0 : j = 0 := by
      have := (List.getElem?_eq_some_iff.1 hj).1
      simp at this; omega
    subst hj0
    simp at hj
    subst hj
    have h9 := heap_alloc_new wr (.cells #[.slice A m c] 31)
    have h8 : (wr.alloc (.cells #[.slice A m c] 31)).cell? ⟨wr.heap.size, 0, none⟩ = some (.slice A m c) := by unfold World.cell?; rw [h9]; rfl
    exact h8) (fun u hu => by rw [List.mem_singleton.1 hu]; rfl) (by unfold maxLen; omega) (by omega) (by simp; omega)
  have hv : ∃ a' c', v' = .slice a' (n + 1) c' := by
    rcases Joins.ownsRow_forms h2 with ⟨rfl, h0⟩ | ⟨g, cap, rfl⟩
    · omega
    · exact ⟨_, _, rfl⟩
  obtain ⟨a', c', rfl⟩ := hv
  have hk := h a' c' w' h2 ((World.grownBy_alloc wr _ _).trans h3)
  unfold Oper.wp
  simp [execOp, ho, resolve, invoke, builtin, hs, hx, hr, Result.andThen]
  exact hK' _ _ hk
end
theorem blk_ndsW {w : World} {b : Nat} {p v : List UInt8} (hh : w.heap[b]? = some (.cells #[.string (mkB p), .string (mkB v)] 24 (0, 0))) : Nds w (.slice (some ⟨b, 0, none⟩) 1 1) [(p, v)] := by
  obtain ⟨c0, c1, _, _⟩ := row2 hh
  exact ⟨some ⟨b, 0, none⟩, 1, rfl, Nat.le_refl _, by unfold maxLen; omega, (fun h => by cases h), fun _ => ⟨b, 0, rfl, (Array.getElem?_eq_some_iff.1 hh).1, fun j hj => by
    have hj2 : j = 0 := by simp at hj; omega
    subst hj2
    exact ⟨c0, c1⟩⟩⟩
theorem run_app_ndW {w : World} {base n : Nat} {v : Value} {K : List (Nd)} (hown : w.ownsRow base 24 2 v n (ndsC K)) {a0 : Option Addr} {m c : Nat} {L : List (Nd)} (hN : Nds w (.slice a0 m c) L) (hlen : n + m ≤ 2000000) (hbase : base ≤ w.heap.size) (t : TypeId) :
    ∃ v' w', (Builtin.append_ #[31, 31] t #[v, .slice a0 m c]).run Tryz.prog w = .ok v' w' ∧ w'.ownsRow base 24 2 v' (n + m) (ndsC (K ++ L)) ∧ w.grownBy w' v.ownBlock ∧ (v'.ownBlock = v.ownBlock ∨ v'.ownBlock = some w.heap.size ∧ w.heap.size < w'.heap.size) := by
  obtain ⟨i, hi, hz, hsize, hby⟩ := info_parts Tryz.info_node
  have hm : m = L.length := hN.lenE.1.symm
  cases a0 with
  | none =>
    obtain ⟨rfl, rfl⟩ := hN.nil rfl
    have hL : L = [] := List.eq_nil_of_length_eq_zero hm.symm
    subst hL
    have hr := run_append_owned_none (P := Tryz.prog) (w := w) base 31 t 24 i 2 Tryz.underlying31 hi v n _ hown
    exact ⟨v, w, hr, by simpa using hown, ⟨rfl, rfl, rfl, Nat.le_refl _, fun _ _ _ => rfl⟩, .inl rfl⟩
  | some ad =>
    obtain ⟨v', w', hr, h2, h3, _, h5⟩ := run_append_own_at (P := Tryz.prog) w base 31 t 24 i (.agg #[.string ByteArray.empty, .string ByteArray.empty]) 2 32 Tryz.underlying31 hi hz hsize hby rfl (by decide) v n _ hown ad m c (ndsC L) (by rw [ndsC_len, hm]) (hN.src ad rfl) (fun u hu => List.all_eq_true.1 (ndsC_one L) u hu) (by unfold maxLen; omega) (by omega) hbase
    rw [← ndsC_app] at h2
    refine ⟨v', w', hr, h2, h3, h5.imp id fun e => ⟨e, ?_⟩⟩
    exact (h2.lt _ e).2
section
variable {ops : Array Oper} {Q : Exit → Act → World → Prop} {a : Act} {w w0 : World} {who : Nat → Nat} {i B r ro : Nat} {o : Oper}
/-- 'append(row, l...)', the row one that a box's field holds. -/
theorem rol_app_ndW (ho : ops[i]? = some o) (hw : Region.wanted o (yielded ops a.tmps) = true) {s : Nat} (hd : o.dst = some s) (hs : s < a.tmps.size) {y x : Operand} (hop : o.op = .call { callee := .builtin .append, args := #[y, x], argTypes := #[31, 31] })
    {N n t : Nat} {K : List (Nd)} {X : Value} (h : (RLeaf.mem t (rowX X N 24 2 n (ndsC K))).holds r a w who) (hy : a.eval y = X) {a0 : Option Addr} {m c : Nat} (hx : a.eval x = .slice a0 m c) {L : List (Nd)} (hN : Nds w (.slice a0 m c) L) (hlen : n + m ≤ 2000000) (hb : Below B w0 w) (hB : B ≤ N) (hNw : N ≤ w.heap.size) {n' : Nat} {K' : List (Nd)} (hn : n' = n + m) (hK : K' = K ++ L) :
    wpOp Tryz.prog ops Q i (RPost ops i r r (.mem s (rowG N 24 2 n' (ndsC K'))) B w0 a w who) a w := by
  subst hn hK
  obtain ⟨v, ob, hv, hob, hrow, rfl⟩ := h
  obtain ⟨v', w', hr, h2, h3, h5⟩ := run_app_ndW hrow hN hlen hNw o.type
  exact rol_grow ho hw hd hs (ex_append hop hy hx hr) h3 hob h5 ⟨h2, rfl⟩ hb (Nat.le_trans hB hNw) (fun b e => Nat.le_trans hB (own_lt hrow e).1)
end
section
variable {wr : World} {ops : Array Oper} {rest : List Oper} {o : Oper} {a : Act} {Q : Exit → Act → World → Prop}
/-- 'l = append(l, x)', l the call's own: x has just been laid in a block of its own. -/
theorem wpList_push_ndW (hgd : o.guard = none) (s x : Operand) (ho : o.op = .call { callee := .builtin .append, args := #[s, x], argTypes := #[31, 31] })
    (base : Nat) (V : Value) (K : List (Nd)) (n : Nat) (hn : K.length = n) (hs : a.eval s = V) (hown : wr.ownsRow base 24 2 V n (ndsC K)) (p v : List UInt8) (N : Nat) (hN : wr.heap.size = N) (hx : a.eval x = .slice (some ⟨N, 0, none⟩) 1 1) (hlen : n ≤ 1000000) (hbase : base ≤ wr.heap.size)
    (h : ∀ a' c' w', w'.ownsRow base 24 2 (.slice a' (n + 1) c') (n + 1) (ndsC (K ++ [(p, v)])) → wr.grownBy w' V.ownBlock → (∀ b, a'.map (·.block) = some b → V.ownBlock = some b ∨ wr.heap.size ≤ b) → wpList Tryz.prog ops Q rest (a.put o.dst (.slice a' (n + 1) c')) w') :
    wpList Tryz.prog ops Q (o :: rest) a (wr.alloc (.cells #[.string (mkB p), .string (mkB v)] 24)) := by
  subst hN
  refine wpList_plain hgd fun K' hK' => ?_
  obtain ⟨v', w', hr, h2, h3, h5⟩ := run_app_ndW (hown.alloc (.cells #[.string (mkB p), .string (mkB v)] 24)) (blk_ndsW (heap_alloc_new wr (.cells #[.string (mkB p), .string (mkB v)] 24))) (m := 1) (c := 1) (by omega) (by simp; omega) o.type
  have ho2 : w'.ownsRow base 24 2 v' (K ++ [(p, v)]).length (ndsC (K ++ [(p, v)])) := by rw [List.length_append, hn]; exact h2
  obtain ⟨a', c', hv, _⟩ := ndsO ho2
  rw [List.length_append, hn, List.length_singleton] at hv
  subst hv
  have hk := h a' c' w' h2 ((World.grownBy_alloc wr _ _).trans h3) (fun b e => by
    have e2 : Value.ownBlock (.slice a' (n + 1) c') = some b := by cases a' with
      | none => simp at e
      | some q => simpa [Value.ownBlock] using e
    rcases h5 with h5 | ⟨h5, -⟩
    · exact .inl (by rw [← h5]; exact e2)
    · rw [h5] at e2
      have e3 := Option.some.inj e2
      simp at e3
      exact .inr (by omega))
  unfold Oper.wp
  simp [execOp, ho, resolve, invoke, builtin, hs, hx, hr, Result.andThen]
  exact hK' _ _ hk
end


/-! ### Levels, beside a row of nodes that grows -/
def apartW (x m : Value) : Prop := ∀ b, x.ownBlock = some b → m.ownBlock ≠ some b
theorem apartW_old {w : World} {N n K m : Nat} {x M : Value} {e e' : TypeId} {s s' : Nat} {xs ms : List Value} (h : w.ownsRow N e s x n xs) (hm : w.ownsRow K e' s' M m ms) (hN : N ≤ K) (hk : ∀ b, M.ownBlock = some b → b < N ) : apartW x M := fun b hb e => by
  have h1 := (own_lt h hb).1
  have h2 := hk b e
  omega
/-- Levels, a row of the call's own, each one a row of its own, none of them in M's block. -/
def LvW (w : World) (N : Nat) (V M : Value) (L : List (List Nd)) : Prop := ∃ xs, w.ownsRow N 31 1 V L.length xs ∧ RowsN w xs L ∧ ∀ x ∈ xs, apartW x M
theorem LvW.nil (w : World) (N : Nat) (M : Value) : LvW w N (.slice none 0 0) M [] := ⟨[], World.ownsRow_nil _ _ _ _, ⟨rfl, fun j hj => absurd hj (by simp)⟩, fun x hx => by cases hx⟩
theorem LvW.below {w w' : World} {N : Nat} {V M : Value} {L : List (List Nd)} (h : LvW w N V M L) (hb : Below w.heap.size w w') : LvW w' N V M L := by
  obtain ⟨xs, h1, h2, h3⟩ := h
  exact ⟨xs, ownsRow_belowB h1 hb, h2.below hb, h3⟩
theorem LvW.ndl {w : World} {N : Nat} {V M : Value} {L : List (List Nd)} (h : LvW w N V M L) : NdL w V L := by
  obtain ⟨xs, h1, h2, _⟩ := h
  exact h2.ndl h1 rfl
theorem RowsN.mem {w : World} {xs : List Value} {L : List (List Nd)} (h : RowsN w xs L) {x : Value} (hx : x ∈ xs) : ∃ N n ys, w.ownsRow N 24 2 x n ys := by
  obtain ⟨j, hj, rfl⟩ := List.mem_iff_getElem.1 hx
  obtain ⟨x, M, h1, h2⟩ := h.2 j (by rw [← h.1]; exact hj)
  rw [List.getElem?_eq_getElem hj] at h1
  have e := Option.some.inj h1
  rw [e]
  exact ⟨_, _, _, h2⟩
/-- The row beside it has grown. -/
theorem LvW.met {w w' : World} {N n K : Nat} {V M M' : Value} {L : List (List Nd)} {ms : List Value} (h : LvW w N V M L) (hM : w.ownsRow K 24 2 M n ms) (hg : w.grownBy w' M.ownBlock) (hn : ∀ b, M'.ownBlock = some b → M.ownBlock = some b ∨ w.heap.size ≤ b) : LvW w' N V M' L := by
  obtain ⟨xs, h1, h2, h3⟩ := h
  refine ⟨xs, row_heap h1 fun b e => hg.block b (own_lt h1 e).2 fun q => own_apart h1 hM (by decide) b e q.symm, ⟨h2.1, fun j hj => ?_⟩, fun x hx b hb e => ?_⟩
  · obtain ⟨x, M2, h4, h5⟩ := h2.2 j hj
    refine ⟨x, M2, h4, row_heap h5 fun b e => hg.block b (own_lt h5 e).2 fun q => ?_⟩
    exact h3 x (List.mem_of_getElem? h4) b e q.symm
  · obtain ⟨N2, n2, ys, h5⟩ := h2.mem hx
    rcases hn b e with h6 | h6
    · exact h3 x hx b hb h6
    · have := (own_lt h5 hb).2
      omega
/-- One more. -/
theorem LvW.push {w w' : World} {N n N2 : Nat} {V M V' x : Value} {L : List (List Nd)} {l : List Nd} (h : LvW w N V M L) (hx : w.ownsRow N2 24 2 x l.length (ndsC l)) (ha : apartW x M) {xs : List Value} (h1 : w.ownsRow N 31 1 V n xs) (h2 : RowsN w xs L) (h3 : ∀ x ∈ xs, apartW x M)
    (hg : w.grownBy w' V.ownBlock) (hV : w'.ownsRow N 31 1 V' (L.length + 1) (xs ++ [x])) : LvW w' N V' M (L ++ [l]) := by
  refine ⟨xs ++ [x], by rw [List.length_append]; exact hV, (h2.grown h1 hg).snoc (N := N2) (row_heap hx fun b e => hg.block b (own_lt hx e).2 fun q => own_apart h1 hx (by decide) b q.symm e), fun y hy => ?_⟩
  rcases List.mem_append.1 hy with h | h
  · exact h3 y h
  · rw [List.mem_singleton.1 h]; exact ha
end Go.Proofs.YtdefphacdcbljaaGreat
