/- THE TEXTS OF StoK StoN StoP StoQ: Rows that stand in a box's fields, and grow. The document's own: a node's place, a store without a node. The document's own: a store with a node's text. As much of a store as is looked at. -/
import Derived.Test.YtceefoiffkgliaaStoG
import Derived.Test.YtceefoiffkgliaaStoH
namespace Go.Proofs.Ytceefoiffkgliaa
open Go.RowKit
set_option linter.unusedVariables false
set_option maxRecDepth 100000

/-- A row of the call's own, whatever slot it is told of. -/
def rowX (X : Value) (N : Nat) (e : TypeId) (size n : Nat) (xs : List Value) : World → Value → Option Nat → Prop := fun w _ ob => w.ownsRow N e size X n xs ∧ ob = X.ownBlock
theorem rowX_near {X : Value} {N : Nat} {e : TypeId} {size n : Nat} {xs : List Value} : ∀ (w w' : World) (v : Value) (ob : Option Nat), (∀ b, ob = some b → w'.heap[b]? = w.heap[b]?) → rowX X N e size n xs w v ob → rowX X N e size n xs w' v ob := by
  rintro w w' v ob hb ⟨h, rfl⟩
  exact ⟨row_heap h hb, rfl⟩
/-- Rows of different elements lie in different blocks. -/
theorem own_apart {w : World} {N N' : Nat} {e e' : TypeId} {s s' n n' : Nat} {x y : Value} {xs ys : List Value} (h : w.ownsRow N e s x n xs) (h' : w.ownsRow N' e' s' y n' ys) (hne : e ≠ e') : ∀ b, x.ownBlock = some b → y.ownBlock ≠ some b := by
  intro b hb hb'
  rcases h.2 with ⟨rfl, _⟩ | ⟨g, cap, cur, rfl, _, hg, _⟩
  · cases hb
  · rcases h'.2 with ⟨rfl, _⟩ | ⟨g', cap', cur', rfl, _, hg', _⟩
    · cases hb'
    · have e1 : g = b := Option.some.inj hb
      have e2 : g' = b := Option.some.inj hb'
      subst e1 e2
      rw [hg] at hg'
      injection hg' with hg'
      injection hg' with _ hg'
      exact hne hg'
/-- A row lies not where a box does, of another type. -/
theorem own_nebox {w : World} {N g : Nat} {e t : TypeId} {s n : Nat} {x : Value} {xs : List Value} {cs : Array Value} (h : w.ownsRow N e s x n xs) (hg : w.heap[g]? = some (.cells cs t (0, 0))) (hne : e ≠ t) : x.ownBlock ≠ some g := by
  intro hb
  rcases h.2 with ⟨rfl, _⟩ | ⟨b, cap, cur, rfl, _, hh, _⟩
  · cases hb
  · have e1 : b = g := Option.some.inj hb
    subst e1
    rw [hg] at hh
    injection hh with hh
    injection hh with _ hh
    exact hne hh.symm
/-- A box's first cell, or its second one, holds what stands in a slot. -/
def boxF0 (g : Nat) (t : TypeId) (y : Value) : World → Value → Option Nat → Prop := fun w v ob => ob = some g ∧ w.heap[g]? = some (.cells #[v, y] t (0, 0))
def boxF1 (g : Nat) (t : TypeId) (x : Value) : World → Value → Option Nat → Prop := fun w v ob => ob = some g ∧ w.heap[g]? = some (.cells #[x, v] t (0, 0))
theorem boxF0_near {g : Nat} {t : TypeId} {y : Value} : ∀ (w w' : World) (v : Value) (ob : Option Nat), (∀ b, ob = some b → w'.heap[b]? = w.heap[b]?) → boxF0 g t y w v ob → boxF0 g t y w' v ob := by
  rintro w w' v ob hb ⟨rfl, h⟩
  exact ⟨rfl, (hb g rfl).trans h⟩
theorem boxF1_near {g : Nat} {t : TypeId} {x : Value} : ∀ (w w' : World) (v : Value) (ob : Option Nat), (∀ b, ob = some b → w'.heap[b]? = w.heap[b]?) → boxF1 g t x w v ob → boxF1 g t x w' v ob := by
  rintro w w' v ob hb ⟨rfl, h⟩
  exact ⟨rfl, (hb g rfl).trans h⟩
theorem row2_set0 {w : World} {g : Nat} {x0 x1 : Value} {t : TypeId} (h : w.heap[g]? = some (.cells #[x0, x1] t (0, 0))) (y : Value) : (w.setCell ⟨g, 0, none⟩ y).heap[g]? = some (.cells #[y, x1] t (0, 0)) := by
  simp [World.setCell, Array.getElem?_modify, h]
theorem row2_set1 {w : World} {g : Nat} {x0 x1 : Value} {t : TypeId} (h : w.heap[g]? = some (.cells #[x0, x1] t (0, 0))) (y : Value) : (w.setCell ⟨g, 1, none⟩ y).heap[g]? = some (.cells #[x0, y] t (0, 0)) := by
  simp [World.setCell, Array.getElem?_modify, h]
theorem st_nds {w : World} {g i n c : Nat} {A : Option Addr} {u : Value} (h : w.cell? ⟨g, i, none⟩ = some u) (hf : w.frozen? ⟨g, i, none⟩ = false) : Sem.run Try.prog (Instr.storeAt 22 (.pointer (some ⟨g, i, none⟩)) (.slice A n c)) w = .ok () (w.setCell ⟨g, i, none⟩ (.slice A n c)) := by
  go_simp
theorem st_sts {w : World} {g i n c : Nat} {A : Option Addr} {u : Value} (h : w.cell? ⟨g, i, none⟩ = some u) (hf : w.frozen? ⟨g, i, none⟩ = false) : Sem.run Try.prog (Instr.storeAt 23 (.pointer (some ⟨g, i, none⟩)) (.slice A n c)) w = .ok () (w.setCell ⟨g, i, none⟩ (.slice A n c)) := by
  go_simp
section
variable {P : Program} {ops : Array Oper} {Q : Exit → Act → World → Prop} {a : Act} {w w0 : World} {who : Nat → Nat} {i B r ro : Nat} {o : Oper}
theorem rol_setF0 (ho : ops[i]? = some o) (hw : Region.wanted o (yielded ops a.tmps) = true) (hd : o.dst = none) {g t : Nat} {v : Value} (hv : a.tmps[t]? = some v) {x y : Value} {ty : TypeId} (hg : w.heap[g]? = some (.cells #[x, y] ty (0, 0)) ∧ who g = r) (hBg : B ≤ g)
    (hr : Sem.run P (execOp a.eval o) w = .ok .skip (w.setCell ⟨g, 0, none⟩ v)) (hb : Below B w0 w) : wpOp P ops Q i (RPost ops i r r (.mem t (boxF0 g ty y)) B w0 a w who) a w := by
  refine rol_wp ho hw ?_
  unfold Oper.wp
  rw [hr, Oper.upon_skip, hd]
  have hlt : g < w.heap.size := (Array.getElem?_eq_some_iff.1 hg.1).1
  refine ⟨⟨undef, by rw [dst_of ho, hd]⟩, hb.setCell hBg _, who, ⟨fun k _ hk2 => ?_, fun _ _ => rfl, by simp [World.setCell]⟩, _, some g, hv, fun b e => ?_, rfl, row2_set0 hg.1 _⟩
  · exact Below.heap_setCell _ ⟨g, 0, none⟩ _ k (fun e => hk2 (by rw [e]; exact hg.2))
  · cases e
    exact ⟨by simp [World.setCell]; exact hlt, hg.2⟩
theorem rol_setF1 (ho : ops[i]? = some o) (hw : Region.wanted o (yielded ops a.tmps) = true) (hd : o.dst = none) {g t : Nat} {v : Value} (hv : a.tmps[t]? = some v) {x y : Value} {ty : TypeId} (hg : w.heap[g]? = some (.cells #[x, y] ty (0, 0)) ∧ who g = r) (hBg : B ≤ g)
    (hr : Sem.run P (execOp a.eval o) w = .ok .skip (w.setCell ⟨g, 1, none⟩ v)) (hb : Below B w0 w) : wpOp P ops Q i (RPost ops i r r (.mem t (boxF1 g ty x)) B w0 a w who) a w := by
  refine rol_wp ho hw ?_
  unfold Oper.wp
  rw [hr, Oper.upon_skip, hd]
  have hlt : g < w.heap.size := (Array.getElem?_eq_some_iff.1 hg.1).1
  refine ⟨⟨undef, by rw [dst_of ho, hd]⟩, hb.setCell hBg _, who, ⟨fun k _ hk2 => ?_, fun _ _ => rfl, by simp [World.setCell]⟩, _, some g, hv, fun b e => ?_, rfl, row2_set1 hg.1 _⟩
  · exact Below.heap_setCell _ ⟨g, 1, none⟩ _ k (fun e => hk2 (by rw [e]; exact hg.2))
  · cases e
    exact ⟨by simp [World.setCell]; exact hlt, hg.2⟩
end

/-! ### Nds -/
theorem run_app_nd {w : World} {base n : Nat} {v : Value} {K : List (Nd)} (hown : w.ownsRow base 27 2 v n (ndsC K)) {a0 : Option Addr} {m c : Nat} {L : List (Nd)} (hN : Nds w (.slice a0 m c) L) (hlen : n + m ≤ 2000000) (hbase : base ≤ w.heap.size) (t : TypeId) :
    ∃ v' w', (Builtin.append_ #[22, 22] t #[v, .slice a0 m c]).run Try.prog w = .ok v' w' ∧ w'.ownsRow base 27 2 v' (n + m) (ndsC (K ++ L)) ∧ w.grownBy w' v.ownBlock ∧ (v'.ownBlock = v.ownBlock ∨ v'.ownBlock = some w.heap.size ∧ w.heap.size < w'.heap.size) := by
  obtain ⟨i, hi, hz, hsize, hby⟩ := info_parts Try.info_node
  have hm : m = L.length := hN.lenE.1.symm
  cases a0 with
  | none =>
    obtain ⟨rfl, rfl⟩ := hN.nil rfl
    have hL : L = [] := List.eq_nil_of_length_eq_zero hm.symm
    subst hL
    have hr := run_append_owned_none (P := Try.prog) (w := w) base 22 t 27 i 2 Try.underlying22 hi v n _ hown
    exact ⟨v, w, hr, by simpa using hown, ⟨rfl, rfl, rfl, Nat.le_refl _, fun _ _ _ => rfl⟩, .inl rfl⟩
  | some ad =>
    obtain ⟨v', w', hr, h2, h3, _, h5⟩ := run_append_own_at (P := Try.prog) w base 22 t 27 i (.agg #[.string ByteArray.empty, .string ByteArray.empty]) 2 32 Try.underlying22 hi hz hsize hby rfl (by decide) v n _ hown ad m c (ndsC L) (by rw [ndsC_len, hm]) (hN.src ad rfl) (fun u hu => List.all_eq_true.1 (ndsC_one L) u hu) (by unfold maxLen; omega) (by omega) hbase
    rw [← ndsC_app] at h2
    refine ⟨v', w', hr, h2, h3, h5.imp id fun e => ⟨e, ?_⟩⟩
    exact (h2.lt _ e).2
section
variable {ops : Array Oper} {Q : Exit → Act → World → Prop} {a : Act} {w w0 : World} {who : Nat → Nat} {i B r ro : Nat} {o : Oper}
/-- 'append(row, l...)', the row one that a box's field holds. -/
theorem rol_app_nd (ho : ops[i]? = some o) (hw : Region.wanted o (yielded ops a.tmps) = true) {s : Nat} (hd : o.dst = some s) (hs : s < a.tmps.size) {y x : Operand} (hop : o.op = .call { callee := .builtin .append, args := #[y, x], argTypes := #[22, 22] })
    {N n t : Nat} {K : List (Nd)} {X : Value} (h : (RLeaf.mem t (rowX X N 27 2 n (ndsC K))).holds r a w who) (hy : a.eval y = X) {a0 : Option Addr} {m c : Nat} (hx : a.eval x = .slice a0 m c) {L : List (Nd)} (hN : Nds w (.slice a0 m c) L) (hlen : n + m ≤ 2000000) (hb : Below B w0 w) (hB : B ≤ N) (hNw : N ≤ w.heap.size) {n' : Nat} {K' : List (Nd)} (hn : n' = n + m) (hK : K' = K ++ L) :
    wpOp Try.prog ops Q i (RPost ops i r r (.mem s (rowG N 27 2 n' (ndsC K'))) B w0 a w who) a w := by
  subst hn hK
  obtain ⟨v, ob, hv, hob, hrow, rfl⟩ := h
  obtain ⟨v', w', hr, h2, h3, h5⟩ := run_app_nd hrow hN hlen hNw o.type
  exact rol_grow ho hw hd hs (ex_append hop hy hx hr) h3 hob h5 ⟨h2, rfl⟩ hb (Nat.le_trans hB hNw) (fun b e => Nat.le_trans hB (own_lt hrow e).1)
end
section
variable {wr : World} {ops : Array Oper} {rest : List Oper} {o : Oper} {a : Act} {Q : Exit → Act → World → Prop}
/-- 'l = append(l, x)', l the call's own: x has just been laid in a block of its own. -/
theorem wpList_push_nd (hgd : o.guard = none) (s x : Operand) (ho : o.op = .call { callee := .builtin .append, args := #[s, x], argTypes := #[22, 22] })
    (base : Nat) (V : Value) (K : List (Nd)) (n : Nat) (hn : K.length = n) (hs : a.eval s = V) (hown : wr.ownsRow base 27 2 V n (ndsC K)) (p v : List UInt8) (N : Nat) (hN : wr.heap.size = N) (hx : a.eval x = .slice (some ⟨N, 0, none⟩) 1 1) (hlen : n ≤ 1000000) (hbase : base ≤ wr.heap.size)
    (h : ∀ a' c' w', w'.ownsRow base 27 2 (.slice a' (n + 1) c') (n + 1) (ndsC (K ++ [(p, v)])) → wr.grownBy w' V.ownBlock → wpList Try.prog ops Q rest (a.put o.dst (.slice a' (n + 1) c')) w') :
    wpList Try.prog ops Q (o :: rest) a (wr.alloc (.cells #[.string (mkB p), .string (mkB v)] 27)) := by
  subst hN
  refine wpList_plain hgd fun K' hK' => ?_
  obtain ⟨v', w', hr, h2, h3, -⟩ := run_app_nd (hown.alloc (.cells #[.string (mkB p), .string (mkB v)] 27)) (blkG.nds (heap_alloc_new wr (.cells #[.string (mkB p), .string (mkB v)] 27))) (m := 1) (c := 1) (by omega) (by simp; omega) o.type
  have ho2 : w'.ownsRow base 27 2 v' (K ++ [(p, v)]).length (ndsC (K ++ [(p, v)])) := by rw [List.length_append, hn]; exact h2
  obtain ⟨a', c', hv, _⟩ := ndsO ho2
  rw [List.length_append, hn, List.length_singleton] at hv
  subst hv
  have hk := h a' c' w' h2 ((World.grownBy_alloc wr _ _).trans h3)
  unfold Oper.wp
  simp [execOp, ho, resolve, invoke, builtin, hs, hx, hr, Result.andThen]
  exact hK' _ _ hk
end

/-! ### Strs -/
theorem run_app_st {w : World} {base n : Nat} {v : Value} {K : List (List UInt8)} (hown : w.ownsRow base 9 1 v n (strC K)) {a0 : Option Addr} {m c : Nat} {L : List (List UInt8)} (hN : Strs w (.slice a0 m c) L) (hlen : n + m ≤ 2000000) (hbase : base ≤ w.heap.size) (t : TypeId) :
    ∃ v' w', (Builtin.append_ #[23, 23] t #[v, .slice a0 m c]).run Try.prog w = .ok v' w' ∧ w'.ownsRow base 9 1 v' (n + m) (strC (K ++ L)) ∧ w.grownBy w' v.ownBlock ∧ (v'.ownBlock = v.ownBlock ∨ v'.ownBlock = some w.heap.size ∧ w.heap.size < w'.heap.size) := by
  obtain ⟨i, hi, hz, hsize, hby⟩ := info_parts Try.info_str
  have hm : m = L.length := hN.lenE.1.symm
  cases a0 with
  | none =>
    obtain ⟨rfl, rfl⟩ := hN.nil rfl
    have hL : L = [] := List.eq_nil_of_length_eq_zero hm.symm
    subst hL
    have hr := run_append_owned_none (P := Try.prog) (w := w) base 23 t 9 i 1 Try.underlying23 hi v n _ hown
    exact ⟨v, w, hr, by simpa using hown, ⟨rfl, rfl, rfl, Nat.le_refl _, fun _ _ _ => rfl⟩, .inl rfl⟩
  | some ad =>
    obtain ⟨v', w', hr, h2, h3, _, h5⟩ := run_append_own_at (P := Try.prog) w base 23 t 9 i (.string ByteArray.empty) 1 16 Try.underlying23 hi hz hsize hby rfl (by decide) v n _ hown ad m c (strC L) (by rw [strC_len, hm]) (hN.cells ad rfl) (fun u hu => List.all_eq_true.1 (strC_one L) u hu) (by unfold maxLen; omega) (by omega) hbase
    rw [← strC_app] at h2
    refine ⟨v', w', hr, h2, h3, h5.imp id fun e => ⟨e, ?_⟩⟩
    exact (h2.lt _ e).2
section
variable {ops : Array Oper} {Q : Exit → Act → World → Prop} {a : Act} {w w0 : World} {who : Nat → Nat} {i B r ro : Nat} {o : Oper}
/-- 'append(row, l...)', the row one that a box's field holds. -/
theorem rol_app_st (ho : ops[i]? = some o) (hw : Region.wanted o (yielded ops a.tmps) = true) {s : Nat} (hd : o.dst = some s) (hs : s < a.tmps.size) {y x : Operand} (hop : o.op = .call { callee := .builtin .append, args := #[y, x], argTypes := #[23, 23] })
    {N n t : Nat} {K : List (List UInt8)} {X : Value} (h : (RLeaf.mem t (rowX X N 9 1 n (strC K))).holds r a w who) (hy : a.eval y = X) {a0 : Option Addr} {m c : Nat} (hx : a.eval x = .slice a0 m c) {L : List (List UInt8)} (hN : Strs w (.slice a0 m c) L) (hlen : n + m ≤ 2000000) (hb : Below B w0 w) (hB : B ≤ N) (hNw : N ≤ w.heap.size) {n' : Nat} {K' : List (List UInt8)} (hn : n' = n + m) (hK : K' = K ++ L) :
    wpOp Try.prog ops Q i (RPost ops i r r (.mem s (rowG N 9 1 n' (strC K'))) B w0 a w who) a w := by
  subst hn hK
  obtain ⟨v, ob, hv, hob, hrow, rfl⟩ := h
  obtain ⟨v', w', hr, h2, h3, h5⟩ := run_app_st hrow hN hlen hNw o.type
  exact rol_grow ho hw hd hs (ex_append hop hy hx hr) h3 hob h5 ⟨h2, rfl⟩ hb (Nat.le_trans hB hNw) (fun b e => Nat.le_trans hB (own_lt hrow e).1)
end
section
variable {wr : World} {ops : Array Oper} {rest : List Oper} {o : Oper} {a : Act} {Q : Exit → Act → World → Prop}
/-- 'l = append(l, x)', l the call's own: x has just been laid in a block of its own. -/
theorem wpList_push_st (hgd : o.guard = none) (s x : Operand) (ho : o.op = .call { callee := .builtin .append, args := #[s, x], argTypes := #[23, 23] })
    (base : Nat) (V : Value) (K : List (List UInt8)) (n : Nat) (hn : K.length = n) (hs : a.eval s = V) (hown : wr.ownsRow base 9 1 V n (strC K)) (t : List UInt8) (N : Nat) (hN : wr.heap.size = N) (hx : a.eval x = .slice (some ⟨N, 0, none⟩) 1 1) (hlen : n ≤ 1000000) (hbase : base ≤ wr.heap.size)
    (h : ∀ a' c' w', w'.ownsRow base 9 1 (.slice a' (n + 1) c') (n + 1) (strC (K ++ [t])) → wr.grownBy w' V.ownBlock → wpList Try.prog ops Q rest (a.put o.dst (.slice a' (n + 1) c')) w') :
    wpList Try.prog ops Q (o :: rest) a (wr.alloc (.cells #[.string (mkB t)] 9)) := by
  subst hN
  refine wpList_plain hgd fun K' hK' => ?_
  obtain ⟨v', w', hr, h2, h3, -⟩ := run_app_st (hown.alloc (.cells #[.string (mkB t)] 9)) (blkG.strs (heap_alloc_new wr (.cells #[.string (mkB t)] 9))) (m := 1) (c := 1) (by omega) (by simp; omega) o.type
  have ho2 : w'.ownsRow base 9 1 v' (K ++ [t]).length (strC (K ++ [t])) := by rw [List.length_append, hn]; exact h2
  obtain ⟨a', c', hv, _⟩ := stsO ho2
  rw [List.length_append, hn, List.length_singleton] at hv
  subst hv
  have hk := h a' c' w' h2 ((World.grownBy_alloc wr _ _).trans h3)
  unfold Oper.wp
  simp [execOp, ho, resolve, invoke, builtin, hs, hx, hr, Result.andThen]
  exact hK' _ _ hk
end
end Go.Proofs.Ytceefoiffkgliaa

namespace Go.Proofs.Ytceefoiffkgliaa
open Go.RowKit
set_option linter.unusedVariables false
set_option maxRecDepth 100000

/-! ### A node's place -/
set_option maxHeartbeats 1600000 in
theorem place_any (A B : Option Addr) (n c m d : Nat) (K : List Nd) (T : List (List UInt8)) (p v : List UInt8) (w : World) (hk : Nds w (.slice A n c) K) (ht : Strs w (.slice B m d) T) :
    Calls Try.prog 20 #[.agg #[.slice A n c, .slice B m d], .agg #[.string (mkB p), .string (mkB v)]] w fun e w' => (∃ r : Int, e = .returned (.int .i64 r) ∧ ((r = -1 ∧ hasN K (p, v) = false) ∨ ∃ k : Nat, r = (k : Int) ∧ k < n ∧ K.getD k ([], []) = (p, v))) ∧ Below w.heap.size w w' := by
  obtain ⟨W, g, g', hW, hg, hg', r0, r1, hb⟩ := boxS2 w (.slice A n c) (.slice B m d) (.string (mkB p)) (.string (mkB v)) 25 27
  obtain ⟨d0, d1, -, -⟩ := row2 r0
  obtain ⟨d2, d3, -, -⟩ := row2 r1
  obtain ⟨hK, h1, h2⟩ := hk.lenE
  unfold maxLen at h2
  have SK := Lib.hid (hk.below hb); have HW := Lib.hid hW; have HG := Lib.hid hg; have HG' := Lib.hid hg'; have BB := Lib.hid hb; have HK := Lib.hid hK; have D0 := Lib.hid d0; have D2 := Lib.hid d2; have D3 := Lib.hid d3
  clear hk ht hW hg hg' hb hK r0 r1 d2 d3 d1
  go_enter Try.func20, Try.ntmps20
  go_upto_region 1 with fail
  rw [HW.out, HG'.out, HG.out]
  go_wp2
  go_loopw [5] (fun i wr => ∃ k q : Nat, k ≤ n ∧ i = .int .i64 k ∧ wr = W.drewN q ∧ Hid (∀ j, j < k → K.getD j ([], []) ≠ (p, v))) (fun i _ => n - (intOf i).toNat)
  case atStart => exact ⟨0, 0, Nat.zero_le _, rfl, rfl, Lib.hid (fun j hj => absurd hj (Nat.not_lt_zero j))⟩
  case round =>
    obtain ⟨k, q, hk, rfl, rfl, H⟩ := hrel
    obtain ⟨Wq, hWq⟩ : ∃ Wq, W.drewN q = Wq := ⟨_, rfl⟩
    have hbq : Below W.heap.size W Wq := by rw [← hWq]; exact below_q ⟨q, rfl⟩
    have c0 := cell_keep D0.out hbq
    have c2 := cell_keep D2.out hbq
    have c3 := cell_keep D3.out hbq
    rw [hWq]
    by_cases hlt : k < n
    · have hkl : k < K.length := by rw [HK.out]; exact hlt
      obtain ⟨b, off, rfl, -, hc0, hc1⟩ := (SK.out.below hbq).at k hkl
      obtain ⟨y, hy⟩ : ∃ y, K.getD k ([], []) = y := ⟨_, rfl⟩
      rw [hy] at hc0 hc1
      obtain ⟨y1, y2⟩ := y
      simp only at hc0 hc1
      have HWq := Lib.hid hWq; have HY := Lib.hid hy; clear hy hbq hWq
      have hgd := guard_nd
      have heq := eq_nd y1 y2 p v
      obtain ⟨o, ho⟩ : ∃ o, decide ((y1, y2) = (p, v)) = o := ⟨_, rfl⟩
      rw [ho] at heq
      have HO := Lib.hid ho; clear ho
      have hkb : (k : Int) < (n : Int) := by omega
      cases o
      · go_wp2_with fail
        go_quiet (fail)
        go_wp2
        have H5 : Hid (∀ j, j < k + 1 → K.getD j ([], []) ≠ (p, v)) := Lib.hid fun j hj => by
          by_cases e : j = k
          · subst e; rw [HY.out]; exact of_decide_eq_false HO.out
          · exact H.out j (by omega)
        go_roundw
        case rel => exact ⟨k + 1, q + nq, by omega, by go_num, by rw [← HWq.out, World.drewN_drewN], H5⟩
        case measure => simp [intOf]; omega
      · go_wp2_with fail
        go_quiet (fail)
        go_wp2
        go_ret
        exact ⟨⟨(k : Int), rfl, .inr ⟨k, rfl, hlt, by rw [HY.out]; exact of_decide_eq_true HO.out⟩⟩, below_step (below_step BB.out (below_q ⟨q, HWq.out.symm⟩)) (below_q ⟨nq, rfl⟩)⟩
    · have HWq := Lib.hid hWq; clear hWq
      go_wp2
      go_ret
      refine ⟨⟨-1, rfl, .inl ⟨rfl, hasN_not.2 fun hm => ?_⟩⟩, below_step BB.out (below_q ⟨q, HWq.out.symm⟩)⟩
      obtain ⟨j, hj, e⟩ := List.getElem_of_mem hm
      exact H.out j (by have := HK.out; omega) (by rw [nd_getD hj]; exact e)

/-! ### A store without a node -/
theorem drop_take {S : Sto} {x : Nd} {k : Nat} (h : k < S.length) : dropP (S.take (k + 1)) x = dropP (S.take k) x ++ if decide ((S[k]).1 = x) = true then [] else [S[k]] := by
  unfold dropP
  rw [List.take_succ_eq_append_getElem h, List.filter_append, List.filter_cons, List.filter_nil]
  cases decide ((S[k]).1 = x) <;> rfl
theorem zip_at {K : List Nd} {T : List (List UInt8)} (h : K.length = T.length) {k : Nat} (hk : k < K.length) : ∃ hz : k < (K.zip T).length, (K.zip T)[k] = (K.getD k ([], []), T.getD k []) := by
  have hz : k < (K.zip T).length := by rw [List.length_zip]; omega
  have hkT : k < T.length := by omega
  refine ⟨hz, ?_⟩
  rw [nd_getD hk, List.getD_eq_getElem?_getD, List.getElem?_eq_getElem hkT, List.getElem_zip]; rfl
set_option maxHeartbeats 3200000 in
theorem refdrop_any (A B : Option Addr) (n c m d : Nat) (K : List Nd) (T : List (List UInt8)) (p v : List UInt8) (w : World) (hk : Nds w (.slice A n c) K) (ht : Strs w (.slice B m d) T) (hl : n ≤ 600000) (hnm : n = m) :
    Calls Try.prog 21 #[.agg #[.slice A n c, .slice B m d], .agg #[.string (mkB p), .string (mkB v)]] w fun e w' => ∃ u, e = .returned u ∧ StoO w' w.heap.size u ((dropP (K.zip T) (p, v)).map Prod.fst) ((dropP (K.zip T) (p, v)).map Prod.snd) ∧ Below w.heap.size w w' := by
  obtain ⟨W, gs, gn, gr, hW, hg, hg', hg'', r0, r1, r2, hb⟩ := boxS3 w (.slice A n c) (.slice B m d) (.string (mkB p)) (.string (mkB v)) (.slice none 0 0) (.slice none 0 0) 25 27 25
  obtain ⟨d0, d1, -, -⟩ := row2 r0
  obtain ⟨d2, d3, -, -⟩ := row2 r1
  obtain ⟨hK, h1, h2⟩ := hk.lenE
  obtain ⟨hT, h3, h4⟩ := ht.lenE
  unfold maxLen at h2 h4
  have hgrW := (Array.getElem?_eq_some_iff.1 r2).1
  have SK := Lib.hid (hk.below hb); have ST := Lib.hid (ht.belowB hb); have HW := Lib.hid hW; have HG := Lib.hid hg; have HG' := Lib.hid hg'; have HG'' := Lib.hid hg''; have BB := Lib.hid hb; have HK := Lib.hid hK; have HT := Lib.hid hT; have D0 := Lib.hid d0; have D1 := Lib.hid d1; have D2 := Lib.hid d2; have D3 := Lib.hid d3; have RR := Lib.hid r2; have HGRW := Lib.hid hgrW; have HNB := Lib.hid hl; have HNM := Lib.hid hnm; have HGLE := Lib.hid (show w.heap.size ≤ gr by omega)
  clear hk ht hW hg hg' hg'' hb hK hT r0 r1 r2 d0 d1 d2 d3 hgrW hnm hl
  go_enter Try.func21, Try.ntmps21
  go_upto_region 1 with fail
  rw [HW.out, HG''.out, HG'.out, HG.out]
  obtain ⟨go, hgo⟩ : ∃ go, W.heap.size = go := ⟨_, rfl⟩
  go_upto_region 2 with fail
  obtain ⟨W2, hW2⟩ : ∃ W2, W.alloc (.cells #[.slice none 0 0, .slice none 0 0] 25) = W2 := ⟨_, rfl⟩
  have hrow : W2.heap[go]? = some (.cells #[.slice none 0 0, .slice none 0 0] 25 (0, 0)) := by rw [← hW2, ← hgo]; exact heap_alloc_new _ _
  have hB2 : Below W.heap.size W W2 := by rw [← hW2]; exact (Below.refl _ W).alloc (Nat.le_refl _) _
  rw [hW2]
  have HROW2 := Lib.hid hrow; have HB2 := Lib.hid hB2; have HGO := Lib.hid hgo
  clear hrow hB2 hgo hW2
  have hmI : m ≤ 600000 := by have := HNM.out; have := HNB.out; omega
  have HMB := Lib.hid hmI
  clear hmI
  go_wp2
  go_loopw [6] (fun i wr => ∃ (k : Nat) (LK : List Nd) (LT : List (List UInt8)) (x y : Value), k ≤ n ∧ i = .int .i64 k ∧ LK.length ≤ k ∧ LT.length ≤ k ∧ Hid (LK = (dropP ((K.zip T).take k) (p, v)).map Prod.fst) ∧ Hid (LT = (dropP ((K.zip T).take k) (p, v)).map Prod.snd) ∧ Hid (wr.ownsRow (go + 1) 27 2 x LK.length (ndsC LK)) ∧ Hid (wr.ownsRow (go + 1) 9 1 y LT.length (strC LT)) ∧ Hid (wr.heap[go]? = some (.cells #[x, y] 25 (0, 0))) ∧ Hid (Below W.heap.size W wr)) (fun i _ => n - (intOf i).toNat)
  case atStart => exact ⟨0, [], [], _, _, Nat.zero_le _, rfl, Nat.le_refl _, Nat.le_refl _, Lib.hid rfl, Lib.hid rfl, Lib.hid (World.ownsRow_nil _ _ _ _), Lib.hid (World.ownsRow_nil _ _ _ _), HROW2, HB2⟩
  case round =>
    obtain ⟨k, LK, LT, x, y, hk, rfl, hLK, hLT, HLK, HLT, HX, HY, HROW, HB⟩ := hrel
    obtain ⟨ax, cx, rfl, -⟩ := ndsO HX.out
    obtain ⟨ay, cy, rfl, -⟩ := stsO HY.out
    have c0 := cell_keep D0.out HB.out
    have c2 := cell_keep D2.out HB.out
    have c3 := cell_keep D3.out HB.out
    by_cases hlt : k < n
    · have hkl : k < K.length := by rw [HK.out]; exact hlt
      have hktl : k < T.length := by rw [HT.out, ← HNM.out]; exact hlt
      obtain ⟨hz, hze⟩ := zip_at (K := K) (T := T) (by rw [HK.out, HT.out]; exact HNM.out) hkl
      have hst := drop_take (x := (p, v)) hz
      rw [hze] at hst
      obtain ⟨bk, qk, rfl, -, hy0, hy1⟩ := SK.out.at k hkl
      obtain ⟨bt, qt, rfl, -, hyt⟩ := strs_at ST.out k hktl
      obtain ⟨yn, hyn⟩ : ∃ yn, K.getD k ([], []) = yn := ⟨_, rfl⟩
      obtain ⟨yt, hytn⟩ : ∃ yt, T.getD k [] = yt := ⟨_, rfl⟩
      rw [hyn] at hy0 hy1 hst
      rw [hytn] at hyt hst
      obtain ⟨y1, y2⟩ := yn
      simp only at hy0 hy1 hst
      have Y0 := Lib.hid hy0; have Y1 := Lib.hid hy1; have YT := Lib.hid hyt; have HST := Lib.hid hst
      have e0 := cell_keep Y0.out HB.out
      have e1 := cell_keep Y1.out HB.out
      clear hy0 hy1 hyt hst hyn hytn hze hz hkl hktl
      have hgd := guard_nd
      have heq := neq_nd y1 y2 p v
      obtain ⟨o, ho⟩ : ∃ o, decide ((y1, y2) = (p, v)) = o := ⟨_, rfl⟩
      rw [ho] at heq
      have HO := Lib.hid ho; clear ho
      have hkb : (k : Int) < (n : Int) := by omega
      cases o
      · simp only [Bool.not_false] at heq
        go_upto_region 5 with fail
        go_wp2_with fail
        go_quiet (fail)
        go_upto_region 6 with fail
        obtain ⟨wq, hwq⟩ : ∃ wq, wr.drewN nq = wq := ⟨_, rfl⟩
        have hbq : Below wr.heap.size wr wq := by rw [← hwq]; exact below_q ⟨nq, rfl⟩
        rw [hwq]
        replace HX := Lib.hid (ownsRow_belowB HX.out hbq); replace HY := Lib.hid (ownsRow_belowB HY.out hbq); replace HROW := Lib.hid (row_keepB HROW.out hbq); replace HB := Lib.hid (below_step HB.out hbq)
        obtain ⟨LK2, hLK2⟩ : ∃ L, L = LK ++ [(y1, y2)] := ⟨_, rfl⟩
        obtain ⟨LT2, hLT2⟩ : ∃ L, L = LT ++ [yt] := ⟨_, rfl⟩
        have hlk2 : LK2.length = LK.length + 1 := by rw [hLK2, List.length_append]; rfl
        have hlt2 : LT2.length = LT.length + 1 := by rw [hLT2, List.length_append]; rfl
        have HKF := Lib.hid (show LK2 = (dropP ((K.zip T).take (k + 1)) (p, v)).map Prod.fst by rw [hLK2, HST.out, HO.out, HLK.out]; simp)
        have HTF := Lib.hid (show LT2 = (dropP ((K.zip T).take (k + 1)) (p, v)).map Prod.snd by rw [hLT2, HST.out, HO.out, HLT.out]; simp)
        have HLK2 := Lib.hid hLK2; have HLT2 := Lib.hid hLT2; have HLEN := Lib.hid (show LK2.length ≤ k + 1 ∧ LT2.length ≤ k + 1 by omega)
        have HLB := Lib.hid (show LK.length ≤ 600000 ∧ LT.length ≤ 600000 by have := HNB.out; omega)
        have HGN := Lib.hid (show go + 1 ≤ wq.heap.size from (Array.getElem?_eq_some_iff.1 HROW.out).1)
        have HLT0 := Lib.hid hlt
        have HLM := Lib.hid (show k < m by have := HNM.out; omega)
        clear hbq hwq hLK2 hLT2 hlk2 hlt2 heq hgd c0 c2 c3 e0 e1 hLK hLT
        refine rol_run (by kernel_rfl) [[], [0], [], [2], [], [2, 3, 4], [2, 3, 4, 5], [2, 3, 4, 5, 6], [0, 1, 2, 3, 4, 5, 6, 7], [0, 1, 2, 3, 4, 5, 6, 7, 8], [0, 1, 2, 3, 4, 5, 6, 7, 8, 9]] (by kernel_rfl) [22, 23, 24, 25, 26, 27, 28, 29, 30, 31] [[], [0, 11], [], [2], [], [3, 4], [5], [6], [1, 7, 12], [], [8, 11, 9]] [0, 0, 0, 0, 0, 0, 0, 5, 1, 0, 2, 2, 1, 4] [0, 0, 0, 0, 0, 0, 0, 0, 1, 0, 2] [1000, 1000, 1000, 1000, 1000, 1000, 1000, 1000, 1000, 1000, 1000, 10, 8, 1000] [.val 22 (.pointer (some ⟨go, 0, none⟩)), .val 23 (.slice ax LK.length cx), .val 24 (.pointer (some ⟨gs, 0, none⟩)), .val 25 (.slice (some ⟨bk, qk, none⟩) n c), .val 26 (.int .i64 (k : Int)), .val 27 (.pointer (some ⟨bk, qk + k * 2, none⟩)), .val 28 (.agg #[.string (mkB y1), .string (mkB y2)]), .mem 29 (blkG 27 #[.string (mkB y1), .string (mkB y2)] 1), .mem 30 (rowG (go + 1) 27 2 LK2.length (ndsC LK2)), .val 31 (.pointer (some ⟨go, 0, none⟩)), .mem 30 (boxF0 go 25 (.slice ay LT.length cy)), .box (go) (.cells #[.slice ax LK.length cx, .slice ay LT.length cy] 25), .mem 5 (rowX (.slice ax LK.length cx) (go + 1) 27 2 LK.length (ndsC LK)), .mem 5 (rowX (.slice ay LT.length cy) (go + 1) 9 1 LT.length (strC LT))] (by kernel_rfl) ?_ (W.heap.size) (wq.heap.size) rfl HB.out rfl (fun k => if k = go then 2 else if Value.ownBlock (.slice ax LK.length cx) = some k then 1 else if Value.ownBlock (.slice ay LT.length cy) = some k then 4 else 0) ?_ ?_ ?_
        · intro j hj
          have hj3 : j < 14 := hj
          have hj2 : j = 0 ∨ j = 1 ∨ j = 2 ∨ j = 3 ∨ j = 4 ∨ j = 5 ∨ j = 6 ∨ j = 7 ∨ j = 8 ∨ j = 9 ∨ j = 10 ∨ j = 11 ∨ j = 12 ∨ j = 13 := by omega
          clear hj hj3
          rcases hj2 with rfl | rfl | rfl | rfl | rfl | rfl | rfl | rfl | rfl | rfl | rfl | rfl | rfl | rfl
          · exact trivial
          · exact trivial
          · exact trivial
          · exact trivial
          · exact trivial
          · exact trivial
          · exact trivial
          · exact blkG_near
          · exact rowG_near
          · exact trivial
          · exact boxF0_near
          · exact trivial
          · exact rowX_near
          · exact rowX_near
        · intro j hj0 hj
          have hj1 : 11 ≤ j := hj0
          have hj3 : j < 14 := hj
          have hj2 : j = 11 ∨ j = 12 ∨ j = 13 := by omega
          clear hj0 hj hj1 hj3
          rcases hj2 with rfl | rfl | rfl
          · exact ⟨HROW.out, if_pos rfl⟩
          · exact ⟨_, _, rfl, fun b e => ⟨(own_lt HX.out e).2, (if_neg (fun h => own_nebox HX.out HROW.out (by decide) (e.trans (congrArg some h)))).trans (if_pos e)⟩, HX.out, rfl⟩
          · exact ⟨_, _, rfl, fun b e => ⟨(own_lt HY.out e).2, (if_neg (fun h => own_nebox HY.out HROW.out (by decide) (e.trans (congrArg some h)))).trans ((if_neg (fun h => own_apart HX.out HY.out (by decide) b h e)).trans (if_pos e))⟩, HY.out, rfl⟩
        · intro i hi a wx who hG hF
          have hz : a.tmps.size = 43 := hG.size
          have hi3 : i < 11 := hi
          have hi2 : i = 0 ∨ i = 1 ∨ i = 2 ∨ i = 3 ∨ i = 4 ∨ i = 5 ∨ i = 6 ∨ i = 7 ∨ i = 8 ∨ i = 9 ∨ i = 10 := by omega
          clear hi hi3
          rcases hi2 with rfl | rfl | rfl | rfl | rfl | rfl | rfl | rfl | rfl | rfl | rfl
          · exact rol_val rfl rfl rfl (by rw [hz]; decide) (ex_field rfl (eval_slot ((hG.slots 5 (by decide)).trans rfl)) (by go_simp)) hG.below
          · exact rol_val rfl rfl rfl (by rw [hz]; decide) (ex_load rfl (eval_slot (hF 0 (by decide))) (ld_nds (row2 (hF 11 (by decide)).1).1)) hG.below
          · exact rol_val rfl rfl rfl (by rw [hz]; decide) (ex_field rfl (eval_slot ((hG.slots 2 (by decide)).trans rfl)) (by go_simp)) hG.below
          · exact rol_val rfl rfl rfl (by rw [hz]; decide) (ex_load rfl (eval_slot (hF 2 (by decide))) (ld_nds (cell_keep D0.out hG.below))) hG.below
          · exact rol_val rfl rfl rfl (by rw [hz]; decide) (ex_move (Or.inl rfl) (eval_slot ((hG.slots 6 (by decide)).trans rfl))) hG.below
          · exact rol_val rfl rfl rfl (by rw [hz]; decide) (ex_index rfl (eval_slot (hF 3 (by decide))) (eval_slot (hF 4 (by decide))) (idx_nds HLT0.out)) hG.below
          · exact rol_val rfl rfl rfl (by rw [hz]; decide) (ex_load rfl (eval_slot (hF 5 (by decide))) (ld_node (cell_keep Y0.out hG.below) (cell_keep Y1.out hG.below))) hG.below
          · exact rol_newO rfl rfl rfl (by rw [hz]; decide) (x := .cells #[.string (mkB y1), .string (mkB y2)] 27) (v := .slice (some ⟨wx.heap.size, 0, none⟩) 1 1) (ex_slice rfl (vs := #[(0, .agg #[.string (mkB y1), .string (mkB y2)])]) (by simp only [List.map_toArray, List.map_cons, List.map_nil, eval_slot (hF 6 (by decide))]) (by go_simp)) ⟨_, rfl, rfl, heap_alloc_new _ _⟩ hG.below (Nat.le_trans HB.out.size hG.new)
          · obtain ⟨v, ob, hv, hob, b, rfl, rfl, hh⟩ := hF 7 (by decide)
            exact rol_app_nd rfl rfl rfl (by rw [hz]; decide) rfl (hF 12 (by decide)) (eval_slot (hF 1 (by decide))) (eval_slot hv) (blkG.nds hh) (by have := HLB.out; omega) hG.below (Nat.le_succ_of_le (Nat.le_of_eq HGO.out)) (Nat.le_trans HGN.out hG.new) (by rw [HLK2.out, List.length_append]; rfl) HLK2.out
          · exact rol_val rfl rfl rfl (by rw [hz]; decide) (ex_field rfl (eval_slot ((hG.slots 5 (by decide)).trans rfl)) (by go_simp)) hG.below
          · obtain ⟨v, ob, hv, hob, hrow, rfl⟩ := hF 8 (by decide)
            obtain ⟨a9, c9, rfl, -⟩ := ndsO hrow
            obtain ⟨q0, q1, f0, f1⟩ := row2 (hF 11 (by decide)).1
            exact rol_setF0 rfl rfl rfl hv (hF 11 (by decide)) (Nat.le_of_eq HGO.out) (ex_store rfl (eval_slot (hF 9 (by decide))) (eval_slot hv) (st_nds q0 f0)) hG.below
        · intro a wx who hG hF
          obtain ⟨v30, ob30, fv30, fo30, fp30⟩ := hF 8 (of_decide_eq_true (by kernel_rfl)) (of_decide_eq_true (by kernel_rfl))
          replace fv30 : a.tmps.getD 30 undef = v30 := eval_slot (s := 30) fv30
          have hbox := hF 10 (of_decide_eq_true (by kernel_rfl)) (of_decide_eq_true (by kernel_rfl))
          have hother := hF 13 (of_decide_eq_true (by kernel_rfl)) (of_decide_eq_true (by kernel_rfl))
          obtain ⟨p9, ob9, hp9, -, -, hrow9⟩ := hbox
          have e9 : v30 = p9 := fv30.symm.trans (eval_slot hp9)
          subst e9
          obtain ⟨_, _, _, _, hoth, _⟩ := hother
          obtain ⟨hnew, -⟩ := fp30
          clear hp9 ob9 fo30
          have hbx := hG.below
          have hnx := hG.new
          rw [hG.frame]
          simp only [List.foldl_cons, List.foldl_nil, List.setIfInBounds_toArray, List.set_cons_zero, List.set_cons_succ]
          generalize a.tmps.getD 22 undef = u22
          generalize a.tmps.getD 23 undef = u23
          generalize a.tmps.getD 24 undef = u24
          generalize a.tmps.getD 25 undef = u25
          generalize a.tmps.getD 26 undef = u26
          generalize a.tmps.getD 27 undef = u27
          generalize a.tmps.getD 28 undef = u28
          generalize a.tmps.getD 29 undef = u29
          rw [fv30]
          generalize a.tmps.getD 31 undef = u31
          clear hF hG fv30
          obtain ⟨ax2, cx2, rfl, -⟩ := ndsO hnew
          obtain ⟨wv, hwv⟩ : ∃ w, w = wx := ⟨_, rfl⟩
          subst hwv
          replace HX := Lib.hid hnew; replace HY := Lib.hid hoth; replace HROW := Lib.hid hrow9; replace HB := Lib.hid hbx
          replace HGN := Lib.hid (show go + 1 ≤ wv.heap.size from (Array.getElem?_eq_some_iff.1 HROW.out).1)
          clear hnew hoth hrow9 hbx hnx
          go_upto_region 7 with fail
          refine rol_run (by kernel_rfl) [[], [0], [], [2], [], [2, 3, 4], [2, 3, 4, 5], [2, 3, 4, 5, 6], [0, 1, 2, 3, 4, 5, 6, 7], [0, 1, 2, 3, 4, 5, 6, 7, 8], [0, 1, 2, 3, 4, 5, 6, 7, 8, 9]] (by kernel_rfl) [32, 33, 34, 35, 36, 37, 38, 39, 40, 41] [[], [0, 11], [], [2], [], [3, 4], [5], [6], [1, 7, 12], [], [8, 11, 9]] [0, 0, 0, 0, 0, 0, 0, 5, 1, 0, 2, 2, 1, 4] [0, 0, 0, 0, 0, 0, 0, 0, 1, 0, 2] [1000, 1000, 1000, 1000, 1000, 1000, 1000, 1000, 1000, 1000, 1000, 10, 8, 1000] [.val 32 (.pointer (some ⟨go, 1, none⟩)), .val 33 (.slice ay LT.length cy), .val 34 (.pointer (some ⟨gs, 1, none⟩)), .val 35 (.slice (some ⟨bt, qt, none⟩) m d), .val 36 (.int .i64 (k : Int)), .val 37 (.pointer (some ⟨bt, qt + k, none⟩)), .val 38 (.string (mkB yt)), .mem 39 (blkG 9 #[.string (mkB yt)] 1), .mem 40 (rowG (go + 1) 9 1 LT2.length (strC LT2)), .val 41 (.pointer (some ⟨go, 1, none⟩)), .mem 40 (boxF1 go 25 (.slice ax2 LK2.length cx2)), .box (go) (.cells #[.slice ax2 LK2.length cx2, .slice ay LT.length cy] 25), .mem 5 (rowX (.slice ay LT.length cy) (go + 1) 9 1 LT.length (strC LT)), .mem 5 (rowX (.slice ax2 LK2.length cx2) (go + 1) 27 2 LK2.length (ndsC LK2))] (by kernel_rfl) ?_ (W.heap.size) (wv.heap.size) rfl HB.out rfl (fun k => if k = go then 2 else if Value.ownBlock (.slice ay LT.length cy) = some k then 1 else if Value.ownBlock (.slice ax2 LK2.length cx2) = some k then 4 else 0) ?_ ?_ ?_
          · intro j hj
            have hj3 : j < 14 := hj
            have hj2 : j = 0 ∨ j = 1 ∨ j = 2 ∨ j = 3 ∨ j = 4 ∨ j = 5 ∨ j = 6 ∨ j = 7 ∨ j = 8 ∨ j = 9 ∨ j = 10 ∨ j = 11 ∨ j = 12 ∨ j = 13 := by omega
            clear hj hj3
            rcases hj2 with rfl | rfl | rfl | rfl | rfl | rfl | rfl | rfl | rfl | rfl | rfl | rfl | rfl | rfl
            · exact trivial
            · exact trivial
            · exact trivial
            · exact trivial
            · exact trivial
            · exact trivial
            · exact trivial
            · exact blkG_near
            · exact rowG_near
            · exact trivial
            · exact boxF1_near
            · exact trivial
            · exact rowX_near
            · exact rowX_near
          · intro j hj0 hj
            have hj1 : 11 ≤ j := hj0
            have hj3 : j < 14 := hj
            have hj2 : j = 11 ∨ j = 12 ∨ j = 13 := by omega
            clear hj0 hj hj1 hj3
            rcases hj2 with rfl | rfl | rfl
            · exact ⟨HROW.out, if_pos rfl⟩
            · exact ⟨_, _, rfl, fun b e => ⟨(own_lt HY.out e).2, (if_neg (fun h => own_nebox HY.out HROW.out (by decide) (e.trans (congrArg some h)))).trans (if_pos e)⟩, HY.out, rfl⟩
            · exact ⟨_, _, rfl, fun b e => ⟨(own_lt HX.out e).2, (if_neg (fun h => own_nebox HX.out HROW.out (by decide) (e.trans (congrArg some h)))).trans ((if_neg (fun h => own_apart HY.out HX.out (by decide) b h e)).trans (if_pos e))⟩, HX.out, rfl⟩
          · intro i hi a wx who hG hF
            have hz : a.tmps.size = 43 := hG.size
            have hi3 : i < 11 := hi
            have hi2 : i = 0 ∨ i = 1 ∨ i = 2 ∨ i = 3 ∨ i = 4 ∨ i = 5 ∨ i = 6 ∨ i = 7 ∨ i = 8 ∨ i = 9 ∨ i = 10 := by omega
            clear hi hi3
            rcases hi2 with rfl | rfl | rfl | rfl | rfl | rfl | rfl | rfl | rfl | rfl | rfl
            · exact rol_val rfl rfl rfl (by rw [hz]; decide) (ex_field rfl (eval_slot ((hG.slots 5 (by decide)).trans rfl)) (by go_simp)) hG.below
            · exact rol_val rfl rfl rfl (by rw [hz]; decide) (ex_load rfl (eval_slot (hF 0 (by decide))) (ld_sts (row2 (hF 11 (by decide)).1).2.1)) hG.below
            · exact rol_val rfl rfl rfl (by rw [hz]; decide) (ex_field rfl (eval_slot ((hG.slots 2 (by decide)).trans rfl)) (by go_simp)) hG.below
            · exact rol_val rfl rfl rfl (by rw [hz]; decide) (ex_load rfl (eval_slot (hF 2 (by decide))) (ld_sts (cell_keep D1.out hG.below))) hG.below
            · exact rol_val rfl rfl rfl (by rw [hz]; decide) (ex_move (Or.inl rfl) (eval_slot ((hG.slots 6 (by decide)).trans rfl))) hG.below
            · exact rol_val rfl rfl rfl (by rw [hz]; decide) (ex_index rfl (eval_slot (hF 3 (by decide))) (eval_slot (hF 4 (by decide))) (idx_sts HLM.out)) hG.below
            · exact rol_val rfl rfl rfl (by rw [hz]; decide) (ex_load rfl (eval_slot (hF 5 (by decide))) (ld_str (cell_keep YT.out hG.below))) hG.below
            · exact rol_newO rfl rfl rfl (by rw [hz]; decide) (x := .cells #[.string (mkB yt)] 9) (v := .slice (some ⟨wx.heap.size, 0, none⟩) 1 1) (ex_slice rfl (vs := #[(0, .string (mkB yt))]) (by simp only [List.map_toArray, List.map_cons, List.map_nil, eval_slot (hF 6 (by decide))]) (by go_simp)) ⟨_, rfl, rfl, heap_alloc_new _ _⟩ hG.below (Nat.le_trans HB.out.size hG.new)
            · obtain ⟨v, ob, hv, hob, b, rfl, rfl, hh⟩ := hF 7 (by decide)
              exact rol_app_st rfl rfl rfl (by rw [hz]; decide) rfl (hF 12 (by decide)) (eval_slot (hF 1 (by decide))) (eval_slot hv) (blkG.strs hh) (by have := HLB.out; omega) hG.below (Nat.le_succ_of_le (Nat.le_of_eq HGO.out)) (Nat.le_trans HGN.out hG.new) (by rw [HLT2.out, List.length_append]; rfl) HLT2.out
            · exact rol_val rfl rfl rfl (by rw [hz]; decide) (ex_field rfl (eval_slot ((hG.slots 5 (by decide)).trans rfl)) (by go_simp)) hG.below
            · obtain ⟨v, ob, hv, hob, hrow, rfl⟩ := hF 8 (by decide)
              obtain ⟨a9, c9, rfl, -⟩ := stsO hrow
              obtain ⟨q0, q1, f0, f1⟩ := row2 (hF 11 (by decide)).1
              exact rol_setF1 rfl rfl rfl hv (hF 11 (by decide)) (Nat.le_of_eq HGO.out) (ex_store rfl (eval_slot (hF 9 (by decide))) (eval_slot hv) (st_sts q1 f1)) hG.below
          · intro a wx who hG hF
            obtain ⟨v40, ob40, fv40, fo40, fp40⟩ := hF 8 (of_decide_eq_true (by kernel_rfl)) (of_decide_eq_true (by kernel_rfl))
            replace fv40 : a.tmps.getD 40 undef = v40 := eval_slot (s := 40) fv40
            have hbox := hF 10 (of_decide_eq_true (by kernel_rfl)) (of_decide_eq_true (by kernel_rfl))
            have hother := hF 13 (of_decide_eq_true (by kernel_rfl)) (of_decide_eq_true (by kernel_rfl))
            obtain ⟨p9, ob9, hp9, -, -, hrow9⟩ := hbox
            have e9 : v40 = p9 := fv40.symm.trans (eval_slot hp9)
            subst e9
            obtain ⟨_, _, _, _, hoth, _⟩ := hother
            obtain ⟨hnew, -⟩ := fp40
            clear hp9 ob9 fo40
            have hbx := hG.below
            have hnx := hG.new
            rw [hG.frame]
            simp only [List.foldl_cons, List.foldl_nil, List.setIfInBounds_toArray, List.set_cons_zero, List.set_cons_succ]
            generalize a.tmps.getD 32 undef = u32
            generalize a.tmps.getD 33 undef = u33
            generalize a.tmps.getD 34 undef = u34
            generalize a.tmps.getD 35 undef = u35
            generalize a.tmps.getD 36 undef = u36
            generalize a.tmps.getD 37 undef = u37
            generalize a.tmps.getD 38 undef = u38
            generalize a.tmps.getD 39 undef = u39
            rw [fv40]
            generalize a.tmps.getD 41 undef = u41
            clear hF hG fv40
            have HX3 := Lib.hid hoth; have HY3 := Lib.hid hnew; have HR3 := Lib.hid hrow9; have HB3 := Lib.hid hbx
            clear hnew hoth hrow9 hbx hnx
            obtain ⟨hl1, hl2⟩ := HLEN.out
            go_wp2
            go_roundw
            case rel => exact ⟨k + 1, LK2, LT2, _, _, by omega, by go_num, hl1, hl2, HKF, HTF, HX3, HY3, HR3, HB3⟩
            case measure => simp [intOf]; omega
      · simp only [Bool.not_true] at heq
        go_wp2_with fail
        go_quiet (fail)
        go_wp2
        have HLK2 : Hid (LK = (dropP ((K.zip T).take (k + 1)) (p, v)).map Prod.fst) := Lib.hid (by rw [HST.out, HO.out, HLK.out]; simp)
        have HLT2 : Hid (LT = (dropP ((K.zip T).take (k + 1)) (p, v)).map Prod.snd) := Lib.hid (by rw [HST.out, HO.out, HLT.out]; simp)
        have HB3 := Lib.hid (below_step HB.out (below_q ⟨nq, rfl⟩))
        have HX3 := Lib.hid (ownsRow_belowB HX.out (below_q ⟨nq, rfl⟩))
        have HY3 := Lib.hid (ownsRow_belowB HY.out (below_q ⟨nq, rfl⟩))
        have HR3 := Lib.hid (row_keepB HROW.out (below_q ⟨nq, rfl⟩))
        go_roundw
        case rel => exact ⟨k + 1, LK, LT, _, _, by omega, by go_num, by omega, by omega, HLK2, HLT2, HX3, HY3, HR3, HB3⟩
        case measure => simp [intOf]; omega
    · have hfin : (K.zip T).take k = K.zip T := List.take_of_length_le (by rw [List.length_zip, HK.out]; omega)
      rw [hfin] at HLK HLT
      have HRR := Lib.hid (row_keepB RR.out HB.out)
      obtain ⟨q0, q1, -, -⟩ := row2 HROW.out
      obtain ⟨z0, z1, zf0, zf1⟩ := row2 HRR.out
      have HWS := Lib.hid (BB.out.size)
      have HBF := Lib.hid (below_step BB.out HB.out)
      have hgo1 : gr < go + 1 := by have := HGRW.out; have := HGO.out; omega
      have hgo2 : w.heap.size ≤ go + 1 := by have := HWS.out; have := HGO.out; omega
      have HG1 := Lib.hid hgo1; have HG2 := Lib.hid hgo2
      have hso : StoO wr (go + 1) (.agg #[.slice ax LK.length cx, .slice ay LT.length cy]) LK LT := ⟨_, _, rfl, HX.out, HY.out⟩
      have HSO := Lib.hid hso
      clear hso hgo1 hgo2 hfin c2 c3
      go_wp2
      try simp only [Exit.inBlock, Exit.then]
      refine bodyPost_ret (v := .agg #[.slice ax LK.length cx, .slice ay LT.length cy]) (results_cell_row (fn := Try.f21) (p := 4) (ty := 25) rfl _ _ gr 25 #[.slice ax LK.length cx, .slice ay LT.length cy] (0, 0) _ rfl (row2_set HRR.out _ _) Try.underlying25 rfl Try.size_sto) rfl ?_
      rw [← HLK.out, ← HLT.out]
      exact ⟨_, rfl, ((HSO.out.far HG1.out _).far HG1.out _).base HG2.out, (HBF.out.setCell HGLE.out _).setCell HGLE.out _⟩
end Go.Proofs.Ytceefoiffkgliaa

namespace Go.Proofs.Ytceefoiffkgliaa
open Go.RowKit
set_option linter.unusedVariables false
set_option maxRecDepth 100000

theorem filt_take {S : Sto} {f : Nd × Txt → Bool} {k : Nat} (h : k < S.length) : (S.take (k + 1)).filter f = (S.take k).filter f ++ if f S[k] = true then [S[k]] else [] := by
  rw [List.take_succ_eq_append_getElem h, List.filter_append, List.filter_cons, List.filter_nil]
theorem grown_row {w w' : World} {row : Option Nat} {g : Nat} {o : Obj} (hg : w.grownBy w' row) (h : w.heap[g]? = some o) (hne : row ≠ some g) : w'.heap[g]? = some o :=
  (hg.block g (Array.getElem?_eq_some_iff.1 h).1 hne.symm).trans h
theorem own_ne {w : World} {base g : Nat} {e : TypeId} {size : Nat} {v : Value} {n : Nat} {xs : List Value} (h : w.ownsRow base e size v n xs) (hg : g < base) : v.ownBlock ≠ some g := fun e => by
  have := (own_lt h e).1; omega
theorem own_kept {w w' : World} {N N' : Nat} {e e' : TypeId} {s s' n n' : Nat} {x y : Value} {xs ys : List Value} (h : w.ownsRow N e s x n xs) (h' : w.ownsRow N' e' s' y n' ys) (hne : e' ≠ e) (hg : w.grownBy w' y.ownBlock) : w'.ownsRow N e s x n xs :=
  h.kept hg (by
    cases hx : x.ownBlock with
    | none => exact .inl rfl
    | some b => exact .inr fun k => own_apart h' h hne b k.symm hx)

set_option maxHeartbeats 6400000 in
theorem refput_any (A B : Option Addr) (n c m d : Nat) (K : List Nd) (T : List (List UInt8)) (p v t : List UInt8) (w : World) (hk : Nds w (.slice A n c) K) (ht : Strs w (.slice B m d) T) (hs : ∀ n ∈ K, smallN n) (hn : smallN (p, v)) (hl : n ≤ 600000) (hx : okS K T = true) (hy : okN (p, v) = true) :
    Calls Try.prog 19 #[.agg #[.slice A n c, .slice B m d], .agg #[.string (mkB p), .string (mkB v)], .string (mkB t)] w fun e w' => ∃ u, e = .returned u ∧ StoO w' w.heap.size u ((putP (K.zip T) (p, v) t).map Prod.fst) ((putP (K.zip T) (p, v) t).map Prod.snd) ∧ Below w.heap.size w w' := by
  obtain ⟨W, gs, gn, gr, hW, hg, hg', hg'', r0, r1, r2, hb⟩ := boxS3 w (.slice A n c) (.slice B m d) (.string (mkB p)) (.string (mkB v)) (.slice none 0 0) (.slice none 0 0) 25 27 25
  obtain ⟨d0, d1, -, -⟩ := row2 r0
  obtain ⟨d2, d3, -, -⟩ := row2 r1
  obtain ⟨hK, h1, h2⟩ := hk.lenE
  obtain ⟨hT, h3, h4⟩ := ht.lenE
  unfold maxLen at h2 h4
  have hgrW := (Array.getElem?_eq_some_iff.1 r2).1
  have hkc : checkN K = true ∧ K.length = T.length := by
    unfold okS at hx; rw [Bool.and_eq_true, decide_eq_true_iff] at hx; exact hx
  have hnm : n = m := by rw [← hK, ← hT]; exact hkc.2
  have SK := Lib.hid (hk.below hb); have ST := Lib.hid (ht.belowB hb); have HS := Lib.hid hs; have HSN := Lib.hid hn; have HKO := Lib.hid (checkN_ok hkc.1); have HON := Lib.hid hy; have HW := Lib.hid hW; have HG := Lib.hid hg; have HG' := Lib.hid hg'; have HG'' := Lib.hid hg''; have BB := Lib.hid hb; have HK := Lib.hid hK; have HT := Lib.hid hT; have D0 := Lib.hid d0; have D1 := Lib.hid d1; have D2 := Lib.hid d2; have D3 := Lib.hid d3; have RR := Lib.hid r2; have HGRW := Lib.hid hgrW; have HNB := Lib.hid hl; have HNM := Lib.hid hnm; have HGLE := Lib.hid (show w.heap.size ≤ gr by omega)
  clear hk ht hs hn hW hg hg' hg'' hb hK hT r0 r1 r2 d0 d1 d2 d3 hgrW hnm hl hx hy hkc
  have e9 : ∀ args w, (callFunc 37 args).run Try.prog w = .ok (.enter 37 args) w := enters_of Try.func37 (by kernel_rfl) rfl
  go_enter Try.func19, Try.ntmps19
  go_upto_region 1 with fail
  rw [HW.out, HG''.out, HG'.out, HG.out]
  obtain ⟨go, hgo⟩ : ∃ go, W.heap.size = go := ⟨_, rfl⟩
  go_upto_region 2 with fail
  obtain ⟨W2, hW2⟩ : ∃ W2, W.alloc (.cells #[.slice none 0 0, .slice none 0 0] 25) = W2 := ⟨_, rfl⟩
  have hrow : W2.heap[go]? = some (.cells #[.slice none 0 0, .slice none 0 0] 25 (0, 0)) := by rw [← hW2, ← hgo]; exact heap_alloc_new _ _
  have hB2 : Below W.heap.size W W2 := by rw [← hW2]; exact (Below.refl _ W).alloc (Nat.le_refl _) _
  rw [hW2]
  have HROW2 := Lib.hid hrow; have HB2 := Lib.hid hB2; have HGO := Lib.hid hgo
  clear hrow hB2 hgo hW2
  have hmI : m ≤ 600000 := by have := HNM.out; have := HNB.out; omega
  have HMB := Lib.hid hmI
  clear hmI
  go_wp2
  go_loopw [8] (fun i wr => ∃ (k : Nat) (LK : List Nd) (LT : List (List UInt8)) (x y : Value), k ≤ n ∧ i = .int .i64 k ∧ LK.length ≤ k ∧ LT.length ≤ k ∧ Hid (LK = (((K.zip T).take k).filter fun x => ltN x.1 (p, v)).map Prod.fst) ∧ Hid (LT = (((K.zip T).take k).filter fun x => ltN x.1 (p, v)).map Prod.snd) ∧ Hid (wr.ownsRow (go + 1) 27 2 x LK.length (ndsC LK)) ∧ Hid (wr.ownsRow (go + 1) 9 1 y LT.length (strC LT)) ∧ Hid (wr.heap[go]? = some (.cells #[x, y] 25 (0, 0))) ∧ Hid (Below W.heap.size W wr)) (fun i _ => n - (intOf i).toNat)
  case atStart => exact ⟨0, [], [], _, _, Nat.zero_le _, rfl, Nat.le_refl _, Nat.le_refl _, Lib.hid rfl, Lib.hid rfl, Lib.hid (World.ownsRow_nil _ _ _ _), Lib.hid (World.ownsRow_nil _ _ _ _), HROW2, HB2⟩
  case round =>
    obtain ⟨k, LK, LT, x, y, hk, rfl, hLK, hLT, HLK, HLT, HX, HY, HROW, HB⟩ := hrel
    obtain ⟨ax, cx, rfl, -⟩ := ndsO HX.out
    obtain ⟨ay, cy, rfl, -⟩ := stsO HY.out
    have c0 := cell_keep D0.out HB.out
    have c2 := cell_keep D2.out HB.out
    have c3 := cell_keep D3.out HB.out
    by_cases hlt : k < n
    · have hkl : k < K.length := by rw [HK.out]; exact hlt
      have hktl : k < T.length := by rw [HT.out, ← HNM.out]; exact hlt
      obtain ⟨hz, hze⟩ := zip_at (K := K) (T := T) (by rw [HK.out, HT.out]; exact HNM.out) hkl
      have hst := filt_take (f := fun x => ltN x.1 (p, v)) hz
      rw [hze] at hst
      obtain ⟨bk, qk, rfl, -, hy0, hy1⟩ := SK.out.at k hkl
      obtain ⟨bt, qt, rfl, -, hyt⟩ := strs_at ST.out k hktl
      obtain ⟨yn, hyn⟩ : ∃ yn, K.getD k ([], []) = yn := ⟨_, rfl⟩
      obtain ⟨yt, hytn⟩ : ∃ yt, T.getD k [] = yt := ⟨_, rfl⟩
      have hsy : smallN yn := by rw [← hyn]; exact HS.out _ (nd_mem hkl)
      have hoy : okN yn = true := by rw [← hyn]; exact HKO.out _ (nd_mem hkl)
      rw [hyn] at hy0 hy1 hst
      rw [hytn] at hyt hst
      obtain ⟨y1, y2⟩ := yn
      simp only at hy0 hy1 hst
      have Y0 := Lib.hid hy0; have Y1 := Lib.hid hy1; have YT := Lib.hid hyt; have HST := Lib.hid hst; have HSY := Lib.hid hsy; have HOY := Lib.hid hoy
      have e0 := cell_keep Y0.out HB.out
      have e1 := cell_keep Y1.out HB.out
      clear hy0 hy1 hyt hst hyn hytn hze hz hkl hktl hsy hoy
      have HLT0 := Lib.hid hlt
      obtain ⟨o, ho⟩ : ∃ o, ltN (y1, y2) (p, v) = o := ⟨_, rfl⟩
      have HO := Lib.hid ho; clear ho
      have hkb : (k : Int) < (n : Int) := by omega
      cases o
      · go_upto_region 5 with fail
        refine rol_run (by kernel_rfl) [[], [0], [], [0, 1, 2], [0, 1, 2, 3], [], [0, 1, 2, 3, 4, 5]] (by kernel_rfl) [18, 19, 20, 21, 22, 23, 24] [[], [0], [], [1, 2], [3], [], [4, 5]] [0, 0, 0, 0, 0, 0, 0] [0, 0, 0, 0, 0, 0, 0] [1000, 1000, 1000, 1000, 1000, 1000, 1000] [.val 18 (.pointer (some ⟨gs, 0, none⟩)), .val 19 (.slice (some ⟨bk, qk, none⟩) n c), .val 20 (.int .i64 (k : Int)), .val 21 (.pointer (some ⟨bk, qk + k * 2, none⟩)), .val 22 (.agg #[.string (mkB y1), .string (mkB y2)]), .val 23 (.agg #[.string (mkB p), .string (mkB v)]), .val 24 (.bool false)] (by kernel_rfl) ?_ (wr.heap.size) (wr.heap.size) rfl (Below.refl _ _) rfl (fun _ => 0) ?_ ?_ ?_
        · intro j hj
          have hj3 : j < 7 := hj
          have hj2 : j = 0 ∨ j = 1 ∨ j = 2 ∨ j = 3 ∨ j = 4 ∨ j = 5 ∨ j = 6 := by omega
          clear hj hj3
          rcases hj2 with rfl | rfl | rfl | rfl | rfl | rfl | rfl
          · exact trivial
          · exact trivial
          · exact trivial
          · exact trivial
          · exact trivial
          · exact trivial
          · exact trivial
        · intro j hj0 hj
          exact absurd hj (Nat.not_lt.2 hj0)
        · intro i hi a wx who hG hF
          have hz : a.tmps.size = 92 := hG.size
          have hi3 : i < 7 := hi
          have hi2 : i = 0 ∨ i = 1 ∨ i = 2 ∨ i = 3 ∨ i = 4 ∨ i = 5 ∨ i = 6 := by omega
          clear hi hi3
          rcases hi2 with rfl | rfl | rfl | rfl | rfl | rfl | rfl
          · exact rol_val rfl rfl rfl (by rw [hz]; decide) (ex_field rfl (eval_slot ((hG.slots 3 (by decide)).trans rfl)) (by go_simp)) hG.below
          · exact rol_val rfl rfl rfl (by rw [hz]; decide) (ex_load rfl (eval_slot (hF 0 (by decide))) (ld_nds (cell_keep c0 hG.below))) hG.below
          · exact rol_val rfl rfl rfl (by rw [hz]; decide) (ex_move (Or.inl rfl) (eval_slot ((hG.slots 8 (by decide)).trans rfl))) hG.below
          · exact rol_val rfl rfl rfl (by rw [hz]; decide) (ex_index rfl (eval_slot (hF 1 (by decide))) (eval_slot (hF 2 (by decide))) (idx_nds HLT0.out)) hG.below
          · exact rol_val rfl rfl rfl (by rw [hz]; decide) (ex_load rfl (eval_slot (hF 3 (by decide))) (ld_node (cell_keep e0 hG.below) (cell_keep e1 hG.below))) hG.below
          · exact rol_val rfl rfl rfl (by rw [hz]; decide) (ex_load rfl (eval_slot ((hG.slots 4 (by decide)).trans rfl)) (ld_node (cell_keep c2 hG.below) (cell_keep c3 hG.below))) hG.below
          · refine rol_call rfl rfl rfl (by rw [hz]; decide) (ex_call rfl (by simp [eval_slot (hF 4 (by decide)), eval_slot (hF 5 (by decide))]) e9) (refless_any y1 y2 p v wx HSY.out.1 HSY.out.2 HSN.out.1 HSN.out.2 HOY.out HON.out) ?_ hG.below hG.new
            rintro e w1 ⟨rfl, hb1⟩
            rw [HO.out]
            exact ⟨_, rfl, hb1, .inl rfl⟩
        · intro a wx who hG hF
          have fv24 : a.tmps.getD 24 undef = .bool false := eval_slot (s := 24) (hF 6 (of_decide_eq_true (by kernel_rfl)) (of_decide_eq_true (by kernel_rfl)))
          have hbx := hG.below
          have hnx := hG.new
          rw [hG.frame]
          simp only [List.foldl_cons, List.foldl_nil, List.setIfInBounds_toArray, List.set_cons_zero, List.set_cons_succ]
          generalize a.tmps.getD 18 undef = u18
          generalize a.tmps.getD 19 undef = u19
          generalize a.tmps.getD 20 undef = u20
          generalize a.tmps.getD 21 undef = u21
          generalize a.tmps.getD 22 undef = u22
          generalize a.tmps.getD 23 undef = u23
          rw [fv24]
          clear hF hG fv24
          have HLK2 : Hid (LK = (((K.zip T).take (k + 1)).filter fun x => ltN x.1 (p, v)).map Prod.fst) := Lib.hid (by rw [HST.out, HO.out, HLK.out]; simp)
          have HLT2 : Hid (LT = (((K.zip T).take (k + 1)).filter fun x => ltN x.1 (p, v)).map Prod.snd) := Lib.hid (by rw [HST.out, HO.out, HLT.out]; simp)
          have HB3 := Lib.hid (below_step HB.out hbx)
          have HX3 := Lib.hid (ownsRow_belowB HX.out hbx)
          have HY3 := Lib.hid (ownsRow_belowB HY.out hbx)
          have HR3 := Lib.hid (row_keepB HROW.out hbx)
          clear hbx hnx
          go_wp2
          go_roundw
          case rel => exact ⟨k + 1, LK, LT, _, _, by omega, by go_num, by omega, by omega, HLK2, HLT2, HX3, HY3, HR3, HB3⟩
          case measure => simp [intOf]; omega
      · go_upto_region 5 with fail
        refine rol_run (by kernel_rfl) [[], [0], [], [0, 1, 2], [0, 1, 2, 3], [], [0, 1, 2, 3, 4, 5]] (by kernel_rfl) [18, 19, 20, 21, 22, 23, 24] [[], [0], [], [1, 2], [3], [], [4, 5]] [0, 0, 0, 0, 0, 0, 0] [0, 0, 0, 0, 0, 0, 0] [1000, 1000, 1000, 1000, 1000, 1000, 1000] [.val 18 (.pointer (some ⟨gs, 0, none⟩)), .val 19 (.slice (some ⟨bk, qk, none⟩) n c), .val 20 (.int .i64 (k : Int)), .val 21 (.pointer (some ⟨bk, qk + k * 2, none⟩)), .val 22 (.agg #[.string (mkB y1), .string (mkB y2)]), .val 23 (.agg #[.string (mkB p), .string (mkB v)]), .val 24 (.bool true)] (by kernel_rfl) ?_ (wr.heap.size) (wr.heap.size) rfl (Below.refl _ _) rfl (fun _ => 0) ?_ ?_ ?_
        · intro j hj
          have hj3 : j < 7 := hj
          have hj2 : j = 0 ∨ j = 1 ∨ j = 2 ∨ j = 3 ∨ j = 4 ∨ j = 5 ∨ j = 6 := by omega
          clear hj hj3
          rcases hj2 with rfl | rfl | rfl | rfl | rfl | rfl | rfl
          · exact trivial
          · exact trivial
          · exact trivial
          · exact trivial
          · exact trivial
          · exact trivial
          · exact trivial
        · intro j hj0 hj
          exact absurd hj (Nat.not_lt.2 hj0)
        · intro i hi a wx who hG hF
          have hz : a.tmps.size = 92 := hG.size
          have hi3 : i < 7 := hi
          have hi2 : i = 0 ∨ i = 1 ∨ i = 2 ∨ i = 3 ∨ i = 4 ∨ i = 5 ∨ i = 6 := by omega
          clear hi hi3
          rcases hi2 with rfl | rfl | rfl | rfl | rfl | rfl | rfl
          · exact rol_val rfl rfl rfl (by rw [hz]; decide) (ex_field rfl (eval_slot ((hG.slots 3 (by decide)).trans rfl)) (by go_simp)) hG.below
          · exact rol_val rfl rfl rfl (by rw [hz]; decide) (ex_load rfl (eval_slot (hF 0 (by decide))) (ld_nds (cell_keep c0 hG.below))) hG.below
          · exact rol_val rfl rfl rfl (by rw [hz]; decide) (ex_move (Or.inl rfl) (eval_slot ((hG.slots 8 (by decide)).trans rfl))) hG.below
          · exact rol_val rfl rfl rfl (by rw [hz]; decide) (ex_index rfl (eval_slot (hF 1 (by decide))) (eval_slot (hF 2 (by decide))) (idx_nds HLT0.out)) hG.below
          · exact rol_val rfl rfl rfl (by rw [hz]; decide) (ex_load rfl (eval_slot (hF 3 (by decide))) (ld_node (cell_keep e0 hG.below) (cell_keep e1 hG.below))) hG.below
          · exact rol_val rfl rfl rfl (by rw [hz]; decide) (ex_load rfl (eval_slot ((hG.slots 4 (by decide)).trans rfl)) (ld_node (cell_keep c2 hG.below) (cell_keep c3 hG.below))) hG.below
          · refine rol_call rfl rfl rfl (by rw [hz]; decide) (ex_call rfl (by simp [eval_slot (hF 4 (by decide)), eval_slot (hF 5 (by decide))]) e9) (refless_any y1 y2 p v wx HSY.out.1 HSY.out.2 HSN.out.1 HSN.out.2 HOY.out HON.out) ?_ hG.below hG.new
            rintro e w1 ⟨rfl, hb1⟩
            rw [HO.out]
            exact ⟨_, rfl, hb1, .inl rfl⟩
        · intro a wx who hG hF
          have fv24 : a.tmps.getD 24 undef = .bool true := eval_slot (s := 24) (hF 6 (of_decide_eq_true (by kernel_rfl)) (of_decide_eq_true (by kernel_rfl)))
          have hbx := hG.below
          have hnx := hG.new
          rw [hG.frame]
          simp only [List.foldl_cons, List.foldl_nil, List.setIfInBounds_toArray, List.set_cons_zero, List.set_cons_succ]
          generalize a.tmps.getD 18 undef = u18
          generalize a.tmps.getD 19 undef = u19
          generalize a.tmps.getD 20 undef = u20
          generalize a.tmps.getD 21 undef = u21
          generalize a.tmps.getD 22 undef = u22
          generalize a.tmps.getD 23 undef = u23
          rw [fv24]
          clear hF hG fv24
          obtain ⟨wq, hwq⟩ : ∃ w, w = wx := ⟨_, rfl⟩
          subst hwq
          replace HX := Lib.hid (ownsRow_belowB HX.out hbx); replace HY := Lib.hid (ownsRow_belowB HY.out hbx); replace HROW := Lib.hid (row_keepB HROW.out hbx); replace HB := Lib.hid (below_step HB.out hbx)
          obtain ⟨LK2, hLK2⟩ : ∃ L, L = LK ++ [(y1, y2)] := ⟨_, rfl⟩
          obtain ⟨LT2, hLT2⟩ : ∃ L, L = LT ++ [yt] := ⟨_, rfl⟩
          have hlk2 : LK2.length = LK.length + 1 := by rw [hLK2, List.length_append]; rfl
          have hlt2 : LT2.length = LT.length + 1 := by rw [hLT2, List.length_append]; rfl
          have HKF := Lib.hid (show LK2 = (((K.zip T).take (k + 1)).filter fun x => ltN x.1 (p, v)).map Prod.fst by rw [hLK2, HST.out, HO.out, HLK.out]; simp)
          have HTF := Lib.hid (show LT2 = (((K.zip T).take (k + 1)).filter fun x => ltN x.1 (p, v)).map Prod.snd by rw [hLT2, HST.out, HO.out, HLT.out]; simp)
          have HLK2 := Lib.hid hLK2; have HLT2 := Lib.hid hLT2; have HLEN := Lib.hid (show LK2.length ≤ k + 1 ∧ LT2.length ≤ k + 1 by omega)
          have HLB := Lib.hid (show LK.length ≤ 1300000 ∧ LT.length ≤ 1300000 by have := HNB.out; omega)
          have HGN := Lib.hid (show go + 1 ≤ wq.heap.size from (Array.getElem?_eq_some_iff.1 HROW.out).1)
          have HLM := Lib.hid (show k < m by have := HNM.out; omega)
          clear hLK2 hLT2 hlk2 hlt2 c0 c2 c3 e0 e1 hLK hLT hbx hnx
          go_upto_region 6 with fail
          refine rol_run (by kernel_rfl) [[], [0], [], [2], [], [2, 3, 4], [2, 3, 4, 5], [2, 3, 4, 5, 6], [0, 1, 2, 3, 4, 5, 6, 7], [0, 1, 2, 3, 4, 5, 6, 7, 8], [0, 1, 2, 3, 4, 5, 6, 7, 8, 9]] (by kernel_rfl) [25, 26, 27, 28, 29, 30, 31, 32, 33, 34] [[], [0, 11], [], [2], [], [3, 4], [5], [6], [1, 7, 12], [], [8, 11, 9]] [0, 0, 0, 0, 0, 0, 0, 5, 1, 0, 2, 2, 1, 4] [0, 0, 0, 0, 0, 0, 0, 0, 1, 0, 2] [1000, 1000, 1000, 1000, 1000, 1000, 1000, 1000, 1000, 1000, 1000, 10, 8, 1000] [.val 25 (.pointer (some ⟨go, 0, none⟩)), .val 26 (.slice ax LK.length cx), .val 27 (.pointer (some ⟨gs, 0, none⟩)), .val 28 (.slice (some ⟨bk, qk, none⟩) n c), .val 29 (.int .i64 (k : Int)), .val 30 (.pointer (some ⟨bk, qk + k * 2, none⟩)), .val 31 (.agg #[.string (mkB y1), .string (mkB y2)]), .mem 32 (blkG 27 #[.string (mkB y1), .string (mkB y2)] 1), .mem 33 (rowG (go + 1) 27 2 LK2.length (ndsC LK2)), .val 34 (.pointer (some ⟨go, 0, none⟩)), .mem 33 (boxF0 go 25 (.slice ay LT.length cy)), .box (go) (.cells #[.slice ax LK.length cx, .slice ay LT.length cy] 25), .mem 7 (rowX (.slice ax LK.length cx) (go + 1) 27 2 LK.length (ndsC LK)), .mem 7 (rowX (.slice ay LT.length cy) (go + 1) 9 1 LT.length (strC LT))] (by kernel_rfl) ?_ (W.heap.size) (wq.heap.size) rfl HB.out rfl (fun k => if k = go then 2 else if Value.ownBlock (.slice ax LK.length cx) = some k then 1 else if Value.ownBlock (.slice ay LT.length cy) = some k then 4 else 0) ?_ ?_ ?_
          · intro j hj
            have hj3 : j < 14 := hj
            have hj2 : j = 0 ∨ j = 1 ∨ j = 2 ∨ j = 3 ∨ j = 4 ∨ j = 5 ∨ j = 6 ∨ j = 7 ∨ j = 8 ∨ j = 9 ∨ j = 10 ∨ j = 11 ∨ j = 12 ∨ j = 13 := by omega
            clear hj hj3
            rcases hj2 with rfl | rfl | rfl | rfl | rfl | rfl | rfl | rfl | rfl | rfl | rfl | rfl | rfl | rfl
            · exact trivial
            · exact trivial
            · exact trivial
            · exact trivial
            · exact trivial
            · exact trivial
            · exact trivial
            · exact blkG_near
            · exact rowG_near
            · exact trivial
            · exact boxF0_near
            · exact trivial
            · exact rowX_near
            · exact rowX_near
          · intro j hj0 hj
            have hj1 : 11 ≤ j := hj0
            have hj3 : j < 14 := hj
            have hj2 : j = 11 ∨ j = 12 ∨ j = 13 := by omega
            clear hj0 hj hj1 hj3
            rcases hj2 with rfl | rfl | rfl
            · exact ⟨HROW.out, if_pos rfl⟩
            · exact ⟨_, _, rfl, fun b e => ⟨(own_lt HX.out e).2, (if_neg (fun h => own_nebox HX.out HROW.out (by decide) (e.trans (congrArg some h)))).trans (if_pos e)⟩, HX.out, rfl⟩
            · exact ⟨_, _, rfl, fun b e => ⟨(own_lt HY.out e).2, (if_neg (fun h => own_nebox HY.out HROW.out (by decide) (e.trans (congrArg some h)))).trans ((if_neg (fun h => own_apart HX.out HY.out (by decide) b h e)).trans (if_pos e))⟩, HY.out, rfl⟩
          · intro i hi a wx who hG hF
            have hz : a.tmps.size = 92 := hG.size
            have hi3 : i < 11 := hi
            have hi2 : i = 0 ∨ i = 1 ∨ i = 2 ∨ i = 3 ∨ i = 4 ∨ i = 5 ∨ i = 6 ∨ i = 7 ∨ i = 8 ∨ i = 9 ∨ i = 10 := by omega
            clear hi hi3
            rcases hi2 with rfl | rfl | rfl | rfl | rfl | rfl | rfl | rfl | rfl | rfl | rfl
            · exact rol_val rfl rfl rfl (by rw [hz]; decide) (ex_field rfl (eval_slot ((hG.slots 7 (by decide)).trans rfl)) (by go_simp)) hG.below
            · exact rol_val rfl rfl rfl (by rw [hz]; decide) (ex_load rfl (eval_slot (hF 0 (by decide))) (ld_nds (row2 (hF 11 (by decide)).1).1)) hG.below
            · exact rol_val rfl rfl rfl (by rw [hz]; decide) (ex_field rfl (eval_slot ((hG.slots 3 (by decide)).trans rfl)) (by go_simp)) hG.below
            · exact rol_val rfl rfl rfl (by rw [hz]; decide) (ex_load rfl (eval_slot (hF 2 (by decide))) (ld_nds (cell_keep D0.out hG.below))) hG.below
            · exact rol_val rfl rfl rfl (by rw [hz]; decide) (ex_move (Or.inl rfl) (eval_slot ((hG.slots 8 (by decide)).trans rfl))) hG.below
            · exact rol_val rfl rfl rfl (by rw [hz]; decide) (ex_index rfl (eval_slot (hF 3 (by decide))) (eval_slot (hF 4 (by decide))) (idx_nds HLT0.out)) hG.below
            · exact rol_val rfl rfl rfl (by rw [hz]; decide) (ex_load rfl (eval_slot (hF 5 (by decide))) (ld_node (cell_keep Y0.out hG.below) (cell_keep Y1.out hG.below))) hG.below
            · exact rol_newO rfl rfl rfl (by rw [hz]; decide) (x := .cells #[.string (mkB y1), .string (mkB y2)] 27) (v := .slice (some ⟨wx.heap.size, 0, none⟩) 1 1) (ex_slice rfl (vs := #[(0, .agg #[.string (mkB y1), .string (mkB y2)])]) (by simp only [List.map_toArray, List.map_cons, List.map_nil, eval_slot (hF 6 (by decide))]) (by go_simp)) ⟨_, rfl, rfl, heap_alloc_new _ _⟩ hG.below (Nat.le_trans HB.out.size hG.new)
            · obtain ⟨v, ob, hv, hob, b, rfl, rfl, hh⟩ := hF 7 (by decide)
              exact rol_app_nd rfl rfl rfl (by rw [hz]; decide) rfl (hF 12 (by decide)) (eval_slot (hF 1 (by decide))) (eval_slot hv) (blkG.nds hh) (by have := HLB.out; omega) hG.below (Nat.le_succ_of_le (Nat.le_of_eq HGO.out)) (Nat.le_trans HGN.out hG.new) (by rw [HLK2.out, List.length_append]; rfl) HLK2.out
            · exact rol_val rfl rfl rfl (by rw [hz]; decide) (ex_field rfl (eval_slot ((hG.slots 7 (by decide)).trans rfl)) (by go_simp)) hG.below
            · obtain ⟨v, ob, hv, hob, hrow, rfl⟩ := hF 8 (by decide)
              obtain ⟨a9, c9, rfl, -⟩ := ndsO hrow
              obtain ⟨q0, q1, f0, f1⟩ := row2 (hF 11 (by decide)).1
              exact rol_setF0 rfl rfl rfl hv (hF 11 (by decide)) (Nat.le_of_eq HGO.out) (ex_store rfl (eval_slot (hF 9 (by decide))) (eval_slot hv) (st_nds q0 f0)) hG.below
          · intro a wx who hG hF
            obtain ⟨v33, ob33, fv33, fo33, fp33⟩ := hF 8 (of_decide_eq_true (by kernel_rfl)) (of_decide_eq_true (by kernel_rfl))
            replace fv33 : a.tmps.getD 33 undef = v33 := eval_slot (s := 33) fv33
            have hbox := hF 10 (of_decide_eq_true (by kernel_rfl)) (of_decide_eq_true (by kernel_rfl))
            have hother := hF 13 (of_decide_eq_true (by kernel_rfl)) (of_decide_eq_true (by kernel_rfl))
            obtain ⟨p9, ob9, hp9, -, -, hrow9⟩ := hbox
            have e9 : v33 = p9 := fv33.symm.trans (eval_slot hp9)
            subst e9
            obtain ⟨_, _, _, _, hoth, _⟩ := hother
            obtain ⟨hnew, -⟩ := fp33
            clear hp9 ob9 fo33
            have hbx := hG.below
            have hnx := hG.new
            rw [hG.frame]
            simp only [List.foldl_cons, List.foldl_nil, List.setIfInBounds_toArray, List.set_cons_zero, List.set_cons_succ]
            generalize a.tmps.getD 25 undef = u25
            generalize a.tmps.getD 26 undef = u26
            generalize a.tmps.getD 27 undef = u27
            generalize a.tmps.getD 28 undef = u28
            generalize a.tmps.getD 29 undef = u29
            generalize a.tmps.getD 30 undef = u30
            generalize a.tmps.getD 31 undef = u31
            generalize a.tmps.getD 32 undef = u32
            rw [fv33]
            generalize a.tmps.getD 34 undef = u34
            clear hF hG fv33
            obtain ⟨ax2, cx2, rfl, -⟩ := ndsO hnew
            obtain ⟨wv, hwv⟩ : ∃ w, w = wx := ⟨_, rfl⟩
            subst hwv
            replace HX := Lib.hid hnew; replace HY := Lib.hid hoth; replace HROW := Lib.hid hrow9; replace HB := Lib.hid hbx
            replace HGN := Lib.hid (show go + 1 ≤ wv.heap.size from (Array.getElem?_eq_some_iff.1 HROW.out).1)
            clear hnew hoth hrow9 hbx hnx
            go_upto_region 7 with fail
            refine rol_run (by kernel_rfl) [[], [0], [], [2], [], [2, 3, 4], [2, 3, 4, 5], [2, 3, 4, 5, 6], [0, 1, 2, 3, 4, 5, 6, 7], [0, 1, 2, 3, 4, 5, 6, 7, 8], [0, 1, 2, 3, 4, 5, 6, 7, 8, 9]] (by kernel_rfl) [35, 36, 37, 38, 39, 40, 41, 42, 43, 44] [[], [0, 11], [], [2], [], [3, 4], [5], [6], [1, 7, 12], [], [8, 11, 9]] [0, 0, 0, 0, 0, 0, 0, 5, 1, 0, 2, 2, 1, 4] [0, 0, 0, 0, 0, 0, 0, 0, 1, 0, 2] [1000, 1000, 1000, 1000, 1000, 1000, 1000, 1000, 1000, 1000, 1000, 10, 8, 1000] [.val 35 (.pointer (some ⟨go, 1, none⟩)), .val 36 (.slice ay LT.length cy), .val 37 (.pointer (some ⟨gs, 1, none⟩)), .val 38 (.slice (some ⟨bt, qt, none⟩) m d), .val 39 (.int .i64 (k : Int)), .val 40 (.pointer (some ⟨bt, qt + k, none⟩)), .val 41 (.string (mkB yt)), .mem 42 (blkG 9 #[.string (mkB yt)] 1), .mem 43 (rowG (go + 1) 9 1 LT2.length (strC LT2)), .val 44 (.pointer (some ⟨go, 1, none⟩)), .mem 43 (boxF1 go 25 (.slice ax2 LK2.length cx2)), .box (go) (.cells #[.slice ax2 LK2.length cx2, .slice ay LT.length cy] 25), .mem 7 (rowX (.slice ay LT.length cy) (go + 1) 9 1 LT.length (strC LT)), .mem 7 (rowX (.slice ax2 LK2.length cx2) (go + 1) 27 2 LK2.length (ndsC LK2))] (by kernel_rfl) ?_ (W.heap.size) (wv.heap.size) rfl HB.out rfl (fun k => if k = go then 2 else if Value.ownBlock (.slice ay LT.length cy) = some k then 1 else if Value.ownBlock (.slice ax2 LK2.length cx2) = some k then 4 else 0) ?_ ?_ ?_
            · intro j hj
              have hj3 : j < 14 := hj
              have hj2 : j = 0 ∨ j = 1 ∨ j = 2 ∨ j = 3 ∨ j = 4 ∨ j = 5 ∨ j = 6 ∨ j = 7 ∨ j = 8 ∨ j = 9 ∨ j = 10 ∨ j = 11 ∨ j = 12 ∨ j = 13 := by omega
              clear hj hj3
              rcases hj2 with rfl | rfl | rfl | rfl | rfl | rfl | rfl | rfl | rfl | rfl | rfl | rfl | rfl | rfl
              · exact trivial
              · exact trivial
              · exact trivial
              · exact trivial
              · exact trivial
              · exact trivial
              · exact trivial
              · exact blkG_near
              · exact rowG_near
              · exact trivial
              · exact boxF1_near
              · exact trivial
              · exact rowX_near
              · exact rowX_near
            · intro j hj0 hj
              have hj1 : 11 ≤ j := hj0
              have hj3 : j < 14 := hj
              have hj2 : j = 11 ∨ j = 12 ∨ j = 13 := by omega
              clear hj0 hj hj1 hj3
              rcases hj2 with rfl | rfl | rfl
              · exact ⟨HROW.out, if_pos rfl⟩
              · exact ⟨_, _, rfl, fun b e => ⟨(own_lt HY.out e).2, (if_neg (fun h => own_nebox HY.out HROW.out (by decide) (e.trans (congrArg some h)))).trans (if_pos e)⟩, HY.out, rfl⟩
              · exact ⟨_, _, rfl, fun b e => ⟨(own_lt HX.out e).2, (if_neg (fun h => own_nebox HX.out HROW.out (by decide) (e.trans (congrArg some h)))).trans ((if_neg (fun h => own_apart HY.out HX.out (by decide) b h e)).trans (if_pos e))⟩, HX.out, rfl⟩
            · intro i hi a wx who hG hF
              have hz : a.tmps.size = 92 := hG.size
              have hi3 : i < 11 := hi
              have hi2 : i = 0 ∨ i = 1 ∨ i = 2 ∨ i = 3 ∨ i = 4 ∨ i = 5 ∨ i = 6 ∨ i = 7 ∨ i = 8 ∨ i = 9 ∨ i = 10 := by omega
              clear hi hi3
              rcases hi2 with rfl | rfl | rfl | rfl | rfl | rfl | rfl | rfl | rfl | rfl | rfl
              · exact rol_val rfl rfl rfl (by rw [hz]; decide) (ex_field rfl (eval_slot ((hG.slots 7 (by decide)).trans rfl)) (by go_simp)) hG.below
              · exact rol_val rfl rfl rfl (by rw [hz]; decide) (ex_load rfl (eval_slot (hF 0 (by decide))) (ld_sts (row2 (hF 11 (by decide)).1).2.1)) hG.below
              · exact rol_val rfl rfl rfl (by rw [hz]; decide) (ex_field rfl (eval_slot ((hG.slots 3 (by decide)).trans rfl)) (by go_simp)) hG.below
              · exact rol_val rfl rfl rfl (by rw [hz]; decide) (ex_load rfl (eval_slot (hF 2 (by decide))) (ld_sts (cell_keep D1.out hG.below))) hG.below
              · exact rol_val rfl rfl rfl (by rw [hz]; decide) (ex_move (Or.inl rfl) (eval_slot ((hG.slots 8 (by decide)).trans rfl))) hG.below
              · exact rol_val rfl rfl rfl (by rw [hz]; decide) (ex_index rfl (eval_slot (hF 3 (by decide))) (eval_slot (hF 4 (by decide))) (idx_sts HLM.out)) hG.below
              · exact rol_val rfl rfl rfl (by rw [hz]; decide) (ex_load rfl (eval_slot (hF 5 (by decide))) (ld_str (cell_keep YT.out hG.below))) hG.below
              · exact rol_newO rfl rfl rfl (by rw [hz]; decide) (x := .cells #[.string (mkB yt)] 9) (v := .slice (some ⟨wx.heap.size, 0, none⟩) 1 1) (ex_slice rfl (vs := #[(0, .string (mkB yt))]) (by simp only [List.map_toArray, List.map_cons, List.map_nil, eval_slot (hF 6 (by decide))]) (by go_simp)) ⟨_, rfl, rfl, heap_alloc_new _ _⟩ hG.below (Nat.le_trans HB.out.size hG.new)
              · obtain ⟨v, ob, hv, hob, b, rfl, rfl, hh⟩ := hF 7 (by decide)
                exact rol_app_st rfl rfl rfl (by rw [hz]; decide) rfl (hF 12 (by decide)) (eval_slot (hF 1 (by decide))) (eval_slot hv) (blkG.strs hh) (by have := HLB.out; omega) hG.below (Nat.le_succ_of_le (Nat.le_of_eq HGO.out)) (Nat.le_trans HGN.out hG.new) (by rw [HLT2.out, List.length_append]; rfl) HLT2.out
              · exact rol_val rfl rfl rfl (by rw [hz]; decide) (ex_field rfl (eval_slot ((hG.slots 7 (by decide)).trans rfl)) (by go_simp)) hG.below
              · obtain ⟨v, ob, hv, hob, hrow, rfl⟩ := hF 8 (by decide)
                obtain ⟨a9, c9, rfl, -⟩ := stsO hrow
                obtain ⟨q0, q1, f0, f1⟩ := row2 (hF 11 (by decide)).1
                exact rol_setF1 rfl rfl rfl hv (hF 11 (by decide)) (Nat.le_of_eq HGO.out) (ex_store rfl (eval_slot (hF 9 (by decide))) (eval_slot hv) (st_sts q1 f1)) hG.below
            · intro a wx who hG hF
              obtain ⟨v43, ob43, fv43, fo43, fp43⟩ := hF 8 (of_decide_eq_true (by kernel_rfl)) (of_decide_eq_true (by kernel_rfl))
              replace fv43 : a.tmps.getD 43 undef = v43 := eval_slot (s := 43) fv43
              have hbox := hF 10 (of_decide_eq_true (by kernel_rfl)) (of_decide_eq_true (by kernel_rfl))
              have hother := hF 13 (of_decide_eq_true (by kernel_rfl)) (of_decide_eq_true (by kernel_rfl))
              obtain ⟨p9, ob9, hp9, -, -, hrow9⟩ := hbox
              have e9 : v43 = p9 := fv43.symm.trans (eval_slot hp9)
              subst e9
              obtain ⟨_, _, _, _, hoth, _⟩ := hother
              obtain ⟨hnew, -⟩ := fp43
              clear hp9 ob9 fo43
              have hbx := hG.below
              have hnx := hG.new
              rw [hG.frame]
              simp only [List.foldl_cons, List.foldl_nil, List.setIfInBounds_toArray, List.set_cons_zero, List.set_cons_succ]
              generalize a.tmps.getD 35 undef = u35
              generalize a.tmps.getD 36 undef = u36
              generalize a.tmps.getD 37 undef = u37
              generalize a.tmps.getD 38 undef = u38
              generalize a.tmps.getD 39 undef = u39
              generalize a.tmps.getD 40 undef = u40
              generalize a.tmps.getD 41 undef = u41
              generalize a.tmps.getD 42 undef = u42
              rw [fv43]
              generalize a.tmps.getD 44 undef = u44
              clear hF hG fv43
              have HX3 := Lib.hid hoth; have HY3 := Lib.hid hnew; have HR3 := Lib.hid hrow9; have HB3 := Lib.hid hbx
              clear hnew hoth hrow9 hbx hnx
              obtain ⟨hl1, hl2⟩ := HLEN.out
              go_wp2
              go_roundw
              case rel => exact ⟨k + 1, LK2, LT2, _, _, by omega, by go_num, hl1, hl2, HKF, HTF, HX3, HY3, HR3, HB3⟩
              case measure => simp [intOf]; omega
    · have hfin : (K.zip T).take k = K.zip T := List.take_of_length_le (by rw [List.length_zip, HK.out]; omega)
      rw [hfin] at HLK HLT
      have hkn : k = n := by omega
      have HLB := Lib.hid (show LK.length ≤ 600000 ∧ LT.length ≤ 600000 by have := HNB.out; omega)
      have HGN := Lib.hid (show go + 1 ≤ wr.heap.size from (Array.getElem?_eq_some_iff.1 HROW.out).1)
      have HKN := Lib.hid (show LK.length ≤ n ∧ LT.length ≤ n by omega)
      obtain ⟨nk, hnk⟩ : ∃ j, LK.length = j := ⟨_, rfl⟩
      obtain ⟨nt, hnt⟩ : ∃ j, LT.length = j := ⟨_, rfl⟩
      rw [hnk, hnt] at HLB HKN
      rw [hnk] at HX HROW
      rw [hnt] at HY HROW
      have HNK := Lib.hid hnk; have HNT := Lib.hid hnt
      obtain ⟨q0, q1, f0, f1⟩ := row2 HROW.out
      have hbig := HLB.out
      clear hkn hnk hnt hfin hLK hLT
      go_upto_region 9 with (at_builtin; refine wpList_push_nd rfl _ _ rfl (go + 1) _ LK nk HNK.out rfl HX.out p v _ rfl rfl (by omega) HGN.out ?_; intro a3 c3' w3 hown3 hg3; have hrow3 := grown_row hg3 HROW.out (own_ne HX.out (Nat.lt_succ_self _)); have HY3 := Lib.hid (own_kept HY.out HX.out (by decide) hg3); have HB3 := Lib.hid (HB.out.grown hg3 HB.out.size (fun b e => by have := (own_lt HX.out e).1; have := HGO.out; omega)); obtain ⟨q0, q1, f0, f1⟩ := row2 hrow3; have HROW3 := Lib.hid hrow3; have HX3 := Lib.hid hown3; clear hrow3 hown3 hg3)
      obtain ⟨wv, hwv⟩ : ∃ wv, w3.setCell ⟨go, 0, none⟩ (.slice a3 (nk + 1) c3') = wv := ⟨_, rfl⟩
      have hrow4 := row2_set0 HROW3.out (.slice a3 (nk + 1) c3')
      have hx4 := row_far1 HX3.out (Nat.lt_succ_self go) (i := 0) (.slice a3 (nk + 1) c3')
      have hy4 := row_far1 HY3.out (Nat.lt_succ_self go) (i := 0) (.slice a3 (nk + 1) c3')
      have hb4 : Below W.heap.size W (w3.setCell ⟨go, 0, none⟩ (.slice a3 (nk + 1) c3')) := HB3.out.setCell (Nat.le_of_eq HGO.out) _
      rw [hwv] at hrow4 hx4 hy4 hb4 ⊢
      replace HX := Lib.hid hx4; replace HY := Lib.hid hy4; replace HROW := Lib.hid hrow4; replace HB := Lib.hid hb4
      replace HGN := Lib.hid (show go + 1 ≤ wv.heap.size from (Array.getElem?_eq_some_iff.1 hrow4).1)
      clear hrow4 hx4 hy4 hb4 hwv HX3 HY3 HROW3 HB3 q0 q1 f0 f1 c0 c2 c3
      obtain ⟨q0, q1, f0, f1⟩ := row2 HROW.out
      go_upto_region 10 with (at_builtin; refine wpList_push_st rfl _ _ rfl (go + 1) _ LT nt HNT.out rfl HY.out t _ rfl rfl (by omega) HGN.out ?_; intro a5 c5 w5 hown3 hg3; have hrow3 := grown_row hg3 HROW.out (own_ne HY.out (Nat.lt_succ_self _)); have HX3 := Lib.hid (own_kept HX.out HY.out (by decide) hg3); have HB3 := Lib.hid (HB.out.grown hg3 HB.out.size (fun b e => by have := (own_lt HY.out e).1; have := HGO.out; omega)); obtain ⟨q0, q1, f0, f1⟩ := row2 hrow3; have HROW3 := Lib.hid hrow3; have HY3 := Lib.hid hown3; clear hrow3 hown3 hg3)
      obtain ⟨wz, hwz⟩ : ∃ wz, w5.setCell ⟨go, 1, none⟩ (.slice a5 (nt + 1) c5) = wz := ⟨_, rfl⟩
      have hrow4 := row2_set1 HROW3.out (.slice a5 (nt + 1) c5)
      have hx4 := row_far1 HX3.out (Nat.lt_succ_self go) (i := 1) (.slice a5 (nt + 1) c5)
      have hy4 := row_far1 HY3.out (Nat.lt_succ_self go) (i := 1) (.slice a5 (nt + 1) c5)
      have hb4 : Below W.heap.size W (w5.setCell ⟨go, 1, none⟩ (.slice a5 (nt + 1) c5)) := HB3.out.setCell (Nat.le_of_eq HGO.out) _
      rw [hwz] at hrow4 hx4 hy4 hb4 ⊢
      obtain ⟨LK1, hLK1⟩ : ∃ L, L = LK ++ [(p, v)] := ⟨_, rfl⟩
      obtain ⟨LT1, hLT1⟩ : ∃ L, L = LT ++ [t] := ⟨_, rfl⟩
      rw [← hLK1] at hx4
      rw [← hLT1] at hy4
      have hl1 : LK1.length = nk + 1 := by rw [hLK1, List.length_append, HNK.out]; rfl
      have hl2 : LT1.length = nt + 1 := by rw [hLT1, List.length_append, HNT.out]; rfl
      rw [← hl1] at hx4 hrow4
      rw [← hl2] at hy4 hrow4
      obtain ⟨PRE, hPRE⟩ : ∃ P, P = ((K.zip T).filter fun x => ltN x.1 (p, v)) ++ [((p, v), t)] := ⟨_, rfl⟩
      have HF1 := Lib.hid (show LK1 = (PRE ++ ((K.zip T).take 0).filter fun x => ltN (p, v) x.1).map Prod.fst by rw [hLK1, hPRE, HLK.out]; simp)
      have HF2 := Lib.hid (show LT1 = (PRE ++ ((K.zip T).take 0).filter fun x => ltN (p, v) x.1).map Prod.snd by rw [hLT1, hPRE, HLT.out]; simp)
      have HPRE := Lib.hid hPRE
      have hb1 : LK1.length ≤ 0 + (n + 1) := by have := HKN.out; omega
      have hb2 : LT1.length ≤ 0 + (n + 1) := by have := HKN.out; omega
      have HX0 := Lib.hid hx4; have HY0 := Lib.hid hy4; have HR0 := Lib.hid hrow4; have HB0 := Lib.hid hb4
      clear hrow4 hx4 hy4 hb4 hwz HX3 HY3 HROW3 HB3 q0 q1 f0 f1 hLK1 hLT1 hl1 hl2 hPRE HX HY HROW HB HLK HLT hbig HLB HKN HNK HNT HGN HROW2 HB2 hk hlt
      go_wp2
      go_loopw [9] (fun i wr => ∃ (k : Nat) (LK : List Nd) (LT : List (List UInt8)) (x y : Value), k ≤ n ∧ i = .int .i64 k ∧ LK.length ≤ k + (n + 1) ∧ LT.length ≤ k + (n + 1) ∧ Hid (LK = (PRE ++ ((K.zip T).take k).filter fun x => ltN (p, v) x.1).map Prod.fst) ∧ Hid (LT = (PRE ++ ((K.zip T).take k).filter fun x => ltN (p, v) x.1).map Prod.snd) ∧ Hid (wr.ownsRow (go + 1) 27 2 x LK.length (ndsC LK)) ∧ Hid (wr.ownsRow (go + 1) 9 1 y LT.length (strC LT)) ∧ Hid (wr.heap[go]? = some (.cells #[x, y] 25 (0, 0))) ∧ Hid (Below W.heap.size W wr)) (fun i _ => n - (intOf i).toNat)
      case atStart => exact ⟨0, LK1, LT1, _, _, Nat.zero_le _, rfl, hb1, hb2, HF1, HF2, HX0, HY0, HR0, HB0⟩
      case round =>
        obtain ⟨k, LK, LT, x, y, hk, rfl, hLK, hLT, HLK, HLT, HX, HY, HROW, HB⟩ := hrel
        obtain ⟨ax, cx, rfl, -⟩ := ndsO HX.out
        obtain ⟨ay, cy, rfl, -⟩ := stsO HY.out
        have c0 := cell_keep D0.out HB.out
        have c2 := cell_keep D2.out HB.out
        have c3 := cell_keep D3.out HB.out
        by_cases hlt : k < n
        · have hkl : k < K.length := by rw [HK.out]; exact hlt
          have hktl : k < T.length := by rw [HT.out, ← HNM.out]; exact hlt
          obtain ⟨hz, hze⟩ := zip_at (K := K) (T := T) (by rw [HK.out, HT.out]; exact HNM.out) hkl
          have hst := filt_take (f := fun x => ltN (p, v) x.1) hz
          rw [hze] at hst
          obtain ⟨bk, qk, rfl, -, hy0, hy1⟩ := SK.out.at k hkl
          obtain ⟨bt, qt, rfl, -, hyt⟩ := strs_at ST.out k hktl
          obtain ⟨yn, hyn⟩ : ∃ yn, K.getD k ([], []) = yn := ⟨_, rfl⟩
          obtain ⟨yt, hytn⟩ : ∃ yt, T.getD k [] = yt := ⟨_, rfl⟩
          have hsy : smallN yn := by rw [← hyn]; exact HS.out _ (nd_mem hkl)
          have hoy : okN yn = true := by rw [← hyn]; exact HKO.out _ (nd_mem hkl)
          rw [hyn] at hy0 hy1 hst
          rw [hytn] at hyt hst
          obtain ⟨y1, y2⟩ := yn
          simp only at hy0 hy1 hst
          have Y0 := Lib.hid hy0; have Y1 := Lib.hid hy1; have YT := Lib.hid hyt; have HST := Lib.hid hst; have HSY := Lib.hid hsy; have HOY := Lib.hid hoy
          have e0 := cell_keep Y0.out HB.out
          have e1 := cell_keep Y1.out HB.out
          clear hy0 hy1 hyt hst hyn hytn hze hz hkl hktl hsy hoy
          have HLT0 := Lib.hid hlt
          obtain ⟨o, ho⟩ : ∃ o, ltN (p, v) (y1, y2) = o := ⟨_, rfl⟩
          have HO := Lib.hid ho; clear ho
          have hkb : (k : Int) < (n : Int) := by omega
          cases o
          · go_upto_region 13 with fail
            refine rol_run (by kernel_rfl) [[], [], [1], [], [1, 2, 3], [1, 2, 3, 4], [0, 1, 2, 3, 4, 5]] (by kernel_rfl) [64, 65, 66, 67, 68, 69, 70] [[], [], [1], [], [2, 3], [4], [5, 0]] [0, 0, 0, 0, 0, 0, 0] [0, 0, 0, 0, 0, 0, 0] [1000, 1000, 1000, 1000, 1000, 1000, 1000] [.val 64 (.agg #[.string (mkB p), .string (mkB v)]), .val 65 (.pointer (some ⟨gs, 0, none⟩)), .val 66 (.slice (some ⟨bk, qk, none⟩) n c), .val 67 (.int .i64 (k : Int)), .val 68 (.pointer (some ⟨bk, qk + k * 2, none⟩)), .val 69 (.agg #[.string (mkB y1), .string (mkB y2)]), .val 70 (.bool false)] (by kernel_rfl) ?_ (wr.heap.size) (wr.heap.size) rfl (Below.refl _ _) rfl (fun _ => 0) ?_ ?_ ?_
            · intro j hj
              have hj3 : j < 7 := hj
              have hj2 : j = 0 ∨ j = 1 ∨ j = 2 ∨ j = 3 ∨ j = 4 ∨ j = 5 ∨ j = 6 := by omega
              clear hj hj3
              rcases hj2 with rfl | rfl | rfl | rfl | rfl | rfl | rfl
              · exact trivial
              · exact trivial
              · exact trivial
              · exact trivial
              · exact trivial
              · exact trivial
              · exact trivial
            · intro j hj0 hj
              exact absurd hj (Nat.not_lt.2 hj0)
            · intro i hi a wx who hG hF
              have hz : a.tmps.size = 92 := hG.size
              have hi3 : i < 7 := hi
              have hi2 : i = 0 ∨ i = 1 ∨ i = 2 ∨ i = 3 ∨ i = 4 ∨ i = 5 ∨ i = 6 := by omega
              clear hi hi3
              rcases hi2 with rfl | rfl | rfl | rfl | rfl | rfl | rfl
              · exact rol_val rfl rfl rfl (by rw [hz]; decide) (ex_load rfl (eval_slot ((hG.slots 4 (by decide)).trans rfl)) (ld_node (cell_keep c2 hG.below) (cell_keep c3 hG.below))) hG.below
              · exact rol_val rfl rfl rfl (by rw [hz]; decide) (ex_field rfl (eval_slot ((hG.slots 3 (by decide)).trans rfl)) (by go_simp)) hG.below
              · exact rol_val rfl rfl rfl (by rw [hz]; decide) (ex_load rfl (eval_slot (hF 1 (by decide))) (ld_nds (cell_keep c0 hG.below))) hG.below
              · exact rol_val rfl rfl rfl (by rw [hz]; decide) (ex_move (Or.inl rfl) (eval_slot ((hG.slots 9 (by decide)).trans rfl))) hG.below
              · exact rol_val rfl rfl rfl (by rw [hz]; decide) (ex_index rfl (eval_slot (hF 2 (by decide))) (eval_slot (hF 3 (by decide))) (idx_nds HLT0.out)) hG.below
              · exact rol_val rfl rfl rfl (by rw [hz]; decide) (ex_load rfl (eval_slot (hF 4 (by decide))) (ld_node (cell_keep e0 hG.below) (cell_keep e1 hG.below))) hG.below
              · refine rol_call rfl rfl rfl (by rw [hz]; decide) (ex_call rfl (by simp [eval_slot (hF 5 (by decide)), eval_slot (hF 0 (by decide))]) e9) (refless_any p v y1 y2 wx HSN.out.1 HSN.out.2 HSY.out.1 HSY.out.2 HON.out HOY.out) ?_ hG.below hG.new
                rintro e w1 ⟨rfl, hb1⟩
                rw [HO.out]
                exact ⟨_, rfl, hb1, .inl rfl⟩
            · intro a wx who hG hF
              have fv70 : a.tmps.getD 70 undef = .bool false := eval_slot (s := 70) (hF 6 (of_decide_eq_true (by kernel_rfl)) (of_decide_eq_true (by kernel_rfl)))
              have hbx := hG.below
              have hnx := hG.new
              rw [hG.frame]
              simp only [List.foldl_cons, List.foldl_nil, List.setIfInBounds_toArray, List.set_cons_zero, List.set_cons_succ]
              generalize a.tmps.getD 64 undef = u64
              generalize a.tmps.getD 65 undef = u65
              generalize a.tmps.getD 66 undef = u66
              generalize a.tmps.getD 67 undef = u67
              generalize a.tmps.getD 68 undef = u68
              generalize a.tmps.getD 69 undef = u69
              rw [fv70]
              clear hF hG fv70
              have HLK2 : Hid (LK = (PRE ++ ((K.zip T).take (k + 1)).filter fun x => ltN (p, v) x.1).map Prod.fst) := Lib.hid (by rw [HST.out, HO.out, HLK.out]; simp)
              have HLT2 : Hid (LT = (PRE ++ ((K.zip T).take (k + 1)).filter fun x => ltN (p, v) x.1).map Prod.snd) := Lib.hid (by rw [HST.out, HO.out, HLT.out]; simp)
              have HB3 := Lib.hid (below_step HB.out hbx)
              have HX3 := Lib.hid (ownsRow_belowB HX.out hbx)
              have HY3 := Lib.hid (ownsRow_belowB HY.out hbx)
              have HR3 := Lib.hid (row_keepB HROW.out hbx)
              clear hbx hnx
              go_wp2
              go_roundw
              case rel => exact ⟨k + 1, LK, LT, _, _, by omega, by go_num, by omega, by omega, HLK2, HLT2, HX3, HY3, HR3, HB3⟩
              case measure => simp [intOf]; omega
          · go_upto_region 13 with fail
            refine rol_run (by kernel_rfl) [[], [], [1], [], [1, 2, 3], [1, 2, 3, 4], [0, 1, 2, 3, 4, 5]] (by kernel_rfl) [64, 65, 66, 67, 68, 69, 70] [[], [], [1], [], [2, 3], [4], [5, 0]] [0, 0, 0, 0, 0, 0, 0] [0, 0, 0, 0, 0, 0, 0] [1000, 1000, 1000, 1000, 1000, 1000, 1000] [.val 64 (.agg #[.string (mkB p), .string (mkB v)]), .val 65 (.pointer (some ⟨gs, 0, none⟩)), .val 66 (.slice (some ⟨bk, qk, none⟩) n c), .val 67 (.int .i64 (k : Int)), .val 68 (.pointer (some ⟨bk, qk + k * 2, none⟩)), .val 69 (.agg #[.string (mkB y1), .string (mkB y2)]), .val 70 (.bool true)] (by kernel_rfl) ?_ (wr.heap.size) (wr.heap.size) rfl (Below.refl _ _) rfl (fun _ => 0) ?_ ?_ ?_
            · intro j hj
              have hj3 : j < 7 := hj
              have hj2 : j = 0 ∨ j = 1 ∨ j = 2 ∨ j = 3 ∨ j = 4 ∨ j = 5 ∨ j = 6 := by omega
              clear hj hj3
              rcases hj2 with rfl | rfl | rfl | rfl | rfl | rfl | rfl
              · exact trivial
              · exact trivial
              · exact trivial
              · exact trivial
              · exact trivial
              · exact trivial
              · exact trivial
            · intro j hj0 hj
              exact absurd hj (Nat.not_lt.2 hj0)
            · intro i hi a wx who hG hF
              have hz : a.tmps.size = 92 := hG.size
              have hi3 : i < 7 := hi
              have hi2 : i = 0 ∨ i = 1 ∨ i = 2 ∨ i = 3 ∨ i = 4 ∨ i = 5 ∨ i = 6 := by omega
              clear hi hi3
              rcases hi2 with rfl | rfl | rfl | rfl | rfl | rfl | rfl
              · exact rol_val rfl rfl rfl (by rw [hz]; decide) (ex_load rfl (eval_slot ((hG.slots 4 (by decide)).trans rfl)) (ld_node (cell_keep c2 hG.below) (cell_keep c3 hG.below))) hG.below
              · exact rol_val rfl rfl rfl (by rw [hz]; decide) (ex_field rfl (eval_slot ((hG.slots 3 (by decide)).trans rfl)) (by go_simp)) hG.below
              · exact rol_val rfl rfl rfl (by rw [hz]; decide) (ex_load rfl (eval_slot (hF 1 (by decide))) (ld_nds (cell_keep c0 hG.below))) hG.below
              · exact rol_val rfl rfl rfl (by rw [hz]; decide) (ex_move (Or.inl rfl) (eval_slot ((hG.slots 9 (by decide)).trans rfl))) hG.below
              · exact rol_val rfl rfl rfl (by rw [hz]; decide) (ex_index rfl (eval_slot (hF 2 (by decide))) (eval_slot (hF 3 (by decide))) (idx_nds HLT0.out)) hG.below
              · exact rol_val rfl rfl rfl (by rw [hz]; decide) (ex_load rfl (eval_slot (hF 4 (by decide))) (ld_node (cell_keep e0 hG.below) (cell_keep e1 hG.below))) hG.below
              · refine rol_call rfl rfl rfl (by rw [hz]; decide) (ex_call rfl (by simp [eval_slot (hF 5 (by decide)), eval_slot (hF 0 (by decide))]) e9) (refless_any p v y1 y2 wx HSN.out.1 HSN.out.2 HSY.out.1 HSY.out.2 HON.out HOY.out) ?_ hG.below hG.new
                rintro e w1 ⟨rfl, hb1⟩
                rw [HO.out]
                exact ⟨_, rfl, hb1, .inl rfl⟩
            · intro a wx who hG hF
              have fv70 : a.tmps.getD 70 undef = .bool true := eval_slot (s := 70) (hF 6 (of_decide_eq_true (by kernel_rfl)) (of_decide_eq_true (by kernel_rfl)))
              have hbx := hG.below
              have hnx := hG.new
              rw [hG.frame]
              simp only [List.foldl_cons, List.foldl_nil, List.setIfInBounds_toArray, List.set_cons_zero, List.set_cons_succ]
              generalize a.tmps.getD 64 undef = u64
              generalize a.tmps.getD 65 undef = u65
              generalize a.tmps.getD 66 undef = u66
              generalize a.tmps.getD 67 undef = u67
              generalize a.tmps.getD 68 undef = u68
              generalize a.tmps.getD 69 undef = u69
              rw [fv70]
              clear hF hG fv70
              obtain ⟨wq, hwq⟩ : ∃ w, w = wx := ⟨_, rfl⟩
              subst hwq
              replace HX := Lib.hid (ownsRow_belowB HX.out hbx); replace HY := Lib.hid (ownsRow_belowB HY.out hbx); replace HROW := Lib.hid (row_keepB HROW.out hbx); replace HB := Lib.hid (below_step HB.out hbx)
              obtain ⟨LK2, hLK2⟩ : ∃ L, L = LK ++ [(y1, y2)] := ⟨_, rfl⟩
              obtain ⟨LT2, hLT2⟩ : ∃ L, L = LT ++ [yt] := ⟨_, rfl⟩
              have hlk2 : LK2.length = LK.length + 1 := by rw [hLK2, List.length_append]; rfl
              have hlt2 : LT2.length = LT.length + 1 := by rw [hLT2, List.length_append]; rfl
              have HKF := Lib.hid (show LK2 = (PRE ++ ((K.zip T).take (k + 1)).filter fun x => ltN (p, v) x.1).map Prod.fst by rw [hLK2, HST.out, HO.out, HLK.out]; simp)
              have HTF := Lib.hid (show LT2 = (PRE ++ ((K.zip T).take (k + 1)).filter fun x => ltN (p, v) x.1).map Prod.snd by rw [hLT2, HST.out, HO.out, HLT.out]; simp)
              have HLK2 := Lib.hid hLK2; have HLT2 := Lib.hid hLT2; have HLEN := Lib.hid (show LK2.length ≤ k + 1 + (n + 1) ∧ LT2.length ≤ k + 1 + (n + 1) by omega)
              have HLB := Lib.hid (show LK.length ≤ 1300000 ∧ LT.length ≤ 1300000 by have := HNB.out; omega)
              have HGN := Lib.hid (show go + 1 ≤ wq.heap.size from (Array.getElem?_eq_some_iff.1 HROW.out).1)
              have HLM := Lib.hid (show k < m by have := HNM.out; omega)
              clear hLK2 hLT2 hlk2 hlt2 c0 c2 c3 e0 e1 hLK hLT hbx hnx
              go_upto_region 14 with fail
              refine rol_run (by kernel_rfl) [[], [0], [], [2], [], [2, 3, 4], [2, 3, 4, 5], [2, 3, 4, 5, 6], [0, 1, 2, 3, 4, 5, 6, 7], [0, 1, 2, 3, 4, 5, 6, 7, 8], [0, 1, 2, 3, 4, 5, 6, 7, 8, 9]] (by kernel_rfl) [71, 72, 73, 74, 75, 76, 77, 78, 79, 80] [[], [0, 11], [], [2], [], [3, 4], [5], [6], [1, 7, 12], [], [8, 11, 9]] [0, 0, 0, 0, 0, 0, 0, 5, 1, 0, 2, 2, 1, 4] [0, 0, 0, 0, 0, 0, 0, 0, 1, 0, 2] [1000, 1000, 1000, 1000, 1000, 1000, 1000, 1000, 1000, 1000, 1000, 10, 8, 1000] [.val 71 (.pointer (some ⟨go, 0, none⟩)), .val 72 (.slice ax LK.length cx), .val 73 (.pointer (some ⟨gs, 0, none⟩)), .val 74 (.slice (some ⟨bk, qk, none⟩) n c), .val 75 (.int .i64 (k : Int)), .val 76 (.pointer (some ⟨bk, qk + k * 2, none⟩)), .val 77 (.agg #[.string (mkB y1), .string (mkB y2)]), .mem 78 (blkG 27 #[.string (mkB y1), .string (mkB y2)] 1), .mem 79 (rowG (go + 1) 27 2 LK2.length (ndsC LK2)), .val 80 (.pointer (some ⟨go, 0, none⟩)), .mem 79 (boxF0 go 25 (.slice ay LT.length cy)), .box (go) (.cells #[.slice ax LK.length cx, .slice ay LT.length cy] 25), .mem 7 (rowX (.slice ax LK.length cx) (go + 1) 27 2 LK.length (ndsC LK)), .mem 7 (rowX (.slice ay LT.length cy) (go + 1) 9 1 LT.length (strC LT))] (by kernel_rfl) ?_ (W.heap.size) (wq.heap.size) rfl HB.out rfl (fun k => if k = go then 2 else if Value.ownBlock (.slice ax LK.length cx) = some k then 1 else if Value.ownBlock (.slice ay LT.length cy) = some k then 4 else 0) ?_ ?_ ?_
              · intro j hj
                have hj3 : j < 14 := hj
                have hj2 : j = 0 ∨ j = 1 ∨ j = 2 ∨ j = 3 ∨ j = 4 ∨ j = 5 ∨ j = 6 ∨ j = 7 ∨ j = 8 ∨ j = 9 ∨ j = 10 ∨ j = 11 ∨ j = 12 ∨ j = 13 := by omega
                clear hj hj3
                rcases hj2 with rfl | rfl | rfl | rfl | rfl | rfl | rfl | rfl | rfl | rfl | rfl | rfl | rfl | rfl
                · exact trivial
                · exact trivial
                · exact trivial
                · exact trivial
                · exact trivial
                · exact trivial
                · exact trivial
                · exact blkG_near
                · exact rowG_near
                · exact trivial
                · exact boxF0_near
                · exact trivial
                · exact rowX_near
                · exact rowX_near
              · intro j hj0 hj
                have hj1 : 11 ≤ j := hj0
                have hj3 : j < 14 := hj
                have hj2 : j = 11 ∨ j = 12 ∨ j = 13 := by omega
                clear hj0 hj hj1 hj3
                rcases hj2 with rfl | rfl | rfl
                · exact ⟨HROW.out, if_pos rfl⟩
                · exact ⟨_, _, rfl, fun b e => ⟨(own_lt HX.out e).2, (if_neg (fun h => own_nebox HX.out HROW.out (by decide) (e.trans (congrArg some h)))).trans (if_pos e)⟩, HX.out, rfl⟩
                · exact ⟨_, _, rfl, fun b e => ⟨(own_lt HY.out e).2, (if_neg (fun h => own_nebox HY.out HROW.out (by decide) (e.trans (congrArg some h)))).trans ((if_neg (fun h => own_apart HX.out HY.out (by decide) b h e)).trans (if_pos e))⟩, HY.out, rfl⟩
              · intro i hi a wx who hG hF
                have hz : a.tmps.size = 92 := hG.size
                have hi3 : i < 11 := hi
                have hi2 : i = 0 ∨ i = 1 ∨ i = 2 ∨ i = 3 ∨ i = 4 ∨ i = 5 ∨ i = 6 ∨ i = 7 ∨ i = 8 ∨ i = 9 ∨ i = 10 := by omega
                clear hi hi3
                rcases hi2 with rfl | rfl | rfl | rfl | rfl | rfl | rfl | rfl | rfl | rfl | rfl
                · exact rol_val rfl rfl rfl (by rw [hz]; decide) (ex_field rfl (eval_slot ((hG.slots 7 (by decide)).trans rfl)) (by go_simp)) hG.below
                · exact rol_val rfl rfl rfl (by rw [hz]; decide) (ex_load rfl (eval_slot (hF 0 (by decide))) (ld_nds (row2 (hF 11 (by decide)).1).1)) hG.below
                · exact rol_val rfl rfl rfl (by rw [hz]; decide) (ex_field rfl (eval_slot ((hG.slots 3 (by decide)).trans rfl)) (by go_simp)) hG.below
                · exact rol_val rfl rfl rfl (by rw [hz]; decide) (ex_load rfl (eval_slot (hF 2 (by decide))) (ld_nds (cell_keep D0.out hG.below))) hG.below
                · exact rol_val rfl rfl rfl (by rw [hz]; decide) (ex_move (Or.inl rfl) (eval_slot ((hG.slots 9 (by decide)).trans rfl))) hG.below
                · exact rol_val rfl rfl rfl (by rw [hz]; decide) (ex_index rfl (eval_slot (hF 3 (by decide))) (eval_slot (hF 4 (by decide))) (idx_nds HLT0.out)) hG.below
                · exact rol_val rfl rfl rfl (by rw [hz]; decide) (ex_load rfl (eval_slot (hF 5 (by decide))) (ld_node (cell_keep Y0.out hG.below) (cell_keep Y1.out hG.below))) hG.below
                · exact rol_newO rfl rfl rfl (by rw [hz]; decide) (x := .cells #[.string (mkB y1), .string (mkB y2)] 27) (v := .slice (some ⟨wx.heap.size, 0, none⟩) 1 1) (ex_slice rfl (vs := #[(0, .agg #[.string (mkB y1), .string (mkB y2)])]) (by simp only [List.map_toArray, List.map_cons, List.map_nil, eval_slot (hF 6 (by decide))]) (by go_simp)) ⟨_, rfl, rfl, heap_alloc_new _ _⟩ hG.below (Nat.le_trans HB.out.size hG.new)
                · obtain ⟨v, ob, hv, hob, b, rfl, rfl, hh⟩ := hF 7 (by decide)
                  exact rol_app_nd rfl rfl rfl (by rw [hz]; decide) rfl (hF 12 (by decide)) (eval_slot (hF 1 (by decide))) (eval_slot hv) (blkG.nds hh) (by have := HLB.out; omega) hG.below (Nat.le_succ_of_le (Nat.le_of_eq HGO.out)) (Nat.le_trans HGN.out hG.new) (by rw [HLK2.out, List.length_append]; rfl) HLK2.out
                · exact rol_val rfl rfl rfl (by rw [hz]; decide) (ex_field rfl (eval_slot ((hG.slots 7 (by decide)).trans rfl)) (by go_simp)) hG.below
                · obtain ⟨v, ob, hv, hob, hrow, rfl⟩ := hF 8 (by decide)
                  obtain ⟨a9, c9, rfl, -⟩ := ndsO hrow
                  obtain ⟨q0, q1, f0, f1⟩ := row2 (hF 11 (by decide)).1
                  exact rol_setF0 rfl rfl rfl hv (hF 11 (by decide)) (Nat.le_of_eq HGO.out) (ex_store rfl (eval_slot (hF 9 (by decide))) (eval_slot hv) (st_nds q0 f0)) hG.below
              · intro a wx who hG hF
                obtain ⟨v79, ob79, fv79, fo79, fp79⟩ := hF 8 (of_decide_eq_true (by kernel_rfl)) (of_decide_eq_true (by kernel_rfl))
                replace fv79 : a.tmps.getD 79 undef = v79 := eval_slot (s := 79) fv79
                have hbox := hF 10 (of_decide_eq_true (by kernel_rfl)) (of_decide_eq_true (by kernel_rfl))
                have hother := hF 13 (of_decide_eq_true (by kernel_rfl)) (of_decide_eq_true (by kernel_rfl))
                obtain ⟨p9, ob9, hp9, -, -, hrow9⟩ := hbox
                have e9 : v79 = p9 := fv79.symm.trans (eval_slot hp9)
                subst e9
                obtain ⟨_, _, _, _, hoth, _⟩ := hother
                obtain ⟨hnew, -⟩ := fp79
                clear hp9 ob9 fo79
                have hbx := hG.below
                have hnx := hG.new
                rw [hG.frame]
                simp only [List.foldl_cons, List.foldl_nil, List.setIfInBounds_toArray, List.set_cons_zero, List.set_cons_succ]
                generalize a.tmps.getD 71 undef = u71
                generalize a.tmps.getD 72 undef = u72
                generalize a.tmps.getD 73 undef = u73
                generalize a.tmps.getD 74 undef = u74
                generalize a.tmps.getD 75 undef = u75
                generalize a.tmps.getD 76 undef = u76
                generalize a.tmps.getD 77 undef = u77
                generalize a.tmps.getD 78 undef = u78
                rw [fv79]
                generalize a.tmps.getD 80 undef = u80
                clear hF hG fv79
                obtain ⟨ax2, cx2, rfl, -⟩ := ndsO hnew
                obtain ⟨wv, hwv⟩ : ∃ w, w = wx := ⟨_, rfl⟩
                subst hwv
                replace HX := Lib.hid hnew; replace HY := Lib.hid hoth; replace HROW := Lib.hid hrow9; replace HB := Lib.hid hbx
                replace HGN := Lib.hid (show go + 1 ≤ wv.heap.size from (Array.getElem?_eq_some_iff.1 HROW.out).1)
                clear hnew hoth hrow9 hbx hnx
                go_upto_region 15 with fail
                refine rol_run (by kernel_rfl) [[], [0], [], [2], [], [2, 3, 4], [2, 3, 4, 5], [2, 3, 4, 5, 6], [0, 1, 2, 3, 4, 5, 6, 7], [0, 1, 2, 3, 4, 5, 6, 7, 8], [0, 1, 2, 3, 4, 5, 6, 7, 8, 9]] (by kernel_rfl) [81, 82, 83, 84, 85, 86, 87, 88, 89, 90] [[], [0, 11], [], [2], [], [3, 4], [5], [6], [1, 7, 12], [], [8, 11, 9]] [0, 0, 0, 0, 0, 0, 0, 5, 1, 0, 2, 2, 1, 4] [0, 0, 0, 0, 0, 0, 0, 0, 1, 0, 2] [1000, 1000, 1000, 1000, 1000, 1000, 1000, 1000, 1000, 1000, 1000, 10, 8, 1000] [.val 81 (.pointer (some ⟨go, 1, none⟩)), .val 82 (.slice ay LT.length cy), .val 83 (.pointer (some ⟨gs, 1, none⟩)), .val 84 (.slice (some ⟨bt, qt, none⟩) m d), .val 85 (.int .i64 (k : Int)), .val 86 (.pointer (some ⟨bt, qt + k, none⟩)), .val 87 (.string (mkB yt)), .mem 88 (blkG 9 #[.string (mkB yt)] 1), .mem 89 (rowG (go + 1) 9 1 LT2.length (strC LT2)), .val 90 (.pointer (some ⟨go, 1, none⟩)), .mem 89 (boxF1 go 25 (.slice ax2 LK2.length cx2)), .box (go) (.cells #[.slice ax2 LK2.length cx2, .slice ay LT.length cy] 25), .mem 7 (rowX (.slice ay LT.length cy) (go + 1) 9 1 LT.length (strC LT)), .mem 7 (rowX (.slice ax2 LK2.length cx2) (go + 1) 27 2 LK2.length (ndsC LK2))] (by kernel_rfl) ?_ (W.heap.size) (wv.heap.size) rfl HB.out rfl (fun k => if k = go then 2 else if Value.ownBlock (.slice ay LT.length cy) = some k then 1 else if Value.ownBlock (.slice ax2 LK2.length cx2) = some k then 4 else 0) ?_ ?_ ?_
                · intro j hj
                  have hj3 : j < 14 := hj
                  have hj2 : j = 0 ∨ j = 1 ∨ j = 2 ∨ j = 3 ∨ j = 4 ∨ j = 5 ∨ j = 6 ∨ j = 7 ∨ j = 8 ∨ j = 9 ∨ j = 10 ∨ j = 11 ∨ j = 12 ∨ j = 13 := by omega
                  clear hj hj3
                  rcases hj2 with rfl | rfl | rfl | rfl | rfl | rfl | rfl | rfl | rfl | rfl | rfl | rfl | rfl | rfl
                  · exact trivial
                  · exact trivial
                  · exact trivial
                  · exact trivial
                  · exact trivial
                  · exact trivial
                  · exact trivial
                  · exact blkG_near
                  · exact rowG_near
                  · exact trivial
                  · exact boxF1_near
                  · exact trivial
                  · exact rowX_near
                  · exact rowX_near
                · intro j hj0 hj
                  have hj1 : 11 ≤ j := hj0
                  have hj3 : j < 14 := hj
                  have hj2 : j = 11 ∨ j = 12 ∨ j = 13 := by omega
                  clear hj0 hj hj1 hj3
                  rcases hj2 with rfl | rfl | rfl
                  · exact ⟨HROW.out, if_pos rfl⟩
                  · exact ⟨_, _, rfl, fun b e => ⟨(own_lt HY.out e).2, (if_neg (fun h => own_nebox HY.out HROW.out (by decide) (e.trans (congrArg some h)))).trans (if_pos e)⟩, HY.out, rfl⟩
                  · exact ⟨_, _, rfl, fun b e => ⟨(own_lt HX.out e).2, (if_neg (fun h => own_nebox HX.out HROW.out (by decide) (e.trans (congrArg some h)))).trans ((if_neg (fun h => own_apart HY.out HX.out (by decide) b h e)).trans (if_pos e))⟩, HX.out, rfl⟩
                · intro i hi a wx who hG hF
                  have hz : a.tmps.size = 92 := hG.size
                  have hi3 : i < 11 := hi
                  have hi2 : i = 0 ∨ i = 1 ∨ i = 2 ∨ i = 3 ∨ i = 4 ∨ i = 5 ∨ i = 6 ∨ i = 7 ∨ i = 8 ∨ i = 9 ∨ i = 10 := by omega
                  clear hi hi3
                  rcases hi2 with rfl | rfl | rfl | rfl | rfl | rfl | rfl | rfl | rfl | rfl | rfl
                  · exact rol_val rfl rfl rfl (by rw [hz]; decide) (ex_field rfl (eval_slot ((hG.slots 7 (by decide)).trans rfl)) (by go_simp)) hG.below
                  · exact rol_val rfl rfl rfl (by rw [hz]; decide) (ex_load rfl (eval_slot (hF 0 (by decide))) (ld_sts (row2 (hF 11 (by decide)).1).2.1)) hG.below
                  · exact rol_val rfl rfl rfl (by rw [hz]; decide) (ex_field rfl (eval_slot ((hG.slots 3 (by decide)).trans rfl)) (by go_simp)) hG.below
                  · exact rol_val rfl rfl rfl (by rw [hz]; decide) (ex_load rfl (eval_slot (hF 2 (by decide))) (ld_sts (cell_keep D1.out hG.below))) hG.below
                  · exact rol_val rfl rfl rfl (by rw [hz]; decide) (ex_move (Or.inl rfl) (eval_slot ((hG.slots 9 (by decide)).trans rfl))) hG.below
                  · exact rol_val rfl rfl rfl (by rw [hz]; decide) (ex_index rfl (eval_slot (hF 3 (by decide))) (eval_slot (hF 4 (by decide))) (idx_sts HLM.out)) hG.below
                  · exact rol_val rfl rfl rfl (by rw [hz]; decide) (ex_load rfl (eval_slot (hF 5 (by decide))) (ld_str (cell_keep YT.out hG.below))) hG.below
                  · exact rol_newO rfl rfl rfl (by rw [hz]; decide) (x := .cells #[.string (mkB yt)] 9) (v := .slice (some ⟨wx.heap.size, 0, none⟩) 1 1) (ex_slice rfl (vs := #[(0, .string (mkB yt))]) (by simp only [List.map_toArray, List.map_cons, List.map_nil, eval_slot (hF 6 (by decide))]) (by go_simp)) ⟨_, rfl, rfl, heap_alloc_new _ _⟩ hG.below (Nat.le_trans HB.out.size hG.new)
                  · obtain ⟨v, ob, hv, hob, b, rfl, rfl, hh⟩ := hF 7 (by decide)
                    exact rol_app_st rfl rfl rfl (by rw [hz]; decide) rfl (hF 12 (by decide)) (eval_slot (hF 1 (by decide))) (eval_slot hv) (blkG.strs hh) (by have := HLB.out; omega) hG.below (Nat.le_succ_of_le (Nat.le_of_eq HGO.out)) (Nat.le_trans HGN.out hG.new) (by rw [HLT2.out, List.length_append]; rfl) HLT2.out
                  · exact rol_val rfl rfl rfl (by rw [hz]; decide) (ex_field rfl (eval_slot ((hG.slots 7 (by decide)).trans rfl)) (by go_simp)) hG.below
                  · obtain ⟨v, ob, hv, hob, hrow, rfl⟩ := hF 8 (by decide)
                    obtain ⟨a9, c9, rfl, -⟩ := stsO hrow
                    obtain ⟨q0, q1, f0, f1⟩ := row2 (hF 11 (by decide)).1
                    exact rol_setF1 rfl rfl rfl hv (hF 11 (by decide)) (Nat.le_of_eq HGO.out) (ex_store rfl (eval_slot (hF 9 (by decide))) (eval_slot hv) (st_sts q1 f1)) hG.below
                · intro a wx who hG hF
                  obtain ⟨v89, ob89, fv89, fo89, fp89⟩ := hF 8 (of_decide_eq_true (by kernel_rfl)) (of_decide_eq_true (by kernel_rfl))
                  replace fv89 : a.tmps.getD 89 undef = v89 := eval_slot (s := 89) fv89
                  have hbox := hF 10 (of_decide_eq_true (by kernel_rfl)) (of_decide_eq_true (by kernel_rfl))
                  have hother := hF 13 (of_decide_eq_true (by kernel_rfl)) (of_decide_eq_true (by kernel_rfl))
                  obtain ⟨p9, ob9, hp9, -, -, hrow9⟩ := hbox
                  have e9 : v89 = p9 := fv89.symm.trans (eval_slot hp9)
                  subst e9
                  obtain ⟨_, _, _, _, hoth, _⟩ := hother
                  obtain ⟨hnew, -⟩ := fp89
                  clear hp9 ob9 fo89
                  have hbx := hG.below
                  have hnx := hG.new
                  rw [hG.frame]
                  simp only [List.foldl_cons, List.foldl_nil, List.setIfInBounds_toArray, List.set_cons_zero, List.set_cons_succ]
                  generalize a.tmps.getD 81 undef = u81
                  generalize a.tmps.getD 82 undef = u82
                  generalize a.tmps.getD 83 undef = u83
                  generalize a.tmps.getD 84 undef = u84
                  generalize a.tmps.getD 85 undef = u85
                  generalize a.tmps.getD 86 undef = u86
                  generalize a.tmps.getD 87 undef = u87
                  generalize a.tmps.getD 88 undef = u88
                  rw [fv89]
                  generalize a.tmps.getD 90 undef = u90
                  clear hF hG fv89
                  have HX3 := Lib.hid hoth; have HY3 := Lib.hid hnew; have HR3 := Lib.hid hrow9; have HB3 := Lib.hid hbx
                  clear hnew hoth hrow9 hbx hnx
                  obtain ⟨hl1, hl2⟩ := HLEN.out
                  go_wp2
                  go_roundw
                  case rel => exact ⟨k + 1, LK2, LT2, _, _, by omega, by go_num, hl1, hl2, HKF, HTF, HX3, HY3, HR3, HB3⟩
                  case measure => simp [intOf]; omega
        · have hfin : (K.zip T).take k = K.zip T := List.take_of_length_le (by rw [List.length_zip, HK.out]; omega)
          rw [hfin] at HLK HLT
          have hput : PRE ++ ((K.zip T).filter fun x => ltN (p, v) x.1) = putP (K.zip T) (p, v) t := by rw [HPRE.out]; unfold putP; simp
          rw [hput] at HLK HLT
          have HRR := Lib.hid (row_keepB RR.out HB.out)
          obtain ⟨q0, q1, -, -⟩ := row2 HROW.out
          obtain ⟨z0, z1, zf0, zf1⟩ := row2 HRR.out
          have HWS := Lib.hid (BB.out.size)
          have HBF := Lib.hid (below_step BB.out HB.out)
          have hgo1 : gr < go + 1 := by have := HGRW.out; have := HGO.out; omega
          have hgo2 : w.heap.size ≤ go + 1 := by have := HWS.out; have := HGO.out; omega
          have HG1 := Lib.hid hgo1; have HG2 := Lib.hid hgo2
          have hso : StoO wr (go + 1) (.agg #[.slice ax LK.length cx, .slice ay LT.length cy]) LK LT := ⟨_, _, rfl, HX.out, HY.out⟩
          have HSO := Lib.hid hso
          clear hso hgo1 hgo2 hfin c2 c3 hput
          go_wp2
          try simp only [Exit.inBlock, Exit.then]
          refine bodyPost_ret (v := .agg #[.slice ax LK.length cx, .slice ay LT.length cy]) (results_cell_row (fn := Try.f19) (p := 6) (ty := 25) rfl _ _ gr 25 #[.slice ax LK.length cx, .slice ay LT.length cy] (0, 0) _ rfl (row2_set HRR.out _ _) Try.underlying25 rfl Try.size_sto) rfl ?_
          rw [← HLK.out, ← HLT.out]
          exact ⟨_, rfl, ((HSO.out.far HG1.out _).far HG1.out _).base HG2.out, (HBF.out.setCell HGLE.out _).setCell HGLE.out _⟩
end Go.Proofs.Ytceefoiffkgliaa

namespace Go.Proofs.Ytceefoiffkgliaa
open Go.RowKit
set_option linter.unusedVariables false
set_option maxRecDepth 100000

def fewTs (T : List (List UInt8)) : List (List UInt8) := (T.take 24).map few8
theorem fewTs_len (T : List (List UInt8)) : (fewTs T).length ≤ 24 := by unfold fewTs; rw [List.length_map, List.length_take]; omega
theorem fewTs_small (T : List (List UInt8)) : ∀ l ∈ fewTs T, l.length ≤ 160 := fun l h => by
  obtain ⟨m, _, rfl⟩ := List.mem_map.1 h; exact few8_len m
theorem fewTs_succ {T : List (List UInt8)} {k : Nat} (h : k < T.length) : (T.take (k + 1)).map few8 = (T.take k).map few8 ++ [few8 (T.getD k [])] := by
  rw [List.take_succ_eq_append_getElem h, List.map_append, List.getD_eq_getElem?_getD, List.getElem?_eq_getElem h]; rfl
set_option maxHeartbeats 3200000 in
theorem sfew_any (A B : Option Addr) (n c m d : Nat) (K : List Nd) (T : List (List UInt8)) (w : World) (hk : Nds w (.slice A n c) K) (ht : Strs w (.slice B m d) T) (hfK : ∀ n ∈ K, fitsN n) (hfT : ∀ l ∈ T, l.length ≤ maxLen) :
    Calls Try.prog 8 #[.agg #[.slice A n c, .slice B m d]] w fun e w' => ∃ u, e = .returned u ∧ StoO w' w.heap.size u (fewNs K) (fewTs T) ∧ Below w.heap.size w w' := by
  obtain ⟨W, gs, gr, hW, hg, hg', r0, r1, hb⟩ := boxS2 w (.slice A n c) (.slice B m d) (.slice none 0 0) (.slice none 0 0) 25 25
  obtain ⟨d0, d1, -, -⟩ := row2 r0
  obtain ⟨hT, h3, h4⟩ := ht.lenE
  unfold maxLen at h4
  have hgrW := (Array.getElem?_eq_some_iff.1 r1).1
  obtain ⟨LK, hLK⟩ : ∃ L, fewNs K = L := ⟨_, rfl⟩
  have hlk := fewNs_len K
  have hfw := fun w h => nfewo_any (.slice A n c) K w h hfK
  rw [hLK] at hlk hfw
  rw [hLK]
  have SK := Lib.hid (hk.below hb); have ST := Lib.hid (ht.belowB hb); have HW := Lib.hid hW; have HG := Lib.hid hg; have HG' := Lib.hid hg'; have BB := Lib.hid hb; have HT := Lib.hid hT; have D0 := Lib.hid d0; have D1 := Lib.hid d1; have RR := Lib.hid r1; have HGRW := Lib.hid hgrW; have HGLE := Lib.hid (show w.heap.size ≤ gr by omega); have HLKL := Lib.hid hlk; have HFT := Lib.hid hfT; have HFW := Lib.hid hfw
  clear hk ht hW hg hg' hb hT r0 r1 hgrW hlk hfT hfw hLK hfK
  have e9 : ∀ args w, (callFunc 23 args).run Try.prog w = .ok (.enter 23 args) w := enters_of Try.func23 (by kernel_rfl) rfl
  go_enter Try.func8, Try.ntmps8
  go_upto_region 1 with fail
  rw [HW.out, HG'.out, HG.out]
  go_upto_region 2 with (go_at_call 22; refine (HFW.out _ SK.out).mono ?_; rintro e W2 ⟨v2, rfl, hown, hb2⟩; obtain ⟨ax, cx, rfl, -⟩ := ndsO hown; have HX0 := Lib.hid hown; have HBW := Lib.hid hb2; obtain ⟨go, hgo⟩ : ∃ go, W2.heap.size = go := ⟨_, rfl⟩; clear hown hb2)
  obtain ⟨W3, hW3⟩ : ∃ W3, W2.alloc (.cells #[.slice ax LK.length cx, .slice none 0 0] 25) = W3 := ⟨_, rfl⟩
  have hrow : W3.heap[go]? = some (.cells #[.slice ax LK.length cx, .slice none 0 0] 25 (0, 0)) := by rw [← hW3, ← hgo]; exact heap_alloc_new _ _
  have hB2 : Below W2.heap.size W2 W3 := by rw [← hW3]; exact (Below.refl _ W2).alloc (Nat.le_refl _) _
  have hx3 : W3.ownsRow W.heap.size 27 2 (.slice ax LK.length cx) LK.length (ndsC LK) := ownsRow_belowB HX0.out hB2
  rw [hW3]
  replace D0 := Lib.hid (cell_keep D0.out HBW.out); replace D1 := Lib.hid (cell_keep D1.out HBW.out); replace ST := Lib.hid (ST.out.belowB HBW.out); replace RR := Lib.hid (row_keepB RR.out HBW.out)
  have HROW2 := Lib.hid hrow; have HB2 := Lib.hid hB2; have HGO := Lib.hid hgo; have HX3 := Lib.hid hx3; have HGW := Lib.hid (show W.heap.size ≤ go by rw [← hgo]; exact HBW.out.size)
  replace BB := Lib.hid (below_step BB.out HBW.out)
  clear hrow hB2 hgo hW3 hx3 HX0 HBW d0 d1 SK
  go_wp2
  go_loopw [4] (fun i wr => ∃ (k : Nat) (LT : List (List UInt8)) (y : Value), k ≤ m ∧ k ≤ 24 ∧ i = .int .i64 k ∧ LT.length = k ∧ Hid (LT = (T.take k).map few8) ∧ Hid (wr.ownsRow W.heap.size 27 2 (.slice ax LK.length cx) LK.length (ndsC LK)) ∧ Hid (wr.ownsRow (go + 1) 9 1 y LT.length (strC LT)) ∧ Hid (wr.heap[go]? = some (.cells #[.slice ax LK.length cx, y] 25 (0, 0))) ∧ Hid (Below W2.heap.size W2 wr)) (fun i _ => m - (intOf i).toNat)
  case atStart => exact ⟨0, [], _, Nat.zero_le _, Nat.zero_le _, rfl, rfl, Lib.hid rfl, HX3, Lib.hid (World.ownsRow_nil _ _ _ _), HROW2, HB2⟩
  case round =>
    obtain ⟨k, LT, y, hk, hk24, rfl, hLT, HLT, HX, HY, HROW, HB⟩ := hrel
    obtain ⟨ay, cy, rfl, -⟩ := stsO HY.out
    have c1 := cell_keep D1.out HB.out
    by_cases hlt : k < m
    · by_cases h24 : k < 24
      · have hkl : k < T.length := by rw [HT.out]; exact hlt
        obtain ⟨bt, qt, rfl, -, hyt⟩ := strs_at ST.out k hkl
        have hsu := fewTs_succ hkl
        have hme : T.getD k [] ∈ T := by rw [List.getD_eq_getElem?_getD, List.getElem?_eq_getElem hkl]; exact List.getElem_mem hkl
        have ht0 := HFT.out _ hme
        obtain ⟨t0, htt⟩ : ∃ t0, T.getD k [] = t0 := ⟨_, rfl⟩
        rw [htt] at hyt hsu ht0
        obtain ⟨yt, hytt⟩ : ∃ yt, few8 t0 = yt := ⟨_, rfl⟩
        rw [hytt] at hsu
        have YT := Lib.hid hyt; have HT0 := Lib.hid ht0; have HYT := Lib.hid hytt
        obtain ⟨LT2, hLT2⟩ : ∃ L, L = LT ++ [yt] := ⟨_, rfl⟩
        have hlt2 : LT2.length = k + 1 := by rw [hLT2, List.length_append, hLT]; rfl
        have HTF := Lib.hid (show LT2 = (T.take (k + 1)).map few8 by rw [hLT2, hsu, HLT.out])
        have HLT2 := Lib.hid hLT2; have HLEN := Lib.hid hlt2
        have HLB := Lib.hid (show LK.length ≤ 600000 ∧ LT.length ≤ 600000 by have := HLKL.out; omega)
        have HGN := Lib.hid (show go + 1 ≤ wr.heap.size from (Array.getElem?_eq_some_iff.1 HROW.out).1)
        have HLM := Lib.hid hlt
        have hkb : (k : Int) < (m : Int) := by omega
        have hk4 : (k : Int) < 24 := by omega
        clear hyt hsu hme ht0 htt hytt hLT2 hlt2 hLT hkl
        go_upto_region 5 with fail
        refine rol_run (by kernel_rfl) [[], [0], [], [2], [], [2, 3, 4], [2, 3, 4, 5], [2, 3, 4, 5, 6], [2, 3, 4, 5, 6, 7], [0, 1, 2, 3, 4, 5, 6, 7, 8], [0, 1, 2, 3, 4, 5, 6, 7, 8, 9], [0, 1, 2, 3, 4, 5, 6, 7, 8, 9, 10]] (by kernel_rfl) [20, 21, 22, 23, 24, 25, 26, 27, 28, 29, 30] [[], [0, 12], [], [2], [], [3, 4], [5], [6], [7], [1, 8, 13], [], [9, 12, 10]] [0, 0, 0, 0, 0, 0, 0, 0, 5, 1, 0, 2, 2, 1, 4] [0, 0, 0, 0, 0, 0, 0, 0, 0, 1, 0, 2] [1000, 1000, 1000, 1000, 1000, 1000, 1000, 1000, 1000, 1000, 1000, 1000, 11, 9, 1000] [.val 20 (.pointer (some ⟨go, 1, none⟩)), .val 21 (.slice ay LT.length cy), .val 22 (.pointer (some ⟨gs, 1, none⟩)), .val 23 (.slice (some ⟨bt, qt, none⟩) m d), .val 24 (.int .i64 (k : Int)), .val 25 (.pointer (some ⟨bt, qt + k, none⟩)), .val 26 (.string (mkB t0)), .val 27 (.string (mkB yt)), .mem 28 (blkG 9 #[.string (mkB yt)] 1), .mem 29 (rowG (go + 1) 9 1 LT2.length (strC LT2)), .val 30 (.pointer (some ⟨go, 1, none⟩)), .mem 29 (boxF1 go 25 (.slice ax LK.length cx)), .box (go) (.cells #[.slice ax LK.length cx, .slice ay LT.length cy] 25), .mem 3 (rowX (.slice ay LT.length cy) (go + 1) 9 1 LT.length (strC LT)), .mem 3 (rowX (.slice ax LK.length cx) (W.heap.size) 27 2 LK.length (ndsC LK))] (by kernel_rfl) ?_ (W2.heap.size) (wr.heap.size) rfl HB.out rfl (fun k => if k = go then 2 else if Value.ownBlock (.slice ay LT.length cy) = some k then 1 else if Value.ownBlock (.slice ax LK.length cx) = some k then 4 else 0) ?_ ?_ ?_
        · intro j hj
          have hj3 : j < 15 := hj
          have hj2 : j = 0 ∨ j = 1 ∨ j = 2 ∨ j = 3 ∨ j = 4 ∨ j = 5 ∨ j = 6 ∨ j = 7 ∨ j = 8 ∨ j = 9 ∨ j = 10 ∨ j = 11 ∨ j = 12 ∨ j = 13 ∨ j = 14 := by omega
          clear hj hj3
          rcases hj2 with rfl | rfl | rfl | rfl | rfl | rfl | rfl | rfl | rfl | rfl | rfl | rfl | rfl | rfl | rfl
          · exact trivial
          · exact trivial
          · exact trivial
          · exact trivial
          · exact trivial
          · exact trivial
          · exact trivial
          · exact trivial
          · exact blkG_near
          · exact rowG_near
          · exact trivial
          · exact boxF1_near
          · exact trivial
          · exact rowX_near
          · exact rowX_near
        · intro j hj0 hj
          have hj1 : 12 ≤ j := hj0
          have hj3 : j < 15 := hj
          have hj2 : j = 12 ∨ j = 13 ∨ j = 14 := by omega
          clear hj0 hj hj1 hj3
          rcases hj2 with rfl | rfl | rfl
          · exact ⟨HROW.out, if_pos rfl⟩
          · exact ⟨_, _, rfl, fun b e => ⟨(own_lt HY.out e).2, (if_neg (fun h => own_nebox HY.out HROW.out (by decide) (e.trans (congrArg some h)))).trans (if_pos e)⟩, HY.out, rfl⟩
          · exact ⟨_, _, rfl, fun b e => ⟨(own_lt HX.out e).2, (if_neg (fun h => own_nebox HX.out HROW.out (by decide) (e.trans (congrArg some h)))).trans ((if_neg (fun h => own_apart HY.out HX.out (by decide) b h e)).trans (if_pos e))⟩, HX.out, rfl⟩
        · intro i hi a wx who hG hF
          have hz : a.tmps.size = 32 := hG.size
          have hi3 : i < 12 := hi
          have hi2 : i = 0 ∨ i = 1 ∨ i = 2 ∨ i = 3 ∨ i = 4 ∨ i = 5 ∨ i = 6 ∨ i = 7 ∨ i = 8 ∨ i = 9 ∨ i = 10 ∨ i = 11 := by omega
          clear hi hi3
          rcases hi2 with rfl | rfl | rfl | rfl | rfl | rfl | rfl | rfl | rfl | rfl | rfl | rfl
          · exact rol_val rfl rfl rfl (by rw [hz]; decide) (ex_field rfl (eval_slot ((hG.slots 3 (by decide)).trans rfl)) (by go_simp)) hG.below
          · exact rol_val rfl rfl rfl (by rw [hz]; decide) (ex_load rfl (eval_slot (hF 0 (by decide))) (ld_sts (row2 (hF 12 (by decide)).1).2.1)) hG.below
          · exact rol_val rfl rfl rfl (by rw [hz]; decide) (ex_field rfl (eval_slot ((hG.slots 1 (by decide)).trans rfl)) (by go_simp)) hG.below
          · exact rol_val rfl rfl rfl (by rw [hz]; decide) (ex_load rfl (eval_slot (hF 2 (by decide))) (ld_sts (cell_keep D1.out hG.below))) hG.below
          · exact rol_val rfl rfl rfl (by rw [hz]; decide) (ex_move (Or.inl rfl) (eval_slot ((hG.slots 4 (by decide)).trans rfl))) hG.below
          · exact rol_val rfl rfl rfl (by rw [hz]; decide) (ex_index rfl (eval_slot (hF 3 (by decide))) (eval_slot (hF 4 (by decide))) (idx_sts HLM.out)) hG.below
          · exact rol_val rfl rfl rfl (by rw [hz]; decide) (ex_load rfl (eval_slot (hF 5 (by decide))) (ld_str (cell_keep YT.out hG.below))) hG.below
          · refine rol_call rfl rfl rfl (by rw [hz]; decide) (ex_call rfl (by simp [eval_slot (hF 6 (by decide))]) e9) (few8_any t0 wx HT0.out) ?_ hG.below (Nat.le_trans HB.out.size hG.new)
            rintro e w1 ⟨rfl, rfl⟩
            rw [HYT.out]
            exact ⟨_, rfl, Below.refl _ _, .inl rfl⟩
          · exact rol_newO rfl rfl rfl (by rw [hz]; decide) (x := .cells #[.string (mkB yt)] 9) (v := .slice (some ⟨wx.heap.size, 0, none⟩) 1 1) (ex_slice rfl (vs := #[(0, .string (mkB yt))]) (by simp only [List.map_toArray, List.map_cons, List.map_nil, eval_slot (hF 7 (by decide))]) (by go_simp)) ⟨_, rfl, rfl, heap_alloc_new _ _⟩ hG.below (Nat.le_trans HB.out.size hG.new)
          · obtain ⟨v, ob, hv, hob, b, rfl, rfl, hh⟩ := hF 8 (by decide)
            exact rol_app_st rfl rfl rfl (by rw [hz]; decide) rfl (hF 13 (by decide)) (eval_slot (hF 1 (by decide))) (eval_slot hv) (blkG.strs hh) (by have := HLB.out; omega) hG.below (Nat.le_succ_of_le (Nat.le_of_eq HGO.out)) (Nat.le_trans HGN.out hG.new) (by rw [HLT2.out, List.length_append]; rfl) HLT2.out
          · exact rol_val rfl rfl rfl (by rw [hz]; decide) (ex_field rfl (eval_slot ((hG.slots 3 (by decide)).trans rfl)) (by go_simp)) hG.below
          · obtain ⟨v, ob, hv, hob, hrow, rfl⟩ := hF 9 (by decide)
            obtain ⟨a9, c9, rfl, -⟩ := stsO hrow
            obtain ⟨q0, q1, f0, f1⟩ := row2 (hF 12 (by decide)).1
            exact rol_setF1 rfl rfl rfl hv (hF 12 (by decide)) (Nat.le_of_eq HGO.out) (ex_store rfl (eval_slot (hF 10 (by decide))) (eval_slot hv) (st_sts q1 f1)) hG.below
        · intro a wx who hG hF
          obtain ⟨v29, ob29, fv29, fo29, fp29⟩ := hF 9 (of_decide_eq_true (by kernel_rfl)) (of_decide_eq_true (by kernel_rfl))
          replace fv29 : a.tmps.getD 29 undef = v29 := eval_slot (s := 29) fv29
          have hbox := hF 11 (of_decide_eq_true (by kernel_rfl)) (of_decide_eq_true (by kernel_rfl))
          have hother := hF 14 (of_decide_eq_true (by kernel_rfl)) (of_decide_eq_true (by kernel_rfl))
          obtain ⟨p9, ob9, hp9, -, -, hrow9⟩ := hbox
          have e9 : v29 = p9 := fv29.symm.trans (eval_slot hp9)
          subst e9
          obtain ⟨_, _, _, _, hoth, _⟩ := hother
          obtain ⟨hnew, -⟩ := fp29
          clear hp9 ob9 fo29
          have hbx := hG.below
          have hnx := hG.new
          rw [hG.frame]
          simp only [List.foldl_cons, List.foldl_nil, List.setIfInBounds_toArray, List.set_cons_zero, List.set_cons_succ]
          generalize a.tmps.getD 20 undef = u20
          generalize a.tmps.getD 21 undef = u21
          generalize a.tmps.getD 22 undef = u22
          generalize a.tmps.getD 23 undef = u23
          generalize a.tmps.getD 24 undef = u24
          generalize a.tmps.getD 25 undef = u25
          generalize a.tmps.getD 26 undef = u26
          generalize a.tmps.getD 27 undef = u27
          generalize a.tmps.getD 28 undef = u28
          rw [fv29]
          generalize a.tmps.getD 30 undef = u30
          clear hF hG fv29
          have HX3 := Lib.hid hoth; have HY3 := Lib.hid hnew; have HR3 := Lib.hid hrow9; have HB3 := Lib.hid hbx
          clear hnew hoth hrow9 hbx hnx
          go_wp2
          go_roundw
          case rel => exact ⟨k + 1, LT2, _, by omega, by omega, by go_num, HLEN.out, HTF, HX3, HY3, HR3, HB3⟩
          case measure => simp [intOf]; omega
      · have HFIN := Lib.hid (show LT = fewTs T by rw [HLT.out]; unfold fewTs; rw [show k = 24 by omega])
        clear hLT
        have HRR := Lib.hid (row_keepB RR.out HB.out)
        obtain ⟨q0, q1, -, -⟩ := row2 HROW.out
        obtain ⟨z0, z1, zf0, zf1⟩ := row2 HRR.out
        have HBF := Lib.hid (below_step BB.out HB.out)
        have hgo1 : gr < go + 1 := by have := HGRW.out; have := HGW.out; omega
        have HG1 := Lib.hid hgo1; have HG2 := Lib.hid (show gr < W.heap.size from HGRW.out)
        have hso : StoO wr W.heap.size (.agg #[.slice ax LK.length cx, .slice ay LT.length cy]) LK LT := ⟨_, _, rfl, HX.out, row_base HY.out (by have := HGW.out; omega)⟩
        have HSO := Lib.hid hso
        have HWW := Lib.hid (show w.heap.size ≤ W.heap.size by have := HGRW.out; have := HGLE.out; omega)
        clear hso hgo1
        go_wp2
        try simp only [Exit.inBlock, Exit.then]
        refine bodyPost_ret (v := .agg #[.slice ax LK.length cx, .slice ay LT.length cy]) (results_cell_row (fn := Try.f8) (p := 2) (ty := 25) rfl _ _ gr 25 #[.slice ax LK.length cx, .slice ay LT.length cy] (0, 0) _ rfl (row2_set HRR.out _ _) Try.underlying25 rfl Try.size_sto) rfl ?_
        rw [← HFIN.out]
        exact ⟨_, rfl, ((HSO.out.far HG2.out _).far HG2.out _).base HWW.out, (HBF.out.setCell HGLE.out _).setCell HGLE.out _⟩
    · have HFIN := Lib.hid (show LT = fewTs T by rw [HLT.out]; unfold fewTs; rw [List.take_of_length_le (i := k) (by rw [HT.out]; omega), List.take_of_length_le (i := 24) (by rw [HT.out]; omega)])
      clear hLT
      have HRR := Lib.hid (row_keepB RR.out HB.out)
      obtain ⟨q0, q1, -, -⟩ := row2 HROW.out
      obtain ⟨z0, z1, zf0, zf1⟩ := row2 HRR.out
      have HBF := Lib.hid (below_step BB.out HB.out)
      have hgo1 : gr < go + 1 := by have := HGRW.out; have := HGW.out; omega
      have HG1 := Lib.hid hgo1; have HG2 := Lib.hid (show gr < W.heap.size from HGRW.out)
      have hso : StoO wr W.heap.size (.agg #[.slice ax LK.length cx, .slice ay LT.length cy]) LK LT := ⟨_, _, rfl, HX.out, row_base HY.out (by have := HGW.out; omega)⟩
      have HSO := Lib.hid hso
      have HWW := Lib.hid (show w.heap.size ≤ W.heap.size by have := HGRW.out; have := HGLE.out; omega)
      clear hso hgo1
      go_wp2
      try simp only [Exit.inBlock, Exit.then]
      refine bodyPost_ret (v := .agg #[.slice ax LK.length cx, .slice ay LT.length cy]) (results_cell_row (fn := Try.f8) (p := 2) (ty := 25) rfl _ _ gr 25 #[.slice ax LK.length cx, .slice ay LT.length cy] (0, 0) _ rfl (row2_set HRR.out _ _) Try.underlying25 rfl Try.size_sto) rfl ?_
      rw [← HFIN.out]
      exact ⟨_, rfl, ((HSO.out.far HG2.out _).far HG2.out _).base HWW.out, (HBF.out.setCell HGLE.out _).setCell HGLE.out _⟩
end Go.Proofs.Ytceefoiffkgliaa
