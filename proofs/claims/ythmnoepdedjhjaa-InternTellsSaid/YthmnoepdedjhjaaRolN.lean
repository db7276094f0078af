/- Rows of nodes of the call's own in a region that draws its order. -/
import Derived.Test.YthmnoepdedjhjaaRolB
import Derived.Test.YthmnoepdedjhjaaItnK
namespace Go.Proofs.Ythmnoepdedjhjaa
open Go.RowKit
set_option maxRecDepth 100000

/-- A row of nodes of the call's own, among the blocks from N on. -/
def rowP (N n : Nat) (K : List Nd) : World → Value → Option Nat → Prop := fun w v ob => w.ownsRow N 26 2 v n (ndsC K) ∧ ob = v.ownBlock
theorem rowP_near {N n : Nat} {K : List Nd} : ∀ (w w' : World) (v : Value) (ob : Option Nat), (∀ b, ob = some b → w'.heap[b]? = w.heap[b]?) → rowP N n K w v ob → rowP N n K w' v ob := by
  rintro w w' v ob hb ⟨⟨h1, h2⟩, rfl⟩
  refine ⟨⟨h1, h2.imp id ?_⟩, rfl⟩
  rintro ⟨g, cap, cur, rfl, hg, hh, h3⟩
  exact ⟨g, cap, cur, rfl, hg, (hb g rfl).trans hh, h3⟩
/-- A struct of just that row. -/
def aggP (N n : Nat) (K : List Nd) : World → Value → Option Nat → Prop := fun w v ob => ∃ u, v = .agg #[u] ∧ rowP N n K w u ob
theorem aggP_near {N n : Nat} {K : List Nd} : ∀ (w w' : World) (v : Value) (ob : Option Nat), (∀ b, ob = some b → w'.heap[b]? = w.heap[b]?) → aggP N n K w v ob → aggP N n K w' v ob := by
  rintro w w' v ob hb ⟨u, rfl, h⟩
  exact ⟨u, rfl, rowP_near w w' u ob hb h⟩
/-- A slice of one node, in a block of its own. -/
def blkP (p v : List UInt8) : World → Value → Option Nat → Prop := fun w u ob => ∃ b, u = .slice (some ⟨b, 0, none⟩) 1 1 ∧ ob = some b ∧ w.heap[b]? = some (.cells #[.string (mkB p), .string (mkB v)] 26 (0, 0))
theorem blkP_near {p v : List UInt8} : ∀ (w w' : World) (u : Value) (ob : Option Nat), (∀ b, ob = some b → w'.heap[b]? = w.heap[b]?) → blkP p v w u ob → blkP p v w' u ob := by
  rintro w w' u ob hb ⟨b, rfl, rfl, h⟩
  exact ⟨b, rfl, rfl, (hb b rfl).trans h⟩
theorem blkP.nds {p v : List UInt8} {w : World} {u : Value} {ob : Option Nat} (h : blkP p v w u ob) : ∃ b, u = .slice (some ⟨b, 0, none⟩) 1 1 ∧ Nds w u [(p, v)] := by
  obtain ⟨b, rfl, _, hh⟩ := h
  obtain ⟨c0, c1, _, _⟩ := row2 hh
  exact ⟨b, rfl, ⟨some ⟨b, 0, none⟩, 1, rfl, Nat.le_refl _, by unfold maxLen; omega, (fun h => by cases h), fun _ => ⟨b, 0, rfl, (Array.getElem?_eq_some_iff.1 hh).1, fun j hj => by
    have hj2 : j = 0 := by simp at hj; omega
    subst hj2
    exact ⟨c0, c1⟩⟩⟩⟩
/-- What a box holds is what stands in a slot. -/
def boxP (g : Nat) (t : TypeId) : World → Value → Option Nat → Prop := fun w v ob => ob = some g ∧ ∃ u, v = .agg #[u] ∧ w.heap[g]? = some (.cells #[u] t (0, 0))
theorem boxP_near {g : Nat} {t : TypeId} : ∀ (w w' : World) (v : Value) (ob : Option Nat), (∀ b, ob = some b → w'.heap[b]? = w.heap[b]?) → boxP g t w v ob → boxP g t w' v ob := by
  rintro w w' v ob hb ⟨rfl, u, rfl, h⟩
  exact ⟨rfl, u, rfl, (hb g rfl).trans h⟩

theorem run_app_nd {w : World} {base n : Nat} {v : Value} {K : List Nd} (hown : w.ownsRow base 26 2 v n (ndsC K)) {a0 : Option Addr} {m c : Nat} {L : List Nd} (hN : Nds w (.slice a0 m c) L) (hlen : n + m ≤ 2000000) (hbase : base ≤ w.heap.size) (t : TypeId) :
    ∃ v' w', (Builtin.append_ #[22, 22] t #[v, .slice a0 m c]).run Try.prog w = .ok v' w' ∧ w'.ownsRow base 26 2 v' (n + m) (ndsC (K ++ L)) ∧ w.grownBy w' v.ownBlock ∧ (v'.ownBlock = v.ownBlock ∨ v'.ownBlock = some w.heap.size ∧ w.heap.size < w'.heap.size) := by
  obtain ⟨i, hi, hz, hsize, hby⟩ := info_parts Try.info_node
  have hm : m = L.length := by obtain ⟨_, _, hv, _⟩ := hN.ex; injection hv
  cases a0 with
  | none =>
    obtain ⟨rfl, rfl⟩ := hN.nil rfl
    have hL : L = [] := List.eq_nil_of_length_eq_zero hm.symm
    subst hL
    have hr := run_append_owned_none (P := Try.prog) (w := w) base 22 t 26 i 2 Try.underlying22 hi v n _ hown
    exact ⟨v, w, hr, by simpa using hown, ⟨rfl, rfl, rfl, Nat.le_refl _, fun _ _ _ => rfl⟩, .inl rfl⟩
  | some ad =>
    obtain ⟨v', w', hr, h2, h3, _, h5⟩ := run_append_own_at (P := Try.prog) w base 22 t 26 i (.agg #[.string ByteArray.empty, .string ByteArray.empty]) 2 32 Try.underlying22 hi hz hsize hby rfl (by decide) v n _ hown ad m c (ndsC L) (by rw [ndsC_len, hm]) hN.cells (fun u hu => List.all_eq_true.1 (ndsC_one L) u hu) (by unfold maxLen; omega) (by omega) hbase
    rw [← ndsC_app] at h2
    refine ⟨v', w', hr, h2, h3, h5.imp id fun e => ⟨e, ?_⟩⟩
    exact (h2.lt _ e).2

/-- Two results, the first one a row of the call's own. -/
def tupP (N n : Nat) (K : List Nd) (e : Value) : World → Value → Option Nat → Prop := fun w v ob => ∃ u, v = .tuple #[u, e] ∧ rowP N n K w u ob
theorem tupP_near {N n : Nat} {K : List Nd} {e : Value} : ∀ (w w' : World) (v : Value) (ob : Option Nat), (∀ b, ob = some b → w'.heap[b]? = w.heap[b]?) → tupP N n K e w v ob → tupP N n K e w' v ob := by
  rintro w w' v ob hb ⟨u, rfl, h⟩
  exact ⟨u, rfl, rowP_near w w' u ob hb h⟩
/-- A slice of one number, in a block of its own. -/
def blkI (z : Int) : World → Value → Option Nat → Prop := fun w u ob => ∃ b, u = .slice (some ⟨b, 0, none⟩) 1 1 ∧ ob = some b ∧ w.heap[b]? = some (.cells #[.int .i64 z] 3 (0, 0))
theorem blkI_near {z : Int} : ∀ (w w' : World) (u : Value) (ob : Option Nat), (∀ b, ob = some b → w'.heap[b]? = w.heap[b]?) → blkI z w u ob → blkI z w' u ob := by
  rintro w w' u ob hb ⟨b, rfl, rfl, h⟩
  exact ⟨b, rfl, rfl, (hb b rfl).trans h⟩
theorem blkI.ints {z : Int} {w : World} {u : Value} {ob : Option Nat} (h : blkI z w u ob) : ∃ b, u = .slice (some ⟨b, 0, none⟩) 1 1 ∧ Ints w u [z] := by
  obtain ⟨b, rfl, _, hh⟩ := h
  obtain ⟨c0, _⟩ := row1 hh
  exact ⟨b, rfl, ⟨some ⟨b, 0, none⟩, 1, rfl, Nat.le_refl _, by unfold maxLen; omega, (fun h => by cases h), fun _ => ⟨b, 0, rfl, (Array.getElem?_eq_some_iff.1 hh).1, fun j hj => by
    have hj2 : j = 0 := by simp at hj; omega
    subst hj2
    exact c0⟩⟩⟩
theorem build_int (w : World) (z : Int) : (Instr.buildSlice 27 1 #[(0, .int .i64 z)]).run Try.prog w = .ok (.slice (some ⟨w.heap.size, 0, none⟩) 1 1) (w.alloc (.cells #[.int .i64 z] 3)) := by go_simp
theorem idx_int {w : World} {b off n c k : Nat} (h : k < n) : (Instr.indexAt 27 (.slice (some ⟨b, off, none⟩) n c) (.int .i64 (k : Int))).run Try.prog w = .ok (.pointer (some ⟨b, off + k, none⟩)) w := by
  have h1 : (0 : Int) ≤ (k : Int) := by omega
  have h3 : (k : Int) < (n : Int) := by omega
  go_simp
theorem ld_int {w : World} {g i : Nat} {z : Int} (h : w.cell? ⟨g, i, none⟩ = some (.int .i64 z)) : Sem.run Try.prog (Instr.loadAt 3 (.pointer (some ⟨g, i, none⟩))) w = .ok (.int .i64 z) w := by
  go_simp

section
variable {ops : Array Oper} {Q : Exit → Act → World → Prop} {a : Act} {w w0 : World} {who : Nat → Nat} {i B r ro : Nat} {o : Oper}
/-- 'append(row, l...)', the row the region's own. -/
theorem rol_app_nd (ho : ops[i]? = some o) (hw : Region.wanted o (yielded ops a.tmps) = true) {s : Nat} (hd : o.dst = some s) (hs : s < a.tmps.size) {t : Nat} {x : Operand} (hop : o.op = .call { callee := .builtin .append, args := #[.tmp t, x], argTypes := #[22, 22] })
    {N n : Nat} {K : List Nd} (h : (RLeaf.mem t (rowP N n K)).holds r a w who) {a0 : Option Addr} {m c : Nat} (hx : a.eval x = .slice a0 m c) {L : List Nd} (hN : Nds w (.slice a0 m c) L) (hlen : n + m ≤ 2000000) (hb : Below B w0 w) (hB : B ≤ N) (hNw : N ≤ w.heap.size) {n' : Nat} {K' : List Nd} (hn : n' = n + m) (hK : K' = K ++ L) :
    wpOp Try.prog ops Q i (RPost ops i r r (.mem s (rowP N n' K')) B w0 a w who) a w := by
  subst hn hK
  obtain ⟨v, ob, hv, hob, hrow, rfl⟩ := h
  obtain ⟨v', w', hr, h2, h3, h5⟩ := run_app_nd hrow hN hlen hNw o.type
  exact rol_grow ho hw hd hs (ex_append hop (eval_slot hv) hx hr) h3 hob (h5) ⟨h2, rfl⟩ hb (Nat.le_trans hB hNw) (fun b e => Nat.le_trans hB (own_lt hrow e).1)
/-- '[]T{}'. -/
theorem rol_empty_nd (ho : ops[i]? = some o) (hw : Region.wanted o (yielded ops a.tmps) = true) {s : Nat} (hd : o.dst = some s) (hs : s < a.tmps.size) (hop : o.op = .buildSlice 22 0 #[]) {N : Nat} (hb : Below B w0 w) (hB : B ≤ N) (hNw : N ≤ w.heap.size) :
    wpOp Try.prog ops Q i (RPost ops i r r (.mem s (rowP N 0 [])) B w0 a w who) a w :=
  rol_new ho hw hd hs (x := .cells #[] 26) (v := .slice (some ⟨w.heap.size, 0, none⟩) 0 0) (ex_slice hop rfl (by go_simp)) ⟨World.ownsRow_lit (base := N) (e := 26) (size := 2) w #[] 0 hNw (by decide) rfl, rfl⟩ hb (Nat.le_trans hB hNw)
/-- '[]T{n}'. -/
theorem rol_one_nd (ho : ops[i]? = some o) (hw : Region.wanted o (yielded ops a.tmps) = true) {s : Nat} (hd : o.dst = some s) (hs : s < a.tmps.size) {x : Operand} (hop : o.op = .buildSlice 22 1 #[(0, x)]) {p v : List UInt8} (hx : a.eval x = .agg #[.string (mkB p), .string (mkB v)]) (hb : Below B w0 w) (hBw : B ≤ w.heap.size) :
    wpOp Try.prog ops Q i (RPost ops i r r (.mem s (blkP p v)) B w0 a w who) a w :=
  rol_new ho hw hd hs (x := .cells #[.string (mkB p), .string (mkB v)] 26) (v := .slice (some ⟨w.heap.size, 0, none⟩) 1 1) (ex_slice hop rfl (by simp only [List.map_toArray, List.map_cons, List.map_nil, hx]; exact build_nd w (mkB p) (mkB v))) ⟨_, rfl, rfl, heap_alloc_new _ _⟩ hb hBw
/-- 'T{row}', T a struct of one field. -/
theorem rol_agg_nd (ho : ops[i]? = some o) (hw : Region.wanted o (yielded ops a.tmps) = true) {s : Nat} (hd : o.dst = some s) (hs : s < a.tmps.size) {t : Nat} (hop : o.op = .build 24 #[(0, .tmp t)]) {N n : Nat} {K : List Nd} (hn : n = K.length) (h : (RLeaf.mem t (rowP N n K)).holds r a w who) (hb : Below B w0 w) :
    wpOp Try.prog ops Q i (RPost ops i r ro (.mem s (aggP N n K)) B w0 a w who) a w := by
  subst hn
  obtain ⟨v, ob, hv, hob, hrow, rfl⟩ := h
  obtain ⟨a1, c1, rfl, -⟩ := ndsO hrow
  refine rol_wp ho hw ?_
  have he := eval_slot hv
  have hr : Sem.run Try.prog (execOp a.eval o) w = .ok (.value (.agg #[.slice a1 K.length c1])) w := ex_build hop rfl (by simp only [List.map_toArray, List.map_cons, List.map_nil, he]; go_simp)
  unfold Oper.wp
  rw [hr, Oper.upon_value, hd]
  exact ⟨⟨_, by rw [dst_of ho, hd]⟩, hb, who, RKeep.same _ _ _, _, _, put_self _ hs, hob, _, rfl, hrow, rfl⟩
/-- A struct of one field is put into a box. -/
theorem rol_box_nd (ho : ops[i]? = some o) (hw : Region.wanted o (yielded ops a.tmps) = true) (hd : o.dst = none) {x : Operand} {t g : Nat} (hop : o.op = .store 24 x (.tmp t)) (hx : a.eval x = .pointer (some ⟨g, 0, none⟩)) {N n : Nat} {K : List Nd} (hn : n = K.length) {r2 : Nat} (h : (RLeaf.mem t (aggP N n K)).holds r2 a w who)
    {u : Value} (hg : (RLeaf.box g (.cells #[u] 24)).holds r a w who) (hb : Below B w0 w) (hB : B ≤ g) :
    wpOp Try.prog ops Q i (RPost ops i r r (.mem t (boxP g 24)) B w0 a w who) a w := by
  subst hn
  obtain ⟨v, ob, hv, hob, u', rfl, hrow, rfl⟩ := h
  obtain ⟨a1, c1, rfl, -⟩ := ndsO hrow
  obtain ⟨hh, hwho⟩ := hg
  obtain ⟨q0, f0⟩ := row1 hh
  refine rol_wp ho hw ?_
  have hr : Sem.run Try.prog (execOp a.eval o) w = .ok .skip (w.setCell ⟨g, 0, none⟩ (.slice a1 K.length c1)) := ex_store hop hx (eval_slot hv) (by go_simp)
  unfold Oper.wp
  rw [hr, Oper.upon_skip, hd]
  have hlt : g < w.heap.size := (Array.getElem?_eq_some_iff.1 hh).1
  refine ⟨⟨undef, by rw [dst_of ho, hd]⟩, hb.setCell hB _, who, ⟨fun k _ hk2 => Below.heap_setCell w ⟨g, 0, none⟩ _ k (fun e => hk2 (by rw [e]; exact hwho)), fun _ _ => rfl, by simp [World.setCell]⟩, _, some g, hv, fun b e => ?_, rfl, _, rfl, row1_set hh _⟩
  cases e
  exact ⟨by simp [World.setCell]; exact hlt, hwho⟩
/-- '[]int{z}'. -/
theorem rol_one_int (ho : ops[i]? = some o) (hw : Region.wanted o (yielded ops a.tmps) = true) {s : Nat} (hd : o.dst = some s) (hs : s < a.tmps.size) {x : Operand} (hop : o.op = .buildSlice 27 1 #[(0, x)]) {z : Int} (hx : a.eval x = .int .i64 z) (hb : Below B w0 w) (hBw : B ≤ w.heap.size) :
    wpOp Try.prog ops Q i (RPost ops i r r (.mem s (blkI z)) B w0 a w who) a w :=
  rol_new ho hw hd hs (x := .cells #[.int .i64 z] 3) (v := .slice (some ⟨w.heap.size, 0, none⟩) 1 1) (ex_slice hop rfl (by simp only [List.map_toArray, List.map_cons, List.map_nil, hx]; exact build_int w z)) ⟨_, rfl, rfl, heap_alloc_new _ _⟩ hb hBw
/-- The first of two results, a row. -/
theorem rol_ext_row (ho : ops[i]? = some o) (hw : Region.wanted o (yielded ops a.tmps) = true) {s : Nat} (hd : o.dst = some s) (hs : s < a.tmps.size) {t : Nat} (hop : o.op = .extract (.tmp t) 0) {N n : Nat} {K : List Nd} {e : Value} (h : (RLeaf.mem t (tupP N n K e)).holds r a w who) (hb : Below B w0 w) :
    wpOp Try.prog ops Q i (RPost ops i r ro (.mem s (rowP N n K)) B w0 a w who) a w := by
  obtain ⟨v, ob, hv, hob, u, rfl, hrow⟩ := h
  refine rol_wp ho hw ?_
  have hr : Sem.run Try.prog (execOp a.eval o) w = .ok (.value u) w := ex_extract hop (eval_slot hv) rfl
  unfold Oper.wp
  rw [hr, Oper.upon_value, hd]
  exact ⟨⟨_, by rw [dst_of ho, hd]⟩, hb, who, RKeep.same _ _ _, u, ob, put_self _ hs, hob, hrow⟩
/-- The second one, a value. -/
theorem rol_ext_val (ho : ops[i]? = some o) (hw : Region.wanted o (yielded ops a.tmps) = true) {s : Nat} (hd : o.dst = some s) (hs : s < a.tmps.size) {t : Nat} (hop : o.op = .extract (.tmp t) 1) {N n : Nat} {K : List Nd} {e : Value} {r2 : Nat} (h : (RLeaf.mem t (tupP N n K e)).holds r2 a w who) (hb : Below B w0 w) :
    wpOp Try.prog ops Q i (RPost ops i r ro (.val s e) B w0 a w who) a w := by
  obtain ⟨v, ob, hv, hob, u, rfl, hrow⟩ := h
  exact rol_val ho hw hd hs (ex_extract hop (eval_slot hv) rfl) hb
end

/-! ### A struct's box that the region makes, and fills -/
/-- A box of one cell. -/
def cell1P (N : Nat) (t : TypeId) (u : Value) : World → Value → Option Nat → Prop := fun w v ob => ∃ b, v = .pointer (some ⟨b, 0, none⟩) ∧ ob = some b ∧ N ≤ b ∧ w.heap[b]? = some (.cells #[u] t (0, 0))
theorem cell1P_near {N : Nat} {t : TypeId} {u : Value} : ∀ (w w' : World) (v : Value) (ob : Option Nat), (∀ b, ob = some b → w'.heap[b]? = w.heap[b]?) → cell1P N t u w v ob → cell1P N t u w' v ob := by
  rintro w w' v ob hb ⟨b, rfl, rfl, hN, h⟩
  exact ⟨b, rfl, rfl, hN, (hb b rfl).trans h⟩
/-- A box of one cell, that holds what stands in another slot. -/
def tieP (t : TypeId) : World → Value → Value → Option Nat → Prop := fun w v u ob => ∃ b x, v = .pointer (some ⟨b, 0, none⟩) ∧ ob = some b ∧ u = .agg #[x] ∧ w.heap[b]? = some (.cells #[x] t (0, 0))
theorem tieP_near {t : TypeId} : ∀ (w w' : World) (v u : Value) (ob : Option Nat), (∀ b, ob = some b → w'.heap[b]? = w.heap[b]?) → tieP t w v u ob → tieP t w' v u ob := by
  rintro w w' v u ob hb ⟨b, x, rfl, rfl, rfl, h⟩
  exact ⟨b, x, rfl, rfl, rfl, (hb b rfl).trans h⟩
/-- A number, and a struct of a row, side by side. -/
def tupA (N n : Nat) (K : List Nd) (e : Value) : World → Value → Option Nat → Prop := fun w v ob => ∃ u, v = .tuple #[e, .agg #[u]] ∧ rowP N n K w u ob
theorem tupA_near {N n : Nat} {K : List Nd} {e : Value} : ∀ (w w' : World) (v : Value) (ob : Option Nat), (∀ b, ob = some b → w'.heap[b]? = w.heap[b]?) → tupA N n K e w v ob → tupA N n K e w' v ob := by
  rintro w w' v ob hb ⟨u, rfl, h⟩
  exact ⟨u, rfl, rowP_near w w' u ob hb h⟩

section
variable {ops : Array Oper} {Q : Exit → Act → World → Prop} {a : Act} {w w0 : World} {who : Nat → Nat} {i B r ro : Nat} {o : Oper}
theorem ex_alloc {P : Program} {t : TypeId} (hop : o.op = .alloc t) {v : Value} {w' : World} (hr : Sem.run P (Instr.alloc t true (.tuple #[])) w = .ok v w') : Sem.run P (execOp a.eval o) w = .ok (.value v) w' := by
  simp only [execOp, hop]
  simp [hr]
/-- 'var x T', T a struct of one field. -/
theorem rol_alloc_names (ho : ops[i]? = some o) (hw : Region.wanted o (yielded ops a.tmps) = true) {s : Nat} (hd : o.dst = some s) (hs : s < a.tmps.size) (hop : o.op = .alloc 24) {N : Nat} (hb : Below B w0 w) (hB : B ≤ N) (hN : N ≤ w.heap.size) :
    wpOp Try.prog ops Q i (RPost ops i r r (.mem s (cell1P N 24 (.slice none 0 0))) B w0 a w who) a w :=
  rol_new ho hw hd hs (x := .cells #[.slice none 0 0] 24) (v := .pointer (some ⟨w.heap.size, 0, none⟩)) (ex_alloc hop (by go_simp)) ⟨w.heap.size, rfl, rfl, hN, heap_alloc_new _ _⟩ hb (Nat.le_trans hB hN)
/-- Into that box goes a known value. -/
theorem rol_fill_val (ho : ops[i]? = some o) (hw : Region.wanted o (yielded ops a.tmps) = true) (hd : o.dst = none) {s : Nat} {x : Operand} (hop : o.op = .store 24 (.tmp s) x) {N0 : Nat} {u0 : Value} (h : (RLeaf.mem s (cell1P N0 24 u0)).holds r a w who) {a0 : Option Addr} {m c : Nat} (hx : a.eval x = .agg #[.slice a0 m c])
    (hb : Below B w0 w) (hB : B ≤ N0) : wpOp Try.prog ops Q i (RPost ops i r r (.mem s (cell1P N0 24 (.slice a0 m c))) B w0 a w who) a w := by
  obtain ⟨v, ob, hv, hob, b, rfl, rfl, hN, hh⟩ := h
  obtain ⟨hlt, hwho⟩ := hob b rfl
  obtain ⟨q0, f0⟩ := row1 hh
  refine rol_wp ho hw ?_
  have hr : Sem.run Try.prog (execOp a.eval o) w = .ok .skip (w.setCell ⟨b, 0, none⟩ (.slice a0 m c)) := ex_store hop (eval_slot hv) hx (by go_simp)
  unfold Oper.wp
  rw [hr, Oper.upon_skip, hd]
  refine ⟨⟨undef, by rw [dst_of ho, hd]⟩, hb.setCell (Nat.le_trans hB hN) _, who, ⟨fun k _ hk2 => Below.heap_setCell w ⟨b, 0, none⟩ _ k (fun e => hk2 (by rw [e]; exact hwho)), fun _ _ => rfl, by simp [World.setCell]⟩, _, some b, hv, fun k e => ?_, b, rfl, rfl, hN, row1_set hh _⟩
  cases e
  exact ⟨by simp [World.setCell]; exact hlt, hwho⟩
/-- Into that box goes what stands in another slot: a struct of a row. -/
theorem rol_fill_row (ho : ops[i]? = some o) (hw : Region.wanted o (yielded ops a.tmps) = true) (hd : o.dst = none) {s t : Nat} (hop : o.op = .store 24 (.tmp s) (.tmp t)) {N0 : Nat} {u0 : Value} (h : (RLeaf.mem s (cell1P N0 24 u0)).holds r a w who) {N n : Nat} {K : List Nd} (hn : n = K.length) {r2 : Nat} (h2 : (RLeaf.mem t (aggP N n K)).holds r2 a w who)
    (hb : Below B w0 w) (hB : B ≤ N0) : wpOp Try.prog ops Q i (RPost ops i r r (.mem2 s t (tieP 24)) B w0 a w who) a w := by
  subst hn
  obtain ⟨v, ob, hv, hob, b, rfl, rfl, hN, hh⟩ := h
  obtain ⟨v2, ob2, hv2, -, u2, rfl, hrow, rfl⟩ := h2
  obtain ⟨a1, c1, rfl, -⟩ := ndsO hrow
  obtain ⟨hlt, hwho⟩ := hob b rfl
  obtain ⟨q0, f0⟩ := row1 hh
  refine rol_wp ho hw ?_
  have hr : Sem.run Try.prog (execOp a.eval o) w = .ok .skip (w.setCell ⟨b, 0, none⟩ (.slice a1 K.length c1)) := ex_store hop (eval_slot hv) (eval_slot hv2) (by go_simp)
  unfold Oper.wp
  rw [hr, Oper.upon_skip, hd]
  refine ⟨⟨undef, by rw [dst_of ho, hd]⟩, hb.setCell (Nat.le_trans hB hN) _, who, ⟨fun k _ hk2 => Below.heap_setCell w ⟨b, 0, none⟩ _ k (fun e => hk2 (by rw [e]; exact hwho)), fun _ _ => rfl, by simp [World.setCell]⟩, _, _, some b, hv, hv2, fun k e => ?_, b, _, rfl, rfl, rfl, row1_set hh _⟩
  cases e
  exact ⟨by simp [World.setCell]; exact hlt, hwho⟩
/-- The second of two results, a struct of a row. -/
theorem rol_ext_agg (ho : ops[i]? = some o) (hw : Region.wanted o (yielded ops a.tmps) = true) {s : Nat} (hd : o.dst = some s) (hs : s < a.tmps.size) {t : Nat} (hop : o.op = .extract (.tmp t) 1) {N n : Nat} {K : List Nd} {e : Value} (h : (RLeaf.mem t (tupA N n K e)).holds r a w who) (hb : Below B w0 w) :
    wpOp Try.prog ops Q i (RPost ops i r ro (.mem s (aggP N n K)) B w0 a w who) a w := by
  obtain ⟨v, ob, hv, hob, u, rfl, hrow⟩ := h
  refine rol_wp ho hw ?_
  have hr : Sem.run Try.prog (execOp a.eval o) w = .ok (.value (.agg #[u])) w := ex_extract hop (eval_slot hv) rfl
  unfold Oper.wp
  rw [hr, Oper.upon_value, hd]
  exact ⟨⟨_, by rw [dst_of ho, hd]⟩, hb, who, RKeep.same _ _ _, _, ob, put_self _ hs, hob, u, rfl, hrow⟩
/-- The first one, a value. -/
theorem rol_ext_num (ho : ops[i]? = some o) (hw : Region.wanted o (yielded ops a.tmps) = true) {s : Nat} (hd : o.dst = some s) (hs : s < a.tmps.size) {t : Nat} (hop : o.op = .extract (.tmp t) 0) {N n : Nat} {K : List Nd} {e : Value} {r2 : Nat} (h : (RLeaf.mem t (tupA N n K e)).holds r2 a w who) (hb : Below B w0 w) :
    wpOp Try.prog ops Q i (RPost ops i r ro (.val s e) B w0 a w who) a w := by
  obtain ⟨v, ob, hv, hob, u, rfl, hrow⟩ := h
  exact rol_val ho hw hd hs (ex_extract hop (eval_slot hv) rfl) hb
end
end Go.Proofs.Ythmnoepdedjhjaa
