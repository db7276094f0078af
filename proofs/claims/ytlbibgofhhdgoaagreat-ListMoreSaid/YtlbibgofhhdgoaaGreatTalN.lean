/- THE TEXTS OF TalK TalN: The rows of nodes: of the program and of the document. Rows' nodes, a path's last version: of the document. -/
import Derived.Test.YtlbibgofhhdgoaaGreatTalJ
import Derived.Test.YtlbibgofhhdgoaaGreatNodP
namespace Go.Proofs.YtlbibgofhhdgoaaGreat
open Go.RowKit
set_option linter.unusedVariables false
set_option maxRecDepth 100000

/-- Rows that are being made: the last one's versions lie in a block of their own. -/
def OfI (w : World) (N : Nat) (X : Value) (T : List Rw) : Prop := (T = [] ∧ X = .slice none 0 0) ∨ ∃ T0 p vs zs Y, T = T0 ++ [(p, vs)] ∧ w.ownsRow N 63 2 X (T0.length + 1) (rwC T0 zs ++ [.string (mkB p), Y]) ∧ RwI w N zs T0 ∧ w.ownsRow N 9 1 Y vs.length (strC vs) ∧ ∀ j, j < T0.length → ∀ b, (zs.getD j undef).ownBlock = some b → Y.ownBlock ≠ some b
theorem rwC_one' (r : Rw) (y : Value) : rwC [r] [y] = [.string (mkB r.1), y] := rfl
theorem OfI.own {w : World} {N : Nat} {X : Value} {T : List Rw} (h : OfI w N X T) : RwO w N X T := by
  rcases h with ⟨rfl, rfl⟩ | ⟨T0, p, vs, zs, Y, rfl, h1, h2, h3, -⟩
  · exact RwO.nil _ _
  · refine ⟨zs ++ [Y], ?_, h2.snoc (r := (p, vs)) h3⟩
    rw [rwC_app [(p, vs)] [Y] h2.1, rwC_one', List.length_append]; exact h1
theorem OfI.len {w : World} {N : Nat} {X : Value} {T : List Rw} (h : OfI w N X T) : ∃ a c, X = .slice a T.length c := by
  obtain ⟨ys, h1, -⟩ := h.own
  exact own_form h1
/-- A row behind, its versions in a block that is new. -/
theorem OfI.push {w w' : World} {N : Nat} {X' Y : Value} {T : List Rw} {p : List UInt8} {vs : List (List UInt8)} {ys : List Value} (hI : RwI w N ys T) (hk : ∀ (b : Nat) (cs : Array Value), w.heap[b]? = some (.cells cs 9 (0, 0)) → w'.heap[b]? = w.heap[b]?) (hX : w'.ownsRow N 63 2 X' (T.length + 1) (rwC (T ++ [(p, vs)]) (ys ++ [Y]))) (hY : w'.ownsRow N 9 1 Y vs.length (strC vs)) (hn : ∀ b, Y.ownBlock = some b → w.heap.size ≤ b) : OfI w' N X' (T ++ [(p, vs)]) := by
  refine .inr ⟨T, p, vs, ys, Y, rfl, ?_, hI.keep hk, hY, fun j hj b e q => ?_⟩
  · rwa [rwC_app [(p, vs)] [Y] hI.1, rwC_one'] at hX
  · have := ((hI.2 j hj).lt b e).2
    have := hn b q
    omega
theorem set_last {α : Type} (l : List α) (a x y : α) (rest : List α) : (l ++ a :: x :: rest).set (l.length + 1) y = l ++ a :: y :: rest := by
  rw [List.set_append_right _ _ (by omega), Nat.add_sub_cancel_left]; rfl
/-- Into the last row's place of versions something else is written. -/
theorem own_setlast {w w' : World} {N g cap : Nat} {T0 : List Rw} {zs : List Value} {p : List UInt8} {Y Y' : Value} {cur : Array Value} (hz : zs.length = T0.length) (h : w.ownsRow N 63 2 (.slice (some ⟨g, 0, none⟩) (T0.length + 1) cap) (T0.length + 1) (rwC T0 zs ++ [.string (mkB p), Y])) (hg : w.heap[g]? = some (.cells cur 63 (0, 0))) (hw : w'.heap[g]? = some (.cells (cur.setIfInBounds (T0.length * 2 + 1) Y') 63 (0, 0))) : w'.ownsRow N 63 2 (.slice (some ⟨g, 0, none⟩) (T0.length + 1) cap) (T0.length + 1) (rwC T0 zs ++ [.string (mkB p), Y']) := by
  obtain ⟨h1, h2 | ⟨g', cap', cur', hv, hN, hh, hnc, hcm, hsz, htk⟩⟩ := h
  · cases h2.1
  · injection hv with ha _ hc
    cases ha; subst hc
    rw [hg] at hh
    injection hh with hh
    injection hh with hh _
    subst hh
    refine ⟨by rw [List.length_append, rwC_len hz]; simp; omega, .inr ⟨g, cap, _, rfl, hN, hw, hnc, hcm, by rw [Array.size_setIfInBounds]; exact hsz, ?_⟩⟩
    rw [Array.toList_setIfInBounds, List.take_set, htk]
    have := set_last (rwC T0 zs) (.string (mkB p)) Y Y' []
    rw [rwC_len hz] at this
    exact this
theorem cell_ofrow {w : World} {N g cap n size : Nat} {e : TypeId} {cur : Array Value} {xs : List Value} (h : w.ownsRow N e size (.slice (some ⟨g, 0, none⟩) n cap) n xs) (hg : w.heap[g]? = some (.cells cur e (0, 0))) (w' : World) (hw : w'.heap[g]? = some (.cells cur e (0, 0))) (j : Nat) (hj : j < n * size) : w'.cell? ⟨g, j, none⟩ = xs[j]? := by
  rw [World.cell?_of_block (w := w) (a := ⟨g, j, none⟩) (by exact hw.trans hg.symm)]
  exact h.cellAt j hj
theorem cur_size {w : World} {N g cap n size : Nat} {e : TypeId} {cur : Array Value} {xs : List Value} (h : w.ownsRow N e size (.slice (some ⟨g, 0, none⟩) n cap) n xs) (hg : w.heap[g]? = some (.cells cur e (0, 0))) : n * size ≤ cur.size := by
  rcases h.2 with ⟨h1, _⟩ | ⟨g', cap', cur', hv, _, hh, hnc, _, hsz, _⟩
  · cases h1
  · injection hv with ha _ hc
    cases ha; subst hc
    rw [hg] at hh
    injection hh with hh
    injection hh with hh _
    subst hh
    rw [hsz]; exact Nat.mul_le_mul_right _ hnc
theorem rwC_last {T0 : List Rw} {zs : List Value} {p : List UInt8} {Y : Value} {m : Nat} (hz : zs.length = T0.length) (hm : T0.length = m) : (rwC T0 zs ++ [.string (mkB p), Y])[m * 2]? = some (.string (mkB p)) ∧ (rwC T0 zs ++ [.string (mkB p), Y])[m * 2 + 1]? = some Y := by
  have hl := rwC_len hz
  rw [hm] at hl
  constructor
  · rw [List.getElem?_append_right (by omega), hl, Nat.sub_self]; rfl
  · rw [List.getElem?_append_right (by omega), hl, Nat.add_sub_cancel_left]; rfl
theorem push_last (l : List Rw) (n : Nd) : ∃ T0 vs, pushR l n = T0 ++ [(n.1, vs)] := by
  rcases snoc_cases l with rfl | ⟨k, ⟨q, vs⟩, rfl⟩
  · exact ⟨[], _, rfl⟩
  · by_cases e : q = n.1
    · subst e; exact ⟨k, _, push_same k n.1 vs n.2⟩
    · exact ⟨_, _, push_new k (q, vs) n e⟩
theorem rwOf_take {s : List Nd} {k : Nat} (h : k < s.length) : rwOf (s.take (k + 1)) = pushR (rwOf (s.take k)) (s.getD k ([], [])) := by
  rw [List.take_succ_eq_append_getElem h, rwOf_snoc, nd_getD h]
theorem rwOf_last {s : List Nd} {k : Nat} (h0 : 0 < k) (hk : k ≤ s.length) : ∃ T0 vs, rwOf (s.take k) = T0 ++ [((s.getD (k - 1) ([], [])).1, vs)] := by
  obtain ⟨j, rfl⟩ : ∃ j, k = j + 1 := ⟨k - 1, by omega⟩
  rw [rwOf_take (by omega), Nat.add_sub_cancel]
  exact push_last _ _
theorem row_head {w : World} {N n : Nat} {X : Value} {xs : List Value} {e : TypeId} {size : Nat} (h : w.ownsRow N e size X (n + 1) xs) : ∃ g cap cur, X = .slice (some ⟨g, 0, none⟩) (n + 1) cap ∧ N ≤ g ∧ w.heap[g]? = some (.cells cur e (0, 0)) := by
  rcases h.2 with ⟨_, h0⟩ | ⟨g, cap, cur, hv, hg, hh, _⟩
  · omega
  · exact ⟨g, cap, cur, hv, hg, hh⟩

/-! ### What operations leave -/
/-- A block of rows in which a slot's value was put. -/
def rowsF (g : Nat) (cur : Array Value) (k : Nat) : World → Value → Option Nat → Prop := fun w v ob => ob = some g ∧ w.heap[g]? = some (.cells (cur.setIfInBounds k v) 63 (0, 0))
theorem rowsF_near {g : Nat} {cur : Array Value} {k : Nat} : ∀ (w w' : World) (v : Value) (ob : Option Nat), (∀ b, ob = some b → w'.heap[b]? = w.heap[b]?) → rowsF g cur k w v ob → rowsF g cur k w' v ob := by
  rintro w w' v ob hb ⟨rfl, h⟩
  exact ⟨rfl, (hb g rfl).trans h⟩
/-- Versions of rows that are not turned. -/
def vsI (N : Nat) (zs : List Value) (T : List Rw) : World → Value → (Nat → Prop) → Prop := fun w _ bs => RwI w N zs T ∧ ∀ j, j < T.length → ∀ b, (zs.getD j undef).ownBlock = some b → bs b
theorem vsI_near {N : Nat} {zs : List Value} {T : List Rw} : ∀ (w w' : World) (v : Value) (bs : Nat → Prop), (∀ b, bs b → w'.heap[b]? = w.heap[b]?) → vsI N zs T w v bs → vsI N zs T w' v bs := by
  rintro w w' v bs hb ⟨h, k⟩
  exact ⟨⟨h.1, fun j hj => row_heap (h.2 j hj) fun b e => hb b (k j hj b e)⟩, k⟩
theorem blk_strs {w : World} {b : Nat} {t : List UInt8} (hh : w.heap[b]? = some (.cells #[.string (mkB t)] 9 (0, 0))) : Strs w (.slice (some ⟨b, 0, none⟩) 1 1) [t] := by
  obtain ⟨c0, _⟩ := row1 hh
  exact ⟨some ⟨b, 0, none⟩, 1, rfl, Nat.le_refl _, by unfold maxLen; omega, (fun h => by cases h), fun _ => ⟨b, 0, rfl, (Array.getElem?_eq_some_iff.1 hh).1, fun j hj => by
    have hj2 : j = 0 := by simp at hj; omega
    subst hj2
    exact c0⟩⟩
theorem run_app_stT {w : World} {base n : Nat} {v : Value} {K : List (List UInt8)} (hown : w.ownsRow base 9 1 v n (strC K)) {ad : Addr} {m c : Nat} {L : List (List UInt8)} (hN : Strs w (.slice (some ad) m c) L) (hlen : n + m ≤ 2000000) (hbase : base ≤ w.heap.size) (t : TypeId) :
    ∃ v' w', (Builtin.append_ #[61, 61] t #[v, .slice (some ad) m c]).run Tryz.prog w = .ok v' w' ∧ w'.ownsRow base 9 1 v' (n + m) (strC (K ++ L)) ∧ w.grownBy w' v.ownBlock ∧ (v'.ownBlock = v.ownBlock ∨ v'.ownBlock = some w.heap.size ∧ w.heap.size < w'.heap.size) := by
  obtain ⟨i, hi, hz, hsize, hby⟩ := info_parts Tryz.info_str
  obtain ⟨v', w', hr, h2, h3, _, h5⟩ := run_append_own_at (P := Tryz.prog) w base 61 t 9 i (.string ByteArray.empty) 1 16 Tryz.underlying61 hi hz hsize hby rfl (by decide) v n _ hown ad m c (strC L) (by rw [strC_len, hN.lenE.1]) (hN.cells ad rfl) (fun u hu => List.all_eq_true.1 (strC_one L) u hu) (by unfold maxLen; omega) (by omega) hbase
  rw [← strC_app] at h2
  exact ⟨v', w', hr, h2, h3, h5.imp id fun e => ⟨e, (h2.lt _ e).2⟩⟩
theorem st_stsT {w : World} {g i n c : Nat} {A : Option Addr} {u : Value} (h : w.cell? ⟨g, i, none⟩ = some u) (hf : w.frozen? ⟨g, i, none⟩ = false) : Sem.run Tryz.prog (Instr.storeAt 61 (.pointer (some ⟨g, i, none⟩)) (.slice A n c)) w = .ok () (w.setCell ⟨g, i, none⟩ (.slice A n c)) := by
  go_simp
section
variable {ops : Array Oper} {Q : Exit → Act → World → Prop} {a : Act} {w w0 : World} {who : Nat → Nat} {i B r ro : Nat} {o : Oper}
/-- 'append(vs, v)', vs versions of the region's own. -/
theorem rol_pushS (ho : ops[i]? = some o) (hw : Region.wanted o (yielded ops a.tmps) = true) {s : Nat} (hd : o.dst = some s) (hs : s < a.tmps.size) {y : Operand} {q : Nat} (hop : o.op = .call { callee := .builtin .append, args := #[y, .tmp q], argTypes := #[61, 61] })
    {N t n : Nat} {vs : List (List UInt8)} {Y : Value} (h : (RLeaf.mem t (rowX Y N 9 1 n (strC vs))).holds r a w who) (hy : a.eval y = Y) {v : List UInt8} {r2 : Nat} (hq : (RLeaf.mem q (blkG 9 #[.string (mkB v)] 1)).holds r2 a w who) (hlen : n ≤ 1000000) (hb : Below B w0 w) (hB : B ≤ N) (hNw : N ≤ w.heap.size) {n' : Nat} (hn : n' = n + 1) {vs' : List (List UInt8)} (hv : vs' = vs ++ [v]) :
    wpOp Tryz.prog ops Q i (RPost ops i r r (.mem s (rowG N 9 1 n' (strC vs'))) B w0 a w who) a w := by
  subst hn hv
  obtain ⟨_, ob, -, hob, hrow, rfl⟩ := h
  obtain ⟨u, ob2, hu, -, b, rfl, rfl, hh⟩ := hq
  obtain ⟨v', w', hr, h2, h3, h5⟩ := run_app_stT hrow (blk_strs hh) (m := 1) (c := 1) (by omega) hNw o.type
  exact rol_grow ho hw hd hs (ex_append hop hy (eval_slot hu) hr) h3 hob h5 ⟨h2, rfl⟩ hb (Nat.le_trans hB hNw) (fun b e => Nat.le_trans hB (own_lt hrow e).1)
/-- Versions are put into a row's place. -/
theorem rol_setR (ho : ops[i]? = some o) (hw : Region.wanted o (yielded ops a.tmps) = true) (hd : o.dst = none) {x : Operand} {t g k : Nat} (hop : o.op = .store 61 x (.tmp t)) (hx : a.eval x = .pointer (some ⟨g, k, none⟩)) {N n : Nat} {xs : List Value} {r2 : Nat} (h : (RLeaf.mem t (rowG N 9 1 n xs)).holds r2 a w who)
    {cur : Array Value} (hg : (RLeaf.box g (.cells cur 63)).holds r a w who) (hk : k < cur.size) (hb : Below B w0 w) (hB : B ≤ g) : wpOp Tryz.prog ops Q i (RPost ops i r r (.mem t (rowsF g cur k)) B w0 a w who) a w := by
  obtain ⟨v, ob, hv, -, hrow, rfl⟩ := h
  obtain ⟨h1, h2⟩ := hg
  obtain ⟨av, cv, rfl⟩ := own_form hrow
  have hc : w.cell? ⟨g, k, none⟩ = some cur[k] := by unfold World.cell?; simp only [h1]; rw [Array.getElem?_eq_getElem hk]; rfl
  have hf : w.frozen? ⟨g, k, none⟩ = false := by unfold World.frozen?; simp only [h1]; simp
  refine rol_wp ho hw ?_
  unfold Oper.wp
  rw [ex_store hop hx (eval_slot hv) (st_stsT hc hf), Oper.upon_skip, hd]
  have hlt : g < w.heap.size := (Array.getElem?_eq_some_iff.1 h1).1
  refine ⟨⟨undef, by rw [dst_of ho, hd]⟩, hb.setCell hB _, who, ⟨fun j _ hj => ?_, fun _ _ => rfl, by simp [World.setCell]⟩, _, some g, hv, fun b e => ?_, rfl, heap_setCellT h1 _⟩
  · exact Below.heap_setCell _ ⟨g, k, none⟩ _ j (fun e => hj (by rw [e]; exact h2))
  · cases e
    exact ⟨by simp [World.setCell]; exact hlt, h2⟩
end
theorem bin_eqs {p q : List UInt8} {b : Bool} {w : World} (h : decide (p = q) = b) : Sem.run Tryz.prog (binOp .eql 9 (.string (mkB p)) (.string (mkB q))) w = .ok (.bool b) w := by
  have e := mk_beq p q
  rw [h] at e
  cases b <;> go_simp
theorem rowsE_no {s : List Nd} (h : s.all okN = false) : rowsE s = ([], 1) := by unfold rowsE; rw [h]; rfl
theorem rowsE_yes {s : List Nd} (h : s.all okN = true) : rowsE s = (rwOf (setN s), 0) := by unfold rowsE; rw [h]; rfl
theorem rwOf_len (s : List Nd) : (rwOf s).length ≤ s.length := by
  have key : ∀ (s : List Nd) (l : List Rw), (s.foldl pushR l).length ≤ l.length + s.length := by
    intro s
    induction s with
    | nil => intro l; simp
    | cons n s ih =>
      intro l
      have h1 := ih (pushR l n)
      have h2 : (pushR l n).length ≤ l.length + 1 := by
        rcases snoc_cases l with rfl | ⟨k, ⟨q, vs⟩, rfl⟩
        · simp [pushR]
        · by_cases e : q = n.1
          · subst e; rw [push_same k n.1 vs n.2]; simp
          · rw [push_new k (q, vs) n e]; simp
      rw [List.foldl_cons, List.length_cons]; omega
  have := key s []
  simpa [rwOf] using this
theorem vers_len {s : List Nd} {T0 : List Rw} {p : List UInt8} {vs : List (List UInt8)} (h : rwOf s = T0 ++ [(p, vs)]) : vs.length ≤ s.length := by
  have h1 := all_of s
  rw [h, rwAll_app, rwAll_one] at h1
  have h2 := congrArg List.length h1
  rw [List.length_append, List.length_map] at h2
  simp only at h2
  omega
theorem nd_at {w : World} {b off n c : Nat} {l : List Nd} {k : Nat} (h : Nds w (.slice (some ⟨b, off, none⟩) n c) l) (hk : k < l.length) : w.cell? ⟨b, off + k * 2, none⟩ = some (.string (mkB (l.getD k ([], [])).1)) ∧ w.cell? ⟨b, off + k * 2 + 1, none⟩ = some (.string (mkB (l.getD k ([], [])).2)) := by
  obtain ⟨b', o', e, -, c0, c1⟩ := h.at k hk
  cases e; exact ⟨c0, c1⟩

end Go.Proofs.YtlbibgofhhdgoaaGreat

namespace Go.Proofs.YtlbibgofhhdgoaaGreat
open Go.RowKit
set_option linter.unusedVariables false
set_option maxRecDepth 100000

theorem build_ndT {w : World} {x y : ByteArray} : Sem.run Tryz.prog (Instr.build 55 #[(0, .string x), (1, .string y)]) w = .ok (.agg #[.string x, .string y]) w := by go_simp
theorem run_app_ndU {w : World} {base n : Nat} {v : Value} {K : List Nd} (hown : w.ownsRow base 55 2 v n (ndsC K)) {ad : Addr} {m c : Nat} {L : List Nd} (hN : Nds w (.slice (some ad) m c) L) (hlen : n + m ≤ 200000000) (hbase : base ≤ w.heap.size) (t : TypeId) :
    ∃ v' w', (Builtin.append_ #[22, 22] t #[v, .slice (some ad) m c]).run Tryz.prog w = .ok v' w' ∧ w'.ownsRow base 55 2 v' (n + m) (ndsC (K ++ L)) ∧ w.grownBy w' v.ownBlock ∧ (v'.ownBlock = v.ownBlock ∨ v'.ownBlock = some w.heap.size ∧ w.heap.size < w'.heap.size) := by
  obtain ⟨i, hi, hz, hsize, hby⟩ := info_parts Tryz.info_node
  obtain ⟨v', w', hr, h2, h3, _, h5⟩ := run_append_own_at (P := Tryz.prog) w base 22 t 55 i (.agg #[.string ByteArray.empty, .string ByteArray.empty]) 2 32 Tryz.underlying22 hi hz hsize hby rfl (by decide) v n _ hown ad m c (ndsC L) (by rw [ndsC_len, hN.lenE.1]) (hN.src ad rfl) (fun u hu => List.all_eq_true.1 (ndsC_one L) u hu) (by unfold maxLen; omega) (by omega) hbase
  rw [← ndsC_app] at h2
  exact ⟨v', w', hr, h2, h3, h5.imp id fun e => ⟨e, (h2.lt _ e).2⟩⟩
section
variable {ops : Array Oper} {Q : Exit → Act → World → Prop} {a : Act} {w w0 : World} {who : Nat → Nat} {i B r ro : Nat} {o : Oper}
/-- 'append(l, n)', l nodes of the region's own. -/
theorem rol_pushN (ho : ops[i]? = some o) (hw : Region.wanted o (yielded ops a.tmps) = true) {s : Nat} (hd : o.dst = some s) (hs : s < a.tmps.size) {y : Operand} {q : Nat} (hop : o.op = .call { callee := .builtin .append, args := #[y, .tmp q], argTypes := #[22, 22] })
    {N t n : Nat} {K : List Nd} {Y : Value} (h : (RLeaf.mem t (rowX Y N 55 2 n (ndsC K))).holds r a w who) (hy : a.eval y = Y) {p v : List UInt8} {r2 : Nat} (hq : (RLeaf.mem q (blkG 55 #[.string (mkB p), .string (mkB v)] 1)).holds r2 a w who) (hlen : n ≤ 100000000) (hb : Below B w0 w) (hB : B ≤ N) (hNw : N ≤ w.heap.size) {n' : Nat} (hn : n' = n + 1) {K' : List Nd} (hv : K' = K ++ [(p, v)]) :
    wpOp Tryz.prog ops Q i (RPost ops i r r (.mem s (rowG N 55 2 n' (ndsC K'))) B w0 a w who) a w := by
  subst hn hv
  obtain ⟨_, ob, -, hob, hrow, rfl⟩ := h
  obtain ⟨u, ob2, hu, -, b, rfl, rfl, hh⟩ := hq
  obtain ⟨v', w', hr, h2, h3, h5⟩ := run_app_ndU hrow (blk_nds hh) (m := 1) (c := 1) (by omega) hNw o.type
  exact rol_grow ho hw hd hs (ex_append hop hy (eval_slot hu) hr) h3 hob h5 ⟨h2, rfl⟩ hb (Nat.le_trans hB hNw) (fun b e => Nat.le_trans hB (own_lt hrow e).1)
end

set_option maxHeartbeats 3200000 in
theorem refall_any16 (V : Value) (l : List Rw) (w : World) (hV : Rws w V l) (hl : l.length ≤ 1000) (hv : ∀ r ∈ l, r.2.length ≤ 10000) :
    Calls Tryz.prog 36 #[V] w fun e w' => ∃ x, e = .returned x ∧ w'.ownsRow w.heap.size 55 2 x (rwAll l).length (ndsC (rwAll l)) ∧ Below w.heap.size w w' := by
  obtain ⟨Al, cl, rfl, hl1, hl2, -, -⟩ := hV.ex
  unfold maxLen at hl2
  obtain ⟨n, hn⟩ : ∃ n, l.length = n := ⟨_, rfl⟩
  rw [hn] at hl hl1 hV ⊢
  have SV := Lib.hid hV; have HN := Lib.hid hn; have HV := Lib.hid hv
  obtain ⟨R, hR⟩ : ∃ R, rwAll l = R := ⟨_, rfl⟩
  rw [hR]
  have HR := Lib.hid hR
  obtain ⟨N0, hN0⟩ : ∃ N, w.heap.size = N := ⟨_, rfl⟩
  have HN0 := Lib.hid hN0
  rw [hN0]
  have hal := fun k => all_len (M := 10000) (l := l.take k) fun r hr => hv r (List.mem_of_mem_take hr)
  have HAL := Lib.hid (show ∀ k, (rwAll (l.take k)).length ≤ n * 10000 from fun k => Nat.le_trans (hal k) (Nat.mul_le_mul_right _ (by rw [List.length_take]; omega)))
  clear hV hn hv hR hN0 hal
  go_enter Tryz.func36, Tryz.ntmps36
  go_wp2
  go_loopw [3, 4] (fun v3 i wr => ∃ (k : Nat) (X : Value), k ≤ n ∧ i = .int .i64 k ∧ X = v3 ∧ Hid (wr.ownsRow N0 55 2 X (rwAll (l.take k)).length (ndsC (rwAll (l.take k)))) ∧ Hid (Below N0 w wr)) (fun _ i _ => n - (intOf i).toNat)
  case atStart => exact ⟨0, _, Nat.zero_le _, rfl, rfl, Lib.hid (World.ownsRow_nil _ _ _ _), Lib.hid (Below.refl _ _)⟩
  case round =>
    obtain ⟨k, X, hk, rfl, rfl, HO, HB⟩ := hrel
    by_cases hlt : k < n
    · have hkl : k < l.length := by rw [HN.out]; exact hlt
      obtain ⟨bl, ol, ay, ny, cy, rfl, c0, c1, hsy⟩ := SV.out.at k hkl
      have htk := all_take hkl
      have hvy := HV.out _ (gd_in (z := zR) hkl)
      obtain ⟨y, hy⟩ : ∃ y, y = l.getD k zR := ⟨_, rfl⟩
      rw [← hy] at c0 hsy htk hvy
      obtain ⟨p, vs⟩ := y
      simp only at c0 c1 hsy hvy htk
      have hny := hsy.lenE
      have hkb : (k : Int) < (n : Int) := by omega
      have HTK := Lib.hid htk; have SY := Lib.hid hsy; have HVL := Lib.hid hny.1; have C0 := Lib.hid c0; have C1 := Lib.hid c1; have HKN := Lib.hid hlt
      have hny2 : ny ≤ 10000 := by rw [← hny.1]; exact hvy
      obtain ⟨-, hny1, hny3⟩ := hny
      unfold maxLen at hny3
      obtain ⟨P, hP⟩ : ∃ P, rwAll (l.take k) = P := ⟨_, rfl⟩
      have hpl : P.length ≤ n * 10000 := by rw [← hP]; exact HAL.out k
      rw [hP] at HO HTK
      clear hy htk hvy hsy c0 c1 hP
      go_wp2
      go_loopw [3, 5] (fun v3 i ws => ∃ (j : Nat) (Y : Value) (K : List Nd) (q : Nat), j ≤ ny ∧ i = .int .i64 j ∧ Y = v3 ∧ Hid (K = P ++ (vs.take j).map fun v => (p, v)) ∧ Hid (K.length = q) ∧ Hid (q = P.length + j) ∧ Hid (ws.ownsRow N0 55 2 Y q (ndsC K)) ∧ Hid (Below N0 w ws)) (fun _ i _ => ny - (intOf i).toNat)
      case atStart => exact ⟨0, _, P, _, Nat.zero_le _, rfl, rfl, Lib.hid (by simp), Lib.hid rfl, Lib.hid rfl, HO, HB⟩
      case round =>
        obtain ⟨j, Y, K, q, hj, rfl, rfl, HK, HQ, HQE, HOW, HB6⟩ := hrel
        have hbw : Below w.heap.size w wr := by rw [HN0.out]; exact HB6.out
        have g1 := cell_keep C1.out hbw
        have HNS := Lib.hid (show N0 ≤ wr.heap.size by rw [← HN0.out]; exact hbw.size)
        by_cases hlt2 : j < ny
        · have hjl : j < vs.length := by rw [HVL.out]; exact hlt2
          obtain ⟨bz, oz, rfl, hcz⟩ := SY.out.atT j hjl
          obtain ⟨x, hx⟩ : ∃ x, x = vs.getD j [] := ⟨_, rfl⟩
          rw [← hx] at hcz
          have htj : (vs.take (j + 1)).map (fun v => (p, v)) = (vs.take j).map (fun v => (p, v)) ++ [(p, x)] := by
            rw [List.take_succ_eq_append_getElem hjl, List.map_append, hx, gd_at hjl]; rfl
          obtain ⟨K2, hK2⟩ : ∃ K2, K2 = K ++ [(p, x)] := ⟨_, rfl⟩
          have HTJ := Lib.hid htj; have CX := Lib.hid hcz; have HJN := Lib.hid hlt2; have HK2 := Lib.hid hK2; have HQB := Lib.hid (show q ≤ 100000000 by have := HQE.out; omega)
          have hjb : (j : Int) < (ny : Int) := by omega
          clear hx htj hcz hjl hK2 hbw
          go_upto_region 8 with fail
          clear g1
          refine rol_run (by kernel_rfl) [[], [], [], [1, 2], [1, 2, 3], [1, 2, 3, 4], [], [], [6, 7], [6, 7, 8], [6, 7, 8, 9], [], [6, 7, 8, 9, 10, 11], [6, 7, 8, 9, 10, 11, 12], [1, 2, 3, 4, 5, 6, 7, 8, 9, 10, 11, 12, 13], [1, 2, 3, 4, 5, 6, 7, 8, 9, 10, 11, 12, 13, 14], [0, 1, 2, 3, 4, 5, 6, 7, 8, 9, 10, 11, 12, 13, 14, 15], [0, 1, 2, 3, 4, 5, 6, 7, 8, 9, 10, 11, 12, 13, 14, 15, 16]] (by kernel_rfl) [22, 23, 24, 25, 26, 27, 28, 29, 30, 31, 32, 33, 34, 35, 36, 37, 38, 3] [[19], [], [], [1, 2], [3], [4], [], [], [6, 7], [8], [9], [], [10, 11], [12], [5, 13], [14], [0, 15, 18], [16]] [0, 0, 0, 0, 0, 0, 0, 0, 0, 0, 0, 0, 0, 0, 0, 2, 1, 1, 1, 0] [0, 0, 0, 0, 0, 0, 0, 0, 0, 0, 0, 0, 0, 0, 0, 0, 1, 0] [1000, 1000, 1000, 1000, 1000, 1000, 1000, 1000, 1000, 1000, 1000, 1000, 1000, 1000, 1000, 1000, 1000, 1000, 16, 17] [.val 22 (Y), .val 23 (.slice (some ⟨bl, ol, none⟩) n cl), .val 24 (.int .i64 (k : Int)), .val 25 (.pointer (some ⟨bl, ol + k * 2, none⟩)), .val 26 (.pointer (some ⟨bl, ol + k * 2, none⟩)), .val 27 (.string (mkB p)), .val 28 (.slice (some ⟨bl, ol, none⟩) n cl), .val 29 (.int .i64 (k : Int)), .val 30 (.pointer (some ⟨bl, ol + k * 2, none⟩)), .val 31 (.pointer (some ⟨bl, ol + k * 2 + 1, none⟩)), .val 32 (.slice (some ⟨bz, oz, none⟩) ny cy), .val 33 (.int .i64 (j : Int)), .val 34 (.pointer (some ⟨bz, oz + j, none⟩)), .val 35 (.string (mkB x)), .val 36 (.agg #[.string (mkB p), .string (mkB x)]), .mem 37 (blkG 55 #[.string (mkB p), .string (mkB x)] 1), .mem 38 (rowG N0 55 2 (q + 1) (ndsC K2)), .mem 3 (rowG N0 55 2 (q + 1) (ndsC K2)), .mem 3 (rowX Y N0 55 2 q (ndsC K)), .val 3 Y] (by kernel_rfl) ?_ (N0) (wr.heap.size) rfl HB6.out rfl (fun _ => 1) ?_ ?_ ?_
          · intro j hj
            have hj3 : j < 20 := hj
            have hj2 : j = 0 ∨ j = 1 ∨ j = 2 ∨ j = 3 ∨ j = 4 ∨ j = 5 ∨ j = 6 ∨ j = 7 ∨ j = 8 ∨ j = 9 ∨ j = 10 ∨ j = 11 ∨ j = 12 ∨ j = 13 ∨ j = 14 ∨ j = 15 ∨ j = 16 ∨ j = 17 ∨ j = 18 ∨ j = 19 := by omega
            clear hj hj3
            rcases hj2 with rfl | rfl | rfl | rfl | rfl | rfl | rfl | rfl | rfl | rfl | rfl | rfl | rfl | rfl | rfl | rfl | rfl | rfl | rfl | rfl
            · exact trivial
            · exact trivial
            · exact trivial
            · exact trivial
            · exact trivial
            · exact trivial
            · exact trivial
            · exact trivial
            · exact trivial
            · exact trivial
            · exact trivial
            · exact trivial
            · exact trivial
            · exact trivial
            · exact trivial
            · exact blkG_near
            · exact rowG_near
            · exact rowG_near
            · exact rowX_near
            · exact trivial
          · intro j hj0 hj
            have hj1 : 18 ≤ j := hj0
            have hj3 : j < 20 := hj
            have hj2 : j = 18 ∨ j = 19 := by omega
            clear hj0 hj hj1 hj3
            rcases hj2 with rfl | rfl
            · exact ⟨_, _, rfl, fun b e => ⟨(own_lt HOW.out e).2, rfl⟩, HOW.out, rfl⟩
            · exact rfl
          · intro i hi a wx who hG hF
            have hz : a.tmps.size = 40 := hG.size
            have hi3 : i < 18 := hi
            have hi2 : i = 0 ∨ i = 1 ∨ i = 2 ∨ i = 3 ∨ i = 4 ∨ i = 5 ∨ i = 6 ∨ i = 7 ∨ i = 8 ∨ i = 9 ∨ i = 10 ∨ i = 11 ∨ i = 12 ∨ i = 13 ∨ i = 14 ∨ i = 15 ∨ i = 16 ∨ i = 17 := by omega
            clear hi hi3
            rcases hi2 with rfl | rfl | rfl | rfl | rfl | rfl | rfl | rfl | rfl | rfl | rfl | rfl | rfl | rfl | rfl | rfl | rfl | rfl
            · exact rol_val rfl rfl rfl (by rw [hz]; decide) (ex_move (Or.inl rfl) (eval_slot (hF 19 (by decide)))) hG.below
            · exact rol_val rfl rfl rfl (by rw [hz]; decide) (ex_move (Or.inl rfl) (eval_slot ((hG.slots 0 (by decide)).trans rfl))) hG.below
            · exact rol_val rfl rfl rfl (by rw [hz]; decide) (ex_move (Or.inl rfl) (eval_slot ((hG.slots 4 (by decide)).trans rfl))) hG.below
            · exact rol_val rfl rfl rfl (by rw [hz]; decide) (ex_index rfl (eval_slot (hF 1 (by decide))) (eval_slot (hF 2 (by decide))) (idx_rws HKN.out)) hG.below
            · exact rol_val rfl rfl rfl (by rw [hz]; decide) (ex_field rfl (eval_slot (hF 3 (by decide))) (by go_simp)) hG.below
            · exact rol_val rfl rfl rfl (by rw [hz]; decide) (ex_load rfl (eval_slot (hF 4 (by decide))) (ld_strT (cell_keep C0.out (by rw [HN0.out]; exact hG.below)))) hG.below
            · exact rol_val rfl rfl rfl (by rw [hz]; decide) (ex_move (Or.inl rfl) (eval_slot ((hG.slots 0 (by decide)).trans rfl))) hG.below
            · exact rol_val rfl rfl rfl (by rw [hz]; decide) (ex_move (Or.inl rfl) (eval_slot ((hG.slots 4 (by decide)).trans rfl))) hG.below
            · exact rol_val rfl rfl rfl (by rw [hz]; decide) (ex_index rfl (eval_slot (hF 6 (by decide))) (eval_slot (hF 7 (by decide))) (idx_rws HKN.out)) hG.below
            · exact rol_val rfl rfl rfl (by rw [hz]; decide) (ex_field rfl (eval_slot (hF 8 (by decide))) (by go_simp)) hG.below
            · exact rol_val rfl rfl rfl (by rw [hz]; decide) (ex_load rfl (eval_slot (hF 9 (by decide))) (ld_stsT (cell_keep C1.out (by rw [HN0.out]; exact hG.below)))) hG.below
            · exact rol_val rfl rfl rfl (by rw [hz]; decide) (ex_move (Or.inl rfl) (eval_slot ((hG.slots 5 (by decide)).trans rfl))) hG.below
            · exact rol_val rfl rfl rfl (by rw [hz]; decide) (ex_index rfl (eval_slot (hF 10 (by decide))) (eval_slot (hF 11 (by decide))) (idx_stsT HJN.out)) hG.below
            · exact rol_val rfl rfl rfl (by rw [hz]; decide) (ex_load rfl (eval_slot (hF 12 (by decide))) (ld_strT (cell_keep CX.out (by rw [HN0.out]; exact hG.below)))) hG.below
            · exact rol_val rfl rfl rfl (by rw [hz]; decide) (ex_build rfl (vs := #[(0, .string (mkB p)), (1, .string (mkB x))]) (by simp only [List.map_toArray, List.map_cons, List.map_nil, eval_slot (hF 5 (by decide)), eval_slot (hF 13 (by decide))]) build_ndT) hG.below
            · exact rol_newO rfl rfl rfl (by rw [hz]; decide) (x := .cells #[.string (mkB p), .string (mkB x)] 55) (v := .slice (some ⟨wx.heap.size, 0, none⟩) 1 1) (ex_slice rfl (vs := #[(0, .agg #[.string (mkB p), .string (mkB x)])]) (by simp only [List.map_toArray, List.map_cons, List.map_nil, eval_slot (hF 14 (by decide))]) (by go_simp)) ⟨_, rfl, rfl, heap_alloc_new _ _⟩ hG.below (Nat.le_trans HNS.out hG.new)
            · exact rol_pushN rfl rfl rfl (by rw [hz]; decide) rfl (hF 18 (by decide)) (eval_slot (hF 0 (by decide))) (hF 15 (by decide)) HQB.out hG.below (Nat.le_refl _) (Nat.le_trans HNS.out hG.new) rfl HK2.out
            · exact rol_move rfl rfl rfl (by rw [hz]; decide) (Or.inr rfl) (hF 16 (by decide)) hG.below
          · intro a wx who hG hF
            obtain ⟨v3, ob3, fv3, fo3, fp3⟩ := hF 17 (of_decide_eq_true (by kernel_rfl)) (of_decide_eq_true (by kernel_rfl))
            replace fv3 : a.tmps.getD 3 undef = v3 := eval_slot (s := 3) fv3
            have hbx := hG.below
            have hnx := hG.new
            rw [hG.frame]
            simp only [List.foldl_cons, List.foldl_nil, List.setIfInBounds_toArray, List.set_cons_zero, List.set_cons_succ]
            generalize a.tmps.getD 22 undef = u22
            generalize a.tmps.getD 23 undef = u23
            generalize a.tmps.getD 24 undef = u24
            generalize a.tmps.getD 25 undef = u25
            generalize a.tmps.getD 26 undef = u26
            generalize a.tmps.getD 27 undef = u27
            generalize a.tmps.getD 28 undef = u28
            generalize a.tmps.getD 29 undef = u29
            generalize a.tmps.getD 30 undef = u30
            generalize a.tmps.getD 31 undef = u31
            generalize a.tmps.getD 32 undef = u32
            generalize a.tmps.getD 33 undef = u33
            generalize a.tmps.getD 34 undef = u34
            generalize a.tmps.getD 35 undef = u35
            generalize a.tmps.getD 36 undef = u36
            generalize a.tmps.getD 37 undef = u37
            generalize a.tmps.getD 38 undef = u38
            rw [fv3]
            clear hF hG fv3
            have HBN := Lib.hid hbx; have HRW := Lib.hid fp3.1
            clear fo3 fp3 hbx hnx
            go_wp2
            go_roundw
            case rel => exact ⟨j + 1, _, K2, q + 1, by omega, by go_num, rfl, Lib.hid (by rw [HK2.out, HK.out, HTJ.out, List.append_assoc]), Lib.hid (by rw [HK2.out, List.length_append, HQ.out]; rfl), Lib.hid (by rw [HQE.out]; rfl), HRW, HBN⟩
            case measure => simp [intOf]; omega
        · have e : j = ny := by omega
          subst e
          have hK : K = rwAll (l.take (k + 1)) := by rw [HK.out, HTK.out, List.take_of_length_le (by rw [HVL.out]; exact Nat.le_refl _)]
          have HK2 := Lib.hid hK; clear hK hbw
          go_wp2
          go_roundw
          case rel => exact ⟨k + 1, _, by omega, by go_num, rfl, Lib.hid (by rw [← HK2.out, HQ.out]; exact HOW.out), HB6⟩
          case measure => simp [intOf]; omega
    · have e : k = n := by omega
      subst e
      have hP : rwAll (l.take k) = R := by rw [List.take_of_length_le (by rw [HN.out]; exact Nat.le_refl _)]; exact HR.out
      rw [hP] at HO
      clear hP
      go_wp2
      go_ret
      exact ⟨_, rfl, HO.out, HB.out⟩

/-! ### The last version -/
def stepB (p : List UInt8) (s : List UInt8 × Bool) (r : Rw) : List UInt8 × Bool := if (decide (r.1 = p) && decide (0 < r.2.length)) = true then (lastV r.2, true) else s
def refB (l : List Rw) (p : List UInt8) : List UInt8 × Bool := l.foldl (stepB p) ([], false)
theorem refB_take {l : List Rw} {p : List UInt8} {k : Nat} (h : k < l.length) : refB (l.take (k + 1)) p = stepB p (refB (l.take k) p) (l.getD k zR) := by
  unfold refB; rw [List.take_succ_eq_append_getElem h, List.foldl_append, gd_at h]; rfl
theorem stepB_none {p : List UInt8} : ∀ {l : List Rw} (s : List UInt8 × Bool), (∀ r ∈ l, r.1 ≠ p) → l.foldl (stepB p) s = s
  | [], _, _ => rfl
  | r :: l, s, h => by
    have h1 : stepB p s r = s := by unfold stepB; rw [decide_eq_false (h r List.mem_cons_self)]; rfl
    rw [List.foldl_cons, h1]; exact stepB_none s fun x hx => h x (List.mem_cons_of_mem _ hx)
theorem refB_is {l : List Rw} {p : List UInt8} (ol : okR l = true) : refB l p = if rwVer l p = [] then ([], false) else (lastV (rwVer l p), true) := by
  by_cases h : ∃ r ∈ l, r.1 = p
  · obtain ⟨r, hr, rfl⟩ := h
    obtain ⟨a, b, rfl⟩ := List.append_of_mem hr
    obtain ⟨h1, h2⟩ := okR_iff.1 ol
    obtain ⟨-, q2, q3⟩ := List.pairwise_append.1 h2
    have hne := (fitV_iff.1 (h1 r hr).2).2.2
    have n1 : ∀ x ∈ a, x.1 ≠ r.1 := fun x hx => ltP_ne (q3 x hx r List.mem_cons_self)
    have n2 : ∀ x ∈ b, x.1 ≠ r.1 := fun x hx => (ltP_ne ((List.pairwise_cons.1 q2).1 x hx)).symm
    rw [ver_at ol, if_neg hne]
    unfold refB
    rw [List.foldl_append, List.foldl_cons, stepB_none _ n1, stepB_none _ n2]
    unfold stepB
    rw [decide_eq_true rfl, decide_eq_true (List.length_pos_iff.2 hne)]; rfl
  · have hn : ∀ r ∈ l, r.1 ≠ p := fun r hr e => h ⟨r, hr, e⟩
    rw [ver_none hn, if_pos rfl]
    exact stepB_none _ hn

end Go.Proofs.YtlbibgofhhdgoaaGreat
