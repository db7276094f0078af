/- The rows of nodes: of the program and of the document. -/
import Derived.Test.YtnngfcjfhhfafaaGreatTalJ
import Derived.Test.YtnngfcjfhhfafaaGreatNodK
namespace Go.Proofs.YtnngfcjfhhfafaaGreat
open Go.RowKit
set_option linter.unusedVariables false
set_option maxRecDepth 100000

/-- Rows that are being made: the last one's versions lie in a block of their own. -/
def OfI (w : World) (N : Nat) (X : Value) (T : List Rw) : Prop := (T = [] ∧ X = .slice none 0 0) ∨ ∃ T0 p vs zs Y, T = T0 ++ [(p, vs)] ∧ w.ownsRow N 58 2 X (T0.length + 1) (rwC T0 zs ++ [.string (mkB p), Y]) ∧ RwI w N zs T0 ∧ w.ownsRow N 9 1 Y vs.length (strC vs) ∧ ∀ j, j < T0.length → ∀ b, (zs.getD j undef).ownBlock = some b → Y.ownBlock ≠ some b
theorem rwC_one' (r : Rw) (y : Value) : rwC [r] [y] = [.string (mkB r.1), y] := rfl
theorem OfI.own {w : World} {N : Nat} {X : Value} {T : List Rw} (h : OfI w N X T) : RwO w N X T := by
  rcases h with ⟨rfl, rfl⟩ | ⟨T0, p, vs, zs, Y, rfl, h1, h2, h3, -⟩
  · exact RwO.nil _ _
  · refine ⟨zs ++ [Y], ?_, h2.snoc (r := (p, vs)) h3⟩
    rw [rwC_app [(p, vs)] [Y] h2.1, rwC_one', List.length_append]; exact h1
theorem OfI.len {w : World} {N : Nat} {X : Value} {T : List Rw} (h : OfI w N X T) : ∃ a c, X = .slice a T.length c := by
  obtain ⟨ys, h1, -⟩ := h.own
  exact own_form h1
/-- A row behind, its versions in a block that is new. -/
theorem OfI.push {w w' : World} {N : Nat} {X' Y : Value} {T : List Rw} {p : List UInt8} {vs : List (List UInt8)} {ys : List Value} (hI : RwI w N ys T) (hk : ∀ (b : Nat) (cs : Array Value), w.heap[b]? = some (.cells cs 9 (0, 0)) → w'.heap[b]? = w.heap[b]?) (hX : w'.ownsRow N 58 2 X' (T.length + 1) (rwC (T ++ [(p, vs)]) (ys ++ [Y]))) (hY : w'.ownsRow N 9 1 Y vs.length (strC vs)) (hn : ∀ b, Y.ownBlock = some b → w.heap.size ≤ b) : OfI w' N X' (T ++ [(p, vs)]) := by
  refine .inr ⟨T, p, vs, ys, Y, rfl, ?_, hI.keep hk, hY, fun j hj b e q => ?_⟩
  · rwa [rwC_app [(p, vs)] [Y] hI.1, rwC_one'] at hX
  · have := ((hI.2 j hj).lt b e).2
    have := hn b q
    omega
theorem set_last {α : Type} (l : List α) (a x y : α) (rest : List α) : (l ++ a :: x :: rest).set (l.length + 1) y = l ++ a :: y :: rest := by
  rw [List.set_append_right _ _ (by omega), Nat.add_sub_cancel_left]; rfl
/-- Into the last row's place of versions something else is written. -/
theorem own_setlast {w w' : World} {N g cap : Nat} {T0 : List Rw} {zs : List Value} {p : List UInt8} {Y Y' : Value} {cur : Array Value} (hz : zs.length = T0.length) (h : w.ownsRow N 58 2 (.slice (some ⟨g, 0, none⟩) (T0.length + 1) cap) (T0.length + 1) (rwC T0 zs ++ [.string (mkB p), Y])) (hg : w.heap[g]? = some (.cells cur 58 (0, 0))) (hw : w'.heap[g]? = some (.cells (cur.setIfInBounds (T0.length * 2 + 1) Y') 58 (0, 0))) : w'.ownsRow N 58 2 (.slice (some ⟨g, 0, none⟩) (T0.length + 1) cap) (T0.length + 1) (rwC T0 zs ++ [.string (mkB p), Y']) := by
  obtain ⟨h1, h2 | ⟨g', cap', cur', hv, hN, hh, hnc, hcm, hsz, htk⟩⟩ := h
  · cases h2.1
  · injection hv with ha _ hc
    cases ha; subst hc
    rw [hg] at hh
    injection hh with hh
    injection hh with hh _
    subst hh
    refine ⟨by rw [List.length_append, rwC_len hz]; simp; omega, .inr ⟨g, cap, _, rfl, hN, hw, hnc, hcm, by rw [Array.size_setIfInBounds]; exact hsz, ?_⟩⟩
    rw [Array.toList_setIfInBounds, List.take_set, htk]
    have := set_last (rwC T0 zs) (.string (mkB p)) Y Y' []
    rw [rwC_len hz] at this
    exact this
theorem cell_ofrow {w : World} {N g cap n size : Nat} {e : TypeId} {cur : Array Value} {xs : List Value} (h : w.ownsRow N e size (.slice (some ⟨g, 0, none⟩) n cap) n xs) (hg : w.heap[g]? = some (.cells cur e (0, 0))) (w' : World) (hw : w'.heap[g]? = some (.cells cur e (0, 0))) (j : Nat) (hj : j < n * size) : w'.cell? ⟨g, j, none⟩ = xs[j]? := by
  rw [World.cell?_of_block (w := w) (a := ⟨g, j, none⟩) (by exact hw.trans hg.symm)]
  exact h.cellAt j hj
theorem cur_size {w : World} {N g cap n size : Nat} {e : TypeId} {cur : Array Value} {xs : List Value} (h : w.ownsRow N e size (.slice (some ⟨g, 0, none⟩) n cap) n xs) (hg : w.heap[g]? = some (.cells cur e (0, 0))) : n * size ≤ cur.size := by
  rcases h.2 with ⟨h1, _⟩ | ⟨g', cap', cur', hv, _, hh, hnc, _, hsz, _⟩
  · cases h1
  · injection hv with ha _ hc
    cases ha; subst hc
    rw [hg] at hh
    injection hh with hh
    injection hh with hh _
    subst hh
    rw [hsz]; exact Nat.mul_le_mul_right _ hnc
theorem rwC_last {T0 : List Rw} {zs : List Value} {p : List UInt8} {Y : Value} {m : Nat} (hz : zs.length = T0.length) (hm : T0.length = m) : (rwC T0 zs ++ [.string (mkB p), Y])[m * 2]? = some (.string (mkB p)) ∧ (rwC T0 zs ++ [.string (mkB p), Y])[m * 2 + 1]? = some Y := by
  have hl := rwC_len hz
  rw [hm] at hl
  constructor
  · rw [List.getElem?_append_right (by omega), hl, Nat.sub_self]; rfl
  · rw [List.getElem?_append_right (by omega), hl, Nat.add_sub_cancel_left]; rfl
theorem push_last (l : List Rw) (n : Nd) : ∃ T0 vs, pushR l n = T0 ++ [(n.1, vs)] := by
  rcases snoc_cases l with rfl | ⟨k, ⟨q, vs⟩, rfl⟩
  · exact ⟨[], _, rfl⟩
  · by_cases e : q = n.1
    · subst e; exact ⟨k, _, push_same k n.1 vs n.2⟩
    · exact ⟨_, _, push_new k (q, vs) n e⟩
theorem rwOf_take {s : List Nd} {k : Nat} (h : k < s.length) : rwOf (s.take (k + 1)) = pushR (rwOf (s.take k)) (s.getD k ([], [])) := by
  rw [List.take_succ_eq_append_getElem h, rwOf_snoc, nd_getD h]
theorem rwOf_last {s : List Nd} {k : Nat} (h0 : 0 < k) (hk : k ≤ s.length) : ∃ T0 vs, rwOf (s.take k) = T0 ++ [((s.getD (k - 1) ([], [])).1, vs)] := by
  obtain ⟨j, rfl⟩ : ∃ j, k = j + 1 := ⟨k - 1, by omega⟩
  rw [rwOf_take (by omega), Nat.add_sub_cancel]
  exact push_last _ _
theorem row_head {w : World} {N n : Nat} {X : Value} {xs : List Value} {e : TypeId} {size : Nat} (h : w.ownsRow N e size X (n + 1) xs) : ∃ g cap cur, X = .slice (some ⟨g, 0, none⟩) (n + 1) cap ∧ N ≤ g ∧ w.heap[g]? = some (.cells cur e (0, 0)) := by
  rcases h.2 with ⟨_, h0⟩ | ⟨g, cap, cur, hv, hg, hh, _⟩
  · omega
  · exact ⟨g, cap, cur, hv, hg, hh⟩

/-! ### What operations leave -/
/-- A block of rows in which a slot's value was put. -/
def rowsF (g : Nat) (cur : Array Value) (k : Nat) : World → Value → Option Nat → Prop := fun w v ob => ob = some g ∧ w.heap[g]? = some (.cells (cur.setIfInBounds k v) 58 (0, 0))
theorem rowsF_near {g : Nat} {cur : Array Value} {k : Nat} : ∀ (w w' : World) (v : Value) (ob : Option Nat), (∀ b, ob = some b → w'.heap[b]? = w.heap[b]?) → rowsF g cur k w v ob → rowsF g cur k w' v ob := by
  rintro w w' v ob hb ⟨rfl, h⟩
  exact ⟨rfl, (hb g rfl).trans h⟩
/-- Versions of rows that are not turned. -/
def vsI (N : Nat) (zs : List Value) (T : List Rw) : World → Value → (Nat → Prop) → Prop := fun w _ bs => RwI w N zs T ∧ ∀ j, j < T.length → ∀ b, (zs.getD j undef).ownBlock = some b → bs b
theorem vsI_near {N : Nat} {zs : List Value} {T : List Rw} : ∀ (w w' : World) (v : Value) (bs : Nat → Prop), (∀ b, bs b → w'.heap[b]? = w.heap[b]?) → vsI N zs T w v bs → vsI N zs T w' v bs := by
  rintro w w' v bs hb ⟨h, k⟩
  exact ⟨⟨h.1, fun j hj => row_heap (h.2 j hj) fun b e => hb b (k j hj b e)⟩, k⟩
theorem blk_strs {w : World} {b : Nat} {t : List UInt8} (hh : w.heap[b]? = some (.cells #[.string (mkB t)] 9 (0, 0))) : Strs w (.slice (some ⟨b, 0, none⟩) 1 1) [t] := by
  obtain ⟨c0, _⟩ := row1 hh
  exact ⟨some ⟨b, 0, none⟩, 1, rfl, Nat.le_refl _, by unfold maxLen; omega, (fun h => by cases h), fun _ => ⟨b, 0, rfl, (Array.getElem?_eq_some_iff.1 hh).1, fun j hj => by
    have hj2 : j = 0 := by simp at hj; omega
    subst hj2
    exact c0⟩⟩
theorem run_app_stT {w : World} {base n : Nat} {v : Value} {K : List (List UInt8)} (hown : w.ownsRow base 9 1 v n (strC K)) {ad : Addr} {m c : Nat} {L : List (List UInt8)} (hN : Strs w (.slice (some ad) m c) L) (hlen : n + m ≤ 2000000) (hbase : base ≤ w.heap.size) (t : TypeId) :
    ∃ v' w', (Builtin.append_ #[56, 56] t #[v, .slice (some ad) m c]).run Tryz.prog w = .ok v' w' ∧ w'.ownsRow base 9 1 v' (n + m) (strC (K ++ L)) ∧ w.grownBy w' v.ownBlock ∧ (v'.ownBlock = v.ownBlock ∨ v'.ownBlock = some w.heap.size ∧ w.heap.size < w'.heap.size) := by
  obtain ⟨i, hi, hz, hsize, hby⟩ := info_parts Tryz.info_str
  obtain ⟨v', w', hr, h2, h3, _, h5⟩ := run_append_own_at (P := Tryz.prog) w base 56 t 9 i (.string ByteArray.empty) 1 16 Tryz.underlying56 hi hz hsize hby rfl (by decide) v n _ hown ad m c (strC L) (by rw [strC_len, hN.lenE.1]) (hN.cells ad rfl) (fun u hu => List.all_eq_true.1 (strC_one L) u hu) (by unfold maxLen; omega) (by omega) hbase
  rw [← strC_app] at h2
  exact ⟨v', w', hr, h2, h3, h5.imp id fun e => ⟨e, (h2.lt _ e).2⟩⟩
theorem st_stsT {w : World} {g i n c : Nat} {A : Option Addr} {u : Value} (h : w.cell? ⟨g, i, none⟩ = some u) (hf : w.frozen? ⟨g, i, none⟩ = false) : Sem.run Tryz.prog (Instr.storeAt 56 (.pointer (some ⟨g, i, none⟩)) (.slice A n c)) w = .ok () (w.setCell ⟨g, i, none⟩ (.slice A n c)) := by
  go_simp
section
variable {ops : Array Oper} {Q : Exit → Act → World → Prop} {a : Act} {w w0 : World} {who : Nat → Nat} {i B r ro : Nat} {o : Oper}
/-- 'append(vs, v)', vs versions of the region's own. -/
theorem rol_pushS (ho : ops[i]? = some o) (hw : Region.wanted o (yielded ops a.tmps) = true) {s : Nat} (hd : o.dst = some s) (hs : s < a.tmps.size) {y : Operand} {q : Nat} (hop : o.op = .call { callee := .builtin .append, args := #[y, .tmp q], argTypes := #[56, 56] })
    {N t n : Nat} {vs : List (List UInt8)} {Y : Value} (h : (RLeaf.mem t (rowX Y N 9 1 n (strC vs))).holds r a w who) (hy : a.eval y = Y) {v : List UInt8} {r2 : Nat} (hq : (RLeaf.mem q (blkG 9 #[.string (mkB v)] 1)).holds r2 a w who) (hlen : n ≤ 1000000) (hb : Below B w0 w) (hB : B ≤ N) (hNw : N ≤ w.heap.size) {n' : Nat} (hn : n' = n + 1) {vs' : List (List UInt8)} (hv : vs' = vs ++ [v]) :
    wpOp Tryz.prog ops Q i (RPost ops i r r (.mem s (rowG N 9 1 n' (strC vs'))) B w0 a w who) a w := by
  subst hn hv
  obtain ⟨_, ob, -, hob, hrow, rfl⟩ := h
  obtain ⟨u, ob2, hu, -, b, rfl, rfl, hh⟩ := hq
  obtain ⟨v', w', hr, h2, h3, h5⟩ := run_app_stT hrow (blk_strs hh) (m := 1) (c := 1) (by omega) hNw o.type
  exact rol_grow ho hw hd hs (ex_append hop hy (eval_slot hu) hr) h3 hob h5 ⟨h2, rfl⟩ hb (Nat.le_trans hB hNw) (fun b e => Nat.le_trans hB (own_lt hrow e).1)
/-- Versions are put into a row's place. -/
theorem rol_setR (ho : ops[i]? = some o) (hw : Region.wanted o (yielded ops a.tmps) = true) (hd : o.dst = none) {x : Operand} {t g k : Nat} (hop : o.op = .store 56 x (.tmp t)) (hx : a.eval x = .pointer (some ⟨g, k, none⟩)) {N n : Nat} {xs : List Value} {r2 : Nat} (h : (RLeaf.mem t (rowG N 9 1 n xs)).holds r2 a w who)
    {cur : Array Value} (hg : (RLeaf.box g (.cells cur 58)).holds r a w who) (hk : k < cur.size) (hb : Below B w0 w) (hB : B ≤ g) : wpOp Tryz.prog ops Q i (RPost ops i r r (.mem t (rowsF g cur k)) B w0 a w who) a w := by
  obtain ⟨v, ob, hv, -, hrow, rfl⟩ := h
  obtain ⟨h1, h2⟩ := hg
  obtain ⟨av, cv, rfl⟩ := own_form hrow
  have hc : w.cell? ⟨g, k, none⟩ = some cur[k] := by unfold World.cell?; simp only [h1]; rw [Array.getElem?_eq_getElem hk]; rfl
  have hf : w.frozen? ⟨g, k, none⟩ = false := by unfold World.frozen?; simp only [h1]; simp
  refine rol_wp ho hw ?_
  unfold Oper.wp
  rw [ex_store hop hx (eval_slot hv) (st_stsT hc hf), Oper.upon_skip, hd]
  have hlt : g < w.heap.size := (Array.getElem?_eq_some_iff.1 h1).1
  refine ⟨⟨undef, by rw [dst_of ho, hd]⟩, hb.setCell hB _, who, ⟨fun j _ hj => ?_, fun _ _ => rfl, by simp [World.setCell]⟩, _, some g, hv, fun b e => ?_, rfl, heap_setCellT h1 _⟩
  · exact Below.heap_setCell _ ⟨g, k, none⟩ _ j (fun e => hj (by rw [e]; exact h2))
  · cases e
    exact ⟨by simp [World.setCell]; exact hlt, h2⟩
end
theorem bin_eqs {p q : List UInt8} {b : Bool} {w : World} (h : decide (p = q) = b) : Sem.run Tryz.prog (binOp .eql 9 (.string (mkB p)) (.string (mkB q))) w = .ok (.bool b) w := by
  have e := mk_beq p q
  rw [h] at e
  cases b <;> go_simp
theorem rowsE_no {s : List Nd} (h : s.all okN = false) : rowsE s = ([], 1) := by unfold rowsE; rw [h]; rfl
theorem rowsE_yes {s : List Nd} (h : s.all okN = true) : rowsE s = (rwOf (setN s), 0) := by unfold rowsE; rw [h]; rfl
theorem rwOf_len (s : List Nd) : (rwOf s).length ≤ s.length := by
  have key : ∀ (s : List Nd) (l : List Rw), (s.foldl pushR l).length ≤ l.length + s.length := by
    intro s
    induction s with
    | nil => intro l; simp
    | cons n s ih =>
      intro l
      have h1 := ih (pushR l n)
      have h2 : (pushR l n).length ≤ l.length + 1 := by
        rcases snoc_cases l with rfl | ⟨k, ⟨q, vs⟩, rfl⟩
        · simp [pushR]
        · by_cases e : q = n.1
          · subst e; rw [push_same k n.1 vs n.2]; simp
          · rw [push_new k (q, vs) n e]; simp
      rw [List.foldl_cons, List.length_cons]; omega
  have := key s []
  simpa [rwOf] using this
theorem vers_len {s : List Nd} {T0 : List Rw} {p : List UInt8} {vs : List (List UInt8)} (h : rwOf s = T0 ++ [(p, vs)]) : vs.length ≤ s.length := by
  have h1 := all_of s
  rw [h, rwAll_app, rwAll_one] at h1
  have h2 := congrArg List.length h1
  rw [List.length_append, List.length_map] at h2
  simp only at h2
  omega
theorem nd_at {w : World} {b off n c : Nat} {l : List Nd} {k : Nat} (h : Nds w (.slice (some ⟨b, off, none⟩) n c) l) (hk : k < l.length) : w.cell? ⟨b, off + k * 2, none⟩ = some (.string (mkB (l.getD k ([], [])).1)) ∧ w.cell? ⟨b, off + k * 2 + 1, none⟩ = some (.string (mkB (l.getD k ([], [])).2)) := by
  obtain ⟨b', o', e, -, c0, c1⟩ := h.at k hk
  cases e; exact ⟨c0, c1⟩

set_option maxHeartbeats 6400000 in
theorem trows_any (V : Value) (s : List Nd) (w : World) (hV : Nds w V s) (sl : ∀ n ∈ s, smallN n) (hl : s.length ≤ 10000) :
    Calls Tryz.prog 26 #[V] w fun e w' => ∃ x, e = .returned (.tuple #[x, .int .i64 (rowsE s).2]) ∧ RwO w' w.heap.size x (rowsE s).1 ∧ Below w.heap.size w w' := by
  obtain ⟨a, c, rfl, -, -, -, -⟩ := hV.ex
  have ks := fun V w h => nset_any V s w h sl (by omega)
  cases ho : s.all okN with
  | false =>
    rw [rowsE_no ho]
    rw [setNE_no (show allN s = false from ho)] at ks
    have SV := Lib.hid hV; have KS := Lib.hid ks
    clear hV sl hl ks ho
    go_enter Tryz.func26, Tryz.ntmps26
    go_wp2_with (go_at_call 51; refine (KS.out _ _ SV.out).mono ?_; rintro e w1 ⟨a1, c1, rfl, -, hb1⟩; have B := Lib.hid hb1; clear hb1)
    go_ret2
    exact ⟨_, rfl, RwO.nil _ _, B.out⟩
  | true =>
    rw [rowsE_yes ho]
    rw [setNE_yes (show allN s = true from ho)] at ks
    have hSl := setN_len s
    have hok : ∀ x ∈ s, okN x = true := fun x hx => List.all_eq_true.1 ho x hx
    obtain ⟨S, hS⟩ : ∃ S, setN s = S := ⟨_, rfl⟩
    rw [hS] at ks hSl ⊢
    obtain ⟨n, hn⟩ : ∃ n, S.length = n := ⟨_, rfl⟩
    simp only [hn] at ks hSl
    have SV := Lib.hid hV; have KS := Lib.hid ks; have HN := Lib.hid hn; have hnl : n ≤ 10000 := by omega
    obtain ⟨R, hR⟩ : ∃ R, rwOf S = R := ⟨_, rfl⟩
    rw [hR]
    have HR := Lib.hid hR
    clear hV sl hl ks ho hSl hok hS hn hR
    go_enter Tryz.func26, Tryz.ntmps26
    go_wp2_with (go_at_call 51; refine (KS.out _ _ SV.out).mono ?_; rintro e w1 ⟨a1, c1, rfl, hs1, hb1⟩; have B := Lib.hid hb1; have SS := Lib.hid hs1; have hnc := hs1.lenE.2; clear hb1 hs1 KS)
    obtain ⟨hnc1, hnc2⟩ := hnc
    unfold maxLen at hnc2
    obtain ⟨N0, hN0⟩ : ∃ N, w1.heap.size = N := ⟨_, rfl⟩
    have HN0 := Lib.hid hN0; clear hN0
    go_loopw [6, 20] (fun v6 i wr => ∃ (k : Nat) (X : Value), k ≤ n ∧ i = .int .i64 k ∧ X = v6 ∧ Hid (OfI wr N0 X (rwOf (S.take k))) ∧ Hid (Below N0 w1 wr)) (fun _ i _ => n - (intOf i).toNat)
    case atStart => exact ⟨0, _, Nat.zero_le _, rfl, rfl, Lib.hid (.inl ⟨rfl, rfl⟩), Lib.hid (Below.refl _ _)⟩
    case round =>
      obtain ⟨k, X, hk, rfl, rfl, HO, HB⟩ := hrel
      by_cases hlt : k < n
      · have hkl : k < S.length := by rw [HN.out]; exact hlt
        obtain ⟨bs, os, rfl, -, c0, c1'⟩ := SS.out.at k hkl
        have hbw : Below w1.heap.size w1 wr := by rw [HN0.out]; exact HB.out
        have htk := rwOf_take hkl
        have hTl : (rwOf (S.take k)).length ≤ k := Nat.le_trans (rwOf_len _) (by rw [List.length_take]; omega)
        have hc0 := cell_keep c0 hbw
        have hc1 := cell_keep c1' hbw
        obtain ⟨y, hy⟩ : ∃ y, y = S.getD k ([], []) := ⟨_, rfl⟩
        rw [← hy] at hc0 hc1 htk
        obtain ⟨p2, v⟩ := y
        simp only at hc0 hc1 htk
        obtain ⟨T, hT⟩ : ∃ T, rwOf (S.take k) = T := ⟨_, rfl⟩
        have hvl : ∀ T0 p vs, T = T0 ++ [(p, vs)] → vs.length ≤ k := fun T0 p vs e => Nat.le_trans (vers_len (s := S.take k) (by rw [hT]; exact e)) (by rw [List.length_take]; omega)
        rw [hT] at HO htk hTl
        have hkb : (k : Int) < (n : Int) := by omega
        have HTK := Lib.hid htk; have HTL0 := Lib.hid hTl; have HVL := Lib.hid hvl; have HNS0 := Lib.hid (show N0 ≤ wr.heap.size by rw [← HN0.out]; exact hbw.size)
        clear hy htk hTl hvl hT c0 c1' hbw
        go_upto_region 8 with fail
        obtain ⟨W5, gn, hW5, hgn, r5, hb5⟩ := boxT wr (.string (mkB p2)) (.string (mkB v)) 24
        rw [hW5, hgn]
        obtain ⟨d0, d1, -, -⟩ := row2 r5
        have RN := Lib.hid r5; have D0 := Lib.hid d0; have HB5 := Lib.hid (HB.out.trans (hb5.mono HNS0.out)); have HNS := Lib.hid (Nat.le_trans HNS0.out hb5.size)
        rcases HO.out with ⟨rfl, hx⟩ | ⟨T0, p, vs, zs, Y, rfl, h1, h2, h3, h4⟩
        · obtain ⟨a0, c0, hx2, ha0, hcc0⟩ : ∃ (a0 : Option Addr) (c0 : Nat), X = .slice a0 0 c0 ∧ none = a0 ∧ 0 = c0 := ⟨none, 0, hx, rfl, rfl⟩
          subst hx2
          have HA0 := Lib.hid ha0; have HC0 := Lib.hid hcc0
          clear ha0 hcc0 hx
          have HPU := Lib.hid (show pushR [] (p2, v) = [] ++ [(p2, [v])] from rfl)
          have HGE := Lib.hid (show decide ((0 : Int) ≤ -1) = false by decide)
          clear hW5 hgn r5 hb5 hc0 hc1 d0 d1 HO
          go_upto_region 9 with fail
          refine rol_run (by kernel_rfl) [[], [0], [0, 1], [0, 1, 2], [0, 1, 2], [0, 1, 2, 3, 4], [0, 1, 2, 3, 4, 5], [0, 1, 2, 3, 4, 5, 6], [0, 1, 2], [0, 1, 2, 8], [0, 1, 2, 3, 4, 5, 6, 7, 8, 9], [0, 1, 2, 3, 4, 5, 6, 7, 8, 9, 10]] (by kernel_rfl) [27, 28, 29, 30, 31, 32, 33, 34, 35, 36, 37, 38] [[], [0], [1], [2], [2], [2], [2], [2], [2], [2], [2], [2]] [0, 0, 0, 0, 0, 0, 0, 0, 0, 0, 0, 0] [0, 0, 0, 0, 0, 0, 0, 0, 0, 0, 0, 0] [1000, 1000, 1000, 1000, 1000, 1000, 1000, 1000, 1000, 1000, 1000, 1000] [.val 27 (.int .i64 (-1)), .val 28 (.bool false), .val 29 (.bool false), .val 30 undef, .val 31 undef, .val 32 undef, .val 33 undef, .val 34 undef, .val 35 undef, .val 36 undef, .val 37 undef, .val 38 (.bool false)] (by kernel_rfl) ?_ (W5.heap.size) (W5.heap.size) rfl (Below.refl _ _) rfl (fun _ => 0) ?_ ?_ ?_
          · intro j hj
            have hj3 : j < 12 := hj
            have hj2 : j = 0 ∨ j = 1 ∨ j = 2 ∨ j = 3 ∨ j = 4 ∨ j = 5 ∨ j = 6 ∨ j = 7 ∨ j = 8 ∨ j = 9 ∨ j = 10 ∨ j = 11 := by omega
            clear hj hj3
            rcases hj2 with rfl | rfl | rfl | rfl | rfl | rfl | rfl | rfl | rfl | rfl | rfl | rfl
            · exact trivial
            · exact trivial
            · exact trivial
            · exact trivial
            · exact trivial
            · exact trivial
            · exact trivial
            · exact trivial
            · exact trivial
            · exact trivial
            · exact trivial
            · exact trivial
          · intro j hj0 hj
            exact absurd hj (Nat.not_lt.2 hj0)
          · intro i hi a wx who hG hF
            have hz : a.tmps.size = 63 := hG.size
            have hi3 : i < 12 := hi
            have hi2 : i = 0 ∨ i = 1 ∨ i = 2 ∨ i = 3 ∨ i = 4 ∨ i = 5 ∨ i = 6 ∨ i = 7 ∨ i = 8 ∨ i = 9 ∨ i = 10 ∨ i = 11 := by omega
            clear hi hi3
            rcases hi2 with rfl | rfl | rfl | rfl | rfl | rfl | rfl | rfl | rfl | rfl | rfl | rfl
            · exact rol_val rfl rfl rfl (by rw [hz]; decide) (ex_move (Or.inl rfl) (eval_slot ((hG.slots 9 (by decide)).trans rfl))) hG.below
            · exact rol_val rfl rfl rfl (by rw [hz]; decide) (ex_bin rfl (eval_slot (hF 0 (by decide))) rfl (by go_simp) (bin_geq0 HGE.out)) hG.below
            · exact rol_val rfl rfl rfl (by rw [hz]; decide) (ex_move (Or.inl rfl) (eval_slot (hF 1 (by decide)))) hG.below
            · exact rol_val_skip rfl (want_no rfl rfl (hF 2 (by decide)) (by decide)) rfl (by rw [hz]; decide) hG.below
            · exact rol_val_skip rfl (want_no rfl rfl (hF 2 (by decide)) (by decide)) rfl (by rw [hz]; decide) hG.below
            · exact rol_val_skip rfl (want_no rfl rfl (hF 2 (by decide)) (by decide)) rfl (by rw [hz]; decide) hG.below
            · exact rol_val_skip rfl (want_no rfl rfl (hF 2 (by decide)) (by decide)) rfl (by rw [hz]; decide) hG.below
            · exact rol_val_skip rfl (want_no rfl rfl (hF 2 (by decide)) (by decide)) rfl (by rw [hz]; decide) hG.below
            · exact rol_val_skip rfl (want_no rfl rfl (hF 2 (by decide)) (by decide)) rfl (by rw [hz]; decide) hG.below
            · exact rol_val_skip rfl (want_no rfl rfl (hF 2 (by decide)) (by decide)) rfl (by rw [hz]; decide) hG.below
            · exact rol_val_skip rfl (want_no rfl rfl (hF 2 (by decide)) (by decide)) rfl (by rw [hz]; decide) hG.below
            · exact rol_val rfl rfl rfl (by rw [hz]; decide) (ex_pick_no rfl (eval_slot (hF 2 (by decide))) rfl) hG.below
          · intro a wx who hG hF
            have fv38 : a.tmps.getD 38 undef = .bool false := eval_slot (s := 38) (hF 11 (of_decide_eq_true (by kernel_rfl)) (of_decide_eq_true (by kernel_rfl)))
            have hbx := hG.below
            have hnx := hG.new
            rw [hG.frame]
            simp only [List.foldl_cons, List.foldl_nil, List.setIfInBounds_toArray, List.set_cons_zero, List.set_cons_succ]
            generalize a.tmps.getD 27 undef = u27
            generalize a.tmps.getD 28 undef = u28
            generalize a.tmps.getD 29 undef = u29
            generalize a.tmps.getD 30 undef = u30
            generalize a.tmps.getD 31 undef = u31
            generalize a.tmps.getD 32 undef = u32
            generalize a.tmps.getD 33 undef = u33
            generalize a.tmps.getD 34 undef = u34
            generalize a.tmps.getD 35 undef = u35
            generalize a.tmps.getD 36 undef = u36
            generalize a.tmps.getD 37 undef = u37
            rw [fv38]
            clear hF hG fv38
            obtain ⟨e0, e1, -, -⟩ := row2 (row_keepB RN.out hbx)
            have HB6 := Lib.hid (HB5.out.trans (hbx.mono HNS.out)); have HNX5 := Lib.hid (Nat.le_trans HNS.out hbx.size)
            have HOW := Lib.hid (show RwO wx N0 (.slice a0 0 c0) [] by rw [← HA0.out, ← HC0.out]; exact RwO.nil wx N0)
            have HTL := Lib.hid (show ([] : List Rw).length = 0 from rfl)
            clear hbx hnx
            obtain ⟨ys, hr1, hI1⟩ := HOW.out
            have hlt1 : 0 ≤ 1000000 := by omega
            have HR1 := Lib.hid (ownsRow_belowB hr1 ((Below.refl _ _).alloc (Nat.le_refl _) (.cells #[.string (mkB v)] 9))); have HI1 := Lib.hid hI1
            have HY1 := Lib.hid (World.ownsRow_lit (base := N0) (size := 1) (e := 9) wx #[.string (mkB v)] 1 HNX5.out (by decide) rfl)
            clear hr1 hI1
            go_wp2_with (at_builtin; refine wpList_push_rw rfl _ _ rfl N0 (.slice a0 0 c0) [] ys 0 HTL.out HI1.out.1 rfl (by first | exact HR1.out | (have h := HR1.out; rw [HTL.out] at h; exact h)) (p2, [v]) (.slice (some ⟨wx.heap.size, 0, none⟩) 1 1) rfl _ (by simp) rfl hlt1 (by simp; exact Nat.le_succ_of_le HNX5.out) ?_; intro a3 c3 w3 h3 hg3 ht3; have HX3 := Lib.hid (show OfI w3 N0 (.slice a3 (0 + 1) c3) ([] ++ [(p2, [v])]) from OfI.push (w := wx) HI1.out (fun b cs hc => by have h5 := row_keepB hc ((Below.refl _ wx).alloc (Nat.le_refl _) (.cells #[.string (mkB v)] 9)); exact (ht3 b cs h5).trans (h5.trans hc.symm)) (by first | exact h3 | (rw [HTL.out]; exact h3)) (row_heap HY1.out fun b e => by obtain ⟨cs, hc⟩ := own_block HY1.out e; exact ht3 b cs hc) (fun b e => by cases e; exact Nat.le_refl _)); have B3 := Lib.hid ((HB6.out.alloc HNX5.out _).grown hg3 (by simp; exact Nat.le_succ_of_le HNX5.out) (fun b e => (own_lt HR1.out e).1)); clear h3 hg3 ht3)
            go_roundw
            case rel => exact ⟨k + 1, _, by omega, by go_num, rfl, Lib.hid (by rw [HTK.out, HPU.out]; exact HX3.out), B3⟩
            case measure => simp [intOf]; omega
        · have HX := Lib.hid (ownsRow_belowB h1 hb5); have HZ := Lib.hid (h2.below hb5); have HY := Lib.hid (ownsRow_belowB h3 hb5); have HD := Lib.hid h4
          have HTL1 := Lib.hid (show T0.length + 1 ≤ k by have := HTL0.out; rw [List.length_append] at this; exact this)
          have HVL1 := Lib.hid (HVL.out T0 p vs rfl)
          have HOW5 := Lib.hid (HO.out.own.below hb5)
          clear hW5 hgn r5 hb5 hc0 hc1 d0 d1 h1 h2 h3 h4 HO HVL
          obtain ⟨ay, cy, rfl⟩ := own_form HY.out
          obtain ⟨gx, cx, cur, rfl, hgx, hrx⟩ := row_head HX.out
          obtain ⟨m, hm⟩ : ∃ m, T0.length = m := ⟨_, rfl⟩
          obtain ⟨q, hq⟩ : ∃ q, vs.length = q := ⟨_, rfl⟩
          have hcl := rwC_last (p := p) (Y := .slice ay vs.length cy) HZ.out.1 hm
          have hcell := fun w' hw j hj => cell_ofrow HX.out hrx w' hw j hj
          have hcsz := cur_size HX.out hrx
          rw [hm] at hcell hcsz HX
          rw [hq] at HX HY HD hcl hcell
          have HPC := Lib.hid (show ∀ w', w'.heap[gx]? = some (.cells cur 58 (0, 0)) → w'.cell? ⟨gx, m * 2, none⟩ = some (.string (mkB p)) from fun w' hw => (hcell w' hw (m * 2) (by omega)).trans hcl.1)
          have HYC := Lib.hid (show ∀ w', w'.heap[gx]? = some (.cells cur 58 (0, 0)) → w'.cell? ⟨gx, m * 2 + 1, none⟩ = some (.slice ay q cy) from fun w' hw => (hcell w' hw (m * 2 + 1) (by omega)).trans hcl.2)
          have HCS := Lib.hid (show m * 2 + 1 < cur.size by omega)
          have HGX := Lib.hid hgx; have RX := Lib.hid hrx; have HTM := Lib.hid hm; have HVQ := Lib.hid hq
          clear hcl hcell hcsz hgx hrx hm hq
          have HGE := Lib.hid (show decide ((0 : Int) ≤ (m : Int)) = true by simp)
          have HQB := Lib.hid (show q ≤ 1000000 by have := HVL1.out; have := HVQ.out; omega)
          have hmb : m ≤ 10000 := by have := HTL1.out; have := HTM.out; omega
          rw [HTM.out]
          rw [HTM.out] at HOW5
          go_upto_region 9 with fail
          by_cases hpq : p = p2
          · have HPQ := Lib.hid (show decide (p = p2) = true from decide_eq_true hpq)
            refine rol_run (by kernel_rfl) [[], [0], [0, 1], [0, 1, 2], [0, 1, 2], [0, 1, 2, 3, 4], [0, 1, 2, 3, 4, 5], [0, 1, 2, 3, 4, 5, 6], [0, 1, 2], [0, 1, 2, 8], [0, 1, 2, 3, 4, 5, 6, 7, 8, 9], [0, 1, 2, 3, 4, 5, 6, 7, 8, 9, 10]] (by kernel_rfl) [27, 28, 29, 30, 31, 32, 33, 34, 35, 36, 37, 38] [[], [0], [1], [2], [2], [2, 3, 4], [2, 5], [2, 6], [2], [2, 8], [2, 7, 9], [2, 10]] [0, 0, 0, 0, 0, 0, 0, 0, 0, 0, 0, 0] [0, 0, 0, 0, 0, 0, 0, 0, 0, 0, 0, 0] [1000, 1000, 1000, 1000, 1000, 1000, 1000, 1000, 1000, 1000, 1000, 1000] [.val 27 (.int .i64 (m : Int)), .val 28 (.bool true), .val 29 (.bool true), .val 30 (.slice (some ⟨gx, 0, none⟩) (m + 1) cx), .val 31 (.int .i64 (m : Int)), .val 32 (.pointer (some ⟨gx, m * 2, none⟩)), .val 33 (.pointer (some ⟨gx, m * 2, none⟩)), .val 34 (.string (mkB p)), .val 35 (.pointer (some ⟨gn, 0, none⟩)), .val 36 (.string (mkB p2)), .val 37 (.bool true), .val 38 (.bool true)] (by kernel_rfl) ?_ (W5.heap.size) (W5.heap.size) rfl (Below.refl _ _) rfl (fun _ => 0) ?_ ?_ ?_
            · intro j hj
              have hj3 : j < 12 := hj
              have hj2 : j = 0 ∨ j = 1 ∨ j = 2 ∨ j = 3 ∨ j = 4 ∨ j = 5 ∨ j = 6 ∨ j = 7 ∨ j = 8 ∨ j = 9 ∨ j = 10 ∨ j = 11 := by omega
              clear hj hj3
              rcases hj2 with rfl | rfl | rfl | rfl | rfl | rfl | rfl | rfl | rfl | rfl | rfl | rfl
              · exact trivial
              · exact trivial
              · exact trivial
              · exact trivial
              · exact trivial
              · exact trivial
              · exact trivial
              · exact trivial
              · exact trivial
              · exact trivial
              · exact trivial
              · exact trivial
            · intro j hj0 hj
              exact absurd hj (Nat.not_lt.2 hj0)
            · intro i hi a wx who hG hF
              have hz : a.tmps.size = 63 := hG.size
              have hi3 : i < 12 := hi
              have hi2 : i = 0 ∨ i = 1 ∨ i = 2 ∨ i = 3 ∨ i = 4 ∨ i = 5 ∨ i = 6 ∨ i = 7 ∨ i = 8 ∨ i = 9 ∨ i = 10 ∨ i = 11 := by omega
              clear hi hi3
              rcases hi2 with rfl | rfl | rfl | rfl | rfl | rfl | rfl | rfl | rfl | rfl | rfl | rfl
              · exact rol_val rfl rfl rfl (by rw [hz]; decide) (ex_move (Or.inl rfl) (eval_slot ((hG.slots 9 (by decide)).trans rfl))) hG.below
              · exact rol_val rfl rfl rfl (by rw [hz]; decide) (ex_bin rfl (eval_slot (hF 0 (by decide))) rfl (by go_simp) (bin_geq0 HGE.out)) hG.below
              · exact rol_val rfl rfl rfl (by rw [hz]; decide) (ex_move (Or.inl rfl) (eval_slot (hF 1 (by decide)))) hG.below
              · exact rol_val rfl (want_yes rfl rfl (hF 2 (by decide))) rfl (by rw [hz]; decide) (ex_move (Or.inl rfl) (eval_slot ((hG.slots 6 (by decide)).trans rfl))) hG.below
              · exact rol_val rfl (want_yes rfl rfl (hF 2 (by decide))) rfl (by rw [hz]; decide) (ex_move (Or.inl rfl) (eval_slot ((hG.slots 9 (by decide)).trans rfl))) hG.below
              · exact rol_val rfl (want_yes rfl rfl (hF 2 (by decide))) rfl (by rw [hz]; decide) (ex_index rfl (eval_slot (hF 3 (by decide))) (eval_slot (hF 4 (by decide))) (by have h := idx_rws (b := gx) (off := 0) (n := m + 1) (c := cx) (k := m) (w := wx) (Nat.lt_succ_self m); rw [Nat.zero_add] at h; exact h)) hG.below
              · exact rol_val rfl (want_yes rfl rfl (hF 2 (by decide))) rfl (by rw [hz]; decide) (ex_field rfl (eval_slot (hF 5 (by decide))) (by go_simp)) hG.below
              · exact rol_val rfl (want_yes rfl rfl (hF 2 (by decide))) rfl (by rw [hz]; decide) (ex_load rfl (eval_slot (hF 6 (by decide))) (ld_strT (HPC.out wx ((hG.below.block gx (Array.getElem?_eq_some_iff.1 RX.out).1).trans RX.out)))) hG.below
              · exact rol_val rfl (want_yes rfl rfl (hF 2 (by decide))) rfl (by rw [hz]; decide) (ex_field rfl (eval_slot ((hG.slots 8 (by decide)).trans rfl)) (by go_simp)) hG.below
              · exact rol_val rfl (want_yes rfl rfl (hF 2 (by decide))) rfl (by rw [hz]; decide) (ex_load rfl (eval_slot (hF 8 (by decide))) (ld_strT (cell_keep D0.out hG.below))) hG.below
              · exact rol_val rfl (want_yes rfl rfl (hF 2 (by decide))) rfl (by rw [hz]; decide) (ex_bin rfl (eval_slot (hF 7 (by decide))) (eval_slot (hF 9 (by decide))) (by go_simp) (bin_eqs HPQ.out)) hG.below
              · exact rol_val rfl rfl rfl (by rw [hz]; decide) (ex_pick_yes rfl (eval_slot (hF 2 (by decide))) (eval_slot (hF 10 (by decide)))) hG.below
            · intro a wx who hG hF
              have fv38 : a.tmps.getD 38 undef = .bool true := eval_slot (s := 38) (hF 11 (of_decide_eq_true (by kernel_rfl)) (of_decide_eq_true (by kernel_rfl)))
              have hbx := hG.below
              have hnx := hG.new
              rw [hG.frame]
              simp only [List.foldl_cons, List.foldl_nil, List.setIfInBounds_toArray, List.set_cons_zero, List.set_cons_succ]
              generalize a.tmps.getD 27 undef = u27
              generalize a.tmps.getD 28 undef = u28
              generalize a.tmps.getD 29 undef = u29
              generalize a.tmps.getD 30 undef = u30
              generalize a.tmps.getD 31 undef = u31
              generalize a.tmps.getD 32 undef = u32
              generalize a.tmps.getD 33 undef = u33
              generalize a.tmps.getD 34 undef = u34
              generalize a.tmps.getD 35 undef = u35
              generalize a.tmps.getD 36 undef = u36
              generalize a.tmps.getD 37 undef = u37
              rw [fv38]
              clear hF hG fv38
              obtain ⟨vs2, hvs2⟩ : ∃ l, l = vs ++ [v] := ⟨_, rfl⟩
              have HVS2 := Lib.hid hvs2
              have HPU := Lib.hid (show pushR (T0 ++ [(p, vs)]) (p2, v) = T0 ++ [(p, vs2)] by rw [hvs2, ← hpq]; exact push_same T0 p vs v)
              obtain ⟨W6, hW6⟩ : ∃ v, v = wx := ⟨_, rfl⟩
              subst hW6
              replace HX := Lib.hid (ownsRow_belowB HX.out hbx); replace HZ := Lib.hid (HZ.out.below hbx); replace HY := Lib.hid (ownsRow_belowB HY.out hbx); replace RX := Lib.hid (row_keepB RX.out hbx); replace RN := Lib.hid (row_keepB RN.out hbx)
              have HB6 := Lib.hid (HB5.out.trans (hbx.mono HNS.out)); replace HNS := Lib.hid (Nat.le_trans HNS.out hbx.size)
              clear hbx hnx hvs2 hpq HPQ HOW5 D0 HB5
              obtain ⟨whoF, hwho⟩ : ∃ f : Nat → Nat, f = (fun b => if b = gx then 2 else if b = gn then 5 else if Value.ownBlock (.slice ay q cy) = some b then 1 else 3) := ⟨_, rfl⟩
              have HWX := Lib.hid (show whoF gx = 2 by rw [hwho]; exact if_pos rfl)
              have hngn : ¬ gn = gx := fun e => by have h1 := RN.out; rw [e, RX.out] at h1; injection h1 with h1; injection h1 with _ h1; cases h1
              have HWgn := Lib.hid (show whoF gn = 5 by rw [hwho]; exact (if_neg hngn).trans (if_pos rfl))
              have HWY := Lib.hid (show ∀ b, Value.ownBlock (.slice ay q cy) = some b → whoF b = 1 from fun b e => by rw [hwho]; exact (if_neg (fun q2 => own_nebox HY.out RX.out (by decide) (by rw [← q2]; exact e))).trans ((if_neg (fun q2 => own_nebox HY.out RN.out (by decide) (by rw [← q2]; exact e))).trans (if_pos e)))
              have HWZ := Lib.hid (show ∀ j, j < T0.length → ∀ b, (zs.getD j undef).ownBlock = some b → whoF b = 3 from fun j hj b e => by rw [hwho]; exact (if_neg (fun q2 => own_nebox (HZ.out.2 j hj) RX.out (by decide) (by rw [← q2]; exact e))).trans ((if_neg (fun q2 => own_nebox (HZ.out.2 j hj) RN.out (by decide) (by rw [← q2]; exact e))).trans (if_neg (HD.out j hj b e))))
              clear hwho hngn
              go_upto_region 10 with fail
              refine rol_run (by kernel_rfl) [[], [], [], [], [2, 3], [2, 3, 4], [2, 3, 4, 5], [], [7], [7, 8], [2, 3, 4, 5, 6, 7, 8, 9], [0, 1, 2, 3, 4, 5, 6, 7, 8, 9, 10], [0, 1, 2, 3, 4, 5, 6, 7, 8, 9, 10, 11], [0, 1, 2, 3, 4, 5, 6, 7, 8, 9, 10, 11, 12]] (by kernel_rfl) [39, 40, 41, 42, 43, 44, 45, 46, 47, 48, 49, 50, 51] [[], [], [], [], [2, 3], [4], [5, 14], [], [7, 15], [8], [6, 9, 16], [0, 1], [11], [10, 14, 12]] [0, 0, 0, 0, 0, 0, 0, 0, 0, 4, 1, 0, 0, 2, 2, 5, 1, 3] [0, 0, 0, 0, 0, 0, 0, 0, 0, 0, 1, 0, 0, 2] [1000, 1000, 1000, 1000, 1000, 1000, 1000, 1000, 1000, 1000, 1000, 1000, 1000, 1000, 13, 1000, 10, 1000] [.val 39 (.slice (some ⟨gx, 0, none⟩) (m + 1) cx), .val 40 (.int .i64 (m : Int)), .val 41 (.slice (some ⟨gx, 0, none⟩) (m + 1) cx), .val 42 (.int .i64 (m : Int)), .val 43 (.pointer (some ⟨gx, m * 2, none⟩)), .val 44 (.pointer (some ⟨gx, m * 2 + 1, none⟩)), .val 45 (.slice ay q cy), .val 46 (.pointer (some ⟨gn, 1, none⟩)), .val 47 (.string (mkB v)), .mem 48 (blkG 9 #[.string (mkB v)] 1), .mem 49 (rowG N0 9 1 (q + 1) (strC vs2)), .val 50 (.pointer (some ⟨gx, m * 2, none⟩)), .val 51 (.pointer (some ⟨gx, m * 2 + 1, none⟩)), .mem 49 (rowsF gx cur (m * 2 + 1)), .box (gx) (.cells cur 58), .box (gn) (.cells #[.string (mkB p2), .string (mkB v)] 24), .mem 6 (rowX (.slice ay q cy) N0 9 1 q (strC vs)), .mems 6 (vsI N0 zs T0)] (by kernel_rfl) ?_ (N0) (W6.heap.size) rfl HB6.out rfl (whoF) ?_ ?_ ?_
              · intro j hj
                have hj3 : j < 18 := hj
                have hj2 : j = 0 ∨ j = 1 ∨ j = 2 ∨ j = 3 ∨ j = 4 ∨ j = 5 ∨ j = 6 ∨ j = 7 ∨ j = 8 ∨ j = 9 ∨ j = 10 ∨ j = 11 ∨ j = 12 ∨ j = 13 ∨ j = 14 ∨ j = 15 ∨ j = 16 ∨ j = 17 := by omega
                clear hj hj3
                rcases hj2 with rfl | rfl | rfl | rfl | rfl | rfl | rfl | rfl | rfl | rfl | rfl | rfl | rfl | rfl | rfl | rfl | rfl | rfl
                · exact trivial
                · exact trivial
                · exact trivial
                · exact trivial
                · exact trivial
                · exact trivial
                · exact trivial
                · exact trivial
                · exact trivial
                · exact blkG_near
                · exact rowG_near
                · exact trivial
                · exact trivial
                · exact rowsF_near
                · exact trivial
                · exact trivial
                · exact rowX_near
                · exact vsI_near
              · intro j hj0 hj
                have hj1 : 14 ≤ j := hj0
                have hj3 : j < 18 := hj
                have hj2 : j = 14 ∨ j = 15 ∨ j = 16 ∨ j = 17 := by omega
                clear hj0 hj hj1 hj3
                rcases hj2 with rfl | rfl | rfl | rfl
                · exact ⟨RX.out, HWX.out⟩
                · exact ⟨RN.out, HWgn.out⟩
                · exact ⟨_, _, rfl, fun b e => ⟨(own_lt HY.out e).2, HWY.out b e⟩, HY.out, rfl⟩
                · exact ⟨_, fun b => ∃ j, j < T0.length ∧ (zs.getD j undef).ownBlock = some b, rfl, fun b e => by obtain ⟨j, hj, e⟩ := e; exact ⟨((HZ.out.2 j hj).lt b e).2, HWZ.out j hj b e⟩, HZ.out, fun j hj b e => ⟨j, hj, e⟩⟩
              · intro i hi a wx who hG hF
                have hz : a.tmps.size = 63 := hG.size
                have hi3 : i < 14 := hi
                have hi2 : i = 0 ∨ i = 1 ∨ i = 2 ∨ i = 3 ∨ i = 4 ∨ i = 5 ∨ i = 6 ∨ i = 7 ∨ i = 8 ∨ i = 9 ∨ i = 10 ∨ i = 11 ∨ i = 12 ∨ i = 13 := by omega
                clear hi hi3
                rcases hi2 with rfl | rfl | rfl | rfl | rfl | rfl | rfl | rfl | rfl | rfl | rfl | rfl | rfl | rfl
                · exact rol_val rfl rfl rfl (by rw [hz]; decide) (ex_move (Or.inl rfl) (eval_slot ((hG.slots 6 (by decide)).trans rfl))) hG.below
                · exact rol_val rfl rfl rfl (by rw [hz]; decide) (ex_move (Or.inl rfl) (eval_slot ((hG.slots 9 (by decide)).trans rfl))) hG.below
                · exact rol_val rfl rfl rfl (by rw [hz]; decide) (ex_move (Or.inl rfl) (eval_slot ((hG.slots 6 (by decide)).trans rfl))) hG.below
                · exact rol_val rfl rfl rfl (by rw [hz]; decide) (ex_move (Or.inl rfl) (eval_slot ((hG.slots 9 (by decide)).trans rfl))) hG.below
                · exact rol_val rfl rfl rfl (by rw [hz]; decide) (ex_index rfl (eval_slot (hF 2 (by decide))) (eval_slot (hF 3 (by decide))) (by have h := idx_rws (b := gx) (off := 0) (n := m + 1) (c := cx) (k := m) (w := wx) (Nat.lt_succ_self m); rw [Nat.zero_add] at h; exact h)) hG.below
                · exact rol_val rfl rfl rfl (by rw [hz]; decide) (ex_field rfl (eval_slot (hF 4 (by decide))) (by go_simp)) hG.below
                · exact rol_val rfl rfl rfl (by rw [hz]; decide) (ex_load rfl (eval_slot (hF 5 (by decide))) (ld_stsT (HYC.out wx (hF 14 (by decide)).1))) hG.below
                · exact rol_val rfl rfl rfl (by rw [hz]; decide) (ex_field rfl (eval_slot ((hG.slots 8 (by decide)).trans rfl)) (by go_simp)) hG.below
                · exact rol_val rfl rfl rfl (by rw [hz]; decide) (ex_load rfl (eval_slot (hF 7 (by decide))) (ld_strT (row2 (hF 15 (by decide)).1).2.1)) hG.below
                · exact rol_newO rfl rfl rfl (by rw [hz]; decide) (x := .cells #[.string (mkB v)] 9) (v := .slice (some ⟨wx.heap.size, 0, none⟩) 1 1) (ex_slice rfl (vs := #[(0, .string (mkB v))]) (by simp only [List.map_toArray, List.map_cons, List.map_nil, eval_slot (hF 8 (by decide))]) (by go_simp)) ⟨_, rfl, rfl, heap_alloc_new _ _⟩ hG.below (Nat.le_trans HNS.out hG.new)
                · exact rol_pushS rfl rfl rfl (by rw [hz]; decide) rfl (hF 16 (by decide)) (eval_slot (hF 6 (by decide))) (hF 9 (by decide)) HQB.out hG.below (Nat.le_refl _) (Nat.le_trans HNS.out hG.new) rfl HVS2.out
                · exact rol_val rfl rfl rfl (by rw [hz]; decide) (ex_index rfl (eval_slot (hF 0 (by decide))) (eval_slot (hF 1 (by decide))) (by have h := idx_rws (b := gx) (off := 0) (n := m + 1) (c := cx) (k := m) (w := wx) (Nat.lt_succ_self m); rw [Nat.zero_add] at h; exact h)) hG.below
                · exact rol_val rfl rfl rfl (by rw [hz]; decide) (ex_field rfl (eval_slot (hF 11 (by decide))) (by go_simp)) hG.below
                · exact rol_setR rfl rfl rfl rfl (eval_slot (hF 12 (by decide))) (hF 10 (by decide)) (hF 14 (by decide)) HCS.out hG.below HGX.out
              · intro a wx who hG hF
                have hap := hF 10 (of_decide_eq_true (by kernel_rfl)) (of_decide_eq_true (by kernel_rfl))
                have hst := hF 13 (of_decide_eq_true (by kernel_rfl)) (of_decide_eq_true (by kernel_rfl))
                have hzz := hF 17 (of_decide_eq_true (by kernel_rfl)) (of_decide_eq_true (by kernel_rfl))
                have hbx := hG.below
                have hnx := hG.new
                rw [hG.frame]
                simp only [List.foldl_cons, List.foldl_nil, List.setIfInBounds_toArray, List.set_cons_zero, List.set_cons_succ]
                generalize a.tmps.getD 39 undef = u39
                generalize a.tmps.getD 40 undef = u40
                generalize a.tmps.getD 41 undef = u41
                generalize a.tmps.getD 42 undef = u42
                generalize a.tmps.getD 43 undef = u43
                generalize a.tmps.getD 44 undef = u44
                generalize a.tmps.getD 45 undef = u45
                generalize a.tmps.getD 46 undef = u46
                generalize a.tmps.getD 47 undef = u47
                generalize a.tmps.getD 48 undef = u48
                generalize a.tmps.getD 49 undef = u49
                generalize a.tmps.getD 50 undef = u50
                generalize a.tmps.getD 51 undef = u51
                clear hF hG
                obtain ⟨va, oba, hva, hoba, hra, rfl⟩ := hap
                obtain ⟨vb, obb, hvb, -, -, hrb⟩ := hst
                have evb : va = vb := Option.some.inj (hva.symm.trans hvb)
                subst evb
                obtain ⟨_, bsz, -, hbz, hIz, hkz⟩ := hzz
                have HNX := Lib.hid (show OfI wx N0 (.slice (some ⟨gx, 0, none⟩) (m + 1) cx) (T0 ++ [(p, vs2)]) from .inr ⟨T0, p, vs2, zs, va, rfl, by rw [HTM.out]; have h5 := own_setlast (w := W6) (w' := wx) (T0 := T0) (zs := zs) (p := p) (Y := .slice ay q cy) (Y' := va) (cur := cur) (N := N0) (cap := cx) HZ.out.1 (by rw [HTM.out]; exact HX.out) RX.out (by rw [HTM.out]; exact hrb); rw [HTM.out] at h5; exact h5, hIz, by rw [show vs2.length = q + 1 by rw [HVS2.out, List.length_append, HVQ.out]; rfl]; exact hra, fun j hj b e q2 => by have h1 := (hbz b (hkz j hj b e)).2; have h2 := (hoba b q2).2; rw [h1] at h2; cases h2⟩)
                clear hva hvb hoba hra hrb hbz hIz hkz
                have HBN := Lib.hid hbx
                clear hbx hnx
                go_wp2
                go_roundw
                case rel => exact ⟨k + 1, _, by omega, by go_num, rfl, Lib.hid (by rw [HTK.out, HPU.out]; exact HNX.out), HBN⟩
                case measure => simp [intOf]; omega
          · have HPQ := Lib.hid (show decide (p = p2) = false from decide_eq_false hpq)
            have HPU := Lib.hid (show pushR (T0 ++ [(p, vs)]) (p2, v) = (T0 ++ [(p, vs)]) ++ [(p2, [v])] from push_new T0 (p, vs) (p2, v) hpq)
            have HTL := Lib.hid (show (T0 ++ [(p, vs)]).length = m + 1 by rw [List.length_append, HTM.out]; rfl)
            refine rol_run (by kernel_rfl) [[], [0], [0, 1], [0, 1, 2], [0, 1, 2], [0, 1, 2, 3, 4], [0, 1, 2, 3, 4, 5], [0, 1, 2, 3, 4, 5, 6], [0, 1, 2], [0, 1, 2, 8], [0, 1, 2, 3, 4, 5, 6, 7, 8, 9], [0, 1, 2, 3, 4, 5, 6, 7, 8, 9, 10]] (by kernel_rfl) [27, 28, 29, 30, 31, 32, 33, 34, 35, 36, 37, 38] [[], [0], [1], [2], [2], [2, 3, 4], [2, 5], [2, 6], [2], [2, 8], [2, 7, 9], [2, 10]] [0, 0, 0, 0, 0, 0, 0, 0, 0, 0, 0, 0] [0, 0, 0, 0, 0, 0, 0, 0, 0, 0, 0, 0] [1000, 1000, 1000, 1000, 1000, 1000, 1000, 1000, 1000, 1000, 1000, 1000] [.val 27 (.int .i64 (m : Int)), .val 28 (.bool true), .val 29 (.bool true), .val 30 (.slice (some ⟨gx, 0, none⟩) (m + 1) cx), .val 31 (.int .i64 (m : Int)), .val 32 (.pointer (some ⟨gx, m * 2, none⟩)), .val 33 (.pointer (some ⟨gx, m * 2, none⟩)), .val 34 (.string (mkB p)), .val 35 (.pointer (some ⟨gn, 0, none⟩)), .val 36 (.string (mkB p2)), .val 37 (.bool false), .val 38 (.bool false)] (by kernel_rfl) ?_ (W5.heap.size) (W5.heap.size) rfl (Below.refl _ _) rfl (fun _ => 0) ?_ ?_ ?_
            · intro j hj
              have hj3 : j < 12 := hj
              have hj2 : j = 0 ∨ j = 1 ∨ j = 2 ∨ j = 3 ∨ j = 4 ∨ j = 5 ∨ j = 6 ∨ j = 7 ∨ j = 8 ∨ j = 9 ∨ j = 10 ∨ j = 11 := by omega
              clear hj hj3
              rcases hj2 with rfl | rfl | rfl | rfl | rfl | rfl | rfl | rfl | rfl | rfl | rfl | rfl
              · exact trivial
              · exact trivial
              · exact trivial
              · exact trivial
              · exact trivial
              · exact trivial
              · exact trivial
              · exact trivial
              · exact trivial
              · exact trivial
              · exact trivial
              · exact trivial
            · intro j hj0 hj
              exact absurd hj (Nat.not_lt.2 hj0)
            · intro i hi a wx who hG hF
              have hz : a.tmps.size = 63 := hG.size
              have hi3 : i < 12 := hi
              have hi2 : i = 0 ∨ i = 1 ∨ i = 2 ∨ i = 3 ∨ i = 4 ∨ i = 5 ∨ i = 6 ∨ i = 7 ∨ i = 8 ∨ i = 9 ∨ i = 10 ∨ i = 11 := by omega
              clear hi hi3
              rcases hi2 with rfl | rfl | rfl | rfl | rfl | rfl | rfl | rfl | rfl | rfl | rfl | rfl
              · exact rol_val rfl rfl rfl (by rw [hz]; decide) (ex_move (Or.inl rfl) (eval_slot ((hG.slots 9 (by decide)).trans rfl))) hG.below
              · exact rol_val rfl rfl rfl (by rw [hz]; decide) (ex_bin rfl (eval_slot (hF 0 (by decide))) rfl (by go_simp) (bin_geq0 HGE.out)) hG.below
              · exact rol_val rfl rfl rfl (by rw [hz]; decide) (ex_move (Or.inl rfl) (eval_slot (hF 1 (by decide)))) hG.below
              · exact rol_val rfl (want_yes rfl rfl (hF 2 (by decide))) rfl (by rw [hz]; decide) (ex_move (Or.inl rfl) (eval_slot ((hG.slots 6 (by decide)).trans rfl))) hG.below
              · exact rol_val rfl (want_yes rfl rfl (hF 2 (by decide))) rfl (by rw [hz]; decide) (ex_move (Or.inl rfl) (eval_slot ((hG.slots 9 (by decide)).trans rfl))) hG.below
              · exact rol_val rfl (want_yes rfl rfl (hF 2 (by decide))) rfl (by rw [hz]; decide) (ex_index rfl (eval_slot (hF 3 (by decide))) (eval_slot (hF 4 (by decide))) (by have h := idx_rws (b := gx) (off := 0) (n := m + 1) (c := cx) (k := m) (w := wx) (Nat.lt_succ_self m); rw [Nat.zero_add] at h; exact h)) hG.below
              · exact rol_val rfl (want_yes rfl rfl (hF 2 (by decide))) rfl (by rw [hz]; decide) (ex_field rfl (eval_slot (hF 5 (by decide))) (by go_simp)) hG.below
              · exact rol_val rfl (want_yes rfl rfl (hF 2 (by decide))) rfl (by rw [hz]; decide) (ex_load rfl (eval_slot (hF 6 (by decide))) (ld_strT (HPC.out wx ((hG.below.block gx (Array.getElem?_eq_some_iff.1 RX.out).1).trans RX.out)))) hG.below
              · exact rol_val rfl (want_yes rfl rfl (hF 2 (by decide))) rfl (by rw [hz]; decide) (ex_field rfl (eval_slot ((hG.slots 8 (by decide)).trans rfl)) (by go_simp)) hG.below
              · exact rol_val rfl (want_yes rfl rfl (hF 2 (by decide))) rfl (by rw [hz]; decide) (ex_load rfl (eval_slot (hF 8 (by decide))) (ld_strT (cell_keep D0.out hG.below))) hG.below
              · exact rol_val rfl (want_yes rfl rfl (hF 2 (by decide))) rfl (by rw [hz]; decide) (ex_bin rfl (eval_slot (hF 7 (by decide))) (eval_slot (hF 9 (by decide))) (by go_simp) (bin_eqs HPQ.out)) hG.below
              · exact rol_val rfl rfl rfl (by rw [hz]; decide) (ex_pick_yes rfl (eval_slot (hF 2 (by decide))) (eval_slot (hF 10 (by decide)))) hG.below
            · intro a wx who hG hF
              have fv38 : a.tmps.getD 38 undef = .bool false := eval_slot (s := 38) (hF 11 (of_decide_eq_true (by kernel_rfl)) (of_decide_eq_true (by kernel_rfl)))
              have hbx := hG.below
              have hnx := hG.new
              rw [hG.frame]
              simp only [List.foldl_cons, List.foldl_nil, List.setIfInBounds_toArray, List.set_cons_zero, List.set_cons_succ]
              generalize a.tmps.getD 27 undef = u27
              generalize a.tmps.getD 28 undef = u28
              generalize a.tmps.getD 29 undef = u29
              generalize a.tmps.getD 30 undef = u30
              generalize a.tmps.getD 31 undef = u31
              generalize a.tmps.getD 32 undef = u32
              generalize a.tmps.getD 33 undef = u33
              generalize a.tmps.getD 34 undef = u34
              generalize a.tmps.getD 35 undef = u35
              generalize a.tmps.getD 36 undef = u36
              generalize a.tmps.getD 37 undef = u37
              rw [fv38]
              clear hF hG fv38
              obtain ⟨e0, e1, -, -⟩ := row2 (row_keepB RN.out hbx)
              have HB6 := Lib.hid (HB5.out.trans (hbx.mono HNS.out)); have HNX5 := Lib.hid (Nat.le_trans HNS.out hbx.size)
              have HOW := Lib.hid (HOW5.out.below hbx)
              clear hbx hnx hpq
              obtain ⟨ys, hr1, hI1⟩ := HOW.out
              have hlt1 : m + 1 ≤ 1000000 := by omega
              have HR1 := Lib.hid (ownsRow_belowB hr1 ((Below.refl _ _).alloc (Nat.le_refl _) (.cells #[.string (mkB v)] 9))); have HI1 := Lib.hid hI1
              have HY1 := Lib.hid (World.ownsRow_lit (base := N0) (size := 1) (e := 9) wx #[.string (mkB v)] 1 HNX5.out (by decide) rfl)
              clear hr1 hI1
              go_wp2_with (at_builtin; refine wpList_push_rw rfl _ _ rfl N0 (.slice (some ⟨gx, 0, none⟩) (m + 1) cx) (T0 ++ [(p, vs)]) ys (m + 1) HTL.out HI1.out.1 rfl (by first | exact HR1.out | (have h := HR1.out; rw [HTL.out] at h; exact h)) (p2, [v]) (.slice (some ⟨wx.heap.size, 0, none⟩) 1 1) rfl _ (by simp) rfl hlt1 (by simp; exact Nat.le_succ_of_le HNX5.out) ?_; intro a3 c3 w3 h3 hg3 ht3; have HX3 := Lib.hid (show OfI w3 N0 (.slice a3 (m + 1 + 1) c3) ((T0 ++ [(p, vs)]) ++ [(p2, [v])]) from OfI.push (w := wx) HI1.out (fun b cs hc => by have h5 := row_keepB hc ((Below.refl _ wx).alloc (Nat.le_refl _) (.cells #[.string (mkB v)] 9)); exact (ht3 b cs h5).trans (h5.trans hc.symm)) (by first | exact h3 | (rw [HTL.out]; exact h3)) (row_heap HY1.out fun b e => by obtain ⟨cs, hc⟩ := own_block HY1.out e; exact ht3 b cs hc) (fun b e => by cases e; exact Nat.le_refl _)); have B3 := Lib.hid ((HB6.out.alloc HNX5.out _).grown hg3 (by simp; exact Nat.le_succ_of_le HNX5.out) (fun b e => (own_lt HR1.out e).1)); clear h3 hg3 ht3)
              go_roundw
              case rel => exact ⟨k + 1, _, by omega, by go_num, rfl, Lib.hid (by rw [HTK.out, HPU.out]; exact HX3.out), B3⟩
              case measure => simp [intOf]; omega
      · have e : k = n := by omega
        subst e
        have hE : rwOf (S.take k) = R := by rw [List.take_of_length_le (by rw [HN.out]; exact Nat.le_refl _)]; exact HR.out
        rw [hE] at HO
        clear hE
        go_wp2
        go_ret2
        exact ⟨_, rfl, HO.out.own.base (by rw [← HN0.out]; exact B.out.size), below_step B.out (by rw [HN0.out]; exact HB.out)⟩
end Go.Proofs.YtnngfcjfhhfafaaGreat
