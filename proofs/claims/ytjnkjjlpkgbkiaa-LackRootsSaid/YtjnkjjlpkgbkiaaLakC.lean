/- Lacks in memory: of others, and of the call's own; what operations on them come to. -/
import Derived.Test.YtjnkjjlpkgbkiaaLakA
namespace Go.Proofs.Ytjnkjjlpkgbkiaa
open Go.RowKit Go.ChangeShapes Go.WideShapes
set_option linter.unusedVariables false
set_option maxRecDepth 100000

abbrev zLkV : Value := .agg #[.string ByteArray.empty, .string ByteArray.empty, .slice none 0 0, .bool false]
theorem Try.info_lack : (Try.prog.info? 37).map (fun i => (i.zero, i.size, i.bytes)) = some (some zLkV, 4, 64) := by kernel_rfl
/-- A slice of lacks, in memory: nil, empty, or cells that hold them, four each. -/
structure Lks (w : World) (v : Value) (rs : List Lk) : Prop where
  ex : ∃ a c, v = .slice a rs.length c ∧ rs.length ≤ c ∧ c ≤ maxLen ∧ (a = none → c = 0) ∧ (0 < rs.length → ∃ b off, a = some ⟨b, off, none⟩ ∧ ∀ j, j < rs.length → ∃ a' n' c',
    w.cell? ⟨b, off + j * 4, none⟩ = some (.string (mkB (rs.getD j zLk).1.1)) ∧ w.cell? ⟨b, off + j * 4 + 1, none⟩ = some (.string (mkB (rs.getD j zLk).1.2)) ∧ w.cell? ⟨b, off + j * 4 + 2, none⟩ = some (.slice a' n' c') ∧ w.cell? ⟨b, off + j * 4 + 3, none⟩ = some (.bool (rs.getD j zLk).2.2) ∧ Nds w (.slice a' n' c') (rs.getD j zLk).2.1)
theorem Lks.below {w w' : World} {v : Value} {rs : List Lk} (h : Lks w v rs) (hb : Below w.heap.size w w') : Lks w' v rs := by
  obtain ⟨a, c, hv, h1, h2, hn, h3⟩ := h.ex
  refine ⟨a, c, hv, h1, h2, hn, fun hp => ?_⟩
  obtain ⟨b, off, ha, hc⟩ := h3 hp
  refine ⟨b, off, ha, fun j hj => ?_⟩
  obtain ⟨a', n', c', h4, h5, h6, h7, h8⟩ := hc j hj
  exact ⟨a', n', c', cell_keep h4 hb, cell_keep h5 hb, cell_keep h6 hb, cell_keep h7 hb, h8.below hb⟩
theorem Lks.at {w : World} {a : Option Addr} {n c : Nat} {rs : List Lk} (h : Lks w (.slice a n c) rs) (j : Nat) (hj : j < rs.length) : ∃ b off a' n' c', a = some ⟨b, off, none⟩ ∧ w.cell? ⟨b, off + j * 4, none⟩ = some (.string (mkB (rs.getD j zLk).1.1)) ∧ w.cell? ⟨b, off + j * 4 + 1, none⟩ = some (.string (mkB (rs.getD j zLk).1.2)) ∧ w.cell? ⟨b, off + j * 4 + 2, none⟩ = some (.slice a' n' c') ∧ w.cell? ⟨b, off + j * 4 + 3, none⟩ = some (.bool (rs.getD j zLk).2.2) ∧ Nds w (.slice a' n' c') (rs.getD j zLk).2.1 := by
  obtain ⟨a0, c0, hv, _, _, _, h3⟩ := h.ex
  injection hv with e1 e2 e3
  subst e1
  obtain ⟨b, off, ha, hc⟩ := h3 (by omega)
  obtain ⟨a', n', c', h4, h5, h6, h7, h8⟩ := hc j hj
  exact ⟨b, off, a', n', c', ha, h4, h5, h6, h7, h8⟩
theorem Lks.lenL {w : World} {a : Option Addr} {n c : Nat} {rs : List Lk} (h : Lks w (.slice a n c) rs) : rs.length = n ∧ n ≤ c ∧ c ≤ maxLen := by
  obtain ⟨_, _, hv, h1, h2, _⟩ := h.ex
  injection hv with e1 e2 e3
  subst e2 e3; exact ⟨rfl, h1, h2⟩
theorem lks_none (w : World) : Lks w (.slice none 0 0) [] := ⟨none, 0, rfl, Nat.le_refl _, by unfold maxLen; omega, fun _ => rfl, fun h => absurd h (by simp)⟩
theorem lk_back (w : World) (A : Option Addr) (n c i : Nat) (h : i ≤ n) (hc : n ≤ c) : (Instr.sliceAt 26 (.slice A n c) (some (.int .i64 i)) none none).run Try.prog w = .ok (sliced A i n c 4) w := by
  have h1 : (0 : Int) ≤ (i : Int) := by omega
  have h2 : (i : Int) ≤ (n : Int) := by omega
  have h3 : (n : Int) ≤ (c : Int) := by omega
  go_simp
theorem Lks.back {w : World} {A : Option Addr} {n c : Nat} {l : List Lk} (h : Lks w (.slice A n c) l) {i : Nat} (hi : i ≤ n) : ∃ A', sliced A i n c 4 = .slice A' (n - i) (c - i) ∧ ∀ w', Lks w' (.slice A n c) l → Lks w' (.slice A' (n - i) (c - i)) (l.drop i) := by
  refine ⟨_, rfl, fun w' h' => ?_⟩
  obtain ⟨hl, hnc, -⟩ := h.lenL
  obtain ⟨_, _, hv, h1, h2, h3, h4⟩ := h'.ex
  injection hv with e1 e2 e3
  subst e1 e3
  have hli : (l.drop i).length = n - i := by rw [List.length_drop, hl]
  refine ⟨_, c - i, by rw [hli], by omega, by omega, fun e => ?_, fun hp => ?_⟩
  · by_cases hc : c = i
    · omega
    · rw [if_neg hc] at e
      have := h3 (by cases A with | none => rfl | some x => cases e)
      omega
  · rw [hli] at hp
    obtain ⟨b, off, rfl, hc⟩ := h4 (by omega)
    refine ⟨b, off + i * 4, ?_, fun j hj => ?_⟩
    · rw [if_neg (by omega)]; simp [addr_add]
    · rw [hli] at hj
      have hg : (l.drop i).getD j zLk = l.getD (i + j) zLk := by simp [List.getD_eq_getElem?_getD, List.getElem?_drop]
      rw [hg, show off + i * 4 + j * 4 = off + (i + j) * 4 by omega]; exact hc (i + j) (by omega)

/-! ### Lacks of the call's own -/
def lkC : List Lk → List Value → List Value
  | r :: rs, y :: ys => .string (mkB r.1.1) :: .string (mkB r.1.2) :: y :: .bool r.2.2 :: lkC rs ys
  | _, _ => []
theorem lkC_len : ∀ {rs : List Lk} {ys : List Value}, ys.length = rs.length → (lkC rs ys).length = rs.length * 4
  | [], [], _ => rfl
  | r :: rs, y :: ys, h => by
    have := lkC_len (rs := rs) (ys := ys) (by simpa using h)
    rw [lkC, List.length_cons, List.length_cons, List.length_cons, List.length_cons, this, List.length_cons]; omega
theorem lkC_app : ∀ {rs : List Lk} {ys : List Value} (ls : List Lk) (zs : List Value), ys.length = rs.length → lkC (rs ++ ls) (ys ++ zs) = lkC rs ys ++ lkC ls zs
  | [], [], _, _, _ => rfl
  | r :: rs, y :: ys, ls, zs, h => by
    have := lkC_app (rs := rs) (ys := ys) ls zs (by simpa using h)
    rw [List.cons_append, List.cons_append, lkC, this, lkC]; rfl
theorem lkC_at : ∀ {rs : List Lk} {ys : List Value}, ys.length = rs.length → ∀ j, j < rs.length → (lkC rs ys)[j * 4]? = some (.string (mkB (rs.getD j zLk).1.1)) ∧ (lkC rs ys)[j * 4 + 1]? = some (.string (mkB (rs.getD j zLk).1.2)) ∧ (lkC rs ys)[j * 4 + 2]? = some (ys.getD j undef) ∧ (lkC rs ys)[j * 4 + 3]? = some (.bool (rs.getD j zLk).2.2)
  | r :: rs, y :: ys, _, 0, _ => ⟨rfl, rfl, rfl, rfl⟩
  | r :: rs, y :: ys, h, j + 1, hj => by
    have := lkC_at (rs := rs) (ys := ys) (by simpa using h) j (by simpa using hj)
    rw [show (j + 1) * 4 = j * 4 + 4 by omega, lkC]
    exact this
theorem lkC_one : ∀ {rs : List Lk} {ys : List Value}, (ys.all fun u => u.oneCell') = true → ((lkC rs ys).all fun u => u.oneCell') = true
  | [], _, _ => rfl
  | r :: rs, [], _ => rfl
  | r :: rs, y :: ys, h => by
    rw [List.all_cons, Bool.and_eq_true] at h
    rw [lkC, List.all_cons, List.all_cons, List.all_cons, List.all_cons, h.1, lkC_one h.2]; rfl
/-- Who needs them: each a row of nodes of the call's own. -/
def LkI (w : World) (lo : Nat) (ys : List Value) (rs : List Lk) : Prop := ys.length = rs.length ∧ ∀ j, j < rs.length → w.ownsRow lo 31 2 (ys.getD j undef) (rs.getD j zLk).2.1.length (ndsC (rs.getD j zLk).2.1)
theorem LkI.nil (w : World) (lo : Nat) : LkI w lo [] [] := ⟨rfl, fun j hj => absurd hj (Nat.not_lt_zero j)⟩
theorem ownblk {w : World} {base : Nat} {e : TypeId} {size : Nat} {v : Value} {n : Nat} {xs : List Value} (h : w.ownsRow base e size v n xs) {b : Nat} (hb : v.ownBlock = some b) : ∃ cs, w.heap[b]? = some (.cells cs e (0, 0)) := by
  rcases h.2 with ⟨rfl, _⟩ | ⟨g, cap, cur, rfl, _, hh, _⟩
  · cases hb
  · have e1 : g = b := Option.some.inj hb
    subst e1; exact ⟨cur, hh⟩
theorem LkI.keep {w w' : World} {lo : Nat} {ys : List Value} {rs : List Lk} (h : LkI w lo ys rs) (hk : ∀ (b : Nat) (cs : Array Value), w.heap[b]? = some (.cells cs 31 (0, 0)) → w'.heap[b]? = w.heap[b]?) : LkI w' lo ys rs :=
  ⟨h.1, fun j hj => row_heap (h.2 j hj) fun b hb => by obtain ⟨cs, hc⟩ := ownblk (h.2 j hj) hb; exact hk b cs hc⟩
theorem LkI.below {w w' : World} {lo : Nat} {ys : List Value} {rs : List Lk} (h : LkI w lo ys rs) (hb : Below w.heap.size w w') : LkI w' lo ys rs := h.keep fun b cs hc => hb.block b (Array.getElem?_eq_some_iff.1 hc).1
theorem lk_snoc {α : Type} {l : List α} {x z : α} {j n : Nat} (hn : l.length = n) (hj : j < n + 1) : (l ++ [x]).getD j z = if j = n then x else l.getD j z := by
  rw [List.getD_eq_getElem?_getD, List.getElem?_append]
  by_cases h : j < l.length
  · rw [if_pos h, if_neg (by omega), List.getD_eq_getElem?_getD]
  · have e : j = n := by omega
    rw [if_neg h, if_pos e, e, ← hn, Nat.sub_self]; rfl
theorem LkI.snoc {w : World} {lo : Nat} {ys : List Value} {rs : List Lk} (h : LkI w lo ys rs) {y : Value} {r : Lk} (hy : w.ownsRow lo 31 2 y r.2.1.length (ndsC r.2.1)) : LkI w lo (ys ++ [y]) (rs ++ [r]) := by
  refine ⟨by rw [List.length_append, List.length_append, h.1]; rfl, fun j hj => ?_⟩
  rw [List.length_append, List.length_singleton] at hj
  rw [lk_snoc h.1 hj, lk_snoc rfl hj]
  by_cases e : j = rs.length
  · rw [if_pos e, if_pos e]; exact hy
  · rw [if_neg e, if_neg e]; exact h.2 j (by omega)
theorem LkI.slices {w : World} {lo : Nat} {ys : List Value} {rs : List Lk} (h : LkI w lo ys rs) : (ys.all fun u => u.oneCell') = true := List.all_eq_true.2 fun u hu => by
  obtain ⟨j, hj, rfl⟩ := List.getElem_of_mem hu
  obtain ⟨a, c, e, -⟩ := ndsO (h.2 j (by rw [← h.1]; exact hj))
  rw [List.getD_eq_getElem?_getD, List.getElem?_eq_getElem hj] at e
  rw [show ys[j] = _ from e]; rfl
def LkO (w : World) (N : Nat) (v : Value) (rs : List Lk) : Prop := ∃ ys, w.ownsRow N 37 4 v rs.length (lkC rs ys) ∧ LkI w N ys rs
theorem LkO.nil (w : World) (N : Nat) : LkO w N (.slice none 0 0) [] := ⟨[], World.ownsRow_nil _ _ _ _, LkI.nil _ _⟩
theorem LkO.below {w w' : World} {N : Nat} {v : Value} {rs : List Lk} (h : LkO w N v rs) (hb : Below w.heap.size w w') : LkO w' N v rs := by
  obtain ⟨ys, h1, h2⟩ := h
  exact ⟨ys, ownsRow_belowB h1 hb, h2.below hb⟩
theorem LkO.lks {w : World} {N : Nat} {v : Value} {rs : List Lk} (h : LkO w N v rs) : Lks w v rs := by
  obtain ⟨ys, h1, h2⟩ := h
  obtain ⟨hl, hf⟩ := h1
  rcases hf with ⟨rfl, h0⟩ | ⟨g, cap, cur, rfl, hg, hh, hnc, hcm, hsz, htk⟩
  · have : rs = [] := List.eq_nil_of_length_eq_zero h0
    subst this; exact lks_none w
  · refine ⟨some ⟨g, 0, none⟩, cap, rfl, hnc, hcm, (fun e => by cases e), fun hp => ⟨g, 0, rfl, fun j hj => ?_⟩⟩
    have hrow : w.ownsRow N 37 4 (.slice (some ⟨g, 0, none⟩) rs.length cap) rs.length (lkC rs ys) := ⟨hl, .inr ⟨g, cap, cur, rfl, hg, hh, hnc, hcm, hsz, htk⟩⟩
    obtain ⟨c0, c1, c2, c3⟩ := lkC_at h2.1 j hj
    obtain ⟨a, c, e, hs⟩ := ndsO (h2.2 j hj)
    rw [e] at c2
    refine ⟨a, _, c, ?_, ?_, ?_, ?_, hs⟩
    · rw [Nat.zero_add, hrow.cellAt (j * 4) (by omega), c0]
    · rw [Nat.zero_add, hrow.cellAt (j * 4 + 1) (by omega), c1]
    · rw [Nat.zero_add, hrow.cellAt (j * 4 + 2) (by omega), c2]
    · rw [Nat.zero_add, hrow.cellAt (j * 4 + 3) (by omega), c3]
theorem LkO.form {w : World} {N : Nat} {v : Value} {rs : List Lk} (h : LkO w N v rs) : ∃ a c, v = .slice a rs.length c ∧ Lks w (.slice a rs.length c) rs := by
  have hr := h.lks
  obtain ⟨a, c, rfl, _⟩ := hr.ex
  exact ⟨a, c, rfl, hr⟩
/-- One more behind: 'l = append(l, x)', l the call's own, x just laid in a block of its own. -/
theorem run_push_lk {w : World} {base n : Nat} {v : Value} {rs : List Lk} {ys : List Value} (hys : ys.length = rs.length) (hown : w.ownsRow base 37 4 v n (lkC rs ys)) (r : Lk) (y : Value) (hy : y.oneCell' = true) {g : Nat} (hg : w.heap[g]? = some (.cells #[.string (mkB r.1.1), .string (mkB r.1.2), y, .bool r.2.2] 37 (0, 0))) (hlen : n ≤ 1000000) (hbase : base ≤ w.heap.size) (t : TypeId) :
    ∃ v' w', (Builtin.append_ #[26, 26] t #[v, .slice (some ⟨g, 0, none⟩) 1 1]).run Try.prog w = .ok v' w' ∧ w'.ownsRow base 37 4 v' (n + 1) (lkC (rs ++ [r]) (ys ++ [y])) ∧ w.grownBy w' v.ownBlock := by
  obtain ⟨i, hi, hz', hsize, hby⟩ := info_parts Try.info_lack
  have e1 : lkC [r] [y] = [.string (mkB r.1.1), .string (mkB r.1.2), y, .bool r.2.2] := rfl
  rw [lkC_app [r] [y] hys, e1]
  obtain ⟨v', w', hr, h2, h3, _, -⟩ := run_append_own_at (P := Try.prog) w base 26 t 37 i zLkV 4 64 Try.underlying26 hi hz' hsize hby rfl (by decide) v n _ hown ⟨g, 0, none⟩ 1 1 [.string (mkB r.1.1), .string (mkB r.1.2), y, .bool r.2.2] rfl (fun j u hj => by
    obtain ⟨c0, c1, c2, c3⟩ := row4n hg
    rw [addr_add, Nat.zero_add]
    match j, hj with
    | 0, hj => rw [c0]; exact hj
    | 1, hj => rw [c1]; exact hj
    | 2, hj => rw [c2]; exact hj
    | 3, hj => rw [c3]; exact hj
    | j + 4, hj => simp at hj) (fun u hu => by
    simp only [List.mem_cons, List.not_mem_nil, or_false] at hu
    rcases hu with rfl | rfl | rfl | rfl
    · rfl
    · rfl
    · exact hy
    · rfl) (by unfold maxLen; omega) (by omega) hbase
  exact ⟨v', w', hr, h2, h3⟩
section
variable {wr : World} {ops : Array Oper} {rest : List Oper} {o : Oper} {a : Act} {Q : Exit → Act → World → Prop}
theorem wpList_push_lk (hgd : o.guard = none) (s x : Operand) (ho : o.op = .call { callee := .builtin .append, args := #[s, x], argTypes := #[26, 26] })
    (base : Nat) (V : Value) (K : List Lk) (n : Nat) (hn : K.length = n) (hs : a.eval s = V) (hown : LkO wr base V K) (p v : List UInt8) (Y : List Nd) (y : Value) (u : Bool) (hY : wr.ownsRow base 31 2 y Y.length (ndsC Y)) (N : Nat) (hN : wr.heap.size = N) (hx : a.eval x = .slice (some ⟨N, 0, none⟩) 1 1) (hlen : n ≤ 1000000) (hbase : base ≤ wr.heap.size)
    (h : ∀ a' c' w', LkO w' base (.slice a' (n + 1) c') (K ++ [((p, v), (Y, u))]) → Below base wr w' → wpList Try.prog ops Q rest (a.put o.dst (.slice a' (n + 1) c')) w') :
    wpList Try.prog ops Q (o :: rest) a (wr.alloc (.cells #[.string (mkB p), .string (mkB v), y, .bool u] 37)) := by
  subst hN
  refine wpList_plain hgd fun K' hK' => ?_
  obtain ⟨ys, h1, h2⟩ := hown
  have hyo : y.oneCell' = true := by obtain ⟨a, c, rfl, -⟩ := ndsO hY; rfl
  have hal := (Below.refl wr.heap.size wr).alloc (Nat.le_refl _) (.cells #[.string (mkB p), .string (mkB v), y, .bool u] 37)
  have h1a := ownsRow_belowB h1 hal
  obtain ⟨v', w', hr, h3, h4⟩ := run_push_lk h2.1 h1a ((p, v), (Y, u)) y hyo (heap_alloc_new wr (.cells #[.string (mkB p), .string (mkB v), y, .bool u] 37)) (by rw [hn]; exact hlen) (by simp; omega) o.type
  have hk : ∀ (b : Nat) (cs : Array Value), wr.heap[b]? = some (.cells cs 31 (0, 0)) → w'.heap[b]? = wr.heap[b]? := fun b cs hc => by
    have hc2 := row_keepB hc hal
    exact (h4.block b (Array.getElem?_eq_some_iff.1 hc2).1 fun e => own_nebox h1a hc2 (by decide) e.symm).trans (hc2.trans hc.symm)
  have hI : LkI w' base (ys ++ [y]) (K ++ [((p, v), (Y, u))]) := (h2.keep hk).snoc (r := ((p, v), (Y, u))) (row_heap hY fun b e => by obtain ⟨cs, hc⟩ := ownblk hY e; exact hk b cs hc)
  rw [hn] at h3
  have hO : LkO w' base v' (K ++ [((p, v), (Y, u))]) := ⟨ys ++ [y], by rw [List.length_append, hn]; exact h3, hI⟩
  obtain ⟨a', c', hv, _⟩ := hO.form
  rw [List.length_append, hn, List.length_singleton] at hv
  subst hv
  have hB : Below base wr w' := ((Below.refl base wr).alloc hbase _).grown h4 (by simp; omega) (fun b e => (own_lt h1a e).1)
  have hkk := h a' c' w' hO hB
  unfold Oper.wp
  simp [execOp, ho, resolve, invoke, builtin, hs, hx, hr, Result.andThen]
  exact hK' _ _ hkk
end
theorem build_lk {w : World} {p v : List UInt8} {a : Option Addr} {n c : Nat} {u : Bool} : Sem.run Try.prog (Instr.build 37 #[(0, .agg #[.string (mkB p), .string (mkB v)]), (1, .slice a n c), (2, .bool u)]) w = .ok (.agg #[.string (mkB p), .string (mkB v), .slice a n c, .bool u]) w := by go_simp
theorem build_lk1 {w : World} {p v : List UInt8} : Sem.run Try.prog (Instr.build 37 #[(0, .agg #[.string (mkB p), .string (mkB v)])]) w = .ok (.agg #[.string (mkB p), .string (mkB v), .slice none 0 0, .bool false]) w := by go_simp
end Go.Proofs.Ytjnkjjlpkgbkiaa
