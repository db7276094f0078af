/- THE TEXTS OF TalA TalB TalC TalD TalE TalF TalG TalH TalI TalJ: Rows of versions in memory: of others, and of the call's own; what operations of a region leave of them. Copies of texts; what operations leave of rows; rows in memory of their own: of the program. The order of two versions; which versions, and which rows, may be: of the program. Which rows may be: of the program. Are rows the same: of the program and of the document. Where a path's row is, a path's versions, where a version is: of the program. A version put into a path's versions, and taken out of them: the library's Insert and Delete. Rows where a path has these versions in the stead of its own: of the program. Rows with a node, and without it: of the program. Rows' nodes, a path's last version: of the program. -/
import Derived.Test.YtlbibgofhhdgoaaTalM
import Derived.Test.YtlbibgofhhdgoaaStoA
import Derived.Test.YtlbibgofhhdgoaaRolM
import Derived.ArgAppend
import Derived.Lib.RowBridge
namespace Go.Proofs.Ytlbibgofhhdgoaa
open Go.RowKit
set_option linter.unusedVariables false
set_option maxRecDepth 100000

theorem Try.info_row : (Try.prog.info? 50).map (fun i => (i.zero, i.size, i.bytes)) = some (some (.agg #[.string ByteArray.empty, .slice none 0 0]), 2, 40) := by kernel_rfl

/-- A slice of rows, in memory: nil, empty, or cells that hold them, two each. -/
structure Rws (w : World) (v : Value) (rs : List Rw) : Prop where
  ex : ∃ a c, v = .slice a rs.length c ∧ rs.length ≤ c ∧ c ≤ maxLen ∧ (a = none → c = 0) ∧ (0 < rs.length → ∃ b off, a = some ⟨b, off, none⟩ ∧ ∀ j, j < rs.length → ∃ a' n' c',
    w.cell? ⟨b, off + j * 2, none⟩ = some (.string (mkB (rs.getD j zR).1)) ∧ w.cell? ⟨b, off + j * 2 + 1, none⟩ = some (.slice a' n' c') ∧ Strs w (.slice a' n' c') (rs.getD j zR).2)
theorem Rws.below {w w' : World} {v : Value} {rs : List Rw} (h : Rws w v rs) (hb : Below w.heap.size w w') : Rws w' v rs := by
  obtain ⟨a, c, hv, h1, h2, hn, h3⟩ := h.ex
  refine ⟨a, c, hv, h1, h2, hn, fun hp => ?_⟩
  obtain ⟨b, off, ha, hc⟩ := h3 hp
  refine ⟨b, off, ha, fun j hj => ?_⟩
  obtain ⟨a', n', c', h4, h5, h6⟩ := hc j hj
  exact ⟨a', n', c', cell_keep h4 hb, cell_keep h5 hb, h6.belowB hb⟩
theorem Rws.at {w : World} {a : Option Addr} {n c : Nat} {rs : List Rw} (h : Rws w (.slice a n c) rs) (j : Nat) (hj : j < rs.length) : ∃ b off a' n' c', a = some ⟨b, off, none⟩ ∧ w.cell? ⟨b, off + j * 2, none⟩ = some (.string (mkB (rs.getD j zR).1)) ∧ w.cell? ⟨b, off + j * 2 + 1, none⟩ = some (.slice a' n' c') ∧ Strs w (.slice a' n' c') (rs.getD j zR).2 := by
  obtain ⟨a0, c0, hv, _, _, _, h3⟩ := h.ex
  injection hv with e1 e2 e3
  subst e1
  obtain ⟨b, off, ha, hc⟩ := h3 (by omega)
  obtain ⟨a', n', c', h4, h5, h6⟩ := hc j hj
  exact ⟨b, off, a', n', c', ha, h4, h5, h6⟩
theorem Rws.lenT {w : World} {a : Option Addr} {n c : Nat} {rs : List Rw} (h : Rws w (.slice a n c) rs) : rs.length = n ∧ n ≤ c ∧ c ≤ maxLen := by
  obtain ⟨_, _, hv, h1, h2, _⟩ := h.ex
  injection hv with e1 e2 e3
  subst e2 e3; exact ⟨rfl, h1, h2⟩
theorem rws_none (w : World) : Rws w (.slice none 0 0) [] := ⟨none, 0, rfl, Nat.le_refl _, by unfold maxLen; omega, fun _ => rfl, fun h => absurd h (by simp)⟩
theorem rw_back (w : World) (A : Option Addr) (n c i : Nat) (h : i ≤ n) (hc : n ≤ c) : (Instr.sliceAt 51 (.slice A n c) (some (.int .i64 i)) none none).run Try.prog w = .ok (sliced A i n c 2) w := by
  have h1 : (0 : Int) ≤ (i : Int) := by omega
  have h2 : (i : Int) ≤ (n : Int) := by omega
  have h3 : (n : Int) ≤ (c : Int) := by omega
  go_simp
theorem rw_front (w : World) (A : Option Addr) (n c i : Nat) (h : i ≤ c) : (Instr.sliceAt 51 (.slice A n c) none (some (.int .i64 i)) none).run Try.prog w = .ok (sliced A 0 i c 2) w := by
  have h1 : (0 : Int) ≤ (i : Int) := by omega
  have h2 : (i : Int) ≤ (c : Int) := by omega
  go_simp
theorem Rws.front {w : World} {A : Option Addr} {n c : Nat} {l : List Rw} (h : Rws w (.slice A n c) l) {i : Nat} (hi : i ≤ n) : ∃ A', sliced A 0 i c 2 = .slice A' i c ∧ ∀ w', Rws w' (.slice A n c) l → Rws w' (.slice A' i c) (l.take i) := by
  refine ⟨_, rfl, fun w' h' => ?_⟩
  obtain ⟨hl, hnc, -⟩ := h.lenT
  obtain ⟨_, _, hv, h1, h2, h3, h4⟩ := h'.ex
  injection hv with e1 e2 e3
  subst e1 e3
  have hli : (l.take i).length = i := by rw [List.length_take]; omega
  refine ⟨_, c, by rw [hli], by omega, h2, fun e => ?_, fun hp => ?_⟩
  · by_cases hc : c = 0
    · exact hc
    · rw [if_neg hc] at e
      exact h3 (by cases A with | none => rfl | some x => cases e)
  · rw [hli] at hp
    obtain ⟨b, off, rfl, hc⟩ := h4 (by omega)
    refine ⟨b, off, ?_, fun j hj => ?_⟩
    · rw [if_neg (by omega)]; simp [addr_add]
    · rw [hli] at hj
      have hg : (l.take i).getD j zR = l.getD j zR := by simp [List.getD_eq_getElem?_getD, hj]
      rw [hg]; exact hc j (by omega)
theorem Rws.back {w : World} {A : Option Addr} {n c : Nat} {l : List Rw} (h : Rws w (.slice A n c) l) {i : Nat} (hi : i ≤ n) : ∃ A', sliced A i n c 2 = .slice A' (n - i) (c - i) ∧ ∀ w', Rws w' (.slice A n c) l → Rws w' (.slice A' (n - i) (c - i)) (l.drop i) := by
  refine ⟨_, rfl, fun w' h' => ?_⟩
  obtain ⟨hl, hnc, -⟩ := h.lenT
  obtain ⟨_, _, hv, h1, h2, h3, h4⟩ := h'.ex
  injection hv with e1 e2 e3
  subst e1 e3
  have hli : (l.drop i).length = n - i := by rw [List.length_drop, hl]
  refine ⟨_, c - i, by rw [hli], by omega, by omega, fun e => ?_, fun hp => ?_⟩
  · by_cases hc : c = i
    · omega
    · rw [if_neg hc] at e
      have := h3 (by cases A with | none => rfl | some x => cases e)
      omega
  · rw [hli] at hp
    obtain ⟨b, off, rfl, hc⟩ := h4 (by omega)
    refine ⟨b, off + i * 2, ?_, fun j hj => ?_⟩
    · rw [if_neg (by omega)]; simp [addr_add]
    · rw [hli] at hj
      have hg : (l.drop i).getD j zR = l.getD (i + j) zR := by simp [List.getD_eq_getElem?_getD, List.getElem?_drop]
      rw [hg, show off + i * 2 + j * 2 = off + (i + j) * 2 by omega]; exact hc (i + j) (by omega)

/-! ### Rows of the call's own -/
def rwC : List Rw → List Value → List Value
  | r :: rs, y :: ys => .string (mkB r.1) :: y :: rwC rs ys
  | _, _ => []
theorem rwC_len : ∀ {rs : List Rw} {ys : List Value}, ys.length = rs.length → (rwC rs ys).length = rs.length * 2
  | [], [], _ => rfl
  | r :: rs, y :: ys, h => by
    have := rwC_len (rs := rs) (ys := ys) (by simpa using h)
    rw [rwC, List.length_cons, List.length_cons, this, List.length_cons]; omega
theorem rwC_app : ∀ {rs : List Rw} {ys : List Value} (ls : List Rw) (zs : List Value), ys.length = rs.length → rwC (rs ++ ls) (ys ++ zs) = rwC rs ys ++ rwC ls zs
  | [], [], _, _, _ => rfl
  | r :: rs, y :: ys, ls, zs, h => by
    have := rwC_app (rs := rs) (ys := ys) ls zs (by simpa using h)
    rw [List.cons_append, List.cons_append, rwC, this, rwC]; rfl
theorem rwC_at : ∀ {rs : List Rw} {ys : List Value}, ys.length = rs.length → ∀ j, j < rs.length → (rwC rs ys)[j * 2]? = some (.string (mkB (rs.getD j zR).1)) ∧ (rwC rs ys)[j * 2 + 1]? = some (ys.getD j undef)
  | r :: rs, y :: ys, _, 0, _ => ⟨rfl, rfl⟩
  | r :: rs, y :: ys, h, j + 1, hj => by
    have := rwC_at (rs := rs) (ys := ys) (by simpa using h) j (by simpa using hj)
    rw [show (j + 1) * 2 = j * 2 + 2 by omega, rwC]
    exact this
theorem rwC_one : ∀ {rs : List Rw} {ys : List Value}, (ys.all fun u => u.oneCell') = true → ((rwC rs ys).all fun u => u.oneCell') = true
  | [], _, _ => rfl
  | r :: rs, [], _ => rfl
  | r :: rs, y :: ys, h => by
    rw [List.all_cons, Bool.and_eq_true] at h
    rw [rwC, List.all_cons, List.all_cons, h.1, rwC_one h.2]; rfl
/-- The rows' versions: each a row of texts of the call's own. -/
def RwI (w : World) (lo : Nat) (ys : List Value) (rs : List Rw) : Prop := ys.length = rs.length ∧ ∀ j, j < rs.length → w.ownsRow lo 9 1 (ys.getD j undef) (rs.getD j zR).2.length (strC (rs.getD j zR).2)
theorem RwI.nil (w : World) (lo : Nat) : RwI w lo [] [] := ⟨rfl, fun j hj => absurd hj (Nat.not_lt_zero j)⟩
theorem own_block {w : World} {base : Nat} {e : TypeId} {size : Nat} {v : Value} {n : Nat} {xs : List Value} (h : w.ownsRow base e size v n xs) {b : Nat} (hb : v.ownBlock = some b) : ∃ cs, w.heap[b]? = some (.cells cs e (0, 0)) := by
  rcases h.2 with ⟨rfl, _⟩ | ⟨g, cap, cur, rfl, _, hh, _⟩
  · cases hb
  · have e1 : g = b := Option.some.inj hb
    subst e1; exact ⟨cur, hh⟩
theorem RwI.keep {w w' : World} {lo : Nat} {ys : List Value} {rs : List Rw} (h : RwI w lo ys rs) (hk : ∀ (b : Nat) (cs : Array Value), w.heap[b]? = some (.cells cs 9 (0, 0)) → w'.heap[b]? = w.heap[b]?) : RwI w' lo ys rs :=
  ⟨h.1, fun j hj => row_heap (h.2 j hj) fun b hb => by obtain ⟨cs, hc⟩ := own_block (h.2 j hj) hb; exact hk b cs hc⟩
theorem RwI.below {w w' : World} {lo : Nat} {ys : List Value} {rs : List Rw} (h : RwI w lo ys rs) (hb : Below w.heap.size w w') : RwI w' lo ys rs := h.keep fun b cs hc => hb.block b (Array.getElem?_eq_some_iff.1 hc).1
theorem RwI.base {w : World} {lo lo' : Nat} {ys : List Value} {rs : List Rw} (h : RwI w lo ys rs) (hl : lo' ≤ lo) : RwI w lo' ys rs := ⟨h.1, fun j hj => row_base (h.2 j hj) hl⟩
theorem gd_snoc {α : Type} {l : List α} {x z : α} {j n : Nat} (hn : l.length = n) (hj : j < n + 1) : (l ++ [x]).getD j z = if j = n then x else l.getD j z := by
  rw [List.getD_eq_getElem?_getD, List.getElem?_append]
  by_cases h : j < l.length
  · rw [if_pos h, if_neg (by omega), List.getD_eq_getElem?_getD]
  · have e : j = n := by omega
    rw [if_neg h, if_pos e, e, ← hn, Nat.sub_self]; rfl
theorem RwI.snoc {w : World} {lo : Nat} {ys : List Value} {rs : List Rw} (h : RwI w lo ys rs) {y : Value} {r : Rw} (hy : w.ownsRow lo 9 1 y r.2.length (strC r.2)) : RwI w lo (ys ++ [y]) (rs ++ [r]) := by
  refine ⟨by rw [List.length_append, List.length_append, h.1]; rfl, fun j hj => ?_⟩
  rw [List.length_append, List.length_singleton] at hj
  rw [gd_snoc h.1 hj, gd_snoc rfl hj]
  by_cases e : j = rs.length
  · rw [if_pos e, if_pos e]; exact hy
  · rw [if_neg e, if_neg e]; exact h.2 j (by omega)
theorem gd_app {α : Type} {l m : List α} {z : α} {j n : Nat} (hn : l.length = n) : (l ++ m).getD j z = if j < n then l.getD j z else m.getD (j - n) z := by
  rw [List.getD_eq_getElem?_getD, List.getElem?_append, hn]
  by_cases h : j < n
  · rw [if_pos h, if_pos h, List.getD_eq_getElem?_getD]
  · rw [if_neg h, if_neg h, List.getD_eq_getElem?_getD]
theorem RwI.app {w : World} {lo : Nat} {ys zs : List Value} {rs ls : List Rw} (h : RwI w lo ys rs) (k : RwI w lo zs ls) : RwI w lo (ys ++ zs) (rs ++ ls) := by
  refine ⟨by rw [List.length_append, List.length_append, h.1, k.1], fun j hj => ?_⟩
  rw [List.length_append] at hj
  rw [gd_app h.1, gd_app rfl]
  by_cases e : j < rs.length
  · rw [if_pos e, if_pos e]; exact h.2 j e
  · rw [if_neg e, if_neg e]; exact k.2 (j - rs.length) (by omega)
theorem RwI.slices {w : World} {lo : Nat} {ys : List Value} {rs : List Rw} (h : RwI w lo ys rs) : (ys.all fun u => u.oneCell') = true := List.all_eq_true.2 fun u hu => by
  obtain ⟨j, hj, rfl⟩ := List.getElem_of_mem hu
  obtain ⟨a, c, e, -⟩ := stsO (h.2 j (by rw [← h.1]; exact hj))
  rw [gd_at hj] at e
  rw [e]; rfl
/-- Rows of the call's own: the row of rows, and each one's versions. -/
def RwO (w : World) (N : Nat) (v : Value) (rs : List Rw) : Prop := ∃ ys, w.ownsRow N 50 2 v rs.length (rwC rs ys) ∧ RwI w N ys rs
theorem RwO.nil (w : World) (N : Nat) : RwO w N (.slice none 0 0) [] := ⟨[], World.ownsRow_nil _ _ _ _, RwI.nil _ _⟩
theorem RwO.below {w w' : World} {N : Nat} {v : Value} {rs : List Rw} (h : RwO w N v rs) (hb : Below w.heap.size w w') : RwO w' N v rs := by
  obtain ⟨ys, h1, h2⟩ := h
  exact ⟨ys, ownsRow_belowB h1 hb, h2.below hb⟩
theorem RwO.base {w : World} {N N' : Nat} {v : Value} {rs : List Rw} (h : RwO w N v rs) (hn : N' ≤ N) : RwO w N' v rs := by
  obtain ⟨ys, h1, h2⟩ := h
  exact ⟨ys, row_base h1 hn, h2.base hn⟩
theorem rws_of {w : World} {N lo : Nat} {v : Value} {rs : List Rw} {ys : List Value} (h1 : w.ownsRow N 50 2 v rs.length (rwC rs ys)) (h2 : RwI w lo ys rs) : Rws w v rs := by
  obtain ⟨hl, hf⟩ := h1
  rcases hf with ⟨rfl, h0⟩ | ⟨g, cap, cur, rfl, hg, hh, hnc, hcm, hsz, htk⟩
  · have : rs = [] := List.eq_nil_of_length_eq_zero h0
    subst this; exact rws_none w
  · refine ⟨some ⟨g, 0, none⟩, cap, rfl, hnc, hcm, (fun e => by cases e), fun hp => ⟨g, 0, rfl, fun j hj => ?_⟩⟩
    have hrow : w.ownsRow N 50 2 (.slice (some ⟨g, 0, none⟩) rs.length cap) rs.length (rwC rs ys) := ⟨hl, .inr ⟨g, cap, cur, rfl, hg, hh, hnc, hcm, hsz, htk⟩⟩
    obtain ⟨c0, c1⟩ := rwC_at h2.1 j hj
    obtain ⟨a, c, e, hs⟩ := stsO (h2.2 j hj)
    rw [e] at c1
    refine ⟨a, _, c, ?_, ?_, hs⟩
    · rw [Nat.zero_add, hrow.cellAt (j * 2) (by omega), c0]
    · rw [Nat.zero_add, hrow.cellAt (j * 2 + 1) (by omega), c1]
theorem RwO.rws {w : World} {N : Nat} {v : Value} {rs : List Rw} (h : RwO w N v rs) : Rws w v rs := by
  obtain ⟨ys, h1, h2⟩ := h
  exact rws_of h1 h2
theorem RwO.form {w : World} {N : Nat} {v : Value} {rs : List Rw} (h : RwO w N v rs) : ∃ a c, v = .slice a rs.length c ∧ Rws w (.slice a rs.length c) rs := by
  have hr := h.rws
  obtain ⟨a, c, rfl, _⟩ := hr.ex
  exact ⟨a, c, rfl, hr⟩
/-- An append onto rows turns no row of texts. -/
theorem txt_kept {w w' : World} {N n : Nat} {v : Value} {xs : List Value} (hown : w.ownsRow N 50 2 v n xs) (hg : w.grownBy w' v.ownBlock) : ∀ (b : Nat) (cs : Array Value), w.heap[b]? = some (.cells cs 9 (0, 0)) → w'.heap[b]? = w.heap[b]? := fun b cs hc =>
  hg.block b (Array.getElem?_eq_some_iff.1 hc).1 fun e => own_nebox hown hc (by decide) e.symm
theorem run_app_rw {w : World} {base n : Nat} {v : Value} {rs : List Rw} {ys : List Value} (hys : ys.length = rs.length) (hown : w.ownsRow base 50 2 v n (rwC rs ys)) {a0 : Option Addr} {m c : Nat} {ls : List Rw} {zs : List Value} (hm : ls.length = m) (hz : zs.length = ls.length) (hnil : a0 = none → m = 0 ∧ c = 0)
    (hsrc : ∀ ad, a0 = some ad → ∀ j u, (rwC ls zs)[j]? = some u → w.cell? (ad.add j) = some u) (h1 : (zs.all fun u => u.oneCell') = true) (hlen : n + m ≤ 2000000) (hbase : base ≤ w.heap.size) (t : TypeId) :
    ∃ v' w', (Builtin.append_ #[51, 51] t #[v, .slice a0 m c]).run Try.prog w = .ok v' w' ∧ w'.ownsRow base 50 2 v' (n + m) (rwC (rs ++ ls) (ys ++ zs)) ∧ w.grownBy w' v.ownBlock ∧ (v'.ownBlock = v.ownBlock ∨ v'.ownBlock = some w.heap.size ∧ w.heap.size < w'.heap.size) := by
  obtain ⟨i, hi, hz', hsize, hby⟩ := info_parts Try.info_row
  rw [rwC_app ls zs hys]
  cases a0 with
  | none =>
    obtain ⟨rfl, rfl⟩ := hnil rfl
    have hL : ls = [] := List.eq_nil_of_length_eq_zero hm
    subst hL
    have hr := run_append_owned_none (P := Try.prog) (w := w) base 51 t 50 i 2 Try.underlying51 hi v n _ hown
    exact ⟨v, w, hr, by simpa [rwC] using hown, ⟨rfl, rfl, rfl, Nat.le_refl _, fun _ _ _ => rfl⟩, .inl rfl⟩
  | some ad =>
    obtain ⟨v', w', hr, h2, h3, _, h5⟩ := run_append_own_at (P := Try.prog) w base 51 t 50 i (.agg #[.string ByteArray.empty, .slice none 0 0]) 2 40 Try.underlying51 hi hz' hsize hby rfl (by decide) v n _ hown ad m c (rwC ls zs) (by rw [rwC_len hz, hm]) (hsrc ad rfl) (fun u hu => List.all_eq_true.1 (rwC_one h1) u hu) (by unfold maxLen; omega) (by omega) hbase
    refine ⟨v', w', hr, h2, h3, h5.imp id fun e => ⟨e, ?_⟩⟩
    exact (h2.lt _ e).2
/-- Rows of the call's own as what is appended. -/
theorem own_src {w : World} {N n : Nat} {a : Option Addr} {c : Nat} {xs : List Value} {e : TypeId} {size : Nat} (h : w.ownsRow N e size (.slice a n c) n xs) : (a = none → n = 0 ∧ c = 0) ∧ ∀ ad, a = some ad → ∀ j u, xs[j]? = some u → w.cell? (ad.add j) = some u := by
  refine ⟨fun e => ?_, fun ad e j u hj => ?_⟩
  · rcases h.2 with ⟨hv, h0⟩ | ⟨g, cap, cur, hv, _⟩
    · injection hv with _ _ hc; exact ⟨h0, hc⟩
    · injection hv with ha; rw [e] at ha; cases ha
  · rcases h.2 with ⟨hv, h0⟩ | ⟨g, cap, cur, hv, _⟩
    · injection hv with ha; rw [e] at ha; cases ha
    · injection hv with ha hn hc
      rw [e] at ha; cases ha
      exact h.cells (by rw [e]; rfl) j u hj
theorem blk_src {w : World} {b : Nat} {r : Rw} {y : Value} (h : w.heap[b]? = some (.cells #[.string (mkB r.1), y] 50 (0, 0))) : ∀ ad, (some ⟨b, 0, none⟩ : Option Addr) = some ad → ∀ j u, (rwC [r] [y])[j]? = some u → w.cell? (ad.add j) = some u := by
  intro ad e j u hj
  cases e
  obtain ⟨c0, c1, _, _⟩ := row2 h
  rw [addr_add, Nat.zero_add]
  match j, hj with
  | 0, hj => rw [c0]; exact hj
  | 1, hj => rw [c1]; exact hj
  | j + 2, hj => simp [rwC] at hj

/-! ### What operations of a region leave -/
/-- Rows in a slot: their blocks among bs. -/
def rwsG (N : Nat) (rs : List Rw) : World → Value → (Nat → Prop) → Prop := fun w v bs => ∃ ys, w.ownsRow N 50 2 v rs.length (rwC rs ys) ∧ RwI w N ys rs ∧ (∀ b, v.ownBlock = some b → bs b) ∧ ∀ j, j < rs.length → ∀ b, (ys.getD j undef).ownBlock = some b → bs b
def rwsX (X : Value) (N : Nat) (rs : List Rw) : World → Value → (Nat → Prop) → Prop := fun w _ bs => rwsG N rs w X bs
theorem rwsG_near {N : Nat} {rs : List Rw} : ∀ (w w' : World) (v : Value) (bs : Nat → Prop), (∀ b, bs b → w'.heap[b]? = w.heap[b]?) → rwsG N rs w v bs → rwsG N rs w' v bs := by
  rintro w w' v bs hb ⟨ys, h1, h2, h3, h4⟩
  exact ⟨ys, row_heap h1 fun b e => hb b (h3 b e), ⟨h2.1, fun j hj => row_heap (h2.2 j hj) fun b e => hb b (h4 j hj b e)⟩, h3, h4⟩
theorem rwsX_near {X : Value} {N : Nat} {rs : List Rw} : ∀ (w w' : World) (v : Value) (bs : Nat → Prop), (∀ b, bs b → w'.heap[b]? = w.heap[b]?) → rwsX X N rs w v bs → rwsX X N rs w' v bs := fun w w' _ bs hb h => rwsG_near w w' X bs hb h
theorem rwsG.own {N : Nat} {rs : List Rw} {w : World} {v : Value} {bs : Nat → Prop} (h : rwsG N rs w v bs) : RwO w N v rs := by
  obtain ⟨ys, h1, h2, _⟩ := h
  exact ⟨ys, h1, h2⟩
theorem RwO.toG {w : World} {N N' : Nat} {v : Value} {rs : List Rw} (h : RwO w N v rs) (hn : N' ≤ N) : ∃ bs : Nat → Prop, (∀ b, bs b → N ≤ b ∧ b < w.heap.size) ∧ rwsG N' rs w v bs := by
  obtain ⟨ys, h1, h2⟩ := h
  refine ⟨fun b => v.ownBlock = some b ∨ ∃ j, j < rs.length ∧ (ys.getD j undef).ownBlock = some b, fun b e => ?_, ys, row_base h1 hn, h2.base hn, fun b e => .inl e, fun j hj b e => .inr ⟨j, hj, e⟩⟩
  rcases e with e | ⟨j, hj, e⟩
  · exact h1.lt b e
  · exact (h2.2 j hj).lt b e
/-- A row, as a struct, in a slot. -/
def rowA (N : Nat) (p : List UInt8) (vs : List (List UInt8)) : World → Value → Option Nat → Prop := fun w v ob => ∃ y, v = .agg #[.string (mkB p), y] ∧ w.ownsRow N 9 1 y vs.length (strC vs) ∧ ob = y.ownBlock
theorem rowA_near {N : Nat} {p : List UInt8} {vs : List (List UInt8)} : ∀ (w w' : World) (v : Value) (ob : Option Nat), (∀ b, ob = some b → w'.heap[b]? = w.heap[b]?) → rowA N p vs w v ob → rowA N p vs w' v ob := by
  rintro w w' v ob hb ⟨y, rfl, h, rfl⟩
  exact ⟨y, rfl, row_heap h hb, rfl⟩
/-- A slice of one row, in a block of its own. -/
def oneR (N : Nat) (p : List UInt8) (vs : List (List UInt8)) : World → Value → (Nat → Prop) → Prop := fun w v bs => ∃ b y, v = .slice (some ⟨b, 0, none⟩) 1 1 ∧ w.heap[b]? = some (.cells #[.string (mkB p), y] 50 (0, 0)) ∧ w.ownsRow N 9 1 y vs.length (strC vs) ∧ bs b ∧ ∀ k, y.ownBlock = some k → bs k
theorem oneR_near {N : Nat} {p : List UInt8} {vs : List (List UInt8)} : ∀ (w w' : World) (v : Value) (bs : Nat → Prop), (∀ b, bs b → w'.heap[b]? = w.heap[b]?) → oneR N p vs w v bs → oneR N p vs w' v bs := by
  rintro w w' v bs hb ⟨b, y, rfl, h1, h2, h3, h4⟩
  exact ⟨b, y, rfl, (hb b h3).trans h1, row_heap h2 fun k e => hb k (h4 k e), h3, h4⟩
theorem build_row {w : World} {x : ByteArray} {a : Option Addr} {n c : Nat} : Sem.run Try.prog (Instr.build 50 #[(0, .string x), (1, .slice a n c)]) w = .ok (.agg #[.string x, .slice a n c]) w := by go_simp
end Go.Proofs.Ytlbibgofhhdgoaa

namespace Go.Proofs.Ytlbibgofhhdgoaa
open Go.RowKit
set_option linter.unusedVariables false
set_option maxRecDepth 100000

theorem ld_strT {w : World} {g i : Nat} {l : List UInt8} (h : w.cell? ⟨g, i, none⟩ = some (.string (mkB l))) : Sem.run Try.prog (Instr.loadAt 9 (.pointer (some ⟨g, i, none⟩))) w = .ok (.string (mkB l)) w := by
  go_simp
theorem ld_stsT {w : World} {g i n c : Nat} {a : Option Addr} (h : w.cell? ⟨g, i, none⟩ = some (.slice a n c)) : Sem.run Try.prog (Instr.loadAt 48 (.pointer (some ⟨g, i, none⟩))) w = .ok (.slice a n c) w := by
  go_simp
theorem ld_row {w : World} {g i n c : Nat} {a : Option Addr} {p : List UInt8} (h : w.cell? ⟨g, i, none⟩ = some (.string (mkB p))) (h' : w.cell? ⟨g, i + 1, none⟩ = some (.slice a n c)) : Sem.run Try.prog (Instr.loadAt 50 (.pointer (some ⟨g, i, none⟩))) w = .ok (.agg #[.string (mkB p), .slice a n c]) w := by
  go_simp
theorem idx_rws {w : World} {b off n c k : Nat} (h : k < n) : (Instr.indexAt 51 (.slice (some ⟨b, off, none⟩) n c) (.int .i64 (k : Int))).run Try.prog w = .ok (.pointer (some ⟨b, off + k * 2, none⟩)) w := by
  have h1 : (0 : Int) ≤ (k : Int) := by omega
  have h3 : (k : Int) < (n : Int) := by omega
  go_simp
theorem idx_stsT {w : World} {b off n c k : Nat} (h : k < n) : (Instr.indexAt 48 (.slice (some ⟨b, off, none⟩) n c) (.int .i64 (k : Int))).run Try.prog w = .ok (.pointer (some ⟨b, off + k, none⟩)) w := by
  have h1 : (0 : Int) ≤ (k : Int) := by omega
  have h3 : (k : Int) < (n : Int) := by omega
  go_simp
theorem boxT (w : World) (x y : Value) (t : TypeId) : ∃ W g, w.alloc (.cells #[x, y] t) = W ∧ w.heap.size = g ∧ W.heap[g]? = some (.cells #[x, y] t (0, 0)) ∧ Below w.heap.size w W :=
  ⟨_, _, rfl, rfl, heap_alloc_new _ _, (Below.refl _ _).alloc (Nat.le_refl _) _⟩
/-- Rows of before, behind a box that was made. -/
theorem RwO.start {w W : World} {N : Nat} {v : Value} {rs : List Rw} (h : RwO w N v rs) (hb : Below w.heap.size w W) : ∃ bs : Nat → Prop, (∀ b, bs b → b < w.heap.size) ∧ rwsG N rs W v bs := by
  obtain ⟨bs, h1, h2⟩ := h.toG (Nat.le_refl _)
  exact ⟨bs, fun b e => (h1 b e).2, rwsG_near w W v bs (fun b e => hb.block b (h1 b e).2) h2⟩

section
variable {P : Program} {ops : Array Oper} {Q : Exit → Act → World → Prop} {a : Act} {w w0 : World} {who : Nat → Nat} {i B r ro : Nat} {o : Oper}
/-- It reckons a value whose block is one of a role. -/
theorem rol_memv (ho : ops[i]? = some o) (hw : Region.wanted o (yielded ops a.tmps) = true) {s : Nat} (hd : o.dst = some s) (hs : s < a.tmps.size) {v : Value} (hr : Sem.run P (execOp a.eval o) w = .ok (.value v) w) {p : World → Value → Option Nat → Prop} {ob : Option Nat}
    (hob : ∀ b, ob = some b → b < w.heap.size ∧ who b = r) (hp : p w v ob) (hb : Below B w0 w) : wpOp P ops Q i (RPost ops i r ro (.mem s p) B w0 a w who) a w := by
  refine rol_wp ho hw ?_
  unfold Oper.wp
  rw [hr, Oper.upon_value, hd]
  exact ⟨⟨v, by rw [dst_of ho, hd]⟩, hb, who, RKeep.same _ _ _, v, ob, put_self _ hs, hob, hp⟩
theorem rol_moves (ho : ops[i]? = some o) (hw : Region.wanted o (yielded ops a.tmps) = true) {s t : Nat} (hd : o.dst = some s) (hs : s < a.tmps.size) (hop : o.op = .move (.tmp t) ∨ o.op = .assign (.tmp t)) {p : World → Value → (Nat → Prop) → Prop}
    (h : (RLeaf.mems t p).holds r a w who) (hb : Below B w0 w) : wpOp P ops Q i (RPost ops i r ro (.mems s p) B w0 a w who) a w := by
  obtain ⟨v, bs, hv, hbs, hp⟩ := h
  exact rol_vals ho hw hd hs (ex_move (x := .tmp t) hop (eval_slot hv)) hbs hp hb
/-- It makes one block, beside others of its role that it keeps. -/
theorem rol_news (ho : ops[i]? = some o) (hw : Region.wanted o (yielded ops a.tmps) = true) {s : Nat} (hd : o.dst = some s) (hs : s < a.tmps.size) {v : Value} {x : Obj} (hr : Sem.run P (execOp a.eval o) w = .ok (.value v) (w.alloc x)) {p : World → Value → (Nat → Prop) → Prop} {bs : Nat → Prop}
    (hbs : ∀ b, bs b → b = w.heap.size ∨ b < w.heap.size ∧ who b = r) (hp : p (w.alloc x) v bs) (hb : Below B w0 w) (hB : B ≤ w.heap.size) : wpOp P ops Q i (RPost ops i r ro (.mems s p) B w0 a w who) a w := by
  refine rol_wp ho hw ?_
  unfold Oper.wp
  rw [hr, Oper.upon_value, hd]
  refine ⟨⟨v, by rw [dst_of ho, hd]⟩, hb.alloc hB _, rtag w who r, RKeep.belowO ((Below.refl _ _).alloc (Nat.le_refl _) _) r ro who, v, bs, put_self _ hs, fun b e => ?_, hp⟩
  rcases hbs b e with rfl | ⟨h1, h2⟩
  · exact ⟨by simp, rtag_new (Nat.le_refl _)⟩
  · exact ⟨by simp; omega, (rtag_old h1).trans h2⟩
/-- An append onto a row of the region's own, whose elements have memory. -/
theorem rol_grows (ho : ops[i]? = some o) (hw : Region.wanted o (yielded ops a.tmps) = true) {s : Nat} (hd : o.dst = some s) (hs : s < a.tmps.size) {v' : Value} {w' : World} (hr : Sem.run P (execOp a.eval o) w = .ok (.value v') w') {ob : Option Nat} (hg : w.grownBy w' ob) (hob : ∀ b, ob = some b → b < w.heap.size ∧ who b = r)
    {p : World → Value → (Nat → Prop) → Prop} {bs : Nat → Prop} (hbs : ∀ b, bs b → b < w'.heap.size ∧ (w.heap.size ≤ b ∨ b < w.heap.size ∧ who b = r)) (hp : p w' v' bs) (hb : Below B w0 w) (hB : B ≤ w.heap.size) (hrow : ∀ b, ob = some b → B ≤ b) : wpOp P ops Q i (RPost ops i r r (.mems s p) B w0 a w who) a w := by
  refine rol_wp ho hw ?_
  unfold Oper.wp
  rw [hr, Oper.upon_value, hd]
  refine ⟨⟨v', by rw [dst_of ho, hd]⟩, hb.grown hg hB hrow, rtag w who r, RKeep.grown hg (fun b e => (hob b e).2), v', bs, put_self _ hs, fun b e => ?_, hp⟩
  obtain ⟨h1, h2 | ⟨h2, h3⟩⟩ := hbs b e
  · exact ⟨h1, rtag_new h2⟩
  · exact ⟨h1, (rtag_old h2).trans h3⟩
end
section
variable {ops : Array Oper} {Q : Exit → Act → World → Prop} {a : Act} {w w0 : World} {who : Nat → Nat} {i B r ro : Nat} {o : Oper}
/-- 'Row{p, vs}'. -/
theorem rol_rowA (ho : ops[i]? = some o) (hw : Region.wanted o (yielded ops a.tmps) = true) {s : Nat} (hd : o.dst = some s) (hs : s < a.tmps.size) {x : Operand} {q : Nat} (hop : o.op = .build 50 #[(0, x), (1, .tmp q)]) {N n : Nat} {p : List UInt8} {vs : List (List UInt8)} (hx : a.eval x = .string (mkB p)) (hn : n = vs.length)
    (h : (RLeaf.mem q (rowG N 9 1 n (strC vs))).holds r a w who) (hb : Below B w0 w) : wpOp Try.prog ops Q i (RPost ops i r ro (.mem s (rowA N p vs)) B w0 a w who) a w := by
  subst hn
  obtain ⟨y, ob, hy, hob, hrow, rfl⟩ := h
  obtain ⟨a', c, rfl, -⟩ := stsO hrow
  exact rol_memv ho hw hd hs (ex_build hop (vs := #[(0, .string (mkB p)), (1, .slice a' vs.length c)]) (by simp only [List.map_toArray, List.map_cons, List.map_nil, hx, eval_slot hy]) build_row) hob ⟨_, rfl, hrow, rfl⟩ hb
/-- '[]Row{r}'. -/
theorem rol_oneR (ho : ops[i]? = some o) (hw : Region.wanted o (yielded ops a.tmps) = true) {s q : Nat} (hd : o.dst = some s) (hs : s < a.tmps.size) (hop : o.op = .buildSlice 51 1 #[(0, .tmp q)]) {N : Nat} {p : List UInt8} {vs : List (List UInt8)}
    (h : (RLeaf.mem q (rowA N p vs)).holds r a w who) (hb : Below B w0 w) (hB : B ≤ w.heap.size) : wpOp Try.prog ops Q i (RPost ops i r ro (.mems s (oneR N p vs)) B w0 a w who) a w := by
  obtain ⟨v, ob, hv, hob, y, rfl, hrow, rfl⟩ := h
  obtain ⟨a', c, rfl, -⟩ := stsO hrow
  refine rol_news ho hw hd hs (x := .cells #[.string (mkB p), .slice a' vs.length c] 50) (v := .slice (some ⟨w.heap.size, 0, none⟩) 1 1) (ex_slice hop (vs := #[(0, .agg #[.string (mkB p), .slice a' vs.length c])]) (by simp only [List.map_toArray, List.map_cons, List.map_nil, eval_slot hv]) (by go_simp)) (bs := fun b => b = w.heap.size ∨ Value.ownBlock (.slice a' vs.length c) = some b) ?_ ⟨_, _, rfl, heap_alloc_new _ _, ownsRow_belowB hrow ((Below.refl _ _).alloc (Nat.le_refl _) _), .inl rfl, fun k e => .inr e⟩ hb hB
  rintro b (e | e)
  · exact .inl e
  · exact .inr (hob b e)
/-- 'append(rows, r)'. -/
theorem rol_pushR (ho : ops[i]? = some o) (hw : Region.wanted o (yielded ops a.tmps) = true) {s : Nat} (hd : o.dst = some s) (hs : s < a.tmps.size) {y : Operand} {q : Nat} (hop : o.op = .call { callee := .builtin .append, args := #[y, .tmp q], argTypes := #[51, 51] })
    {N t n : Nat} {rs : List Rw} {X : Value} (hn : rs.length = n) (h : (RLeaf.mems t (rwsX X N rs)).holds r a w who) (hy : a.eval y = X) {p : List UInt8} {vs : List (List UInt8)} (hq : (RLeaf.mems q (oneR N p vs)).holds r a w who) (hlen : n ≤ 1000000) (hb : Below B w0 w) (hB : B ≤ N) (hNw : N ≤ w.heap.size) {rs' : List Rw} (hrs : rs' = rs ++ [(p, vs)]) :
    wpOp Try.prog ops Q i (RPost ops i r r (.mems s (rwsG N rs')) B w0 a w who) a w := by
  subst hn hrs
  obtain ⟨v, bs, hv, hbs, ys, h1, h2, h3, h4⟩ := h
  obtain ⟨u, cs, hu, hcs, b, z, rfl, g1, g2, g3, g4⟩ := hq
  obtain ⟨az, cz, rfl, -⟩ := stsO g2
  obtain ⟨v', w', hr, k1, k2, k3⟩ := run_app_rw (ls := [(p, vs)]) (zs := [.slice az vs.length cz]) h2.1 h1 rfl rfl (a0 := some ⟨b, 0, none⟩) (m := 1) (c := 1) (fun e => by cases e) (blk_src g1) rfl (by omega) hNw o.type
  have hkt := txt_kept h1 k2
  have hI := (h2.keep hkt).snoc (r := (p, vs)) (y := .slice az vs.length cz) (row_heap g2 fun b' hb' => by obtain ⟨cs', hc'⟩ := own_block g2 hb'; exact hkt b' cs' hc')
  refine rol_grows ho hw hd hs (ex_append hop hy (eval_slot hu) hr) k2 (fun b' e => hbs b' (h3 b' e)) (bs := fun b' => v'.ownBlock = some b' ∨ ∃ j, j < (rs ++ [(p, vs)]).length ∧ ((ys ++ [Value.slice az vs.length cz]).getD j undef).ownBlock = some b') ?_ ⟨_, by rw [List.length_append]; exact k1, hI, fun b' e => .inl e, fun j hj b' e => .inr ⟨j, hj, e⟩⟩ hb (Nat.le_trans hB hNw) (fun b' e => Nat.le_trans hB (h1.lt b' e).1)
  rintro b' (e | ⟨j, hj, e⟩)
  · rcases k3 with k | ⟨k, k'⟩
    · rw [k] at e
      exact ⟨Nat.lt_of_lt_of_le (hbs b' (h3 b' e)).1 k2.size, .inr (hbs b' (h3 b' e))⟩
    · rw [k] at e; cases e; exact ⟨k', .inl (Nat.le_refl _)⟩
  · have hin : b' < w.heap.size ∧ who b' = r := by
      rw [List.length_append, List.length_singleton] at hj
      rw [gd_snoc h2.1 hj] at e
      by_cases ej : j = rs.length
      · rw [if_pos ej] at e; exact hcs b' (g4 b' e)
      · rw [if_neg ej] at e; exact hbs b' (h4 j (by omega) b' e)
    exact ⟨Nat.lt_of_lt_of_le hin.1 k2.size, .inr hin⟩
end

end Go.Proofs.Ytlbibgofhhdgoaa

namespace Go.Proofs.Ytlbibgofhhdgoaa
open Go.RowKit
set_option linter.unusedVariables false
set_option maxRecDepth 100000

set_option maxHeartbeats 400000 in
theorem torder_any (p q : List UInt8) (w : World) (hp : p.length ≤ 1000000000) (hq : q.length ≤ 1000000000) (op : okV p = true) (oq : okV q = true) :
    Calls Try.prog 43 #[.string (mkB p), .string (mkB q)] w fun e w' => e = .returned (.int .i64 (cmpT p q)) ∧ Below w.heap.size w w' := by
  have kc := fun w => vcmp_l p q w hp hq op oq
  obtain ⟨C, hC⟩ : ∃ C, cmpT p q = C := ⟨_, rfl⟩
  rw [hC] at kc ⊢
  clear hC
  go_enter Try.func43, Try.ntmps43
  go_wp2_with (go_at_call 30; refine (kc _).mono ?_; rintro e w1 ⟨rfl, hb1⟩; have B := Lib.hid hb1.toBelow; clear hb1 kc)
  go_ret
  exact ⟨rfl, B.out⟩
theorem vmay_b (p : List UInt8) (w : World) (h : p.length ≤ 1000000000) :
    Calls Try.prog 32 #[.string (mkB p)] w fun e w' => e = .returned (.bool (okV p)) ∧ Below w.heap.size w w' := (vmay_l p w h).mono fun _ _ ⟨a, b⟩ => ⟨a, b.toBelow⟩
theorem pmay_b (p : List UInt8) (w : World) (h : p.length ≤ 1000000000) :
    Calls Try.prog 23 #[.string (mkB p)] w fun e w' => e = .returned (.bool (pathB p)) ∧ Below w.heap.size w w' := (pmay_l p w h).mono fun _ _ ⟨a, b⟩ => ⟨a, b.toBelow⟩
theorem Strs.atT {w : World} {a : Option Addr} {n c : Nat} {l : List (List UInt8)} (h : Strs w (.slice a n c) l) (j : Nat) (hj : j < l.length) : ∃ b off, a = some ⟨b, off, none⟩ ∧ w.cell? ⟨b, off + j, none⟩ = some (.string (mkB (l.getD j []))) := by
  obtain ⟨a0, c0, hv, _, _, _, h3⟩ := h.ex
  injection hv with e1 e2 e3
  subst e1
  obtain ⟨b, off, ha, _, hc⟩ := h3 (by omega)
  exact ⟨b, off, ha, hc j hj⟩
theorem ltV_ge {a b : List UInt8} {C : Int} (h : cmpT a b = C) : decide (0 ≤ C) = !ltV a b := by
  unfold ltV; rw [h]; by_cases k : 0 ≤ C
  · rw [decide_eq_true k, decide_eq_false (by omega)]; rfl
  · rw [decide_eq_false k, decide_eq_true (by omega)]; rfl

set_option maxHeartbeats 3200000 in
theorem tfit_any (a : Option Addr) (n c : Nat) (l : List (List UInt8)) (w : World) (hU : Strs w (.slice a n c) l) (hs : ∀ x ∈ l, x.length ≤ 1000000000) :
    Calls Try.prog 34 #[.slice a n c] w fun e w' => e = .returned (.bool (fitV2 l)) ∧ Below w.heap.size w w' := by
  obtain ⟨hn, h1, h2⟩ := hU.lenE
  unfold maxLen at h2
  obtain ⟨R, hR⟩ : ∃ R, fitV2 l = R := ⟨_, rfl⟩
  rw [hR]
  have hr2 : R = (chainA okV ltV [] l && decide (0 < n)) := by rw [← hR, ← hn]; rfl
  have SU := Lib.hid hU; have HN := Lib.hid hn; have HS := Lib.hid hs; have HR := Lib.hid hr2
  clear hU hn hs hR hr2
  go_enter Try.func34, Try.ntmps34
  go_wp2
  go_loopw [7] (fun i wr => ∃ k : Nat, k ≤ n ∧ i = .int .i64 k ∧ Hid (∀ j, j < k → chainB okV ltV [] l j = true) ∧ Hid (Below w.heap.size w wr)) (fun i _ => n - (intOf i).toNat)
  case atStart => exact ⟨0, Nat.zero_le _, rfl, Lib.hid fun j hj => absurd hj (Nat.not_lt_zero j), Lib.hid (Below.refl _ _)⟩
  case round =>
    obtain ⟨k, hk, rfl, HM, HB⟩ := hrel
    by_cases hlt : k < n
    · have hkl : k < l.length := by rw [HN.out]; exact hlt
      have hkb : (k : Int) < (n : Int) := by omega
      obtain ⟨b, off, rfl, hc⟩ := (SU.out.belowB HB.out).atT k hkl
      have hp : wr.cell? ⟨b, off + (k - 1), none⟩ = some (.string (mkB (l.getD (k - 1) []))) := by
        obtain ⟨b', off', e, q⟩ := (SU.out.belowB HB.out).atT (k - 1) (by omega)
        cases e; exact q
      obtain ⟨y, hy⟩ : ∃ y, y = l.getD k [] := ⟨_, rfl⟩
      obtain ⟨x, hx⟩ : ∃ x, x = l.getD (k - 1) [] := ⟨_, rfl⟩
      have hys : y.length ≤ 1000000000 := by rw [hy]; exact HS.out _ (gd_in hkl)
      have hxs : x.length ≤ 1000000000 := by rw [hx]; exact HS.out _ (gd_in (by omega))
      have hst : chainB okV ltV [] l k = (okV y && (decide (k = 0) || ltV x y)) := by unfold chainB; rw [← hy, ← hx]
      rw [← hy] at hc
      rw [← hx] at hp
      have hox : 0 < k → okV x = true := fun h0 => by
        have := HM.out (k - 1) (by omega)
        unfold chainB at this
        rw [← hx, Bool.and_eq_true] at this
        exact this.1
      have km := fun w => vmay_b y w hys
      obtain ⟨o, ho⟩ : ∃ o, okV y = o := ⟨_, rfl⟩
      rw [ho] at km hst
      have HST := Lib.hid hst; have HKL := Lib.hid hkl; have HKM := Lib.hid km; have HO := Lib.hid ho; have HOX := Lib.hid hox; have HYS := Lib.hid hys; have HXS := Lib.hid hxs
      clear hy hx hys hxs hst hkl km ho hox
      cases o with
      | false =>
        have hno : R = false := by rw [HR.out, chain_no HKL.out (by rw [HST.out]; rfl)]; rfl
        have HNO := Lib.hid hno; clear hno
        go_wp2_with (go_at_call 32; refine (HKM.out _).mono ?_; rintro e w1 ⟨rfl, hb1⟩; have HB1 := Lib.hid (below_step HB.out hb1); clear hb1)
        go_ret
        exact ⟨by rw [HNO.out]; rfl, HB1.out⟩
      | true =>
        by_cases h0 : k = 0
        · have hz : decide (0 < k) = false := by simp [h0]
          have HM2 : Hid (∀ j, j < k + 1 → chainB okV ltV [] l j = true) := Lib.hid fun j hj => by
            have : j = k := by omega
            rw [this, HST.out, decide_eq_true h0]; rfl
          clear h0
          go_wp2_with (go_at_call 32; refine (HKM.out _).mono ?_; rintro e w1 ⟨rfl, hb1⟩; have HB1 := Lib.hid (below_step HB.out hb1); clear hb1)
          go_roundw
          case rel => exact ⟨k + 1, by omega, by go_num, HM2, HB1⟩
          case measure => simp [intOf]; omega
        · have hk0 : (0 : Int) < (k : Int) := by omega
          obtain ⟨m, hm⟩ : ∃ m, k - 1 = m := ⟨_, rfl⟩
          rw [hm] at hp
          have hkm : (k : Int) - 1 = (m : Int) := by omega
          have hmn : (m : Int) < (n : Int) := by omega
          have kc := fun w => torder_any x y w HXS.out HYS.out (HOX.out (by omega)) HO.out
          obtain ⟨C, hC⟩ : ∃ C, cmpT x y = C := ⟨_, rfl⟩
          have hge := ltV_ge hC
          rw [hC] at kc
          have HKC := Lib.hid kc; have HSTK := Lib.hid (show chainB okV ltV [] l k = ltV x y by rw [HST.out, decide_eq_false h0]; simp)
          clear kc hC hm
          cases hlx : ltV x y with
          | false =>
            rw [hlx, Bool.not_false] at hge
            have hno : R = false := by rw [HR.out, chain_no HKL.out (by rw [HSTK.out, hlx])]; rfl
            have HNO := Lib.hid hno; clear hno hlx
            go_wp2_with (first
              | (go_at_call 32; refine (HKM.out _).mono ?_; rintro e w1 ⟨rfl, hb1⟩; have HB1 := Lib.hid (below_step HB.out hb1); replace hp := cell_keep hp hb1; clear hb1)
              | (go_at_call 43; refine (HKC.out _).mono ?_; rintro e w2 ⟨rfl, hb2⟩; have HB2 := Lib.hid (below_step HB1.out hb2); clear hb2))
            go_ret
            exact ⟨by rw [HNO.out]; rfl, HB2.out⟩
          | true =>
            rw [hlx, Bool.not_true] at hge
            have HM2 : Hid (∀ j, j < k + 1 → chainB okV ltV [] l j = true) := Lib.hid fun j hj => by
              rcases Nat.lt_succ_iff_lt_or_eq.1 hj with q | rfl
              · exact HM.out j q
              · rw [HSTK.out, hlx]
            clear hlx
            go_wp2_with (first
              | (go_at_call 32; refine (HKM.out _).mono ?_; rintro e w1 ⟨rfl, hb1⟩; have HB1 := Lib.hid (below_step HB.out hb1); replace hp := cell_keep hp hb1; clear hb1)
              | (go_at_call 43; refine (HKC.out _).mono ?_; rintro e w2 ⟨rfl, hb2⟩; have HB2 := Lib.hid (below_step HB1.out hb2); clear hb2))
            go_roundw
            case rel => exact ⟨k + 1, by omega, by go_num, HM2, HB2⟩
            case measure => simp [intOf]; omega
    · have e : k = n := by omega
      subst e
      have hyes : chainA okV ltV [] l = true := chain_yes fun j hj => HM.out j (by rw [← HN.out]; exact hj)
      have hr3 : R = decide (0 < k) := by rw [HR.out, hyes, Bool.true_and]
      have HR3 := Lib.hid hr3
      clear hyes hr3
      go_wp2
      go_ret
      exact ⟨by rw [HR3.out]; rfl, HB.out⟩
end Go.Proofs.Ytlbibgofhhdgoaa

namespace Go.Proofs.Ytlbibgofhhdgoaa
open Go.RowKit
set_option linter.unusedVariables false
set_option maxRecDepth 100000

theorem bin_geq0 {C : Int} {b : Bool} {w : World} (h : decide (0 ≤ C) = b) : Sem.run Try.prog (binOp .geq 3 (.int .i64 C) (.int .i64 0)) w = .ok (.bool b) w := by
  subst h; go_simp
theorem bin_gtr0 {k : Nat} {b : Bool} {w : World} (h : decide (0 < k) = b) : Sem.run Try.prog (binOp .gtr 3 (.int .i64 (k : Int)) (.int .i64 0)) w = .ok (.bool b) w := by
  subst h; go_simp
theorem bin_sub1 {k m : Nat} {w : World} (h : k = m + 1) (hk : k ≤ 1000000) : Sem.run Try.prog (binOp .sub 3 (.int .i64 (k : Int)) (.int .i64 1)) w = .ok (.int .i64 (m : Int)) w := by
  have e2 : IntKind.i64.wrap (m : Int) = (m : Int) := by rw [IntKind.wrap_i64]; omega
  have e : (k : Int) - 1 = (m : Int) := by omega
  go_simp
theorem okR_len {l : List Rw} {k : Nat} (h : ∀ j, j < k → chainB okRow ltP zR l j = true) (hk : l.length ≤ k) : okR l = true := chain_yes fun j hj => h j (by omega)

set_option maxHeartbeats 3200000 in
theorem tcheck_any (V : Value) (l : List Rw) (w : World) (hV : Rws w V l) (hl : l.length ≤ 100000) (hp : ∀ r ∈ l, r.1.length ≤ 1000000000) (hs : ∀ r ∈ l, ∀ x ∈ r.2, x.length ≤ 1000000000) :
    Calls Try.prog 26 #[V] w fun e w' => e = .returned (.int .i64 (if okR l = true then 0 else 1)) ∧ Below w.heap.size w w' := by
  obtain ⟨Al, cl, rfl, hl1, hl2, -, -⟩ := hV.ex
  unfold maxLen at hl2
  obtain ⟨n, hn⟩ : ∃ n, l.length = n := ⟨_, rfl⟩
  obtain ⟨T, hT⟩ : ∃ T : Int, (if okR l = true then 0 else 1) = T := ⟨_, rfl⟩
  rw [hT]
  rw [hn] at hl hl1 hV ⊢
  have SV := Lib.hid hV; have HN := Lib.hid hn; have HP := Lib.hid hp; have HS := Lib.hid hs; have HT := Lib.hid hT
  clear hV hn hp hs hT
  have e1 : ∀ args w, (callFunc 23 args).run Try.prog w = .ok (.enter 23 args) w := enters_of Try.func23 (by kernel_rfl) rfl
  have e2 : ∀ args w, (callFunc 34 args).run Try.prog w = .ok (.enter 34 args) w := enters_of Try.func34 (by kernel_rfl) rfl
  have e3 : ∀ args w, (callFunc 33 args).run Try.prog w = .ok (.enter 33 args) w := enters_of Try.func33 (by kernel_rfl) rfl
  go_enter Try.func26, Try.ntmps26
  go_wp2
  go_loopw [7] (fun i wr => ∃ k : Nat, k ≤ n ∧ i = .int .i64 k ∧ Hid (∀ j, j < k → chainB okRow ltP zR l j = true) ∧ Hid (Below w.heap.size w wr)) (fun i _ => n - (intOf i).toNat)
  case atStart => exact ⟨0, Nat.zero_le _, rfl, Lib.hid fun j hj => absurd hj (Nat.not_lt_zero j), Lib.hid (Below.refl _ _)⟩
  case round =>
    obtain ⟨k, hk, rfl, HJ, HB⟩ := hrel
    by_cases hlt : k < n
    · have hkl : k < l.length := by rw [HN.out]; exact hlt
      obtain ⟨bl, ol, ay, ny, cy, rfl, hc0, hc1, hsy⟩ := (SV.out.below HB.out).at k hkl
      have hq : wr.cell? ⟨bl, ol + (k - 1) * 2, none⟩ = some (.string (mkB (l.getD (k - 1) zR).1)) := by
        obtain ⟨b', off', _, _, _, e, q, -, -⟩ := (SV.out.below HB.out).at (k - 1) (by omega)
        cases e; exact q
      obtain ⟨y, hy⟩ : ∃ y, y = l.getD k zR := ⟨_, rfl⟩
      obtain ⟨q, hx⟩ : ∃ x, x = (l.getD (k - 1) zR).1 := ⟨_, rfl⟩
      have hst : chainB okRow ltP zR l k = ((pathB y.1 && fitV2 y.2) && (decide (k = 0) || decide (Lib.compareBytes q y.1 < 0))) := by unfold chainB ltP okRow; rw [← hy, ← hx]
      have hys : y.1.length ≤ 1000000000 := by rw [hy]; exact HP.out _ (gd_in hkl)
      have hvs : ∀ x ∈ y.2, x.length ≤ 1000000000 := by rw [hy]; exact HS.out _ (gd_in hkl)
      rw [← hy] at hc0 hsy
      rw [← hx] at hq
      obtain ⟨p, vs⟩ := y
      simp only at hc0 hsy hst hys hvs
      obtain ⟨o, ho⟩ : ∃ o, pathB p = o := ⟨_, rfl⟩
      obtain ⟨f, hf⟩ : ∃ f, fitV2 vs = f := ⟨_, rfl⟩
      have kp := fun w => pmay_b p w hys
      have kf := fun w h => tfit_any ay ny cy vs w h hvs
      have kc := fun w => ocmp_l q p w
      obtain ⟨C, hC⟩ : ∃ C, Lib.compareBytes q p = C := ⟨_, rfl⟩
      rw [ho] at kp hst
      rw [hf] at kf hst
      rw [hC] at kc hst
      have KP := Lib.hid kp; have KF := Lib.hid kf; have KC := Lib.hid kc; have HST := Lib.hid hst; have HKL := Lib.hid hkl
      have HKB := Lib.hid (show k ≤ 1000000 by omega)
      clear hy hx hst hys hvs kp kf kc ho hf hC hkl
      have hkb : (k : Int) < (n : Int) := by omega
      go_upto_region 4 with fail
      obtain ⟨W5, gk, hW5, hgk, r5, hb5⟩ := boxT wr (.string (mkB p)) (.slice ay ny cy) 50
      rw [hW5, hgk]
      obtain ⟨d0, d1, -, -⟩ := row2 r5
      have D0 := Lib.hid d0; have D1 := Lib.hid d1; have SY := Lib.hid (hsy.belowB hb5); have Q := Lib.hid (cell_keep hq hb5); have HB5 := Lib.hid (below_step HB.out hb5); have HNW := Lib.hid (Nat.le_refl W5.heap.size)
      clear hW5 hgk r5 hb5 hc0 hc1 d0 d1 hsy hq
      have hno : chainB okRow ltP zR l k = false → T = 1 := fun h => by rw [← HT.out, show okR l = false from chain_no HKL.out h]; rfl
      have hj2 : chainB okRow ltP zR l k = true → ∀ j, j < k + 1 → chainB okRow ltP zR l j = true := fun h j hj => by
        rcases Nat.lt_succ_iff_lt_or_eq.1 hj with q | rfl
        · exact HJ.out j q
        · exact h
      have HNO0 := Lib.hid hno; have HJ0 := Lib.hid hj2
      clear hno hj2
      cases o with
      | false =>
        have HNO := Lib.hid (HNO0.out (by rw [HST.out]; rfl))
        refine rol_run (by kernel_rfl) [[], [0], [0, 1], [0, 1, 2], [0, 1, 2, 3], [0, 1, 2, 3, 4], [0, 1, 2, 3, 4, 5], [0, 1, 2, 3, 4, 5, 6], [0, 1, 2, 3, 4, 5, 6, 7], [0, 1, 2, 3, 4, 5, 6, 7, 8], [0, 1, 2, 3, 4, 5, 6, 7, 8, 9], [0, 1, 2, 3, 4, 5, 6, 7, 8, 9, 10], [0, 1, 2, 3, 4, 5, 6, 7, 8, 9, 10, 11], [0, 1, 2, 3, 4, 5, 6, 7, 8, 9, 10, 11, 12], [0, 1, 2, 3, 4, 5, 6, 7, 8, 9, 10, 11, 12, 13], [0, 1, 2, 3, 4, 5, 6, 7, 8, 9, 10, 11, 12, 13], [0, 1, 2, 3, 4, 5, 6, 7, 8, 9, 10, 11, 12, 13, 15], [0, 1, 2, 3, 4, 5, 6, 7, 8, 9, 10, 11, 12, 13, 14, 15, 16], [0, 1, 2, 3, 4, 5, 6, 7, 8, 9, 10, 11, 12, 13, 14, 15, 16, 17], [0, 1, 2, 3, 4, 5, 6, 7, 8, 9, 10, 11, 12, 13, 14, 15, 16, 17, 18], [0, 1, 2, 3, 4, 5, 6, 7, 8, 9, 10, 11, 12, 13], [0, 1, 2, 3, 4, 5, 6, 7, 8, 9, 10, 11, 12, 13, 20], [0, 1, 2, 3, 4, 5, 6, 7, 8, 9, 10, 11, 12, 13, 14, 15, 16, 17, 18, 19, 20, 21], [0, 1, 2, 3, 4, 5, 6, 7, 8, 9, 10, 11, 12, 13, 14, 15, 16, 17, 18, 19, 20, 21, 22], [0, 1, 2, 3, 4, 5, 6, 7, 8, 9, 10, 11, 12, 13, 14, 15, 16, 17, 18, 19, 20, 21, 22, 23], [0, 1, 2, 3, 4, 5, 6, 7, 8, 9, 10, 11, 12, 13, 14, 15, 16, 17, 18, 19, 20, 21, 22, 23, 24]] (by kernel_rfl) [12, 13, 14, 15, 16, 17, 18, 19, 20, 21, 22, 23, 24, 25, 26, 27, 28, 29, 30, 31, 32, 33, 34, 35, 36, 37] [[], [0], [1], [2], [3], [4], [4], [4], [4], [4], [9], [10], [10], [10], [13], [13], [13], [13], [13], [13], [13], [13], [13], [13], [10], [10]] [0, 0, 0, 0, 0, 0, 0, 0, 0, 0, 0, 0, 0, 0, 0, 0, 0, 0, 0, 0, 0, 0, 0, 0, 0, 0] [0, 0, 0, 0, 0, 0, 0, 0, 0, 0, 0, 0, 0, 0, 0, 0, 0, 0, 0, 0, 0, 0, 0, 0, 0, 0] [1000, 1000, 1000, 1000, 1000, 1000, 1000, 1000, 1000, 1000, 1000, 1000, 1000, 1000, 1000, 1000, 1000, 1000, 1000, 1000, 1000, 1000, 1000, 1000, 1000, 1000] [.val 12 (.pointer (some ⟨gk, 0, none⟩)), .val 13 (.string (mkB p)), .val 14 (.bool false), .val 15 (.bool true), .val 16 (.bool true), .val 17 undef, .val 18 undef, .val 19 undef, .val 20 undef, .val 21 (.bool true), .val 22 (.bool true), .val 23 undef, .val 24 undef, .val 25 undef, .val 26 undef, .val 27 undef, .val 28 undef, .val 29 undef, .val 30 undef, .val 31 undef, .val 32 undef, .val 33 undef, .val 34 undef, .val 35 undef, .val 36 undef, .val 37 (.bool true)] (by kernel_rfl) ?_ (W5.heap.size) (W5.heap.size) rfl (Below.refl _ _) rfl (fun _ => 0) ?_ ?_ ?_
        · intro j hj
          have hj3 : j < 26 := hj
          have hj2 : j = 0 ∨ j = 1 ∨ j = 2 ∨ j = 3 ∨ j = 4 ∨ j = 5 ∨ j = 6 ∨ j = 7 ∨ j = 8 ∨ j = 9 ∨ j = 10 ∨ j = 11 ∨ j = 12 ∨ j = 13 ∨ j = 14 ∨ j = 15 ∨ j = 16 ∨ j = 17 ∨ j = 18 ∨ j = 19 ∨ j = 20 ∨ j = 21 ∨ j = 22 ∨ j = 23 ∨ j = 24 ∨ j = 25 := by omega
          clear hj hj3
          rcases hj2 with rfl | rfl | rfl | rfl | rfl | rfl | rfl | rfl | rfl | rfl | rfl | rfl | rfl | rfl | rfl | rfl | rfl | rfl | rfl | rfl | rfl | rfl | rfl | rfl | rfl | rfl
          · exact trivial
          · exact trivial
          · exact trivial
          · exact trivial
          · exact trivial
          · exact trivial
          · exact trivial
          · exact trivial
          · exact trivial
          · exact trivial
          · exact trivial
          · exact trivial
          · exact trivial
          · exact trivial
          · exact trivial
          · exact trivial
          · exact trivial
          · exact trivial
          · exact trivial
          · exact trivial
          · exact trivial
          · exact trivial
          · exact trivial
          · exact trivial
          · exact trivial
          · exact trivial
        · intro j hj0 hj
          exact absurd hj (Nat.not_lt.2 hj0)
        · intro i hi a wx who hG hF
          have hz : a.tmps.size = 39 := hG.size
          have hi3 : i < 26 := hi
          have hi2 : i = 0 ∨ i = 1 ∨ i = 2 ∨ i = 3 ∨ i = 4 ∨ i = 5 ∨ i = 6 ∨ i = 7 ∨ i = 8 ∨ i = 9 ∨ i = 10 ∨ i = 11 ∨ i = 12 ∨ i = 13 ∨ i = 14 ∨ i = 15 ∨ i = 16 ∨ i = 17 ∨ i = 18 ∨ i = 19 ∨ i = 20 ∨ i = 21 ∨ i = 22 ∨ i = 23 ∨ i = 24 ∨ i = 25 := by omega
          clear hi hi3
          rcases hi2 with rfl | rfl | rfl | rfl | rfl | rfl | rfl | rfl | rfl | rfl | rfl | rfl | rfl | rfl | rfl | rfl | rfl | rfl | rfl | rfl | rfl | rfl | rfl | rfl | rfl | rfl
          · exact rol_val rfl rfl rfl (by rw [hz]; decide) (ex_field rfl (eval_slot ((hG.slots 4 (by decide)).trans rfl)) (by go_simp)) hG.below
          · exact rol_val rfl rfl rfl (by rw [hz]; decide) (ex_load rfl (eval_slot (hF 0 (by decide))) (ld_strT (cell_keep D0.out hG.below))) hG.below
          · refine rol_call rfl rfl rfl (by rw [hz]; decide) (ex_call rfl (by simp [eval_slot (hF 1 (by decide))]) e1) (KP.out wx) ?_ hG.below (Nat.le_trans HNW.out hG.new)
            rintro e w1 ⟨rfl, hb1⟩
            exact ⟨_, rfl, hb1, .inl rfl⟩
          · exact rol_val rfl rfl rfl (by rw [hz]; decide) (ex_un rfl (eval_slot (hF 2 (by decide))) rfl) hG.below
          · exact rol_val rfl rfl rfl (by rw [hz]; decide) (ex_move (Or.inl rfl) (eval_slot (hF 3 (by decide)))) hG.below
          · exact rol_val_skip rfl (want_no rfl rfl (hF 4 (by decide)) (by decide)) rfl (by rw [hz]; decide) hG.below
          · exact rol_val_skip rfl (want_no rfl rfl (hF 4 (by decide)) (by decide)) rfl (by rw [hz]; decide) hG.below
          · exact rol_val_skip rfl (want_no rfl rfl (hF 4 (by decide)) (by decide)) rfl (by rw [hz]; decide) hG.below
          · exact rol_val_skip rfl (want_no rfl rfl (hF 4 (by decide)) (by decide)) rfl (by rw [hz]; decide) hG.below
          · exact rol_val rfl rfl rfl (by rw [hz]; decide) (ex_pick_yes rfl (eval_slot (hF 4 (by decide))) rfl) hG.below
          · exact rol_val rfl rfl rfl (by rw [hz]; decide) (ex_move (Or.inl rfl) (eval_slot (hF 9 (by decide)))) hG.below
          · exact rol_val_skip rfl (want_no rfl rfl (hF 10 (by decide)) (by decide)) rfl (by rw [hz]; decide) hG.below
          · exact rol_val_skip rfl (want_no rfl rfl (hF 10 (by decide)) (by decide)) rfl (by rw [hz]; decide) hG.below
          · exact rol_val_skip rfl (want_no rfl rfl (hF 10 (by decide)) (by decide)) rfl (by rw [hz]; decide) hG.below
          · exact rol_val_skip rfl (want_undef rfl rfl (hF 13 (by decide))) rfl (by rw [hz]; decide) hG.below
          · exact rol_val_skip rfl (want_undef rfl rfl (hF 13 (by decide))) rfl (by rw [hz]; decide) hG.below
          · exact rol_val_skip rfl (want_undef rfl rfl (hF 13 (by decide))) rfl (by rw [hz]; decide) hG.below
          · exact rol_val_skip rfl (want_undef rfl rfl (hF 13 (by decide))) rfl (by rw [hz]; decide) hG.below
          · exact rol_val_skip rfl (want_undef rfl rfl (hF 13 (by decide))) rfl (by rw [hz]; decide) hG.below
          · exact rol_val_skip rfl (want_undef rfl rfl (hF 13 (by decide))) rfl (by rw [hz]; decide) hG.below
          · exact rol_val_skip rfl (want_undef rfl rfl (hF 13 (by decide))) rfl (by rw [hz]; decide) hG.below
          · exact rol_val_skip rfl (want_undef rfl rfl (hF 13 (by decide))) rfl (by rw [hz]; decide) hG.below
          · exact rol_val_skip rfl (want_undef rfl rfl (hF 13 (by decide))) rfl (by rw [hz]; decide) hG.below
          · exact rol_val_skip rfl (want_undef rfl rfl (hF 13 (by decide))) rfl (by rw [hz]; decide) hG.below
          · exact rol_val_skip rfl (want_no rfl rfl (hF 10 (by decide)) (by decide)) rfl (by rw [hz]; decide) hG.below
          · exact rol_val rfl rfl rfl (by rw [hz]; decide) (ex_pick_yes rfl (eval_slot (hF 10 (by decide))) rfl) hG.below
        · intro a wx who hG hF
          have fv37 : a.tmps.getD 37 undef = .bool true := eval_slot (s := 37) (hF 25 (of_decide_eq_true (by kernel_rfl)) (of_decide_eq_true (by kernel_rfl)))
          have hbx := hG.below
          have hnx := hG.new
          rw [hG.frame]
          simp only [List.foldl_cons, List.foldl_nil, List.setIfInBounds_toArray, List.set_cons_zero, List.set_cons_succ]
          generalize a.tmps.getD 12 undef = u12
          generalize a.tmps.getD 13 undef = u13
          generalize a.tmps.getD 14 undef = u14
          generalize a.tmps.getD 15 undef = u15
          generalize a.tmps.getD 16 undef = u16
          generalize a.tmps.getD 17 undef = u17
          generalize a.tmps.getD 18 undef = u18
          generalize a.tmps.getD 19 undef = u19
          generalize a.tmps.getD 20 undef = u20
          generalize a.tmps.getD 21 undef = u21
          generalize a.tmps.getD 22 undef = u22
          generalize a.tmps.getD 23 undef = u23
          generalize a.tmps.getD 24 undef = u24
          generalize a.tmps.getD 25 undef = u25
          generalize a.tmps.getD 26 undef = u26
          generalize a.tmps.getD 27 undef = u27
          generalize a.tmps.getD 28 undef = u28
          generalize a.tmps.getD 29 undef = u29
          generalize a.tmps.getD 30 undef = u30
          generalize a.tmps.getD 31 undef = u31
          generalize a.tmps.getD 32 undef = u32
          generalize a.tmps.getD 33 undef = u33
          generalize a.tmps.getD 34 undef = u34
          generalize a.tmps.getD 35 undef = u35
          generalize a.tmps.getD 36 undef = u36
          rw [fv37]
          clear hF hG fv37
          have HB6 := Lib.hid (below_step HB5.out hbx)
          clear hbx hnx
          go_wp2
          go_ret
          exact ⟨by rw [HNO.out]; rfl, HB6.out⟩
      | true =>
        cases f with
        | false =>
          have HNO := Lib.hid (HNO0.out (by rw [HST.out]; rfl))
          refine rol_run (by kernel_rfl) [[], [0], [0, 1], [0, 1, 2], [0, 1, 2, 3], [0, 1, 2, 3, 4], [0, 1, 2, 3, 4, 5], [0, 1, 2, 3, 4, 5, 6], [0, 1, 2, 3, 4, 5, 6, 7], [0, 1, 2, 3, 4, 5, 6, 7, 8], [0, 1, 2, 3, 4, 5, 6, 7, 8, 9], [0, 1, 2, 3, 4, 5, 6, 7, 8, 9, 10], [0, 1, 2, 3, 4, 5, 6, 7, 8, 9, 10, 11], [0, 1, 2, 3, 4, 5, 6, 7, 8, 9, 10, 11, 12], [0, 1, 2, 3, 4, 5, 6, 7, 8, 9, 10, 11, 12, 13], [0, 1, 2, 3, 4, 5, 6, 7, 8, 9, 10, 11, 12, 13], [0, 1, 2, 3, 4, 5, 6, 7, 8, 9, 10, 11, 12, 13, 15], [0, 1, 2, 3, 4, 5, 6, 7, 8, 9, 10, 11, 12, 13, 14, 15, 16], [0, 1, 2, 3, 4, 5, 6, 7, 8, 9, 10, 11, 12, 13, 14, 15, 16, 17], [0, 1, 2, 3, 4, 5, 6, 7, 8, 9, 10, 11, 12, 13, 14, 15, 16, 17, 18], [0, 1, 2, 3, 4, 5, 6, 7, 8, 9, 10, 11, 12, 13], [0, 1, 2, 3, 4, 5, 6, 7, 8, 9, 10, 11, 12, 13, 20], [0, 1, 2, 3, 4, 5, 6, 7, 8, 9, 10, 11, 12, 13, 14, 15, 16, 17, 18, 19, 20, 21], [0, 1, 2, 3, 4, 5, 6, 7, 8, 9, 10, 11, 12, 13, 14, 15, 16, 17, 18, 19, 20, 21, 22], [0, 1, 2, 3, 4, 5, 6, 7, 8, 9, 10, 11, 12, 13, 14, 15, 16, 17, 18, 19, 20, 21, 22, 23], [0, 1, 2, 3, 4, 5, 6, 7, 8, 9, 10, 11, 12, 13, 14, 15, 16, 17, 18, 19, 20, 21, 22, 23, 24]] (by kernel_rfl) [12, 13, 14, 15, 16, 17, 18, 19, 20, 21, 22, 23, 24, 25, 26, 27, 28, 29, 30, 31, 32, 33, 34, 35, 36, 37] [[], [0], [1], [2], [3], [4], [4, 5], [4, 6], [4, 7], [4, 8], [9], [10], [10], [10], [13], [13], [13], [13], [13], [13], [13], [13], [13], [13], [10], [10]] [0, 0, 0, 0, 0, 0, 0, 0, 0, 0, 0, 0, 0, 0, 0, 0, 0, 0, 0, 0, 0, 0, 0, 0, 0, 0] [0, 0, 0, 0, 0, 0, 0, 0, 0, 0, 0, 0, 0, 0, 0, 0, 0, 0, 0, 0, 0, 0, 0, 0, 0, 0] [1000, 1000, 1000, 1000, 1000, 1000, 1000, 1000, 1000, 1000, 1000, 1000, 1000, 1000, 1000, 1000, 1000, 1000, 1000, 1000, 1000, 1000, 1000, 1000, 1000, 1000] [.val 12 (.pointer (some ⟨gk, 0, none⟩)), .val 13 (.string (mkB p)), .val 14 (.bool true), .val 15 (.bool false), .val 16 (.bool false), .val 17 (.pointer (some ⟨gk, 1, none⟩)), .val 18 (.slice ay ny cy), .val 19 (.bool false), .val 20 (.bool true), .val 21 (.bool true), .val 22 (.bool true), .val 23 undef, .val 24 undef, .val 25 undef, .val 26 undef, .val 27 undef, .val 28 undef, .val 29 undef, .val 30 undef, .val 31 undef, .val 32 undef, .val 33 undef, .val 34 undef, .val 35 undef, .val 36 undef, .val 37 (.bool true)] (by kernel_rfl) ?_ (W5.heap.size) (W5.heap.size) rfl (Below.refl _ _) rfl (fun _ => 0) ?_ ?_ ?_
          · intro j hj
            have hj3 : j < 26 := hj
            have hj2 : j = 0 ∨ j = 1 ∨ j = 2 ∨ j = 3 ∨ j = 4 ∨ j = 5 ∨ j = 6 ∨ j = 7 ∨ j = 8 ∨ j = 9 ∨ j = 10 ∨ j = 11 ∨ j = 12 ∨ j = 13 ∨ j = 14 ∨ j = 15 ∨ j = 16 ∨ j = 17 ∨ j = 18 ∨ j = 19 ∨ j = 20 ∨ j = 21 ∨ j = 22 ∨ j = 23 ∨ j = 24 ∨ j = 25 := by omega
            clear hj hj3
            rcases hj2 with rfl | rfl | rfl | rfl | rfl | rfl | rfl | rfl | rfl | rfl | rfl | rfl | rfl | rfl | rfl | rfl | rfl | rfl | rfl | rfl | rfl | rfl | rfl | rfl | rfl | rfl
            · exact trivial
            · exact trivial
            · exact trivial
            · exact trivial
            · exact trivial
            · exact trivial
            · exact trivial
            · exact trivial
            · exact trivial
            · exact trivial
            · exact trivial
            · exact trivial
            · exact trivial
            · exact trivial
            · exact trivial
            · exact trivial
            · exact trivial
            · exact trivial
            · exact trivial
            · exact trivial
            · exact trivial
            · exact trivial
            · exact trivial
            · exact trivial
            · exact trivial
            · exact trivial
          · intro j hj0 hj
            exact absurd hj (Nat.not_lt.2 hj0)
          · intro i hi a wx who hG hF
            have hz : a.tmps.size = 39 := hG.size
            have hi3 : i < 26 := hi
            have hi2 : i = 0 ∨ i = 1 ∨ i = 2 ∨ i = 3 ∨ i = 4 ∨ i = 5 ∨ i = 6 ∨ i = 7 ∨ i = 8 ∨ i = 9 ∨ i = 10 ∨ i = 11 ∨ i = 12 ∨ i = 13 ∨ i = 14 ∨ i = 15 ∨ i = 16 ∨ i = 17 ∨ i = 18 ∨ i = 19 ∨ i = 20 ∨ i = 21 ∨ i = 22 ∨ i = 23 ∨ i = 24 ∨ i = 25 := by omega
            clear hi hi3
            rcases hi2 with rfl | rfl | rfl | rfl | rfl | rfl | rfl | rfl | rfl | rfl | rfl | rfl | rfl | rfl | rfl | rfl | rfl | rfl | rfl | rfl | rfl | rfl | rfl | rfl | rfl | rfl
            · exact rol_val rfl rfl rfl (by rw [hz]; decide) (ex_field rfl (eval_slot ((hG.slots 4 (by decide)).trans rfl)) (by go_simp)) hG.below
            · exact rol_val rfl rfl rfl (by rw [hz]; decide) (ex_load rfl (eval_slot (hF 0 (by decide))) (ld_strT (cell_keep D0.out hG.below))) hG.below
            · refine rol_call rfl rfl rfl (by rw [hz]; decide) (ex_call rfl (by simp [eval_slot (hF 1 (by decide))]) e1) (KP.out wx) ?_ hG.below (Nat.le_trans HNW.out hG.new)
              rintro e w1 ⟨rfl, hb1⟩
              exact ⟨_, rfl, hb1, .inl rfl⟩
            · exact rol_val rfl rfl rfl (by rw [hz]; decide) (ex_un rfl (eval_slot (hF 2 (by decide))) rfl) hG.below
            · exact rol_val rfl rfl rfl (by rw [hz]; decide) (ex_move (Or.inl rfl) (eval_slot (hF 3 (by decide)))) hG.below
            · exact rol_val rfl (want_yes rfl rfl (hF 4 (by decide))) rfl (by rw [hz]; decide) (ex_field rfl (eval_slot ((hG.slots 4 (by decide)).trans rfl)) (by go_simp)) hG.below
            · exact rol_val rfl (want_yes rfl rfl (hF 4 (by decide))) rfl (by rw [hz]; decide) (ex_load rfl (eval_slot (hF 5 (by decide))) (ld_stsT (cell_keep D1.out hG.below))) hG.below
            · refine rol_call rfl (want_yes rfl rfl (hF 4 (by decide))) rfl (by rw [hz]; decide) (ex_call rfl (by simp [eval_slot (hF 6 (by decide))]) e2) (KF.out wx (SY.out.belowB hG.below)) ?_ hG.below (Nat.le_trans HNW.out hG.new)
              rintro e w1 ⟨rfl, hb1⟩
              exact ⟨_, rfl, hb1, .inl rfl⟩
            · exact rol_val rfl (want_yes rfl rfl (hF 4 (by decide))) rfl (by rw [hz]; decide) (ex_un rfl (eval_slot (hF 7 (by decide))) rfl) hG.below
            · exact rol_val rfl rfl rfl (by rw [hz]; decide) (ex_pick_no rfl (eval_slot (hF 4 (by decide))) (eval_slot (hF 8 (by decide)))) hG.below
            · exact rol_val rfl rfl rfl (by rw [hz]; decide) (ex_move (Or.inl rfl) (eval_slot (hF 9 (by decide)))) hG.below
            · exact rol_val_skip rfl (want_no rfl rfl (hF 10 (by decide)) (by decide)) rfl (by rw [hz]; decide) hG.below
            · exact rol_val_skip rfl (want_no rfl rfl (hF 10 (by decide)) (by decide)) rfl (by rw [hz]; decide) hG.below
            · exact rol_val_skip rfl (want_no rfl rfl (hF 10 (by decide)) (by decide)) rfl (by rw [hz]; decide) hG.below
            · exact rol_val_skip rfl (want_undef rfl rfl (hF 13 (by decide))) rfl (by rw [hz]; decide) hG.below
            · exact rol_val_skip rfl (want_undef rfl rfl (hF 13 (by decide))) rfl (by rw [hz]; decide) hG.below
            · exact rol_val_skip rfl (want_undef rfl rfl (hF 13 (by decide))) rfl (by rw [hz]; decide) hG.below
            · exact rol_val_skip rfl (want_undef rfl rfl (hF 13 (by decide))) rfl (by rw [hz]; decide) hG.below
            · exact rol_val_skip rfl (want_undef rfl rfl (hF 13 (by decide))) rfl (by rw [hz]; decide) hG.below
            · exact rol_val_skip rfl (want_undef rfl rfl (hF 13 (by decide))) rfl (by rw [hz]; decide) hG.below
            · exact rol_val_skip rfl (want_undef rfl rfl (hF 13 (by decide))) rfl (by rw [hz]; decide) hG.below
            · exact rol_val_skip rfl (want_undef rfl rfl (hF 13 (by decide))) rfl (by rw [hz]; decide) hG.below
            · exact rol_val_skip rfl (want_undef rfl rfl (hF 13 (by decide))) rfl (by rw [hz]; decide) hG.below
            · exact rol_val_skip rfl (want_undef rfl rfl (hF 13 (by decide))) rfl (by rw [hz]; decide) hG.below
            · exact rol_val_skip rfl (want_no rfl rfl (hF 10 (by decide)) (by decide)) rfl (by rw [hz]; decide) hG.below
            · exact rol_val rfl rfl rfl (by rw [hz]; decide) (ex_pick_yes rfl (eval_slot (hF 10 (by decide))) rfl) hG.below
          · intro a wx who hG hF
            have fv37 : a.tmps.getD 37 undef = .bool true := eval_slot (s := 37) (hF 25 (of_decide_eq_true (by kernel_rfl)) (of_decide_eq_true (by kernel_rfl)))
            have hbx := hG.below
            have hnx := hG.new
            rw [hG.frame]
            simp only [List.foldl_cons, List.foldl_nil, List.setIfInBounds_toArray, List.set_cons_zero, List.set_cons_succ]
            generalize a.tmps.getD 12 undef = u12
            generalize a.tmps.getD 13 undef = u13
            generalize a.tmps.getD 14 undef = u14
            generalize a.tmps.getD 15 undef = u15
            generalize a.tmps.getD 16 undef = u16
            generalize a.tmps.getD 17 undef = u17
            generalize a.tmps.getD 18 undef = u18
            generalize a.tmps.getD 19 undef = u19
            generalize a.tmps.getD 20 undef = u20
            generalize a.tmps.getD 21 undef = u21
            generalize a.tmps.getD 22 undef = u22
            generalize a.tmps.getD 23 undef = u23
            generalize a.tmps.getD 24 undef = u24
            generalize a.tmps.getD 25 undef = u25
            generalize a.tmps.getD 26 undef = u26
            generalize a.tmps.getD 27 undef = u27
            generalize a.tmps.getD 28 undef = u28
            generalize a.tmps.getD 29 undef = u29
            generalize a.tmps.getD 30 undef = u30
            generalize a.tmps.getD 31 undef = u31
            generalize a.tmps.getD 32 undef = u32
            generalize a.tmps.getD 33 undef = u33
            generalize a.tmps.getD 34 undef = u34
            generalize a.tmps.getD 35 undef = u35
            generalize a.tmps.getD 36 undef = u36
            rw [fv37]
            clear hF hG fv37
            have HB6 := Lib.hid (below_step HB5.out hbx)
            clear hbx hnx
            go_wp2
            go_ret
            exact ⟨by rw [HNO.out]; rfl, HB6.out⟩
        | true =>
          by_cases h0 : k = 0
          · have HZ := Lib.hid (show decide (0 < k) = false by simp [h0])
            have HJ2 := Lib.hid (show Hid (∀ j, j < k + 1 → chainB okRow ltP zR l j = true) from Lib.hid (HJ0.out (by rw [HST.out, decide_eq_true h0]; rfl)))
            clear h0
            refine rol_run (by kernel_rfl) [[], [0], [0, 1], [0, 1, 2], [0, 1, 2, 3], [0, 1, 2, 3, 4], [0, 1, 2, 3, 4, 5], [0, 1, 2, 3, 4, 5, 6], [0, 1, 2, 3, 4, 5, 6, 7], [0, 1, 2, 3, 4, 5, 6, 7, 8], [0, 1, 2, 3, 4, 5, 6, 7, 8, 9], [0, 1, 2, 3, 4, 5, 6, 7, 8, 9, 10], [0, 1, 2, 3, 4, 5, 6, 7, 8, 9, 10, 11], [0, 1, 2, 3, 4, 5, 6, 7, 8, 9, 10, 11, 12], [0, 1, 2, 3, 4, 5, 6, 7, 8, 9, 10, 11, 12, 13], [0, 1, 2, 3, 4, 5, 6, 7, 8, 9, 10, 11, 12, 13], [0, 1, 2, 3, 4, 5, 6, 7, 8, 9, 10, 11, 12, 13, 15], [0, 1, 2, 3, 4, 5, 6, 7, 8, 9, 10, 11, 12, 13, 14, 15, 16], [0, 1, 2, 3, 4, 5, 6, 7, 8, 9, 10, 11, 12, 13, 14, 15, 16, 17], [0, 1, 2, 3, 4, 5, 6, 7, 8, 9, 10, 11, 12, 13, 14, 15, 16, 17, 18], [0, 1, 2, 3, 4, 5, 6, 7, 8, 9, 10, 11, 12, 13], [0, 1, 2, 3, 4, 5, 6, 7, 8, 9, 10, 11, 12, 13, 20], [0, 1, 2, 3, 4, 5, 6, 7, 8, 9, 10, 11, 12, 13, 14, 15, 16, 17, 18, 19, 20, 21], [0, 1, 2, 3, 4, 5, 6, 7, 8, 9, 10, 11, 12, 13, 14, 15, 16, 17, 18, 19, 20, 21, 22], [0, 1, 2, 3, 4, 5, 6, 7, 8, 9, 10, 11, 12, 13, 14, 15, 16, 17, 18, 19, 20, 21, 22, 23], [0, 1, 2, 3, 4, 5, 6, 7, 8, 9, 10, 11, 12, 13, 14, 15, 16, 17, 18, 19, 20, 21, 22, 23, 24]] (by kernel_rfl) [12, 13, 14, 15, 16, 17, 18, 19, 20, 21, 22, 23, 24, 25, 26, 27, 28, 29, 30, 31, 32, 33, 34, 35, 36, 37] [[], [0], [1], [2], [3], [4], [4, 5], [4, 6], [4, 7], [4, 8], [9], [10], [10, 11], [10, 12], [13], [13], [13], [13], [13], [13], [13], [13], [13], [13], [10, 13], [10, 24]] [0, 0, 0, 0, 0, 0, 0, 0, 0, 0, 0, 0, 0, 0, 0, 0, 0, 0, 0, 0, 0, 0, 0, 0, 0, 0] [0, 0, 0, 0, 0, 0, 0, 0, 0, 0, 0, 0, 0, 0, 0, 0, 0, 0, 0, 0, 0, 0, 0, 0, 0, 0] [1000, 1000, 1000, 1000, 1000, 1000, 1000, 1000, 1000, 1000, 1000, 1000, 1000, 1000, 1000, 1000, 1000, 1000, 1000, 1000, 1000, 1000, 1000, 1000, 1000, 1000] [.val 12 (.pointer (some ⟨gk, 0, none⟩)), .val 13 (.string (mkB p)), .val 14 (.bool true), .val 15 (.bool false), .val 16 (.bool false), .val 17 (.pointer (some ⟨gk, 1, none⟩)), .val 18 (.slice ay ny cy), .val 19 (.bool true), .val 20 (.bool false), .val 21 (.bool false), .val 22 (.bool false), .val 23 (.int .i64 (k : Int)), .val 24 (.bool false), .val 25 (.bool false), .val 26 undef, .val 27 undef, .val 28 undef, .val 29 undef, .val 30 undef, .val 31 undef, .val 32 undef, .val 33 undef, .val 34 undef, .val 35 undef, .val 36 (.bool false), .val 37 (.bool false)] (by kernel_rfl) ?_ (W5.heap.size) (W5.heap.size) rfl (Below.refl _ _) rfl (fun _ => 0) ?_ ?_ ?_
            · intro j hj
              have hj3 : j < 26 := hj
              have hj2 : j = 0 ∨ j = 1 ∨ j = 2 ∨ j = 3 ∨ j = 4 ∨ j = 5 ∨ j = 6 ∨ j = 7 ∨ j = 8 ∨ j = 9 ∨ j = 10 ∨ j = 11 ∨ j = 12 ∨ j = 13 ∨ j = 14 ∨ j = 15 ∨ j = 16 ∨ j = 17 ∨ j = 18 ∨ j = 19 ∨ j = 20 ∨ j = 21 ∨ j = 22 ∨ j = 23 ∨ j = 24 ∨ j = 25 := by omega
              clear hj hj3
              rcases hj2 with rfl | rfl | rfl | rfl | rfl | rfl | rfl | rfl | rfl | rfl | rfl | rfl | rfl | rfl | rfl | rfl | rfl | rfl | rfl | rfl | rfl | rfl | rfl | rfl | rfl | rfl
              · exact trivial
              · exact trivial
              · exact trivial
              · exact trivial
              · exact trivial
              · exact trivial
              · exact trivial
              · exact trivial
              · exact trivial
              · exact trivial
              · exact trivial
              · exact trivial
              · exact trivial
              · exact trivial
              · exact trivial
              · exact trivial
              · exact trivial
              · exact trivial
              · exact trivial
              · exact trivial
              · exact trivial
              · exact trivial
              · exact trivial
              · exact trivial
              · exact trivial
              · exact trivial
            · intro j hj0 hj
              exact absurd hj (Nat.not_lt.2 hj0)
            · intro i hi a wx who hG hF
              have hz : a.tmps.size = 39 := hG.size
              have hi3 : i < 26 := hi
              have hi2 : i = 0 ∨ i = 1 ∨ i = 2 ∨ i = 3 ∨ i = 4 ∨ i = 5 ∨ i = 6 ∨ i = 7 ∨ i = 8 ∨ i = 9 ∨ i = 10 ∨ i = 11 ∨ i = 12 ∨ i = 13 ∨ i = 14 ∨ i = 15 ∨ i = 16 ∨ i = 17 ∨ i = 18 ∨ i = 19 ∨ i = 20 ∨ i = 21 ∨ i = 22 ∨ i = 23 ∨ i = 24 ∨ i = 25 := by omega
              clear hi hi3
              rcases hi2 with rfl | rfl | rfl | rfl | rfl | rfl | rfl | rfl | rfl | rfl | rfl | rfl | rfl | rfl | rfl | rfl | rfl | rfl | rfl | rfl | rfl | rfl | rfl | rfl | rfl | rfl
              · exact rol_val rfl rfl rfl (by rw [hz]; decide) (ex_field rfl (eval_slot ((hG.slots 4 (by decide)).trans rfl)) (by go_simp)) hG.below
              · exact rol_val rfl rfl rfl (by rw [hz]; decide) (ex_load rfl (eval_slot (hF 0 (by decide))) (ld_strT (cell_keep D0.out hG.below))) hG.below
              · refine rol_call rfl rfl rfl (by rw [hz]; decide) (ex_call rfl (by simp [eval_slot (hF 1 (by decide))]) e1) (KP.out wx) ?_ hG.below (Nat.le_trans HNW.out hG.new)
                rintro e w1 ⟨rfl, hb1⟩
                exact ⟨_, rfl, hb1, .inl rfl⟩
              · exact rol_val rfl rfl rfl (by rw [hz]; decide) (ex_un rfl (eval_slot (hF 2 (by decide))) rfl) hG.below
              · exact rol_val rfl rfl rfl (by rw [hz]; decide) (ex_move (Or.inl rfl) (eval_slot (hF 3 (by decide)))) hG.below
              · exact rol_val rfl (want_yes rfl rfl (hF 4 (by decide))) rfl (by rw [hz]; decide) (ex_field rfl (eval_slot ((hG.slots 4 (by decide)).trans rfl)) (by go_simp)) hG.below
              · exact rol_val rfl (want_yes rfl rfl (hF 4 (by decide))) rfl (by rw [hz]; decide) (ex_load rfl (eval_slot (hF 5 (by decide))) (ld_stsT (cell_keep D1.out hG.below))) hG.below
              · refine rol_call rfl (want_yes rfl rfl (hF 4 (by decide))) rfl (by rw [hz]; decide) (ex_call rfl (by simp [eval_slot (hF 6 (by decide))]) e2) (KF.out wx (SY.out.belowB hG.below)) ?_ hG.below (Nat.le_trans HNW.out hG.new)
                rintro e w1 ⟨rfl, hb1⟩
                exact ⟨_, rfl, hb1, .inl rfl⟩
              · exact rol_val rfl (want_yes rfl rfl (hF 4 (by decide))) rfl (by rw [hz]; decide) (ex_un rfl (eval_slot (hF 7 (by decide))) rfl) hG.below
              · exact rol_val rfl rfl rfl (by rw [hz]; decide) (ex_pick_no rfl (eval_slot (hF 4 (by decide))) (eval_slot (hF 8 (by decide)))) hG.below
              · exact rol_val rfl rfl rfl (by rw [hz]; decide) (ex_move (Or.inl rfl) (eval_slot (hF 9 (by decide)))) hG.below
              · exact rol_val rfl (want_yes rfl rfl (hF 10 (by decide))) rfl (by rw [hz]; decide) (ex_move (Or.inl rfl) (eval_slot ((hG.slots 3 (by decide)).trans rfl))) hG.below
              · exact rol_val rfl (want_yes rfl rfl (hF 10 (by decide))) rfl (by rw [hz]; decide) (ex_bin rfl (eval_slot (hF 11 (by decide))) rfl (by go_simp) (bin_gtr0 HZ.out)) hG.below
              · exact rol_val rfl (want_yes rfl rfl (hF 10 (by decide))) rfl (by rw [hz]; decide) (ex_move (Or.inl rfl) (eval_slot (hF 12 (by decide)))) hG.below
              · exact rol_val_skip rfl (want_no rfl rfl (hF 13 (by decide)) (by decide)) rfl (by rw [hz]; decide) hG.below
              · exact rol_val_skip rfl (want_no rfl rfl (hF 13 (by decide)) (by decide)) rfl (by rw [hz]; decide) hG.below
              · exact rol_val_skip rfl (want_no rfl rfl (hF 13 (by decide)) (by decide)) rfl (by rw [hz]; decide) hG.below
              · exact rol_val_skip rfl (want_no rfl rfl (hF 13 (by decide)) (by decide)) rfl (by rw [hz]; decide) hG.below
              · exact rol_val_skip rfl (want_no rfl rfl (hF 13 (by decide)) (by decide)) rfl (by rw [hz]; decide) hG.below
              · exact rol_val_skip rfl (want_no rfl rfl (hF 13 (by decide)) (by decide)) rfl (by rw [hz]; decide) hG.below
              · exact rol_val_skip rfl (want_no rfl rfl (hF 13 (by decide)) (by decide)) rfl (by rw [hz]; decide) hG.below
              · exact rol_val_skip rfl (want_no rfl rfl (hF 13 (by decide)) (by decide)) rfl (by rw [hz]; decide) hG.below
              · exact rol_val_skip rfl (want_no rfl rfl (hF 13 (by decide)) (by decide)) rfl (by rw [hz]; decide) hG.below
              · exact rol_val_skip rfl (want_no rfl rfl (hF 13 (by decide)) (by decide)) rfl (by rw [hz]; decide) hG.below
              · exact rol_val rfl (want_yes rfl rfl (hF 10 (by decide))) rfl (by rw [hz]; decide) (ex_pick_no rfl (eval_slot (hF 13 (by decide))) rfl) hG.below
              · exact rol_val rfl rfl rfl (by rw [hz]; decide) (ex_pick_no rfl (eval_slot (hF 10 (by decide))) (eval_slot (hF 24 (by decide)))) hG.below
            · intro a wx who hG hF
              have fv37 : a.tmps.getD 37 undef = .bool false := eval_slot (s := 37) (hF 25 (of_decide_eq_true (by kernel_rfl)) (of_decide_eq_true (by kernel_rfl)))
              have hbx := hG.below
              have hnx := hG.new
              rw [hG.frame]
              simp only [List.foldl_cons, List.foldl_nil, List.setIfInBounds_toArray, List.set_cons_zero, List.set_cons_succ]
              generalize a.tmps.getD 12 undef = u12
              generalize a.tmps.getD 13 undef = u13
              generalize a.tmps.getD 14 undef = u14
              generalize a.tmps.getD 15 undef = u15
              generalize a.tmps.getD 16 undef = u16
              generalize a.tmps.getD 17 undef = u17
              generalize a.tmps.getD 18 undef = u18
              generalize a.tmps.getD 19 undef = u19
              generalize a.tmps.getD 20 undef = u20
              generalize a.tmps.getD 21 undef = u21
              generalize a.tmps.getD 22 undef = u22
              generalize a.tmps.getD 23 undef = u23
              generalize a.tmps.getD 24 undef = u24
              generalize a.tmps.getD 25 undef = u25
              generalize a.tmps.getD 26 undef = u26
              generalize a.tmps.getD 27 undef = u27
              generalize a.tmps.getD 28 undef = u28
              generalize a.tmps.getD 29 undef = u29
              generalize a.tmps.getD 30 undef = u30
              generalize a.tmps.getD 31 undef = u31
              generalize a.tmps.getD 32 undef = u32
              generalize a.tmps.getD 33 undef = u33
              generalize a.tmps.getD 34 undef = u34
              generalize a.tmps.getD 35 undef = u35
              generalize a.tmps.getD 36 undef = u36
              rw [fv37]
              clear hF hG fv37
              have HB6 := Lib.hid (below_step HB5.out hbx)
              clear hbx hnx
              go_wp2
              go_roundw
              case rel => exact ⟨k + 1, by omega, by go_num, HJ2.out, HB6⟩
              case measure => simp [intOf]; omega
          · have HZ := Lib.hid (show decide (0 < k) = true by simp; omega)
            obtain ⟨m, hm⟩ : ∃ m, k - 1 = m := ⟨_, rfl⟩
            rw [hm] at Q
            have Q0 := Q
            have HM := Lib.hid (show k = m + 1 by omega); have HMN := Lib.hid (show m < n by omega)
            have hs2 : chainB okRow ltP zR l k = decide (C < 0) := by rw [HST.out, decide_eq_false h0]; simp
            clear hm h0
            by_cases hlt0 : C < 0
            · have HGE := Lib.hid (show decide (0 ≤ C) = false by simp; omega)
              have HJ2 := Lib.hid (show Hid (∀ j, j < k + 1 → chainB okRow ltP zR l j = true) from Lib.hid (HJ0.out (by rw [hs2, decide_eq_true hlt0])))
              clear hs2 hlt0
              refine rol_run (by kernel_rfl) [[], [0], [0, 1], [0, 1, 2], [0, 1, 2, 3], [0, 1, 2, 3, 4], [0, 1, 2, 3, 4, 5], [0, 1, 2, 3, 4, 5, 6], [0, 1, 2, 3, 4, 5, 6, 7], [0, 1, 2, 3, 4, 5, 6, 7, 8], [0, 1, 2, 3, 4, 5, 6, 7, 8, 9], [0, 1, 2, 3, 4, 5, 6, 7, 8, 9, 10], [0, 1, 2, 3, 4, 5, 6, 7, 8, 9, 10, 11], [0, 1, 2, 3, 4, 5, 6, 7, 8, 9, 10, 11, 12], [0, 1, 2, 3, 4, 5, 6, 7, 8, 9, 10, 11, 12, 13], [0, 1, 2, 3, 4, 5, 6, 7, 8, 9, 10, 11, 12, 13], [0, 1, 2, 3, 4, 5, 6, 7, 8, 9, 10, 11, 12, 13, 15], [0, 1, 2, 3, 4, 5, 6, 7, 8, 9, 10, 11, 12, 13, 14, 15, 16], [0, 1, 2, 3, 4, 5, 6, 7, 8, 9, 10, 11, 12, 13, 14, 15, 16, 17], [0, 1, 2, 3, 4, 5, 6, 7, 8, 9, 10, 11, 12, 13, 14, 15, 16, 17, 18], [0, 1, 2, 3, 4, 5, 6, 7, 8, 9, 10, 11, 12, 13], [0, 1, 2, 3, 4, 5, 6, 7, 8, 9, 10, 11, 12, 13, 20], [0, 1, 2, 3, 4, 5, 6, 7, 8, 9, 10, 11, 12, 13, 14, 15, 16, 17, 18, 19, 20, 21], [0, 1, 2, 3, 4, 5, 6, 7, 8, 9, 10, 11, 12, 13, 14, 15, 16, 17, 18, 19, 20, 21, 22], [0, 1, 2, 3, 4, 5, 6, 7, 8, 9, 10, 11, 12, 13, 14, 15, 16, 17, 18, 19, 20, 21, 22, 23], [0, 1, 2, 3, 4, 5, 6, 7, 8, 9, 10, 11, 12, 13, 14, 15, 16, 17, 18, 19, 20, 21, 22, 23, 24]] (by kernel_rfl) [12, 13, 14, 15, 16, 17, 18, 19, 20, 21, 22, 23, 24, 25, 26, 27, 28, 29, 30, 31, 32, 33, 34, 35, 36, 37] [[], [0], [1], [2], [3], [4], [4, 5], [4, 6], [4, 7], [4, 8], [9], [10], [10, 11], [10, 12], [13], [13], [13, 15], [13, 14, 16], [13, 17], [13, 18], [13], [13, 20], [13, 19, 21], [13, 22], [10, 13, 23], [10, 24]] [0, 0, 0, 0, 0, 0, 0, 0, 0, 0, 0, 0, 0, 0, 0, 0, 0, 0, 0, 0, 0, 0, 0, 0, 0, 0] [0, 0, 0, 0, 0, 0, 0, 0, 0, 0, 0, 0, 0, 0, 0, 0, 0, 0, 0, 0, 0, 0, 0, 0, 0, 0] [1000, 1000, 1000, 1000, 1000, 1000, 1000, 1000, 1000, 1000, 1000, 1000, 1000, 1000, 1000, 1000, 1000, 1000, 1000, 1000, 1000, 1000, 1000, 1000, 1000, 1000] [.val 12 (.pointer (some ⟨gk, 0, none⟩)), .val 13 (.string (mkB p)), .val 14 (.bool true), .val 15 (.bool false), .val 16 (.bool false), .val 17 (.pointer (some ⟨gk, 1, none⟩)), .val 18 (.slice ay ny cy), .val 19 (.bool true), .val 20 (.bool false), .val 21 (.bool false), .val 22 (.bool false), .val 23 (.int .i64 (k : Int)), .val 24 (.bool true), .val 25 (.bool true), .val 26 (.slice (some ⟨bl, ol, none⟩) n cl), .val 27 (.int .i64 (k : Int)), .val 28 (.int .i64 (m : Int)), .val 29 (.pointer (some ⟨bl, ol + m * 2, none⟩)), .val 30 (.pointer (some ⟨bl, ol + m * 2, none⟩)), .val 31 (.string (mkB q)), .val 32 (.pointer (some ⟨gk, 0, none⟩)), .val 33 (.string (mkB p)), .val 34 (.int .i64 C), .val 35 (.bool false), .val 36 (.bool false), .val 37 (.bool false)] (by kernel_rfl) ?_ (W5.heap.size) (W5.heap.size) rfl (Below.refl _ _) rfl (fun _ => 0) ?_ ?_ ?_
              · intro j hj
                have hj3 : j < 26 := hj
                have hj2 : j = 0 ∨ j = 1 ∨ j = 2 ∨ j = 3 ∨ j = 4 ∨ j = 5 ∨ j = 6 ∨ j = 7 ∨ j = 8 ∨ j = 9 ∨ j = 10 ∨ j = 11 ∨ j = 12 ∨ j = 13 ∨ j = 14 ∨ j = 15 ∨ j = 16 ∨ j = 17 ∨ j = 18 ∨ j = 19 ∨ j = 20 ∨ j = 21 ∨ j = 22 ∨ j = 23 ∨ j = 24 ∨ j = 25 := by omega
                clear hj hj3
                rcases hj2 with rfl | rfl | rfl | rfl | rfl | rfl | rfl | rfl | rfl | rfl | rfl | rfl | rfl | rfl | rfl | rfl | rfl | rfl | rfl | rfl | rfl | rfl | rfl | rfl | rfl | rfl
                · exact trivial
                · exact trivial
                · exact trivial
                · exact trivial
                · exact trivial
                · exact trivial
                · exact trivial
                · exact trivial
                · exact trivial
                · exact trivial
                · exact trivial
                · exact trivial
                · exact trivial
                · exact trivial
                · exact trivial
                · exact trivial
                · exact trivial
                · exact trivial
                · exact trivial
                · exact trivial
                · exact trivial
                · exact trivial
                · exact trivial
                · exact trivial
                · exact trivial
                · exact trivial
              · intro j hj0 hj
                exact absurd hj (Nat.not_lt.2 hj0)
              · intro i hi a wx who hG hF
                have hz : a.tmps.size = 39 := hG.size
                have hi3 : i < 26 := hi
                have hi2 : i = 0 ∨ i = 1 ∨ i = 2 ∨ i = 3 ∨ i = 4 ∨ i = 5 ∨ i = 6 ∨ i = 7 ∨ i = 8 ∨ i = 9 ∨ i = 10 ∨ i = 11 ∨ i = 12 ∨ i = 13 ∨ i = 14 ∨ i = 15 ∨ i = 16 ∨ i = 17 ∨ i = 18 ∨ i = 19 ∨ i = 20 ∨ i = 21 ∨ i = 22 ∨ i = 23 ∨ i = 24 ∨ i = 25 := by omega
                clear hi hi3
                rcases hi2 with rfl | rfl | rfl | rfl | rfl | rfl | rfl | rfl | rfl | rfl | rfl | rfl | rfl | rfl | rfl | rfl | rfl | rfl | rfl | rfl | rfl | rfl | rfl | rfl | rfl | rfl
                · exact rol_val rfl rfl rfl (by rw [hz]; decide) (ex_field rfl (eval_slot ((hG.slots 4 (by decide)).trans rfl)) (by go_simp)) hG.below
                · exact rol_val rfl rfl rfl (by rw [hz]; decide) (ex_load rfl (eval_slot (hF 0 (by decide))) (ld_strT (cell_keep D0.out hG.below))) hG.below
                · refine rol_call rfl rfl rfl (by rw [hz]; decide) (ex_call rfl (by simp [eval_slot (hF 1 (by decide))]) e1) (KP.out wx) ?_ hG.below (Nat.le_trans HNW.out hG.new)
                  rintro e w1 ⟨rfl, hb1⟩
                  exact ⟨_, rfl, hb1, .inl rfl⟩
                · exact rol_val rfl rfl rfl (by rw [hz]; decide) (ex_un rfl (eval_slot (hF 2 (by decide))) rfl) hG.below
                · exact rol_val rfl rfl rfl (by rw [hz]; decide) (ex_move (Or.inl rfl) (eval_slot (hF 3 (by decide)))) hG.below
                · exact rol_val rfl (want_yes rfl rfl (hF 4 (by decide))) rfl (by rw [hz]; decide) (ex_field rfl (eval_slot ((hG.slots 4 (by decide)).trans rfl)) (by go_simp)) hG.below
                · exact rol_val rfl (want_yes rfl rfl (hF 4 (by decide))) rfl (by rw [hz]; decide) (ex_load rfl (eval_slot (hF 5 (by decide))) (ld_stsT (cell_keep D1.out hG.below))) hG.below
                · refine rol_call rfl (want_yes rfl rfl (hF 4 (by decide))) rfl (by rw [hz]; decide) (ex_call rfl (by simp [eval_slot (hF 6 (by decide))]) e2) (KF.out wx (SY.out.belowB hG.below)) ?_ hG.below (Nat.le_trans HNW.out hG.new)
                  rintro e w1 ⟨rfl, hb1⟩
                  exact ⟨_, rfl, hb1, .inl rfl⟩
                · exact rol_val rfl (want_yes rfl rfl (hF 4 (by decide))) rfl (by rw [hz]; decide) (ex_un rfl (eval_slot (hF 7 (by decide))) rfl) hG.below
                · exact rol_val rfl rfl rfl (by rw [hz]; decide) (ex_pick_no rfl (eval_slot (hF 4 (by decide))) (eval_slot (hF 8 (by decide)))) hG.below
                · exact rol_val rfl rfl rfl (by rw [hz]; decide) (ex_move (Or.inl rfl) (eval_slot (hF 9 (by decide)))) hG.below
                · exact rol_val rfl (want_yes rfl rfl (hF 10 (by decide))) rfl (by rw [hz]; decide) (ex_move (Or.inl rfl) (eval_slot ((hG.slots 3 (by decide)).trans rfl))) hG.below
                · exact rol_val rfl (want_yes rfl rfl (hF 10 (by decide))) rfl (by rw [hz]; decide) (ex_bin rfl (eval_slot (hF 11 (by decide))) rfl (by go_simp) (bin_gtr0 HZ.out)) hG.below
                · exact rol_val rfl (want_yes rfl rfl (hF 10 (by decide))) rfl (by rw [hz]; decide) (ex_move (Or.inl rfl) (eval_slot (hF 12 (by decide)))) hG.below
                · exact rol_val rfl (want_yes rfl rfl (hF 13 (by decide))) rfl (by rw [hz]; decide) (ex_move (Or.inl rfl) (eval_slot ((hG.slots 0 (by decide)).trans rfl))) hG.below
                · exact rol_val rfl (want_yes rfl rfl (hF 13 (by decide))) rfl (by rw [hz]; decide) (ex_move (Or.inl rfl) (eval_slot ((hG.slots 3 (by decide)).trans rfl))) hG.below
                · exact rol_val rfl (want_yes rfl rfl (hF 13 (by decide))) rfl (by rw [hz]; decide) (ex_bin rfl (eval_slot (hF 15 (by decide))) rfl (by go_simp) (bin_sub1 HM.out HKB.out)) hG.below
                · exact rol_val rfl (want_yes rfl rfl (hF 13 (by decide))) rfl (by rw [hz]; decide) (ex_index rfl (eval_slot (hF 14 (by decide))) (eval_slot (hF 16 (by decide))) (idx_rws HMN.out)) hG.below
                · exact rol_val rfl (want_yes rfl rfl (hF 13 (by decide))) rfl (by rw [hz]; decide) (ex_field rfl (eval_slot (hF 17 (by decide))) (by go_simp)) hG.below
                · exact rol_val rfl (want_yes rfl rfl (hF 13 (by decide))) rfl (by rw [hz]; decide) (ex_load rfl (eval_slot (hF 18 (by decide))) (ld_strT (cell_keep Q0.out hG.below))) hG.below
                · exact rol_val rfl (want_yes rfl rfl (hF 13 (by decide))) rfl (by rw [hz]; decide) (ex_field rfl (eval_slot ((hG.slots 4 (by decide)).trans rfl)) (by go_simp)) hG.below
                · exact rol_val rfl (want_yes rfl rfl (hF 13 (by decide))) rfl (by rw [hz]; decide) (ex_load rfl (eval_slot (hF 20 (by decide))) (ld_strT (cell_keep D0.out hG.below))) hG.below
                · refine rol_call rfl (want_yes rfl rfl (hF 13 (by decide))) rfl (by rw [hz]; decide) (ex_call rfl (by simp [eval_slot (hF 19 (by decide)), eval_slot (hF 21 (by decide))]) e3) (KC.out wx) ?_ hG.below (Nat.le_trans HNW.out hG.new)
                  rintro e w1 ⟨rfl, rfl⟩
                  exact ⟨_, rfl, Below.refl _ _, .inl rfl⟩
                · exact rol_val rfl (want_yes rfl rfl (hF 13 (by decide))) rfl (by rw [hz]; decide) (ex_bin rfl (eval_slot (hF 22 (by decide))) rfl (by go_simp) (bin_geq0 HGE.out)) hG.below
                · exact rol_val rfl (want_yes rfl rfl (hF 10 (by decide))) rfl (by rw [hz]; decide) (ex_pick_yes rfl (eval_slot (hF 13 (by decide))) (eval_slot (hF 23 (by decide)))) hG.below
                · exact rol_val rfl rfl rfl (by rw [hz]; decide) (ex_pick_no rfl (eval_slot (hF 10 (by decide))) (eval_slot (hF 24 (by decide)))) hG.below
              · intro a wx who hG hF
                have fv37 : a.tmps.getD 37 undef = .bool false := eval_slot (s := 37) (hF 25 (of_decide_eq_true (by kernel_rfl)) (of_decide_eq_true (by kernel_rfl)))
                have hbx := hG.below
                have hnx := hG.new
                rw [hG.frame]
                simp only [List.foldl_cons, List.foldl_nil, List.setIfInBounds_toArray, List.set_cons_zero, List.set_cons_succ]
                generalize a.tmps.getD 12 undef = u12
                generalize a.tmps.getD 13 undef = u13
                generalize a.tmps.getD 14 undef = u14
                generalize a.tmps.getD 15 undef = u15
                generalize a.tmps.getD 16 undef = u16
                generalize a.tmps.getD 17 undef = u17
                generalize a.tmps.getD 18 undef = u18
                generalize a.tmps.getD 19 undef = u19
                generalize a.tmps.getD 20 undef = u20
                generalize a.tmps.getD 21 undef = u21
                generalize a.tmps.getD 22 undef = u22
                generalize a.tmps.getD 23 undef = u23
                generalize a.tmps.getD 24 undef = u24
                generalize a.tmps.getD 25 undef = u25
                generalize a.tmps.getD 26 undef = u26
                generalize a.tmps.getD 27 undef = u27
                generalize a.tmps.getD 28 undef = u28
                generalize a.tmps.getD 29 undef = u29
                generalize a.tmps.getD 30 undef = u30
                generalize a.tmps.getD 31 undef = u31
                generalize a.tmps.getD 32 undef = u32
                generalize a.tmps.getD 33 undef = u33
                generalize a.tmps.getD 34 undef = u34
                generalize a.tmps.getD 35 undef = u35
                generalize a.tmps.getD 36 undef = u36
                rw [fv37]
                clear hF hG fv37
                have HB6 := Lib.hid (below_step HB5.out hbx)
                clear hbx hnx
                go_wp2
                go_roundw
                case rel => exact ⟨k + 1, by omega, by go_num, HJ2.out, HB6⟩
                case measure => simp [intOf]; omega
            · have HGE := Lib.hid (show decide (0 ≤ C) = true by simp; omega)
              have HNO := Lib.hid (HNO0.out (by rw [hs2, decide_eq_false hlt0]))
              clear hs2 hlt0
              refine rol_run (by kernel_rfl) [[], [0], [0, 1], [0, 1, 2], [0, 1, 2, 3], [0, 1, 2, 3, 4], [0, 1, 2, 3, 4, 5], [0, 1, 2, 3, 4, 5, 6], [0, 1, 2, 3, 4, 5, 6, 7], [0, 1, 2, 3, 4, 5, 6, 7, 8], [0, 1, 2, 3, 4, 5, 6, 7, 8, 9], [0, 1, 2, 3, 4, 5, 6, 7, 8, 9, 10], [0, 1, 2, 3, 4, 5, 6, 7, 8, 9, 10, 11], [0, 1, 2, 3, 4, 5, 6, 7, 8, 9, 10, 11, 12], [0, 1, 2, 3, 4, 5, 6, 7, 8, 9, 10, 11, 12, 13], [0, 1, 2, 3, 4, 5, 6, 7, 8, 9, 10, 11, 12, 13], [0, 1, 2, 3, 4, 5, 6, 7, 8, 9, 10, 11, 12, 13, 15], [0, 1, 2, 3, 4, 5, 6, 7, 8, 9, 10, 11, 12, 13, 14, 15, 16], [0, 1, 2, 3, 4, 5, 6, 7, 8, 9, 10, 11, 12, 13, 14, 15, 16, 17], [0, 1, 2, 3, 4, 5, 6, 7, 8, 9, 10, 11, 12, 13, 14, 15, 16, 17, 18], [0, 1, 2, 3, 4, 5, 6, 7, 8, 9, 10, 11, 12, 13], [0, 1, 2, 3, 4, 5, 6, 7, 8, 9, 10, 11, 12, 13, 20], [0, 1, 2, 3, 4, 5, 6, 7, 8, 9, 10, 11, 12, 13, 14, 15, 16, 17, 18, 19, 20, 21], [0, 1, 2, 3, 4, 5, 6, 7, 8, 9, 10, 11, 12, 13, 14, 15, 16, 17, 18, 19, 20, 21, 22], [0, 1, 2, 3, 4, 5, 6, 7, 8, 9, 10, 11, 12, 13, 14, 15, 16, 17, 18, 19, 20, 21, 22, 23], [0, 1, 2, 3, 4, 5, 6, 7, 8, 9, 10, 11, 12, 13, 14, 15, 16, 17, 18, 19, 20, 21, 22, 23, 24]] (by kernel_rfl) [12, 13, 14, 15, 16, 17, 18, 19, 20, 21, 22, 23, 24, 25, 26, 27, 28, 29, 30, 31, 32, 33, 34, 35, 36, 37] [[], [0], [1], [2], [3], [4], [4, 5], [4, 6], [4, 7], [4, 8], [9], [10], [10, 11], [10, 12], [13], [13], [13, 15], [13, 14, 16], [13, 17], [13, 18], [13], [13, 20], [13, 19, 21], [13, 22], [10, 13, 23], [10, 24]] [0, 0, 0, 0, 0, 0, 0, 0, 0, 0, 0, 0, 0, 0, 0, 0, 0, 0, 0, 0, 0, 0, 0, 0, 0, 0] [0, 0, 0, 0, 0, 0, 0, 0, 0, 0, 0, 0, 0, 0, 0, 0, 0, 0, 0, 0, 0, 0, 0, 0, 0, 0] [1000, 1000, 1000, 1000, 1000, 1000, 1000, 1000, 1000, 1000, 1000, 1000, 1000, 1000, 1000, 1000, 1000, 1000, 1000, 1000, 1000, 1000, 1000, 1000, 1000, 1000] [.val 12 (.pointer (some ⟨gk, 0, none⟩)), .val 13 (.string (mkB p)), .val 14 (.bool true), .val 15 (.bool false), .val 16 (.bool false), .val 17 (.pointer (some ⟨gk, 1, none⟩)), .val 18 (.slice ay ny cy), .val 19 (.bool true), .val 20 (.bool false), .val 21 (.bool false), .val 22 (.bool false), .val 23 (.int .i64 (k : Int)), .val 24 (.bool true), .val 25 (.bool true), .val 26 (.slice (some ⟨bl, ol, none⟩) n cl), .val 27 (.int .i64 (k : Int)), .val 28 (.int .i64 (m : Int)), .val 29 (.pointer (some ⟨bl, ol + m * 2, none⟩)), .val 30 (.pointer (some ⟨bl, ol + m * 2, none⟩)), .val 31 (.string (mkB q)), .val 32 (.pointer (some ⟨gk, 0, none⟩)), .val 33 (.string (mkB p)), .val 34 (.int .i64 C), .val 35 (.bool true), .val 36 (.bool true), .val 37 (.bool true)] (by kernel_rfl) ?_ (W5.heap.size) (W5.heap.size) rfl (Below.refl _ _) rfl (fun _ => 0) ?_ ?_ ?_
              · intro j hj
                have hj3 : j < 26 := hj
                have hj2 : j = 0 ∨ j = 1 ∨ j = 2 ∨ j = 3 ∨ j = 4 ∨ j = 5 ∨ j = 6 ∨ j = 7 ∨ j = 8 ∨ j = 9 ∨ j = 10 ∨ j = 11 ∨ j = 12 ∨ j = 13 ∨ j = 14 ∨ j = 15 ∨ j = 16 ∨ j = 17 ∨ j = 18 ∨ j = 19 ∨ j = 20 ∨ j = 21 ∨ j = 22 ∨ j = 23 ∨ j = 24 ∨ j = 25 := by omega
                clear hj hj3
                rcases hj2 with rfl | rfl | rfl | rfl | rfl | rfl | rfl | rfl | rfl | rfl | rfl | rfl | rfl | rfl | rfl | rfl | rfl | rfl | rfl | rfl | rfl | rfl | rfl | rfl | rfl | rfl
                · exact trivial
                · exact trivial
                · exact trivial
                · exact trivial
                · exact trivial
                · exact trivial
                · exact trivial
                · exact trivial
                · exact trivial
                · exact trivial
                · exact trivial
                · exact trivial
                · exact trivial
                · exact trivial
                · exact trivial
                · exact trivial
                · exact trivial
                · exact trivial
                · exact trivial
                · exact trivial
                · exact trivial
                · exact trivial
                · exact trivial
                · exact trivial
                · exact trivial
                · exact trivial
              · intro j hj0 hj
                exact absurd hj (Nat.not_lt.2 hj0)
              · intro i hi a wx who hG hF
                have hz : a.tmps.size = 39 := hG.size
                have hi3 : i < 26 := hi
                have hi2 : i = 0 ∨ i = 1 ∨ i = 2 ∨ i = 3 ∨ i = 4 ∨ i = 5 ∨ i = 6 ∨ i = 7 ∨ i = 8 ∨ i = 9 ∨ i = 10 ∨ i = 11 ∨ i = 12 ∨ i = 13 ∨ i = 14 ∨ i = 15 ∨ i = 16 ∨ i = 17 ∨ i = 18 ∨ i = 19 ∨ i = 20 ∨ i = 21 ∨ i = 22 ∨ i = 23 ∨ i = 24 ∨ i = 25 := by omega
                clear hi hi3
                rcases hi2 with rfl | rfl | rfl | rfl | rfl | rfl | rfl | rfl | rfl | rfl | rfl | rfl | rfl | rfl | rfl | rfl | rfl | rfl | rfl | rfl | rfl | rfl | rfl | rfl | rfl | rfl
                · exact rol_val rfl rfl rfl (by rw [hz]; decide) (ex_field rfl (eval_slot ((hG.slots 4 (by decide)).trans rfl)) (by go_simp)) hG.below
                · exact rol_val rfl rfl rfl (by rw [hz]; decide) (ex_load rfl (eval_slot (hF 0 (by decide))) (ld_strT (cell_keep D0.out hG.below))) hG.below
                · refine rol_call rfl rfl rfl (by rw [hz]; decide) (ex_call rfl (by simp [eval_slot (hF 1 (by decide))]) e1) (KP.out wx) ?_ hG.below (Nat.le_trans HNW.out hG.new)
                  rintro e w1 ⟨rfl, hb1⟩
                  exact ⟨_, rfl, hb1, .inl rfl⟩
                · exact rol_val rfl rfl rfl (by rw [hz]; decide) (ex_un rfl (eval_slot (hF 2 (by decide))) rfl) hG.below
                · exact rol_val rfl rfl rfl (by rw [hz]; decide) (ex_move (Or.inl rfl) (eval_slot (hF 3 (by decide)))) hG.below
                · exact rol_val rfl (want_yes rfl rfl (hF 4 (by decide))) rfl (by rw [hz]; decide) (ex_field rfl (eval_slot ((hG.slots 4 (by decide)).trans rfl)) (by go_simp)) hG.below
                · exact rol_val rfl (want_yes rfl rfl (hF 4 (by decide))) rfl (by rw [hz]; decide) (ex_load rfl (eval_slot (hF 5 (by decide))) (ld_stsT (cell_keep D1.out hG.below))) hG.below
                · refine rol_call rfl (want_yes rfl rfl (hF 4 (by decide))) rfl (by rw [hz]; decide) (ex_call rfl (by simp [eval_slot (hF 6 (by decide))]) e2) (KF.out wx (SY.out.belowB hG.below)) ?_ hG.below (Nat.le_trans HNW.out hG.new)
                  rintro e w1 ⟨rfl, hb1⟩
                  exact ⟨_, rfl, hb1, .inl rfl⟩
                · exact rol_val rfl (want_yes rfl rfl (hF 4 (by decide))) rfl (by rw [hz]; decide) (ex_un rfl (eval_slot (hF 7 (by decide))) rfl) hG.below
                · exact rol_val rfl rfl rfl (by rw [hz]; decide) (ex_pick_no rfl (eval_slot (hF 4 (by decide))) (eval_slot (hF 8 (by decide)))) hG.below
                · exact rol_val rfl rfl rfl (by rw [hz]; decide) (ex_move (Or.inl rfl) (eval_slot (hF 9 (by decide)))) hG.below
                · exact rol_val rfl (want_yes rfl rfl (hF 10 (by decide))) rfl (by rw [hz]; decide) (ex_move (Or.inl rfl) (eval_slot ((hG.slots 3 (by decide)).trans rfl))) hG.below
                · exact rol_val rfl (want_yes rfl rfl (hF 10 (by decide))) rfl (by rw [hz]; decide) (ex_bin rfl (eval_slot (hF 11 (by decide))) rfl (by go_simp) (bin_gtr0 HZ.out)) hG.below
                · exact rol_val rfl (want_yes rfl rfl (hF 10 (by decide))) rfl (by rw [hz]; decide) (ex_move (Or.inl rfl) (eval_slot (hF 12 (by decide)))) hG.below
                · exact rol_val rfl (want_yes rfl rfl (hF 13 (by decide))) rfl (by rw [hz]; decide) (ex_move (Or.inl rfl) (eval_slot ((hG.slots 0 (by decide)).trans rfl))) hG.below
                · exact rol_val rfl (want_yes rfl rfl (hF 13 (by decide))) rfl (by rw [hz]; decide) (ex_move (Or.inl rfl) (eval_slot ((hG.slots 3 (by decide)).trans rfl))) hG.below
                · exact rol_val rfl (want_yes rfl rfl (hF 13 (by decide))) rfl (by rw [hz]; decide) (ex_bin rfl (eval_slot (hF 15 (by decide))) rfl (by go_simp) (bin_sub1 HM.out HKB.out)) hG.below
                · exact rol_val rfl (want_yes rfl rfl (hF 13 (by decide))) rfl (by rw [hz]; decide) (ex_index rfl (eval_slot (hF 14 (by decide))) (eval_slot (hF 16 (by decide))) (idx_rws HMN.out)) hG.below
                · exact rol_val rfl (want_yes rfl rfl (hF 13 (by decide))) rfl (by rw [hz]; decide) (ex_field rfl (eval_slot (hF 17 (by decide))) (by go_simp)) hG.below
                · exact rol_val rfl (want_yes rfl rfl (hF 13 (by decide))) rfl (by rw [hz]; decide) (ex_load rfl (eval_slot (hF 18 (by decide))) (ld_strT (cell_keep Q0.out hG.below))) hG.below
                · exact rol_val rfl (want_yes rfl rfl (hF 13 (by decide))) rfl (by rw [hz]; decide) (ex_field rfl (eval_slot ((hG.slots 4 (by decide)).trans rfl)) (by go_simp)) hG.below
                · exact rol_val rfl (want_yes rfl rfl (hF 13 (by decide))) rfl (by rw [hz]; decide) (ex_load rfl (eval_slot (hF 20 (by decide))) (ld_strT (cell_keep D0.out hG.below))) hG.below
                · refine rol_call rfl (want_yes rfl rfl (hF 13 (by decide))) rfl (by rw [hz]; decide) (ex_call rfl (by simp [eval_slot (hF 19 (by decide)), eval_slot (hF 21 (by decide))]) e3) (KC.out wx) ?_ hG.below (Nat.le_trans HNW.out hG.new)
                  rintro e w1 ⟨rfl, rfl⟩
                  exact ⟨_, rfl, Below.refl _ _, .inl rfl⟩
                · exact rol_val rfl (want_yes rfl rfl (hF 13 (by decide))) rfl (by rw [hz]; decide) (ex_bin rfl (eval_slot (hF 22 (by decide))) rfl (by go_simp) (bin_geq0 HGE.out)) hG.below
                · exact rol_val rfl (want_yes rfl rfl (hF 10 (by decide))) rfl (by rw [hz]; decide) (ex_pick_yes rfl (eval_slot (hF 13 (by decide))) (eval_slot (hF 23 (by decide)))) hG.below
                · exact rol_val rfl rfl rfl (by rw [hz]; decide) (ex_pick_no rfl (eval_slot (hF 10 (by decide))) (eval_slot (hF 24 (by decide)))) hG.below
              · intro a wx who hG hF
                have fv37 : a.tmps.getD 37 undef = .bool true := eval_slot (s := 37) (hF 25 (of_decide_eq_true (by kernel_rfl)) (of_decide_eq_true (by kernel_rfl)))
                have hbx := hG.below
                have hnx := hG.new
                rw [hG.frame]
                simp only [List.foldl_cons, List.foldl_nil, List.setIfInBounds_toArray, List.set_cons_zero, List.set_cons_succ]
                generalize a.tmps.getD 12 undef = u12
                generalize a.tmps.getD 13 undef = u13
                generalize a.tmps.getD 14 undef = u14
                generalize a.tmps.getD 15 undef = u15
                generalize a.tmps.getD 16 undef = u16
                generalize a.tmps.getD 17 undef = u17
                generalize a.tmps.getD 18 undef = u18
                generalize a.tmps.getD 19 undef = u19
                generalize a.tmps.getD 20 undef = u20
                generalize a.tmps.getD 21 undef = u21
                generalize a.tmps.getD 22 undef = u22
                generalize a.tmps.getD 23 undef = u23
                generalize a.tmps.getD 24 undef = u24
                generalize a.tmps.getD 25 undef = u25
                generalize a.tmps.getD 26 undef = u26
                generalize a.tmps.getD 27 undef = u27
                generalize a.tmps.getD 28 undef = u28
                generalize a.tmps.getD 29 undef = u29
                generalize a.tmps.getD 30 undef = u30
                generalize a.tmps.getD 31 undef = u31
                generalize a.tmps.getD 32 undef = u32
                generalize a.tmps.getD 33 undef = u33
                generalize a.tmps.getD 34 undef = u34
                generalize a.tmps.getD 35 undef = u35
                generalize a.tmps.getD 36 undef = u36
                rw [fv37]
                clear hF hG fv37
                have HB6 := Lib.hid (below_step HB5.out hbx)
                clear hbx hnx
                go_wp2
                go_ret
                exact ⟨by rw [HNO.out]; rfl, HB6.out⟩
    · have e : k = n := by omega
      subst e
      have hy : okR l = true := okR_len HJ.out (by rw [HN.out]; exact Nat.le_refl _)
      have HT2 := Lib.hid (show T = 0 by rw [← HT.out, if_pos hy])
      clear hy
      go_wp2
      go_ret
      exact ⟨by rw [HT2.out]; rfl, HB.out⟩
end Go.Proofs.Ytlbibgofhhdgoaa

namespace Go.Proofs.Ytlbibgofhhdgoaa
open Go.RowKit
set_option linter.unusedVariables false
set_option maxRecDepth 100000

theorem boxT2 (w : World) (x y x' y' : Value) (t t' : TypeId) : ∃ W g g', (w.alloc (.cells #[x, y] t)).alloc (.cells #[x', y'] t') = W ∧ w.heap.size = g ∧ w.heap.size + 1 = g' ∧ W.heap[g]? = some (.cells #[x, y] t (0, 0)) ∧ W.heap[g']? = some (.cells #[x', y'] t' (0, 0)) ∧ Below w.heap.size w W := by
  refine ⟨_, _, _, rfl, rfl, rfl, ?_, ?_, ((Below.refl _ _).alloc (Nat.le_refl _) _).alloc (by simp) _⟩
  · exact row_keepB (heap_alloc_new _ _) ((Below.refl _ _).alloc (Nat.le_refl _) _)
  · have := heap_alloc_new (w.alloc (.cells #[x, y] t)) (.cells #[x', y'] t')
    simpa using this
theorem row_dec {p q : List UInt8} {vs us : List (List UInt8)} : decide ((p, vs) = (q, us)) = (decide (p = q) && decide (vs = us)) := by
  rw [Bool.eq_iff_iff, Bool.and_eq_true, decide_eq_true_iff, decide_eq_true_iff, decide_eq_true_iff, Prod.mk.injEq]

theorem bin_neqs {p q : List UInt8} {b : Bool} {w : World} (h : decide (p = q) = !b) : Sem.run Try.prog (binOp .neq 9 (.string (mkB p)) (.string (mkB q))) w = .ok (.bool b) w := by
  have e := mk_beq p q
  rw [h] at e
  cases b <;> simp only [Bool.not_true, Bool.not_false] at e <;> go_simp

end Go.Proofs.Ytlbibgofhhdgoaa

namespace Go.Proofs.Ytlbibgofhhdgoaa
open Go.RowKit
set_option linter.unusedVariables false
set_option maxRecDepth 100000

theorem ld_rws {w : World} {g i n c : Nat} {a : Option Addr} (h : w.cell? ⟨g, i, none⟩ = some (.slice a n c)) : Sem.run Try.prog (Instr.loadAt 51 (.pointer (some ⟨g, i, none⟩))) w = .ok (.slice a n c) w := by
  go_simp
theorem boxO2 (w : World) (x y : Value) (t t' : TypeId) : ∃ W g g', (w.alloc (.cells #[x] t)).alloc (.cells #[y] t') = W ∧ w.heap.size = g ∧ w.heap.size + 1 = g' ∧ W.cell? ⟨g, 0, none⟩ = some x ∧ W.cell? ⟨g', 0, none⟩ = some y ∧ Below w.heap.size w W :=
  ⟨_, _, _, rfl, rfl, rfl, cell_alloc (cell_new rfl rfl) _, cell_new (by simp) rfl, ((Below.refl _ _).alloc (Nat.le_refl _) _).alloc (by simp) _⟩

/-! ### A path's versions -/
/-! ### Where a version is -/
theorem ltV_of {a b : List UInt8} {C : Int} (h : cmpT a b = C) : ltV a b = decide (C < 0) := by unfold ltV; rw [h]
end Go.Proofs.Ytlbibgofhhdgoaa

namespace Go.Proofs.Ytlbibgofhhdgoaa
open Go.RowKit
set_option linter.unusedVariables false
set_option maxRecDepth 100000

theorem heap_setCellT {w : World} {g o : Nat} {cur : Array Value} {t : TypeId} {fr : Nat × Nat} (h : w.heap[g]? = some (.cells cur t fr)) (v : Value) : (w.setCell ⟨g, o, none⟩ v).heap[g]? = some (.cells (cur.setIfInBounds o v) t fr) := by
  simp [World.setCell, Array.getElem?_modify, h]
theorem heap_setCellsT {g : Nat} {t : TypeId} {fr : Nat × Nat} : ∀ (vs : List Value) (o : Nat) (w : World) (cur : Array Value), w.heap[g]? = some (.cells cur t fr) → o + vs.length ≤ cur.size → ∃ cur', (w.setCells g o vs).heap[g]? = some (.cells cur' t fr) ∧ cur'.size = cur.size ∧ cur'.toList = cur.toList.take o ++ (vs ++ cur.toList.drop (o + vs.length))
  | [], o, w, cur, h, _ => ⟨cur, h, rfl, by simp⟩
  | v :: r, o, w, cur, h, hl => by
    rw [List.length_cons] at hl
    obtain ⟨cur', h1, h2, h3⟩ := heap_setCellsT r (o + 1) (w.setCell ⟨g, o, none⟩ v) _ (heap_setCellT h v) (by rw [Array.size_setIfInBounds]; omega)
    refine ⟨cur', h1, by rw [h2, Array.size_setIfInBounds], ?_⟩
    have hlen : o < cur.toList.length := by rw [Array.length_toList]; omega
    have e1 : (cur.toList.set o v).take (o + 1) = cur.toList.take o ++ [v] := by
      rw [List.take_succ_eq_append_getElem (by rw [List.length_set]; exact hlen), List.take_set_of_le (Nat.le_refl _)]
      simp
    have e2 : (cur.toList.set o v).drop (o + 1 + r.length) = cur.toList.drop (o + (v :: r).length) := by
      rw [List.drop_set_of_lt (by omega), List.length_cons]; congr 1; omega
    rw [h3, Array.toList_setIfInBounds, e1, e2]
    simp
theorem grown_setCells (g : Nat) : ∀ (vs : List Value) (o : Nat) (w : World), w.grownBy (w.setCells g o vs) (some g)
  | [], _, _ => ⟨rfl, rfl, rfl, Nat.le_refl _, fun _ _ _ => rfl⟩
  | v :: r, o, w => by
    have ih := grown_setCells g r (o + 1) (w.setCell ⟨g, o, none⟩ v)
    have hs : (w.setCell ⟨g, o, none⟩ v).heap.size = w.heap.size := by simp [World.setCell]
    refine ⟨ih.os, ih.tape, ih.output, by rw [← hs]; exact ih.size, fun k hk hne => ?_⟩
    exact (ih.block k (by rw [hs]; exact hk) hne).trans (Below.heap_setCell _ ⟨g, o, none⟩ _ k (fun e => hne (by rw [e])))
theorem grown_ofdrew {w w' : World} {ob : Option Nat} (h : w.drew.grownBy w' ob) : w.grownBy w' ob := ⟨h.os, h.tape, h.output, h.size, h.block⟩
theorem grown_drew {w w' : World} {ob : Option Nat} (h : w.grownBy w' ob) : w.grownBy w'.drew ob := ⟨h.os, h.tape, h.output, h.size, h.block⟩
theorem grown_two {w w1 w2 : World} {ob : Option Nat} (h : w.grownBy w1 ob) (k : w1.grownBy w2 ob) : w.grownBy w2 ob :=
  ⟨k.os.trans h.os, k.tape.trans h.tape, k.output.trans h.output, Nat.le_trans h.size k.size, fun j hj hne => (k.block j (Nat.lt_of_lt_of_le hj h.size) hne).trans (h.block j hj hne)⟩
/-- What is written into a block that was made turns none of before. -/
theorem grown_fresh {w w1 w2 : World} {ob : Option Nat} {g : Nat} (h : w.grownBy w1 ob) (hg : w.heap.size ≤ g) (k : w1.grownBy w2 (some g)) : w.grownBy w2 ob :=
  ⟨k.os.trans h.os, k.tape.trans h.tape, k.output.trans h.output, Nat.le_trans h.size k.size, fun j hj hne => (k.block j (Nat.lt_of_lt_of_le hj h.size) (fun e => by cases e; omega)).trans (h.block j hj hne)⟩
theorem own_of {w : World} {g cap n base : Nat} {cur : Array Value} {xs : List Value} (h : w.heap[g]? = some (.cells cur 9 (0, 0))) (hg : base ≤ g) (hnc : n ≤ cap) (hcm : cap ≤ maxLen) (hsz : cur.size = cap) (hl : xs.length = n) (hx : cur.toList.take n = xs) : w.ownsRow base 9 1 (.slice (some ⟨g, 0, none⟩) n cap) n xs :=
  ⟨by rw [hl, Nat.mul_one], .inr ⟨g, cap, cur, rfl, hg, h, hnc, hcm, by rw [hsz, Nat.mul_one], by rw [Nat.mul_one]; exact hx⟩⟩

section
variable {α : Type}
theorem shift_list (cur : List α) (n i : Nat) (x : α) (c1 c2 : List α) (hi : i ≤ n) (hn : n + 1 ≤ cur.length) (h1 : c1 = cur.take (i + 1) ++ ((cur.take n).drop i ++ cur.drop (i + 1 + ((cur.take n).drop i).length))) (h2 : c2 = c1.take i ++ ([x] ++ c1.drop (i + [x].length))) :
    c2.take (n + 1) = (cur.take n).take i ++ x :: (cur.take n).drop i := by
  have a1 : c1.take i = (cur.take n).take i := by
    rw [h1, List.take_append_of_le_length (by rw [List.length_take]; omega), List.take_take, List.take_take, Nat.min_eq_left (by omega), Nat.min_eq_left hi]
  have a2 : c1.drop (i + [x].length) = (cur.take n).drop i ++ cur.drop (i + 1 + ((cur.take n).drop i).length) := by
    rw [h1]; exact List.drop_left' (by rw [List.length_take]; simp; omega)
  rw [h2, a1, a2, ← List.append_assoc, ← List.append_assoc, List.take_left' (by simp; omega)]
  simp
theorem grow_list (cs c0 c1 c2 Z : List α) (n i : Nat) (x : α) (hi : i ≤ n) (hn : cs.length = n) (h0 : c0 = cs.take i ++ Z) (h1 : c1 = c0.take i ++ ([x] ++ c0.drop (i + [x].length))) (h2 : c2 = c1.take (i + 1) ++ (cs.drop i ++ c1.drop (i + 1 + (cs.drop i).length))) :
    c2.take (n + 1) = cs.take i ++ x :: cs.drop i := by
  have a0 : c0.take i = cs.take i := by rw [h0]; exact List.take_left' (by rw [List.length_take]; omega)
  have a1 : c1.take (i + 1) = cs.take i ++ [x] := by
    rw [h1, a0, ← List.append_assoc]; exact List.take_left' (by simp; omega)
  rw [h2, a1, ← List.append_assoc, List.take_left' (by simp; omega)]
  simp
end
theorem strC_take (l : List (List UInt8)) (i : Nat) : (strC l).take i = strC (l.take i) := by unfold strC; rw [List.map_take]
theorem strC_drop (l : List (List UInt8)) (i : Nat) : (strC l).drop i = strC (l.drop i) := by unfold strC; rw [List.map_drop]
theorem strC_ins (l : List (List UInt8)) (i : Nat) (x : List UInt8) : (strC l).take i ++ strV x :: (strC l).drop i = strC (l.take i ++ x :: l.drop i) := by
  rw [strC_take, strC_drop]; unfold strC; rw [List.map_append, List.map_cons]
theorem ins_len (l : List (List UInt8)) {i : Nat} (x : List UInt8) (h : i ≤ l.length) : (l.take i ++ x :: l.drop i).length = l.length + 1 := by
  rw [List.length_append, List.length_cons, List.length_take, List.length_drop]; omega

/-! ### Taken out -/
end Go.Proofs.Ytlbibgofhhdgoaa

namespace Go.Proofs.Ytlbibgofhhdgoaa
open Go.RowKit
set_option linter.unusedVariables false
set_option maxRecDepth 100000

theorem own_form {w : World} {base : Nat} {e : TypeId} {size : Nat} {v : Value} {n : Nat} {xs : List Value} (h : w.ownsRow base e size v n xs) : ∃ a c, v = .slice a n c := by
  rcases h.2 with ⟨rfl, rfl⟩ | ⟨g, cap, cur, rfl, _⟩
  · exact ⟨_, _, rfl⟩
  · exact ⟨_, _, rfl⟩
section
variable {wr : World} {ops : Array Oper} {rest : List Oper} {o : Oper} {a : Act} {Q : Exit → Act → World → Prop}
/-- 'rows = append(rows, Row{p, vs})', the rows the call's own; the row has just been laid in a block of its own. -/
theorem wpList_push_rw (hgd : o.guard = none) (s x : Operand) (ho : o.op = .call { callee := .builtin .append, args := #[s, x], argTypes := #[51, 51] })
    (N : Nat) (V : Value) (rs : List Rw) (ys : List Value) (n : Nat) (hn : rs.length = n) (hys : ys.length = rs.length) (hs : a.eval s = V) (hown : wr.ownsRow N 50 2 V n (rwC rs ys)) (r : Rw) (y : Value) (hy : y.oneCell' = true) (M : Nat) (hM : wr.heap.size = M) (hx : a.eval x = .slice (some ⟨M, 0, none⟩) 1 1) (hlen : n ≤ 1000000) (hbase : N ≤ wr.heap.size)
    (h : ∀ a' c' w', w'.ownsRow N 50 2 (.slice a' (n + 1) c') (n + 1) (rwC (rs ++ [r]) (ys ++ [y])) → wr.grownBy w' V.ownBlock → (∀ (b : Nat) (cs : Array Value), wr.heap[b]? = some (.cells cs 9 (0, 0)) → w'.heap[b]? = wr.heap[b]?) → wpList Try.prog ops Q rest (a.put o.dst (.slice a' (n + 1) c')) w') :
    wpList Try.prog ops Q (o :: rest) a (wr.alloc (.cells #[.string (mkB r.1), y] 50)) := by
  subst hM
  refine wpList_plain hgd fun K' hK' => ?_
  have hal := hown.alloc (.cells #[.string (mkB r.1), y] 50)
  obtain ⟨v', w', hr, h2, h3, -⟩ := run_app_rw hys hal (ls := [r]) (zs := [y]) (a0 := some ⟨wr.heap.size, 0, none⟩) (m := 1) (c := 1) rfl rfl (fun e => by cases e) (blk_src (heap_alloc_new wr _)) (by simp [hy]) (by omega) (by simp; omega) o.type
  obtain ⟨a', c', rfl⟩ := own_form h2
  have ht : ∀ (b : Nat) (cs : Array Value), wr.heap[b]? = some (.cells cs 9 (0, 0)) → w'.heap[b]? = wr.heap[b]? := fun b cs hc => by
    have hb := (Below.refl wr.heap.size wr).alloc (Nat.le_refl _) (.cells #[.string (mkB r.1), y] 50)
    have h5 := row_keepB hc hb
    exact (txt_kept hal h3 b cs h5).trans (h5.trans hc.symm)
  have hk := h a' c' w' h2 ((World.grownBy_alloc wr _ _).trans h3) ht
  unfold Oper.wp
  simp [execOp, ho, resolve, invoke, builtin, hs, hx, hr, Result.andThen]
  exact hK' _ _ hk
/-- 'append(rows, more...)', both the call's own. -/
theorem wpList_cat_rw (hgd : o.guard = none) (s x : Operand) (ho : o.op = .call { callee := .builtin .append, args := #[s, x], argTypes := #[51, 51] })
    (N : Nat) (V : Value) (rs : List Rw) (ys : List Value) (n : Nat) (hys : ys.length = rs.length) (hs : a.eval s = V) (hown : wr.ownsRow N 50 2 V n (rwC rs ys)) (N' : Nat) (a0 : Option Addr) (m c : Nat) (ls : List Rw) (zs : List Value) (hm : ls.length = m) (hz : zs.length = ls.length) (hx : a.eval x = .slice a0 m c) (hsrc : wr.ownsRow N' 50 2 (.slice a0 m c) m (rwC ls zs)) (h1 : (zs.all fun u => u.oneCell') = true) (hlen : n + m ≤ 2000000) (hbase : N ≤ wr.heap.size)
    (h : ∀ a' c' w', w'.ownsRow N 50 2 (.slice a' (n + m) c') (n + m) (rwC (rs ++ ls) (ys ++ zs)) → wr.grownBy w' V.ownBlock → (∀ (b : Nat) (cs : Array Value), wr.heap[b]? = some (.cells cs 9 (0, 0)) → w'.heap[b]? = wr.heap[b]?) → wpList Try.prog ops Q rest (a.put o.dst (.slice a' (n + m) c')) w') :
    wpList Try.prog ops Q (o :: rest) a wr := by
  refine wpList_plain hgd fun K' hK' => ?_
  obtain ⟨v', w', hr, h2, h3, -⟩ := run_app_rw hys hown hm hz (own_src hsrc).1 (own_src hsrc).2 h1 hlen hbase o.type
  obtain ⟨a', c', rfl⟩ := own_form h2
  have hk := h a' c' w' h2 h3 (txt_kept hown h3)
  unfold Oper.wp
  simp [execOp, ho, resolve, invoke, builtin, hs, hx, hr, Result.andThen]
  exact hK' _ _ hk
end
theorem RwI.len {w : World} {lo : Nat} {ys : List Value} {rs : List Rw} (h : RwI w lo ys rs) : ys.length = rs.length := h.1

end Go.Proofs.Ytlbibgofhhdgoaa

namespace Go.Proofs.Ytlbibgofhhdgoaa
open Go.RowKit
set_option linter.unusedVariables false
set_option maxRecDepth 100000

section
variable {P : Program} {ops : Array Oper} {Q : Exit → Act → World → Prop} {a : Act} {w w0 : World} {who : Nat → Nat} {i B r ro : Nat} {o : Oper}
/-- A call that turns, or makes anew, a row of the region's own. -/
theorem rol_callg (ho : ops[i]? = some o) (hw : Region.wanted o (yielded ops a.tmps) = true) {s : Nat} (hd : o.dst = some s) (hs : s < a.tmps.size) {f : Nat} {vs : Array Value} (hr : Sem.run P (execOp a.eval o) w = .ok (.enter f vs) w) {R : Ending → World → Prop} (hc : Calls P f vs w R) {p : World → Value → Option Nat → Prop} {ob : Option Nat}
    (h : ∀ e w', R e w' → ∃ v' ob', e = .returned v' ∧ w.grownBy w' ob ∧ (ob' = ob ∨ ob' = some w.heap.size ∧ w.heap.size < w'.heap.size) ∧ p w' v' ob') (hob : ∀ b, ob = some b → b < w.heap.size ∧ who b = r) (hb : Below B w0 w) (hB : B ≤ w.heap.size) (hrow : ∀ b, ob = some b → B ≤ b) :
    wpOp P ops Q i (RPost ops i r r (.mem s p) B w0 a w who) a w := by
  refine rol_wp ho hw ?_
  unfold Oper.wp
  rw [hr, Oper.upon_enter]
  refine hc.mono fun e w' hR => ?_
  obtain ⟨v', ob', rfl, hg, hob', hp⟩ := h e w' hR
  rw [hd]
  refine ⟨⟨v', by rw [dst_of ho, hd]⟩, hb.grown hg hB hrow, rtag w who r, RKeep.grown hg (fun b e => (hob b e).2), v', ob', put_self _ hs, fun b e => ?_, hp⟩
  rcases hob' with h | ⟨h, hlt⟩
  · rw [h] at e
    obtain ⟨b1, b2⟩ := hob b e
    exact ⟨Nat.lt_of_lt_of_le b1 hg.size, (rtag_old b1).trans b2⟩
  · rw [h] at e
    cases e
    exact ⟨hlt, rtag_new (Nat.le_refl _)⟩
/-- A call whose answer holds new blocks, and blocks of before of a role. -/
theorem rol_callo (ho : ops[i]? = some o) (hw : Region.wanted o (yielded ops a.tmps) = true) {s : Nat} (hd : o.dst = some s) (hs : s < a.tmps.size) {f : Nat} {vs : Array Value} (hr : Sem.run P (execOp a.eval o) w = .ok (.enter f vs) w) {R : Ending → World → Prop} (hc : Calls P f vs w R) {p : World → Value → (Nat → Prop) → Prop}
    (h : ∀ e w', R e w' → ∃ v bs, e = .returned v ∧ Below w.heap.size w w' ∧ (∀ b, bs b → b < w'.heap.size ∧ (w.heap.size ≤ b ∨ b < w.heap.size ∧ who b = r)) ∧ p w' v bs) (hb : Below B w0 w) (hB : B ≤ w.heap.size) :
    wpOp P ops Q i (RPost ops i r ro (.mems s p) B w0 a w who) a w := by
  refine rol_wp ho hw ?_
  unfold Oper.wp
  rw [hr, Oper.upon_enter]
  refine hc.mono fun e w' hR => ?_
  obtain ⟨v, bs, rfl, hb1, hbs, hp⟩ := h e w' hR
  rw [hd]
  refine ⟨⟨v, by rw [dst_of ho, hd]⟩, hb.trans (hb1.mono hB), rtag w who r, RKeep.belowO hb1 r ro who, v, bs, put_self _ hs, fun b e => ?_, hp⟩
  obtain ⟨h1, h2 | ⟨h2, h3⟩⟩ := hbs b e
  · exact ⟨h1, rtag_new h2⟩
  · exact ⟨h1, (rtag_old h2).trans h3⟩
end
/-- Rows in a slot, whose versions may be older than the row of rows. -/
def rwsY (N lo : Nat) (rs : List Rw) : World → Value → (Nat → Prop) → Prop := fun w v bs => ∃ ys, w.ownsRow N 50 2 v rs.length (rwC rs ys) ∧ RwI w lo ys rs ∧ (∀ b, v.ownBlock = some b → bs b) ∧ ∀ j, j < rs.length → ∀ b, (ys.getD j undef).ownBlock = some b → bs b
theorem rwsY_near {N lo : Nat} {rs : List Rw} : ∀ (w w' : World) (v : Value) (bs : Nat → Prop), (∀ b, bs b → w'.heap[b]? = w.heap[b]?) → rwsY N lo rs w v bs → rwsY N lo rs w' v bs := by
  rintro w w' v bs hb ⟨ys, h1, h2, h3, h4⟩
  exact ⟨ys, row_heap h1 fun b e => hb b (h3 b e), ⟨h2.1, fun j hj => row_heap (h2.2 j hj) fun b e => hb b (h4 j hj b e)⟩, h3, h4⟩
theorem bin_add1T {i : Nat} {w : World} (h : i ≤ 1000000) : Sem.run Try.prog (binOp .add 3 (.int .i64 (i : Int)) (.int .i64 1)) w = .ok (.int .i64 ((i : Int) + 1)) w := by
  have e : IntKind.i64.wrap ((i : Int) + 1) = (i : Int) + 1 := by rw [IntKind.wrap_i64]; omega
  go_simp
theorem ver_len_le {l : List Rw} {M : Nat} (ol : okR l = true) (p : List UInt8) (hv : ∀ r ∈ l, r.2.length ≤ M) : (rwVer l p).length ≤ M := by
  by_cases h : ∃ r ∈ l, r.1 = p
  · obtain ⟨r, hr, rfl⟩ := h
    obtain ⟨a, b, rfl⟩ := List.append_of_mem hr
    rw [ver_at ol]; exact hv r hr
  · rw [ver_none fun r hr e => h ⟨r, hr, e⟩]; exact Nat.zero_le _
theorem ver_small {l : List Rw} {p : List UInt8} {M : Nat} (hs : ∀ r ∈ l, ∀ x ∈ r.2, x.length ≤ M) : ∀ x ∈ rwVer l p, x.length ≤ M := fun x hx => by
  obtain ⟨r, hr, -, h⟩ := rwAll_mem.1 (ver_mem.1 hx)
  exact hs r hr x h
theorem addE_no {l : List Rw} {n : Nd} (h : (okR l && okN n) = false) : addE l n = (l, 1) := by unfold addE; rw [h]; rfl
theorem addE_has {l : List Rw} {n : Nd} (h : okR l = true) (k : okN n = true) (m : hasN (rwAll l) n = true) : addE l n = (l, 3) := by unfold addE; rw [h, k, m]; rfl
theorem addE_yes {l : List Rw} {n : Nd} (h : okR l = true) (k : okN n = true) (m : hasN (rwAll l) n = false) : addE l n = (rwOf (withN (rwAll l) n), 0) := by unfold addE; rw [h, k, m]; rfl
theorem dropE_no {l : List Rw} {n : Nd} (h : (okR l && okN n) = false) : dropE l n = (l, 1) := by unfold dropE; rw [h]; rfl
theorem dropE_none {l : List Rw} {n : Nd} (h : okR l = true) (k : okN n = true) (m : hasN (rwAll l) n = false) : dropE l n = (l, 2) := by unfold dropE; rw [h, k, m]; rfl
theorem dropE_yes {l : List Rw} {n : Nd} (h : okR l = true) (k : okN n = true) (m : hasN (rwAll l) n = true) : dropE l n = (rwOf (minusN (rwAll l) [n]), 0) := by unfold dropE; rw [h, k, m]; rfl
theorem has_ver {l : List Rw} {p v : List UInt8} : decide (v ∈ rwVer l p) = hasN (rwAll l) (p, v) := by
  unfold hasN; rw [Bool.eq_iff_iff, decide_eq_true_iff, decide_eq_true_iff]; exact ver_mem

end Go.Proofs.Ytlbibgofhhdgoaa

namespace Go.Proofs.Ytlbibgofhhdgoaa
open Go.RowKit
set_option linter.unusedVariables false
set_option maxRecDepth 100000

theorem blk_nds {w : World} {b : Nat} {p v : List UInt8} (hh : w.heap[b]? = some (.cells #[.string (mkB p), .string (mkB v)] 43 (0, 0))) : Nds w (.slice (some ⟨b, 0, none⟩) 1 1) [(p, v)] := by
  obtain ⟨c0, c1, _, _⟩ := row2 hh
  exact ⟨some ⟨b, 0, none⟩, 1, rfl, Nat.le_refl _, by unfold maxLen; omega, (fun h => by cases h), fun _ => ⟨b, 0, rfl, (Array.getElem?_eq_some_iff.1 hh).1, fun j hj => by
    have hj2 : j = 0 := by simp at hj; omega
    subst hj2
    exact ⟨c0, c1⟩⟩⟩
theorem run_app_ndT {w : World} {base n : Nat} {v : Value} {K : List Nd} (hown : w.ownsRow base 43 2 v n (ndsC K)) {ad : Addr} {m c : Nat} {L : List Nd} (hN : Nds w (.slice (some ad) m c) L) (hlen : n + m ≤ 200000000) (hbase : base ≤ w.heap.size) (t : TypeId) :
    ∃ v' w', (Builtin.append_ #[22, 22] t #[v, .slice (some ad) m c]).run Try.prog w = .ok v' w' ∧ w'.ownsRow base 43 2 v' (n + m) (ndsC (K ++ L)) ∧ w.grownBy w' v.ownBlock := by
  obtain ⟨i, hi, hz, hsize, hby⟩ := info_parts Try.info_node
  obtain ⟨v', w', hr, h2, h3, _, _⟩ := run_append_own_at (P := Try.prog) w base 22 t 43 i (.agg #[.string ByteArray.empty, .string ByteArray.empty]) 2 32 Try.underlying22 hi hz hsize hby rfl (by decide) v n _ hown ad m c (ndsC L) (by rw [ndsC_len, hN.lenE.1]) (hN.src ad rfl) (fun u hu => List.all_eq_true.1 (ndsC_one L) u hu) (by unfold maxLen; omega) (by omega) hbase
  rw [← ndsC_app] at h2
  exact ⟨v', w', hr, h2, h3⟩
section
variable {wr : World} {ops : Array Oper} {rest : List Oper} {o : Oper} {a : Act} {Q : Exit → Act → World → Prop}
/-- 'l = append(l, n)', l the call's own: the node has just been laid in a block of its own. -/
theorem wpList_push_ndT (hgd : o.guard = none) (s x : Operand) (ho : o.op = .call { callee := .builtin .append, args := #[s, x], argTypes := #[22, 22] })
    (base : Nat) (V : Value) (K : List Nd) (n : Nat) (hs : a.eval s = V) (hown : wr.ownsRow base 43 2 V n (ndsC K)) (p v : List UInt8) (N : Nat) (hN : wr.heap.size = N) (hx : a.eval x = .slice (some ⟨N, 0, none⟩) 1 1) (hlen : n ≤ 100000000) (hbase : base ≤ wr.heap.size)
    (h : ∀ a' c' w', w'.ownsRow base 43 2 (.slice a' (n + 1) c') (n + 1) (ndsC (K ++ [(p, v)])) → wr.grownBy w' V.ownBlock → wpList Try.prog ops Q rest (a.put o.dst (.slice a' (n + 1) c')) w') :
    wpList Try.prog ops Q (o :: rest) a (wr.alloc (.cells #[.string (mkB p), .string (mkB v)] 43)) := by
  subst hN
  refine wpList_plain hgd fun K' hK' => ?_
  obtain ⟨v', w', hr, h2, h3⟩ := run_app_ndT (hown.alloc (.cells #[.string (mkB p), .string (mkB v)] 43)) (blk_nds (heap_alloc_new wr (.cells #[.string (mkB p), .string (mkB v)] 43))) (m := 1) (c := 1) (by omega) (by simp; omega) o.type
  obtain ⟨a', c', rfl⟩ := own_form h2
  have hk := h a' c' w' h2 ((World.grownBy_alloc wr _ _).trans h3)
  unfold Oper.wp
  simp [execOp, ho, resolve, invoke, builtin, hs, hx, hr, Result.andThen]
  exact hK' _ _ hk
end
theorem grown_box {w w' : World} {N n g : Nat} {e t : TypeId} {size : Nat} {v : Value} {xs : List Value} {cs : Array Value} (hown : w.ownsRow N e size v n xs) (hg : w.grownBy w' v.ownBlock) (hne : e ≠ t) (hb : w.heap[g]? = some (.cells cs t (0, 0))) : w'.heap[g]? = some (.cells cs t (0, 0)) :=
  (hg.block g (Array.getElem?_eq_some_iff.1 hb).1 fun q => own_nebox hown hb hne q.symm).trans hb
theorem all_take {l : List Rw} {k : Nat} (h : k < l.length) : rwAll (l.take (k + 1)) = rwAll (l.take k) ++ ((l.getD k zR).2.map fun v => ((l.getD k zR).1, v)) := by
  rw [List.take_succ_eq_append_getElem h, rwAll_app, rwAll_one, gd_at h]
theorem all_len {M : Nat} : ∀ {l : List Rw}, (∀ r ∈ l, r.2.length ≤ M) → (rwAll l).length ≤ l.length * M
  | [], _ => by simp [rwAll]
  | r :: l, h => by
    have ih := all_len (l := l) fun x hx => h x (List.mem_cons_of_mem _ hx)
    have h1 := h r List.mem_cons_self
    rw [rwAll_cons, List.length_append, List.length_map, List.length_cons, Nat.succ_mul]; omega
theorem allE_no {l : List Rw} (h : okR l = false) : allE l = ([], 1) := by unfold allE; rw [h]; rfl
theorem allE_yes {l : List Rw} (h : okR l = true) : allE l = (rwAll l, 0) := by unfold allE; rw [h]; rfl

/-! ### The last version -/
theorem bestE_no {l : List Rw} {p : List UInt8} (h : (okR l && pathB p) = false) : bestE l p = ([], 1) := by unfold bestE; rw [h]; rfl
theorem bestE_none {l : List Rw} {p : List UInt8} (h : okR l = true) (k : pathB p = true) (m : rwVer l p = []) : bestE l p = ([], 2) := by unfold bestE; rw [h, k, m]; rfl
theorem bestE_yes {l : List Rw} {p : List UInt8} (h : okR l = true) (k : pathB p = true) (m : rwVer l p ≠ []) : bestE l p = (lastV (rwVer l p), 0) := by unfold bestE; rw [h, k, if_neg m]; rfl

end Go.Proofs.Ytlbibgofhhdgoaa
