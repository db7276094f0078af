/- THE TEXTS OF OctU TalA TalB TalC TalD TalE TalF TalG TalH TalI TalJ: Contracts of the library's slices of texts at this translation, by the shelf's own command, in plain words. Rows of versions in memory: of others, and of the call's own; what operations of a region leave of them. Copies of texts; what operations leave of rows; rows in memory of their own: of the program. The order of two versions; which versions, and which rows, may be: of the program. Which rows may be: of the program. Are rows the same: of the program and of the document. Where a path's row is, a path's versions, where a version is: of the program. A version put into a path's versions, and taken out of them: the library's Insert and Delete. Rows where a path has these versions in the stead of its own: of the program. Rows with a node, and without it: of the program. Rows' nodes, a path's last version: of the program. -/
import Derived.Shelf.SlicesE.Delete
import Derived.Shelf.SlicesE.Clone
import Derived.Shelf.Spec.SlicesInsertGrow
import Derived.Ground.SlgnProg
import Derived.Ground.Names2Prog
import Derived.Shelf.SlGeneric
import Derived.Test.YtlbibgofhhdgoaaGreatProg
import Derived.Test.YtlbibgofhhdgoaaGreatTalM
import Derived.Test.YtlbibgofhhdgoaaGreatStoA
import Derived.Test.YtlbibgofhhdgoaaGreatRolM
import Derived.ArgAppend
import Derived.Lib.RowBridge
namespace Go.Proofs
open Go.Shelf
def Tryz.cloneS_ren : Go.Shelf.Ren := ⟨fun | 41 => 76 | n => n, fun | 22 => 61 | 23 => 9 | 4 => 4 | n => n, fun | n => n⟩
theorem Tryz.cloneS : Go.Proofs.SlLaysE0.n41 Tryz.prog Tryz.cloneS_ren := {
  mixed := by kernel_rfl
  f41 := ⟨Tryz.f76.name, by decide, Tryz.func76.trans (congrArg some (by kernel_rfl))⟩
  t4 := Tryz.underlying4
  a4 := Tryz.isAgg4
  z4 := Tryz.sizeOf4
  v4 := Tryz.zeroValue4
  t22 := Tryz.underlying61
  a22 := Tryz.isAgg61
  z22 := Tryz.sizeOf61
  v22 := Tryz.zeroValue61 }
def Tryz.insS_ren : Go.Shelf.Ren := ⟨fun | 22 => 57 | 29 => 77 | 30 => 78 | 36 => 92 | 17 => 107 | n => n, fun | 24 => 61 | 9 => 9 | 3 => 3 | 4 => 4 | 0 => 0 | n => n, fun | n => n⟩
theorem Tryz.insS : Go.Proofs.Lays2.n22 Tryz.prog Tryz.insS_ren := {
  mixed := by kernel_rfl
  f17 := Tryz.func107.trans (congrArg some (by kernel_rfl))
  f22 := Tryz.func57.trans (congrArg some (by kernel_rfl))
  f29 := Tryz.func77.trans (congrArg some (by kernel_rfl))
  f30 := Tryz.func78.trans (congrArg some (by kernel_rfl))
  f36 := Tryz.func92.trans (congrArg some (by kernel_rfl))
  t0 := Tryz.underlying0
  a0 := Tryz.isAgg0
  z0 := Tryz.sizeOf0
  v0 := Tryz.zeroValue0
  t3 := Tryz.underlying3
  a3 := Tryz.isAgg3
  z3 := Tryz.sizeOf3
  v3 := Tryz.zeroValue3
  t4 := Tryz.underlying4
  a4 := Tryz.isAgg4
  z4 := Tryz.sizeOf4
  v4 := Tryz.zeroValue4
  t9 := Tryz.underlying9
  a9 := Tryz.isAgg9
  z9 := Tryz.sizeOf9
  v9 := Tryz.zeroValue9
  t24 := Tryz.underlying61
  a24 := Tryz.isAgg61
  z24 := Tryz.sizeOf61
  v24 := Tryz.zeroValue61
  i9 := by kernel_rfl }
end Go.Proofs

namespace Go.Proofs.YtlbibgofhhdgoaaGreat
open Go.RowKit
set_option linter.unusedVariables false
set_option maxRecDepth 100000

theorem Tryz.info_row : (Tryz.prog.info? 63).map (fun i => (i.zero, i.size, i.bytes)) = some (some (.agg #[.string ByteArray.empty, .slice none 0 0]), 2, 40) := by kernel_rfl

/-- A slice of rows, in memory: nil, empty, or cells that hold them, two each. -/
structure Rws (w : World) (v : Value) (rs : List Rw) : Prop where
  ex : ∃ a c, v = .slice a rs.length c ∧ rs.length ≤ c ∧ c ≤ maxLen ∧ (a = none → c = 0) ∧ (0 < rs.length → ∃ b off, a = some ⟨b, off, none⟩ ∧ ∀ j, j < rs.length → ∃ a' n' c',
    w.cell? ⟨b, off + j * 2, none⟩ = some (.string (mkB (rs.getD j zR).1)) ∧ w.cell? ⟨b, off + j * 2 + 1, none⟩ = some (.slice a' n' c') ∧ Strs w (.slice a' n' c') (rs.getD j zR).2)
theorem Rws.below {w w' : World} {v : Value} {rs : List Rw} (h : Rws w v rs) (hb : Below w.heap.size w w') : Rws w' v rs := by
  obtain ⟨a, c, hv, h1, h2, hn, h3⟩ := h.ex
  refine ⟨a, c, hv, h1, h2, hn, fun hp => ?_⟩
  obtain ⟨b, off, ha, hc⟩ := h3 hp
  refine ⟨b, off, ha, fun j hj => ?_⟩
  obtain ⟨a', n', c', h4, h5, h6⟩ := hc j hj
  exact ⟨a', n', c', cell_keep h4 hb, cell_keep h5 hb, h6.belowB hb⟩
theorem Rws.at {w : World} {a : Option Addr} {n c : Nat} {rs : List Rw} (h : Rws w (.slice a n c) rs) (j : Nat) (hj : j < rs.length) : ∃ b off a' n' c', a = some ⟨b, off, none⟩ ∧ w.cell? ⟨b, off + j * 2, none⟩ = some (.string (mkB (rs.getD j zR).1)) ∧ w.cell? ⟨b, off + j * 2 + 1, none⟩ = some (.slice a' n' c') ∧ Strs w (.slice a' n' c') (rs.getD j zR).2 := by
  obtain ⟨a0, c0, hv, _, _, _, h3⟩ := h.ex
  injection hv with e1 e2 e3
  subst e1
  obtain ⟨b, off, ha, hc⟩ := h3 (by omega)
  obtain ⟨a', n', c', h4, h5, h6⟩ := hc j hj
  exact ⟨b, off, a', n', c', ha, h4, h5, h6⟩
theorem Rws.lenT {w : World} {a : Option Addr} {n c : Nat} {rs : List Rw} (h : Rws w (.slice a n c) rs) : rs.length = n ∧ n ≤ c ∧ c ≤ maxLen := by
  obtain ⟨_, _, hv, h1, h2, _⟩ := h.ex
  injection hv with e1 e2 e3
  subst e2 e3; exact ⟨rfl, h1, h2⟩
theorem rws_none (w : World) : Rws w (.slice none 0 0) [] := ⟨none, 0, rfl, Nat.le_refl _, by unfold maxLen; omega, fun _ => rfl, fun h => absurd h (by simp)⟩
theorem rw_back (w : World) (A : Option Addr) (n c i : Nat) (h : i ≤ n) (hc : n ≤ c) : (Instr.sliceAt 23 (.slice A n c) (some (.int .i64 i)) none none).run Tryz.prog w = .ok (sliced A i n c 2) w := by
  have h1 : (0 : Int) ≤ (i : Int) := by omega
  have h2 : (i : Int) ≤ (n : Int) := by omega
  have h3 : (n : Int) ≤ (c : Int) := by omega
  go_simp
theorem rw_front (w : World) (A : Option Addr) (n c i : Nat) (h : i ≤ c) : (Instr.sliceAt 23 (.slice A n c) none (some (.int .i64 i)) none).run Tryz.prog w = .ok (sliced A 0 i c 2) w := by
  have h1 : (0 : Int) ≤ (i : Int) := by omega
  have h2 : (i : Int) ≤ (c : Int) := by omega
  go_simp
theorem Rws.front {w : World} {A : Option Addr} {n c : Nat} {l : List Rw} (h : Rws w (.slice A n c) l) {i : Nat} (hi : i ≤ n) : ∃ A', sliced A 0 i c 2 = .slice A' i c ∧ ∀ w', Rws w' (.slice A n c) l → Rws w' (.slice A' i c) (l.take i) := by
  refine ⟨_, rfl, fun w' h' => ?_⟩
  obtain ⟨hl, hnc, -⟩ := h.lenT
  obtain ⟨_, _, hv, h1, h2, h3, h4⟩ := h'.ex
  injection hv with e1 e2 e3
  subst e1 e3
  have hli : (l.take i).length = i := by rw [List.length_take]; omega
  refine ⟨_, c, by rw [hli], by omega, h2, fun e => ?_, fun hp => ?_⟩
  · by_cases hc : c = 0
    · exact hc
    · rw [if_neg hc] at e
      exact h3 (by cases A with | none => rfl | some x => cases e)
  · rw [hli] at hp
    obtain ⟨b, off, rfl, hc⟩ := h4 (by omega)
    refine ⟨b, off, ?_, fun j hj => ?_⟩
    · rw [if_neg (by omega)]; simp [addr_add]
    · rw [hli] at hj
      have hg : (l.take i).getD j zR = l.getD j zR := by simp [List.getD_eq_getElem?_getD, hj]
      rw [hg]; exact hc j (by omega)
theorem Rws.back {w : World} {A : Option Addr} {n c : Nat} {l : List Rw} (h : Rws w (.slice A n c) l) {i : Nat} (hi : i ≤ n) : ∃ A', sliced A i n c 2 = .slice A' (n - i) (c - i) ∧ ∀ w', Rws w' (.slice A n c) l → Rws w' (.slice A' (n - i) (c - i)) (l.drop i) := by
  refine ⟨_, rfl, fun w' h' => ?_⟩
  obtain ⟨hl, hnc, -⟩ := h.lenT
  obtain ⟨_, _, hv, h1, h2, h3, h4⟩ := h'.ex
  injection hv with e1 e2 e3
  subst e1 e3
  have hli : (l.drop i).length = n - i := by rw [List.length_drop, hl]
  refine ⟨_, c - i, by rw [hli], by omega, by omega, fun e => ?_, fun hp => ?_⟩
  · by_cases hc : c = i
    · omega
    · rw [if_neg hc] at e
      have := h3 (by cases A with | none => rfl | some x => cases e)
      omega
  · rw [hli] at hp
    obtain ⟨b, off, rfl, hc⟩ := h4 (by omega)
    refine ⟨b, off + i * 2, ?_, fun j hj => ?_⟩
    · rw [if_neg (by omega)]; simp [addr_add]
    · rw [hli] at hj
      have hg : (l.drop i).getD j zR = l.getD (i + j) zR := by simp [List.getD_eq_getElem?_getD, List.getElem?_drop]
      rw [hg, show off + i * 2 + j * 2 = off + (i + j) * 2 by omega]; exact hc (i + j) (by omega)

/-! ### Rows of the call's own -/
def rwC : List Rw → List Value → List Value
  | r :: rs, y :: ys => .string (mkB r.1) :: y :: rwC rs ys
  | _, _ => []
theorem rwC_len : ∀ {rs : List Rw} {ys : List Value}, ys.length = rs.length → (rwC rs ys).length = rs.length * 2
  | [], [], _ => rfl
  | r :: rs, y :: ys, h => by
    have := rwC_len (rs := rs) (ys := ys) (by simpa using h)
    rw [rwC, List.length_cons, List.length_cons, this, List.length_cons]; omega
theorem rwC_app : ∀ {rs : List Rw} {ys : List Value} (ls : List Rw) (zs : List Value), ys.length = rs.length → rwC (rs ++ ls) (ys ++ zs) = rwC rs ys ++ rwC ls zs
  | [], [], _, _, _ => rfl
  | r :: rs, y :: ys, ls, zs, h => by
    have := rwC_app (rs := rs) (ys := ys) ls zs (by simpa using h)
    rw [List.cons_append, List.cons_append, rwC, this, rwC]; rfl
theorem rwC_at : ∀ {rs : List Rw} {ys : List Value}, ys.length = rs.length → ∀ j, j < rs.length → (rwC rs ys)[j * 2]? = some (.string (mkB (rs.getD j zR).1)) ∧ (rwC rs ys)[j * 2 + 1]? = some (ys.getD j undef)
  | r :: rs, y :: ys, _, 0, _ => ⟨rfl, rfl⟩
  | r :: rs, y :: ys, h, j + 1, hj => by
    have := rwC_at (rs := rs) (ys := ys) (by simpa using h) j (by simpa using hj)
    rw [show (j + 1) * 2 = j * 2 + 2 by omega, rwC]
    exact this
theorem rwC_one : ∀ {rs : List Rw} {ys : List Value}, (ys.all fun u => u.oneCell') = true → ((rwC rs ys).all fun u => u.oneCell') = true
  | [], _, _ => rfl
  | r :: rs, [], _ => rfl
  | r :: rs, y :: ys, h => by
    rw [List.all_cons, Bool.and_eq_true] at h
    rw [rwC, List.all_cons, List.all_cons, h.1, rwC_one h.2]; rfl
/-- The rows' versions: each a row of texts of the call's own. -/
def RwI (w : World) (lo : Nat) (ys : List Value) (rs : List Rw) : Prop := ys.length = rs.length ∧ ∀ j, j < rs.length → w.ownsRow lo 9 1 (ys.getD j undef) (rs.getD j zR).2.length (strC (rs.getD j zR).2)
theorem RwI.nil (w : World) (lo : Nat) : RwI w lo [] [] := ⟨rfl, fun j hj => absurd hj (Nat.not_lt_zero j)⟩
theorem own_block {w : World} {base : Nat} {e : TypeId} {size : Nat} {v : Value} {n : Nat} {xs : List Value} (h : w.ownsRow base e size v n xs) {b : Nat} (hb : v.ownBlock = some b) : ∃ cs, w.heap[b]? = some (.cells cs e (0, 0)) := by
  rcases h.2 with ⟨rfl, _⟩ | ⟨g, cap, cur, rfl, _, hh, _⟩
  · cases hb
  · have e1 : g = b := Option.some.inj hb
    subst e1; exact ⟨cur, hh⟩
theorem RwI.keep {w w' : World} {lo : Nat} {ys : List Value} {rs : List Rw} (h : RwI w lo ys rs) (hk : ∀ (b : Nat) (cs : Array Value), w.heap[b]? = some (.cells cs 9 (0, 0)) → w'.heap[b]? = w.heap[b]?) : RwI w' lo ys rs :=
  ⟨h.1, fun j hj => row_heap (h.2 j hj) fun b hb => by obtain ⟨cs, hc⟩ := own_block (h.2 j hj) hb; exact hk b cs hc⟩
theorem RwI.below {w w' : World} {lo : Nat} {ys : List Value} {rs : List Rw} (h : RwI w lo ys rs) (hb : Below w.heap.size w w') : RwI w' lo ys rs := h.keep fun b cs hc => hb.block b (Array.getElem?_eq_some_iff.1 hc).1
theorem RwI.base {w : World} {lo lo' : Nat} {ys : List Value} {rs : List Rw} (h : RwI w lo ys rs) (hl : lo' ≤ lo) : RwI w lo' ys rs := ⟨h.1, fun j hj => row_base (h.2 j hj) hl⟩
theorem gd_snoc {α : Type} {l : List α} {x z : α} {j n : Nat} (hn : l.length = n) (hj : j < n + 1) : (l ++ [x]).getD j z = if j = n then x else l.getD j z := by
  rw [List.getD_eq_getElem?_getD, List.getElem?_append]
  by_cases h : j < l.length
  · rw [if_pos h, if_neg (by omega), List.getD_eq_getElem?_getD]
  · have e : j = n := by omega
    rw [if_neg h, if_pos e, e, ← hn, Nat.sub_self]; rfl
theorem RwI.snoc {w : World} {lo : Nat} {ys : List Value} {rs : List Rw} (h : RwI w lo ys rs) {y : Value} {r : Rw} (hy : w.ownsRow lo 9 1 y r.2.length (strC r.2)) : RwI w lo (ys ++ [y]) (rs ++ [r]) := by
  refine ⟨by rw [List.length_append, List.length_append, h.1]; rfl, fun j hj => ?_⟩
  rw [List.length_append, List.length_singleton] at hj
  rw [gd_snoc h.1 hj, gd_snoc rfl hj]
  by_cases e : j = rs.length
  · rw [if_pos e, if_pos e]; exact hy
  · rw [if_neg e, if_neg e]; exact h.2 j (by omega)
theorem gd_app {α : Type} {l m : List α} {z : α} {j n : Nat} (hn : l.length = n) : (l ++ m).getD j z = if j < n then l.getD j z else m.getD (j - n) z := by
  rw [List.getD_eq_getElem?_getD, List.getElem?_append, hn]
  by_cases h : j < n
  · rw [if_pos h, if_pos h, List.getD_eq_getElem?_getD]
  · rw [if_neg h, if_neg h, List.getD_eq_getElem?_getD]
theorem RwI.app {w : World} {lo : Nat} {ys zs : List Value} {rs ls : List Rw} (h : RwI w lo ys rs) (k : RwI w lo zs ls) : RwI w lo (ys ++ zs) (rs ++ ls) := by
  refine ⟨by rw [List.length_append, List.length_append, h.1, k.1], fun j hj => ?_⟩
  rw [List.length_append] at hj
  rw [gd_app h.1, gd_app rfl]
  by_cases e : j < rs.length
  · rw [if_pos e, if_pos e]; exact h.2 j e
  · rw [if_neg e, if_neg e]; exact k.2 (j - rs.length) (by omega)
theorem RwI.slices {w : World} {lo : Nat} {ys : List Value} {rs : List Rw} (h : RwI w lo ys rs) : (ys.all fun u => u.oneCell') = true := List.all_eq_true.2 fun u hu => by
  obtain ⟨j, hj, rfl⟩ := List.getElem_of_mem hu
  obtain ⟨a, c, e, -⟩ := stsO (h.2 j (by rw [← h.1]; exact hj))
  rw [gd_at hj] at e
  rw [e]; rfl
/-- Rows of the call's own: the row of rows, and each one's versions. -/
def RwO (w : World) (N : Nat) (v : Value) (rs : List Rw) : Prop := ∃ ys, w.ownsRow N 63 2 v rs.length (rwC rs ys) ∧ RwI w N ys rs
theorem RwO.nil (w : World) (N : Nat) : RwO w N (.slice none 0 0) [] := ⟨[], World.ownsRow_nil _ _ _ _, RwI.nil _ _⟩
theorem RwO.below {w w' : World} {N : Nat} {v : Value} {rs : List Rw} (h : RwO w N v rs) (hb : Below w.heap.size w w') : RwO w' N v rs := by
  obtain ⟨ys, h1, h2⟩ := h
  exact ⟨ys, ownsRow_belowB h1 hb, h2.below hb⟩
theorem RwO.base {w : World} {N N' : Nat} {v : Value} {rs : List Rw} (h : RwO w N v rs) (hn : N' ≤ N) : RwO w N' v rs := by
  obtain ⟨ys, h1, h2⟩ := h
  exact ⟨ys, row_base h1 hn, h2.base hn⟩
theorem rws_of {w : World} {N lo : Nat} {v : Value} {rs : List Rw} {ys : List Value} (h1 : w.ownsRow N 63 2 v rs.length (rwC rs ys)) (h2 : RwI w lo ys rs) : Rws w v rs := by
  obtain ⟨hl, hf⟩ := h1
  rcases hf with ⟨rfl, h0⟩ | ⟨g, cap, cur, rfl, hg, hh, hnc, hcm, hsz, htk⟩
  · have : rs = [] := List.eq_nil_of_length_eq_zero h0
    subst this; exact rws_none w
  · refine ⟨some ⟨g, 0, none⟩, cap, rfl, hnc, hcm, (fun e => by cases e), fun hp => ⟨g, 0, rfl, fun j hj => ?_⟩⟩
    have hrow : w.ownsRow N 63 2 (.slice (some ⟨g, 0, none⟩) rs.length cap) rs.length (rwC rs ys) := ⟨hl, .inr ⟨g, cap, cur, rfl, hg, hh, hnc, hcm, hsz, htk⟩⟩
    obtain ⟨c0, c1⟩ := rwC_at h2.1 j hj
    obtain ⟨a, c, e, hs⟩ := stsO (h2.2 j hj)
    rw [e] at c1
    refine ⟨a, _, c, ?_, ?_, hs⟩
    · rw [Nat.zero_add, hrow.cellAt (j * 2) (by omega), c0]
    · rw [Nat.zero_add, hrow.cellAt (j * 2 + 1) (by omega), c1]
theorem RwO.rws {w : World} {N : Nat} {v : Value} {rs : List Rw} (h : RwO w N v rs) : Rws w v rs := by
  obtain ⟨ys, h1, h2⟩ := h
  exact rws_of h1 h2
theorem RwO.form {w : World} {N : Nat} {v : Value} {rs : List Rw} (h : RwO w N v rs) : ∃ a c, v = .slice a rs.length c ∧ Rws w (.slice a rs.length c) rs := by
  have hr := h.rws
  obtain ⟨a, c, rfl, _⟩ := hr.ex
  exact ⟨a, c, rfl, hr⟩
/-- An append onto rows turns no row of texts. -/
theorem txt_kept {w w' : World} {N n : Nat} {v : Value} {xs : List Value} (hown : w.ownsRow N 63 2 v n xs) (hg : w.grownBy w' v.ownBlock) : ∀ (b : Nat) (cs : Array Value), w.heap[b]? = some (.cells cs 9 (0, 0)) → w'.heap[b]? = w.heap[b]? := fun b cs hc =>
  hg.block b (Array.getElem?_eq_some_iff.1 hc).1 fun e => own_nebox hown hc (by decide) e.symm
theorem run_app_rw {w : World} {base n : Nat} {v : Value} {rs : List Rw} {ys : List Value} (hys : ys.length = rs.length) (hown : w.ownsRow base 63 2 v n (rwC rs ys)) {a0 : Option Addr} {m c : Nat} {ls : List Rw} {zs : List Value} (hm : ls.length = m) (hz : zs.length = ls.length) (hnil : a0 = none → m = 0 ∧ c = 0)
    (hsrc : ∀ ad, a0 = some ad → ∀ j u, (rwC ls zs)[j]? = some u → w.cell? (ad.add j) = some u) (h1 : (zs.all fun u => u.oneCell') = true) (hlen : n + m ≤ 2000000) (hbase : base ≤ w.heap.size) (t : TypeId) :
    ∃ v' w', (Builtin.append_ #[23, 23] t #[v, .slice a0 m c]).run Tryz.prog w = .ok v' w' ∧ w'.ownsRow base 63 2 v' (n + m) (rwC (rs ++ ls) (ys ++ zs)) ∧ w.grownBy w' v.ownBlock ∧ (v'.ownBlock = v.ownBlock ∨ v'.ownBlock = some w.heap.size ∧ w.heap.size < w'.heap.size) := by
  obtain ⟨i, hi, hz', hsize, hby⟩ := info_parts Tryz.info_row
  rw [rwC_app ls zs hys]
  cases a0 with
  | none =>
    obtain ⟨rfl, rfl⟩ := hnil rfl
    have hL : ls = [] := List.eq_nil_of_length_eq_zero hm
    subst hL
    have hr := run_append_owned_none (P := Tryz.prog) (w := w) base 23 t 63 i 2 Tryz.underlying23 hi v n _ hown
    exact ⟨v, w, hr, by simpa [rwC] using hown, ⟨rfl, rfl, rfl, Nat.le_refl _, fun _ _ _ => rfl⟩, .inl rfl⟩
  | some ad =>
    obtain ⟨v', w', hr, h2, h3, _, h5⟩ := run_append_own_at (P := Tryz.prog) w base 23 t 63 i (.agg #[.string ByteArray.empty, .slice none 0 0]) 2 40 Tryz.underlying23 hi hz' hsize hby rfl (by decide) v n _ hown ad m c (rwC ls zs) (by rw [rwC_len hz, hm]) (hsrc ad rfl) (fun u hu => List.all_eq_true.1 (rwC_one h1) u hu) (by unfold maxLen; omega) (by omega) hbase
    refine ⟨v', w', hr, h2, h3, h5.imp id fun e => ⟨e, ?_⟩⟩
    exact (h2.lt _ e).2
/-- Rows of the call's own as what is appended. -/
theorem own_src {w : World} {N n : Nat} {a : Option Addr} {c : Nat} {xs : List Value} {e : TypeId} {size : Nat} (h : w.ownsRow N e size (.slice a n c) n xs) : (a = none → n = 0 ∧ c = 0) ∧ ∀ ad, a = some ad → ∀ j u, xs[j]? = some u → w.cell? (ad.add j) = some u := by
  refine ⟨fun e => ?_, fun ad e j u hj => ?_⟩
  · rcases h.2 with ⟨hv, h0⟩ | ⟨g, cap, cur, hv, _⟩
    · injection hv with _ _ hc; exact ⟨h0, hc⟩
    · injection hv with ha; rw [e] at ha; cases ha
  · rcases h.2 with ⟨hv, h0⟩ | ⟨g, cap, cur, hv, _⟩
    · injection hv with ha; rw [e] at ha; cases ha
    · injection hv with ha hn hc
      rw [e] at ha; cases ha
      exact h.cells (by rw [e]; rfl) j u hj
theorem blk_src {w : World} {b : Nat} {r : Rw} {y : Value} (h : w.heap[b]? = some (.cells #[.string (mkB r.1), y] 63 (0, 0))) : ∀ ad, (some ⟨b, 0, none⟩ : Option Addr) = some ad → ∀ j u, (rwC [r] [y])[j]? = some u → w.cell? (ad.add j) = some u := by
  intro ad e j u hj
  cases e
  obtain ⟨c0, c1, _, _⟩ := row2 h
  rw [addr_add, Nat.zero_add]
  match j, hj with
  | 0, hj => rw [c0]; exact hj
  | 1, hj => rw [c1]; exact hj
  | j + 2, hj => simp [rwC] at hj

/-! ### What operations of a region leave -/
/-- Rows in a slot: their blocks among bs. -/
def rwsG (N : Nat) (rs : List Rw) : World → Value → (Nat → Prop) → Prop := fun w v bs => ∃ ys, w.ownsRow N 63 2 v rs.length (rwC rs ys) ∧ RwI w N ys rs ∧ (∀ b, v.ownBlock = some b → bs b) ∧ ∀ j, j < rs.length → ∀ b, (ys.getD j undef).ownBlock = some b → bs b
def rwsX (X : Value) (N : Nat) (rs : List Rw) : World → Value → (Nat → Prop) → Prop := fun w _ bs => rwsG N rs w X bs
theorem rwsG_near {N : Nat} {rs : List Rw} : ∀ (w w' : World) (v : Value) (bs : Nat → Prop), (∀ b, bs b → w'.heap[b]? = w.heap[b]?) → rwsG N rs w v bs → rwsG N rs w' v bs := by
  rintro w w' v bs hb ⟨ys, h1, h2, h3, h4⟩
  exact ⟨ys, row_heap h1 fun b e => hb b (h3 b e), ⟨h2.1, fun j hj => row_heap (h2.2 j hj) fun b e => hb b (h4 j hj b e)⟩, h3, h4⟩
theorem rwsX_near {X : Value} {N : Nat} {rs : List Rw} : ∀ (w w' : World) (v : Value) (bs : Nat → Prop), (∀ b, bs b → w'.heap[b]? = w.heap[b]?) → rwsX X N rs w v bs → rwsX X N rs w' v bs := fun w w' _ bs hb h => rwsG_near w w' X bs hb h
theorem rwsG.own {N : Nat} {rs : List Rw} {w : World} {v : Value} {bs : Nat → Prop} (h : rwsG N rs w v bs) : RwO w N v rs := by
  obtain ⟨ys, h1, h2, _⟩ := h
  exact ⟨ys, h1, h2⟩
theorem RwO.toG {w : World} {N N' : Nat} {v : Value} {rs : List Rw} (h : RwO w N v rs) (hn : N' ≤ N) : ∃ bs : Nat → Prop, (∀ b, bs b → N ≤ b ∧ b < w.heap.size) ∧ rwsG N' rs w v bs := by
  obtain ⟨ys, h1, h2⟩ := h
  refine ⟨fun b => v.ownBlock = some b ∨ ∃ j, j < rs.length ∧ (ys.getD j undef).ownBlock = some b, fun b e => ?_, ys, row_base h1 hn, h2.base hn, fun b e => .inl e, fun j hj b e => .inr ⟨j, hj, e⟩⟩
  rcases e with e | ⟨j, hj, e⟩
  · exact h1.lt b e
  · exact (h2.2 j hj).lt b e
/-- A row, as a struct, in a slot. -/
def rowA (N : Nat) (p : List UInt8) (vs : List (List UInt8)) : World → Value → Option Nat → Prop := fun w v ob => ∃ y, v = .agg #[.string (mkB p), y] ∧ w.ownsRow N 9 1 y vs.length (strC vs) ∧ ob = y.ownBlock
theorem rowA_near {N : Nat} {p : List UInt8} {vs : List (List UInt8)} : ∀ (w w' : World) (v : Value) (ob : Option Nat), (∀ b, ob = some b → w'.heap[b]? = w.heap[b]?) → rowA N p vs w v ob → rowA N p vs w' v ob := by
  rintro w w' v ob hb ⟨y, rfl, h, rfl⟩
  exact ⟨y, rfl, row_heap h hb, rfl⟩
/-- A slice of one row, in a block of its own. -/
def oneR (N : Nat) (p : List UInt8) (vs : List (List UInt8)) : World → Value → (Nat → Prop) → Prop := fun w v bs => ∃ b y, v = .slice (some ⟨b, 0, none⟩) 1 1 ∧ w.heap[b]? = some (.cells #[.string (mkB p), y] 63 (0, 0)) ∧ w.ownsRow N 9 1 y vs.length (strC vs) ∧ bs b ∧ ∀ k, y.ownBlock = some k → bs k
theorem oneR_near {N : Nat} {p : List UInt8} {vs : List (List UInt8)} : ∀ (w w' : World) (v : Value) (bs : Nat → Prop), (∀ b, bs b → w'.heap[b]? = w.heap[b]?) → oneR N p vs w v bs → oneR N p vs w' v bs := by
  rintro w w' v bs hb ⟨b, y, rfl, h1, h2, h3, h4⟩
  exact ⟨b, y, rfl, (hb b h3).trans h1, row_heap h2 fun k e => hb k (h4 k e), h3, h4⟩
theorem build_row {w : World} {x : ByteArray} {a : Option Addr} {n c : Nat} : Sem.run Tryz.prog (Instr.build 63 #[(0, .string x), (1, .slice a n c)]) w = .ok (.agg #[.string x, .slice a n c]) w := by go_simp
end Go.Proofs.YtlbibgofhhdgoaaGreat

namespace Go.Proofs.YtlbibgofhhdgoaaGreat
open Go.RowKit
set_option linter.unusedVariables false
set_option maxRecDepth 100000

theorem ld_strT {w : World} {g i : Nat} {l : List UInt8} (h : w.cell? ⟨g, i, none⟩ = some (.string (mkB l))) : Sem.run Tryz.prog (Instr.loadAt 9 (.pointer (some ⟨g, i, none⟩))) w = .ok (.string (mkB l)) w := by
  go_simp
theorem ld_stsT {w : World} {g i n c : Nat} {a : Option Addr} (h : w.cell? ⟨g, i, none⟩ = some (.slice a n c)) : Sem.run Tryz.prog (Instr.loadAt 61 (.pointer (some ⟨g, i, none⟩))) w = .ok (.slice a n c) w := by
  go_simp
theorem ld_row {w : World} {g i n c : Nat} {a : Option Addr} {p : List UInt8} (h : w.cell? ⟨g, i, none⟩ = some (.string (mkB p))) (h' : w.cell? ⟨g, i + 1, none⟩ = some (.slice a n c)) : Sem.run Tryz.prog (Instr.loadAt 63 (.pointer (some ⟨g, i, none⟩))) w = .ok (.agg #[.string (mkB p), .slice a n c]) w := by
  go_simp
theorem idx_rws {w : World} {b off n c k : Nat} (h : k < n) : (Instr.indexAt 23 (.slice (some ⟨b, off, none⟩) n c) (.int .i64 (k : Int))).run Tryz.prog w = .ok (.pointer (some ⟨b, off + k * 2, none⟩)) w := by
  have h1 : (0 : Int) ≤ (k : Int) := by omega
  have h3 : (k : Int) < (n : Int) := by omega
  go_simp
theorem idx_stsT {w : World} {b off n c k : Nat} (h : k < n) : (Instr.indexAt 61 (.slice (some ⟨b, off, none⟩) n c) (.int .i64 (k : Int))).run Tryz.prog w = .ok (.pointer (some ⟨b, off + k, none⟩)) w := by
  have h1 : (0 : Int) ≤ (k : Int) := by omega
  have h3 : (k : Int) < (n : Int) := by omega
  go_simp
theorem boxT (w : World) (x y : Value) (t : TypeId) : ∃ W g, w.alloc (.cells #[x, y] t) = W ∧ w.heap.size = g ∧ W.heap[g]? = some (.cells #[x, y] t (0, 0)) ∧ Below w.heap.size w W :=
  ⟨_, _, rfl, rfl, heap_alloc_new _ _, (Below.refl _ _).alloc (Nat.le_refl _) _⟩
/-- Rows of before, behind a box that was made. -/
theorem RwO.start {w W : World} {N : Nat} {v : Value} {rs : List Rw} (h : RwO w N v rs) (hb : Below w.heap.size w W) : ∃ bs : Nat → Prop, (∀ b, bs b → b < w.heap.size) ∧ rwsG N rs W v bs := by
  obtain ⟨bs, h1, h2⟩ := h.toG (Nat.le_refl _)
  exact ⟨bs, fun b e => (h1 b e).2, rwsG_near w W v bs (fun b e => hb.block b (h1 b e).2) h2⟩

set_option maxHeartbeats 800000 in
theorem sclone_any (a : Option Addr) (n c : Nat) (l : List (List UInt8)) (w : World) (hU : Strs w (.slice a n c) l) (hl : n ≤ 1000000) :
    Calls Tryz.prog 76 #[.slice a n c] w fun e w' => ∃ v, e = .returned v ∧ w'.ownsRow w.heap.size 9 1 v l.length (strC l) ∧ Below w.heap.size w w' := by
  have q : ∀ (w : World) (a : Option Addr) (n c n' c' : Nat), (binOp .eql 61 (.slice a n c) (.slice none n' c')).run Tryz.prog w = .ok (.bool a.isNone) w := fun w a n c n' c' => Lib.run_eql_slice_nil w _ _ a n c n' c' Tryz.underlying61
  cases a with
  | none =>
    obtain ⟨rfl, rfl⟩ := hU.nil rfl
    have : l = [] := List.eq_nil_of_length_eq_zero hU.lenE.1
    subst this
    go_enter Tryz.func76, Tryz.ntmps76
    go_wp2
    go_ret
    exact ⟨_, rfl, World.ownsRow_nil _ _ _ _, Below.refl _ _⟩
  | some ad =>
    have hn := hU.lenE.1
    have hcl := strC_len l
    rw [hn] at hcl ⊢
    have SU := Lib.hid hU; have HN := Lib.hid hn
    clear hU hn
    go_enter Tryz.func76, Tryz.ntmps76
    go_wp2_with (at_builtin; refine wpList_append_src rfl _ _ 61 rfl w.heap.size 9 (.string ByteArray.empty) 1 16 Tryz.underlying61 Tryz.info_str rfl (by decide) _ 0 [] rfl (World.ownsRow_made w #[] 0 (Nat.le_refl _) (by unfold maxLen; omega) rfl) (some ad) n c (strC l) rfl hcl (fun h => by cases h) (fun ad' e => by cases e; exact (SU.out.belowB ((Below.refl _ _).alloc (Nat.le_refl _) _)).cells _ rfl) (strC_one l) (by omega) (by unfold maxLen; omega) (by simp) ?_)
    intro v' w' hown hb
    try rw [Nat.zero_add] at hown
    try rw [List.nil_append] at hown
    have HO := Lib.hid hown; have HB := Lib.hid (((Below.refl w.heap.size w).alloc (Nat.le_refl _) _).trans hb.toBelow)
    clear hown hb hcl
    go_wp2
    go_ret
    exact ⟨v', rfl, HO.out, HB.out⟩

section
variable {P : Program} {ops : Array Oper} {Q : Exit → Act → World → Prop} {a : Act} {w w0 : World} {who : Nat → Nat} {i B r ro : Nat} {o : Oper}
/-- It reckons a value whose block is one of a role. -/
theorem rol_memv (ho : ops[i]? = some o) (hw : Region.wanted o (yielded ops a.tmps) = true) {s : Nat} (hd : o.dst = some s) (hs : s < a.tmps.size) {v : Value} (hr : Sem.run P (execOp a.eval o) w = .ok (.value v) w) {p : World → Value → Option Nat → Prop} {ob : Option Nat}
    (hob : ∀ b, ob = some b → b < w.heap.size ∧ who b = r) (hp : p w v ob) (hb : Below B w0 w) : wpOp P ops Q i (RPost ops i r ro (.mem s p) B w0 a w who) a w := by
  refine rol_wp ho hw ?_
  unfold Oper.wp
  rw [hr, Oper.upon_value, hd]
  exact ⟨⟨v, by rw [dst_of ho, hd]⟩, hb, who, RKeep.same _ _ _, v, ob, put_self _ hs, hob, hp⟩
theorem rol_moves (ho : ops[i]? = some o) (hw : Region.wanted o (yielded ops a.tmps) = true) {s t : Nat} (hd : o.dst = some s) (hs : s < a.tmps.size) (hop : o.op = .move (.tmp t) ∨ o.op = .assign (.tmp t)) {p : World → Value → (Nat → Prop) → Prop}
    (h : (RLeaf.mems t p).holds r a w who) (hb : Below B w0 w) : wpOp P ops Q i (RPost ops i r ro (.mems s p) B w0 a w who) a w := by
  obtain ⟨v, bs, hv, hbs, hp⟩ := h
  exact rol_vals ho hw hd hs (ex_move (x := .tmp t) hop (eval_slot hv)) hbs hp hb
/-- It makes one block, beside others of its role that it keeps. -/
theorem rol_news (ho : ops[i]? = some o) (hw : Region.wanted o (yielded ops a.tmps) = true) {s : Nat} (hd : o.dst = some s) (hs : s < a.tmps.size) {v : Value} {x : Obj} (hr : Sem.run P (execOp a.eval o) w = .ok (.value v) (w.alloc x)) {p : World → Value → (Nat → Prop) → Prop} {bs : Nat → Prop}
    (hbs : ∀ b, bs b → b = w.heap.size ∨ b < w.heap.size ∧ who b = r) (hp : p (w.alloc x) v bs) (hb : Below B w0 w) (hB : B ≤ w.heap.size) : wpOp P ops Q i (RPost ops i r ro (.mems s p) B w0 a w who) a w := by
  refine rol_wp ho hw ?_
  unfold Oper.wp
  rw [hr, Oper.upon_value, hd]
  refine ⟨⟨v, by rw [dst_of ho, hd]⟩, hb.alloc hB _, rtag w who r, RKeep.belowO ((Below.refl _ _).alloc (Nat.le_refl _) _) r ro who, v, bs, put_self _ hs, fun b e => ?_, hp⟩
  rcases hbs b e with rfl | ⟨h1, h2⟩
  · exact ⟨by simp, rtag_new (Nat.le_refl _)⟩
  · exact ⟨by simp; omega, (rtag_old h1).trans h2⟩
/-- An append onto a row of the region's own, whose elements have memory. -/
theorem rol_grows (ho : ops[i]? = some o) (hw : Region.wanted o (yielded ops a.tmps) = true) {s : Nat} (hd : o.dst = some s) (hs : s < a.tmps.size) {v' : Value} {w' : World} (hr : Sem.run P (execOp a.eval o) w = .ok (.value v') w') {ob : Option Nat} (hg : w.grownBy w' ob) (hob : ∀ b, ob = some b → b < w.heap.size ∧ who b = r)
    {p : World → Value → (Nat → Prop) → Prop} {bs : Nat → Prop} (hbs : ∀ b, bs b → b < w'.heap.size ∧ (w.heap.size ≤ b ∨ b < w.heap.size ∧ who b = r)) (hp : p w' v' bs) (hb : Below B w0 w) (hB : B ≤ w.heap.size) (hrow : ∀ b, ob = some b → B ≤ b) : wpOp P ops Q i (RPost ops i r r (.mems s p) B w0 a w who) a w := by
  refine rol_wp ho hw ?_
  unfold Oper.wp
  rw [hr, Oper.upon_value, hd]
  refine ⟨⟨v', by rw [dst_of ho, hd]⟩, hb.grown hg hB hrow, rtag w who r, RKeep.grown hg (fun b e => (hob b e).2), v', bs, put_self _ hs, fun b e => ?_, hp⟩
  obtain ⟨h1, h2 | ⟨h2, h3⟩⟩ := hbs b e
  · exact ⟨h1, rtag_new h2⟩
  · exact ⟨h1, (rtag_old h2).trans h3⟩
end
section
variable {ops : Array Oper} {Q : Exit → Act → World → Prop} {a : Act} {w w0 : World} {who : Nat → Nat} {i B r ro : Nat} {o : Oper}
/-- 'Row{p, vs}'. -/
theorem rol_rowA (ho : ops[i]? = some o) (hw : Region.wanted o (yielded ops a.tmps) = true) {s : Nat} (hd : o.dst = some s) (hs : s < a.tmps.size) {x : Operand} {q : Nat} (hop : o.op = .build 63 #[(0, x), (1, .tmp q)]) {N n : Nat} {p : List UInt8} {vs : List (List UInt8)} (hx : a.eval x = .string (mkB p)) (hn : n = vs.length)
    (h : (RLeaf.mem q (rowG N 9 1 n (strC vs))).holds r a w who) (hb : Below B w0 w) : wpOp Tryz.prog ops Q i (RPost ops i r ro (.mem s (rowA N p vs)) B w0 a w who) a w := by
  subst hn
  obtain ⟨y, ob, hy, hob, hrow, rfl⟩ := h
  obtain ⟨a', c, rfl, -⟩ := stsO hrow
  exact rol_memv ho hw hd hs (ex_build hop (vs := #[(0, .string (mkB p)), (1, .slice a' vs.length c)]) (by simp only [List.map_toArray, List.map_cons, List.map_nil, hx, eval_slot hy]) build_row) hob ⟨_, rfl, hrow, rfl⟩ hb
/-- '[]Row{r}'. -/
theorem rol_oneR (ho : ops[i]? = some o) (hw : Region.wanted o (yielded ops a.tmps) = true) {s q : Nat} (hd : o.dst = some s) (hs : s < a.tmps.size) (hop : o.op = .buildSlice 23 1 #[(0, .tmp q)]) {N : Nat} {p : List UInt8} {vs : List (List UInt8)}
    (h : (RLeaf.mem q (rowA N p vs)).holds r a w who) (hb : Below B w0 w) (hB : B ≤ w.heap.size) : wpOp Tryz.prog ops Q i (RPost ops i r ro (.mems s (oneR N p vs)) B w0 a w who) a w := by
  obtain ⟨v, ob, hv, hob, y, rfl, hrow, rfl⟩ := h
  obtain ⟨a', c, rfl, -⟩ := stsO hrow
  refine rol_news ho hw hd hs (x := .cells #[.string (mkB p), .slice a' vs.length c] 63) (v := .slice (some ⟨w.heap.size, 0, none⟩) 1 1) (ex_slice hop (vs := #[(0, .agg #[.string (mkB p), .slice a' vs.length c])]) (by simp only [List.map_toArray, List.map_cons, List.map_nil, eval_slot hv]) (by go_simp)) (bs := fun b => b = w.heap.size ∨ Value.ownBlock (.slice a' vs.length c) = some b) ?_ ⟨_, _, rfl, heap_alloc_new _ _, ownsRow_belowB hrow ((Below.refl _ _).alloc (Nat.le_refl _) _), .inl rfl, fun k e => .inr e⟩ hb hB
  rintro b (e | e)
  · exact .inl e
  · exact .inr (hob b e)
/-- 'append(rows, r)'. -/
theorem rol_pushR (ho : ops[i]? = some o) (hw : Region.wanted o (yielded ops a.tmps) = true) {s : Nat} (hd : o.dst = some s) (hs : s < a.tmps.size) {y : Operand} {q : Nat} (hop : o.op = .call { callee := .builtin .append, args := #[y, .tmp q], argTypes := #[23, 23] })
    {N t n : Nat} {rs : List Rw} {X : Value} (hn : rs.length = n) (h : (RLeaf.mems t (rwsX X N rs)).holds r a w who) (hy : a.eval y = X) {p : List UInt8} {vs : List (List UInt8)} (hq : (RLeaf.mems q (oneR N p vs)).holds r a w who) (hlen : n ≤ 1000000) (hb : Below B w0 w) (hB : B ≤ N) (hNw : N ≤ w.heap.size) {rs' : List Rw} (hrs : rs' = rs ++ [(p, vs)]) :
    wpOp Tryz.prog ops Q i (RPost ops i r r (.mems s (rwsG N rs')) B w0 a w who) a w := by
  subst hn hrs
  obtain ⟨v, bs, hv, hbs, ys, h1, h2, h3, h4⟩ := h
  obtain ⟨u, cs, hu, hcs, b, z, rfl, g1, g2, g3, g4⟩ := hq
  obtain ⟨az, cz, rfl, -⟩ := stsO g2
  obtain ⟨v', w', hr, k1, k2, k3⟩ := run_app_rw (ls := [(p, vs)]) (zs := [.slice az vs.length cz]) h2.1 h1 rfl rfl (a0 := some ⟨b, 0, none⟩) (m := 1) (c := 1) (fun e => by cases e) (blk_src g1) rfl (by omega) hNw o.type
  have hkt := txt_kept h1 k2
  have hI := (h2.keep hkt).snoc (r := (p, vs)) (y := .slice az vs.length cz) (row_heap g2 fun b' hb' => by obtain ⟨cs', hc'⟩ := own_block g2 hb'; exact hkt b' cs' hc')
  refine rol_grows ho hw hd hs (ex_append hop hy (eval_slot hu) hr) k2 (fun b' e => hbs b' (h3 b' e)) (bs := fun b' => v'.ownBlock = some b' ∨ ∃ j, j < (rs ++ [(p, vs)]).length ∧ ((ys ++ [Value.slice az vs.length cz]).getD j undef).ownBlock = some b') ?_ ⟨_, by rw [List.length_append]; exact k1, hI, fun b' e => .inl e, fun j hj b' e => .inr ⟨j, hj, e⟩⟩ hb (Nat.le_trans hB hNw) (fun b' e => Nat.le_trans hB (h1.lt b' e).1)
  rintro b' (e | ⟨j, hj, e⟩)
  · rcases k3 with k | ⟨k, k'⟩
    · rw [k] at e
      exact ⟨Nat.lt_of_lt_of_le (hbs b' (h3 b' e)).1 k2.size, .inr (hbs b' (h3 b' e))⟩
    · rw [k] at e; cases e; exact ⟨k', .inl (Nat.le_refl _)⟩
  · have hin : b' < w.heap.size ∧ who b' = r := by
      rw [List.length_append, List.length_singleton] at hj
      rw [gd_snoc h2.1 hj] at e
      by_cases ej : j = rs.length
      · rw [if_pos ej] at e; exact hcs b' (g4 b' e)
      · rw [if_neg ej] at e; exact hbs b' (h4 j (by omega) b' e)
    exact ⟨Nat.lt_of_lt_of_le hin.1 k2.size, .inr hin⟩
end

set_option maxHeartbeats 3200000 in
theorem town_any (V : Value) (rs : List Rw) (w : World) (hV : Rws w V rs) (hl : rs.length ≤ 100000) (hv : ∀ r ∈ rs, r.2.length ≤ 100000) :
    Calls Tryz.prog 52 #[V] w fun e w' => ∃ v, e = .returned v ∧ RwO w' w.heap.size v rs ∧ Below w.heap.size w w' := by
  obtain ⟨Al, cl, rfl, hl1, hl2, -, -⟩ := hV.ex
  unfold maxLen at hl2
  obtain ⟨m, hm⟩ : ∃ n, rs.length = n := ⟨_, rfl⟩
  rw [hm] at hl hl1 hV ⊢
  obtain ⟨N0, hN0⟩ : ∃ N, w.heap.size = N := ⟨_, rfl⟩
  have e1 : ∀ args w, (callFunc 76 args).run Tryz.prog w = .ok (.enter 76 args) w := enters_of Tryz.func76 (by kernel_rfl) rfl
  have SV := Lib.hid hV; have HM := Lib.hid hm; have HN0 := Lib.hid hN0; have HV := Lib.hid hv
  rw [hN0]
  clear hV hm hN0 hv
  go_enter Tryz.func52, Tryz.ntmps52
  go_wp2
  go_loopw [3, 8] (fun v3 i wr => ∃ (k : Nat) (X : Value), k ≤ m ∧ i = .int .i64 k ∧ X = v3 ∧ Hid (RwO wr N0 X (rs.take k)) ∧ Hid (Below N0 w wr)) (fun _ i _ => m - (intOf i).toNat)
  case atStart => exact ⟨0, _, Nat.zero_le _, rfl, rfl, Lib.hid (RwO.nil _ _), Lib.hid (Below.refl _ _)⟩
  case round =>
    obtain ⟨k, X, hk, rfl, rfl, HO, HB⟩ := hrel
    by_cases hlt : k < m
    · have hkl : k < rs.length := by rw [HM.out]; exact hlt
      have hBW : Below w.heap.size w wr := by rw [HN0.out]; exact HB.out
      obtain ⟨bl, ol, ay, ny, cy, rfl, c0, c1, hsy⟩ := SV.out.at k hkl
      have hc0 := cell_keep c0 hBW
      have hc1 := cell_keep c1 hBW
      have htk : rs.take (k + 1) = rs.take k ++ [rs.getD k zR] := by rw [List.take_succ_eq_append_getElem hkl, gd_at hkl]
      have hvy := HV.out _ (gd_in (z := zR) hkl)
      have hpl : (rs.take k).length = k := by rw [List.length_take, HM.out]; omega
      obtain ⟨y, hy⟩ : ∃ y, y = rs.getD k zR := ⟨_, rfl⟩
      rw [← hy] at hc0 hsy htk hvy
      obtain ⟨p, vs⟩ := y
      simp only at hc0 hc1 hsy hvy
      have hny := hsy.lenE
      obtain ⟨P2, hP2⟩ : ∃ P2, P2 = rs.take k ++ [(p, vs)] := ⟨_, rfl⟩
      rw [← hP2] at htk
      have hNs : N0 ≤ wr.heap.size := by rw [← HN0.out]; exact hBW.size
      have HTK := Lib.hid htk; have HP2 := Lib.hid hP2; have HPL := Lib.hid hpl; have HKM := Lib.hid (show k ≤ 1000000 by omega); have HNY := Lib.hid (show ny ≤ 1000000 by omega); have SY := Lib.hid hsy; have HNS := Lib.hid hNs
      clear hy htk hvy hpl hsy hny hP2 hBW hNs c0 c1
      have hkb : (k : Int) < (m : Int) := by omega
      go_upto_region 5 with fail
      obtain ⟨W5, gk, hW5, hgk, r5, hb5⟩ := boxT wr (.string (mkB p)) (.slice ay ny cy) 63
      rw [hW5, hgk]
      obtain ⟨bs, hbs, hst⟩ := HO.out.start hb5
      have RK := Lib.hid r5
      have HBS := Lib.hid hbs; have HST := Lib.hid hst; have HSZ := Lib.hid hb5.size
      have HGN := Lib.hid (show ∀ b, bs b → ¬ b = gk from fun b e q => by have := hbs b e; omega)
      have HB5 := Lib.hid (show Below N0 w W5 from HB.out.trans (hb5.mono HNS.out))
      have HNS5 := Lib.hid (show N0 ≤ W5.heap.size from Nat.le_trans HNS.out hb5.size)
      clear hW5 hgk r5 hb5 hc0 hc1 hbs hst
      refine rol_run (by kernel_rfl) [[], [], [1], [], [3], [3, 4], [1, 2, 3, 4, 5], [1, 2, 3, 4, 5, 6], [0, 1, 2, 3, 4, 5, 6, 7], [0, 1, 2, 3, 4, 5, 6, 7, 8]] (by kernel_rfl) [12, 13, 14, 15, 16, 17, 18, 19, 20, 3] [[12], [], [1, 10], [], [3, 10], [4], [2, 5], [6], [0, 7, 11], [8]] [0, 0, 0, 0, 0, 1, 1, 1, 1, 1, 3, 1, 0] [0, 0, 0, 0, 0, 0, 0, 0, 1, 0] [1000, 1000, 1000, 1000, 1000, 6, 7, 8, 1000, 1000, 1000, 8, 9] [.val 12 (X), .val 13 (.pointer (some ⟨gk, 0, none⟩)), .val 14 (.string (mkB p)), .val 15 (.pointer (some ⟨gk, 1, none⟩)), .val 16 (.slice ay ny cy), .mem 17 (rowG N0 9 1 vs.length (strC vs)), .mem 18 (rowA N0 p vs), .mems 19 (oneR N0 p vs), .mems 20 (rwsG N0 P2), .mems 3 (rwsG N0 P2), .box (gk) (.cells #[.string (mkB p), .slice ay ny cy] 63), .mems 3 (rwsX X N0 (rs.take k)), .val 3 X] (by kernel_rfl) ?_ (N0) (W5.heap.size) rfl HB5.out rfl (fun k => if k = gk then 3 else 1) ?_ ?_ ?_
      · intro j hj
        have hj3 : j < 13 := hj
        have hj2 : j = 0 ∨ j = 1 ∨ j = 2 ∨ j = 3 ∨ j = 4 ∨ j = 5 ∨ j = 6 ∨ j = 7 ∨ j = 8 ∨ j = 9 ∨ j = 10 ∨ j = 11 ∨ j = 12 := by omega
        clear hj hj3
        rcases hj2 with rfl | rfl | rfl | rfl | rfl | rfl | rfl | rfl | rfl | rfl | rfl | rfl | rfl
        · exact trivial
        · exact trivial
        · exact trivial
        · exact trivial
        · exact trivial
        · exact rowG_near
        · exact rowA_near
        · exact oneR_near
        · exact rwsG_near
        · exact rwsG_near
        · exact trivial
        · exact rwsX_near
        · exact trivial
      · intro j hj0 hj
        have hj1 : 10 ≤ j := hj0
        have hj3 : j < 13 := hj
        have hj2 : j = 10 ∨ j = 11 ∨ j = 12 := by omega
        clear hj0 hj hj1 hj3
        rcases hj2 with rfl | rfl | rfl
        · exact ⟨RK.out, if_pos rfl⟩
        · exact ⟨_, bs, rfl, fun b e => ⟨Nat.lt_of_lt_of_le (HBS.out b e) HSZ.out, if_neg (HGN.out b e)⟩, HST.out⟩
        · exact rfl
      · intro i hi a wx who hG hF
        have hz : a.tmps.size = 23 := hG.size
        have hi3 : i < 10 := hi
        have hi2 : i = 0 ∨ i = 1 ∨ i = 2 ∨ i = 3 ∨ i = 4 ∨ i = 5 ∨ i = 6 ∨ i = 7 ∨ i = 8 ∨ i = 9 := by omega
        clear hi hi3
        rcases hi2 with rfl | rfl | rfl | rfl | rfl | rfl | rfl | rfl | rfl | rfl
        · exact rol_val rfl rfl rfl (by rw [hz]; decide) (ex_move (Or.inl rfl) (eval_slot (hF 12 (by decide)))) hG.below
        · exact rol_val rfl rfl rfl (by rw [hz]; decide) (ex_field rfl (eval_slot ((hG.slots 5 (by decide)).trans rfl)) (by go_simp)) hG.below
        · exact rol_val rfl rfl rfl (by rw [hz]; decide) (ex_load rfl (eval_slot (hF 1 (by decide))) (ld_strT (row2 (hF 10 (by decide)).1).1)) hG.below
        · exact rol_val rfl rfl rfl (by rw [hz]; decide) (ex_field rfl (eval_slot ((hG.slots 5 (by decide)).trans rfl)) (by go_simp)) hG.below
        · exact rol_val rfl rfl rfl (by rw [hz]; decide) (ex_load rfl (eval_slot (hF 3 (by decide))) (ld_stsT (row2 (hF 10 (by decide)).1).2.1)) hG.below
        · refine rol_calls rfl rfl rfl (by rw [hz]; decide) (ex_call rfl (by simp [eval_slot (hF 4 (by decide))]) e1) (sclone_any ay ny cy vs wx (SY.out.belowB (by rw [HN0.out]; exact hG.below)) HNY.out) ?_ hG.below (Nat.le_trans HNS5.out hG.new)
          rintro e w1 ⟨u, rfl, hown, hb1⟩
          exact ⟨u, rfl, hb1, .inr (.inl ⟨_, u.ownBlock, rfl, fun b e => hown.lt b e, row_base hown (Nat.le_trans HNS5.out hG.new), rfl⟩)⟩
        · exact rol_rowA rfl rfl rfl (by rw [hz]; decide) rfl (eval_slot (hF 2 (by decide))) rfl (hF 5 (by decide)) hG.below
        · exact rol_oneR rfl rfl rfl (by rw [hz]; decide) rfl (hF 6 (by decide)) hG.below (Nat.le_trans HNS5.out hG.new)
        · exact rol_pushR rfl rfl rfl (by rw [hz]; decide) rfl HPL.out (hF 11 (by decide)) (eval_slot (hF 0 (by decide))) (hF 7 (by decide)) HKM.out hG.below (Nat.le_refl _) (Nat.le_trans HNS5.out hG.new) HP2.out
        · exact rol_moves rfl rfl rfl (by rw [hz]; decide) (Or.inr rfl) (hF 8 (by decide)) hG.below
      · intro a wx who hG hF
        obtain ⟨v3, bs3, fv3, fo3, fp3⟩ := hF 9 (of_decide_eq_true (by kernel_rfl)) (of_decide_eq_true (by kernel_rfl))
        replace fv3 : a.tmps.getD 3 undef = v3 := eval_slot (s := 3) fv3
        have hbx := hG.below
        have hnx := hG.new
        rw [hG.frame]
        simp only [List.foldl_cons, List.foldl_nil, List.setIfInBounds_toArray, List.set_cons_zero, List.set_cons_succ]
        generalize a.tmps.getD 12 undef = u12
        generalize a.tmps.getD 13 undef = u13
        generalize a.tmps.getD 14 undef = u14
        generalize a.tmps.getD 15 undef = u15
        generalize a.tmps.getD 16 undef = u16
        generalize a.tmps.getD 17 undef = u17
        generalize a.tmps.getD 18 undef = u18
        generalize a.tmps.getD 19 undef = u19
        generalize a.tmps.getD 20 undef = u20
        rw [fv3]
        clear hF hG fv3
        have HRW := Lib.hid (show RwO wx N0 v3 P2 from fp3.own); have HBN := Lib.hid hbx
        clear fo3 fp3 hbx hnx
        go_wp2
        go_roundw
        case rel => exact ⟨k + 1, _, by omega, by go_num, rfl, Lib.hid (by rw [HTK.out]; exact HRW.out), HBN⟩
        case measure => simp [intOf]; omega
    · have e : k = m := by omega
      subst e
      go_wp2
      go_ret
      have h := HO.out
      rw [List.take_of_length_le (by rw [HM.out]; exact Nat.le_refl _)] at h
      exact ⟨_, rfl, h, HB.out⟩
end Go.Proofs.YtlbibgofhhdgoaaGreat

namespace Go.Proofs.YtlbibgofhhdgoaaGreat
open Go.RowKit
set_option linter.unusedVariables false
set_option maxRecDepth 100000

set_option maxHeartbeats 400000 in
theorem torder_any (p q : List UInt8) (w : World) (hp : p.length ≤ 1000000000) (hq : q.length ≤ 1000000000) (op : okV p = true) (oq : okV q = true) :
    Calls Tryz.prog 55 #[.string (mkB p), .string (mkB q)] w fun e w' => e = .returned (.int .i64 (cmpT p q)) ∧ Below w.heap.size w w' := by
  have kc := fun w => vcmp_l p q w hp hq op oq
  obtain ⟨C, hC⟩ : ∃ C, cmpT p q = C := ⟨_, rfl⟩
  rw [hC] at kc ⊢
  clear hC
  go_enter Tryz.func55, Tryz.ntmps55
  go_wp2_with (go_at_call 72; refine (kc _).mono ?_; rintro e w1 ⟨rfl, hb1⟩; have B := Lib.hid hb1.toBelow; clear hb1 kc)
  go_ret
  exact ⟨rfl, B.out⟩
theorem vmay_b (p : List UInt8) (w : World) (h : p.length ≤ 1000000000) :
    Calls Tryz.prog 75 #[.string (mkB p)] w fun e w' => e = .returned (.bool (okV p)) ∧ Below w.heap.size w w' := (vmay_l p w h).mono fun _ _ ⟨a, b⟩ => ⟨a, b.toBelow⟩
theorem pmay_b (p : List UInt8) (w : World) (h : p.length ≤ 1000000000) :
    Calls Tryz.prog 33 #[.string (mkB p)] w fun e w' => e = .returned (.bool (pathB p)) ∧ Below w.heap.size w w' := (pmay_l p w h).mono fun _ _ ⟨a, b⟩ => ⟨a, b.toBelow⟩
theorem Strs.atT {w : World} {a : Option Addr} {n c : Nat} {l : List (List UInt8)} (h : Strs w (.slice a n c) l) (j : Nat) (hj : j < l.length) : ∃ b off, a = some ⟨b, off, none⟩ ∧ w.cell? ⟨b, off + j, none⟩ = some (.string (mkB (l.getD j []))) := by
  obtain ⟨a0, c0, hv, _, _, _, h3⟩ := h.ex
  injection hv with e1 e2 e3
  subst e1
  obtain ⟨b, off, ha, _, hc⟩ := h3 (by omega)
  exact ⟨b, off, ha, hc j hj⟩
theorem ltV_ge {a b : List UInt8} {C : Int} (h : cmpT a b = C) : decide (0 ≤ C) = !ltV a b := by
  unfold ltV; rw [h]; by_cases k : 0 ≤ C
  · rw [decide_eq_true k, decide_eq_false (by omega)]; rfl
  · rw [decide_eq_false k, decide_eq_true (by omega)]; rfl

set_option maxHeartbeats 3200000 in
theorem tfit_any (a : Option Addr) (n c : Nat) (l : List (List UInt8)) (w : World) (hU : Strs w (.slice a n c) l) (hs : ∀ x ∈ l, x.length ≤ 1000000000) :
    Calls Tryz.prog 59 #[.slice a n c] w fun e w' => e = .returned (.bool (fitV2 l)) ∧ Below w.heap.size w w' := by
  obtain ⟨hn, h1, h2⟩ := hU.lenE
  unfold maxLen at h2
  obtain ⟨R, hR⟩ : ∃ R, fitV2 l = R := ⟨_, rfl⟩
  rw [hR]
  have hr2 : R = (chainA okV ltV [] l && decide (0 < n)) := by rw [← hR, ← hn]; rfl
  have SU := Lib.hid hU; have HN := Lib.hid hn; have HS := Lib.hid hs; have HR := Lib.hid hr2
  clear hU hn hs hR hr2
  go_enter Tryz.func59, Tryz.ntmps59
  go_wp2
  go_loopw [7] (fun i wr => ∃ k : Nat, k ≤ n ∧ i = .int .i64 k ∧ Hid (∀ j, j < k → chainB okV ltV [] l j = true) ∧ Hid (Below w.heap.size w wr)) (fun i _ => n - (intOf i).toNat)
  case atStart => exact ⟨0, Nat.zero_le _, rfl, Lib.hid fun j hj => absurd hj (Nat.not_lt_zero j), Lib.hid (Below.refl _ _)⟩
  case round =>
    obtain ⟨k, hk, rfl, HM, HB⟩ := hrel
    by_cases hlt : k < n
    · have hkl : k < l.length := by rw [HN.out]; exact hlt
      have hkb : (k : Int) < (n : Int) := by omega
      obtain ⟨b, off, rfl, hc⟩ := (SU.out.belowB HB.out).atT k hkl
      have hp : wr.cell? ⟨b, off + (k - 1), none⟩ = some (.string (mkB (l.getD (k - 1) []))) := by
        obtain ⟨b', off', e, q⟩ := (SU.out.belowB HB.out).atT (k - 1) (by omega)
        cases e; exact q
      obtain ⟨y, hy⟩ : ∃ y, y = l.getD k [] := ⟨_, rfl⟩
      obtain ⟨x, hx⟩ : ∃ x, x = l.getD (k - 1) [] := ⟨_, rfl⟩
      have hys : y.length ≤ 1000000000 := by rw [hy]; exact HS.out _ (gd_in hkl)
      have hxs : x.length ≤ 1000000000 := by rw [hx]; exact HS.out _ (gd_in (by omega))
      have hst : chainB okV ltV [] l k = (okV y && (decide (k = 0) || ltV x y)) := by unfold chainB; rw [← hy, ← hx]
      rw [← hy] at hc
      rw [← hx] at hp
      have hox : 0 < k → okV x = true := fun h0 => by
        have := HM.out (k - 1) (by omega)
        unfold chainB at this
        rw [← hx, Bool.and_eq_true] at this
        exact this.1
      have km := fun w => vmay_b y w hys
      obtain ⟨o, ho⟩ : ∃ o, okV y = o := ⟨_, rfl⟩
      rw [ho] at km hst
      have HST := Lib.hid hst; have HKL := Lib.hid hkl; have HKM := Lib.hid km; have HO := Lib.hid ho; have HOX := Lib.hid hox; have HYS := Lib.hid hys; have HXS := Lib.hid hxs
      clear hy hx hys hxs hst hkl km ho hox
      cases o with
      | false =>
        have hno : R = false := by rw [HR.out, chain_no HKL.out (by rw [HST.out]; rfl)]; rfl
        have HNO := Lib.hid hno; clear hno
        go_wp2_with (go_at_call 75; refine (HKM.out _).mono ?_; rintro e w1 ⟨rfl, hb1⟩; have HB1 := Lib.hid (below_step HB.out hb1); clear hb1)
        go_ret
        exact ⟨by rw [HNO.out]; rfl, HB1.out⟩
      | true =>
        by_cases h0 : k = 0
        · have hz : decide (0 < k) = false := by simp [h0]
          have HM2 : Hid (∀ j, j < k + 1 → chainB okV ltV [] l j = true) := Lib.hid fun j hj => by
            have : j = k := by omega
            rw [this, HST.out, decide_eq_true h0]; rfl
          clear h0
          go_wp2_with (go_at_call 75; refine (HKM.out _).mono ?_; rintro e w1 ⟨rfl, hb1⟩; have HB1 := Lib.hid (below_step HB.out hb1); clear hb1)
          go_roundw
          case rel => exact ⟨k + 1, by omega, by go_num, HM2, HB1⟩
          case measure => simp [intOf]; omega
        · have hk0 : (0 : Int) < (k : Int) := by omega
          obtain ⟨m, hm⟩ : ∃ m, k - 1 = m := ⟨_, rfl⟩
          rw [hm] at hp
          have hkm : (k : Int) - 1 = (m : Int) := by omega
          have hmn : (m : Int) < (n : Int) := by omega
          have kc := fun w => torder_any x y w HXS.out HYS.out (HOX.out (by omega)) HO.out
          obtain ⟨C, hC⟩ : ∃ C, cmpT x y = C := ⟨_, rfl⟩
          have hge := ltV_ge hC
          rw [hC] at kc
          have HKC := Lib.hid kc; have HSTK := Lib.hid (show chainB okV ltV [] l k = ltV x y by rw [HST.out, decide_eq_false h0]; simp)
          clear kc hC hm
          cases hlx : ltV x y with
          | false =>
            rw [hlx, Bool.not_false] at hge
            have hno : R = false := by rw [HR.out, chain_no HKL.out (by rw [HSTK.out, hlx])]; rfl
            have HNO := Lib.hid hno; clear hno hlx
            go_wp2_with (first
              | (go_at_call 75; refine (HKM.out _).mono ?_; rintro e w1 ⟨rfl, hb1⟩; have HB1 := Lib.hid (below_step HB.out hb1); replace hp := cell_keep hp hb1; clear hb1)
              | (go_at_call 55; refine (HKC.out _).mono ?_; rintro e w2 ⟨rfl, hb2⟩; have HB2 := Lib.hid (below_step HB1.out hb2); clear hb2))
            go_ret
            exact ⟨by rw [HNO.out]; rfl, HB2.out⟩
          | true =>
            rw [hlx, Bool.not_true] at hge
            have HM2 : Hid (∀ j, j < k + 1 → chainB okV ltV [] l j = true) := Lib.hid fun j hj => by
              rcases Nat.lt_succ_iff_lt_or_eq.1 hj with q | rfl
              · exact HM.out j q
              · rw [HSTK.out, hlx]
            clear hlx
            go_wp2_with (first
              | (go_at_call 75; refine (HKM.out _).mono ?_; rintro e w1 ⟨rfl, hb1⟩; have HB1 := Lib.hid (below_step HB.out hb1); replace hp := cell_keep hp hb1; clear hb1)
              | (go_at_call 55; refine (HKC.out _).mono ?_; rintro e w2 ⟨rfl, hb2⟩; have HB2 := Lib.hid (below_step HB1.out hb2); clear hb2))
            go_roundw
            case rel => exact ⟨k + 1, by omega, by go_num, HM2, HB2⟩
            case measure => simp [intOf]; omega
    · have e : k = n := by omega
      subst e
      have hyes : chainA okV ltV [] l = true := chain_yes fun j hj => HM.out j (by rw [← HN.out]; exact hj)
      have hr3 : R = decide (0 < k) := by rw [HR.out, hyes, Bool.true_and]
      have HR3 := Lib.hid hr3
      clear hyes hr3
      go_wp2
      go_ret
      exact ⟨by rw [HR3.out]; rfl, HB.out⟩
end Go.Proofs.YtlbibgofhhdgoaaGreat

namespace Go.Proofs.YtlbibgofhhdgoaaGreat
open Go.RowKit
set_option linter.unusedVariables false
set_option maxRecDepth 100000

theorem bin_geq0 {C : Int} {b : Bool} {w : World} (h : decide (0 ≤ C) = b) : Sem.run Tryz.prog (binOp .geq 3 (.int .i64 C) (.int .i64 0)) w = .ok (.bool b) w := by
  subst h; go_simp
theorem bin_gtr0 {k : Nat} {b : Bool} {w : World} (h : decide (0 < k) = b) : Sem.run Tryz.prog (binOp .gtr 3 (.int .i64 (k : Int)) (.int .i64 0)) w = .ok (.bool b) w := by
  subst h; go_simp
theorem bin_sub1 {k m : Nat} {w : World} (h : k = m + 1) (hk : k ≤ 1000000) : Sem.run Tryz.prog (binOp .sub 3 (.int .i64 (k : Int)) (.int .i64 1)) w = .ok (.int .i64 (m : Int)) w := by
  have e2 : IntKind.i64.wrap (m : Int) = (m : Int) := by rw [IntKind.wrap_i64]; omega
  have e : (k : Int) - 1 = (m : Int) := by omega
  go_simp
theorem okR_len {l : List Rw} {k : Nat} (h : ∀ j, j < k → chainB okRow ltP zR l j = true) (hk : l.length ≤ k) : okR l = true := chain_yes fun j hj => h j (by omega)

set_option maxHeartbeats 3200000 in
theorem tcheck_any (V : Value) (l : List Rw) (w : World) (hV : Rws w V l) (hl : l.length ≤ 100000) (hp : ∀ r ∈ l, r.1.length ≤ 1000000000) (hs : ∀ r ∈ l, ∀ x ∈ r.2, x.length ≤ 1000000000) :
    Calls Tryz.prog 32 #[V] w fun e w' => e = .returned (.int .i64 (if okR l = true then 0 else 1)) ∧ Below w.heap.size w w' := by
  obtain ⟨Al, cl, rfl, hl1, hl2, -, -⟩ := hV.ex
  unfold maxLen at hl2
  obtain ⟨n, hn⟩ : ∃ n, l.length = n := ⟨_, rfl⟩
  obtain ⟨T, hT⟩ : ∃ T : Int, (if okR l = true then 0 else 1) = T := ⟨_, rfl⟩
  rw [hT]
  rw [hn] at hl hl1 hV ⊢
  have SV := Lib.hid hV; have HN := Lib.hid hn; have HP := Lib.hid hp; have HS := Lib.hid hs; have HT := Lib.hid hT
  clear hV hn hp hs hT
  have e1 : ∀ args w, (callFunc 33 args).run Tryz.prog w = .ok (.enter 33 args) w := enters_of Tryz.func33 (by kernel_rfl) rfl
  have e2 : ∀ args w, (callFunc 59 args).run Tryz.prog w = .ok (.enter 59 args) w := enters_of Tryz.func59 (by kernel_rfl) rfl
  have e3 : ∀ args w, (callFunc 60 args).run Tryz.prog w = .ok (.enter 60 args) w := enters_of Tryz.func60 (by kernel_rfl) rfl
  go_enter Tryz.func32, Tryz.ntmps32
  go_wp2
  go_loopw [7] (fun i wr => ∃ k : Nat, k ≤ n ∧ i = .int .i64 k ∧ Hid (∀ j, j < k → chainB okRow ltP zR l j = true) ∧ Hid (Below w.heap.size w wr)) (fun i _ => n - (intOf i).toNat)
  case atStart => exact ⟨0, Nat.zero_le _, rfl, Lib.hid fun j hj => absurd hj (Nat.not_lt_zero j), Lib.hid (Below.refl _ _)⟩
  case round =>
    obtain ⟨k, hk, rfl, HJ, HB⟩ := hrel
    by_cases hlt : k < n
    · have hkl : k < l.length := by rw [HN.out]; exact hlt
      obtain ⟨bl, ol, ay, ny, cy, rfl, hc0, hc1, hsy⟩ := (SV.out.below HB.out).at k hkl
      have hq : wr.cell? ⟨bl, ol + (k - 1) * 2, none⟩ = some (.string (mkB (l.getD (k - 1) zR).1)) := by
        obtain ⟨b', off', _, _, _, e, q, -, -⟩ := (SV.out.below HB.out).at (k - 1) (by omega)
        cases e; exact q
      obtain ⟨y, hy⟩ : ∃ y, y = l.getD k zR := ⟨_, rfl⟩
      obtain ⟨q, hx⟩ : ∃ x, x = (l.getD (k - 1) zR).1 := ⟨_, rfl⟩
      have hst : chainB okRow ltP zR l k = ((pathB y.1 && fitV2 y.2) && (decide (k = 0) || decide (Lib.compareBytes q y.1 < 0))) := by unfold chainB ltP okRow; rw [← hy, ← hx]
      have hys : y.1.length ≤ 1000000000 := by rw [hy]; exact HP.out _ (gd_in hkl)
      have hvs : ∀ x ∈ y.2, x.length ≤ 1000000000 := by rw [hy]; exact HS.out _ (gd_in hkl)
      rw [← hy] at hc0 hsy
      rw [← hx] at hq
      obtain ⟨p, vs⟩ := y
      simp only at hc0 hsy hst hys hvs
      obtain ⟨o, ho⟩ : ∃ o, pathB p = o := ⟨_, rfl⟩
      obtain ⟨f, hf⟩ : ∃ f, fitV2 vs = f := ⟨_, rfl⟩
      have kp := fun w => pmay_b p w hys
      have kf := fun w h => tfit_any ay ny cy vs w h hvs
      have kc := fun w => ocmp_l q p w
      obtain ⟨C, hC⟩ : ∃ C, Lib.compareBytes q p = C := ⟨_, rfl⟩
      rw [ho] at kp hst
      rw [hf] at kf hst
      rw [hC] at kc hst
      have KP := Lib.hid kp; have KF := Lib.hid kf; have KC := Lib.hid kc; have HST := Lib.hid hst; have HKL := Lib.hid hkl
      have HKB := Lib.hid (show k ≤ 1000000 by omega)
      clear hy hx hst hys hvs kp kf kc ho hf hC hkl
      have hkb : (k : Int) < (n : Int) := by omega
      go_upto_region 4 with fail
      obtain ⟨W5, gk, hW5, hgk, r5, hb5⟩ := boxT wr (.string (mkB p)) (.slice ay ny cy) 63
      rw [hW5, hgk]
      obtain ⟨d0, d1, -, -⟩ := row2 r5
      have D0 := Lib.hid d0; have D1 := Lib.hid d1; have SY := Lib.hid (hsy.belowB hb5); have Q := Lib.hid (cell_keep hq hb5); have HB5 := Lib.hid (below_step HB.out hb5); have HNW := Lib.hid (Nat.le_refl W5.heap.size)
      clear hW5 hgk r5 hb5 hc0 hc1 d0 d1 hsy hq
      have hno : chainB okRow ltP zR l k = false → T = 1 := fun h => by rw [← HT.out, show okR l = false from chain_no HKL.out h]; rfl
      have hj2 : chainB okRow ltP zR l k = true → ∀ j, j < k + 1 → chainB okRow ltP zR l j = true := fun h j hj => by
        rcases Nat.lt_succ_iff_lt_or_eq.1 hj with q | rfl
        · exact HJ.out j q
        · exact h
      have HNO0 := Lib.hid hno; have HJ0 := Lib.hid hj2
      clear hno hj2
      cases o with
      | false =>
        have HNO := Lib.hid (HNO0.out (by rw [HST.out]; rfl))
        refine rol_run (by kernel_rfl) [[], [0], [0, 1], [0, 1, 2], [0, 1, 2, 3], [0, 1, 2, 3, 4], [0, 1, 2, 3, 4, 5], [0, 1, 2, 3, 4, 5, 6], [0, 1, 2, 3, 4, 5, 6, 7], [0, 1, 2, 3, 4, 5, 6, 7, 8], [0, 1, 2, 3, 4, 5, 6, 7, 8, 9], [0, 1, 2, 3, 4, 5, 6, 7, 8, 9, 10], [0, 1, 2, 3, 4, 5, 6, 7, 8, 9, 10, 11], [0, 1, 2, 3, 4, 5, 6, 7, 8, 9, 10, 11, 12], [0, 1, 2, 3, 4, 5, 6, 7, 8, 9, 10, 11, 12, 13], [0, 1, 2, 3, 4, 5, 6, 7, 8, 9, 10, 11, 12, 13], [0, 1, 2, 3, 4, 5, 6, 7, 8, 9, 10, 11, 12, 13, 15], [0, 1, 2, 3, 4, 5, 6, 7, 8, 9, 10, 11, 12, 13, 14, 15, 16], [0, 1, 2, 3, 4, 5, 6, 7, 8, 9, 10, 11, 12, 13, 14, 15, 16, 17], [0, 1, 2, 3, 4, 5, 6, 7, 8, 9, 10, 11, 12, 13, 14, 15, 16, 17, 18], [0, 1, 2, 3, 4, 5, 6, 7, 8, 9, 10, 11, 12, 13], [0, 1, 2, 3, 4, 5, 6, 7, 8, 9, 10, 11, 12, 13, 20], [0, 1, 2, 3, 4, 5, 6, 7, 8, 9, 10, 11, 12, 13, 14, 15, 16, 17, 18, 19, 20, 21], [0, 1, 2, 3, 4, 5, 6, 7, 8, 9, 10, 11, 12, 13, 14, 15, 16, 17, 18, 19, 20, 21, 22], [0, 1, 2, 3, 4, 5, 6, 7, 8, 9, 10, 11, 12, 13, 14, 15, 16, 17, 18, 19, 20, 21, 22, 23], [0, 1, 2, 3, 4, 5, 6, 7, 8, 9, 10, 11, 12, 13, 14, 15, 16, 17, 18, 19, 20, 21, 22, 23, 24]] (by kernel_rfl) [12, 13, 14, 15, 16, 17, 18, 19, 20, 21, 22, 23, 24, 25, 26, 27, 28, 29, 30, 31, 32, 33, 34, 35, 36, 37] [[], [0], [1], [2], [3], [4], [4], [4], [4], [4], [9], [10], [10], [10], [13], [13], [13], [13], [13], [13], [13], [13], [13], [13], [10], [10]] [0, 0, 0, 0, 0, 0, 0, 0, 0, 0, 0, 0, 0, 0, 0, 0, 0, 0, 0, 0, 0, 0, 0, 0, 0, 0] [0, 0, 0, 0, 0, 0, 0, 0, 0, 0, 0, 0, 0, 0, 0, 0, 0, 0, 0, 0, 0, 0, 0, 0, 0, 0] [1000, 1000, 1000, 1000, 1000, 1000, 1000, 1000, 1000, 1000, 1000, 1000, 1000, 1000, 1000, 1000, 1000, 1000, 1000, 1000, 1000, 1000, 1000, 1000, 1000, 1000] [.val 12 (.pointer (some ⟨gk, 0, none⟩)), .val 13 (.string (mkB p)), .val 14 (.bool false), .val 15 (.bool true), .val 16 (.bool true), .val 17 undef, .val 18 undef, .val 19 undef, .val 20 undef, .val 21 (.bool true), .val 22 (.bool true), .val 23 undef, .val 24 undef, .val 25 undef, .val 26 undef, .val 27 undef, .val 28 undef, .val 29 undef, .val 30 undef, .val 31 undef, .val 32 undef, .val 33 undef, .val 34 undef, .val 35 undef, .val 36 undef, .val 37 (.bool true)] (by kernel_rfl) ?_ (W5.heap.size) (W5.heap.size) rfl (Below.refl _ _) rfl (fun _ => 0) ?_ ?_ ?_
        · intro j hj
          have hj3 : j < 26 := hj
          have hj2 : j = 0 ∨ j = 1 ∨ j = 2 ∨ j = 3 ∨ j = 4 ∨ j = 5 ∨ j = 6 ∨ j = 7 ∨ j = 8 ∨ j = 9 ∨ j = 10 ∨ j = 11 ∨ j = 12 ∨ j = 13 ∨ j = 14 ∨ j = 15 ∨ j = 16 ∨ j = 17 ∨ j = 18 ∨ j = 19 ∨ j = 20 ∨ j = 21 ∨ j = 22 ∨ j = 23 ∨ j = 24 ∨ j = 25 := by omega
          clear hj hj3
          rcases hj2 with rfl | rfl | rfl | rfl | rfl | rfl | rfl | rfl | rfl | rfl | rfl | rfl | rfl | rfl | rfl | rfl | rfl | rfl | rfl | rfl | rfl | rfl | rfl | rfl | rfl | rfl
          · exact trivial
          · exact trivial
          · exact trivial
          · exact trivial
          · exact trivial
          · exact trivial
          · exact trivial
          · exact trivial
          · exact trivial
          · exact trivial
          · exact trivial
          · exact trivial
          · exact trivial
          · exact trivial
          · exact trivial
          · exact trivial
          · exact trivial
          · exact trivial
          · exact trivial
          · exact trivial
          · exact trivial
          · exact trivial
          · exact trivial
          · exact trivial
          · exact trivial
          · exact trivial
        · intro j hj0 hj
          exact absurd hj (Nat.not_lt.2 hj0)
        · intro i hi a wx who hG hF
          have hz : a.tmps.size = 39 := hG.size
          have hi3 : i < 26 := hi
          have hi2 : i = 0 ∨ i = 1 ∨ i = 2 ∨ i = 3 ∨ i = 4 ∨ i = 5 ∨ i = 6 ∨ i = 7 ∨ i = 8 ∨ i = 9 ∨ i = 10 ∨ i = 11 ∨ i = 12 ∨ i = 13 ∨ i = 14 ∨ i = 15 ∨ i = 16 ∨ i = 17 ∨ i = 18 ∨ i = 19 ∨ i = 20 ∨ i = 21 ∨ i = 22 ∨ i = 23 ∨ i = 24 ∨ i = 25 := by omega
          clear hi hi3
          rcases hi2 with rfl | rfl | rfl | rfl | rfl | rfl | rfl | rfl | rfl | rfl | rfl | rfl | rfl | rfl | rfl | rfl | rfl | rfl | rfl | rfl | rfl | rfl | rfl | rfl | rfl | rfl
          · exact rol_val rfl rfl rfl (by rw [hz]; decide) (ex_field rfl (eval_slot ((hG.slots 4 (by decide)).trans rfl)) (by go_simp)) hG.below
          · exact rol_val rfl rfl rfl (by rw [hz]; decide) (ex_load rfl (eval_slot (hF 0 (by decide))) (ld_strT (cell_keep D0.out hG.below))) hG.below
          · refine rol_call rfl rfl rfl (by rw [hz]; decide) (ex_call rfl (by simp [eval_slot (hF 1 (by decide))]) e1) (KP.out wx) ?_ hG.below (Nat.le_trans HNW.out hG.new)
            rintro e w1 ⟨rfl, hb1⟩
            exact ⟨_, rfl, hb1, .inl rfl⟩
          · exact rol_val rfl rfl rfl (by rw [hz]; decide) (ex_un rfl (eval_slot (hF 2 (by decide))) rfl) hG.below
          · exact rol_val rfl rfl rfl (by rw [hz]; decide) (ex_move (Or.inl rfl) (eval_slot (hF 3 (by decide)))) hG.below
          · exact rol_val_skip rfl (want_no rfl rfl (hF 4 (by decide)) (by decide)) rfl (by rw [hz]; decide) hG.below
          · exact rol_val_skip rfl (want_no rfl rfl (hF 4 (by decide)) (by decide)) rfl (by rw [hz]; decide) hG.below
          · exact rol_val_skip rfl (want_no rfl rfl (hF 4 (by decide)) (by decide)) rfl (by rw [hz]; decide) hG.below
          · exact rol_val_skip rfl (want_no rfl rfl (hF 4 (by decide)) (by decide)) rfl (by rw [hz]; decide) hG.below
          · exact rol_val rfl rfl rfl (by rw [hz]; decide) (ex_pick_yes rfl (eval_slot (hF 4 (by decide))) rfl) hG.below
          · exact rol_val rfl rfl rfl (by rw [hz]; decide) (ex_move (Or.inl rfl) (eval_slot (hF 9 (by decide)))) hG.below
          · exact rol_val_skip rfl (want_no rfl rfl (hF 10 (by decide)) (by decide)) rfl (by rw [hz]; decide) hG.below
          · exact rol_val_skip rfl (want_no rfl rfl (hF 10 (by decide)) (by decide)) rfl (by rw [hz]; decide) hG.below
          · exact rol_val_skip rfl (want_no rfl rfl (hF 10 (by decide)) (by decide)) rfl (by rw [hz]; decide) hG.below
          · exact rol_val_skip rfl (want_undef rfl rfl (hF 13 (by decide))) rfl (by rw [hz]; decide) hG.below
          · exact rol_val_skip rfl (want_undef rfl rfl (hF 13 (by decide))) rfl (by rw [hz]; decide) hG.below
          · exact rol_val_skip rfl (want_undef rfl rfl (hF 13 (by decide))) rfl (by rw [hz]; decide) hG.below
          · exact rol_val_skip rfl (want_undef rfl rfl (hF 13 (by decide))) rfl (by rw [hz]; decide) hG.below
          · exact rol_val_skip rfl (want_undef rfl rfl (hF 13 (by decide))) rfl (by rw [hz]; decide) hG.below
          · exact rol_val_skip rfl (want_undef rfl rfl (hF 13 (by decide))) rfl (by rw [hz]; decide) hG.below
          · exact rol_val_skip rfl (want_undef rfl rfl (hF 13 (by decide))) rfl (by rw [hz]; decide) hG.below
          · exact rol_val_skip rfl (want_undef rfl rfl (hF 13 (by decide))) rfl (by rw [hz]; decide) hG.below
          · exact rol_val_skip rfl (want_undef rfl rfl (hF 13 (by decide))) rfl (by rw [hz]; decide) hG.below
          · exact rol_val_skip rfl (want_undef rfl rfl (hF 13 (by decide))) rfl (by rw [hz]; decide) hG.below
          · exact rol_val_skip rfl (want_no rfl rfl (hF 10 (by decide)) (by decide)) rfl (by rw [hz]; decide) hG.below
          · exact rol_val rfl rfl rfl (by rw [hz]; decide) (ex_pick_yes rfl (eval_slot (hF 10 (by decide))) rfl) hG.below
        · intro a wx who hG hF
          have fv37 : a.tmps.getD 37 undef = .bool true := eval_slot (s := 37) (hF 25 (of_decide_eq_true (by kernel_rfl)) (of_decide_eq_true (by kernel_rfl)))
          have hbx := hG.below
          have hnx := hG.new
          rw [hG.frame]
          simp only [List.foldl_cons, List.foldl_nil, List.setIfInBounds_toArray, List.set_cons_zero, List.set_cons_succ]
          generalize a.tmps.getD 12 undef = u12
          generalize a.tmps.getD 13 undef = u13
          generalize a.tmps.getD 14 undef = u14
          generalize a.tmps.getD 15 undef = u15
          generalize a.tmps.getD 16 undef = u16
          generalize a.tmps.getD 17 undef = u17
          generalize a.tmps.getD 18 undef = u18
          generalize a.tmps.getD 19 undef = u19
          generalize a.tmps.getD 20 undef = u20
          generalize a.tmps.getD 21 undef = u21
          generalize a.tmps.getD 22 undef = u22
          generalize a.tmps.getD 23 undef = u23
          generalize a.tmps.getD 24 undef = u24
          generalize a.tmps.getD 25 undef = u25
          generalize a.tmps.getD 26 undef = u26
          generalize a.tmps.getD 27 undef = u27
          generalize a.tmps.getD 28 undef = u28
          generalize a.tmps.getD 29 undef = u29
          generalize a.tmps.getD 30 undef = u30
          generalize a.tmps.getD 31 undef = u31
          generalize a.tmps.getD 32 undef = u32
          generalize a.tmps.getD 33 undef = u33
          generalize a.tmps.getD 34 undef = u34
          generalize a.tmps.getD 35 undef = u35
          generalize a.tmps.getD 36 undef = u36
          rw [fv37]
          clear hF hG fv37
          have HB6 := Lib.hid (below_step HB5.out hbx)
          clear hbx hnx
          go_wp2
          go_ret
          exact ⟨by rw [HNO.out]; rfl, HB6.out⟩
      | true =>
        cases f with
        | false =>
          have HNO := Lib.hid (HNO0.out (by rw [HST.out]; rfl))
          refine rol_run (by kernel_rfl) [[], [0], [0, 1], [0, 1, 2], [0, 1, 2, 3], [0, 1, 2, 3, 4], [0, 1, 2, 3, 4, 5], [0, 1, 2, 3, 4, 5, 6], [0, 1, 2, 3, 4, 5, 6, 7], [0, 1, 2, 3, 4, 5, 6, 7, 8], [0, 1, 2, 3, 4, 5, 6, 7, 8, 9], [0, 1, 2, 3, 4, 5, 6, 7, 8, 9, 10], [0, 1, 2, 3, 4, 5, 6, 7, 8, 9, 10, 11], [0, 1, 2, 3, 4, 5, 6, 7, 8, 9, 10, 11, 12], [0, 1, 2, 3, 4, 5, 6, 7, 8, 9, 10, 11, 12, 13], [0, 1, 2, 3, 4, 5, 6, 7, 8, 9, 10, 11, 12, 13], [0, 1, 2, 3, 4, 5, 6, 7, 8, 9, 10, 11, 12, 13, 15], [0, 1, 2, 3, 4, 5, 6, 7, 8, 9, 10, 11, 12, 13, 14, 15, 16], [0, 1, 2, 3, 4, 5, 6, 7, 8, 9, 10, 11, 12, 13, 14, 15, 16, 17], [0, 1, 2, 3, 4, 5, 6, 7, 8, 9, 10, 11, 12, 13, 14, 15, 16, 17, 18], [0, 1, 2, 3, 4, 5, 6, 7, 8, 9, 10, 11, 12, 13], [0, 1, 2, 3, 4, 5, 6, 7, 8, 9, 10, 11, 12, 13, 20], [0, 1, 2, 3, 4, 5, 6, 7, 8, 9, 10, 11, 12, 13, 14, 15, 16, 17, 18, 19, 20, 21], [0, 1, 2, 3, 4, 5, 6, 7, 8, 9, 10, 11, 12, 13, 14, 15, 16, 17, 18, 19, 20, 21, 22], [0, 1, 2, 3, 4, 5, 6, 7, 8, 9, 10, 11, 12, 13, 14, 15, 16, 17, 18, 19, 20, 21, 22, 23], [0, 1, 2, 3, 4, 5, 6, 7, 8, 9, 10, 11, 12, 13, 14, 15, 16, 17, 18, 19, 20, 21, 22, 23, 24]] (by kernel_rfl) [12, 13, 14, 15, 16, 17, 18, 19, 20, 21, 22, 23, 24, 25, 26, 27, 28, 29, 30, 31, 32, 33, 34, 35, 36, 37] [[], [0], [1], [2], [3], [4], [4, 5], [4, 6], [4, 7], [4, 8], [9], [10], [10], [10], [13], [13], [13], [13], [13], [13], [13], [13], [13], [13], [10], [10]] [0, 0, 0, 0, 0, 0, 0, 0, 0, 0, 0, 0, 0, 0, 0, 0, 0, 0, 0, 0, 0, 0, 0, 0, 0, 0] [0, 0, 0, 0, 0, 0, 0, 0, 0, 0, 0, 0, 0, 0, 0, 0, 0, 0, 0, 0, 0, 0, 0, 0, 0, 0] [1000, 1000, 1000, 1000, 1000, 1000, 1000, 1000, 1000, 1000, 1000, 1000, 1000, 1000, 1000, 1000, 1000, 1000, 1000, 1000, 1000, 1000, 1000, 1000, 1000, 1000] [.val 12 (.pointer (some ⟨gk, 0, none⟩)), .val 13 (.string (mkB p)), .val 14 (.bool true), .val 15 (.bool false), .val 16 (.bool false), .val 17 (.pointer (some ⟨gk, 1, none⟩)), .val 18 (.slice ay ny cy), .val 19 (.bool false), .val 20 (.bool true), .val 21 (.bool true), .val 22 (.bool true), .val 23 undef, .val 24 undef, .val 25 undef, .val 26 undef, .val 27 undef, .val 28 undef, .val 29 undef, .val 30 undef, .val 31 undef, .val 32 undef, .val 33 undef, .val 34 undef, .val 35 undef, .val 36 undef, .val 37 (.bool true)] (by kernel_rfl) ?_ (W5.heap.size) (W5.heap.size) rfl (Below.refl _ _) rfl (fun _ => 0) ?_ ?_ ?_
          · intro j hj
            have hj3 : j < 26 := hj
            have hj2 : j = 0 ∨ j = 1 ∨ j = 2 ∨ j = 3 ∨ j = 4 ∨ j = 5 ∨ j = 6 ∨ j = 7 ∨ j = 8 ∨ j = 9 ∨ j = 10 ∨ j = 11 ∨ j = 12 ∨ j = 13 ∨ j = 14 ∨ j = 15 ∨ j = 16 ∨ j = 17 ∨ j = 18 ∨ j = 19 ∨ j = 20 ∨ j = 21 ∨ j = 22 ∨ j = 23 ∨ j = 24 ∨ j = 25 := by omega
            clear hj hj3
            rcases hj2 with rfl | rfl | rfl | rfl | rfl | rfl | rfl | rfl | rfl | rfl | rfl | rfl | rfl | rfl | rfl | rfl | rfl | rfl | rfl | rfl | rfl | rfl | rfl | rfl | rfl | rfl
            · exact trivial
            · exact trivial
            · exact trivial
            · exact trivial
            · exact trivial
            · exact trivial
            · exact trivial
            · exact trivial
            · exact trivial
            · exact trivial
            · exact trivial
            · exact trivial
            · exact trivial
            · exact trivial
            · exact trivial
            · exact trivial
            · exact trivial
            · exact trivial
            · exact trivial
            · exact trivial
            · exact trivial
            · exact trivial
            · exact trivial
            · exact trivial
            · exact trivial
            · exact trivial
          · intro j hj0 hj
            exact absurd hj (Nat.not_lt.2 hj0)
          · intro i hi a wx who hG hF
            have hz : a.tmps.size = 39 := hG.size
            have hi3 : i < 26 := hi
            have hi2 : i = 0 ∨ i = 1 ∨ i = 2 ∨ i = 3 ∨ i = 4 ∨ i = 5 ∨ i = 6 ∨ i = 7 ∨ i = 8 ∨ i = 9 ∨ i = 10 ∨ i = 11 ∨ i = 12 ∨ i = 13 ∨ i = 14 ∨ i = 15 ∨ i = 16 ∨ i = 17 ∨ i = 18 ∨ i = 19 ∨ i = 20 ∨ i = 21 ∨ i = 22 ∨ i = 23 ∨ i = 24 ∨ i = 25 := by omega
            clear hi hi3
            rcases hi2 with rfl | rfl | rfl | rfl | rfl | rfl | rfl | rfl | rfl | rfl | rfl | rfl | rfl | rfl | rfl | rfl | rfl | rfl | rfl | rfl | rfl | rfl | rfl | rfl | rfl | rfl
            · exact rol_val rfl rfl rfl (by rw [hz]; decide) (ex_field rfl (eval_slot ((hG.slots 4 (by decide)).trans rfl)) (by go_simp)) hG.below
            · exact rol_val rfl rfl rfl (by rw [hz]; decide) (ex_load rfl (eval_slot (hF 0 (by decide))) (ld_strT (cell_keep D0.out hG.below))) hG.below
            · refine rol_call rfl rfl rfl (by rw [hz]; decide) (ex_call rfl (by simp [eval_slot (hF 1 (by decide))]) e1) (KP.out wx) ?_ hG.below (Nat.le_trans HNW.out hG.new)
              rintro e w1 ⟨rfl, hb1⟩
              exact ⟨_, rfl, hb1, .inl rfl⟩
            · exact rol_val rfl rfl rfl (by rw [hz]; decide) (ex_un rfl (eval_slot (hF 2 (by decide))) rfl) hG.below
            · exact rol_val rfl rfl rfl (by rw [hz]; decide) (ex_move (Or.inl rfl) (eval_slot (hF 3 (by decide)))) hG.below
            · exact rol_val rfl (want_yes rfl rfl (hF 4 (by decide))) rfl (by rw [hz]; decide) (ex_field rfl (eval_slot ((hG.slots 4 (by decide)).trans rfl)) (by go_simp)) hG.below
            · exact rol_val rfl (want_yes rfl rfl (hF 4 (by decide))) rfl (by rw [hz]; decide) (ex_load rfl (eval_slot (hF 5 (by decide))) (ld_stsT (cell_keep D1.out hG.below))) hG.below
            · refine rol_call rfl (want_yes rfl rfl (hF 4 (by decide))) rfl (by rw [hz]; decide) (ex_call rfl (by simp [eval_slot (hF 6 (by decide))]) e2) (KF.out wx (SY.out.belowB hG.below)) ?_ hG.below (Nat.le_trans HNW.out hG.new)
              rintro e w1 ⟨rfl, hb1⟩
              exact ⟨_, rfl, hb1, .inl rfl⟩
            · exact rol_val rfl (want_yes rfl rfl (hF 4 (by decide))) rfl (by rw [hz]; decide) (ex_un rfl (eval_slot (hF 7 (by decide))) rfl) hG.below
            · exact rol_val rfl rfl rfl (by rw [hz]; decide) (ex_pick_no rfl (eval_slot (hF 4 (by decide))) (eval_slot (hF 8 (by decide)))) hG.below
            · exact rol_val rfl rfl rfl (by rw [hz]; decide) (ex_move (Or.inl rfl) (eval_slot (hF 9 (by decide)))) hG.below
            · exact rol_val_skip rfl (want_no rfl rfl (hF 10 (by decide)) (by decide)) rfl (by rw [hz]; decide) hG.below
            · exact rol_val_skip rfl (want_no rfl rfl (hF 10 (by decide)) (by decide)) rfl (by rw [hz]; decide) hG.below
            · exact rol_val_skip rfl (want_no rfl rfl (hF 10 (by decide)) (by decide)) rfl (by rw [hz]; decide) hG.below
            · exact rol_val_skip rfl (want_undef rfl rfl (hF 13 (by decide))) rfl (by rw [hz]; decide) hG.below
            · exact rol_val_skip rfl (want_undef rfl rfl (hF 13 (by decide))) rfl (by rw [hz]; decide) hG.below
            · exact rol_val_skip rfl (want_undef rfl rfl (hF 13 (by decide))) rfl (by rw [hz]; decide) hG.below
            · exact rol_val_skip rfl (want_undef rfl rfl (hF 13 (by decide))) rfl (by rw [hz]; decide) hG.below
            · exact rol_val_skip rfl (want_undef rfl rfl (hF 13 (by decide))) rfl (by rw [hz]; decide) hG.below
            · exact rol_val_skip rfl (want_undef rfl rfl (hF 13 (by decide))) rfl (by rw [hz]; decide) hG.below
            · exact rol_val_skip rfl (want_undef rfl rfl (hF 13 (by decide))) rfl (by rw [hz]; decide) hG.below
            · exact rol_val_skip rfl (want_undef rfl rfl (hF 13 (by decide))) rfl (by rw [hz]; decide) hG.below
            · exact rol_val_skip rfl (want_undef rfl rfl (hF 13 (by decide))) rfl (by rw [hz]; decide) hG.below
            · exact rol_val_skip rfl (want_undef rfl rfl (hF 13 (by decide))) rfl (by rw [hz]; decide) hG.below
            · exact rol_val_skip rfl (want_no rfl rfl (hF 10 (by decide)) (by decide)) rfl (by rw [hz]; decide) hG.below
            · exact rol_val rfl rfl rfl (by rw [hz]; decide) (ex_pick_yes rfl (eval_slot (hF 10 (by decide))) rfl) hG.below
          · intro a wx who hG hF
            have fv37 : a.tmps.getD 37 undef = .bool true := eval_slot (s := 37) (hF 25 (of_decide_eq_true (by kernel_rfl)) (of_decide_eq_true (by kernel_rfl)))
            have hbx := hG.below
            have hnx := hG.new
            rw [hG.frame]
            simp only [List.foldl_cons, List.foldl_nil, List.setIfInBounds_toArray, List.set_cons_zero, List.set_cons_succ]
            generalize a.tmps.getD 12 undef = u12
            generalize a.tmps.getD 13 undef = u13
            generalize a.tmps.getD 14 undef = u14
            generalize a.tmps.getD 15 undef = u15
            generalize a.tmps.getD 16 undef = u16
            generalize a.tmps.getD 17 undef = u17
            generalize a.tmps.getD 18 undef = u18
            generalize a.tmps.getD 19 undef = u19
            generalize a.tmps.getD 20 undef = u20
            generalize a.tmps.getD 21 undef = u21
            generalize a.tmps.getD 22 undef = u22
            generalize a.tmps.getD 23 undef = u23
            generalize a.tmps.getD 24 undef = u24
            generalize a.tmps.getD 25 undef = u25
            generalize a.tmps.getD 26 undef = u26
            generalize a.tmps.getD 27 undef = u27
            generalize a.tmps.getD 28 undef = u28
            generalize a.tmps.getD 29 undef = u29
            generalize a.tmps.getD 30 undef = u30
            generalize a.tmps.getD 31 undef = u31
            generalize a.tmps.getD 32 undef = u32
            generalize a.tmps.getD 33 undef = u33
            generalize a.tmps.getD 34 undef = u34
            generalize a.tmps.getD 35 undef = u35
            generalize a.tmps.getD 36 undef = u36
            rw [fv37]
            clear hF hG fv37
            have HB6 := Lib.hid (below_step HB5.out hbx)
            clear hbx hnx
            go_wp2
            go_ret
            exact ⟨by rw [HNO.out]; rfl, HB6.out⟩
        | true =>
          by_cases h0 : k = 0
          · have HZ := Lib.hid (show decide (0 < k) = false by simp [h0])
            have HJ2 := Lib.hid (show Hid (∀ j, j < k + 1 → chainB okRow ltP zR l j = true) from Lib.hid (HJ0.out (by rw [HST.out, decide_eq_true h0]; rfl)))
            clear h0
            refine rol_run (by kernel_rfl) [[], [0], [0, 1], [0, 1, 2], [0, 1, 2, 3], [0, 1, 2, 3, 4], [0, 1, 2, 3, 4, 5], [0, 1, 2, 3, 4, 5, 6], [0, 1, 2, 3, 4, 5, 6, 7], [0, 1, 2, 3, 4, 5, 6, 7, 8], [0, 1, 2, 3, 4, 5, 6, 7, 8, 9], [0, 1, 2, 3, 4, 5, 6, 7, 8, 9, 10], [0, 1, 2, 3, 4, 5, 6, 7, 8, 9, 10, 11], [0, 1, 2, 3, 4, 5, 6, 7, 8, 9, 10, 11, 12], [0, 1, 2, 3, 4, 5, 6, 7, 8, 9, 10, 11, 12, 13], [0, 1, 2, 3, 4, 5, 6, 7, 8, 9, 10, 11, 12, 13], [0, 1, 2, 3, 4, 5, 6, 7, 8, 9, 10, 11, 12, 13, 15], [0, 1, 2, 3, 4, 5, 6, 7, 8, 9, 10, 11, 12, 13, 14, 15, 16], [0, 1, 2, 3, 4, 5, 6, 7, 8, 9, 10, 11, 12, 13, 14, 15, 16, 17], [0, 1, 2, 3, 4, 5, 6, 7, 8, 9, 10, 11, 12, 13, 14, 15, 16, 17, 18], [0, 1, 2, 3, 4, 5, 6, 7, 8, 9, 10, 11, 12, 13], [0, 1, 2, 3, 4, 5, 6, 7, 8, 9, 10, 11, 12, 13, 20], [0, 1, 2, 3, 4, 5, 6, 7, 8, 9, 10, 11, 12, 13, 14, 15, 16, 17, 18, 19, 20, 21], [0, 1, 2, 3, 4, 5, 6, 7, 8, 9, 10, 11, 12, 13, 14, 15, 16, 17, 18, 19, 20, 21, 22], [0, 1, 2, 3, 4, 5, 6, 7, 8, 9, 10, 11, 12, 13, 14, 15, 16, 17, 18, 19, 20, 21, 22, 23], [0, 1, 2, 3, 4, 5, 6, 7, 8, 9, 10, 11, 12, 13, 14, 15, 16, 17, 18, 19, 20, 21, 22, 23, 24]] (by kernel_rfl) [12, 13, 14, 15, 16, 17, 18, 19, 20, 21, 22, 23, 24, 25, 26, 27, 28, 29, 30, 31, 32, 33, 34, 35, 36, 37] [[], [0], [1], [2], [3], [4], [4, 5], [4, 6], [4, 7], [4, 8], [9], [10], [10, 11], [10, 12], [13], [13], [13], [13], [13], [13], [13], [13], [13], [13], [10, 13], [10, 24]] [0, 0, 0, 0, 0, 0, 0, 0, 0, 0, 0, 0, 0, 0, 0, 0, 0, 0, 0, 0, 0, 0, 0, 0, 0, 0] [0, 0, 0, 0, 0, 0, 0, 0, 0, 0, 0, 0, 0, 0, 0, 0, 0, 0, 0, 0, 0, 0, 0, 0, 0, 0] [1000, 1000, 1000, 1000, 1000, 1000, 1000, 1000, 1000, 1000, 1000, 1000, 1000, 1000, 1000, 1000, 1000, 1000, 1000, 1000, 1000, 1000, 1000, 1000, 1000, 1000] [.val 12 (.pointer (some ⟨gk, 0, none⟩)), .val 13 (.string (mkB p)), .val 14 (.bool true), .val 15 (.bool false), .val 16 (.bool false), .val 17 (.pointer (some ⟨gk, 1, none⟩)), .val 18 (.slice ay ny cy), .val 19 (.bool true), .val 20 (.bool false), .val 21 (.bool false), .val 22 (.bool false), .val 23 (.int .i64 (k : Int)), .val 24 (.bool false), .val 25 (.bool false), .val 26 undef, .val 27 undef, .val 28 undef, .val 29 undef, .val 30 undef, .val 31 undef, .val 32 undef, .val 33 undef, .val 34 undef, .val 35 undef, .val 36 (.bool false), .val 37 (.bool false)] (by kernel_rfl) ?_ (W5.heap.size) (W5.heap.size) rfl (Below.refl _ _) rfl (fun _ => 0) ?_ ?_ ?_
            · intro j hj
              have hj3 : j < 26 := hj
              have hj2 : j = 0 ∨ j = 1 ∨ j = 2 ∨ j = 3 ∨ j = 4 ∨ j = 5 ∨ j = 6 ∨ j = 7 ∨ j = 8 ∨ j = 9 ∨ j = 10 ∨ j = 11 ∨ j = 12 ∨ j = 13 ∨ j = 14 ∨ j = 15 ∨ j = 16 ∨ j = 17 ∨ j = 18 ∨ j = 19 ∨ j = 20 ∨ j = 21 ∨ j = 22 ∨ j = 23 ∨ j = 24 ∨ j = 25 := by omega
              clear hj hj3
              rcases hj2 with rfl | rfl | rfl | rfl | rfl | rfl | rfl | rfl | rfl | rfl | rfl | rfl | rfl | rfl | rfl | rfl | rfl | rfl | rfl | rfl | rfl | rfl | rfl | rfl | rfl | rfl
              · exact trivial
              · exact trivial
              · exact trivial
              · exact trivial
              · exact trivial
              · exact trivial
              · exact trivial
              · exact trivial
              · exact trivial
              · exact trivial
              · exact trivial
              · exact trivial
              · exact trivial
              · exact trivial
              · exact trivial
              · exact trivial
              · exact trivial
              · exact trivial
              · exact trivial
              · exact trivial
              · exact trivial
              · exact trivial
              · exact trivial
              · exact trivial
              · exact trivial
              · exact trivial
            · intro j hj0 hj
              exact absurd hj (Nat.not_lt.2 hj0)
            · intro i hi a wx who hG hF
              have hz : a.tmps.size = 39 := hG.size
              have hi3 : i < 26 := hi
              have hi2 : i = 0 ∨ i = 1 ∨ i = 2 ∨ i = 3 ∨ i = 4 ∨ i = 5 ∨ i = 6 ∨ i = 7 ∨ i = 8 ∨ i = 9 ∨ i = 10 ∨ i = 11 ∨ i = 12 ∨ i = 13 ∨ i = 14 ∨ i = 15 ∨ i = 16 ∨ i = 17 ∨ i = 18 ∨ i = 19 ∨ i = 20 ∨ i = 21 ∨ i = 22 ∨ i = 23 ∨ i = 24 ∨ i = 25 := by omega
              clear hi hi3
              rcases hi2 with rfl | rfl | rfl | rfl | rfl | rfl | rfl | rfl | rfl | rfl | rfl | rfl | rfl | rfl | rfl | rfl | rfl | rfl | rfl | rfl | rfl | rfl | rfl | rfl | rfl | rfl
              · exact rol_val rfl rfl rfl (by rw [hz]; decide) (ex_field rfl (eval_slot ((hG.slots 4 (by decide)).trans rfl)) (by go_simp)) hG.below
              · exact rol_val rfl rfl rfl (by rw [hz]; decide) (ex_load rfl (eval_slot (hF 0 (by decide))) (ld_strT (cell_keep D0.out hG.below))) hG.below
              · refine rol_call rfl rfl rfl (by rw [hz]; decide) (ex_call rfl (by simp [eval_slot (hF 1 (by decide))]) e1) (KP.out wx) ?_ hG.below (Nat.le_trans HNW.out hG.new)
                rintro e w1 ⟨rfl, hb1⟩
                exact ⟨_, rfl, hb1, .inl rfl⟩
              · exact rol_val rfl rfl rfl (by rw [hz]; decide) (ex_un rfl (eval_slot (hF 2 (by decide))) rfl) hG.below
              · exact rol_val rfl rfl rfl (by rw [hz]; decide) (ex_move (Or.inl rfl) (eval_slot (hF 3 (by decide)))) hG.below
              · exact rol_val rfl (want_yes rfl rfl (hF 4 (by decide))) rfl (by rw [hz]; decide) (ex_field rfl (eval_slot ((hG.slots 4 (by decide)).trans rfl)) (by go_simp)) hG.below
              · exact rol_val rfl (want_yes rfl rfl (hF 4 (by decide))) rfl (by rw [hz]; decide) (ex_load rfl (eval_slot (hF 5 (by decide))) (ld_stsT (cell_keep D1.out hG.below))) hG.below
              · refine rol_call rfl (want_yes rfl rfl (hF 4 (by decide))) rfl (by rw [hz]; decide) (ex_call rfl (by simp [eval_slot (hF 6 (by decide))]) e2) (KF.out wx (SY.out.belowB hG.below)) ?_ hG.below (Nat.le_trans HNW.out hG.new)
                rintro e w1 ⟨rfl, hb1⟩
                exact ⟨_, rfl, hb1, .inl rfl⟩
              · exact rol_val rfl (want_yes rfl rfl (hF 4 (by decide))) rfl (by rw [hz]; decide) (ex_un rfl (eval_slot (hF 7 (by decide))) rfl) hG.below
              · exact rol_val rfl rfl rfl (by rw [hz]; decide) (ex_pick_no rfl (eval_slot (hF 4 (by decide))) (eval_slot (hF 8 (by decide)))) hG.below
              · exact rol_val rfl rfl rfl (by rw [hz]; decide) (ex_move (Or.inl rfl) (eval_slot (hF 9 (by decide)))) hG.below
              · exact rol_val rfl (want_yes rfl rfl (hF 10 (by decide))) rfl (by rw [hz]; decide) (ex_move (Or.inl rfl) (eval_slot ((hG.slots 3 (by decide)).trans rfl))) hG.below
              · exact rol_val rfl (want_yes rfl rfl (hF 10 (by decide))) rfl (by rw [hz]; decide) (ex_bin rfl (eval_slot (hF 11 (by decide))) rfl (by go_simp) (bin_gtr0 HZ.out)) hG.below
              · exact rol_val rfl (want_yes rfl rfl (hF 10 (by decide))) rfl (by rw [hz]; decide) (ex_move (Or.inl rfl) (eval_slot (hF 12 (by decide)))) hG.below
              · exact rol_val_skip rfl (want_no rfl rfl (hF 13 (by decide)) (by decide)) rfl (by rw [hz]; decide) hG.below
              · exact rol_val_skip rfl (want_no rfl rfl (hF 13 (by decide)) (by decide)) rfl (by rw [hz]; decide) hG.below
              · exact rol_val_skip rfl (want_no rfl rfl (hF 13 (by decide)) (by decide)) rfl (by rw [hz]; decide) hG.below
              · exact rol_val_skip rfl (want_no rfl rfl (hF 13 (by decide)) (by decide)) rfl (by rw [hz]; decide) hG.below
              · exact rol_val_skip rfl (want_no rfl rfl (hF 13 (by decide)) (by decide)) rfl (by rw [hz]; decide) hG.below
              · exact rol_val_skip rfl (want_no rfl rfl (hF 13 (by decide)) (by decide)) rfl (by rw [hz]; decide) hG.below
              · exact rol_val_skip rfl (want_no rfl rfl (hF 13 (by decide)) (by decide)) rfl (by rw [hz]; decide) hG.below
              · exact rol_val_skip rfl (want_no rfl rfl (hF 13 (by decide)) (by decide)) rfl (by rw [hz]; decide) hG.below
              · exact rol_val_skip rfl (want_no rfl rfl (hF 13 (by decide)) (by decide)) rfl (by rw [hz]; decide) hG.below
              · exact rol_val_skip rfl (want_no rfl rfl (hF 13 (by decide)) (by decide)) rfl (by rw [hz]; decide) hG.below
              · exact rol_val rfl (want_yes rfl rfl (hF 10 (by decide))) rfl (by rw [hz]; decide) (ex_pick_no rfl (eval_slot (hF 13 (by decide))) rfl) hG.below
              · exact rol_val rfl rfl rfl (by rw [hz]; decide) (ex_pick_no rfl (eval_slot (hF 10 (by decide))) (eval_slot (hF 24 (by decide)))) hG.below
            · intro a wx who hG hF
              have fv37 : a.tmps.getD 37 undef = .bool false := eval_slot (s := 37) (hF 25 (of_decide_eq_true (by kernel_rfl)) (of_decide_eq_true (by kernel_rfl)))
              have hbx := hG.below
              have hnx := hG.new
              rw [hG.frame]
              simp only [List.foldl_cons, List.foldl_nil, List.setIfInBounds_toArray, List.set_cons_zero, List.set_cons_succ]
              generalize a.tmps.getD 12 undef = u12
              generalize a.tmps.getD 13 undef = u13
              generalize a.tmps.getD 14 undef = u14
              generalize a.tmps.getD 15 undef = u15
              generalize a.tmps.getD 16 undef = u16
              generalize a.tmps.getD 17 undef = u17
              generalize a.tmps.getD 18 undef = u18
              generalize a.tmps.getD 19 undef = u19
              generalize a.tmps.getD 20 undef = u20
              generalize a.tmps.getD 21 undef = u21
              generalize a.tmps.getD 22 undef = u22
              generalize a.tmps.getD 23 undef = u23
              generalize a.tmps.getD 24 undef = u24
              generalize a.tmps.getD 25 undef = u25
              generalize a.tmps.getD 26 undef = u26
              generalize a.tmps.getD 27 undef = u27
              generalize a.tmps.getD 28 undef = u28
              generalize a.tmps.getD 29 undef = u29
              generalize a.tmps.getD 30 undef = u30
              generalize a.tmps.getD 31 undef = u31
              generalize a.tmps.getD 32 undef = u32
              generalize a.tmps.getD 33 undef = u33
              generalize a.tmps.getD 34 undef = u34
              generalize a.tmps.getD 35 undef = u35
              generalize a.tmps.getD 36 undef = u36
              rw [fv37]
              clear hF hG fv37
              have HB6 := Lib.hid (below_step HB5.out hbx)
              clear hbx hnx
              go_wp2
              go_roundw
              case rel => exact ⟨k + 1, by omega, by go_num, HJ2.out, HB6⟩
              case measure => simp [intOf]; omega
          · have HZ := Lib.hid (show decide (0 < k) = true by simp; omega)
            obtain ⟨m, hm⟩ : ∃ m, k - 1 = m := ⟨_, rfl⟩
            rw [hm] at Q
            have Q0 := Q
            have HM := Lib.hid (show k = m + 1 by omega); have HMN := Lib.hid (show m < n by omega)
            have hs2 : chainB okRow ltP zR l k = decide (C < 0) := by rw [HST.out, decide_eq_false h0]; simp
            clear hm h0
            by_cases hlt0 : C < 0
            · have HGE := Lib.hid (show decide (0 ≤ C) = false by simp; omega)
              have HJ2 := Lib.hid (show Hid (∀ j, j < k + 1 → chainB okRow ltP zR l j = true) from Lib.hid (HJ0.out (by rw [hs2, decide_eq_true hlt0])))
              clear hs2 hlt0
              refine rol_run (by kernel_rfl) [[], [0], [0, 1], [0, 1, 2], [0, 1, 2, 3], [0, 1, 2, 3, 4], [0, 1, 2, 3, 4, 5], [0, 1, 2, 3, 4, 5, 6], [0, 1, 2, 3, 4, 5, 6, 7], [0, 1, 2, 3, 4, 5, 6, 7, 8], [0, 1, 2, 3, 4, 5, 6, 7, 8, 9], [0, 1, 2, 3, 4, 5, 6, 7, 8, 9, 10], [0, 1, 2, 3, 4, 5, 6, 7, 8, 9, 10, 11], [0, 1, 2, 3, 4, 5, 6, 7, 8, 9, 10, 11, 12], [0, 1, 2, 3, 4, 5, 6, 7, 8, 9, 10, 11, 12, 13], [0, 1, 2, 3, 4, 5, 6, 7, 8, 9, 10, 11, 12, 13], [0, 1, 2, 3, 4, 5, 6, 7, 8, 9, 10, 11, 12, 13, 15], [0, 1, 2, 3, 4, 5, 6, 7, 8, 9, 10, 11, 12, 13, 14, 15, 16], [0, 1, 2, 3, 4, 5, 6, 7, 8, 9, 10, 11, 12, 13, 14, 15, 16, 17], [0, 1, 2, 3, 4, 5, 6, 7, 8, 9, 10, 11, 12, 13, 14, 15, 16, 17, 18], [0, 1, 2, 3, 4, 5, 6, 7, 8, 9, 10, 11, 12, 13], [0, 1, 2, 3, 4, 5, 6, 7, 8, 9, 10, 11, 12, 13, 20], [0, 1, 2, 3, 4, 5, 6, 7, 8, 9, 10, 11, 12, 13, 14, 15, 16, 17, 18, 19, 20, 21], [0, 1, 2, 3, 4, 5, 6, 7, 8, 9, 10, 11, 12, 13, 14, 15, 16, 17, 18, 19, 20, 21, 22], [0, 1, 2, 3, 4, 5, 6, 7, 8, 9, 10, 11, 12, 13, 14, 15, 16, 17, 18, 19, 20, 21, 22, 23], [0, 1, 2, 3, 4, 5, 6, 7, 8, 9, 10, 11, 12, 13, 14, 15, 16, 17, 18, 19, 20, 21, 22, 23, 24]] (by kernel_rfl) [12, 13, 14, 15, 16, 17, 18, 19, 20, 21, 22, 23, 24, 25, 26, 27, 28, 29, 30, 31, 32, 33, 34, 35, 36, 37] [[], [0], [1], [2], [3], [4], [4, 5], [4, 6], [4, 7], [4, 8], [9], [10], [10, 11], [10, 12], [13], [13], [13, 15], [13, 14, 16], [13, 17], [13, 18], [13], [13, 20], [13, 19, 21], [13, 22], [10, 13, 23], [10, 24]] [0, 0, 0, 0, 0, 0, 0, 0, 0, 0, 0, 0, 0, 0, 0, 0, 0, 0, 0, 0, 0, 0, 0, 0, 0, 0] [0, 0, 0, 0, 0, 0, 0, 0, 0, 0, 0, 0, 0, 0, 0, 0, 0, 0, 0, 0, 0, 0, 0, 0, 0, 0] [1000, 1000, 1000, 1000, 1000, 1000, 1000, 1000, 1000, 1000, 1000, 1000, 1000, 1000, 1000, 1000, 1000, 1000, 1000, 1000, 1000, 1000, 1000, 1000, 1000, 1000] [.val 12 (.pointer (some ⟨gk, 0, none⟩)), .val 13 (.string (mkB p)), .val 14 (.bool true), .val 15 (.bool false), .val 16 (.bool false), .val 17 (.pointer (some ⟨gk, 1, none⟩)), .val 18 (.slice ay ny cy), .val 19 (.bool true), .val 20 (.bool false), .val 21 (.bool false), .val 22 (.bool false), .val 23 (.int .i64 (k : Int)), .val 24 (.bool true), .val 25 (.bool true), .val 26 (.slice (some ⟨bl, ol, none⟩) n cl), .val 27 (.int .i64 (k : Int)), .val 28 (.int .i64 (m : Int)), .val 29 (.pointer (some ⟨bl, ol + m * 2, none⟩)), .val 30 (.pointer (some ⟨bl, ol + m * 2, none⟩)), .val 31 (.string (mkB q)), .val 32 (.pointer (some ⟨gk, 0, none⟩)), .val 33 (.string (mkB p)), .val 34 (.int .i64 C), .val 35 (.bool false), .val 36 (.bool false), .val 37 (.bool false)] (by kernel_rfl) ?_ (W5.heap.size) (W5.heap.size) rfl (Below.refl _ _) rfl (fun _ => 0) ?_ ?_ ?_
              · intro j hj
                have hj3 : j < 26 := hj
                have hj2 : j = 0 ∨ j = 1 ∨ j = 2 ∨ j = 3 ∨ j = 4 ∨ j = 5 ∨ j = 6 ∨ j = 7 ∨ j = 8 ∨ j = 9 ∨ j = 10 ∨ j = 11 ∨ j = 12 ∨ j = 13 ∨ j = 14 ∨ j = 15 ∨ j = 16 ∨ j = 17 ∨ j = 18 ∨ j = 19 ∨ j = 20 ∨ j = 21 ∨ j = 22 ∨ j = 23 ∨ j = 24 ∨ j = 25 := by omega
                clear hj hj3
                rcases hj2 with rfl | rfl | rfl | rfl | rfl | rfl | rfl | rfl | rfl | rfl | rfl | rfl | rfl | rfl | rfl | rfl | rfl | rfl | rfl | rfl | rfl | rfl | rfl | rfl | rfl | rfl
                · exact trivial
                · exact trivial
                · exact trivial
                · exact trivial
                · exact trivial
                · exact trivial
                · exact trivial
                · exact trivial
                · exact trivial
                · exact trivial
                · exact trivial
                · exact trivial
                · exact trivial
                · exact trivial
                · exact trivial
                · exact trivial
                · exact trivial
                · exact trivial
                · exact trivial
                · exact trivial
                · exact trivial
                · exact trivial
                · exact trivial
                · exact trivial
                · exact trivial
                · exact trivial
              · intro j hj0 hj
                exact absurd hj (Nat.not_lt.2 hj0)
              · intro i hi a wx who hG hF
                have hz : a.tmps.size = 39 := hG.size
                have hi3 : i < 26 := hi
                have hi2 : i = 0 ∨ i = 1 ∨ i = 2 ∨ i = 3 ∨ i = 4 ∨ i = 5 ∨ i = 6 ∨ i = 7 ∨ i = 8 ∨ i = 9 ∨ i = 10 ∨ i = 11 ∨ i = 12 ∨ i = 13 ∨ i = 14 ∨ i = 15 ∨ i = 16 ∨ i = 17 ∨ i = 18 ∨ i = 19 ∨ i = 20 ∨ i = 21 ∨ i = 22 ∨ i = 23 ∨ i = 24 ∨ i = 25 := by omega
                clear hi hi3
                rcases hi2 with rfl | rfl | rfl | rfl | rfl | rfl | rfl | rfl | rfl | rfl | rfl | rfl | rfl | rfl | rfl | rfl | rfl | rfl | rfl | rfl | rfl | rfl | rfl | rfl | rfl | rfl
                · exact rol_val rfl rfl rfl (by rw [hz]; decide) (ex_field rfl (eval_slot ((hG.slots 4 (by decide)).trans rfl)) (by go_simp)) hG.below
                · exact rol_val rfl rfl rfl (by rw [hz]; decide) (ex_load rfl (eval_slot (hF 0 (by decide))) (ld_strT (cell_keep D0.out hG.below))) hG.below
                · refine rol_call rfl rfl rfl (by rw [hz]; decide) (ex_call rfl (by simp [eval_slot (hF 1 (by decide))]) e1) (KP.out wx) ?_ hG.below (Nat.le_trans HNW.out hG.new)
                  rintro e w1 ⟨rfl, hb1⟩
                  exact ⟨_, rfl, hb1, .inl rfl⟩
                · exact rol_val rfl rfl rfl (by rw [hz]; decide) (ex_un rfl (eval_slot (hF 2 (by decide))) rfl) hG.below
                · exact rol_val rfl rfl rfl (by rw [hz]; decide) (ex_move (Or.inl rfl) (eval_slot (hF 3 (by decide)))) hG.below
                · exact rol_val rfl (want_yes rfl rfl (hF 4 (by decide))) rfl (by rw [hz]; decide) (ex_field rfl (eval_slot ((hG.slots 4 (by decide)).trans rfl)) (by go_simp)) hG.below
                · exact rol_val rfl (want_yes rfl rfl (hF 4 (by decide))) rfl (by rw [hz]; decide) (ex_load rfl (eval_slot (hF 5 (by decide))) (ld_stsT (cell_keep D1.out hG.below))) hG.below
                · refine rol_call rfl (want_yes rfl rfl (hF 4 (by decide))) rfl (by rw [hz]; decide) (ex_call rfl (by simp [eval_slot (hF 6 (by decide))]) e2) (KF.out wx (SY.out.belowB hG.below)) ?_ hG.below (Nat.le_trans HNW.out hG.new)
                  rintro e w1 ⟨rfl, hb1⟩
                  exact ⟨_, rfl, hb1, .inl rfl⟩
                · exact rol_val rfl (want_yes rfl rfl (hF 4 (by decide))) rfl (by rw [hz]; decide) (ex_un rfl (eval_slot (hF 7 (by decide))) rfl) hG.below
                · exact rol_val rfl rfl rfl (by rw [hz]; decide) (ex_pick_no rfl (eval_slot (hF 4 (by decide))) (eval_slot (hF 8 (by decide)))) hG.below
                · exact rol_val rfl rfl rfl (by rw [hz]; decide) (ex_move (Or.inl rfl) (eval_slot (hF 9 (by decide)))) hG.below
                · exact rol_val rfl (want_yes rfl rfl (hF 10 (by decide))) rfl (by rw [hz]; decide) (ex_move (Or.inl rfl) (eval_slot ((hG.slots 3 (by decide)).trans rfl))) hG.below
                · exact rol_val rfl (want_yes rfl rfl (hF 10 (by decide))) rfl (by rw [hz]; decide) (ex_bin rfl (eval_slot (hF 11 (by decide))) rfl (by go_simp) (bin_gtr0 HZ.out)) hG.below
                · exact rol_val rfl (want_yes rfl rfl (hF 10 (by decide))) rfl (by rw [hz]; decide) (ex_move (Or.inl rfl) (eval_slot (hF 12 (by decide)))) hG.below
                · exact rol_val rfl (want_yes rfl rfl (hF 13 (by decide))) rfl (by rw [hz]; decide) (ex_move (Or.inl rfl) (eval_slot ((hG.slots 0 (by decide)).trans rfl))) hG.below
                · exact rol_val rfl (want_yes rfl rfl (hF 13 (by decide))) rfl (by rw [hz]; decide) (ex_move (Or.inl rfl) (eval_slot ((hG.slots 3 (by decide)).trans rfl))) hG.below
                · exact rol_val rfl (want_yes rfl rfl (hF 13 (by decide))) rfl (by rw [hz]; decide) (ex_bin rfl (eval_slot (hF 15 (by decide))) rfl (by go_simp) (bin_sub1 HM.out HKB.out)) hG.below
                · exact rol_val rfl (want_yes rfl rfl (hF 13 (by decide))) rfl (by rw [hz]; decide) (ex_index rfl (eval_slot (hF 14 (by decide))) (eval_slot (hF 16 (by decide))) (idx_rws HMN.out)) hG.below
                · exact rol_val rfl (want_yes rfl rfl (hF 13 (by decide))) rfl (by rw [hz]; decide) (ex_field rfl (eval_slot (hF 17 (by decide))) (by go_simp)) hG.below
                · exact rol_val rfl (want_yes rfl rfl (hF 13 (by decide))) rfl (by rw [hz]; decide) (ex_load rfl (eval_slot (hF 18 (by decide))) (ld_strT (cell_keep Q0.out hG.below))) hG.below
                · exact rol_val rfl (want_yes rfl rfl (hF 13 (by decide))) rfl (by rw [hz]; decide) (ex_field rfl (eval_slot ((hG.slots 4 (by decide)).trans rfl)) (by go_simp)) hG.below
                · exact rol_val rfl (want_yes rfl rfl (hF 13 (by decide))) rfl (by rw [hz]; decide) (ex_load rfl (eval_slot (hF 20 (by decide))) (ld_strT (cell_keep D0.out hG.below))) hG.below
                · refine rol_call rfl (want_yes rfl rfl (hF 13 (by decide))) rfl (by rw [hz]; decide) (ex_call rfl (by simp [eval_slot (hF 19 (by decide)), eval_slot (hF 21 (by decide))]) e3) (KC.out wx) ?_ hG.below (Nat.le_trans HNW.out hG.new)
                  rintro e w1 ⟨rfl, rfl⟩
                  exact ⟨_, rfl, Below.refl _ _, .inl rfl⟩
                · exact rol_val rfl (want_yes rfl rfl (hF 13 (by decide))) rfl (by rw [hz]; decide) (ex_bin rfl (eval_slot (hF 22 (by decide))) rfl (by go_simp) (bin_geq0 HGE.out)) hG.below
                · exact rol_val rfl (want_yes rfl rfl (hF 10 (by decide))) rfl (by rw [hz]; decide) (ex_pick_yes rfl (eval_slot (hF 13 (by decide))) (eval_slot (hF 23 (by decide)))) hG.below
                · exact rol_val rfl rfl rfl (by rw [hz]; decide) (ex_pick_no rfl (eval_slot (hF 10 (by decide))) (eval_slot (hF 24 (by decide)))) hG.below
              · intro a wx who hG hF
                have fv37 : a.tmps.getD 37 undef = .bool false := eval_slot (s := 37) (hF 25 (of_decide_eq_true (by kernel_rfl)) (of_decide_eq_true (by kernel_rfl)))
                have hbx := hG.below
                have hnx := hG.new
                rw [hG.frame]
                simp only [List.foldl_cons, List.foldl_nil, List.setIfInBounds_toArray, List.set_cons_zero, List.set_cons_succ]
                generalize a.tmps.getD 12 undef = u12
                generalize a.tmps.getD 13 undef = u13
                generalize a.tmps.getD 14 undef = u14
                generalize a.tmps.getD 15 undef = u15
                generalize a.tmps.getD 16 undef = u16
                generalize a.tmps.getD 17 undef = u17
                generalize a.tmps.getD 18 undef = u18
                generalize a.tmps.getD 19 undef = u19
                generalize a.tmps.getD 20 undef = u20
                generalize a.tmps.getD 21 undef = u21
                generalize a.tmps.getD 22 undef = u22
                generalize a.tmps.getD 23 undef = u23
                generalize a.tmps.getD 24 undef = u24
                generalize a.tmps.getD 25 undef = u25
                generalize a.tmps.getD 26 undef = u26
                generalize a.tmps.getD 27 undef = u27
                generalize a.tmps.getD 28 undef = u28
                generalize a.tmps.getD 29 undef = u29
                generalize a.tmps.getD 30 undef = u30
                generalize a.tmps.getD 31 undef = u31
                generalize a.tmps.getD 32 undef = u32
                generalize a.tmps.getD 33 undef = u33
                generalize a.tmps.getD 34 undef = u34
                generalize a.tmps.getD 35 undef = u35
                generalize a.tmps.getD 36 undef = u36
                rw [fv37]
                clear hF hG fv37
                have HB6 := Lib.hid (below_step HB5.out hbx)
                clear hbx hnx
                go_wp2
                go_roundw
                case rel => exact ⟨k + 1, by omega, by go_num, HJ2.out, HB6⟩
                case measure => simp [intOf]; omega
            · have HGE := Lib.hid (show decide (0 ≤ C) = true by simp; omega)
              have HNO := Lib.hid (HNO0.out (by rw [hs2, decide_eq_false hlt0]))
              clear hs2 hlt0
              refine rol_run (by kernel_rfl) [[], [0], [0, 1], [0, 1, 2], [0, 1, 2, 3], [0, 1, 2, 3, 4], [0, 1, 2, 3, 4, 5], [0, 1, 2, 3, 4, 5, 6], [0, 1, 2, 3, 4, 5, 6, 7], [0, 1, 2, 3, 4, 5, 6, 7, 8], [0, 1, 2, 3, 4, 5, 6, 7, 8, 9], [0, 1, 2, 3, 4, 5, 6, 7, 8, 9, 10], [0, 1, 2, 3, 4, 5, 6, 7, 8, 9, 10, 11], [0, 1, 2, 3, 4, 5, 6, 7, 8, 9, 10, 11, 12], [0, 1, 2, 3, 4, 5, 6, 7, 8, 9, 10, 11, 12, 13], [0, 1, 2, 3, 4, 5, 6, 7, 8, 9, 10, 11, 12, 13], [0, 1, 2, 3, 4, 5, 6, 7, 8, 9, 10, 11, 12, 13, 15], [0, 1, 2, 3, 4, 5, 6, 7, 8, 9, 10, 11, 12, 13, 14, 15, 16], [0, 1, 2, 3, 4, 5, 6, 7, 8, 9, 10, 11, 12, 13, 14, 15, 16, 17], [0, 1, 2, 3, 4, 5, 6, 7, 8, 9, 10, 11, 12, 13, 14, 15, 16, 17, 18], [0, 1, 2, 3, 4, 5, 6, 7, 8, 9, 10, 11, 12, 13], [0, 1, 2, 3, 4, 5, 6, 7, 8, 9, 10, 11, 12, 13, 20], [0, 1, 2, 3, 4, 5, 6, 7, 8, 9, 10, 11, 12, 13, 14, 15, 16, 17, 18, 19, 20, 21], [0, 1, 2, 3, 4, 5, 6, 7, 8, 9, 10, 11, 12, 13, 14, 15, 16, 17, 18, 19, 20, 21, 22], [0, 1, 2, 3, 4, 5, 6, 7, 8, 9, 10, 11, 12, 13, 14, 15, 16, 17, 18, 19, 20, 21, 22, 23], [0, 1, 2, 3, 4, 5, 6, 7, 8, 9, 10, 11, 12, 13, 14, 15, 16, 17, 18, 19, 20, 21, 22, 23, 24]] (by kernel_rfl) [12, 13, 14, 15, 16, 17, 18, 19, 20, 21, 22, 23, 24, 25, 26, 27, 28, 29, 30, 31, 32, 33, 34, 35, 36, 37] [[], [0], [1], [2], [3], [4], [4, 5], [4, 6], [4, 7], [4, 8], [9], [10], [10, 11], [10, 12], [13], [13], [13, 15], [13, 14, 16], [13, 17], [13, 18], [13], [13, 20], [13, 19, 21], [13, 22], [10, 13, 23], [10, 24]] [0, 0, 0, 0, 0, 0, 0, 0, 0, 0, 0, 0, 0, 0, 0, 0, 0, 0, 0, 0, 0, 0, 0, 0, 0, 0] [0, 0, 0, 0, 0, 0, 0, 0, 0, 0, 0, 0, 0, 0, 0, 0, 0, 0, 0, 0, 0, 0, 0, 0, 0, 0] [1000, 1000, 1000, 1000, 1000, 1000, 1000, 1000, 1000, 1000, 1000, 1000, 1000, 1000, 1000, 1000, 1000, 1000, 1000, 1000, 1000, 1000, 1000, 1000, 1000, 1000] [.val 12 (.pointer (some ⟨gk, 0, none⟩)), .val 13 (.string (mkB p)), .val 14 (.bool true), .val 15 (.bool false), .val 16 (.bool false), .val 17 (.pointer (some ⟨gk, 1, none⟩)), .val 18 (.slice ay ny cy), .val 19 (.bool true), .val 20 (.bool false), .val 21 (.bool false), .val 22 (.bool false), .val 23 (.int .i64 (k : Int)), .val 24 (.bool true), .val 25 (.bool true), .val 26 (.slice (some ⟨bl, ol, none⟩) n cl), .val 27 (.int .i64 (k : Int)), .val 28 (.int .i64 (m : Int)), .val 29 (.pointer (some ⟨bl, ol + m * 2, none⟩)), .val 30 (.pointer (some ⟨bl, ol + m * 2, none⟩)), .val 31 (.string (mkB q)), .val 32 (.pointer (some ⟨gk, 0, none⟩)), .val 33 (.string (mkB p)), .val 34 (.int .i64 C), .val 35 (.bool true), .val 36 (.bool true), .val 37 (.bool true)] (by kernel_rfl) ?_ (W5.heap.size) (W5.heap.size) rfl (Below.refl _ _) rfl (fun _ => 0) ?_ ?_ ?_
              · intro j hj
                have hj3 : j < 26 := hj
                have hj2 : j = 0 ∨ j = 1 ∨ j = 2 ∨ j = 3 ∨ j = 4 ∨ j = 5 ∨ j = 6 ∨ j = 7 ∨ j = 8 ∨ j = 9 ∨ j = 10 ∨ j = 11 ∨ j = 12 ∨ j = 13 ∨ j = 14 ∨ j = 15 ∨ j = 16 ∨ j = 17 ∨ j = 18 ∨ j = 19 ∨ j = 20 ∨ j = 21 ∨ j = 22 ∨ j = 23 ∨ j = 24 ∨ j = 25 := by omega
                clear hj hj3
                rcases hj2 with rfl | rfl | rfl | rfl | rfl | rfl | rfl | rfl | rfl | rfl | rfl | rfl | rfl | rfl | rfl | rfl | rfl | rfl | rfl | rfl | rfl | rfl | rfl | rfl | rfl | rfl
                · exact trivial
                · exact trivial
                · exact trivial
                · exact trivial
                · exact trivial
                · exact trivial
                · exact trivial
                · exact trivial
                · exact trivial
                · exact trivial
                · exact trivial
                · exact trivial
                · exact trivial
                · exact trivial
                · exact trivial
                · exact trivial
                · exact trivial
                · exact trivial
                · exact trivial
                · exact trivial
                · exact trivial
                · exact trivial
                · exact trivial
                · exact trivial
                · exact trivial
                · exact trivial
              · intro j hj0 hj
                exact absurd hj (Nat.not_lt.2 hj0)
              · intro i hi a wx who hG hF
                have hz : a.tmps.size = 39 := hG.size
                have hi3 : i < 26 := hi
                have hi2 : i = 0 ∨ i = 1 ∨ i = 2 ∨ i = 3 ∨ i = 4 ∨ i = 5 ∨ i = 6 ∨ i = 7 ∨ i = 8 ∨ i = 9 ∨ i = 10 ∨ i = 11 ∨ i = 12 ∨ i = 13 ∨ i = 14 ∨ i = 15 ∨ i = 16 ∨ i = 17 ∨ i = 18 ∨ i = 19 ∨ i = 20 ∨ i = 21 ∨ i = 22 ∨ i = 23 ∨ i = 24 ∨ i = 25 := by omega
                clear hi hi3
                rcases hi2 with rfl | rfl | rfl | rfl | rfl | rfl | rfl | rfl | rfl | rfl | rfl | rfl | rfl | rfl | rfl | rfl | rfl | rfl | rfl | rfl | rfl | rfl | rfl | rfl | rfl | rfl
                · exact rol_val rfl rfl rfl (by rw [hz]; decide) (ex_field rfl (eval_slot ((hG.slots 4 (by decide)).trans rfl)) (by go_simp)) hG.below
                · exact rol_val rfl rfl rfl (by rw [hz]; decide) (ex_load rfl (eval_slot (hF 0 (by decide))) (ld_strT (cell_keep D0.out hG.below))) hG.below
                · refine rol_call rfl rfl rfl (by rw [hz]; decide) (ex_call rfl (by simp [eval_slot (hF 1 (by decide))]) e1) (KP.out wx) ?_ hG.below (Nat.le_trans HNW.out hG.new)
                  rintro e w1 ⟨rfl, hb1⟩
                  exact ⟨_, rfl, hb1, .inl rfl⟩
                · exact rol_val rfl rfl rfl (by rw [hz]; decide) (ex_un rfl (eval_slot (hF 2 (by decide))) rfl) hG.below
                · exact rol_val rfl rfl rfl (by rw [hz]; decide) (ex_move (Or.inl rfl) (eval_slot (hF 3 (by decide)))) hG.below
                · exact rol_val rfl (want_yes rfl rfl (hF 4 (by decide))) rfl (by rw [hz]; decide) (ex_field rfl (eval_slot ((hG.slots 4 (by decide)).trans rfl)) (by go_simp)) hG.below
                · exact rol_val rfl (want_yes rfl rfl (hF 4 (by decide))) rfl (by rw [hz]; decide) (ex_load rfl (eval_slot (hF 5 (by decide))) (ld_stsT (cell_keep D1.out hG.below))) hG.below
                · refine rol_call rfl (want_yes rfl rfl (hF 4 (by decide))) rfl (by rw [hz]; decide) (ex_call rfl (by simp [eval_slot (hF 6 (by decide))]) e2) (KF.out wx (SY.out.belowB hG.below)) ?_ hG.below (Nat.le_trans HNW.out hG.new)
                  rintro e w1 ⟨rfl, hb1⟩
                  exact ⟨_, rfl, hb1, .inl rfl⟩
                · exact rol_val rfl (want_yes rfl rfl (hF 4 (by decide))) rfl (by rw [hz]; decide) (ex_un rfl (eval_slot (hF 7 (by decide))) rfl) hG.below
                · exact rol_val rfl rfl rfl (by rw [hz]; decide) (ex_pick_no rfl (eval_slot (hF 4 (by decide))) (eval_slot (hF 8 (by decide)))) hG.below
                · exact rol_val rfl rfl rfl (by rw [hz]; decide) (ex_move (Or.inl rfl) (eval_slot (hF 9 (by decide)))) hG.below
                · exact rol_val rfl (want_yes rfl rfl (hF 10 (by decide))) rfl (by rw [hz]; decide) (ex_move (Or.inl rfl) (eval_slot ((hG.slots 3 (by decide)).trans rfl))) hG.below
                · exact rol_val rfl (want_yes rfl rfl (hF 10 (by decide))) rfl (by rw [hz]; decide) (ex_bin rfl (eval_slot (hF 11 (by decide))) rfl (by go_simp) (bin_gtr0 HZ.out)) hG.below
                · exact rol_val rfl (want_yes rfl rfl (hF 10 (by decide))) rfl (by rw [hz]; decide) (ex_move (Or.inl rfl) (eval_slot (hF 12 (by decide)))) hG.below
                · exact rol_val rfl (want_yes rfl rfl (hF 13 (by decide))) rfl (by rw [hz]; decide) (ex_move (Or.inl rfl) (eval_slot ((hG.slots 0 (by decide)).trans rfl))) hG.below
                · exact rol_val rfl (want_yes rfl rfl (hF 13 (by decide))) rfl (by rw [hz]; decide) (ex_move (Or.inl rfl) (eval_slot ((hG.slots 3 (by decide)).trans rfl))) hG.below
                · exact rol_val rfl (want_yes rfl rfl (hF 13 (by decide))) rfl (by rw [hz]; decide) (ex_bin rfl (eval_slot (hF 15 (by decide))) rfl (by go_simp) (bin_sub1 HM.out HKB.out)) hG.below
                · exact rol_val rfl (want_yes rfl rfl (hF 13 (by decide))) rfl (by rw [hz]; decide) (ex_index rfl (eval_slot (hF 14 (by decide))) (eval_slot (hF 16 (by decide))) (idx_rws HMN.out)) hG.below
                · exact rol_val rfl (want_yes rfl rfl (hF 13 (by decide))) rfl (by rw [hz]; decide) (ex_field rfl (eval_slot (hF 17 (by decide))) (by go_simp)) hG.below
                · exact rol_val rfl (want_yes rfl rfl (hF 13 (by decide))) rfl (by rw [hz]; decide) (ex_load rfl (eval_slot (hF 18 (by decide))) (ld_strT (cell_keep Q0.out hG.below))) hG.below
                · exact rol_val rfl (want_yes rfl rfl (hF 13 (by decide))) rfl (by rw [hz]; decide) (ex_field rfl (eval_slot ((hG.slots 4 (by decide)).trans rfl)) (by go_simp)) hG.below
                · exact rol_val rfl (want_yes rfl rfl (hF 13 (by decide))) rfl (by rw [hz]; decide) (ex_load rfl (eval_slot (hF 20 (by decide))) (ld_strT (cell_keep D0.out hG.below))) hG.below
                · refine rol_call rfl (want_yes rfl rfl (hF 13 (by decide))) rfl (by rw [hz]; decide) (ex_call rfl (by simp [eval_slot (hF 19 (by decide)), eval_slot (hF 21 (by decide))]) e3) (KC.out wx) ?_ hG.below (Nat.le_trans HNW.out hG.new)
                  rintro e w1 ⟨rfl, rfl⟩
                  exact ⟨_, rfl, Below.refl _ _, .inl rfl⟩
                · exact rol_val rfl (want_yes rfl rfl (hF 13 (by decide))) rfl (by rw [hz]; decide) (ex_bin rfl (eval_slot (hF 22 (by decide))) rfl (by go_simp) (bin_geq0 HGE.out)) hG.below
                · exact rol_val rfl (want_yes rfl rfl (hF 10 (by decide))) rfl (by rw [hz]; decide) (ex_pick_yes rfl (eval_slot (hF 13 (by decide))) (eval_slot (hF 23 (by decide)))) hG.below
                · exact rol_val rfl rfl rfl (by rw [hz]; decide) (ex_pick_no rfl (eval_slot (hF 10 (by decide))) (eval_slot (hF 24 (by decide)))) hG.below
              · intro a wx who hG hF
                have fv37 : a.tmps.getD 37 undef = .bool true := eval_slot (s := 37) (hF 25 (of_decide_eq_true (by kernel_rfl)) (of_decide_eq_true (by kernel_rfl)))
                have hbx := hG.below
                have hnx := hG.new
                rw [hG.frame]
                simp only [List.foldl_cons, List.foldl_nil, List.setIfInBounds_toArray, List.set_cons_zero, List.set_cons_succ]
                generalize a.tmps.getD 12 undef = u12
                generalize a.tmps.getD 13 undef = u13
                generalize a.tmps.getD 14 undef = u14
                generalize a.tmps.getD 15 undef = u15
                generalize a.tmps.getD 16 undef = u16
                generalize a.tmps.getD 17 undef = u17
                generalize a.tmps.getD 18 undef = u18
                generalize a.tmps.getD 19 undef = u19
                generalize a.tmps.getD 20 undef = u20
                generalize a.tmps.getD 21 undef = u21
                generalize a.tmps.getD 22 undef = u22
                generalize a.tmps.getD 23 undef = u23
                generalize a.tmps.getD 24 undef = u24
                generalize a.tmps.getD 25 undef = u25
                generalize a.tmps.getD 26 undef = u26
                generalize a.tmps.getD 27 undef = u27
                generalize a.tmps.getD 28 undef = u28
                generalize a.tmps.getD 29 undef = u29
                generalize a.tmps.getD 30 undef = u30
                generalize a.tmps.getD 31 undef = u31
                generalize a.tmps.getD 32 undef = u32
                generalize a.tmps.getD 33 undef = u33
                generalize a.tmps.getD 34 undef = u34
                generalize a.tmps.getD 35 undef = u35
                generalize a.tmps.getD 36 undef = u36
                rw [fv37]
                clear hF hG fv37
                have HB6 := Lib.hid (below_step HB5.out hbx)
                clear hbx hnx
                go_wp2
                go_ret
                exact ⟨by rw [HNO.out]; rfl, HB6.out⟩
    · have e : k = n := by omega
      subst e
      have hy : okR l = true := okR_len HJ.out (by rw [HN.out]; exact Nat.le_refl _)
      have HT2 := Lib.hid (show T = 0 by rw [← HT.out, if_pos hy])
      clear hy
      go_wp2
      go_ret
      exact ⟨by rw [HT2.out]; rfl, HB.out⟩
end Go.Proofs.YtlbibgofhhdgoaaGreat

namespace Go.Proofs.YtlbibgofhhdgoaaGreat
open Go.RowKit
set_option linter.unusedVariables false
set_option maxRecDepth 100000

theorem boxT2 (w : World) (x y x' y' : Value) (t t' : TypeId) : ∃ W g g', (w.alloc (.cells #[x, y] t)).alloc (.cells #[x', y'] t') = W ∧ w.heap.size = g ∧ w.heap.size + 1 = g' ∧ W.heap[g]? = some (.cells #[x, y] t (0, 0)) ∧ W.heap[g']? = some (.cells #[x', y'] t' (0, 0)) ∧ Below w.heap.size w W := by
  refine ⟨_, _, _, rfl, rfl, rfl, ?_, ?_, ((Below.refl _ _).alloc (Nat.le_refl _) _).alloc (by simp) _⟩
  · exact row_keepB (heap_alloc_new _ _) ((Below.refl _ _).alloc (Nat.le_refl _) _)
  · have := heap_alloc_new (w.alloc (.cells #[x, y] t)) (.cells #[x', y'] t')
    simpa using this
theorem row_dec {p q : List UInt8} {vs us : List (List UInt8)} : decide ((p, vs) = (q, us)) = (decide (p = q) && decide (vs = us)) := by
  rw [Bool.eq_iff_iff, Bool.and_eq_true, decide_eq_true_iff, decide_eq_true_iff, decide_eq_true_iff, Prod.mk.injEq]

theorem bin_neqs {p q : List UInt8} {b : Bool} {w : World} (h : decide (p = q) = !b) : Sem.run Tryz.prog (binOp .neq 9 (.string (mkB p)) (.string (mkB q))) w = .ok (.bool b) w := by
  have e := mk_beq p q
  rw [h] at e
  cases b <;> simp only [Bool.not_true, Bool.not_false] at e <;> go_simp

set_option maxHeartbeats 3200000 in
theorem refsame16_any (U V : Value) (ns ms : List Rw) (w : World) (hu : Rws w U ns) (hv : Rws w V ms) :
    Calls Tryz.prog 37 #[U, V] w fun e w' => e = .returned (.bool (decide (ns = ms))) ∧ Below w.heap.size w w' := by
  obtain ⟨a, c, rfl, h1, h2, -, -⟩ := hu.ex
  obtain ⟨a', c', rfl, h1', h2', -, -⟩ := hv.ex
  unfold maxLen at h2 h2'
  obtain ⟨n, hn⟩ : ∃ n, ns.length = n := ⟨_, rfl⟩
  obtain ⟨m, hm⟩ : ∃ m, ms.length = m := ⟨_, rfl⟩
  rw [hn] at h1 hu ⊢
  rw [hm] at h1' hv ⊢
  obtain ⟨R, hR⟩ : ∃ R, decide (ns = ms) = R := ⟨_, rfl⟩
  rw [hR]
  have HN := Lib.hid hn; have HM := Lib.hid hm; have SU := Lib.hid hu; have SV := Lib.hid hv; have HR := Lib.hid hR
  clear hu hv hn hm hR
  have e1 : ∀ args w, (callFunc 65 args).run Tryz.prog w = .ok (.enter 65 args) w := enters_of Tryz.func65 (by kernel_rfl) rfl
  by_cases hl : n = m
  · subst hl
    have h0 : ((n : Int) != (n : Int)) = false := by simp
    go_enter Tryz.func37, Tryz.ntmps37
    go_wp2
    go_loopw [5] (fun i wr => ∃ k : Nat, k ≤ n ∧ i = .int .i64 k ∧ Hid (ns.take k = ms.take k) ∧ Hid (Below w.heap.size w wr)) (fun i _ => n - (intOf i).toNat)
    case atStart => exact ⟨0, Nat.zero_le _, rfl, Lib.hid (by simp), Lib.hid (Below.refl _ _)⟩
    case round =>
      obtain ⟨k, hk, rfl, H, HB⟩ := hrel
      by_cases hlt : k < n
      · have hkl : k < ns.length := by rw [HN.out]; exact hlt
        have hkm : k < ms.length := by rw [HM.out]; exact hlt
        obtain ⟨bx, ox, ax, nx, cx, rfl, hc0, hc1, hsx⟩ := (SU.out.below HB.out).at k hkl
        obtain ⟨bz, oy, ay, ny, cy, rfl, hd0, hd1, hsy⟩ := (SV.out.below HB.out).at k hkm
        obtain ⟨x, hx⟩ : ∃ x, x = ns.getD k zR := ⟨_, rfl⟩
        obtain ⟨y, hy⟩ : ∃ y, y = ms.getD k zR := ⟨_, rfl⟩
        rw [← hx] at hc0 hsx
        rw [← hy] at hd0 hsy
        have e1' : ns.take (k + 1) = ns.take k ++ [x] := by rw [List.take_succ_eq_append_getElem hkl, hx, gd_at hkl]
        have e2' : ms.take (k + 1) = ms.take k ++ [y] := by rw [List.take_succ_eq_append_getElem hkm, hy, gd_at hkm]
        obtain ⟨x1, x2⟩ := x
        obtain ⟨y1, y2⟩ := y
        simp only at hc0 hc1 hd0 hd1 hsx hsy
        have EE1 := Lib.hid e1'; have EE2 := Lib.hid e2'; clear hx hy e1' e2'
        have kc := fun w h h' => same_any (.slice ax nx cx) (.slice ay ny cy) x2 y2 w h h'
        unfold sameB at kc
        obtain ⟨o, ho⟩ : ∃ o, decide (x1 = y1) = o := ⟨_, rfl⟩
        obtain ⟨v, hv⟩ : ∃ o, decide (x2 = y2) = o := ⟨_, rfl⟩
        rw [hv] at kc
        have hno : (o && v) = false → R = false := fun q => by
          rw [← HR.out]; refine decide_eq_false fun e => ?_
          have h5 := EE1.out
          rw [e, EE2.out] at h5
          have h6 := List.append_inj_right' h5 rfl
          simp only [List.cons.injEq, and_true] at h6
          have h7 := row_dec (p := x1) (q := y1) (vs := x2) (us := y2)
          rw [ho, hv, q] at h7
          exact of_decide_eq_false h7 h6.symm
        have hyes : (o && v) = true → ns.take (k + 1) = ms.take (k + 1) := fun q => by
          have h7 := row_dec (p := x1) (q := y1) (vs := x2) (us := y2)
          rw [ho, hv, q] at h7
          rw [EE1.out, EE2.out, H.out, of_decide_eq_true h7]
        have HNO0 := Lib.hid hno; have HY0 := Lib.hid hyes; have HO := Lib.hid ho; have KC := Lib.hid kc; have SX := Lib.hid hsx; have SY := Lib.hid hsy; have C0 := Lib.hid hc0; have C1 := Lib.hid hc1; have E0 := Lib.hid hd0; have E1 := Lib.hid hd1; have HKN := Lib.hid hlt; have HNW := Lib.hid (Nat.le_refl wr.heap.size)
        clear hno hyes ho hv kc hsx hsy hc0 hc1 hd0 hd1
        have hkb : (k : Int) < (n : Int) := by omega
        go_upto_region 6 with fail
        cases o with
        | false =>
          have HNO := Lib.hid (HNO0.out rfl)
          have HPQ : Hid (decide (x1 = y1) = !true) := HO
          refine rol_run (by kernel_rfl) [[], [], [0, 1], [0, 1, 2], [0, 1, 2, 3], [], [], [5, 6], [5, 6, 7], [5, 6, 7, 8], [0, 1, 2, 3, 4, 5, 6, 7, 8, 9], [0, 1, 2, 3, 4, 5, 6, 7, 8, 9, 10], [0, 1, 2, 3, 4, 5, 6, 7, 8, 9, 10, 11], [0, 1, 2, 3, 4, 5, 6, 7, 8, 9, 10, 11], [0, 1, 2, 3, 4, 5, 6, 7, 8, 9, 10, 11, 12, 13], [0, 1, 2, 3, 4, 5, 6, 7, 8, 9, 10, 11, 12, 13, 14], [0, 1, 2, 3, 4, 5, 6, 7, 8, 9, 10, 11, 12, 13, 14, 15], [0, 1, 2, 3, 4, 5, 6, 7, 8, 9, 10, 11], [0, 1, 2, 3, 4, 5, 6, 7, 8, 9, 10, 11], [0, 1, 2, 3, 4, 5, 6, 7, 8, 9, 10, 11, 17, 18], [0, 1, 2, 3, 4, 5, 6, 7, 8, 9, 10, 11, 17, 18, 19], [0, 1, 2, 3, 4, 5, 6, 7, 8, 9, 10, 11, 17, 18, 19, 20], [0, 1, 2, 3, 4, 5, 6, 7, 8, 9, 10, 11, 12, 13, 14, 15, 16, 17, 18, 19, 20, 21], [0, 1, 2, 3, 4, 5, 6, 7, 8, 9, 10, 11, 12, 13, 14, 15, 16, 17, 18, 19, 20, 21, 22], [0, 1, 2, 3, 4, 5, 6, 7, 8, 9, 10, 11, 12, 13, 14, 15, 16, 17, 18, 19, 20, 21, 22, 23]] (by kernel_rfl) [17, 18, 19, 20, 21, 22, 23, 24, 25, 26, 27, 28, 29, 30, 31, 32, 33, 34, 35, 36, 37, 38, 39, 40, 41] [[], [], [0, 1], [2], [3], [], [], [5, 6], [7], [8], [4, 9], [10], [11], [11], [11], [11], [11], [11], [11], [11], [11], [11], [11], [11], [11]] [0, 0, 0, 0, 0, 0, 0, 0, 0, 0, 0, 0, 0, 0, 0, 0, 0, 0, 0, 0, 0, 0, 0, 0, 0] [0, 0, 0, 0, 0, 0, 0, 0, 0, 0, 0, 0, 0, 0, 0, 0, 0, 0, 0, 0, 0, 0, 0, 0, 0] [1000, 1000, 1000, 1000, 1000, 1000, 1000, 1000, 1000, 1000, 1000, 1000, 1000, 1000, 1000, 1000, 1000, 1000, 1000, 1000, 1000, 1000, 1000, 1000, 1000] [.val 17 (.slice (some ⟨bx, ox, none⟩) n c), .val 18 (.int .i64 (k : Int)), .val 19 (.pointer (some ⟨bx, ox + k * 2, none⟩)), .val 20 (.pointer (some ⟨bx, ox + k * 2, none⟩)), .val 21 (.string (mkB x1)), .val 22 (.slice (some ⟨bz, oy, none⟩) n c'), .val 23 (.int .i64 (k : Int)), .val 24 (.pointer (some ⟨bz, oy + k * 2, none⟩)), .val 25 (.pointer (some ⟨bz, oy + k * 2, none⟩)), .val 26 (.string (mkB y1)), .val 27 (.bool true), .val 28 (.bool true), .val 29 undef, .val 30 undef, .val 31 undef, .val 32 undef, .val 33 undef, .val 34 undef, .val 35 undef, .val 36 undef, .val 37 undef, .val 38 undef, .val 39 undef, .val 40 undef, .val 41 (.bool true)] (by kernel_rfl) ?_ (wr.heap.size) (wr.heap.size) rfl (Below.refl _ _) rfl (fun _ => 0) ?_ ?_ ?_
          · intro j hj
            have hj3 : j < 25 := hj
            have hj2 : j = 0 ∨ j = 1 ∨ j = 2 ∨ j = 3 ∨ j = 4 ∨ j = 5 ∨ j = 6 ∨ j = 7 ∨ j = 8 ∨ j = 9 ∨ j = 10 ∨ j = 11 ∨ j = 12 ∨ j = 13 ∨ j = 14 ∨ j = 15 ∨ j = 16 ∨ j = 17 ∨ j = 18 ∨ j = 19 ∨ j = 20 ∨ j = 21 ∨ j = 22 ∨ j = 23 ∨ j = 24 := by omega
            clear hj hj3
            rcases hj2 with rfl | rfl | rfl | rfl | rfl | rfl | rfl | rfl | rfl | rfl | rfl | rfl | rfl | rfl | rfl | rfl | rfl | rfl | rfl | rfl | rfl | rfl | rfl | rfl | rfl
            · exact trivial
            · exact trivial
            · exact trivial
            · exact trivial
            · exact trivial
            · exact trivial
            · exact trivial
            · exact trivial
            · exact trivial
            · exact trivial
            · exact trivial
            · exact trivial
            · exact trivial
            · exact trivial
            · exact trivial
            · exact trivial
            · exact trivial
            · exact trivial
            · exact trivial
            · exact trivial
            · exact trivial
            · exact trivial
            · exact trivial
            · exact trivial
            · exact trivial
          · intro j hj0 hj
            exact absurd hj (Nat.not_lt.2 hj0)
          · intro i hi a wx who hG hF
            have hz : a.tmps.size = 42 := hG.size
            have hi3 : i < 25 := hi
            have hi2 : i = 0 ∨ i = 1 ∨ i = 2 ∨ i = 3 ∨ i = 4 ∨ i = 5 ∨ i = 6 ∨ i = 7 ∨ i = 8 ∨ i = 9 ∨ i = 10 ∨ i = 11 ∨ i = 12 ∨ i = 13 ∨ i = 14 ∨ i = 15 ∨ i = 16 ∨ i = 17 ∨ i = 18 ∨ i = 19 ∨ i = 20 ∨ i = 21 ∨ i = 22 ∨ i = 23 ∨ i = 24 := by omega
            clear hi hi3
            rcases hi2 with rfl | rfl | rfl | rfl | rfl | rfl | rfl | rfl | rfl | rfl | rfl | rfl | rfl | rfl | rfl | rfl | rfl | rfl | rfl | rfl | rfl | rfl | rfl | rfl | rfl
            · exact rol_val rfl rfl rfl (by rw [hz]; decide) (ex_move (Or.inl rfl) (eval_slot ((hG.slots 0 (by decide)).trans rfl))) hG.below
            · exact rol_val rfl rfl rfl (by rw [hz]; decide) (ex_move (Or.inl rfl) (eval_slot ((hG.slots 5 (by decide)).trans rfl))) hG.below
            · exact rol_val rfl rfl rfl (by rw [hz]; decide) (ex_index rfl (eval_slot (hF 0 (by decide))) (eval_slot (hF 1 (by decide))) (idx_rws HKN.out)) hG.below
            · exact rol_val rfl rfl rfl (by rw [hz]; decide) (ex_field rfl (eval_slot (hF 2 (by decide))) (by go_simp)) hG.below
            · exact rol_val rfl rfl rfl (by rw [hz]; decide) (ex_load rfl (eval_slot (hF 3 (by decide))) (ld_strT (cell_keep C0.out hG.below))) hG.below
            · exact rol_val rfl rfl rfl (by rw [hz]; decide) (ex_move (Or.inl rfl) (eval_slot ((hG.slots 1 (by decide)).trans rfl))) hG.below
            · exact rol_val rfl rfl rfl (by rw [hz]; decide) (ex_move (Or.inl rfl) (eval_slot ((hG.slots 5 (by decide)).trans rfl))) hG.below
            · exact rol_val rfl rfl rfl (by rw [hz]; decide) (ex_index rfl (eval_slot (hF 5 (by decide))) (eval_slot (hF 6 (by decide))) (idx_rws HKN.out)) hG.below
            · exact rol_val rfl rfl rfl (by rw [hz]; decide) (ex_field rfl (eval_slot (hF 7 (by decide))) (by go_simp)) hG.below
            · exact rol_val rfl rfl rfl (by rw [hz]; decide) (ex_load rfl (eval_slot (hF 8 (by decide))) (ld_strT (cell_keep E0.out hG.below))) hG.below
            · exact rol_val rfl rfl rfl (by rw [hz]; decide) (ex_bin rfl (eval_slot (hF 4 (by decide))) (eval_slot (hF 9 (by decide))) (by go_simp) (bin_neqs HPQ.out)) hG.below
            · exact rol_val rfl rfl rfl (by rw [hz]; decide) (ex_move (Or.inl rfl) (eval_slot (hF 10 (by decide)))) hG.below
            · exact rol_val_skip rfl (want_no rfl rfl (hF 11 (by decide)) (by decide)) rfl (by rw [hz]; decide) hG.below
            · exact rol_val_skip rfl (want_no rfl rfl (hF 11 (by decide)) (by decide)) rfl (by rw [hz]; decide) hG.below
            · exact rol_val_skip rfl (want_no rfl rfl (hF 11 (by decide)) (by decide)) rfl (by rw [hz]; decide) hG.below
            · exact rol_val_skip rfl (want_no rfl rfl (hF 11 (by decide)) (by decide)) rfl (by rw [hz]; decide) hG.below
            · exact rol_val_skip rfl (want_no rfl rfl (hF 11 (by decide)) (by decide)) rfl (by rw [hz]; decide) hG.below
            · exact rol_val_skip rfl (want_no rfl rfl (hF 11 (by decide)) (by decide)) rfl (by rw [hz]; decide) hG.below
            · exact rol_val_skip rfl (want_no rfl rfl (hF 11 (by decide)) (by decide)) rfl (by rw [hz]; decide) hG.below
            · exact rol_val_skip rfl (want_no rfl rfl (hF 11 (by decide)) (by decide)) rfl (by rw [hz]; decide) hG.below
            · exact rol_val_skip rfl (want_no rfl rfl (hF 11 (by decide)) (by decide)) rfl (by rw [hz]; decide) hG.below
            · exact rol_val_skip rfl (want_no rfl rfl (hF 11 (by decide)) (by decide)) rfl (by rw [hz]; decide) hG.below
            · exact rol_val_skip rfl (want_no rfl rfl (hF 11 (by decide)) (by decide)) rfl (by rw [hz]; decide) hG.below
            · exact rol_val_skip rfl (want_no rfl rfl (hF 11 (by decide)) (by decide)) rfl (by rw [hz]; decide) hG.below
            · exact rol_val rfl rfl rfl (by rw [hz]; decide) (ex_pick_yes rfl (eval_slot (hF 11 (by decide))) rfl) hG.below
          · intro a wx who hG hF
            have fv41 : a.tmps.getD 41 undef = .bool true := eval_slot (s := 41) (hF 24 (of_decide_eq_true (by kernel_rfl)) (of_decide_eq_true (by kernel_rfl)))
            have hbx := hG.below
            have hnx := hG.new
            rw [hG.frame]
            simp only [List.foldl_cons, List.foldl_nil, List.setIfInBounds_toArray, List.set_cons_zero, List.set_cons_succ]
            generalize a.tmps.getD 17 undef = u17
            generalize a.tmps.getD 18 undef = u18
            generalize a.tmps.getD 19 undef = u19
            generalize a.tmps.getD 20 undef = u20
            generalize a.tmps.getD 21 undef = u21
            generalize a.tmps.getD 22 undef = u22
            generalize a.tmps.getD 23 undef = u23
            generalize a.tmps.getD 24 undef = u24
            generalize a.tmps.getD 25 undef = u25
            generalize a.tmps.getD 26 undef = u26
            generalize a.tmps.getD 27 undef = u27
            generalize a.tmps.getD 28 undef = u28
            generalize a.tmps.getD 29 undef = u29
            generalize a.tmps.getD 30 undef = u30
            generalize a.tmps.getD 31 undef = u31
            generalize a.tmps.getD 32 undef = u32
            generalize a.tmps.getD 33 undef = u33
            generalize a.tmps.getD 34 undef = u34
            generalize a.tmps.getD 35 undef = u35
            generalize a.tmps.getD 36 undef = u36
            generalize a.tmps.getD 37 undef = u37
            generalize a.tmps.getD 38 undef = u38
            generalize a.tmps.getD 39 undef = u39
            generalize a.tmps.getD 40 undef = u40
            rw [fv41]
            clear hF hG fv41
            have HB6 := Lib.hid (below_step HB.out hbx)
            clear hbx hnx
            go_wp2
            go_ret
            exact ⟨by rw [HNO.out]; rfl, HB6.out⟩
        | true =>
          have HPQ : Hid (decide (x1 = y1) = !false) := HO
          cases v with
          | false =>
            have HNO := Lib.hid (HNO0.out rfl)
            refine rol_run (by kernel_rfl) [[], [], [0, 1], [0, 1, 2], [0, 1, 2, 3], [], [], [5, 6], [5, 6, 7], [5, 6, 7, 8], [0, 1, 2, 3, 4, 5, 6, 7, 8, 9], [0, 1, 2, 3, 4, 5, 6, 7, 8, 9, 10], [0, 1, 2, 3, 4, 5, 6, 7, 8, 9, 10, 11], [0, 1, 2, 3, 4, 5, 6, 7, 8, 9, 10, 11], [0, 1, 2, 3, 4, 5, 6, 7, 8, 9, 10, 11, 12, 13], [0, 1, 2, 3, 4, 5, 6, 7, 8, 9, 10, 11, 12, 13, 14], [0, 1, 2, 3, 4, 5, 6, 7, 8, 9, 10, 11, 12, 13, 14, 15], [0, 1, 2, 3, 4, 5, 6, 7, 8, 9, 10, 11], [0, 1, 2, 3, 4, 5, 6, 7, 8, 9, 10, 11], [0, 1, 2, 3, 4, 5, 6, 7, 8, 9, 10, 11, 17, 18], [0, 1, 2, 3, 4, 5, 6, 7, 8, 9, 10, 11, 17, 18, 19], [0, 1, 2, 3, 4, 5, 6, 7, 8, 9, 10, 11, 17, 18, 19, 20], [0, 1, 2, 3, 4, 5, 6, 7, 8, 9, 10, 11, 12, 13, 14, 15, 16, 17, 18, 19, 20, 21], [0, 1, 2, 3, 4, 5, 6, 7, 8, 9, 10, 11, 12, 13, 14, 15, 16, 17, 18, 19, 20, 21, 22], [0, 1, 2, 3, 4, 5, 6, 7, 8, 9, 10, 11, 12, 13, 14, 15, 16, 17, 18, 19, 20, 21, 22, 23]] (by kernel_rfl) [17, 18, 19, 20, 21, 22, 23, 24, 25, 26, 27, 28, 29, 30, 31, 32, 33, 34, 35, 36, 37, 38, 39, 40, 41] [[], [], [0, 1], [2], [3], [], [], [5, 6], [7], [8], [4, 9], [10], [11], [11], [11, 12, 13], [11, 14], [11, 15], [11], [11], [11, 17, 18], [11, 19], [11, 20], [11, 16, 21], [11, 22], [11, 23]] [0, 0, 0, 0, 0, 0, 0, 0, 0, 0, 0, 0, 0, 0, 0, 0, 0, 0, 0, 0, 0, 0, 0, 0, 0] [0, 0, 0, 0, 0, 0, 0, 0, 0, 0, 0, 0, 0, 0, 0, 0, 0, 0, 0, 0, 0, 0, 0, 0, 0] [1000, 1000, 1000, 1000, 1000, 1000, 1000, 1000, 1000, 1000, 1000, 1000, 1000, 1000, 1000, 1000, 1000, 1000, 1000, 1000, 1000, 1000, 1000, 1000, 1000] [.val 17 (.slice (some ⟨bx, ox, none⟩) n c), .val 18 (.int .i64 (k : Int)), .val 19 (.pointer (some ⟨bx, ox + k * 2, none⟩)), .val 20 (.pointer (some ⟨bx, ox + k * 2, none⟩)), .val 21 (.string (mkB x1)), .val 22 (.slice (some ⟨bz, oy, none⟩) n c'), .val 23 (.int .i64 (k : Int)), .val 24 (.pointer (some ⟨bz, oy + k * 2, none⟩)), .val 25 (.pointer (some ⟨bz, oy + k * 2, none⟩)), .val 26 (.string (mkB y1)), .val 27 (.bool false), .val 28 (.bool false), .val 29 (.slice (some ⟨bx, ox, none⟩) n c), .val 30 (.int .i64 (k : Int)), .val 31 (.pointer (some ⟨bx, ox + k * 2, none⟩)), .val 32 (.pointer (some ⟨bx, ox + k * 2 + 1, none⟩)), .val 33 (.slice ax nx cx), .val 34 (.slice (some ⟨bz, oy, none⟩) n c'), .val 35 (.int .i64 (k : Int)), .val 36 (.pointer (some ⟨bz, oy + k * 2, none⟩)), .val 37 (.pointer (some ⟨bz, oy + k * 2 + 1, none⟩)), .val 38 (.slice ay ny cy), .val 39 (.bool false), .val 40 (.bool true), .val 41 (.bool true)] (by kernel_rfl) ?_ (wr.heap.size) (wr.heap.size) rfl (Below.refl _ _) rfl (fun _ => 0) ?_ ?_ ?_
            · intro j hj
              have hj3 : j < 25 := hj
              have hj2 : j = 0 ∨ j = 1 ∨ j = 2 ∨ j = 3 ∨ j = 4 ∨ j = 5 ∨ j = 6 ∨ j = 7 ∨ j = 8 ∨ j = 9 ∨ j = 10 ∨ j = 11 ∨ j = 12 ∨ j = 13 ∨ j = 14 ∨ j = 15 ∨ j = 16 ∨ j = 17 ∨ j = 18 ∨ j = 19 ∨ j = 20 ∨ j = 21 ∨ j = 22 ∨ j = 23 ∨ j = 24 := by omega
              clear hj hj3
              rcases hj2 with rfl | rfl | rfl | rfl | rfl | rfl | rfl | rfl | rfl | rfl | rfl | rfl | rfl | rfl | rfl | rfl | rfl | rfl | rfl | rfl | rfl | rfl | rfl | rfl | rfl
              · exact trivial
              · exact trivial
              · exact trivial
              · exact trivial
              · exact trivial
              · exact trivial
              · exact trivial
              · exact trivial
              · exact trivial
              · exact trivial
              · exact trivial
              · exact trivial
              · exact trivial
              · exact trivial
              · exact trivial
              · exact trivial
              · exact trivial
              · exact trivial
              · exact trivial
              · exact trivial
              · exact trivial
              · exact trivial
              · exact trivial
              · exact trivial
              · exact trivial
            · intro j hj0 hj
              exact absurd hj (Nat.not_lt.2 hj0)
            · intro i hi a wx who hG hF
              have hz : a.tmps.size = 42 := hG.size
              have hi3 : i < 25 := hi
              have hi2 : i = 0 ∨ i = 1 ∨ i = 2 ∨ i = 3 ∨ i = 4 ∨ i = 5 ∨ i = 6 ∨ i = 7 ∨ i = 8 ∨ i = 9 ∨ i = 10 ∨ i = 11 ∨ i = 12 ∨ i = 13 ∨ i = 14 ∨ i = 15 ∨ i = 16 ∨ i = 17 ∨ i = 18 ∨ i = 19 ∨ i = 20 ∨ i = 21 ∨ i = 22 ∨ i = 23 ∨ i = 24 := by omega
              clear hi hi3
              rcases hi2 with rfl | rfl | rfl | rfl | rfl | rfl | rfl | rfl | rfl | rfl | rfl | rfl | rfl | rfl | rfl | rfl | rfl | rfl | rfl | rfl | rfl | rfl | rfl | rfl | rfl
              · exact rol_val rfl rfl rfl (by rw [hz]; decide) (ex_move (Or.inl rfl) (eval_slot ((hG.slots 0 (by decide)).trans rfl))) hG.below
              · exact rol_val rfl rfl rfl (by rw [hz]; decide) (ex_move (Or.inl rfl) (eval_slot ((hG.slots 5 (by decide)).trans rfl))) hG.below
              · exact rol_val rfl rfl rfl (by rw [hz]; decide) (ex_index rfl (eval_slot (hF 0 (by decide))) (eval_slot (hF 1 (by decide))) (idx_rws HKN.out)) hG.below
              · exact rol_val rfl rfl rfl (by rw [hz]; decide) (ex_field rfl (eval_slot (hF 2 (by decide))) (by go_simp)) hG.below
              · exact rol_val rfl rfl rfl (by rw [hz]; decide) (ex_load rfl (eval_slot (hF 3 (by decide))) (ld_strT (cell_keep C0.out hG.below))) hG.below
              · exact rol_val rfl rfl rfl (by rw [hz]; decide) (ex_move (Or.inl rfl) (eval_slot ((hG.slots 1 (by decide)).trans rfl))) hG.below
              · exact rol_val rfl rfl rfl (by rw [hz]; decide) (ex_move (Or.inl rfl) (eval_slot ((hG.slots 5 (by decide)).trans rfl))) hG.below
              · exact rol_val rfl rfl rfl (by rw [hz]; decide) (ex_index rfl (eval_slot (hF 5 (by decide))) (eval_slot (hF 6 (by decide))) (idx_rws HKN.out)) hG.below
              · exact rol_val rfl rfl rfl (by rw [hz]; decide) (ex_field rfl (eval_slot (hF 7 (by decide))) (by go_simp)) hG.below
              · exact rol_val rfl rfl rfl (by rw [hz]; decide) (ex_load rfl (eval_slot (hF 8 (by decide))) (ld_strT (cell_keep E0.out hG.below))) hG.below
              · exact rol_val rfl rfl rfl (by rw [hz]; decide) (ex_bin rfl (eval_slot (hF 4 (by decide))) (eval_slot (hF 9 (by decide))) (by go_simp) (bin_neqs HPQ.out)) hG.below
              · exact rol_val rfl rfl rfl (by rw [hz]; decide) (ex_move (Or.inl rfl) (eval_slot (hF 10 (by decide)))) hG.below
              · exact rol_val rfl (want_yes rfl rfl (hF 11 (by decide))) rfl (by rw [hz]; decide) (ex_move (Or.inl rfl) (eval_slot ((hG.slots 0 (by decide)).trans rfl))) hG.below
              · exact rol_val rfl (want_yes rfl rfl (hF 11 (by decide))) rfl (by rw [hz]; decide) (ex_move (Or.inl rfl) (eval_slot ((hG.slots 5 (by decide)).trans rfl))) hG.below
              · exact rol_val rfl (want_yes rfl rfl (hF 11 (by decide))) rfl (by rw [hz]; decide) (ex_index rfl (eval_slot (hF 12 (by decide))) (eval_slot (hF 13 (by decide))) (idx_rws HKN.out)) hG.below
              · exact rol_val rfl (want_yes rfl rfl (hF 11 (by decide))) rfl (by rw [hz]; decide) (ex_field rfl (eval_slot (hF 14 (by decide))) (by go_simp)) hG.below
              · exact rol_val rfl (want_yes rfl rfl (hF 11 (by decide))) rfl (by rw [hz]; decide) (ex_load rfl (eval_slot (hF 15 (by decide))) (ld_stsT (cell_keep C1.out hG.below))) hG.below
              · exact rol_val rfl (want_yes rfl rfl (hF 11 (by decide))) rfl (by rw [hz]; decide) (ex_move (Or.inl rfl) (eval_slot ((hG.slots 1 (by decide)).trans rfl))) hG.below
              · exact rol_val rfl (want_yes rfl rfl (hF 11 (by decide))) rfl (by rw [hz]; decide) (ex_move (Or.inl rfl) (eval_slot ((hG.slots 5 (by decide)).trans rfl))) hG.below
              · exact rol_val rfl (want_yes rfl rfl (hF 11 (by decide))) rfl (by rw [hz]; decide) (ex_index rfl (eval_slot (hF 17 (by decide))) (eval_slot (hF 18 (by decide))) (idx_rws HKN.out)) hG.below
              · exact rol_val rfl (want_yes rfl rfl (hF 11 (by decide))) rfl (by rw [hz]; decide) (ex_field rfl (eval_slot (hF 19 (by decide))) (by go_simp)) hG.below
              · exact rol_val rfl (want_yes rfl rfl (hF 11 (by decide))) rfl (by rw [hz]; decide) (ex_load rfl (eval_slot (hF 20 (by decide))) (ld_stsT (cell_keep E1.out hG.below))) hG.below
              · refine rol_call rfl (want_yes rfl rfl (hF 11 (by decide))) rfl (by rw [hz]; decide) (ex_call rfl (by simp [eval_slot (hF 16 (by decide)), eval_slot (hF 21 (by decide))]) e1) (KC.out wx (SX.out.belowB hG.below) (SY.out.belowB hG.below)) ?_ hG.below (Nat.le_trans HNW.out hG.new)
                rintro e w1 ⟨rfl, hd1⟩
                exact ⟨_, rfl, below_q hd1, .inl rfl⟩
              · exact rol_val rfl (want_yes rfl rfl (hF 11 (by decide))) rfl (by rw [hz]; decide) (ex_un rfl (eval_slot (hF 22 (by decide))) rfl) hG.below
              · exact rol_val rfl rfl rfl (by rw [hz]; decide) (ex_pick_no rfl (eval_slot (hF 11 (by decide))) (eval_slot (hF 23 (by decide)))) hG.below
            · intro a wx who hG hF
              have fv41 : a.tmps.getD 41 undef = .bool true := eval_slot (s := 41) (hF 24 (of_decide_eq_true (by kernel_rfl)) (of_decide_eq_true (by kernel_rfl)))
              have hbx := hG.below
              have hnx := hG.new
              rw [hG.frame]
              simp only [List.foldl_cons, List.foldl_nil, List.setIfInBounds_toArray, List.set_cons_zero, List.set_cons_succ]
              generalize a.tmps.getD 17 undef = u17
              generalize a.tmps.getD 18 undef = u18
              generalize a.tmps.getD 19 undef = u19
              generalize a.tmps.getD 20 undef = u20
              generalize a.tmps.getD 21 undef = u21
              generalize a.tmps.getD 22 undef = u22
              generalize a.tmps.getD 23 undef = u23
              generalize a.tmps.getD 24 undef = u24
              generalize a.tmps.getD 25 undef = u25
              generalize a.tmps.getD 26 undef = u26
              generalize a.tmps.getD 27 undef = u27
              generalize a.tmps.getD 28 undef = u28
              generalize a.tmps.getD 29 undef = u29
              generalize a.tmps.getD 30 undef = u30
              generalize a.tmps.getD 31 undef = u31
              generalize a.tmps.getD 32 undef = u32
              generalize a.tmps.getD 33 undef = u33
              generalize a.tmps.getD 34 undef = u34
              generalize a.tmps.getD 35 undef = u35
              generalize a.tmps.getD 36 undef = u36
              generalize a.tmps.getD 37 undef = u37
              generalize a.tmps.getD 38 undef = u38
              generalize a.tmps.getD 39 undef = u39
              generalize a.tmps.getD 40 undef = u40
              rw [fv41]
              clear hF hG fv41
              have HB6 := Lib.hid (below_step HB.out hbx)
              clear hbx hnx
              go_wp2
              go_ret
              exact ⟨by rw [HNO.out]; rfl, HB6.out⟩
          | true =>
            have H5 := Lib.hid (HY0.out rfl)
            refine rol_run (by kernel_rfl) [[], [], [0, 1], [0, 1, 2], [0, 1, 2, 3], [], [], [5, 6], [5, 6, 7], [5, 6, 7, 8], [0, 1, 2, 3, 4, 5, 6, 7, 8, 9], [0, 1, 2, 3, 4, 5, 6, 7, 8, 9, 10], [0, 1, 2, 3, 4, 5, 6, 7, 8, 9, 10, 11], [0, 1, 2, 3, 4, 5, 6, 7, 8, 9, 10, 11], [0, 1, 2, 3, 4, 5, 6, 7, 8, 9, 10, 11, 12, 13], [0, 1, 2, 3, 4, 5, 6, 7, 8, 9, 10, 11, 12, 13, 14], [0, 1, 2, 3, 4, 5, 6, 7, 8, 9, 10, 11, 12, 13, 14, 15], [0, 1, 2, 3, 4, 5, 6, 7, 8, 9, 10, 11], [0, 1, 2, 3, 4, 5, 6, 7, 8, 9, 10, 11], [0, 1, 2, 3, 4, 5, 6, 7, 8, 9, 10, 11, 17, 18], [0, 1, 2, 3, 4, 5, 6, 7, 8, 9, 10, 11, 17, 18, 19], [0, 1, 2, 3, 4, 5, 6, 7, 8, 9, 10, 11, 17, 18, 19, 20], [0, 1, 2, 3, 4, 5, 6, 7, 8, 9, 10, 11, 12, 13, 14, 15, 16, 17, 18, 19, 20, 21], [0, 1, 2, 3, 4, 5, 6, 7, 8, 9, 10, 11, 12, 13, 14, 15, 16, 17, 18, 19, 20, 21, 22], [0, 1, 2, 3, 4, 5, 6, 7, 8, 9, 10, 11, 12, 13, 14, 15, 16, 17, 18, 19, 20, 21, 22, 23]] (by kernel_rfl) [17, 18, 19, 20, 21, 22, 23, 24, 25, 26, 27, 28, 29, 30, 31, 32, 33, 34, 35, 36, 37, 38, 39, 40, 41] [[], [], [0, 1], [2], [3], [], [], [5, 6], [7], [8], [4, 9], [10], [11], [11], [11, 12, 13], [11, 14], [11, 15], [11], [11], [11, 17, 18], [11, 19], [11, 20], [11, 16, 21], [11, 22], [11, 23]] [0, 0, 0, 0, 0, 0, 0, 0, 0, 0, 0, 0, 0, 0, 0, 0, 0, 0, 0, 0, 0, 0, 0, 0, 0] [0, 0, 0, 0, 0, 0, 0, 0, 0, 0, 0, 0, 0, 0, 0, 0, 0, 0, 0, 0, 0, 0, 0, 0, 0] [1000, 1000, 1000, 1000, 1000, 1000, 1000, 1000, 1000, 1000, 1000, 1000, 1000, 1000, 1000, 1000, 1000, 1000, 1000, 1000, 1000, 1000, 1000, 1000, 1000] [.val 17 (.slice (some ⟨bx, ox, none⟩) n c), .val 18 (.int .i64 (k : Int)), .val 19 (.pointer (some ⟨bx, ox + k * 2, none⟩)), .val 20 (.pointer (some ⟨bx, ox + k * 2, none⟩)), .val 21 (.string (mkB x1)), .val 22 (.slice (some ⟨bz, oy, none⟩) n c'), .val 23 (.int .i64 (k : Int)), .val 24 (.pointer (some ⟨bz, oy + k * 2, none⟩)), .val 25 (.pointer (some ⟨bz, oy + k * 2, none⟩)), .val 26 (.string (mkB y1)), .val 27 (.bool false), .val 28 (.bool false), .val 29 (.slice (some ⟨bx, ox, none⟩) n c), .val 30 (.int .i64 (k : Int)), .val 31 (.pointer (some ⟨bx, ox + k * 2, none⟩)), .val 32 (.pointer (some ⟨bx, ox + k * 2 + 1, none⟩)), .val 33 (.slice ax nx cx), .val 34 (.slice (some ⟨bz, oy, none⟩) n c'), .val 35 (.int .i64 (k : Int)), .val 36 (.pointer (some ⟨bz, oy + k * 2, none⟩)), .val 37 (.pointer (some ⟨bz, oy + k * 2 + 1, none⟩)), .val 38 (.slice ay ny cy), .val 39 (.bool true), .val 40 (.bool false), .val 41 (.bool false)] (by kernel_rfl) ?_ (wr.heap.size) (wr.heap.size) rfl (Below.refl _ _) rfl (fun _ => 0) ?_ ?_ ?_
            · intro j hj
              have hj3 : j < 25 := hj
              have hj2 : j = 0 ∨ j = 1 ∨ j = 2 ∨ j = 3 ∨ j = 4 ∨ j = 5 ∨ j = 6 ∨ j = 7 ∨ j = 8 ∨ j = 9 ∨ j = 10 ∨ j = 11 ∨ j = 12 ∨ j = 13 ∨ j = 14 ∨ j = 15 ∨ j = 16 ∨ j = 17 ∨ j = 18 ∨ j = 19 ∨ j = 20 ∨ j = 21 ∨ j = 22 ∨ j = 23 ∨ j = 24 := by omega
              clear hj hj3
              rcases hj2 with rfl | rfl | rfl | rfl | rfl | rfl | rfl | rfl | rfl | rfl | rfl | rfl | rfl | rfl | rfl | rfl | rfl | rfl | rfl | rfl | rfl | rfl | rfl | rfl | rfl
              · exact trivial
              · exact trivial
              · exact trivial
              · exact trivial
              · exact trivial
              · exact trivial
              · exact trivial
              · exact trivial
              · exact trivial
              · exact trivial
              · exact trivial
              · exact trivial
              · exact trivial
              · exact trivial
              · exact trivial
              · exact trivial
              · exact trivial
              · exact trivial
              · exact trivial
              · exact trivial
              · exact trivial
              · exact trivial
              · exact trivial
              · exact trivial
              · exact trivial
            · intro j hj0 hj
              exact absurd hj (Nat.not_lt.2 hj0)
            · intro i hi a wx who hG hF
              have hz : a.tmps.size = 42 := hG.size
              have hi3 : i < 25 := hi
              have hi2 : i = 0 ∨ i = 1 ∨ i = 2 ∨ i = 3 ∨ i = 4 ∨ i = 5 ∨ i = 6 ∨ i = 7 ∨ i = 8 ∨ i = 9 ∨ i = 10 ∨ i = 11 ∨ i = 12 ∨ i = 13 ∨ i = 14 ∨ i = 15 ∨ i = 16 ∨ i = 17 ∨ i = 18 ∨ i = 19 ∨ i = 20 ∨ i = 21 ∨ i = 22 ∨ i = 23 ∨ i = 24 := by omega
              clear hi hi3
              rcases hi2 with rfl | rfl | rfl | rfl | rfl | rfl | rfl | rfl | rfl | rfl | rfl | rfl | rfl | rfl | rfl | rfl | rfl | rfl | rfl | rfl | rfl | rfl | rfl | rfl | rfl
              · exact rol_val rfl rfl rfl (by rw [hz]; decide) (ex_move (Or.inl rfl) (eval_slot ((hG.slots 0 (by decide)).trans rfl))) hG.below
              · exact rol_val rfl rfl rfl (by rw [hz]; decide) (ex_move (Or.inl rfl) (eval_slot ((hG.slots 5 (by decide)).trans rfl))) hG.below
              · exact rol_val rfl rfl rfl (by rw [hz]; decide) (ex_index rfl (eval_slot (hF 0 (by decide))) (eval_slot (hF 1 (by decide))) (idx_rws HKN.out)) hG.below
              · exact rol_val rfl rfl rfl (by rw [hz]; decide) (ex_field rfl (eval_slot (hF 2 (by decide))) (by go_simp)) hG.below
              · exact rol_val rfl rfl rfl (by rw [hz]; decide) (ex_load rfl (eval_slot (hF 3 (by decide))) (ld_strT (cell_keep C0.out hG.below))) hG.below
              · exact rol_val rfl rfl rfl (by rw [hz]; decide) (ex_move (Or.inl rfl) (eval_slot ((hG.slots 1 (by decide)).trans rfl))) hG.below
              · exact rol_val rfl rfl rfl (by rw [hz]; decide) (ex_move (Or.inl rfl) (eval_slot ((hG.slots 5 (by decide)).trans rfl))) hG.below
              · exact rol_val rfl rfl rfl (by rw [hz]; decide) (ex_index rfl (eval_slot (hF 5 (by decide))) (eval_slot (hF 6 (by decide))) (idx_rws HKN.out)) hG.below
              · exact rol_val rfl rfl rfl (by rw [hz]; decide) (ex_field rfl (eval_slot (hF 7 (by decide))) (by go_simp)) hG.below
              · exact rol_val rfl rfl rfl (by rw [hz]; decide) (ex_load rfl (eval_slot (hF 8 (by decide))) (ld_strT (cell_keep E0.out hG.below))) hG.below
              · exact rol_val rfl rfl rfl (by rw [hz]; decide) (ex_bin rfl (eval_slot (hF 4 (by decide))) (eval_slot (hF 9 (by decide))) (by go_simp) (bin_neqs HPQ.out)) hG.below
              · exact rol_val rfl rfl rfl (by rw [hz]; decide) (ex_move (Or.inl rfl) (eval_slot (hF 10 (by decide)))) hG.below
              · exact rol_val rfl (want_yes rfl rfl (hF 11 (by decide))) rfl (by rw [hz]; decide) (ex_move (Or.inl rfl) (eval_slot ((hG.slots 0 (by decide)).trans rfl))) hG.below
              · exact rol_val rfl (want_yes rfl rfl (hF 11 (by decide))) rfl (by rw [hz]; decide) (ex_move (Or.inl rfl) (eval_slot ((hG.slots 5 (by decide)).trans rfl))) hG.below
              · exact rol_val rfl (want_yes rfl rfl (hF 11 (by decide))) rfl (by rw [hz]; decide) (ex_index rfl (eval_slot (hF 12 (by decide))) (eval_slot (hF 13 (by decide))) (idx_rws HKN.out)) hG.below
              · exact rol_val rfl (want_yes rfl rfl (hF 11 (by decide))) rfl (by rw [hz]; decide) (ex_field rfl (eval_slot (hF 14 (by decide))) (by go_simp)) hG.below
              · exact rol_val rfl (want_yes rfl rfl (hF 11 (by decide))) rfl (by rw [hz]; decide) (ex_load rfl (eval_slot (hF 15 (by decide))) (ld_stsT (cell_keep C1.out hG.below))) hG.below
              · exact rol_val rfl (want_yes rfl rfl (hF 11 (by decide))) rfl (by rw [hz]; decide) (ex_move (Or.inl rfl) (eval_slot ((hG.slots 1 (by decide)).trans rfl))) hG.below
              · exact rol_val rfl (want_yes rfl rfl (hF 11 (by decide))) rfl (by rw [hz]; decide) (ex_move (Or.inl rfl) (eval_slot ((hG.slots 5 (by decide)).trans rfl))) hG.below
              · exact rol_val rfl (want_yes rfl rfl (hF 11 (by decide))) rfl (by rw [hz]; decide) (ex_index rfl (eval_slot (hF 17 (by decide))) (eval_slot (hF 18 (by decide))) (idx_rws HKN.out)) hG.below
              · exact rol_val rfl (want_yes rfl rfl (hF 11 (by decide))) rfl (by rw [hz]; decide) (ex_field rfl (eval_slot (hF 19 (by decide))) (by go_simp)) hG.below
              · exact rol_val rfl (want_yes rfl rfl (hF 11 (by decide))) rfl (by rw [hz]; decide) (ex_load rfl (eval_slot (hF 20 (by decide))) (ld_stsT (cell_keep E1.out hG.below))) hG.below
              · refine rol_call rfl (want_yes rfl rfl (hF 11 (by decide))) rfl (by rw [hz]; decide) (ex_call rfl (by simp [eval_slot (hF 16 (by decide)), eval_slot (hF 21 (by decide))]) e1) (KC.out wx (SX.out.belowB hG.below) (SY.out.belowB hG.below)) ?_ hG.below (Nat.le_trans HNW.out hG.new)
                rintro e w1 ⟨rfl, hd1⟩
                exact ⟨_, rfl, below_q hd1, .inl rfl⟩
              · exact rol_val rfl (want_yes rfl rfl (hF 11 (by decide))) rfl (by rw [hz]; decide) (ex_un rfl (eval_slot (hF 22 (by decide))) rfl) hG.below
              · exact rol_val rfl rfl rfl (by rw [hz]; decide) (ex_pick_no rfl (eval_slot (hF 11 (by decide))) (eval_slot (hF 23 (by decide)))) hG.below
            · intro a wx who hG hF
              have fv41 : a.tmps.getD 41 undef = .bool false := eval_slot (s := 41) (hF 24 (of_decide_eq_true (by kernel_rfl)) (of_decide_eq_true (by kernel_rfl)))
              have hbx := hG.below
              have hnx := hG.new
              rw [hG.frame]
              simp only [List.foldl_cons, List.foldl_nil, List.setIfInBounds_toArray, List.set_cons_zero, List.set_cons_succ]
              generalize a.tmps.getD 17 undef = u17
              generalize a.tmps.getD 18 undef = u18
              generalize a.tmps.getD 19 undef = u19
              generalize a.tmps.getD 20 undef = u20
              generalize a.tmps.getD 21 undef = u21
              generalize a.tmps.getD 22 undef = u22
              generalize a.tmps.getD 23 undef = u23
              generalize a.tmps.getD 24 undef = u24
              generalize a.tmps.getD 25 undef = u25
              generalize a.tmps.getD 26 undef = u26
              generalize a.tmps.getD 27 undef = u27
              generalize a.tmps.getD 28 undef = u28
              generalize a.tmps.getD 29 undef = u29
              generalize a.tmps.getD 30 undef = u30
              generalize a.tmps.getD 31 undef = u31
              generalize a.tmps.getD 32 undef = u32
              generalize a.tmps.getD 33 undef = u33
              generalize a.tmps.getD 34 undef = u34
              generalize a.tmps.getD 35 undef = u35
              generalize a.tmps.getD 36 undef = u36
              generalize a.tmps.getD 37 undef = u37
              generalize a.tmps.getD 38 undef = u38
              generalize a.tmps.getD 39 undef = u39
              generalize a.tmps.getD 40 undef = u40
              rw [fv41]
              clear hF hG fv41
              have HB6 := Lib.hid (below_step HB.out hbx)
              clear hbx hnx
              go_wp2
              go_roundw
              case rel => exact ⟨k + 1, by omega, by go_num, H5, HB6⟩
              case measure => simp [intOf]; omega
      · have e : k = n := by omega
        subst e
        have HYES : Hid (R = true) := Lib.hid (by
          have h5 := H.out
          rw [List.take_of_length_le (by rw [HN.out]; exact Nat.le_refl _), List.take_of_length_le (by rw [HM.out]; exact Nat.le_refl _)] at h5
          rw [← HR.out, decide_eq_true h5])
        go_wp2
        go_ret
        exact ⟨by rw [HYES.out]; rfl, HB.out⟩
  · have h0 : ((n : Int) != (m : Int)) = true := by simp; omega
    have HNO : Hid (R = false) := Lib.hid (by rw [← HR.out]; exact decide_eq_false fun e => hl (by rw [← HN.out, ← HM.out, e]))
    clear hl
    go_enter Tryz.func37, Tryz.ntmps37
    go_wp2
    go_ret
    exact ⟨by rw [HNO.out]; rfl, Below.refl _ _⟩
end Go.Proofs.YtlbibgofhhdgoaaGreat

namespace Go.Proofs.YtlbibgofhhdgoaaGreat
open Go.RowKit
set_option linter.unusedVariables false
set_option maxRecDepth 100000

theorem ld_rws {w : World} {g i n c : Nat} {a : Option Addr} (h : w.cell? ⟨g, i, none⟩ = some (.slice a n c)) : Sem.run Tryz.prog (Instr.loadAt 23 (.pointer (some ⟨g, i, none⟩))) w = .ok (.slice a n c) w := by
  go_simp
theorem boxO2 (w : World) (x y : Value) (t t' : TypeId) : ∃ W g g', (w.alloc (.cells #[x] t)).alloc (.cells #[y] t') = W ∧ w.heap.size = g ∧ w.heap.size + 1 = g' ∧ W.cell? ⟨g, 0, none⟩ = some x ∧ W.cell? ⟨g', 0, none⟩ = some y ∧ Below w.heap.size w W :=
  ⟨_, _, _, rfl, rfl, rfl, cell_alloc (cell_new rfl rfl) _, cell_new (by simp) rfl, ((Below.refl _ _).alloc (Nat.le_refl _) _).alloc (by simp) _⟩

set_option maxHeartbeats 1600000 in
theorem sk16_any (k n c gp gl : Nat) (a : Option Addr) (l : List Rw) (p : List UInt8) (w : World) (hlt : k < n) (hN : Rws w (.slice a n c) l) (c0 : w.cell? ⟨gp, 0, none⟩ = some (.string (mkB p))) (c1 : w.cell? ⟨gl, 0, none⟩ = some (.slice a n c)) :
    Calls Tryz.prog 80 #[.int .i64 (k : Int), .pointer (some ⟨gp, 0, none⟩), .pointer (some ⟨gl, 0, none⟩)] w fun e w' => e = .returned (.int .i64 (Lib.compareBytes p (l.getD k zR).1)) ∧ Below w.heap.size w w' := by
  obtain ⟨b, off, _, _, _, rfl, y0, -, -⟩ := hN.at k (by rw [hN.lenT.1]; exact hlt)
  obtain ⟨y, hyy⟩ : ∃ y, (l.getD k zR).1 = y := ⟨_, rfl⟩
  rw [hyy] at y0 ⊢
  have kc := fun w => ocmp_l p y w
  obtain ⟨C, hC⟩ : ∃ C, Lib.compareBytes p y = C := ⟨_, rfl⟩
  rw [hC] at kc ⊢
  have HLT := Lib.hid hlt; have C0 := Lib.hid c0; have C1 := Lib.hid c1; have Y0 := Lib.hid y0; have KC := Lib.hid kc
  clear hlt hN c0 c1 y0 hyy hC kc
  have e1 : ∀ args w, (callFunc 60 args).run Tryz.prog w = .ok (.enter 60 args) w := enters_of Tryz.func60 (by kernel_rfl) rfl
  go_enter Tryz.func80, Tryz.ntmps80
  go_upto_region 1 with fail
  refine rol_run (by kernel_rfl) [[], [], [], [1, 2], [1, 2, 3], [1, 2, 3, 4], [0, 1, 2, 3, 4, 5], [0, 1, 2, 3, 4, 5, 6]] (by kernel_rfl) [5, 6, 7, 8, 9, 10, 11, 4] [[], [], [], [1, 2], [3], [4], [0, 5], [6]] [0, 0, 0, 0, 0, 0, 0, 0] [0, 0, 0, 0, 0, 0, 0, 0] [1000, 1000, 1000, 1000, 1000, 1000, 1000, 1000] [.val 5 (.string (mkB p)), .val 6 (.slice (some ⟨b, off, none⟩) n c), .val 7 (.int .i64 (k : Int)), .val 8 (.pointer (some ⟨b, off + k * 2, none⟩)), .val 9 (.pointer (some ⟨b, off + k * 2, none⟩)), .val 10 (.string (mkB y)), .val 11 (.int .i64 C), .val 4 (.int .i64 C)] (by kernel_rfl) ?_ (w.heap.size) (w.heap.size) rfl (Below.refl _ _) rfl (fun _ => 0) ?_ ?_ ?_
  · intro j hj
    have hj3 : j < 8 := hj
    have hj2 : j = 0 ∨ j = 1 ∨ j = 2 ∨ j = 3 ∨ j = 4 ∨ j = 5 ∨ j = 6 ∨ j = 7 := by omega
    clear hj hj3
    rcases hj2 with rfl | rfl | rfl | rfl | rfl | rfl | rfl | rfl
    · exact trivial
    · exact trivial
    · exact trivial
    · exact trivial
    · exact trivial
    · exact trivial
    · exact trivial
    · exact trivial
  · intro j hj0 hj
    exact absurd hj (Nat.not_lt.2 hj0)
  · intro i hi a wx who hG hF
    have hz : a.tmps.size = 12 := hG.size
    have hi3 : i < 8 := hi
    have hi2 : i = 0 ∨ i = 1 ∨ i = 2 ∨ i = 3 ∨ i = 4 ∨ i = 5 ∨ i = 6 ∨ i = 7 := by omega
    clear hi hi3
    rcases hi2 with rfl | rfl | rfl | rfl | rfl | rfl | rfl | rfl
    · exact rol_val rfl rfl rfl (by rw [hz]; decide) (ex_load rfl (eval_slot ((hG.slots 1 (by decide)).trans rfl)) (ld_strT (cell_keep C0.out hG.below))) hG.below
    · exact rol_val rfl rfl rfl (by rw [hz]; decide) (ex_load rfl (eval_slot ((hG.slots 2 (by decide)).trans rfl)) (ld_rws (cell_keep C1.out hG.below))) hG.below
    · exact rol_val rfl rfl rfl (by rw [hz]; decide) (ex_move (Or.inl rfl) (eval_slot ((hG.slots 0 (by decide)).trans rfl))) hG.below
    · exact rol_val rfl rfl rfl (by rw [hz]; decide) (ex_index rfl (eval_slot (hF 1 (by decide))) (eval_slot (hF 2 (by decide))) (idx_rws HLT.out)) hG.below
    · exact rol_val rfl rfl rfl (by rw [hz]; decide) (ex_field rfl (eval_slot (hF 3 (by decide))) (by go_simp)) hG.below
    · exact rol_val rfl rfl rfl (by rw [hz]; decide) (ex_load rfl (eval_slot (hF 4 (by decide))) (ld_strT (cell_keep Y0.out hG.below))) hG.below
    · refine rol_call rfl rfl rfl (by rw [hz]; decide) (ex_call rfl (by simp [eval_slot (hF 0 (by decide)), eval_slot (hF 5 (by decide))]) e1) (KC.out wx) ?_ hG.below hG.new
      rintro e w1 ⟨rfl, rfl⟩
      exact ⟨_, rfl, Below.refl _ _, .inl rfl⟩
    · exact rol_val rfl rfl rfl (by rw [hz]; decide) (ex_move (Or.inr rfl) (eval_slot (hF 6 (by decide)))) hG.below
  · intro a wx who hG hF
    have fv4 : a.tmps.getD 4 undef = .int .i64 C := eval_slot (s := 4) (hF 7 (of_decide_eq_true (by kernel_rfl)) (of_decide_eq_true (by kernel_rfl)))
    have hbx := hG.below
    have hnx := hG.new
    rw [hG.frame]
    simp only [List.foldl_cons, List.foldl_nil, List.setIfInBounds_toArray, List.set_cons_zero, List.set_cons_succ]
    generalize a.tmps.getD 5 undef = u5
    generalize a.tmps.getD 6 undef = u6
    generalize a.tmps.getD 7 undef = u7
    generalize a.tmps.getD 8 undef = u8
    generalize a.tmps.getD 9 undef = u9
    generalize a.tmps.getD 10 undef = u10
    generalize a.tmps.getD 11 undef = u11
    rw [fv4]
    clear hF hG fv4
    go_wp2
    go_ret
    exact ⟨rfl, hbx⟩

set_option maxHeartbeats 3200000 in
theorem find16_any (n c gp gl : Nat) (a : Option Addr) (l : List Rw) (p : List UInt8) (w : World) (hN : Rws w (.slice a n c) l) (c0 : w.cell? ⟨gp, 0, none⟩ = some (.string (mkB p))) (c1 : w.cell? ⟨gl, 0, none⟩ = some (.slice a n c)) (ol : okR l = true) (hn : n ≤ 1000000) :
    Calls Tryz.prog 79 #[.int .i64 (n : Int), .func (.func 80) #[] #[.pointer (some ⟨gp, 0, none⟩), .pointer (some ⟨gl, 0, none⟩)]] w fun e w' => (∃ i : Nat, e = .returned (.tuple #[.int .i64 (i : Int), .bool (foundP l p i)]) ∧ i ≤ n ∧ FindP l p i i) ∧ Below w.heap.size w w' := by
  obtain ⟨hK, h1, h2⟩ := hN.lenT
  have hcall : ∀ (k : Nat) (w' : World), k < n → Below w.heap.size w w' → Calls Tryz.prog 80 #[.int .i64 (k : Int), .pointer (some ⟨gp, 0, none⟩), .pointer (some ⟨gl, 0, none⟩)] w' fun e w'' => e = .returned (.int .i64 (Lib.compareBytes p (l.getD k zR).1)) ∧ Below w'.heap.size w' w'' := fun k w' hk hb =>
    sk16_any k n c gp gl a l p w' hk (hN.below hb) (cell_keep c0 hb) (cell_keep c1 hb)
  have hfnd : ∀ i, foundP l p i = (decide (i < n) && decide (Lib.compareBytes p (l.getD i zR).1 = 0)) := fun i => by unfold foundP; rw [hK]
  have HC := Lib.hid hcall; have HK := Lib.hid hK; have HRI := Lib.hid (okR_iff.1 ol).2; have HF := Lib.hid hfnd
  clear hN c0 c1 ol hcall hK hfnd h1 h2
  go_enter Tryz.func79, Tryz.ntmps79
  go_wp2
  go_loopw [4, 6] (fun s4 s6 wr => ∃ lo hi : Nat, s4 = .int .i64 lo ∧ s6 = .int .i64 hi ∧ lo ≤ hi ∧ hi ≤ n ∧ Hid (FindP l p lo hi) ∧ Hid (Below w.heap.size w wr)) (fun s4 s6 _ => (intOf s6).toNat - (intOf s4).toNat)
  case atStart => exact ⟨0, n, rfl, rfl, Nat.zero_le _, Nat.le_refl _, Lib.hid ⟨fun t ht => absurd ht (Nat.not_lt_zero _), fun t h1 h2 => absurd h2 (by rw [HK.out]; omega)⟩, Lib.hid (Below.refl _ _)⟩
  case round =>
    obtain ⟨lo, hi, rfl, rfl, hlh, hin, HI, HB⟩ := hrel
    by_cases hlt : lo < hi
    · obtain ⟨m, hm⟩ : ∃ m, (lo + hi) / 2 = m := ⟨_, rfl⟩
      have hmi : ((lo : Int) + (hi : Int)) / 2 = (m : Int) := by omega
      have hm1 : lo ≤ m := by omega
      have hm2 : m < hi := by omega
      have hmn : m < n := by omega
      have hcm := fun w' hb => HC.out m w' hmn hb
      have hov := cb_vals p (l.getD m zR).1
      have hup := fun h => HI.out.up HRI.out (m := m) (by rw [HK.out]; exact hmn) h
      have hdn := fun h => HI.out.down HRI.out (m := m) h
      obtain ⟨O, hO⟩ : ∃ O, Lib.compareBytes p (l.getD m zR).1 = O := ⟨_, rfl⟩
      rw [hO] at hcm hov hup hdn
      have HCM := Lib.hid hcm
      clear hcm hO hm
      rcases hov with rfl | rfl | rfl
      · have HI2 := Lib.hid (hdn (by decide)); clear hup hdn
        go_wp2_with (go_at_call 80; refine (HCM.out _ HB.out).mono ?_; rintro e w1 ⟨rfl, hb1⟩; have HB2 := Lib.hid (below_step HB.out hb1); clear hb1)
        go_roundw
        case rel => exact ⟨lo, m, rfl, rfl, hm1, by omega, HI2, HB2⟩
        case measure => simp [intOf]; omega
      · have HI2 := Lib.hid (hdn (by decide)); clear hup hdn
        go_wp2_with (go_at_call 80; refine (HCM.out _ HB.out).mono ?_; rintro e w1 ⟨rfl, hb1⟩; have HB2 := Lib.hid (below_step HB.out hb1); clear hb1)
        go_roundw
        case rel => exact ⟨lo, m, rfl, rfl, hm1, by omega, HI2, HB2⟩
        case measure => simp [intOf]; omega
      · have HI2 := Lib.hid (hup (by decide)); clear hup hdn
        go_wp2_with (go_at_call 80; refine (HCM.out _ HB.out).mono ?_; rintro e w1 ⟨rfl, hb1⟩; have HB2 := Lib.hid (below_step HB.out hb1); clear hb1)
        go_roundw
        case rel => exact ⟨m + 1, hi, by go_num, rfl, by omega, hin, HI2, HB2⟩
        case measure => simp [intOf]; omega
    · have e : lo = hi := by omega
      subst e
      have hf := HF.out lo
      obtain ⟨Rf, hRf⟩ : ∃ R, foundP l p lo = R := ⟨_, rfl⟩
      rw [hRf] at hf
      have HRF := Lib.hid hRf; clear hRf
      by_cases hln : lo < n
      · have hcm := fun w' hb => HC.out lo w' hln hb
        obtain ⟨O, hO⟩ : ∃ O, Lib.compareBytes p (l.getD lo zR).1 = O := ⟨_, rfl⟩
        rw [hO] at hcm hf
        rw [decide_eq_true hln, Bool.true_and] at hf
        have hOR : (O == 0) = Rf := by rw [hf]; rfl
        have HCM := Lib.hid hcm
        clear hcm hO hf
        go_wp2_with (go_at_call 80; refine (HCM.out _ HB.out).mono ?_; rintro e w1 ⟨rfl, hb1⟩; have HB2 := Lib.hid (below_step HB.out hb1); clear hb1)
        go_ret2
        exact ⟨⟨lo, by rw [HRF.out]; rfl, hin, HI.out⟩, HB2.out⟩
      · rw [decide_eq_false hln, Bool.false_and] at hf
        subst hf
        go_wp2
        go_ret2
        exact ⟨⟨lo, by rw [HRF.out]; rfl, hin, HI.out⟩, HB.out⟩

set_option maxHeartbeats 800000 in
theorem seek16_any (a : Option Addr) (n c : Nat) (l : List Rw) (p : List UInt8) (w : World) (hN : Rws w (.slice a n c) l) (ol : okR l = true) (hn : n ≤ 1000000) :
    Calls Tryz.prog 58 #[.slice a n c, .string (mkB p)] w fun e w' => (∃ i : Nat, e = .returned (.tuple #[.int .i64 (i : Int), .bool (foundP l p i)]) ∧ i ≤ n ∧ FindP l p i i) ∧ Below w.heap.size w w' := by
  obtain ⟨W, g, g', hW, hg, hg', d0, d1, hb⟩ := boxO2 w (.slice a n c) (.string (mkB p)) 23 9
  have kf := fun w h h1 h2 => find16_any n c g' g a l p w h h1 h2 ol hn
  have hnc := hN.lenT.2
  obtain ⟨hnc1, hnc2⟩ := hnc
  unfold maxLen at hnc2
  have SV := Lib.hid (hN.below hb); have HW := Lib.hid hW; have HG := Lib.hid hg; have HG' := Lib.hid hg'; have BB := Lib.hid hb; have KF := Lib.hid kf
  clear hN hb hW hg hg' kf ol
  go_enter Tryz.func58, Tryz.ntmps58
  go_upto_region 1 with fail
  rw [HW.out, HG'.out, HG.out]
  go_wp2_with (go_at_call 79; refine (KF.out _ SV.out d1 d0).mono ?_; rintro e w1 ⟨⟨i, rfl, hi, hI⟩, hb1⟩; have HI := Lib.hid hI; replace BB := Lib.hid (below_step BB.out hb1); clear hb1 hI KF)
  go_ret2
  exact ⟨⟨i, rfl, hi, HI.out⟩, BB.out⟩

/-! ### A path's versions -/
set_option maxHeartbeats 1600000 in
theorem vers16_any (V : Value) (l : List Rw) (p : List UInt8) (w : World) (hV : Rws w V l) (ol : okR l = true) (hl : l.length ≤ 100000) (hv : ∀ r ∈ l, r.2.length ≤ 100000) :
    Calls Tryz.prog 53 #[V, .string (mkB p)] w fun e w' => ∃ v, e = .returned v ∧ w'.ownsRow w.heap.size 9 1 v (rwVer l p).length (strC (rwVer l p)) ∧ Below w.heap.size w w' := by
  obtain ⟨a, c, rfl, h1, h2, -, -⟩ := hV.ex
  unfold maxLen at h2
  obtain ⟨n, hn⟩ : ∃ n, l.length = n := ⟨_, rfl⟩
  have ks := fun w h => seek16_any a n c l p w h ol (by omega)
  have hnot := fun i (h : i ≤ n) => ver_not (l := l) (p := p) (i := i) (by omega) ol
  have hyes := fun i => ver_found (l := l) (p := p) (i := i) ol
  rw [hn] at hl h1 hV ⊢
  obtain ⟨us, hus⟩ : ∃ us, rwVer l p = us := ⟨_, rfl⟩
  rw [hus] at hnot hyes ⊢
  have SV := Lib.hid hV; have HN := Lib.hid hn; have HV := Lib.hid hv; have KS := Lib.hid ks; have HNOT := Lib.hid hnot; have HYES := Lib.hid hyes
  clear hV hn hv ks hnot hyes hus ol
  go_enter Tryz.func53, Tryz.ntmps53
  go_upto_region 2 with (go_at_call 58; refine (KS.out _ SV.out).mono ?_; rintro e w1 ⟨⟨i, rfl, hi, hI⟩, hb1⟩; have HI := Lib.hid hI; have B := Lib.hid hb1; clear hb1 hI KS)
  cases hf : foundP l p i with
  | false =>
    have HU := Lib.hid (HNOT.out i hi HI.out hf)
    clear hf
    go_wp2
    go_ret
    exact ⟨_, rfl, by rw [HU.out]; exact World.ownsRow_nil _ _ _ _, B.out⟩
  | true =>
    have hil := (found_eq hf).1
    have HU := Lib.hid (HYES.out i hf)
    obtain ⟨b, off, ay, ny, cy, rfl, c0, c1, hsy⟩ := (SV.out.below B.out).at i hil
    have hny := hsy.lenE.1
    have hin : (i : Int) < (n : Int) := by have := HN.out; omega
    have kc := fun w h => sclone_any ay ny cy (l.getD i zR).2 w h (by have := HV.out _ (gd_in (z := zR) hil); omega)
    rw [← HU.out] at kc hsy
    have SY := Lib.hid hsy; have KC := Lib.hid kc
    clear hf hil c0 hsy hny kc
    go_wp2_with (go_at_call 76; refine (KC.out _ SY.out).mono ?_; rintro e w2 ⟨v2, rfl, hown, hb2⟩; have HO := Lib.hid (row_base hown B.out.size); have B2 := Lib.hid (below_step B.out hb2); clear hb2 hown)
    go_ret
    exact ⟨_, rfl, HO.out, B2.out⟩

/-! ### Where a version is -/
theorem ltV_of {a b : List UInt8} {C : Int} (h : cmpT a b = C) : ltV a b = decide (C < 0) := by unfold ltV; rw [h]
set_option maxHeartbeats 3200000 in
theorem vsearch_any (a : Option Addr) (n c : Nat) (l : List (List UInt8)) (v : List UInt8) (w : World) (hU : Strs w (.slice a n c) l) (ol : ∀ x ∈ l, okV x = true) (sl : ∀ x ∈ l, x.length ≤ 1000000000) (hr : l.Pairwise fun a b => ltV a b = true) (hv : v.length ≤ 1000000000) (ov : okV v = true) (hl : n ≤ 1000000) :
    Calls Tryz.prog 54 #[.slice a n c, .string (mkB v), .func (.func 55) #[] #[]] w fun e w' => (∃ i : Nat, e = .returned (.tuple #[.int .i64 (i : Int), .bool (decide (v ∈ l))]) ∧ i ≤ n ∧ FindV l v i i) ∧ Below w.heap.size w w' := by
  obtain ⟨hn, h1, h2⟩ := hU.lenE
  unfold maxLen at h2
  have hcall : ∀ (k : Nat) (w' : World), k < n → Calls Tryz.prog 55 #[.string (mkB (l.getD k [])), .string (mkB v)] w' fun e w'' => e = .returned (.int .i64 (cmpT (l.getD k []) v)) ∧ Below w'.heap.size w' w'' := fun k w' hk => by
    have hm : l.getD k [] ∈ l := gd_in (by omega)
    exact torder_any _ _ w' (sl _ hm) hv (ol _ hm) ov
  have hfnd := fun i (h : FindV l v i i) => foundV_is ol hr ov h
  unfold foundV at hfnd
  rw [hn] at hfnd
  obtain ⟨M, hM⟩ : ∃ M, decide (v ∈ l) = M := ⟨_, rfl⟩
  rw [hM] at hfnd ⊢
  have SU := Lib.hid hU; have HN := Lib.hid hn; have HR := Lib.hid hr; have HC := Lib.hid hcall; have HF := Lib.hid hfnd
  clear hU hn ol sl hr hv ov hcall hfnd hM
  go_enter Tryz.func54, Tryz.ntmps54
  go_wp2
  go_loopw [9, 10] (fun s9 s10 wr => ∃ lo hi : Nat, s9 = .int .i64 lo ∧ s10 = .int .i64 hi ∧ lo ≤ hi ∧ hi ≤ n ∧ Hid (FindV l v lo hi) ∧ Hid (Below w.heap.size w wr)) (fun s9 s10 _ => (intOf s10).toNat - (intOf s9).toNat)
  case atStart => exact ⟨0, n, rfl, rfl, Nat.zero_le _, Nat.le_refl _, Lib.hid ⟨fun t ht => absurd ht (Nat.not_lt_zero _), fun t h1 h2 => absurd h2 (by rw [HN.out]; omega)⟩, Lib.hid (Below.refl _ _)⟩
  case round =>
    obtain ⟨lo, hi, rfl, rfl, hlh, hin, HI, HB⟩ := hrel
    by_cases hlt : lo < hi
    · obtain ⟨m, hm⟩ : ∃ m, (lo + hi) / 2 = m := ⟨_, rfl⟩
      have hmi : ((lo : Int) + (hi : Int)) / 2 = (m : Int) := by omega
      have hm1 : lo ≤ m := by omega
      have hm2 : m < hi := by omega
      have hml : m < l.length := by rw [HN.out]; omega
      obtain ⟨b, off, rfl, hc⟩ := (SU.out.belowB HB.out).atT m hml
      have kc := fun w => HC.out m w (by omega)
      have hup := fun h => HI.out.up HR.out (m := m) hml h
      have hdn := fun h => HI.out.down HR.out (m := m) h
      obtain ⟨y, hy⟩ : ∃ y, y = l.getD m [] := ⟨_, rfl⟩
      rw [← hy] at hc kc hup hdn
      obtain ⟨O, hO⟩ : ∃ O, cmpT y v = O := ⟨_, rfl⟩
      rw [hO] at kc
      rw [ltV_of hO] at hup hdn
      have hmn : (m : Int) < (n : Int) := by omega
      have KC := Lib.hid kc
      clear hy hO hm hml kc
      by_cases h0 : O < 0
      · have hd : decide (O < 0) = true := by simp [h0]
        have HI2 := Lib.hid (hup hd); clear h0 hup hdn
        go_wp2_with (go_at_call 55; refine (KC.out _).mono ?_; rintro e w1 ⟨rfl, hb1⟩; have HB1 := Lib.hid (below_step HB.out hb1); clear hb1)
        go_roundw
        case rel => exact ⟨m + 1, hi, by go_num, rfl, by omega, hin, HI2, HB1⟩
        case measure => simp [intOf]; omega
      · have hd : decide (O < 0) = false := by simp [h0]
        have HI2 := Lib.hid (hdn hd); clear h0 hup hdn
        go_wp2_with (go_at_call 55; refine (KC.out _).mono ?_; rintro e w1 ⟨rfl, hb1⟩; have HB1 := Lib.hid (below_step HB.out hb1); clear hb1)
        go_roundw
        case rel => exact ⟨lo, m, rfl, by go_num, by omega, by omega, HI2, HB1⟩
        case measure => simp [intOf]; omega
    · have hle : lo = hi := by omega
      subst hle
      have hf := HF.out lo HI.out
      by_cases hln : lo < n
      · have hml : lo < l.length := by rw [HN.out]; omega
        obtain ⟨b, off, rfl, hc⟩ := (SU.out.belowB HB.out).atT lo hml
        have kc := fun w => HC.out lo w hln
        obtain ⟨y, hy⟩ : ∃ y, y = l.getD lo [] := ⟨_, rfl⟩
        rw [← hy] at hc kc hf
        obtain ⟨O, hO⟩ : ∃ O, cmpT y v = O := ⟨_, rfl⟩
        rw [hO] at kc hf
        rw [decide_eq_true hln, Bool.true_and] at hf
        have hOR : (O == 0) = M := by rw [← hf]; rfl
        have hmn : (lo : Int) < (n : Int) := by omega
        have KC := Lib.hid kc
        clear hy hO hml kc hf
        go_wp2_with (go_at_call 55; refine (KC.out _).mono ?_; rintro e w1 ⟨rfl, hb1⟩; have HB1 := Lib.hid (below_step HB.out hb1); clear hb1)
        go_ret2
        exact ⟨⟨lo, rfl, hin, HI.out⟩, HB1.out⟩
      · rw [decide_eq_false hln, Bool.false_and] at hf
        subst hf
        have hln2 : ¬ (lo : Int) < (n : Int) := by omega
        go_wp2
        go_ret2
        exact ⟨⟨lo, rfl, hin, HI.out⟩, HB.out⟩
end Go.Proofs.YtlbibgofhhdgoaaGreat

namespace Go.Proofs.YtlbibgofhhdgoaaGreat
open Go.RowKit
set_option linter.unusedVariables false
set_option maxRecDepth 100000

theorem heap_setCellT {w : World} {g o : Nat} {cur : Array Value} {t : TypeId} {fr : Nat × Nat} (h : w.heap[g]? = some (.cells cur t fr)) (v : Value) : (w.setCell ⟨g, o, none⟩ v).heap[g]? = some (.cells (cur.setIfInBounds o v) t fr) := by
  simp [World.setCell, Array.getElem?_modify, h]
theorem heap_setCellsT {g : Nat} {t : TypeId} {fr : Nat × Nat} : ∀ (vs : List Value) (o : Nat) (w : World) (cur : Array Value), w.heap[g]? = some (.cells cur t fr) → o + vs.length ≤ cur.size → ∃ cur', (w.setCells g o vs).heap[g]? = some (.cells cur' t fr) ∧ cur'.size = cur.size ∧ cur'.toList = cur.toList.take o ++ (vs ++ cur.toList.drop (o + vs.length))
  | [], o, w, cur, h, _ => ⟨cur, h, rfl, by simp⟩
  | v :: r, o, w, cur, h, hl => by
    rw [List.length_cons] at hl
    obtain ⟨cur', h1, h2, h3⟩ := heap_setCellsT r (o + 1) (w.setCell ⟨g, o, none⟩ v) _ (heap_setCellT h v) (by rw [Array.size_setIfInBounds]; omega)
    refine ⟨cur', h1, by rw [h2, Array.size_setIfInBounds], ?_⟩
    have hlen : o < cur.toList.length := by rw [Array.length_toList]; omega
    have e1 : (cur.toList.set o v).take (o + 1) = cur.toList.take o ++ [v] := by
      rw [List.take_succ_eq_append_getElem (by rw [List.length_set]; exact hlen), List.take_set_of_le (Nat.le_refl _)]
      simp
    have e2 : (cur.toList.set o v).drop (o + 1 + r.length) = cur.toList.drop (o + (v :: r).length) := by
      rw [List.drop_set_of_lt (by omega), List.length_cons]; congr 1; omega
    rw [h3, Array.toList_setIfInBounds, e1, e2]
    simp
theorem grown_setCells (g : Nat) : ∀ (vs : List Value) (o : Nat) (w : World), w.grownBy (w.setCells g o vs) (some g)
  | [], _, _ => ⟨rfl, rfl, rfl, Nat.le_refl _, fun _ _ _ => rfl⟩
  | v :: r, o, w => by
    have ih := grown_setCells g r (o + 1) (w.setCell ⟨g, o, none⟩ v)
    have hs : (w.setCell ⟨g, o, none⟩ v).heap.size = w.heap.size := by simp [World.setCell]
    refine ⟨ih.os, ih.tape, ih.output, by rw [← hs]; exact ih.size, fun k hk hne => ?_⟩
    exact (ih.block k (by rw [hs]; exact hk) hne).trans (Below.heap_setCell _ ⟨g, o, none⟩ _ k (fun e => hne (by rw [e])))
theorem grown_ofdrew {w w' : World} {ob : Option Nat} (h : w.drew.grownBy w' ob) : w.grownBy w' ob := ⟨h.os, h.tape, h.output, h.size, h.block⟩
theorem grown_drew {w w' : World} {ob : Option Nat} (h : w.grownBy w' ob) : w.grownBy w'.drew ob := ⟨h.os, h.tape, h.output, h.size, h.block⟩
theorem grown_two {w w1 w2 : World} {ob : Option Nat} (h : w.grownBy w1 ob) (k : w1.grownBy w2 ob) : w.grownBy w2 ob :=
  ⟨k.os.trans h.os, k.tape.trans h.tape, k.output.trans h.output, Nat.le_trans h.size k.size, fun j hj hne => (k.block j (Nat.lt_of_lt_of_le hj h.size) hne).trans (h.block j hj hne)⟩
/-- What is written into a block that was made turns none of before. -/
theorem grown_fresh {w w1 w2 : World} {ob : Option Nat} {g : Nat} (h : w.grownBy w1 ob) (hg : w.heap.size ≤ g) (k : w1.grownBy w2 (some g)) : w.grownBy w2 ob :=
  ⟨k.os.trans h.os, k.tape.trans h.tape, k.output.trans h.output, Nat.le_trans h.size k.size, fun j hj hne => (k.block j (Nat.lt_of_lt_of_le hj h.size) (fun e => by cases e; omega)).trans (h.block j hj hne)⟩
theorem own_of {w : World} {g cap n base : Nat} {cur : Array Value} {xs : List Value} (h : w.heap[g]? = some (.cells cur 9 (0, 0))) (hg : base ≤ g) (hnc : n ≤ cap) (hcm : cap ≤ maxLen) (hsz : cur.size = cap) (hl : xs.length = n) (hx : cur.toList.take n = xs) : w.ownsRow base 9 1 (.slice (some ⟨g, 0, none⟩) n cap) n xs :=
  ⟨by rw [hl, Nat.mul_one], .inr ⟨g, cap, cur, rfl, hg, h, hnc, hcm, by rw [hsz, Nat.mul_one], by rw [Nat.mul_one]; exact hx⟩⟩

section
variable {α : Type}
theorem shift_list (cur : List α) (n i : Nat) (x : α) (c1 c2 : List α) (hi : i ≤ n) (hn : n + 1 ≤ cur.length) (h1 : c1 = cur.take (i + 1) ++ ((cur.take n).drop i ++ cur.drop (i + 1 + ((cur.take n).drop i).length))) (h2 : c2 = c1.take i ++ ([x] ++ c1.drop (i + [x].length))) :
    c2.take (n + 1) = (cur.take n).take i ++ x :: (cur.take n).drop i := by
  have a1 : c1.take i = (cur.take n).take i := by
    rw [h1, List.take_append_of_le_length (by rw [List.length_take]; omega), List.take_take, List.take_take, Nat.min_eq_left (by omega), Nat.min_eq_left hi]
  have a2 : c1.drop (i + [x].length) = (cur.take n).drop i ++ cur.drop (i + 1 + ((cur.take n).drop i).length) := by
    rw [h1]; exact List.drop_left' (by rw [List.length_take]; simp; omega)
  rw [h2, a1, a2, ← List.append_assoc, ← List.append_assoc, List.take_left' (by simp; omega)]
  simp
theorem grow_list (cs c0 c1 c2 Z : List α) (n i : Nat) (x : α) (hi : i ≤ n) (hn : cs.length = n) (h0 : c0 = cs.take i ++ Z) (h1 : c1 = c0.take i ++ ([x] ++ c0.drop (i + [x].length))) (h2 : c2 = c1.take (i + 1) ++ (cs.drop i ++ c1.drop (i + 1 + (cs.drop i).length))) :
    c2.take (n + 1) = cs.take i ++ x :: cs.drop i := by
  have a0 : c0.take i = cs.take i := by rw [h0]; exact List.take_left' (by rw [List.length_take]; omega)
  have a1 : c1.take (i + 1) = cs.take i ++ [x] := by
    rw [h1, a0, ← List.append_assoc]; exact List.take_left' (by simp; omega)
  rw [h2, a1, ← List.append_assoc, List.take_left' (by simp; omega)]
  simp
end
theorem strC_take (l : List (List UInt8)) (i : Nat) : (strC l).take i = strC (l.take i) := by unfold strC; rw [List.map_take]
theorem strC_drop (l : List (List UInt8)) (i : Nat) : (strC l).drop i = strC (l.drop i) := by unfold strC; rw [List.map_drop]
theorem strC_ins (l : List (List UInt8)) (i : Nat) (x : List UInt8) : (strC l).take i ++ strV x :: (strC l).drop i = strC (l.take i ++ x :: l.drop i) := by
  rw [strC_take, strC_drop]; unfold strC; rw [List.map_append, List.map_cons]
theorem ins_len (l : List (List UInt8)) {i : Nat} (x : List UInt8) (h : i ≤ l.length) : (l.take i ++ x :: l.drop i).length = l.length + 1 := by
  rw [List.length_append, List.length_cons, List.length_take, List.length_drop]; omega

theorem tins_any (V : Value) (l : List (List UInt8)) (i : Nat) (x : List UInt8) (base u : Nat) (w : World) (hown : w.ownsRow base 9 1 V l.length (strC l)) (hi : i ≤ l.length) (hu : w.heap[u]? = some (.cells #[.string (mkB x)] 9 (0, 0))) (hne : V.ownBlock ≠ some u) (hl : l.length ≤ 1000000) (hb : base ≤ w.heap.size) :
    Calls Tryz.prog 57 #[V, .int .i64 (i : Int), .slice (some ⟨u, 0, none⟩) 1 1] w fun e w' => ∃ v', e = .returned v' ∧ w'.ownsRow base 9 1 v' (l.take i ++ x :: l.drop i).length (strC (l.take i ++ x :: l.drop i)) ∧ w.grownBy w' V.ownBlock ∧ (v'.ownBlock = V.ownBlock ∨ v'.ownBlock = some w.heap.size ∧ w.heap.size < w'.heap.size) := by
  obtain ⟨n, hn⟩ : ∃ n, l.length = n := ⟨_, rfl⟩
  have hcl : (strC l).length = n := by rw [strC_len, hn, Nat.mul_one]
  have hlen := ins_len l x hi
  rw [hlen]
  rw [hn] at hown hi hl ⊢
  obtain ⟨u0, -⟩ := row1 hu
  have hvs : ∀ j v, [strV x][j]? = some v → w.cell? ⟨u, 0 + j, none⟩ = some v := fun j v hj => by
    match j, hj with
    | 0, hj => cases hj; exact u0
  have h1v : ∀ v ∈ [strV x], v.oneCell' = true := fun v hv => by rw [List.mem_singleton.1 hv]; rfl
  have h1c : ∀ v ∈ strC l, v.oneCell' = true := fun v hv => List.all_eq_true.1 (strC_one l) v hv
  have hil : (strC (l.take i ++ x :: l.drop i)).length = n + 1 := by rw [strC_len, hlen, hn, Nat.mul_one]
  have grow0 : ∀ c0, V = .slice none 0 0 ∨ (∃ g cur, V = .slice (some ⟨g, 0, none⟩) n c0 ∧ base ≤ g ∧ w.heap[g]? = some (.cells cur 9 (0, 0)) ∧ cur.size = c0 ∧ cur.toList.take n = strC l) → c0 < n + 1 → n ≤ c0 → grownCap w (n + 1) c0 9 ≤ maxLen ∧ n + 1 ≤ grownCap w (n + 1) c0 9 := fun c0 _ _ _ =>
    ⟨grownCap_le_maxLen w (n + 1) c0 9 (by unfold maxLen; omega), grownCap_ge w (n + 1) c0 9⟩
  rcases hown.2 with ⟨rfl, h0⟩ | ⟨g, cap, cur, rfl, hg, hh, hnc, hcm, hsz, htk⟩
  · subst h0
    have hi0 : i = 0 := by omega
    subst hi0
    have hl0 : l = [] := List.eq_nil_of_length_eq_zero hn
    subst hl0
    obtain ⟨q1, q2⟩ := grow0 0 (.inl rfl) (by omega) (Nat.le_refl _)
    refine (Any2.slices_Insert_string_end_grow Tryz.insS none 0 0 u 0 1 1 [] [strV x] w (by decide) (Nat.le_refl _) (by decide) (by decide) rfl rfl (fun _ => rfl) (fun a h => by cases h) hvs h1v).mono ?_
    rintro e w' ⟨rfl, rfl⟩
    refine ⟨_, rfl, ?_, ?_, .inr ⟨rfl, by simp [World.alloc]⟩⟩
    · exact own_of (heap_alloc_new w.drew _) hb q2 q1 (by rw [Array.size_append, size_zeroCells]; simp [Value.cells, Tryz.insS_ren] at q2 ⊢; omega) (by simp [strC]) (by rw [Array.toList_append]; exact List.take_left' (by simp))
    · exact grown_ofdrew (World.grownBy_alloc w.drew _ _)
  · have hsz' : cur.size = cap := by rw [hsz, Nat.mul_one]
    rw [Nat.mul_one] at htk
    have hug : u ≠ g := fun e => hne (by rw [e]; rfl)
    have hgw := (Array.getElem?_eq_some_iff.1 hh).1
    have hcs : ∀ j v, (strC l)[j]? = some v → w.cell? ⟨g, 0 + j, none⟩ = some v := fun j v hj => by
      have hjn : j < n := by have := (List.getElem?_eq_some_iff.1 hj).1; omega
      rw [Nat.zero_add, hown.cellAt j (by omega)]; exact hj
    have hsp : ∀ j, j < cap → (w.cell? ⟨g, 0 + j, none⟩).isSome = true := fun j hj => by
      rw [Nat.zero_add]; unfold World.cell?
      simp only [hh]
      rw [Array.getElem?_eq_getElem (by omega)]; rfl
    have hfz : ∀ j, w.frozen? ⟨g, 0 + j, none⟩ = false := fun j => by rw [Nat.zero_add]; exact hown.frozenAt j
    have hcap63 : cap ≤ 9223372036854775807 := by unfold maxLen at hcm; omega
    have hnl : n + 1 ≤ cap → n + 1 ≤ cur.toList.length := fun h => by rw [Array.length_toList, hsz']; exact h
    by_cases hin : i < n
    · by_cases hr : n + 1 ≤ cap
      · refine (Any2.slices_Insert_string_shift Tryz.insS g 0 n cap i u 0 1 1 (strC l) [strV x] w hin (by decide) hr hcap63 hug hcl rfl hcs (fun j hj => hsp j (by omega)) (fun j _ => hfz j) hvs h1c h1v 9 9 1 cap (by unfold World.shape?; rw [hu]; rfl) (by unfold World.shape?; rw [hh, ← hsz']) (by omega) (by unfold World.frozen?; simp only [hu]; rfl) (by unfold World.frozen?; simp only [hu]; rfl)).mono ?_
        rintro e w' ⟨rfl, rfl⟩
        rw [Nat.zero_add, Nat.zero_add]
        obtain ⟨c1, e1, s1, l1⟩ := heap_setCellsT (strC l |>.drop i) (i + 1) w.drew cur hh (by rw [List.length_drop, hcl]; omega)
        obtain ⟨c2, e2, s2, l2⟩ := heap_setCellsT [strV x] i (w.drew.setCells g (i + 1) ((strC l).drop i)) c1 e1 (by simp; omega)
        refine ⟨_, rfl, own_of e2 hg hr hcm (by omega) hil ?_, grown_ofdrew (grown_two (grown_setCells g _ _ w.drew) (grown_setCells g _ _ _)), .inl rfl⟩
        rw [← strC_ins, ← htk]
        exact shift_list cur.toList n i (strV x) c1.toList c2.toList (by omega) (hnl hr) (by rw [htk]; exact l1) l2
      · obtain ⟨q1, q2⟩ := grow0 cap (.inr ⟨g, cur, rfl, hg, hh, hsz', htk⟩) (by omega) hnc
        refine (Any2.slices_Insert_string_grow Tryz.insS g 0 n cap i u 0 1 1 (strC l) [strV x] w hin (by decide) hnc (by omega) (by omega) hcl rfl hcs hvs h1c h1v).mono ?_
        rintro e w' ⟨rfl, rfl⟩
        obtain ⟨Z, hZ⟩ : ∃ Z : Array Value, Builtin.zeroCells (Value.string ⟨#[]⟩).cells (n + 1 - i) ++ Builtin.zeroCells (Value.string ⟨#[]⟩).cells (grownCap w (n + 1) cap (Tryz.insS_ren.t 9) - (n + 1)) = Z := ⟨_, rfl⟩
        have hZs : Z.size = grownCap w (n + 1) cap 9 - i := by
          rw [← hZ, Array.size_append, size_zeroCells, size_zeroCells]
          show (n + 1 - i) * 1 + (grownCap w (n + 1) cap 9 - (n + 1)) * 1 = _
          omega
        rw [Array.append_assoc, hZ]
        have h0 := heap_alloc_new w (.cells ((List.take i (strC l)).toArray ++ Z) 9)
        have hs0 : ((List.take i (strC l)).toArray ++ Z).size = grownCap w (n + 1) cap 9 := by rw [Array.size_append, hZs]; simp [hcl]; omega
        obtain ⟨c1, e1, s1, l1⟩ := heap_setCellsT [strV x] i (w.alloc (.cells ((List.take i (strC l)).toArray ++ Z) 9)).drew _ h0 (by rw [hs0]; simp; omega)
        obtain ⟨c2, e2, s2, l2⟩ := heap_setCellsT ((strC l).drop i) (i + 1) ((w.alloc (.cells ((List.take i (strC l)).toArray ++ Z) 9)).drew.setCells w.heap.size i [strV x]).drew c1 e1 (by rw [s1, hs0, List.length_drop, hcl]; omega)
        refine ⟨_, rfl, own_of e2 hb q2 q1 (by rw [s2, s1, hs0]; rfl) hil ?_, ?_, .inr ⟨rfl, ?_⟩⟩
        · rw [← strC_ins]
          exact grow_list (strC l) _ c1.toList c2.toList Z.toList n i (strV x) (by omega) hcl (by simp) l1 l2
        · exact grown_fresh (grown_drew (grown_fresh (grown_drew (World.grownBy_alloc w _ _)) (Nat.le_refl _) (grown_setCells w.heap.size _ _ (w.alloc _).drew))) (Nat.le_refl _) (grown_setCells w.heap.size _ _ _)
        · exact (Array.getElem?_eq_some_iff.1 e2).1
    · have hin' : i = n := by omega
      subst hin'
      have hfull : l.take i ++ x :: l.drop i = l ++ [x] := by rw [List.take_of_length_le (by omega), List.drop_eq_nil_of_le (by omega)]
      rw [hfull] at hil ⊢
      by_cases hr : i + 1 ≤ cap
      · refine (Any2.slices_Insert_string_end_room Tryz.insS g 0 i cap u 0 1 1 [strV x] w (by decide) hr hcap63 rfl (fun j hj => by have := hsp (i + j) (by omega); rwa [show 0 + (i + j) = 0 + i + j by omega] at this) (fun j _ => by have := hfz (i + j); rwa [show 0 + (i + j) = 0 + i + j by omega] at this) hvs h1v).mono ?_
        rintro e w' ⟨rfl, rfl⟩
        rw [Nat.zero_add]
        obtain ⟨c1, e1, s1, l1⟩ := heap_setCellsT [strV x] i w cur hh (by simp; omega)
        refine ⟨_, rfl, own_of e1 hg hr hcm (by omega) hil ?_, grown_setCells g _ _ w, .inl rfl⟩
        rw [l1, htk, strC_app, ← List.append_assoc]
        exact List.take_left' (by simp [hcl])
      · obtain ⟨q1, q2⟩ := grow0 cap (.inr ⟨g, cur, rfl, hg, hh, hsz', htk⟩) (by omega) hnc
        refine (Any2.slices_Insert_string_end_grow Tryz.insS (some ⟨g, 0, none⟩) i cap u 0 1 1 (strC l) [strV x] w (by decide) hnc (by omega) (by omega) hcl rfl (fun h => by cases h) (fun a e j v hj => by cases e; rw [addr_add]; exact hcs j v hj) hvs h1v).mono ?_
        rintro e w' ⟨rfl, rfl⟩
        refine ⟨_, rfl, ?_, ?_, .inr ⟨rfl, by simp [World.alloc]⟩⟩
        · refine own_of (heap_alloc_new w.drew _) hb q2 q1 ?_ hil ?_
          · rw [Array.size_append, size_zeroCells]
            show (strC l ++ [strV x]).toArray.size + (grownCap w (i + 1) cap 9 - (i + 1)) * 1 = grownCap w (i + 1) cap 9
            simp [hcl]; omega
          · rw [Array.toList_append, strC_app]; exact List.take_left' (by simp [hcl])
        · exact grown_ofdrew (World.grownBy_alloc w.drew _ _)

/-! ### Taken out -/
end Go.Proofs.YtlbibgofhhdgoaaGreat

namespace Go.Proofs.YtlbibgofhhdgoaaGreat
open Go.RowKit
set_option linter.unusedVariables false
set_option maxRecDepth 100000

theorem own_form {w : World} {base : Nat} {e : TypeId} {size : Nat} {v : Value} {n : Nat} {xs : List Value} (h : w.ownsRow base e size v n xs) : ∃ a c, v = .slice a n c := by
  rcases h.2 with ⟨rfl, rfl⟩ | ⟨g, cap, cur, rfl, _⟩
  · exact ⟨_, _, rfl⟩
  · exact ⟨_, _, rfl⟩
section
variable {wr : World} {ops : Array Oper} {rest : List Oper} {o : Oper} {a : Act} {Q : Exit → Act → World → Prop}
/-- 'rows = append(rows, Row{p, vs})', the rows the call's own; the row has just been laid in a block of its own. -/
theorem wpList_push_rw (hgd : o.guard = none) (s x : Operand) (ho : o.op = .call { callee := .builtin .append, args := #[s, x], argTypes := #[23, 23] })
    (N : Nat) (V : Value) (rs : List Rw) (ys : List Value) (n : Nat) (hn : rs.length = n) (hys : ys.length = rs.length) (hs : a.eval s = V) (hown : wr.ownsRow N 63 2 V n (rwC rs ys)) (r : Rw) (y : Value) (hy : y.oneCell' = true) (M : Nat) (hM : wr.heap.size = M) (hx : a.eval x = .slice (some ⟨M, 0, none⟩) 1 1) (hlen : n ≤ 1000000) (hbase : N ≤ wr.heap.size)
    (h : ∀ a' c' w', w'.ownsRow N 63 2 (.slice a' (n + 1) c') (n + 1) (rwC (rs ++ [r]) (ys ++ [y])) → wr.grownBy w' V.ownBlock → (∀ (b : Nat) (cs : Array Value), wr.heap[b]? = some (.cells cs 9 (0, 0)) → w'.heap[b]? = wr.heap[b]?) → wpList Tryz.prog ops Q rest (a.put o.dst (.slice a' (n + 1) c')) w') :
    wpList Tryz.prog ops Q (o :: rest) a (wr.alloc (.cells #[.string (mkB r.1), y] 63)) := by
  subst hM
  refine wpList_plain hgd fun K' hK' => ?_
  have hal := hown.alloc (.cells #[.string (mkB r.1), y] 63)
  obtain ⟨v', w', hr, h2, h3, -⟩ := run_app_rw hys hal (ls := [r]) (zs := [y]) (a0 := some ⟨wr.heap.size, 0, none⟩) (m := 1) (c := 1) rfl rfl (fun e => by cases e) (blk_src (heap_alloc_new wr _)) (by simp [hy]) (by omega) (by simp; omega) o.type
  obtain ⟨a', c', rfl⟩ := own_form h2
  have ht : ∀ (b : Nat) (cs : Array Value), wr.heap[b]? = some (.cells cs 9 (0, 0)) → w'.heap[b]? = wr.heap[b]? := fun b cs hc => by
    have hb := (Below.refl wr.heap.size wr).alloc (Nat.le_refl _) (.cells #[.string (mkB r.1), y] 63)
    have h5 := row_keepB hc hb
    exact (txt_kept hal h3 b cs h5).trans (h5.trans hc.symm)
  have hk := h a' c' w' h2 ((World.grownBy_alloc wr _ _).trans h3) ht
  unfold Oper.wp
  simp [execOp, ho, resolve, invoke, builtin, hs, hx, hr, Result.andThen]
  exact hK' _ _ hk
/-- 'append(rows, more...)', both the call's own. -/
theorem wpList_cat_rw (hgd : o.guard = none) (s x : Operand) (ho : o.op = .call { callee := .builtin .append, args := #[s, x], argTypes := #[23, 23] })
    (N : Nat) (V : Value) (rs : List Rw) (ys : List Value) (n : Nat) (hys : ys.length = rs.length) (hs : a.eval s = V) (hown : wr.ownsRow N 63 2 V n (rwC rs ys)) (N' : Nat) (a0 : Option Addr) (m c : Nat) (ls : List Rw) (zs : List Value) (hm : ls.length = m) (hz : zs.length = ls.length) (hx : a.eval x = .slice a0 m c) (hsrc : wr.ownsRow N' 63 2 (.slice a0 m c) m (rwC ls zs)) (h1 : (zs.all fun u => u.oneCell') = true) (hlen : n + m ≤ 2000000) (hbase : N ≤ wr.heap.size)
    (h : ∀ a' c' w', w'.ownsRow N 63 2 (.slice a' (n + m) c') (n + m) (rwC (rs ++ ls) (ys ++ zs)) → wr.grownBy w' V.ownBlock → (∀ (b : Nat) (cs : Array Value), wr.heap[b]? = some (.cells cs 9 (0, 0)) → w'.heap[b]? = wr.heap[b]?) → wpList Tryz.prog ops Q rest (a.put o.dst (.slice a' (n + m) c')) w') :
    wpList Tryz.prog ops Q (o :: rest) a wr := by
  refine wpList_plain hgd fun K' hK' => ?_
  obtain ⟨v', w', hr, h2, h3, -⟩ := run_app_rw hys hown hm hz (own_src hsrc).1 (own_src hsrc).2 h1 hlen hbase o.type
  obtain ⟨a', c', rfl⟩ := own_form h2
  have hk := h a' c' w' h2 h3 (txt_kept hown h3)
  unfold Oper.wp
  simp [execOp, ho, resolve, invoke, builtin, hs, hx, hr, Result.andThen]
  exact hK' _ _ hk
end
theorem RwI.len {w : World} {lo : Nat} {ys : List Value} {rs : List Rw} (h : RwI w lo ys rs) : ys.length = rs.length := h.1

set_option maxHeartbeats 3200000 in
theorem twith_any (V U : Value) (l : List Rw) (p : List UInt8) (vs : List (List UInt8)) (base : Nat) (w : World) (hV : Rws w V l) (hU : w.ownsRow base 9 1 U vs.length (strC vs)) (ol : okR l = true) (hl : l.length ≤ 100000) (hv : ∀ r ∈ l, r.2.length ≤ 100000) (hvs : vs.length ≤ 1000000) (hbs : base ≤ w.heap.size) :
    Calls Tryz.prog 56 #[V, .string (mkB p), U] w fun e w' => ∃ v ys, e = .returned v ∧ w'.ownsRow w.heap.size 63 2 v (rwWith l p vs).length (rwC (rwWith l p vs) ys) ∧ RwI w' base ys (rwWith l p vs) ∧ (∀ j, j < (rwWith l p vs).length → ∀ b, (ys.getD j undef).ownBlock = some b → w.heap.size ≤ b ∨ U.ownBlock = some b) ∧ Below w.heap.size w w' := by
  obtain ⟨a, c, rfl, h1, h2, -, -⟩ := hV.ex
  unfold maxLen at h2
  obtain ⟨au, cu, rfl, -⟩ := stsO hU
  obtain ⟨n, hn⟩ : ∃ n, l.length = n := ⟨_, rfl⟩
  obtain ⟨m, hm⟩ : ∃ m, vs.length = m := ⟨_, rfl⟩
  have ks := fun w h => seek16_any a n c l p w h ol (by omega)
  have hcut := fun i (h : FindP l p i i) (hi : i ≤ n) => with_cut (l := l) (p := p) (i := i) vs (by omega) ol h
  rw [hn] at hl h1 hV ⊢
  rw [hm] at hvs hU ⊢
  have SV := Lib.hid hV; have SU := Lib.hid hU; have HN := Lib.hid hn; have HM := Lib.hid hm; have HV := Lib.hid hv; have KS := Lib.hid ks; have HCUT := Lib.hid hcut; have HBS := Lib.hid hbs
  clear hV hU hn hm hv ks hcut ol hbs
  go_enter Tryz.func56, Tryz.ntmps56
  go_upto_region 2 with (go_at_call 58; refine (KS.out _ SV.out).mono ?_; rintro e w1 ⟨⟨i, rfl, hi, hI⟩, hb1⟩; have HI := Lib.hid hI; have B := Lib.hid hb1; clear hb1 hI KS)
  have hV1 := SV.out
  obtain ⟨A0, hA0, hN0⟩ := hV1.back hi
  obtain ⟨A2, hA2, hN2⟩ := hV1.front hi
  have HA2 := Lib.hid hN2
  have hs0 : ∀ w, (Instr.sliceAt 23 (.slice a n c) (some (.int .i64 (i : Int))) none none).run Tryz.prog w = .ok (.slice A0 (n - i) (c - i)) w := fun w => by have h := rw_back w a n c i hi h1; rw [hA0] at h; exact h
  have hs2 : ∀ w, (Instr.sliceAt 23 (.slice a n c) none (some (.int .i64 (i : Int))) none).run Tryz.prog w = .ok (.slice A2 i c) w := fun w => by have h := rw_front w a n c i (by omega); rw [hA2] at h; exact h
  clear hA2 hN2
  by_cases hm0 : m = 0
  · cases hf : foundP l p i with
    | false =>
      have hN1 := hN0
      have hcut := HCUT.out i HI.out (by omega)
      rw [hf] at hcut
      simp only [Bool.false_eq_true, if_false] at hcut
      have HX := Lib.hid hcut; have HA1 := Lib.hid hN1
      clear hcut hN1 hN0 hA0 hf
      have ko := fun w h => town_any (.slice A2 i c) (l.take i) w h (by rw [List.length_take]; have := HN.out; omega) (fun r hr => HV.out r (List.mem_of_mem_take hr))
      have kr := fun w h => town_any (.slice A0 (n - (i)) (c - (i))) (l.drop (i)) w h (by rw [List.length_drop]; have := HN.out; omega) (fun r hr => HV.out r (List.mem_of_mem_drop hr))
      have hfl : (l.take i).length = i := by rw [List.length_take, HN.out]; omega
      have hrl : (l.drop (i)).length = n - (i) := by rw [List.length_drop, HN.out]
      obtain ⟨T1, hT1⟩ : ∃ T, l.take i = T := ⟨_, rfl⟩
      obtain ⟨T2, hT2⟩ : ∃ T, l.drop (i) = T := ⟨_, rfl⟩
      obtain ⟨n2, hn2⟩ : ∃ m, n - (i) = m := ⟨_, rfl⟩
      have hm2 : n2 ≤ 100000 := by omega
      obtain ⟨c2, hc2⟩ : ∃ m, c - (i) = m := ⟨_, rfl⟩
      rw [hT1] at ko hfl
      rw [hT2, hn2, hc2] at kr
      rw [hT2, hn2] at hrl
      have S1 := Lib.hid (show ∀ w', Rws w' (.slice a n c) l → Rws w' (.slice A2 i c) T1 from by rw [← hT1]; exact HA2.out)
      have S2 := Lib.hid (show ∀ w', Rws w' (.slice a n c) l → Rws w' (.slice A0 n2 c2) T2 from by rw [← hT2, ← hn2, ← hc2]; exact HA1.out)
      rw [hT1, hT2] at HX
      rw [hn2, hc2] at hs0
      have KO := Lib.hid ko; have KR := Lib.hid kr; have HFL := Lib.hid hfl; have HRL := Lib.hid hrl
      clear HA1 HA2 ko kr hfl hrl hT1 hT2 hn2 hc2 HCUT
      have hi2 : i ≤ 100000 := by omega
      go_upto_region 6 with (go_at_call 52; refine (KO.out _ (S1.out _ (SV.out.below B.out))).mono ?_; rintro e w2 ⟨v2, rfl, ho, hb2⟩; have B2 := Lib.hid (below_step B.out hb2); have HO := Lib.hid (ho.base B.out.size); have HU := Lib.hid (ownsRow_belowB SU.out B2.out); clear hb2 ho)
      obtain ⟨ys, hr1, hI1⟩ := HO.out
      rw [HFL.out] at hr1
      obtain ⟨a2, k2, rfl⟩ := own_form hr1
      have HR1 := Lib.hid hr1; have HK1 := Lib.hid (fun j hj b e => (hI1.2 j hj).lt b e |>.1); have HI1 := Lib.hid (hI1.base HBS.out)
      clear hr1 hI1 HO
      have hpos : ¬ (0 : Int) < (m : Int) := by have := HM.out; omega
      go_upto_region 8 with fail
      have HS2 := Lib.hid (S2.out _ (SV.out.below B2.out))
      go_wp2_with (first
        | (go_at_call 52; refine (KR.out _ HS2.out).mono ?_; rintro e w4 ⟨v4, rfl, ho4, hb4⟩; obtain ⟨zs, hr4, hI4⟩ := ho4; rw [HRL.out] at hr4; obtain ⟨a4, c4, rfl⟩ := own_form hr4; have HR5 := Lib.hid (ownsRow_belowB HR1.out hb4); have HI5 := Lib.hid (HI1.out.below hb4); have HR4 := Lib.hid hr4; have HK4 := Lib.hid (fun j hj b e => Nat.le_trans B2.out.size ((hI4.2 j hj).lt b e).1); have HI4 := Lib.hid (hI4.base (Nat.le_trans HBS.out B2.out.size)); have B4 := Lib.hid (below_step B2.out hb4); clear hb4 hr4 hI4)
        | (at_builtin; refine wpList_cat_rw rfl _ _ rfl w.heap.size (.slice a2 i k2) T1 ys (i) HI5.out.1 rfl HR5.out _ a4 n2 c4 T2 zs HRL.out HI4.out.1 rfl HR4.out HI4.out.slices (by omega) B4.out.size ?_; intro a5 c5 w5 h5 hg5 ht5; have HR6 := Lib.hid h5; have HI6 := Lib.hid ((HI5.out.app HI4.out).keep ht5); have B5 := Lib.hid (B4.out.grown hg5 B4.out.size (fun b e => (own_lt HR5.out e).1)); clear h5 hg5 ht5))
      go_ret
      have HXX := HX.out
      rw [if_pos (List.eq_nil_of_length_eq_zero (by have := HM.out; omega)), List.nil_append] at HXX
      rw [HXX]
      refine ⟨_, ys ++ zs, rfl, ?_, ?_, ?_, B5.out⟩
      · have e : (T1 ++ T2).length = i + n2 := by rw [List.length_append, HRL.out, HFL.out]
        rw [e]; exact HR6.out
      · exact HI6.out
      · intro j hj b e
        rw [gd_app HI5.out.1] at e
        by_cases hj2 : j < T1.length
        · rw [if_pos hj2] at e
          exact .inl (HK1.out j hj2 b e)
        · rw [if_neg hj2] at e
          rw [List.length_append] at hj
          exact .inl (HK4.out (j - T1.length) (by omega) b e)
    | true =>
      obtain ⟨A1, hA1, hN1⟩ := hV1.back (i := i + 1) (by have := HN.out; have := (found_eq hf).1; omega)
      have hin : (i : Int) + 1 ≤ (n : Int) := by have := HN.out; have := (found_eq hf).1; omega
      have hs1 : ∀ w, (Instr.sliceAt 23 (.slice a n c) (some (.int .i64 ((i : Int) + 1))) none none).run Tryz.prog w = .ok (.slice A1 (n - (i + 1)) (c - (i + 1))) w := fun w => by
        have h := rw_back w a n c (i + 1) (by omega) h1
        rw [hA1, show ((i + 1 : Nat) : Int) = (i : Int) + 1 by omega] at h
        exact h
      have hcut := HCUT.out i HI.out (by omega)
      rw [hf] at hcut
      simp only [if_pos] at hcut
      have HX := Lib.hid hcut; have HA1 := Lib.hid hN1
      clear hcut hN1 hN0 hA1 hA0 hf
      have ko := fun w h => town_any (.slice A2 i c) (l.take i) w h (by rw [List.length_take]; have := HN.out; omega) (fun r hr => HV.out r (List.mem_of_mem_take hr))
      have kr := fun w h => town_any (.slice A1 (n - (i + 1)) (c - (i + 1))) (l.drop (i + 1)) w h (by rw [List.length_drop]; have := HN.out; omega) (fun r hr => HV.out r (List.mem_of_mem_drop hr))
      have hfl : (l.take i).length = i := by rw [List.length_take, HN.out]; omega
      have hrl : (l.drop (i + 1)).length = n - (i + 1) := by rw [List.length_drop, HN.out]
      obtain ⟨T1, hT1⟩ : ∃ T, l.take i = T := ⟨_, rfl⟩
      obtain ⟨T2, hT2⟩ : ∃ T, l.drop (i + 1) = T := ⟨_, rfl⟩
      obtain ⟨n2, hn2⟩ : ∃ m, n - (i + 1) = m := ⟨_, rfl⟩
      have hm2 : n2 ≤ 100000 := by omega
      obtain ⟨c2, hc2⟩ : ∃ m, c - (i + 1) = m := ⟨_, rfl⟩
      rw [hT1] at ko hfl
      rw [hT2, hn2, hc2] at kr
      rw [hT2, hn2] at hrl
      have S1 := Lib.hid (show ∀ w', Rws w' (.slice a n c) l → Rws w' (.slice A2 i c) T1 from by rw [← hT1]; exact HA2.out)
      have S2 := Lib.hid (show ∀ w', Rws w' (.slice a n c) l → Rws w' (.slice A1 n2 c2) T2 from by rw [← hT2, ← hn2, ← hc2]; exact HA1.out)
      rw [hT1, hT2] at HX
      rw [hn2, hc2] at hs1
      have KO := Lib.hid ko; have KR := Lib.hid kr; have HFL := Lib.hid hfl; have HRL := Lib.hid hrl
      clear HA1 HA2 ko kr hfl hrl hT1 hT2 hn2 hc2 HCUT
      have hi2 : i ≤ 100000 := by omega
      go_upto_region 6 with (go_at_call 52; refine (KO.out _ (S1.out _ (SV.out.below B.out))).mono ?_; rintro e w2 ⟨v2, rfl, ho, hb2⟩; have B2 := Lib.hid (below_step B.out hb2); have HO := Lib.hid (ho.base B.out.size); have HU := Lib.hid (ownsRow_belowB SU.out B2.out); clear hb2 ho)
      obtain ⟨ys, hr1, hI1⟩ := HO.out
      rw [HFL.out] at hr1
      obtain ⟨a2, k2, rfl⟩ := own_form hr1
      have HR1 := Lib.hid hr1; have HK1 := Lib.hid (fun j hj b e => (hI1.2 j hj).lt b e |>.1); have HI1 := Lib.hid (hI1.base HBS.out)
      clear hr1 hI1 HO
      have hpos : ¬ (0 : Int) < (m : Int) := by have := HM.out; omega
      go_upto_region 8 with fail
      have HS2 := Lib.hid (S2.out _ (SV.out.below B2.out))
      go_wp2_with (first
        | (go_at_call 52; refine (KR.out _ HS2.out).mono ?_; rintro e w4 ⟨v4, rfl, ho4, hb4⟩; obtain ⟨zs, hr4, hI4⟩ := ho4; rw [HRL.out] at hr4; obtain ⟨a4, c4, rfl⟩ := own_form hr4; have HR5 := Lib.hid (ownsRow_belowB HR1.out hb4); have HI5 := Lib.hid (HI1.out.below hb4); have HR4 := Lib.hid hr4; have HK4 := Lib.hid (fun j hj b e => Nat.le_trans B2.out.size ((hI4.2 j hj).lt b e).1); have HI4 := Lib.hid (hI4.base (Nat.le_trans HBS.out B2.out.size)); have B4 := Lib.hid (below_step B2.out hb4); clear hb4 hr4 hI4)
        | (at_builtin; refine wpList_cat_rw rfl _ _ rfl w.heap.size (.slice a2 i k2) T1 ys (i) HI5.out.1 rfl HR5.out _ a4 n2 c4 T2 zs HRL.out HI4.out.1 rfl HR4.out HI4.out.slices (by omega) B4.out.size ?_; intro a5 c5 w5 h5 hg5 ht5; have HR6 := Lib.hid h5; have HI6 := Lib.hid ((HI5.out.app HI4.out).keep ht5); have B5 := Lib.hid (B4.out.grown hg5 B4.out.size (fun b e => (own_lt HR5.out e).1)); clear h5 hg5 ht5))
      go_ret
      have HXX := HX.out
      rw [if_pos (List.eq_nil_of_length_eq_zero (by have := HM.out; omega)), List.nil_append] at HXX
      rw [HXX]
      refine ⟨_, ys ++ zs, rfl, ?_, ?_, ?_, B5.out⟩
      · have e : (T1 ++ T2).length = i + n2 := by rw [List.length_append, HRL.out, HFL.out]
        rw [e]; exact HR6.out
      · exact HI6.out
      · intro j hj b e
        rw [gd_app HI5.out.1] at e
        by_cases hj2 : j < T1.length
        · rw [if_pos hj2] at e
          exact .inl (HK1.out j hj2 b e)
        · rw [if_neg hj2] at e
          rw [List.length_append] at hj
          exact .inl (HK4.out (j - T1.length) (by omega) b e)
  · cases hf : foundP l p i with
    | false =>
      have hN1 := hN0
      have hcut := HCUT.out i HI.out (by omega)
      rw [hf] at hcut
      simp only [Bool.false_eq_true, if_false] at hcut
      have HX := Lib.hid hcut; have HA1 := Lib.hid hN1
      clear hcut hN1 hN0 hA0 hf
      have ko := fun w h => town_any (.slice A2 i c) (l.take i) w h (by rw [List.length_take]; have := HN.out; omega) (fun r hr => HV.out r (List.mem_of_mem_take hr))
      have kr := fun w h => town_any (.slice A0 (n - (i)) (c - (i))) (l.drop (i)) w h (by rw [List.length_drop]; have := HN.out; omega) (fun r hr => HV.out r (List.mem_of_mem_drop hr))
      have hfl : (l.take i).length = i := by rw [List.length_take, HN.out]; omega
      have hrl : (l.drop (i)).length = n - (i) := by rw [List.length_drop, HN.out]
      obtain ⟨T1, hT1⟩ : ∃ T, l.take i = T := ⟨_, rfl⟩
      obtain ⟨T2, hT2⟩ : ∃ T, l.drop (i) = T := ⟨_, rfl⟩
      obtain ⟨n2, hn2⟩ : ∃ m, n - (i) = m := ⟨_, rfl⟩
      have hm2 : n2 ≤ 100000 := by omega
      obtain ⟨c2, hc2⟩ : ∃ m, c - (i) = m := ⟨_, rfl⟩
      rw [hT1] at ko hfl
      rw [hT2, hn2, hc2] at kr
      rw [hT2, hn2] at hrl
      have S1 := Lib.hid (show ∀ w', Rws w' (.slice a n c) l → Rws w' (.slice A2 i c) T1 from by rw [← hT1]; exact HA2.out)
      have S2 := Lib.hid (show ∀ w', Rws w' (.slice a n c) l → Rws w' (.slice A0 n2 c2) T2 from by rw [← hT2, ← hn2, ← hc2]; exact HA1.out)
      rw [hT1, hT2] at HX
      rw [hn2, hc2] at hs0
      have KO := Lib.hid ko; have KR := Lib.hid kr; have HFL := Lib.hid hfl; have HRL := Lib.hid hrl
      clear HA1 HA2 ko kr hfl hrl hT1 hT2 hn2 hc2 HCUT
      have hi2 : i ≤ 100000 := by omega
      go_upto_region 6 with (go_at_call 52; refine (KO.out _ (S1.out _ (SV.out.below B.out))).mono ?_; rintro e w2 ⟨v2, rfl, ho, hb2⟩; have B2 := Lib.hid (below_step B.out hb2); have HO := Lib.hid (ho.base B.out.size); have HU := Lib.hid (ownsRow_belowB SU.out B2.out); clear hb2 ho)
      obtain ⟨ys, hr1, hI1⟩ := HO.out
      rw [HFL.out] at hr1
      obtain ⟨a2, k2, rfl⟩ := own_form hr1
      have HR1 := Lib.hid hr1; have HK1 := Lib.hid (fun j hj b e => (hI1.2 j hj).lt b e |>.1); have HI1 := Lib.hid (hI1.base HBS.out)
      clear hr1 hI1 HO
      have hpos : (0 : Int) < (m : Int) := by have := HM.out; omega
      go_upto_region 8 with (at_builtin; refine wpList_push_rw rfl _ _ rfl w.heap.size (.slice a2 i k2) T1 ys i HFL.out HI1.out.1 rfl HR1.out (p, vs) (.slice au m cu) rfl _ rfl rfl (by omega) B2.out.size ?_; intro a3 c3 w3 h3 hg3 ht3; have HR3 := Lib.hid h3; have HI3 := Lib.hid ((HI1.out.keep ht3).snoc (r := (p, vs)) (y := .slice au m cu) (by rw [HM.out]; exact row_heap HU.out (fun b hb => by obtain ⟨cs, hc⟩ := own_block HU.out hb; exact ht3 b cs hc))); have B3 := Lib.hid (B2.out.grown hg3 B2.out.size (fun b e => (own_lt HR1.out e).1)); clear h3 hg3 ht3)
      have HS2 := Lib.hid (S2.out _ (SV.out.below B3.out))
      go_wp2_with (first
        | (go_at_call 52; refine (KR.out _ HS2.out).mono ?_; rintro e w4 ⟨v4, rfl, ho4, hb4⟩; obtain ⟨zs, hr4, hI4⟩ := ho4; rw [HRL.out] at hr4; obtain ⟨a4, c4, rfl⟩ := own_form hr4; have HR5 := Lib.hid (ownsRow_belowB HR3.out hb4); have HI5 := Lib.hid (HI3.out.below hb4); have HR4 := Lib.hid hr4; have HK4 := Lib.hid (fun j hj b e => Nat.le_trans B3.out.size ((hI4.2 j hj).lt b e).1); have HI4 := Lib.hid (hI4.base (Nat.le_trans HBS.out B3.out.size)); have B4 := Lib.hid (below_step B3.out hb4); clear hb4 hr4 hI4)
        | (at_builtin; refine wpList_cat_rw rfl _ _ rfl w.heap.size (.slice a3 (i + 1) c3) (T1 ++ [(p, vs)]) (ys ++ [Value.slice au m cu]) (i + 1) HI5.out.1 rfl HR5.out _ a4 n2 c4 T2 zs HRL.out HI4.out.1 rfl HR4.out HI4.out.slices (by omega) B4.out.size ?_; intro a5 c5 w5 h5 hg5 ht5; have HR6 := Lib.hid h5; have HI6 := Lib.hid ((HI5.out.app HI4.out).keep ht5); have B5 := Lib.hid (B4.out.grown hg5 B4.out.size (fun b e => (own_lt HR5.out e).1)); clear h5 hg5 ht5))
      go_ret
      have HXX := HX.out
      rw [if_neg (by intro e; have := HM.out; rw [e] at this; simp at this; omega), ← List.append_assoc] at HXX
      rw [HXX]
      refine ⟨_, (ys ++ [Value.slice au m cu]) ++ zs, rfl, ?_, ?_, ?_, B5.out⟩
      · have e : ((T1 ++ [(p, vs)]) ++ T2).length = i + 1 + n2 := by rw [List.length_append, List.length_append, HRL.out, HFL.out]; rfl
        rw [e]; exact HR6.out
      · exact HI6.out
      · intro j hj b e
        rw [gd_app HI5.out.1] at e
        by_cases hj2 : j < (T1 ++ [(p, vs)]).length
        · rw [if_pos hj2] at e
          rw [gd_snoc HI1.out.1 (by simpa using hj2)] at e
          by_cases hj3 : j = T1.length
          · rw [if_pos hj3] at e; exact .inr e
          · rw [if_neg hj3] at e; exact .inl (HK1.out j (by simp at hj2; omega) b e)
        · rw [if_neg hj2] at e
          rw [List.length_append] at hj
          exact .inl (HK4.out (j - (T1 ++ [(p, vs)]).length) (by omega) b e)
    | true =>
      obtain ⟨A1, hA1, hN1⟩ := hV1.back (i := i + 1) (by have := HN.out; have := (found_eq hf).1; omega)
      have hin : (i : Int) + 1 ≤ (n : Int) := by have := HN.out; have := (found_eq hf).1; omega
      have hs1 : ∀ w, (Instr.sliceAt 23 (.slice a n c) (some (.int .i64 ((i : Int) + 1))) none none).run Tryz.prog w = .ok (.slice A1 (n - (i + 1)) (c - (i + 1))) w := fun w => by
        have h := rw_back w a n c (i + 1) (by omega) h1
        rw [hA1, show ((i + 1 : Nat) : Int) = (i : Int) + 1 by omega] at h
        exact h
      have hcut := HCUT.out i HI.out (by omega)
      rw [hf] at hcut
      simp only [if_pos] at hcut
      have HX := Lib.hid hcut; have HA1 := Lib.hid hN1
      clear hcut hN1 hN0 hA1 hA0 hf
      have ko := fun w h => town_any (.slice A2 i c) (l.take i) w h (by rw [List.length_take]; have := HN.out; omega) (fun r hr => HV.out r (List.mem_of_mem_take hr))
      have kr := fun w h => town_any (.slice A1 (n - (i + 1)) (c - (i + 1))) (l.drop (i + 1)) w h (by rw [List.length_drop]; have := HN.out; omega) (fun r hr => HV.out r (List.mem_of_mem_drop hr))
      have hfl : (l.take i).length = i := by rw [List.length_take, HN.out]; omega
      have hrl : (l.drop (i + 1)).length = n - (i + 1) := by rw [List.length_drop, HN.out]
      obtain ⟨T1, hT1⟩ : ∃ T, l.take i = T := ⟨_, rfl⟩
      obtain ⟨T2, hT2⟩ : ∃ T, l.drop (i + 1) = T := ⟨_, rfl⟩
      obtain ⟨n2, hn2⟩ : ∃ m, n - (i + 1) = m := ⟨_, rfl⟩
      have hm2 : n2 ≤ 100000 := by omega
      obtain ⟨c2, hc2⟩ : ∃ m, c - (i + 1) = m := ⟨_, rfl⟩
      rw [hT1] at ko hfl
      rw [hT2, hn2, hc2] at kr
      rw [hT2, hn2] at hrl
      have S1 := Lib.hid (show ∀ w', Rws w' (.slice a n c) l → Rws w' (.slice A2 i c) T1 from by rw [← hT1]; exact HA2.out)
      have S2 := Lib.hid (show ∀ w', Rws w' (.slice a n c) l → Rws w' (.slice A1 n2 c2) T2 from by rw [← hT2, ← hn2, ← hc2]; exact HA1.out)
      rw [hT1, hT2] at HX
      rw [hn2, hc2] at hs1
      have KO := Lib.hid ko; have KR := Lib.hid kr; have HFL := Lib.hid hfl; have HRL := Lib.hid hrl
      clear HA1 HA2 ko kr hfl hrl hT1 hT2 hn2 hc2 HCUT
      have hi2 : i ≤ 100000 := by omega
      go_upto_region 6 with (go_at_call 52; refine (KO.out _ (S1.out _ (SV.out.below B.out))).mono ?_; rintro e w2 ⟨v2, rfl, ho, hb2⟩; have B2 := Lib.hid (below_step B.out hb2); have HO := Lib.hid (ho.base B.out.size); have HU := Lib.hid (ownsRow_belowB SU.out B2.out); clear hb2 ho)
      obtain ⟨ys, hr1, hI1⟩ := HO.out
      rw [HFL.out] at hr1
      obtain ⟨a2, k2, rfl⟩ := own_form hr1
      have HR1 := Lib.hid hr1; have HK1 := Lib.hid (fun j hj b e => (hI1.2 j hj).lt b e |>.1); have HI1 := Lib.hid (hI1.base HBS.out)
      clear hr1 hI1 HO
      have hpos : (0 : Int) < (m : Int) := by have := HM.out; omega
      go_upto_region 8 with (at_builtin; refine wpList_push_rw rfl _ _ rfl w.heap.size (.slice a2 i k2) T1 ys i HFL.out HI1.out.1 rfl HR1.out (p, vs) (.slice au m cu) rfl _ rfl rfl (by omega) B2.out.size ?_; intro a3 c3 w3 h3 hg3 ht3; have HR3 := Lib.hid h3; have HI3 := Lib.hid ((HI1.out.keep ht3).snoc (r := (p, vs)) (y := .slice au m cu) (by rw [HM.out]; exact row_heap HU.out (fun b hb => by obtain ⟨cs, hc⟩ := own_block HU.out hb; exact ht3 b cs hc))); have B3 := Lib.hid (B2.out.grown hg3 B2.out.size (fun b e => (own_lt HR1.out e).1)); clear h3 hg3 ht3)
      have HS2 := Lib.hid (S2.out _ (SV.out.below B3.out))
      go_wp2_with (first
        | (go_at_call 52; refine (KR.out _ HS2.out).mono ?_; rintro e w4 ⟨v4, rfl, ho4, hb4⟩; obtain ⟨zs, hr4, hI4⟩ := ho4; rw [HRL.out] at hr4; obtain ⟨a4, c4, rfl⟩ := own_form hr4; have HR5 := Lib.hid (ownsRow_belowB HR3.out hb4); have HI5 := Lib.hid (HI3.out.below hb4); have HR4 := Lib.hid hr4; have HK4 := Lib.hid (fun j hj b e => Nat.le_trans B3.out.size ((hI4.2 j hj).lt b e).1); have HI4 := Lib.hid (hI4.base (Nat.le_trans HBS.out B3.out.size)); have B4 := Lib.hid (below_step B3.out hb4); clear hb4 hr4 hI4)
        | (at_builtin; refine wpList_cat_rw rfl _ _ rfl w.heap.size (.slice a3 (i + 1) c3) (T1 ++ [(p, vs)]) (ys ++ [Value.slice au m cu]) (i + 1) HI5.out.1 rfl HR5.out _ a4 n2 c4 T2 zs HRL.out HI4.out.1 rfl HR4.out HI4.out.slices (by omega) B4.out.size ?_; intro a5 c5 w5 h5 hg5 ht5; have HR6 := Lib.hid h5; have HI6 := Lib.hid ((HI5.out.app HI4.out).keep ht5); have B5 := Lib.hid (B4.out.grown hg5 B4.out.size (fun b e => (own_lt HR5.out e).1)); clear h5 hg5 ht5))
      go_ret
      have HXX := HX.out
      rw [if_neg (by intro e; have := HM.out; rw [e] at this; simp at this; omega), ← List.append_assoc] at HXX
      rw [HXX]
      refine ⟨_, (ys ++ [Value.slice au m cu]) ++ zs, rfl, ?_, ?_, ?_, B5.out⟩
      · have e : ((T1 ++ [(p, vs)]) ++ T2).length = i + 1 + n2 := by rw [List.length_append, List.length_append, HRL.out, HFL.out]; rfl
        rw [e]; exact HR6.out
      · exact HI6.out
      · intro j hj b e
        rw [gd_app HI5.out.1] at e
        by_cases hj2 : j < (T1 ++ [(p, vs)]).length
        · rw [if_pos hj2] at e
          rw [gd_snoc HI1.out.1 (by simpa using hj2)] at e
          by_cases hj3 : j = T1.length
          · rw [if_pos hj3] at e; exact .inr e
          · rw [if_neg hj3] at e; exact .inl (HK1.out j (by simp at hj2; omega) b e)
        · rw [if_neg hj2] at e
          rw [List.length_append] at hj
          exact .inl (HK4.out (j - (T1 ++ [(p, vs)]).length) (by omega) b e)
end Go.Proofs.YtlbibgofhhdgoaaGreat

namespace Go.Proofs.YtlbibgofhhdgoaaGreat
open Go.RowKit
set_option linter.unusedVariables false
set_option maxRecDepth 100000

section
variable {P : Program} {ops : Array Oper} {Q : Exit → Act → World → Prop} {a : Act} {w w0 : World} {who : Nat → Nat} {i B r ro : Nat} {o : Oper}
/-- A call that turns, or makes anew, a row of the region's own. -/
theorem rol_callg (ho : ops[i]? = some o) (hw : Region.wanted o (yielded ops a.tmps) = true) {s : Nat} (hd : o.dst = some s) (hs : s < a.tmps.size) {f : Nat} {vs : Array Value} (hr : Sem.run P (execOp a.eval o) w = .ok (.enter f vs) w) {R : Ending → World → Prop} (hc : Calls P f vs w R) {p : World → Value → Option Nat → Prop} {ob : Option Nat}
    (h : ∀ e w', R e w' → ∃ v' ob', e = .returned v' ∧ w.grownBy w' ob ∧ (ob' = ob ∨ ob' = some w.heap.size ∧ w.heap.size < w'.heap.size) ∧ p w' v' ob') (hob : ∀ b, ob = some b → b < w.heap.size ∧ who b = r) (hb : Below B w0 w) (hB : B ≤ w.heap.size) (hrow : ∀ b, ob = some b → B ≤ b) :
    wpOp P ops Q i (RPost ops i r r (.mem s p) B w0 a w who) a w := by
  refine rol_wp ho hw ?_
  unfold Oper.wp
  rw [hr, Oper.upon_enter]
  refine hc.mono fun e w' hR => ?_
  obtain ⟨v', ob', rfl, hg, hob', hp⟩ := h e w' hR
  rw [hd]
  refine ⟨⟨v', by rw [dst_of ho, hd]⟩, hb.grown hg hB hrow, rtag w who r, RKeep.grown hg (fun b e => (hob b e).2), v', ob', put_self _ hs, fun b e => ?_, hp⟩
  rcases hob' with h | ⟨h, hlt⟩
  · rw [h] at e
    obtain ⟨b1, b2⟩ := hob b e
    exact ⟨Nat.lt_of_lt_of_le b1 hg.size, (rtag_old b1).trans b2⟩
  · rw [h] at e
    cases e
    exact ⟨hlt, rtag_new (Nat.le_refl _)⟩
/-- A call whose answer holds new blocks, and blocks of before of a role. -/
theorem rol_callo (ho : ops[i]? = some o) (hw : Region.wanted o (yielded ops a.tmps) = true) {s : Nat} (hd : o.dst = some s) (hs : s < a.tmps.size) {f : Nat} {vs : Array Value} (hr : Sem.run P (execOp a.eval o) w = .ok (.enter f vs) w) {R : Ending → World → Prop} (hc : Calls P f vs w R) {p : World → Value → (Nat → Prop) → Prop}
    (h : ∀ e w', R e w' → ∃ v bs, e = .returned v ∧ Below w.heap.size w w' ∧ (∀ b, bs b → b < w'.heap.size ∧ (w.heap.size ≤ b ∨ b < w.heap.size ∧ who b = r)) ∧ p w' v bs) (hb : Below B w0 w) (hB : B ≤ w.heap.size) :
    wpOp P ops Q i (RPost ops i r ro (.mems s p) B w0 a w who) a w := by
  refine rol_wp ho hw ?_
  unfold Oper.wp
  rw [hr, Oper.upon_enter]
  refine hc.mono fun e w' hR => ?_
  obtain ⟨v, bs, rfl, hb1, hbs, hp⟩ := h e w' hR
  rw [hd]
  refine ⟨⟨v, by rw [dst_of ho, hd]⟩, hb.trans (hb1.mono hB), rtag w who r, RKeep.belowO hb1 r ro who, v, bs, put_self _ hs, fun b e => ?_, hp⟩
  obtain ⟨h1, h2 | ⟨h2, h3⟩⟩ := hbs b e
  · exact ⟨h1, rtag_new h2⟩
  · exact ⟨h1, (rtag_old h2).trans h3⟩
end
/-- Rows in a slot, whose versions may be older than the row of rows. -/
def rwsY (N lo : Nat) (rs : List Rw) : World → Value → (Nat → Prop) → Prop := fun w v bs => ∃ ys, w.ownsRow N 63 2 v rs.length (rwC rs ys) ∧ RwI w lo ys rs ∧ (∀ b, v.ownBlock = some b → bs b) ∧ ∀ j, j < rs.length → ∀ b, (ys.getD j undef).ownBlock = some b → bs b
theorem rwsY_near {N lo : Nat} {rs : List Rw} : ∀ (w w' : World) (v : Value) (bs : Nat → Prop), (∀ b, bs b → w'.heap[b]? = w.heap[b]?) → rwsY N lo rs w v bs → rwsY N lo rs w' v bs := by
  rintro w w' v bs hb ⟨ys, h1, h2, h3, h4⟩
  exact ⟨ys, row_heap h1 fun b e => hb b (h3 b e), ⟨h2.1, fun j hj => row_heap (h2.2 j hj) fun b e => hb b (h4 j hj b e)⟩, h3, h4⟩
theorem bin_add1T {i : Nat} {w : World} (h : i ≤ 1000000) : Sem.run Tryz.prog (binOp .add 3 (.int .i64 (i : Int)) (.int .i64 1)) w = .ok (.int .i64 ((i : Int) + 1)) w := by
  have e : IntKind.i64.wrap ((i : Int) + 1) = (i : Int) + 1 := by rw [IntKind.wrap_i64]; omega
  go_simp
theorem ver_len_le {l : List Rw} {M : Nat} (ol : okR l = true) (p : List UInt8) (hv : ∀ r ∈ l, r.2.length ≤ M) : (rwVer l p).length ≤ M := by
  by_cases h : ∃ r ∈ l, r.1 = p
  · obtain ⟨r, hr, rfl⟩ := h
    obtain ⟨a, b, rfl⟩ := List.append_of_mem hr
    rw [ver_at ol]; exact hv r hr
  · rw [ver_none fun r hr e => h ⟨r, hr, e⟩]; exact Nat.zero_le _
theorem ver_small {l : List Rw} {p : List UInt8} {M : Nat} (hs : ∀ r ∈ l, ∀ x ∈ r.2, x.length ≤ M) : ∀ x ∈ rwVer l p, x.length ≤ M := fun x hx => by
  obtain ⟨r, hr, -, h⟩ := rwAll_mem.1 (ver_mem.1 hx)
  exact hs r hr x h
theorem addE_no {l : List Rw} {n : Nd} (h : (okR l && okN n) = false) : addE l n = (l, 1) := by unfold addE; rw [h]; rfl
theorem addE_has {l : List Rw} {n : Nd} (h : okR l = true) (k : okN n = true) (m : hasN (rwAll l) n = true) : addE l n = (l, 3) := by unfold addE; rw [h, k, m]; rfl
theorem addE_yes {l : List Rw} {n : Nd} (h : okR l = true) (k : okN n = true) (m : hasN (rwAll l) n = false) : addE l n = (rwOf (withN (rwAll l) n), 0) := by unfold addE; rw [h, k, m]; rfl
theorem dropE_no {l : List Rw} {n : Nd} (h : (okR l && okN n) = false) : dropE l n = (l, 1) := by unfold dropE; rw [h]; rfl
theorem dropE_none {l : List Rw} {n : Nd} (h : okR l = true) (k : okN n = true) (m : hasN (rwAll l) n = false) : dropE l n = (l, 2) := by unfold dropE; rw [h, k, m]; rfl
theorem dropE_yes {l : List Rw} {n : Nd} (h : okR l = true) (k : okN n = true) (m : hasN (rwAll l) n = true) : dropE l n = (rwOf (minusN (rwAll l) [n]), 0) := by unfold dropE; rw [h, k, m]; rfl
theorem has_ver {l : List Rw} {p v : List UInt8} : decide (v ∈ rwVer l p) = hasN (rwAll l) (p, v) := by
  unfold hasN; rw [Bool.eq_iff_iff, decide_eq_true_iff, decide_eq_true_iff]; exact ver_mem

set_option maxHeartbeats 1600000 in
theorem tadd_no (V : Value) (l : List Rw) (p v : List UInt8) (w : World) (hV : Rws w V l) (hl : l.length ≤ 10000) (hv : ∀ r ∈ l, r.2.length ≤ 10000) (hp : ∀ r ∈ l, r.1.length ≤ 1000000000) (hs : ∀ r ∈ l, ∀ x ∈ r.2, x.length ≤ 1000000000) (hpl : p.length ≤ 1000000000) (hvl : v.length ≤ 1000000000) (hno : (okR l && okN (p, v)) = false) :
    Calls Tryz.prog 30 #[V, .agg #[.string (mkB p), .string (mkB v)]] w fun e w' => ∃ x, e = .returned (.tuple #[x, .int .i64 (addE l (p, v)).2]) ∧ Rws w' x (addE l (p, v)).1 ∧ Below w.heap.size w w' := by
  rw [addE_no hno]
  obtain ⟨a, c, rfl, h1, h2, -, -⟩ := hV.ex
  unfold maxLen at h2
  obtain ⟨W, g, hW, hg, r0, hb⟩ := boxT w (.string (mkB p)) (.string (mkB v)) 55
  obtain ⟨d0, d1, -, -⟩ := row2 r0
  have km := fun w => nmay_any p v w hpl hvl
  obtain ⟨n, hn⟩ : ∃ n, l.length = n := ⟨_, rfl⟩
  rw [hn] at hl h1 hV ⊢
  obtain ⟨x, hx⟩ : ∃ x, okR l = x := ⟨_, rfl⟩
  rw [hx] at hno
  have SV := Lib.hid hV; have KC := Lib.hid (fun V w h => tcheck_any V l w h (by omega) hp hs); have KO := Lib.hid (fun V w h => town_any V l w h (by omega) (fun r hr => Nat.le_trans (hv r hr) (by decide))); have KM := Lib.hid km; have HW := Lib.hid hW; have HG := Lib.hid hg; have B := Lib.hid hb; have HOK := Lib.hid (show (if okR l = true then (0 : Int) else 1) = if x = true then 0 else 1 by rw [hx])
  clear hV hn hv hp hs hpl hvl km hW hg hb r0 hx
  cases x with
  | false =>
    clear hno
    go_enter Tryz.func30, Tryz.ntmps30
    go_upto_region 1 with fail
    rw [HW.out, HG.out]
    go_wp2_with (first
      | (go_at_call 32; refine (KC.out _ _ (SV.out.below B.out)).mono ?_; rintro e w1 ⟨rfl, hb1⟩; rw [HOK.out]; replace B := Lib.hid (below_step B.out hb1); replace d0 := cell_keep d0 hb1; replace d1 := cell_keep d1 hb1; clear hb1)
      | (go_at_call 52; refine (KO.out _ _ (SV.out.below B.out)).mono ?_; rintro e w2 ⟨v2, rfl, ho, hb2⟩; have HO := Lib.hid ho.rws; replace B := Lib.hid (below_step B.out hb2); clear hb2 ho))
    go_ret2
    exact ⟨_, rfl, HO.out, B.out⟩
  | true =>
    rw [Bool.true_and] at hno
    have HNO := Lib.hid hno; clear hno
    go_enter Tryz.func30, Tryz.ntmps30
    go_upto_region 1 with fail
    rw [HW.out, HG.out]
    go_wp2_with (first
      | (go_at_call 32; refine (KC.out _ _ (SV.out.below B.out)).mono ?_; rintro e w1 ⟨rfl, hb1⟩; rw [HOK.out]; replace B := Lib.hid (below_step B.out hb1); replace d0 := cell_keep d0 hb1; replace d1 := cell_keep d1 hb1; clear hb1)
      | (go_at_call 51; refine (KM.out _).mono ?_; rintro e w1 ⟨rfl, hb1⟩; rw [HNO.out]; replace B := Lib.hid (below_step B.out hb1); replace d0 := cell_keep d0 hb1; replace d1 := cell_keep d1 hb1; clear hb1)
      | (go_at_call 52; refine (KO.out _ _ (SV.out.below B.out)).mono ?_; rintro e w2 ⟨v2, rfl, ho, hb2⟩; have HO := Lib.hid ho.rws; replace B := Lib.hid (below_step B.out hb2); clear hb2 ho))
    go_ret2
    exact ⟨_, rfl, HO.out, B.out⟩

set_option maxHeartbeats 3200000 in
theorem tadd_yes (V : Value) (l : List Rw) (p v : List UInt8) (w : World) (hV : Rws w V l) (hl : l.length ≤ 10000) (hv : ∀ r ∈ l, r.2.length ≤ 10000) (hp : ∀ r ∈ l, r.1.length ≤ 1000000000) (hs : ∀ r ∈ l, ∀ x ∈ r.2, x.length ≤ 1000000000) (hpl : p.length ≤ 1000000000) (hvl : v.length ≤ 1000000000) (ol : okR l = true) (on : okN (p, v) = true) :
    Calls Tryz.prog 30 #[V, .agg #[.string (mkB p), .string (mkB v)]] w fun e w' => ∃ x, e = .returned (.tuple #[x, .int .i64 (addE l (p, v)).2]) ∧ Rws w' x (addE l (p, v)).1 ∧ Below w.heap.size w w' := by
  obtain ⟨E, hE⟩ : ∃ E, addE l (p, v) = E := ⟨_, rfl⟩
  rw [hE]
  have HEH := Lib.hid hE; clear hE
  obtain ⟨a, c, rfl, h1, h2, -, -⟩ := hV.ex
  unfold maxLen at h2
  obtain ⟨W, g, hW, hg, r0, hb⟩ := boxT w (.string (mkB p)) (.string (mkB v)) 55
  obtain ⟨d0, d1, -, -⟩ := row2 r0
  have km := fun w => nmay_any p v w hpl hvl
  obtain ⟨n, hn⟩ : ∃ n, l.length = n := ⟨_, rfl⟩
  rw [hn] at hl h1 hV ⊢
  obtain ⟨us, hus⟩ : ∃ us, rwVer l p = us := ⟨_, rfl⟩
  have hul : us.length ≤ 10000 := by rw [← hus]; exact ver_len_le ol p hv
  have ku := fun V w h => vers16_any V l p w h ol (by omega) (fun r hr => Nat.le_trans (hv r hr) (by decide))
  have kb := fun w a n c h hn => vsearch_any a n c us v w h (by rw [← hus]; exact ver_ok ol p) (by rw [← hus]; exact ver_small hs) (by rw [← hus]; exact ver_pair ol p) hvl (okN_parts on).2 hn
  have hmem : decide (v ∈ us) = hasN (rwAll l) (p, v) := by rw [← hus]; exact has_ver
  rw [hus] at ku
  obtain ⟨fd, hfd⟩ : ∃ b, hasN (rwAll l) (p, v) = b := ⟨_, rfl⟩
  rw [hfd] at hmem
  rw [hmem] at kb
  have SV := Lib.hid hV; have KC := Lib.hid (fun V w h => tcheck_any V l w h (by omega) hp hs); have KO := Lib.hid (fun V w h => town_any V l w h (by omega) (fun r hr => Nat.le_trans (hv r hr) (by decide))); have KM := Lib.hid km; have KU := Lib.hid ku; have KB := Lib.hid kb; have HW := Lib.hid hW; have HG := Lib.hid hg; have B := Lib.hid hb; have RG := Lib.hid r0; have HOK := Lib.hid (show (if okR l = true then (0 : Int) else 1) = 0 by rw [ol]; rfl); have HON := Lib.hid on; have HUS := Lib.hid hus; have HUL := Lib.hid (show us.length ≤ 1000000 by omega); have HL := Lib.hid ol; have HFD := Lib.hid hfd; have HMEM := Lib.hid hmem; have HUL2 := Lib.hid hul
  have kw := fun (vs : List (List UInt8)) (base : Nat) (h3 : vs.length ≤ 1000000) (w : World) (U : Value) (h : Rws w (.slice a n c) l) (hU : w.ownsRow base 9 1 U vs.length (strC vs)) (h4 : base ≤ w.heap.size) => twith_any (.slice a n c) U l p vs base w h hU ol (by omega) (fun r hr => Nat.le_trans (hv r hr) (by decide)) h3 h4
  have KW0 := Lib.hid kw
  clear hV hv hp hs hpl hvl km hW hg hb r0 ku kb hmem hus hul kw
  have e1 : ∀ args w, (callFunc 57 args).run Tryz.prog w = .ok (.enter 57 args) w := enters_of Tryz.func57 (by kernel_rfl) rfl
  have e2 : ∀ args w, (callFunc 56 args).run Tryz.prog w = .ok (.enter 56 args) w := enters_of Tryz.func56 (by kernel_rfl) rfl
  go_enter Tryz.func30, Tryz.ntmps30
  go_upto_region 1 with fail
  rw [HW.out, HG.out]
  go_upto_region 4 with (first
    | (go_at_call 32; refine (KC.out _ _ (SV.out.below B.out)).mono ?_; rintro e w1 ⟨rfl, hb1⟩; rw [HOK.out]; replace B := Lib.hid (below_step B.out hb1); replace d0 := cell_keep d0 hb1; replace d1 := cell_keep d1 hb1; replace RG := Lib.hid (row_keepB RG.out hb1); clear hb1)
    | (go_at_call 51; refine (KM.out _).mono ?_; rintro e w1 ⟨rfl, hb1⟩; rw [HON.out]; replace B := Lib.hid (below_step B.out hb1); replace d0 := cell_keep d0 hb1; replace d1 := cell_keep d1 hb1; replace RG := Lib.hid (row_keepB RG.out hb1); clear hb1)
    | (go_at_call 53; refine (KU.out _ _ (SV.out.below B.out)).mono ?_; rintro e w1 ⟨U, rfl, hown, hb1⟩; have HU := Lib.hid (row_base hown B.out.size); replace B := Lib.hid (below_step B.out hb1); replace d0 := cell_keep d0 hb1; replace d1 := cell_keep d1 hb1; replace RG := Lib.hid (row_keepB RG.out hb1); clear hb1 hown))
  obtain ⟨au, cu, rfl, hsu⟩ := stsO HU.out
  obtain ⟨m, hm⟩ : ∃ m, us.length = m := ⟨_, rfl⟩
  have HM := Lib.hid hm
  rw [hm] at hsu
  have kb2 := fun w h => KB.out w au m cu h (by have := HUL2.out; omega)
  have SU := Lib.hid hsu; have KB2 := Lib.hid kb2
  rw [hm] at HU ⊢
  clear hm hsu kb2
  cases fd with
  | true =>
    have HE := Lib.hid (show addE l (p, v) = (l, 3) from addE_has HL.out HON.out HFD.out)
    obtain rfl : E = (l, 3) := by rw [← HEH.out]; exact HE.out
    go_wp2_with (first
      | (go_at_call 54; refine (KB2.out _ SU.out).mono ?_; rintro e w1 ⟨⟨i, rfl, hi, hI⟩, hb1⟩; replace B := Lib.hid (below_step B.out hb1); clear hb1 hI)
      | (go_at_call 52; refine (KO.out _ _ (SV.out.below B.out)).mono ?_; rintro e w2 ⟨v2, rfl, ho, hb2⟩; have HO := Lib.hid ho.rws; replace B := Lib.hid (below_step B.out hb2); clear hb2 ho))
    go_ret2
    exact ⟨_, rfl, HO.out, B.out⟩
  | false =>
    go_upto_region 7 with (go_at_call 54; refine (KB2.out _ SU.out).mono ?_; rintro e W5 ⟨⟨i, rfl, hi, hI⟩, hb1⟩; have HFI := Lib.hid hI; replace B := Lib.hid (below_step B.out hb1); replace HU := Lib.hid (ownsRow_belowB HU.out hb1); replace RG := Lib.hid (row_keepB RG.out hb1); clear hb1 hI)
    obtain ⟨R, hR⟩ : ∃ R, rwWith l p (us.take i ++ v :: us.drop i) = R := ⟨_, rfl⟩
    have hcut : insV us v = (us.take i ++ v :: us.drop i) := ins_cut (by have := HM.out; omega) HFI.out
    have hRE : R = rwOf (withN (rwAll l) (p, v)) := by
      rw [← hR, ← hcut, ← HUS.out]; exact add_is HL.out HON.out HFD.out
    have HE := Lib.hid (show addE l (p, v) = (R, 0) by rw [hRE]; exact addE_yes HL.out HON.out HFD.out)
    obtain rfl : E = (R, 0) := by rw [← HEH.out]; exact HE.out
    obtain ⟨U, hUU⟩ : ∃ U, Value.slice au m cu = U := ⟨_, rfl⟩
    rw [hUU] at HU ⊢
    rw [← HM.out] at HU
    obtain ⟨N0, hN0⟩ : ∃ N, w.heap.size = N := ⟨_, rfl⟩
    have HN0 := Lib.hid hN0
    have HNS := Lib.hid (show N0 ≤ W5.heap.size by rw [← hN0]; exact B.out.size)
    have KW := Lib.hid (fun w U h hU h4 => KW0.out (us.take i ++ v :: us.drop i) N0 (by have := HUL2.out; have := HM.out; rw [ins_len us v (by omega)]; omega) w U h hU h4)
    rw [hR] at KW
    have HI := Lib.hid (show i ≤ us.length by have := HM.out; omega)
    rw [hN0] at HU B
    clear hR hcut hRE hUU hN0 hi
    refine rol_run (by kernel_rfl) [[], [], [1], [], [], [], [5], [5, 6], [3, 4, 5, 6, 7], [0, 1, 2, 3, 4, 5, 6, 7, 8], [0, 1, 2, 3, 4, 5, 6, 7, 8, 9], [0, 1, 2, 3, 4, 5, 6, 7, 8, 9, 10]] (by kernel_rfl) [33, 34, 35, 36, 37, 38, 39, 40, 41, 42, 4, 5] [[], [], [1, 12], [14], [], [], [5, 12], [6], [3, 4, 7, 13], [0, 2, 8], [9], []] [0, 0, 0, 0, 0, 0, 0, 2, 1, 1, 1, 0, 3, 1, 0] [0, 0, 0, 0, 0, 0, 0, 0, 1, 0, 0, 0] [1000, 1000, 1000, 1000, 1000, 1000, 1000, 8, 9, 1000, 1000, 1000, 1000, 8, 1000] [.val 33 (.slice a n c), .val 34 (.pointer (some ⟨g, 0, none⟩)), .val 35 (.string (mkB p)), .val 36 (U), .val 37 (.int .i64 (i : Int)), .val 38 (.pointer (some ⟨g, 1, none⟩)), .val 39 (.string (mkB v)), .mem 40 (blkG 9 #[.string (mkB v)] 1), .mem 41 (rowG N0 9 1 (us.take i ++ v :: us.drop i).length (strC (us.take i ++ v :: us.drop i))), .mems 42 (rwsY N0 N0 R), .mems 4 (rwsY N0 N0 R), .val 5 (.int .i64 0), .box (g) (.cells #[.string (mkB p), .string (mkB v)] 55), .mem 6 (rowX U N0 9 1 us.length (strC us)), .val 6 U] (by kernel_rfl) ?_ (N0) (W5.heap.size) rfl B.out rfl (fun k => if k = g then 3 else 1) ?_ ?_ ?_
    · intro j hj
      have hj3 : j < 15 := hj
      have hj2 : j = 0 ∨ j = 1 ∨ j = 2 ∨ j = 3 ∨ j = 4 ∨ j = 5 ∨ j = 6 ∨ j = 7 ∨ j = 8 ∨ j = 9 ∨ j = 10 ∨ j = 11 ∨ j = 12 ∨ j = 13 ∨ j = 14 := by omega
      clear hj hj3
      rcases hj2 with rfl | rfl | rfl | rfl | rfl | rfl | rfl | rfl | rfl | rfl | rfl | rfl | rfl | rfl | rfl
      · exact trivial
      · exact trivial
      · exact trivial
      · exact trivial
      · exact trivial
      · exact trivial
      · exact trivial
      · exact blkG_near
      · exact rowG_near
      · exact rwsY_near
      · exact rwsY_near
      · exact trivial
      · exact trivial
      · exact rowX_near
      · exact trivial
    · intro j hj0 hj
      have hj1 : 12 ≤ j := hj0
      have hj3 : j < 15 := hj
      have hj2 : j = 12 ∨ j = 13 ∨ j = 14 := by omega
      clear hj0 hj hj1 hj3
      rcases hj2 with rfl | rfl | rfl
      · exact ⟨RG.out, if_pos rfl⟩
      · exact ⟨_, _, rfl, fun b q => ⟨(own_lt HU.out q).2, if_neg (fun e => own_nebox HU.out RG.out (by decide) (by rw [← e]; exact q))⟩, HU.out, rfl⟩
      · exact rfl
    · intro i hi a wx who hG hF
      have hz : a.tmps.size = 43 := hG.size
      have hi3 : i < 12 := hi
      have hi2 : i = 0 ∨ i = 1 ∨ i = 2 ∨ i = 3 ∨ i = 4 ∨ i = 5 ∨ i = 6 ∨ i = 7 ∨ i = 8 ∨ i = 9 ∨ i = 10 ∨ i = 11 := by omega
      clear hi hi3
      rcases hi2 with rfl | rfl | rfl | rfl | rfl | rfl | rfl | rfl | rfl | rfl | rfl | rfl
      · exact rol_val rfl rfl rfl (by rw [hz]; decide) (ex_move (Or.inl rfl) (eval_slot ((hG.slots 0 (by decide)).trans rfl))) hG.below
      · exact rol_val rfl rfl rfl (by rw [hz]; decide) (ex_field rfl (eval_slot ((hG.slots 3 (by decide)).trans rfl)) (by go_simp)) hG.below
      · exact rol_val rfl rfl rfl (by rw [hz]; decide) (ex_load rfl (eval_slot (hF 1 (by decide))) (ld_strT (row2 (hF 12 (by decide)).1).1)) hG.below
      · exact rol_val rfl rfl rfl (by rw [hz]; decide) (ex_move (Or.inl rfl) (eval_slot (hF 14 (by decide)))) hG.below
      · exact rol_val rfl rfl rfl (by rw [hz]; decide) (ex_move (Or.inl rfl) (eval_slot ((hG.slots 7 (by decide)).trans rfl))) hG.below
      · exact rol_val rfl rfl rfl (by rw [hz]; decide) (ex_field rfl (eval_slot ((hG.slots 3 (by decide)).trans rfl)) (by go_simp)) hG.below
      · exact rol_val rfl rfl rfl (by rw [hz]; decide) (ex_load rfl (eval_slot (hF 5 (by decide))) (ld_strT (row2 (hF 12 (by decide)).1).2.1)) hG.below
      · exact rol_newO rfl rfl rfl (by rw [hz]; decide) (x := .cells #[.string (mkB v)] 9) (v := .slice (some ⟨wx.heap.size, 0, none⟩) 1 1) (ex_slice rfl (vs := #[(0, .string (mkB v))]) (by simp only [List.map_toArray, List.map_cons, List.map_nil, eval_slot (hF 6 (by decide))]) (by go_simp)) ⟨_, rfl, rfl, heap_alloc_new _ _⟩ hG.below (Nat.le_trans HNS.out hG.new)
      · obtain ⟨u7, ob7, hv7, hob7, b7, rfl, rfl, hh7⟩ := hF 7 (by decide)
        obtain ⟨_, obx, -, hobx, hrx, rfl⟩ := hF 13 (by decide)
        refine rol_callg rfl rfl rfl (by rw [hz]; decide) (ex_call rfl (by simp [eval_slot (hF 3 (by decide)), eval_slot (hF 4 (by decide)), eval_slot hv7]) e1) (tins_any U us i v N0 b7 wx hrx HI.out hh7 (fun q => by have h1 := (hobx b7 q).2; have h2 := (hob7 b7 rfl).2; rw [h1] at h2; cases h2) HUL.out (Nat.le_trans HNS.out hG.new)) ?_ hobx hG.below (Nat.le_trans HNS.out hG.new) (fun b q => (own_lt hrx q).1)
        rintro e w1 ⟨v', rfl, hown, hgr, hor⟩
        exact ⟨v', _, rfl, hgr, hor, hown, rfl⟩
      · obtain ⟨ui, obi, hvi, hobi, hri, rfl⟩ := hF 8 (by decide)
        refine rol_callo rfl rfl rfl (by rw [hz]; decide) (ex_call rfl (by simp [eval_slot (hF 0 (by decide)), eval_slot (hF 2 (by decide)), eval_slot hvi]) e2) (KW.out _ _ (SV.out.below (by rw [HN0.out]; exact hG.below)) hri (Nat.le_trans HNS.out hG.new)) ?_ hG.below (Nat.le_trans HNS.out hG.new)
        rintro e w1 ⟨v', ys, rfl, hown, hI, hbk, hb1⟩
        refine ⟨v', fun b => v'.ownBlock = some b ∨ ∃ j, j < R.length ∧ (ys.getD j undef).ownBlock = some b, rfl, hb1, ?_, ys, row_base hown (Nat.le_trans HNS.out hG.new), hI, fun b q => .inl q, fun j hj b q => .inr ⟨j, hj, q⟩⟩
        rintro b (q | ⟨j, hj, q⟩)
        · exact ⟨(hown.lt b q).2, .inl (hown.lt b q).1⟩
        · rcases hbk j hj b q with h5 | h5
          · exact ⟨((hI.2 j hj).lt b q).2, .inl h5⟩
          · exact ⟨((hI.2 j hj).lt b q).2, .inr (hobi b h5)⟩
      · exact rol_moves rfl rfl rfl (by rw [hz]; decide) (Or.inr rfl) (hF 9 (by decide)) hG.below
      · exact rol_val rfl rfl rfl (by rw [hz]; decide) (ex_move (Or.inr rfl) rfl) hG.below
    · intro a wx who hG hF
      obtain ⟨v4, bs4, fv4, fo4, fp4⟩ := hF 10 (of_decide_eq_true (by kernel_rfl)) (of_decide_eq_true (by kernel_rfl))
      replace fv4 : a.tmps.getD 4 undef = v4 := eval_slot (s := 4) fv4
      have fv5 : a.tmps.getD 5 undef = .int .i64 0 := eval_slot (s := 5) (hF 11 (of_decide_eq_true (by kernel_rfl)) (of_decide_eq_true (by kernel_rfl)))
      have hbx := hG.below
      have hnx := hG.new
      rw [hG.frame]
      simp only [List.foldl_cons, List.foldl_nil, List.setIfInBounds_toArray, List.set_cons_zero, List.set_cons_succ]
      generalize a.tmps.getD 33 undef = u33
      generalize a.tmps.getD 34 undef = u34
      generalize a.tmps.getD 35 undef = u35
      generalize a.tmps.getD 36 undef = u36
      generalize a.tmps.getD 37 undef = u37
      generalize a.tmps.getD 38 undef = u38
      generalize a.tmps.getD 39 undef = u39
      generalize a.tmps.getD 40 undef = u40
      generalize a.tmps.getD 41 undef = u41
      generalize a.tmps.getD 42 undef = u42
      rw [fv4]
      rw [fv5]
      clear hF hG fv4 fv5
      have HRW := Lib.hid (show Rws wx v4 R from by obtain ⟨ys, q1, q2, -, -⟩ := fp4; exact rws_of q1 q2); have HBN := Lib.hid hbx
      clear fo4 fp4 hbx hnx
      go_wp2
      go_ret2
      exact ⟨_, rfl, HRW.out, by rw [HN0.out]; exact HBN.out⟩
theorem tadd_any (V : Value) (l : List Rw) (p v : List UInt8) (w : World) (hV : Rws w V l) (hl : l.length ≤ 10000) (hv : ∀ r ∈ l, r.2.length ≤ 10000) (hp : ∀ r ∈ l, r.1.length ≤ 1000000000) (hs : ∀ r ∈ l, ∀ x ∈ r.2, x.length ≤ 1000000000) (hpl : p.length ≤ 1000000000) (hvl : v.length ≤ 1000000000) :
    Calls Tryz.prog 30 #[V, .agg #[.string (mkB p), .string (mkB v)]] w fun e w' => ∃ x, e = .returned (.tuple #[x, .int .i64 (addE l (p, v)).2]) ∧ Rws w' x (addE l (p, v)).1 ∧ Below w.heap.size w w' := by
  cases h : (okR l && okN (p, v)) with
  | false => exact tadd_no V l p v w hV hl hv hp hs hpl hvl h
  | true =>
    rw [Bool.and_eq_true] at h
    exact tadd_yes V l p v w hV hl hv hp hs hpl hvl h.1 h.2

end Go.Proofs.YtlbibgofhhdgoaaGreat

namespace Go.Proofs.YtlbibgofhhdgoaaGreat
open Go.RowKit
set_option linter.unusedVariables false
set_option maxRecDepth 100000

theorem blk_nds {w : World} {b : Nat} {p v : List UInt8} (hh : w.heap[b]? = some (.cells #[.string (mkB p), .string (mkB v)] 55 (0, 0))) : Nds w (.slice (some ⟨b, 0, none⟩) 1 1) [(p, v)] := by
  obtain ⟨c0, c1, _, _⟩ := row2 hh
  exact ⟨some ⟨b, 0, none⟩, 1, rfl, Nat.le_refl _, by unfold maxLen; omega, (fun h => by cases h), fun _ => ⟨b, 0, rfl, (Array.getElem?_eq_some_iff.1 hh).1, fun j hj => by
    have hj2 : j = 0 := by simp at hj; omega
    subst hj2
    exact ⟨c0, c1⟩⟩⟩
theorem run_app_ndT {w : World} {base n : Nat} {v : Value} {K : List Nd} (hown : w.ownsRow base 55 2 v n (ndsC K)) {ad : Addr} {m c : Nat} {L : List Nd} (hN : Nds w (.slice (some ad) m c) L) (hlen : n + m ≤ 200000000) (hbase : base ≤ w.heap.size) (t : TypeId) :
    ∃ v' w', (Builtin.append_ #[22, 22] t #[v, .slice (some ad) m c]).run Tryz.prog w = .ok v' w' ∧ w'.ownsRow base 55 2 v' (n + m) (ndsC (K ++ L)) ∧ w.grownBy w' v.ownBlock := by
  obtain ⟨i, hi, hz, hsize, hby⟩ := info_parts Tryz.info_node
  obtain ⟨v', w', hr, h2, h3, _, _⟩ := run_append_own_at (P := Tryz.prog) w base 22 t 55 i (.agg #[.string ByteArray.empty, .string ByteArray.empty]) 2 32 Tryz.underlying22 hi hz hsize hby rfl (by decide) v n _ hown ad m c (ndsC L) (by rw [ndsC_len, hN.lenE.1]) (hN.src ad rfl) (fun u hu => List.all_eq_true.1 (ndsC_one L) u hu) (by unfold maxLen; omega) (by omega) hbase
  rw [← ndsC_app] at h2
  exact ⟨v', w', hr, h2, h3⟩
section
variable {wr : World} {ops : Array Oper} {rest : List Oper} {o : Oper} {a : Act} {Q : Exit → Act → World → Prop}
/-- 'l = append(l, n)', l the call's own: the node has just been laid in a block of its own. -/
theorem wpList_push_ndT (hgd : o.guard = none) (s x : Operand) (ho : o.op = .call { callee := .builtin .append, args := #[s, x], argTypes := #[22, 22] })
    (base : Nat) (V : Value) (K : List Nd) (n : Nat) (hs : a.eval s = V) (hown : wr.ownsRow base 55 2 V n (ndsC K)) (p v : List UInt8) (N : Nat) (hN : wr.heap.size = N) (hx : a.eval x = .slice (some ⟨N, 0, none⟩) 1 1) (hlen : n ≤ 100000000) (hbase : base ≤ wr.heap.size)
    (h : ∀ a' c' w', w'.ownsRow base 55 2 (.slice a' (n + 1) c') (n + 1) (ndsC (K ++ [(p, v)])) → wr.grownBy w' V.ownBlock → wpList Tryz.prog ops Q rest (a.put o.dst (.slice a' (n + 1) c')) w') :
    wpList Tryz.prog ops Q (o :: rest) a (wr.alloc (.cells #[.string (mkB p), .string (mkB v)] 55)) := by
  subst hN
  refine wpList_plain hgd fun K' hK' => ?_
  obtain ⟨v', w', hr, h2, h3⟩ := run_app_ndT (hown.alloc (.cells #[.string (mkB p), .string (mkB v)] 55)) (blk_nds (heap_alloc_new wr (.cells #[.string (mkB p), .string (mkB v)] 55))) (m := 1) (c := 1) (by omega) (by simp; omega) o.type
  obtain ⟨a', c', rfl⟩ := own_form h2
  have hk := h a' c' w' h2 ((World.grownBy_alloc wr _ _).trans h3)
  unfold Oper.wp
  simp [execOp, ho, resolve, invoke, builtin, hs, hx, hr, Result.andThen]
  exact hK' _ _ hk
end
theorem grown_box {w w' : World} {N n g : Nat} {e t : TypeId} {size : Nat} {v : Value} {xs : List Value} {cs : Array Value} (hown : w.ownsRow N e size v n xs) (hg : w.grownBy w' v.ownBlock) (hne : e ≠ t) (hb : w.heap[g]? = some (.cells cs t (0, 0))) : w'.heap[g]? = some (.cells cs t (0, 0)) :=
  (hg.block g (Array.getElem?_eq_some_iff.1 hb).1 fun q => own_nebox hown hb hne q.symm).trans hb
theorem all_take {l : List Rw} {k : Nat} (h : k < l.length) : rwAll (l.take (k + 1)) = rwAll (l.take k) ++ ((l.getD k zR).2.map fun v => ((l.getD k zR).1, v)) := by
  rw [List.take_succ_eq_append_getElem h, rwAll_app, rwAll_one, gd_at h]
theorem all_len {M : Nat} : ∀ {l : List Rw}, (∀ r ∈ l, r.2.length ≤ M) → (rwAll l).length ≤ l.length * M
  | [], _ => by simp [rwAll]
  | r :: l, h => by
    have ih := all_len (l := l) fun x hx => h x (List.mem_cons_of_mem _ hx)
    have h1 := h r List.mem_cons_self
    rw [rwAll_cons, List.length_append, List.length_map, List.length_cons, Nat.succ_mul]; omega
theorem allE_no {l : List Rw} (h : okR l = false) : allE l = ([], 1) := by unfold allE; rw [h]; rfl
theorem allE_yes {l : List Rw} (h : okR l = true) : allE l = (rwAll l, 0) := by unfold allE; rw [h]; rfl

/-! ### The last version -/
theorem bestE_no {l : List Rw} {p : List UInt8} (h : (okR l && pathB p) = false) : bestE l p = ([], 1) := by unfold bestE; rw [h]; rfl
theorem bestE_none {l : List Rw} {p : List UInt8} (h : okR l = true) (k : pathB p = true) (m : rwVer l p = []) : bestE l p = ([], 2) := by unfold bestE; rw [h, k, m]; rfl
theorem bestE_yes {l : List Rw} {p : List UInt8} (h : okR l = true) (k : pathB p = true) (m : rwVer l p ≠ []) : bestE l p = (lastV (rwVer l p), 0) := by unfold bestE; rw [h, k, if_neg m]; rfl

set_option maxHeartbeats 3200000 in
theorem tbest_any (V : Value) (l : List Rw) (p : List UInt8) (w : World) (hV : Rws w V l) (hl : l.length ≤ 10000) (hp : ∀ r ∈ l, r.1.length ≤ 1000000000) (hs : ∀ r ∈ l, ∀ x ∈ r.2, x.length ≤ 1000000000) (hpl : p.length ≤ 1000000000) :
    Calls Tryz.prog 31 #[V, .string (mkB p)] w fun e w' => e = .returned (.tuple #[.string (mkB (bestE l p).1), .int .i64 (bestE l p).2]) ∧ Below w.heap.size w w' := by
  obtain ⟨Al, cl, rfl, hl1, hl2, -, -⟩ := hV.ex
  unfold maxLen at hl2
  have kc := fun V w h => tcheck_any V l w h (by omega) hp hs
  have km := fun w => pmay_b p w hpl
  obtain ⟨n, hn⟩ : ∃ n, l.length = n := ⟨_, rfl⟩
  obtain ⟨E, hE⟩ : ∃ E, bestE l p = E := ⟨_, rfl⟩
  rw [hE]
  have HEH := Lib.hid hE; clear hE
  rw [hn] at hl hl1 hV ⊢
  have SV := Lib.hid hV; have HN := Lib.hid hn; have KC := Lib.hid kc
  cases ho : okR l with
  | false =>
    have HE := Lib.hid (show (if okR l = true then (0 : Int) else 1) = 1 by rw [ho]; rfl)
    obtain rfl : E = ([], 1) := by rw [← HEH.out]; exact bestE_no (by rw [ho]; rfl)
    clear hV hn hp hs kc ho km
    go_enter Tryz.func31, Tryz.ntmps31
    go_wp2_with (go_at_call 32; refine (KC.out _ _ SV.out).mono ?_; rintro e w1 ⟨rfl, hb1⟩; rw [HE.out]; have B := Lib.hid hb1; clear hb1)
    go_ret2
    exact ⟨rfl, B.out⟩
  | true =>
    have HE := Lib.hid (show (if okR l = true then (0 : Int) else 1) = 0 by rw [ho]; rfl)
    cases hpo : pathB p with
    | false =>
      obtain rfl : E = ([], 1) := by rw [← HEH.out]; exact bestE_no (by rw [ho, hpo]; rfl)
      rw [hpo] at km
      have KM := Lib.hid km
      clear hV hn hp hs kc ho km hpo
      go_enter Tryz.func31, Tryz.ntmps31
      go_wp2_with (first
        | (go_at_call 32; refine (KC.out _ _ SV.out).mono ?_; rintro e w1 ⟨rfl, hb1⟩; rw [HE.out]; have B := Lib.hid hb1; clear hb1)
        | (go_at_call 33; refine (KM.out _).mono ?_; rintro e w1 ⟨rfl, hb1⟩; replace B := Lib.hid (below_step B.out hb1); clear hb1))
      go_ret2
      exact ⟨rfl, B.out⟩
    | true =>
      have ks := fun w h => seek16_any Al n cl l p w h ho (by omega)
      rw [hpo] at km
      have KM := Lib.hid km; have KS := Lib.hid ks; have HO := Lib.hid ho; have HPO := Lib.hid hpo
      clear hV hn hp hs kc ho km hpo ks
      go_enter Tryz.func31, Tryz.ntmps31
      go_upto_region 4 with (first
        | (go_at_call 32; refine (KC.out _ _ SV.out).mono ?_; rintro e w1 ⟨rfl, hb1⟩; rw [HE.out]; have B := Lib.hid hb1; clear hb1)
        | (go_at_call 33; refine (KM.out _).mono ?_; rintro e w1 ⟨rfl, hb1⟩; replace B := Lib.hid (below_step B.out hb1); clear hb1)
        | (go_at_call 58; refine (KS.out _ (SV.out.below B.out)).mono ?_; rintro e w1 ⟨⟨i, rfl, hi, hI⟩, hb1⟩; have HI := Lib.hid hI; replace B := Lib.hid (below_step B.out hb1); clear hb1 hI))
      cases hf : foundP l p i with
      | false =>
        obtain rfl : E = ([], 2) := by rw [← HEH.out]; exact bestE_none HO.out HPO.out (ver_not (by rw [HN.out]; exact hi) HO.out HI.out hf)
        clear hf
        go_wp2
        go_ret2
        exact ⟨rfl, B.out⟩
      | true =>
        have hil := (found_eq hf).1
        have hvr := ver_found HO.out hf
        obtain ⟨b, off, ay, ny, cy, rfl, c0, c1, hsy⟩ := (SV.out.below B.out).at i hil
        have hfit := ((okR_iff.1 HO.out).1 _ (gd_in (z := zR) hil)).2
        have hne := (fitV_iff.1 hfit).2.2
        rw [← hvr] at hsy hne
        have hny := hsy.lenE
        have hpos := List.length_pos_iff.2 hne
        have hin : (i : Int) < (n : Int) := by have := HN.out; omega
        obtain ⟨bz, oz, rfl, hcz⟩ := hsy.atT (ny - 1) (by omega)
        have hlast : (rwVer l p).getD (ny - 1) [] = lastV (rwVer l p) := by unfold lastV; rw [hny.1]
        rw [hlast] at hcz
        obtain ⟨m, hm⟩ : ∃ m, ny - 1 = m := ⟨_, rfl⟩
        rw [hm] at hcz
        have hnm : (ny : Int) - 1 = (m : Int) := by omega
        have hmn : (m : Int) < (ny : Int) := by omega
        obtain ⟨-, hny1, hny2⟩ := hny
        unfold maxLen at hny2
        obtain ⟨x, hx⟩ : ∃ x, lastV (rwVer l p) = x := ⟨_, rfl⟩
        obtain rfl : E = (x, 0) := by rw [← HEH.out, ← hx]; exact bestE_yes HO.out HPO.out hne
        rw [hx] at hcz
        clear hf hil hvr c0 hsy hfit hne hpos hlast hm hx
        go_wp2
        go_ret2
        exact ⟨rfl, B.out⟩
end Go.Proofs.YtlbibgofhhdgoaaGreat
