/- THE TEXTS OF OctU TalA TalB TalC TalD TalE TalF TalG TalH TalI TalJ: Contracts of the library's slices of texts at this translation, by the shelf's own command, in plain words. Rows of versions in memory: of others, and of the call's own; what operations of a region leave of them. Copies of texts; what operations leave of rows; rows in memory of their own: of the program. The order of two versions; which versions, and which rows, may be: of the program. Which rows may be: of the program. Are rows the same: of the program and of the document. Where a path's row is, a path's versions, where a version is: of the program. A version put into a path's versions, and taken out of them: the library's Insert and Delete. Rows where a path has these versions in the stead of its own: of the program. Rows with a node, and without it: of the program. Rows' nodes, a path's last version: of the program. -/
import Derived.Shelf.SlicesE.Delete
import Derived.Shelf.SlicesE.Clone
import Derived.Shelf.Spec.SlicesInsertGrow
import Derived.Ground.SlgnProg
import Derived.Ground.Names2Prog
import Derived.Shelf.SlGeneric
import Derived.Test.YtlbibgofhhdgoaaGreatProg
import Derived.Test.YtlbibgofhhdgoaaGreatTalM
import Derived.Test.YtlbibgofhhdgoaaGreatStoA
import Derived.Test.YtlbibgofhhdgoaaGreatRolM
import Derived.ArgAppend
import Derived.Lib.RowBridge
namespace Go.Proofs
open Go.Shelf
end Go.Proofs

namespace Go.Proofs.YtlbibgofhhdgoaaGreat
open Go.RowKit
set_option linter.unusedVariables false
set_option maxRecDepth 100000

/-- A slice of rows, in memory: nil, empty, or cells that hold them, two each. -/
structure Rws (w : World) (v : Value) (rs : List Rw) : Prop where
  ex : ∃ a c, v = .slice a rs.length c ∧ rs.length ≤ c ∧ c ≤ maxLen ∧ (a = none → c = 0) ∧ (0 < rs.length → ∃ b off, a = some ⟨b, off, none⟩ ∧ ∀ j, j < rs.length → ∃ a' n' c',
    w.cell? ⟨b, off + j * 2, none⟩ = some (.string (mkB (rs.getD j zR).1)) ∧ w.cell? ⟨b, off + j * 2 + 1, none⟩ = some (.slice a' n' c') ∧ Strs w (.slice a' n' c') (rs.getD j zR).2)
theorem Rws.below {w w' : World} {v : Value} {rs : List Rw} (h : Rws w v rs) (hb : Below w.heap.size w w') : Rws w' v rs := by
  obtain ⟨a, c, hv, h1, h2, hn, h3⟩ := h.ex
  refine ⟨a, c, hv, h1, h2, hn, fun hp => ?_⟩
  obtain ⟨b, off, ha, hc⟩ := h3 hp
  refine ⟨b, off, ha, fun j hj => ?_⟩
  obtain ⟨a', n', c', h4, h5, h6⟩ := hc j hj
  exact ⟨a', n', c', cell_keep h4 hb, cell_keep h5 hb, h6.belowB hb⟩
theorem Rws.at {w : World} {a : Option Addr} {n c : Nat} {rs : List Rw} (h : Rws w (.slice a n c) rs) (j : Nat) (hj : j < rs.length) : ∃ b off a' n' c', a = some ⟨b, off, none⟩ ∧ w.cell? ⟨b, off + j * 2, none⟩ = some (.string (mkB (rs.getD j zR).1)) ∧ w.cell? ⟨b, off + j * 2 + 1, none⟩ = some (.slice a' n' c') ∧ Strs w (.slice a' n' c') (rs.getD j zR).2 := by
  obtain ⟨a0, c0, hv, _, _, _, h3⟩ := h.ex
  injection hv with e1 e2 e3
  subst e1
  obtain ⟨b, off, ha, hc⟩ := h3 (by omega)
  obtain ⟨a', n', c', h4, h5, h6⟩ := hc j hj
  exact ⟨b, off, a', n', c', ha, h4, h5, h6⟩
theorem Rws.lenT {w : World} {a : Option Addr} {n c : Nat} {rs : List Rw} (h : Rws w (.slice a n c) rs) : rs.length = n ∧ n ≤ c ∧ c ≤ maxLen := by
  obtain ⟨_, _, hv, h1, h2, _⟩ := h.ex
  injection hv with e1 e2 e3
  subst e2 e3; exact ⟨rfl, h1, h2⟩
theorem Rws.back {w : World} {A : Option Addr} {n c : Nat} {l : List Rw} (h : Rws w (.slice A n c) l) {i : Nat} (hi : i ≤ n) : ∃ A', sliced A i n c 2 = .slice A' (n - i) (c - i) ∧ ∀ w', Rws w' (.slice A n c) l → Rws w' (.slice A' (n - i) (c - i)) (l.drop i) := by
  refine ⟨_, rfl, fun w' h' => ?_⟩
  obtain ⟨hl, hnc, -⟩ := h.lenT
  obtain ⟨_, _, hv, h1, h2, h3, h4⟩ := h'.ex
  injection hv with e1 e2 e3
  subst e1 e3
  have hli : (l.drop i).length = n - i := by rw [List.length_drop, hl]
  refine ⟨_, c - i, by rw [hli], by omega, by omega, fun e => ?_, fun hp => ?_⟩
  · by_cases hc : c = i
    · omega
    · rw [if_neg hc] at e
      have := h3 (by cases A with | none => rfl | some x => cases e)
      omega
  · rw [hli] at hp
    obtain ⟨b, off, rfl, hc⟩ := h4 (by omega)
    refine ⟨b, off + i * 2, ?_, fun j hj => ?_⟩
    · rw [if_neg (by omega)]; simp [addr_add]
    · rw [hli] at hj
      have hg : (l.drop i).getD j zR = l.getD (i + j) zR := by simp [List.getD_eq_getElem?_getD, List.getElem?_drop]
      rw [hg, show off + i * 2 + j * 2 = off + (i + j) * 2 by omega]; exact hc (i + j) (by omega)

/-! ### Rows of the call's own -/
def rwC : List Rw → List Value → List Value
  | r :: rs, y :: ys => .string (mkB r.1) :: y :: rwC rs ys
  | _, _ => []
theorem rwC_app : ∀ {rs : List Rw} {ys : List Value} (ls : List Rw) (zs : List Value), ys.length = rs.length → rwC (rs ++ ls) (ys ++ zs) = rwC rs ys ++ rwC ls zs
  | [], [], _, _, _ => rfl
  | r :: rs, y :: ys, ls, zs, h => by
    have := rwC_app (rs := rs) (ys := ys) ls zs (by simpa using h)
    rw [List.cons_append, List.cons_append, rwC, this, rwC]; rfl
/-- The rows' versions: each a row of texts of the call's own. -/
def RwI (w : World) (lo : Nat) (ys : List Value) (rs : List Rw) : Prop := ys.length = rs.length ∧ ∀ j, j < rs.length → w.ownsRow lo 9 1 (ys.getD j undef) (rs.getD j zR).2.length (strC (rs.getD j zR).2)
theorem RwI.nil (w : World) (lo : Nat) : RwI w lo [] [] := ⟨rfl, fun j hj => absurd hj (Nat.not_lt_zero j)⟩
theorem own_block {w : World} {base : Nat} {e : TypeId} {size : Nat} {v : Value} {n : Nat} {xs : List Value} (h : w.ownsRow base e size v n xs) {b : Nat} (hb : v.ownBlock = some b) : ∃ cs, w.heap[b]? = some (.cells cs e (0, 0)) := by
  rcases h.2 with ⟨rfl, _⟩ | ⟨g, cap, cur, rfl, _, hh, _⟩
  · cases hb
  · have e1 : g = b := Option.some.inj hb
    subst e1; exact ⟨cur, hh⟩
theorem RwI.keep {w w' : World} {lo : Nat} {ys : List Value} {rs : List Rw} (h : RwI w lo ys rs) (hk : ∀ (b : Nat) (cs : Array Value), w.heap[b]? = some (.cells cs 9 (0, 0)) → w'.heap[b]? = w.heap[b]?) : RwI w' lo ys rs :=
  ⟨h.1, fun j hj => row_heap (h.2 j hj) fun b hb => by obtain ⟨cs, hc⟩ := own_block (h.2 j hj) hb; exact hk b cs hc⟩
theorem RwI.below {w w' : World} {lo : Nat} {ys : List Value} {rs : List Rw} (h : RwI w lo ys rs) (hb : Below w.heap.size w w') : RwI w' lo ys rs := h.keep fun b cs hc => hb.block b (Array.getElem?_eq_some_iff.1 hc).1
theorem RwI.base {w : World} {lo lo' : Nat} {ys : List Value} {rs : List Rw} (h : RwI w lo ys rs) (hl : lo' ≤ lo) : RwI w lo' ys rs := ⟨h.1, fun j hj => row_base (h.2 j hj) hl⟩
theorem gd_snoc {α : Type} {l : List α} {x z : α} {j n : Nat} (hn : l.length = n) (hj : j < n + 1) : (l ++ [x]).getD j z = if j = n then x else l.getD j z := by
  rw [List.getD_eq_getElem?_getD, List.getElem?_append]
  by_cases h : j < l.length
  · rw [if_pos h, if_neg (by omega), List.getD_eq_getElem?_getD]
  · have e : j = n := by omega
    rw [if_neg h, if_pos e, e, ← hn, Nat.sub_self]; rfl
theorem RwI.snoc {w : World} {lo : Nat} {ys : List Value} {rs : List Rw} (h : RwI w lo ys rs) {y : Value} {r : Rw} (hy : w.ownsRow lo 9 1 y r.2.length (strC r.2)) : RwI w lo (ys ++ [y]) (rs ++ [r]) := by
  refine ⟨by rw [List.length_append, List.length_append, h.1]; rfl, fun j hj => ?_⟩
  rw [List.length_append, List.length_singleton] at hj
  rw [gd_snoc h.1 hj, gd_snoc rfl hj]
  by_cases e : j = rs.length
  · rw [if_pos e, if_pos e]; exact hy
  · rw [if_neg e, if_neg e]; exact h.2 j (by omega)
theorem RwI.slices {w : World} {lo : Nat} {ys : List Value} {rs : List Rw} (h : RwI w lo ys rs) : (ys.all fun u => u.oneCell') = true := List.all_eq_true.2 fun u hu => by
  obtain ⟨j, hj, rfl⟩ := List.getElem_of_mem hu
  obtain ⟨a, c, e, -⟩ := stsO (h.2 j (by rw [← h.1]; exact hj))
  rw [gd_at hj] at e
  rw [e]; rfl
/-- Rows of the call's own: the row of rows, and each one's versions. -/
def RwO (w : World) (N : Nat) (v : Value) (rs : List Rw) : Prop := ∃ ys, w.ownsRow N 63 2 v rs.length (rwC rs ys) ∧ RwI w N ys rs
theorem RwO.nil (w : World) (N : Nat) : RwO w N (.slice none 0 0) [] := ⟨[], World.ownsRow_nil _ _ _ _, RwI.nil _ _⟩
theorem RwO.below {w w' : World} {N : Nat} {v : Value} {rs : List Rw} (h : RwO w N v rs) (hb : Below w.heap.size w w') : RwO w' N v rs := by
  obtain ⟨ys, h1, h2⟩ := h
  exact ⟨ys, ownsRow_belowB h1 hb, h2.below hb⟩
theorem RwO.base {w : World} {N N' : Nat} {v : Value} {rs : List Rw} (h : RwO w N v rs) (hn : N' ≤ N) : RwO w N' v rs := by
  obtain ⟨ys, h1, h2⟩ := h
  exact ⟨ys, row_base h1 hn, h2.base hn⟩
/-! ### What operations of a region leave -/
/-- Rows in a slot: their blocks among bs. -/
def rwsG (N : Nat) (rs : List Rw) : World → Value → (Nat → Prop) → Prop := fun w v bs => ∃ ys, w.ownsRow N 63 2 v rs.length (rwC rs ys) ∧ RwI w N ys rs ∧ (∀ b, v.ownBlock = some b → bs b) ∧ ∀ j, j < rs.length → ∀ b, (ys.getD j undef).ownBlock = some b → bs b
theorem rwsG_near {N : Nat} {rs : List Rw} : ∀ (w w' : World) (v : Value) (bs : Nat → Prop), (∀ b, bs b → w'.heap[b]? = w.heap[b]?) → rwsG N rs w v bs → rwsG N rs w' v bs := by
  rintro w w' v bs hb ⟨ys, h1, h2, h3, h4⟩
  exact ⟨ys, row_heap h1 fun b e => hb b (h3 b e), ⟨h2.1, fun j hj => row_heap (h2.2 j hj) fun b e => hb b (h4 j hj b e)⟩, h3, h4⟩
theorem rwsG.own {N : Nat} {rs : List Rw} {w : World} {v : Value} {bs : Nat → Prop} (h : rwsG N rs w v bs) : RwO w N v rs := by
  obtain ⟨ys, h1, h2, _⟩ := h
  exact ⟨ys, h1, h2⟩
theorem RwO.toG {w : World} {N N' : Nat} {v : Value} {rs : List Rw} (h : RwO w N v rs) (hn : N' ≤ N) : ∃ bs : Nat → Prop, (∀ b, bs b → N ≤ b ∧ b < w.heap.size) ∧ rwsG N' rs w v bs := by
  obtain ⟨ys, h1, h2⟩ := h
  refine ⟨fun b => v.ownBlock = some b ∨ ∃ j, j < rs.length ∧ (ys.getD j undef).ownBlock = some b, fun b e => ?_, ys, row_base h1 hn, h2.base hn, fun b e => .inl e, fun j hj b e => .inr ⟨j, hj, e⟩⟩
  rcases e with e | ⟨j, hj, e⟩
  · exact h1.lt b e
  · exact (h2.2 j hj).lt b e
end Go.Proofs.YtlbibgofhhdgoaaGreat

namespace Go.Proofs.YtlbibgofhhdgoaaGreat
open Go.RowKit
set_option linter.unusedVariables false
set_option maxRecDepth 100000

theorem ld_strT {w : World} {g i : Nat} {l : List UInt8} (h : w.cell? ⟨g, i, none⟩ = some (.string (mkB l))) : Sem.run Tryz.prog (Instr.loadAt 9 (.pointer (some ⟨g, i, none⟩))) w = .ok (.string (mkB l)) w := by
  go_simp
theorem ld_stsT {w : World} {g i n c : Nat} {a : Option Addr} (h : w.cell? ⟨g, i, none⟩ = some (.slice a n c)) : Sem.run Tryz.prog (Instr.loadAt 61 (.pointer (some ⟨g, i, none⟩))) w = .ok (.slice a n c) w := by
  go_simp
theorem idx_rws {w : World} {b off n c k : Nat} (h : k < n) : (Instr.indexAt 23 (.slice (some ⟨b, off, none⟩) n c) (.int .i64 (k : Int))).run Tryz.prog w = .ok (.pointer (some ⟨b, off + k * 2, none⟩)) w := by
  have h1 : (0 : Int) ≤ (k : Int) := by omega
  have h3 : (k : Int) < (n : Int) := by omega
  go_simp
theorem idx_stsT {w : World} {b off n c k : Nat} (h : k < n) : (Instr.indexAt 61 (.slice (some ⟨b, off, none⟩) n c) (.int .i64 (k : Int))).run Tryz.prog w = .ok (.pointer (some ⟨b, off + k, none⟩)) w := by
  have h1 : (0 : Int) ≤ (k : Int) := by omega
  have h3 : (k : Int) < (n : Int) := by omega
  go_simp
theorem boxT (w : World) (x y : Value) (t : TypeId) : ∃ W g, w.alloc (.cells #[x, y] t) = W ∧ w.heap.size = g ∧ W.heap[g]? = some (.cells #[x, y] t (0, 0)) ∧ Below w.heap.size w W :=
  ⟨_, _, rfl, rfl, heap_alloc_new _ _, (Below.refl _ _).alloc (Nat.le_refl _) _⟩
/-- Rows of before, behind a box that was made. -/
theorem RwO.start {w W : World} {N : Nat} {v : Value} {rs : List Rw} (h : RwO w N v rs) (hb : Below w.heap.size w W) : ∃ bs : Nat → Prop, (∀ b, bs b → b < w.heap.size) ∧ rwsG N rs W v bs := by
  obtain ⟨bs, h1, h2⟩ := h.toG (Nat.le_refl _)
  exact ⟨bs, fun b e => (h1 b e).2, rwsG_near w W v bs (fun b e => hb.block b (h1 b e).2) h2⟩

section
variable {P : Program} {ops : Array Oper} {Q : Exit → Act → World → Prop} {a : Act} {w w0 : World} {who : Nat → Nat} {i B r ro : Nat} {o : Oper}
end
section
variable {ops : Array Oper} {Q : Exit → Act → World → Prop} {a : Act} {w w0 : World} {who : Nat → Nat} {i B r ro : Nat} {o : Oper}
end

end Go.Proofs.YtlbibgofhhdgoaaGreat

namespace Go.Proofs.YtlbibgofhhdgoaaGreat
open Go.RowKit
set_option linter.unusedVariables false
set_option maxRecDepth 100000

set_option maxHeartbeats 400000 in
theorem torder_any (p q : List UInt8) (w : World) (hp : p.length ≤ 1000000000) (hq : q.length ≤ 1000000000) (op : okV p = true) (oq : okV q = true) :
    Calls Tryz.prog 55 #[.string (mkB p), .string (mkB q)] w fun e w' => e = .returned (.int .i64 (cmpT p q)) ∧ Below w.heap.size w w' := by
  have kc := fun w => vcmp_l p q w hp hq op oq
  obtain ⟨C, hC⟩ : ∃ C, cmpT p q = C := ⟨_, rfl⟩
  rw [hC] at kc ⊢
  clear hC
  go_enter Tryz.func55, Tryz.ntmps55
  go_wp2_with (go_at_call 72; refine (kc _).mono ?_; rintro e w1 ⟨rfl, hb1⟩; have B := Lib.hid hb1.toBelow; clear hb1 kc)
  go_ret
  exact ⟨rfl, B.out⟩
theorem vmay_b (p : List UInt8) (w : World) (h : p.length ≤ 1000000000) :
    Calls Tryz.prog 75 #[.string (mkB p)] w fun e w' => e = .returned (.bool (okV p)) ∧ Below w.heap.size w w' := (vmay_l p w h).mono fun _ _ ⟨a, b⟩ => ⟨a, b.toBelow⟩
theorem pmay_b (p : List UInt8) (w : World) (h : p.length ≤ 1000000000) :
    Calls Tryz.prog 33 #[.string (mkB p)] w fun e w' => e = .returned (.bool (pathB p)) ∧ Below w.heap.size w w' := (pmay_l p w h).mono fun _ _ ⟨a, b⟩ => ⟨a, b.toBelow⟩
theorem Strs.atT {w : World} {a : Option Addr} {n c : Nat} {l : List (List UInt8)} (h : Strs w (.slice a n c) l) (j : Nat) (hj : j < l.length) : ∃ b off, a = some ⟨b, off, none⟩ ∧ w.cell? ⟨b, off + j, none⟩ = some (.string (mkB (l.getD j []))) := by
  obtain ⟨a0, c0, hv, _, _, _, h3⟩ := h.ex
  injection hv with e1 e2 e3
  subst e1
  obtain ⟨b, off, ha, _, hc⟩ := h3 (by omega)
  exact ⟨b, off, ha, hc j hj⟩
theorem ltV_ge {a b : List UInt8} {C : Int} (h : cmpT a b = C) : decide (0 ≤ C) = !ltV a b := by
  unfold ltV; rw [h]; by_cases k : 0 ≤ C
  · rw [decide_eq_true k, decide_eq_false (by omega)]; rfl
  · rw [decide_eq_false k, decide_eq_true (by omega)]; rfl

set_option maxHeartbeats 3200000 in
theorem tfit_any (a : Option Addr) (n c : Nat) (l : List (List UInt8)) (w : World) (hU : Strs w (.slice a n c) l) (hs : ∀ x ∈ l, x.length ≤ 1000000000) :
    Calls Tryz.prog 59 #[.slice a n c] w fun e w' => e = .returned (.bool (fitV2 l)) ∧ Below w.heap.size w w' := by
  obtain ⟨hn, h1, h2⟩ := hU.lenE
  unfold maxLen at h2
  obtain ⟨R, hR⟩ : ∃ R, fitV2 l = R := ⟨_, rfl⟩
  rw [hR]
  have hr2 : R = (chainA okV ltV [] l && decide (0 < n)) := by rw [← hR, ← hn]; rfl
  have SU := Lib.hid hU; have HN := Lib.hid hn; have HS := Lib.hid hs; have HR := Lib.hid hr2
  clear hU hn hs hR hr2
  go_enter Tryz.func59, Tryz.ntmps59
  go_wp2
  go_loopw [7] (fun i wr => ∃ k : Nat, k ≤ n ∧ i = .int .i64 k ∧ Hid (∀ j, j < k → chainB okV ltV [] l j = true) ∧ Hid (Below w.heap.size w wr)) (fun i _ => n - (intOf i).toNat)
  case atStart => exact ⟨0, Nat.zero_le _, rfl, Lib.hid fun j hj => absurd hj (Nat.not_lt_zero j), Lib.hid (Below.refl _ _)⟩
  case round =>
    obtain ⟨k, hk, rfl, HM, HB⟩ := hrel
    by_cases hlt : k < n
    · have hkl : k < l.length := by rw [HN.out]; exact hlt
      have hkb : (k : Int) < (n : Int) := by omega
      obtain ⟨b, off, rfl, hc⟩ := (SU.out.belowB HB.out).atT k hkl
      have hp : wr.cell? ⟨b, off + (k - 1), none⟩ = some (.string (mkB (l.getD (k - 1) []))) := by
        obtain ⟨b', off', e, q⟩ := (SU.out.belowB HB.out).atT (k - 1) (by omega)
        cases e; exact q
      obtain ⟨y, hy⟩ : ∃ y, y = l.getD k [] := ⟨_, rfl⟩
      obtain ⟨x, hx⟩ : ∃ x, x = l.getD (k - 1) [] := ⟨_, rfl⟩
      have hys : y.length ≤ 1000000000 := by rw [hy]; exact HS.out _ (gd_in hkl)
      have hxs : x.length ≤ 1000000000 := by rw [hx]; exact HS.out _ (gd_in (by omega))
      have hst : chainB okV ltV [] l k = (okV y && (decide (k = 0) || ltV x y)) := by unfold chainB; rw [← hy, ← hx]
      rw [← hy] at hc
      rw [← hx] at hp
      have hox : 0 < k → okV x = true := fun h0 => by
        have := HM.out (k - 1) (by omega)
        unfold chainB at this
        rw [← hx, Bool.and_eq_true] at this
        exact this.1
      have km := fun w => vmay_b y w hys
      obtain ⟨o, ho⟩ : ∃ o, okV y = o := ⟨_, rfl⟩
      rw [ho] at km hst
      have HST := Lib.hid hst; have HKL := Lib.hid hkl; have HKM := Lib.hid km; have HO := Lib.hid ho; have HOX := Lib.hid hox; have HYS := Lib.hid hys; have HXS := Lib.hid hxs
      clear hy hx hys hxs hst hkl km ho hox
      cases o with
      | false =>
        have hno : R = false := by rw [HR.out, chain_no HKL.out (by rw [HST.out]; rfl)]; rfl
        have HNO := Lib.hid hno; clear hno
        go_wp2_with (go_at_call 75; refine (HKM.out _).mono ?_; rintro e w1 ⟨rfl, hb1⟩; have HB1 := Lib.hid (below_step HB.out hb1); clear hb1)
        go_ret
        exact ⟨by rw [HNO.out]; rfl, HB1.out⟩
      | true =>
        by_cases h0 : k = 0
        · have hz : decide (0 < k) = false := by simp [h0]
          have HM2 : Hid (∀ j, j < k + 1 → chainB okV ltV [] l j = true) := Lib.hid fun j hj => by
            have : j = k := by omega
            rw [this, HST.out, decide_eq_true h0]; rfl
          clear h0
          go_wp2_with (go_at_call 75; refine (HKM.out _).mono ?_; rintro e w1 ⟨rfl, hb1⟩; have HB1 := Lib.hid (below_step HB.out hb1); clear hb1)
          go_roundw
          case rel => exact ⟨k + 1, by omega, by go_num, HM2, HB1⟩
          case measure => simp [intOf]; omega
        · have hk0 : (0 : Int) < (k : Int) := by omega
          obtain ⟨m, hm⟩ : ∃ m, k - 1 = m := ⟨_, rfl⟩
          rw [hm] at hp
          have hkm : (k : Int) - 1 = (m : Int) := by omega
          have hmn : (m : Int) < (n : Int) := by omega
          have kc := fun w => torder_any x y w HXS.out HYS.out (HOX.out (by omega)) HO.out
          obtain ⟨C, hC⟩ : ∃ C, cmpT x y = C := ⟨_, rfl⟩
          have hge := ltV_ge hC
          rw [hC] at kc
          have HKC := Lib.hid kc; have HSTK := Lib.hid (show chainB okV ltV [] l k = ltV x y by rw [HST.out, decide_eq_false h0]; simp)
          clear kc hC hm
          cases hlx : ltV x y with
          | false =>
            rw [hlx, Bool.not_false] at hge
            have hno : R = false := by rw [HR.out, chain_no HKL.out (by rw [HSTK.out, hlx])]; rfl
            have HNO := Lib.hid hno; clear hno hlx
            go_wp2_with (first
              | (go_at_call 75; refine (HKM.out _).mono ?_; rintro e w1 ⟨rfl, hb1⟩; have HB1 := Lib.hid (below_step HB.out hb1); replace hp := cell_keep hp hb1; clear hb1)
              | (go_at_call 55; refine (HKC.out _).mono ?_; rintro e w2 ⟨rfl, hb2⟩; have HB2 := Lib.hid (below_step HB1.out hb2); clear hb2))
            go_ret
            exact ⟨by rw [HNO.out]; rfl, HB2.out⟩
          | true =>
            rw [hlx, Bool.not_true] at hge
            have HM2 : Hid (∀ j, j < k + 1 → chainB okV ltV [] l j = true) := Lib.hid fun j hj => by
              rcases Nat.lt_succ_iff_lt_or_eq.1 hj with q | rfl
              · exact HM.out j q
              · rw [HSTK.out, hlx]
            clear hlx
            go_wp2_with (first
              | (go_at_call 75; refine (HKM.out _).mono ?_; rintro e w1 ⟨rfl, hb1⟩; have HB1 := Lib.hid (below_step HB.out hb1); replace hp := cell_keep hp hb1; clear hb1)
              | (go_at_call 55; refine (HKC.out _).mono ?_; rintro e w2 ⟨rfl, hb2⟩; have HB2 := Lib.hid (below_step HB1.out hb2); clear hb2))
            go_roundw
            case rel => exact ⟨k + 1, by omega, by go_num, HM2, HB2⟩
            case measure => simp [intOf]; omega
    · have e : k = n := by omega
      subst e
      have hyes : chainA okV ltV [] l = true := chain_yes fun j hj => HM.out j (by rw [← HN.out]; exact hj)
      have hr3 : R = decide (0 < k) := by rw [HR.out, hyes, Bool.true_and]
      have HR3 := Lib.hid hr3
      clear hyes hr3
      go_wp2
      go_ret
      exact ⟨by rw [HR3.out]; rfl, HB.out⟩
end Go.Proofs.YtlbibgofhhdgoaaGreat

namespace Go.Proofs.YtlbibgofhhdgoaaGreat
open Go.RowKit
set_option linter.unusedVariables false
set_option maxRecDepth 100000

theorem bin_geq0 {C : Int} {b : Bool} {w : World} (h : decide (0 ≤ C) = b) : Sem.run Tryz.prog (binOp .geq 3 (.int .i64 C) (.int .i64 0)) w = .ok (.bool b) w := by
  subst h; go_simp
theorem bin_gtr0 {k : Nat} {b : Bool} {w : World} (h : decide (0 < k) = b) : Sem.run Tryz.prog (binOp .gtr 3 (.int .i64 (k : Int)) (.int .i64 0)) w = .ok (.bool b) w := by
  subst h; go_simp
theorem bin_sub1 {k m : Nat} {w : World} (h : k = m + 1) (hk : k ≤ 1000000) : Sem.run Tryz.prog (binOp .sub 3 (.int .i64 (k : Int)) (.int .i64 1)) w = .ok (.int .i64 (m : Int)) w := by
  have e2 : IntKind.i64.wrap (m : Int) = (m : Int) := by rw [IntKind.wrap_i64]; omega
  have e : (k : Int) - 1 = (m : Int) := by omega
  go_simp
theorem okR_len {l : List Rw} {k : Nat} (h : ∀ j, j < k → chainB okRow ltP zR l j = true) (hk : l.length ≤ k) : okR l = true := chain_yes fun j hj => h j (by omega)

set_option maxHeartbeats 3200000 in
theorem tcheck_any (V : Value) (l : List Rw) (w : World) (hV : Rws w V l) (hl : l.length ≤ 100000) (hp : ∀ r ∈ l, r.1.length ≤ 1000000000) (hs : ∀ r ∈ l, ∀ x ∈ r.2, x.length ≤ 1000000000) :
    Calls Tryz.prog 32 #[V] w fun e w' => e = .returned (.int .i64 (if okR l = true then 0 else 1)) ∧ Below w.heap.size w w' := by
  obtain ⟨Al, cl, rfl, hl1, hl2, -, -⟩ := hV.ex
  unfold maxLen at hl2
  obtain ⟨n, hn⟩ : ∃ n, l.length = n := ⟨_, rfl⟩
  obtain ⟨T, hT⟩ : ∃ T : Int, (if okR l = true then 0 else 1) = T := ⟨_, rfl⟩
  rw [hT]
  rw [hn] at hl hl1 hV ⊢
  have SV := Lib.hid hV; have HN := Lib.hid hn; have HP := Lib.hid hp; have HS := Lib.hid hs; have HT := Lib.hid hT
  clear hV hn hp hs hT
  have e1 : ∀ args w, (callFunc 33 args).run Tryz.prog w = .ok (.enter 33 args) w := enters_of Tryz.func33 (by kernel_rfl) rfl
  have e2 : ∀ args w, (callFunc 59 args).run Tryz.prog w = .ok (.enter 59 args) w := enters_of Tryz.func59 (by kernel_rfl) rfl
  have e3 : ∀ args w, (callFunc 60 args).run Tryz.prog w = .ok (.enter 60 args) w := enters_of Tryz.func60 (by kernel_rfl) rfl
  go_enter Tryz.func32, Tryz.ntmps32
  go_wp2
  go_loopw [7] (fun i wr => ∃ k : Nat, k ≤ n ∧ i = .int .i64 k ∧ Hid (∀ j, j < k → chainB okRow ltP zR l j = true) ∧ Hid (Below w.heap.size w wr)) (fun i _ => n - (intOf i).toNat)
  case atStart => exact ⟨0, Nat.zero_le _, rfl, Lib.hid fun j hj => absurd hj (Nat.not_lt_zero j), Lib.hid (Below.refl _ _)⟩
  case round =>
    obtain ⟨k, hk, rfl, HJ, HB⟩ := hrel
    by_cases hlt : k < n
    · have hkl : k < l.length := by rw [HN.out]; exact hlt
      obtain ⟨bl, ol, ay, ny, cy, rfl, hc0, hc1, hsy⟩ := (SV.out.below HB.out).at k hkl
      have hq : wr.cell? ⟨bl, ol + (k - 1) * 2, none⟩ = some (.string (mkB (l.getD (k - 1) zR).1)) := by
        obtain ⟨b', off', _, _, _, e, q, -, -⟩ := (SV.out.below HB.out).at (k - 1) (by omega)
        cases e; exact q
      obtain ⟨y, hy⟩ : ∃ y, y = l.getD k zR := ⟨_, rfl⟩
      obtain ⟨q, hx⟩ : ∃ x, x = (l.getD (k - 1) zR).1 := ⟨_, rfl⟩
      have hst : chainB okRow ltP zR l k = ((pathB y.1 && fitV2 y.2) && (decide (k = 0) || decide (Lib.compareBytes q y.1 < 0))) := by unfold chainB ltP okRow; rw [← hy, ← hx]
      have hys : y.1.length ≤ 1000000000 := by rw [hy]; exact HP.out _ (gd_in hkl)
      have hvs : ∀ x ∈ y.2, x.length ≤ 1000000000 := by rw [hy]; exact HS.out _ (gd_in hkl)
      rw [← hy] at hc0 hsy
      rw [← hx] at hq
      obtain ⟨p, vs⟩ := y
      simp only at hc0 hsy hst hys hvs
      obtain ⟨o, ho⟩ : ∃ o, pathB p = o := ⟨_, rfl⟩
      obtain ⟨f, hf⟩ : ∃ f, fitV2 vs = f := ⟨_, rfl⟩
      have kp := fun w => pmay_b p w hys
      have kf := fun w h => tfit_any ay ny cy vs w h hvs
      have kc := fun w => ocmp_l q p w
      obtain ⟨C, hC⟩ : ∃ C, Lib.compareBytes q p = C := ⟨_, rfl⟩
      rw [ho] at kp hst
      rw [hf] at kf hst
      rw [hC] at kc hst
      have KP := Lib.hid kp; have KF := Lib.hid kf; have KC := Lib.hid kc; have HST := Lib.hid hst; have HKL := Lib.hid hkl
      have HKB := Lib.hid (show k ≤ 1000000 by omega)
      clear hy hx hst hys hvs kp kf kc ho hf hC hkl
      have hkb : (k : Int) < (n : Int) := by omega
      go_upto_region 4 with fail
      obtain ⟨W5, gk, hW5, hgk, r5, hb5⟩ := boxT wr (.string (mkB p)) (.slice ay ny cy) 63
      rw [hW5, hgk]
      obtain ⟨d0, d1, -, -⟩ := row2 r5
      have D0 := Lib.hid d0; have D1 := Lib.hid d1; have SY := Lib.hid (hsy.belowB hb5); have Q := Lib.hid (cell_keep hq hb5); have HB5 := Lib.hid (below_step HB.out hb5); have HNW := Lib.hid (Nat.le_refl W5.heap.size)
      clear hW5 hgk r5 hb5 hc0 hc1 d0 d1 hsy hq
      have hno : chainB okRow ltP zR l k = false → T = 1 := fun h => by rw [← HT.out, show okR l = false from chain_no HKL.out h]; rfl
      have hj2 : chainB okRow ltP zR l k = true → ∀ j, j < k + 1 → chainB okRow ltP zR l j = true := fun h j hj => by
        rcases Nat.lt_succ_iff_lt_or_eq.1 hj with q | rfl
        · exact HJ.out j q
        · exact h
      have HNO0 := Lib.hid hno; have HJ0 := Lib.hid hj2
      clear hno hj2
      cases o with
      | false =>
        have HNO := Lib.hid (HNO0.out (by rw [HST.out]; rfl))
        refine rol_run (by kernel_rfl) [[], [0], [0, 1], [0, 1, 2], [0, 1, 2, 3], [0, 1, 2, 3, 4], [0, 1, 2, 3, 4, 5], [0, 1, 2, 3, 4, 5, 6], [0, 1, 2, 3, 4, 5, 6, 7], [0, 1, 2, 3, 4, 5, 6, 7, 8], [0, 1, 2, 3, 4, 5, 6, 7, 8, 9], [0, 1, 2, 3, 4, 5, 6, 7, 8, 9, 10], [0, 1, 2, 3, 4, 5, 6, 7, 8, 9, 10, 11], [0, 1, 2, 3, 4, 5, 6, 7, 8, 9, 10, 11, 12], [0, 1, 2, 3, 4, 5, 6, 7, 8, 9, 10, 11, 12, 13], [0, 1, 2, 3, 4, 5, 6, 7, 8, 9, 10, 11, 12, 13], [0, 1, 2, 3, 4, 5, 6, 7, 8, 9, 10, 11, 12, 13, 15], [0, 1, 2, 3, 4, 5, 6, 7, 8, 9, 10, 11, 12, 13, 14, 15, 16], [0, 1, 2, 3, 4, 5, 6, 7, 8, 9, 10, 11, 12, 13, 14, 15, 16, 17], [0, 1, 2, 3, 4, 5, 6, 7, 8, 9, 10, 11, 12, 13, 14, 15, 16, 17, 18], [0, 1, 2, 3, 4, 5, 6, 7, 8, 9, 10, 11, 12, 13], [0, 1, 2, 3, 4, 5, 6, 7, 8, 9, 10, 11, 12, 13, 20], [0, 1, 2, 3, 4, 5, 6, 7, 8, 9, 10, 11, 12, 13, 14, 15, 16, 17, 18, 19, 20, 21], [0, 1, 2, 3, 4, 5, 6, 7, 8, 9, 10, 11, 12, 13, 14, 15, 16, 17, 18, 19, 20, 21, 22], [0, 1, 2, 3, 4, 5, 6, 7, 8, 9, 10, 11, 12, 13, 14, 15, 16, 17, 18, 19, 20, 21, 22, 23], [0, 1, 2, 3, 4, 5, 6, 7, 8, 9, 10, 11, 12, 13, 14, 15, 16, 17, 18, 19, 20, 21, 22, 23, 24]] (by kernel_rfl) [12, 13, 14, 15, 16, 17, 18, 19, 20, 21, 22, 23, 24, 25, 26, 27, 28, 29, 30, 31, 32, 33, 34, 35, 36, 37] [[], [0], [1], [2], [3], [4], [4], [4], [4], [4], [9], [10], [10], [10], [13], [13], [13], [13], [13], [13], [13], [13], [13], [13], [10], [10]] [0, 0, 0, 0, 0, 0, 0, 0, 0, 0, 0, 0, 0, 0, 0, 0, 0, 0, 0, 0, 0, 0, 0, 0, 0, 0] [0, 0, 0, 0, 0, 0, 0, 0, 0, 0, 0, 0, 0, 0, 0, 0, 0, 0, 0, 0, 0, 0, 0, 0, 0, 0] [1000, 1000, 1000, 1000, 1000, 1000, 1000, 1000, 1000, 1000, 1000, 1000, 1000, 1000, 1000, 1000, 1000, 1000, 1000, 1000, 1000, 1000, 1000, 1000, 1000, 1000] [.val 12 (.pointer (some ⟨gk, 0, none⟩)), .val 13 (.string (mkB p)), .val 14 (.bool false), .val 15 (.bool true), .val 16 (.bool true), .val 17 undef, .val 18 undef, .val 19 undef, .val 20 undef, .val 21 (.bool true), .val 22 (.bool true), .val 23 undef, .val 24 undef, .val 25 undef, .val 26 undef, .val 27 undef, .val 28 undef, .val 29 undef, .val 30 undef, .val 31 undef, .val 32 undef, .val 33 undef, .val 34 undef, .val 35 undef, .val 36 undef, .val 37 (.bool true)] (by kernel_rfl) ?_ (W5.heap.size) (W5.heap.size) rfl (Below.refl _ _) rfl (fun _ => 0) ?_ ?_ ?_
        · intro j hj
          have hj3 : j < 26 := hj
          have hj2 : j = 0 ∨ j = 1 ∨ j = 2 ∨ j = 3 ∨ j = 4 ∨ j = 5 ∨ j = 6 ∨ j = 7 ∨ j = 8 ∨ j = 9 ∨ j = 10 ∨ j = 11 ∨ j = 12 ∨ j = 13 ∨ j = 14 ∨ j = 15 ∨ j = 16 ∨ j = 17 ∨ j = 18 ∨ j = 19 ∨ j = 20 ∨ j = 21 ∨ j = 22 ∨ j = 23 ∨ j = 24 ∨ j = 25 := by omega
          clear hj hj3
          rcases hj2 with rfl | rfl | rfl | rfl | rfl | rfl | rfl | rfl | rfl | rfl | rfl | rfl | rfl | rfl | rfl | rfl | rfl | rfl | rfl | rfl | rfl | rfl | rfl | rfl | rfl | rfl
          · exact trivial
          · exact trivial
          · exact trivial
          · exact trivial
          · exact trivial
          · exact trivial
          · exact trivial
          · exact trivial
          · exact trivial
          · exact trivial
          · exact trivial
          · exact trivial
          · exact trivial
          · exact trivial
          · exact trivial
          · exact trivial
          · exact trivial
          · exact trivial
          · exact trivial
          · exact trivial
          · exact trivial
          · exact trivial
          · exact trivial
          · exact trivial
          · exact trivial
          · exact trivial
        · intro j hj0 hj
          exact absurd hj (Nat.not_lt.2 hj0)
        · intro i hi a wx who hG hF
          have hz : a.tmps.size = 39 := hG.size
          have hi3 : i < 26 := hi
          have hi2 : i = 0 ∨ i = 1 ∨ i = 2 ∨ i = 3 ∨ i = 4 ∨ i = 5 ∨ i = 6 ∨ i = 7 ∨ i = 8 ∨ i = 9 ∨ i = 10 ∨ i = 11 ∨ i = 12 ∨ i = 13 ∨ i = 14 ∨ i = 15 ∨ i = 16 ∨ i = 17 ∨ i = 18 ∨ i = 19 ∨ i = 20 ∨ i = 21 ∨ i = 22 ∨ i = 23 ∨ i = 24 ∨ i = 25 := by omega
          clear hi hi3
          rcases hi2 with rfl | rfl | rfl | rfl | rfl | rfl | rfl | rfl | rfl | rfl | rfl | rfl | rfl | rfl | rfl | rfl | rfl | rfl | rfl | rfl | rfl | rfl | rfl | rfl | rfl | rfl
          · exact rol_val rfl rfl rfl (by rw [hz]; decide) (ex_field rfl (eval_slot ((hG.slots 4 (by decide)).trans rfl)) (by go_simp)) hG.below
          · exact rol_val rfl rfl rfl (by rw [hz]; decide) (ex_load rfl (eval_slot (hF 0 (by decide))) (ld_strT (cell_keep D0.out hG.below))) hG.below
          · refine rol_call rfl rfl rfl (by rw [hz]; decide) (ex_call rfl (by simp [eval_slot (hF 1 (by decide))]) e1) (KP.out wx) ?_ hG.below (Nat.le_trans HNW.out hG.new)
            rintro e w1 ⟨rfl, hb1⟩
            exact ⟨_, rfl, hb1, .inl rfl⟩
          · exact rol_val rfl rfl rfl (by rw [hz]; decide) (ex_un rfl (eval_slot (hF 2 (by decide))) rfl) hG.below
          · exact rol_val rfl rfl rfl (by rw [hz]; decide) (ex_move (Or.inl rfl) (eval_slot (hF 3 (by decide)))) hG.below
          · exact rol_val_skip rfl (want_no rfl rfl (hF 4 (by decide)) (by decide)) rfl (by rw [hz]; decide) hG.below
          · exact rol_val_skip rfl (want_no rfl rfl (hF 4 (by decide)) (by decide)) rfl (by rw [hz]; decide) hG.below
          · exact rol_val_skip rfl (want_no rfl rfl (hF 4 (by decide)) (by decide)) rfl (by rw [hz]; decide) hG.below
          · exact rol_val_skip rfl (want_no rfl rfl (hF 4 (by decide)) (by decide)) rfl (by rw [hz]; decide) hG.below
          · exact rol_val rfl rfl rfl (by rw [hz]; decide) (ex_pick_yes rfl (eval_slot (hF 4 (by decide))) rfl) hG.below
          · exact rol_val rfl rfl rfl (by rw [hz]; decide) (ex_move (Or.inl rfl) (eval_slot (hF 9 (by decide)))) hG.below
          · exact rol_val_skip rfl (want_no rfl rfl (hF 10 (by decide)) (by decide)) rfl (by rw [hz]; decide) hG.below
          · exact rol_val_skip rfl (want_no rfl rfl (hF 10 (by decide)) (by decide)) rfl (by rw [hz]; decide) hG.below
          · exact rol_val_skip rfl (want_no rfl rfl (hF 10 (by decide)) (by decide)) rfl (by rw [hz]; decide) hG.below
          · exact rol_val_skip rfl (want_undef rfl rfl (hF 13 (by decide))) rfl (by rw [hz]; decide) hG.below
          · exact rol_val_skip rfl (want_undef rfl rfl (hF 13 (by decide))) rfl (by rw [hz]; decide) hG.below
          · exact rol_val_skip rfl (want_undef rfl rfl (hF 13 (by decide))) rfl (by rw [hz]; decide) hG.below
          · exact rol_val_skip rfl (want_undef rfl rfl (hF 13 (by decide))) rfl (by rw [hz]; decide) hG.below
          · exact rol_val_skip rfl (want_undef rfl rfl (hF 13 (by decide))) rfl (by rw [hz]; decide) hG.below
          · exact rol_val_skip rfl (want_undef rfl rfl (hF 13 (by decide))) rfl (by rw [hz]; decide) hG.below
          · exact rol_val_skip rfl (want_undef rfl rfl (hF 13 (by decide))) rfl (by rw [hz]; decide) hG.below
          · exact rol_val_skip rfl (want_undef rfl rfl (hF 13 (by decide))) rfl (by rw [hz]; decide) hG.below
          · exact rol_val_skip rfl (want_undef rfl rfl (hF 13 (by decide))) rfl (by rw [hz]; decide) hG.below
          · exact rol_val_skip rfl (want_undef rfl rfl (hF 13 (by decide))) rfl (by rw [hz]; decide) hG.below
          · exact rol_val_skip rfl (want_no rfl rfl (hF 10 (by decide)) (by decide)) rfl (by rw [hz]; decide) hG.below
          · exact rol_val rfl rfl rfl (by rw [hz]; decide) (ex_pick_yes rfl (eval_slot (hF 10 (by decide))) rfl) hG.below
        · intro a wx who hG hF
          have fv37 : a.tmps.getD 37 undef = .bool true := eval_slot (s := 37) (hF 25 (of_decide_eq_true (by kernel_rfl)) (of_decide_eq_true (by kernel_rfl)))
          have hbx := hG.below
          have hnx := hG.new
          rw [hG.frame]
          simp only [List.foldl_cons, List.foldl_nil, List.setIfInBounds_toArray, List.set_cons_zero, List.set_cons_succ]
          generalize a.tmps.getD 12 undef = u12
          generalize a.tmps.getD 13 undef = u13
          generalize a.tmps.getD 14 undef = u14
          generalize a.tmps.getD 15 undef = u15
          generalize a.tmps.getD 16 undef = u16
          generalize a.tmps.getD 17 undef = u17
          generalize a.tmps.getD 18 undef = u18
          generalize a.tmps.getD 19 undef = u19
          generalize a.tmps.getD 20 undef = u20
          generalize a.tmps.getD 21 undef = u21
          generalize a.tmps.getD 22 undef = u22
          generalize a.tmps.getD 23 undef = u23
          generalize a.tmps.getD 24 undef = u24
          generalize a.tmps.getD 25 undef = u25
          generalize a.tmps.getD 26 undef = u26
          generalize a.tmps.getD 27 undef = u27
          generalize a.tmps.getD 28 undef = u28
          generalize a.tmps.getD 29 undef = u29
          generalize a.tmps.getD 30 undef = u30
          generalize a.tmps.getD 31 undef = u31
          generalize a.tmps.getD 32 undef = u32
          generalize a.tmps.getD 33 undef = u33
          generalize a.tmps.getD 34 undef = u34
          generalize a.tmps.getD 35 undef = u35
          generalize a.tmps.getD 36 undef = u36
          rw [fv37]
          clear hF hG fv37
          have HB6 := Lib.hid (below_step HB5.out hbx)
          clear hbx hnx
          go_wp2
          go_ret
          exact ⟨by rw [HNO.out]; rfl, HB6.out⟩
      | true =>
        cases f with
        | false =>
          have HNO := Lib.hid (HNO0.out (by rw [HST.out]; rfl))
          refine rol_run (by kernel_rfl) [[], [0], [0, 1], [0, 1, 2], [0, 1, 2, 3], [0, 1, 2, 3, 4], [0, 1, 2, 3, 4, 5], [0, 1, 2, 3, 4, 5, 6], [0, 1, 2, 3, 4, 5, 6, 7], [0, 1, 2, 3, 4, 5, 6, 7, 8], [0, 1, 2, 3, 4, 5, 6, 7, 8, 9], [0, 1, 2, 3, 4, 5, 6, 7, 8, 9, 10], [0, 1, 2, 3, 4, 5, 6, 7, 8, 9, 10, 11], [0, 1, 2, 3, 4, 5, 6, 7, 8, 9, 10, 11, 12], [0, 1, 2, 3, 4, 5, 6, 7, 8, 9, 10, 11, 12, 13], [0, 1, 2, 3, 4, 5, 6, 7, 8, 9, 10, 11, 12, 13], [0, 1, 2, 3, 4, 5, 6, 7, 8, 9, 10, 11, 12, 13, 15], [0, 1, 2, 3, 4, 5, 6, 7, 8, 9, 10, 11, 12, 13, 14, 15, 16], [0, 1, 2, 3, 4, 5, 6, 7, 8, 9, 10, 11, 12, 13, 14, 15, 16, 17], [0, 1, 2, 3, 4, 5, 6, 7, 8, 9, 10, 11, 12, 13, 14, 15, 16, 17, 18], [0, 1, 2, 3, 4, 5, 6, 7, 8, 9, 10, 11, 12, 13], [0, 1, 2, 3, 4, 5, 6, 7, 8, 9, 10, 11, 12, 13, 20], [0, 1, 2, 3, 4, 5, 6, 7, 8, 9, 10, 11, 12, 13, 14, 15, 16, 17, 18, 19, 20, 21], [0, 1, 2, 3, 4, 5, 6, 7, 8, 9, 10, 11, 12, 13, 14, 15, 16, 17, 18, 19, 20, 21, 22], [0, 1, 2, 3, 4, 5, 6, 7, 8, 9, 10, 11, 12, 13, 14, 15, 16, 17, 18, 19, 20, 21, 22, 23], [0, 1, 2, 3, 4, 5, 6, 7, 8, 9, 10, 11, 12, 13, 14, 15, 16, 17, 18, 19, 20, 21, 22, 23, 24]] (by kernel_rfl) [12, 13, 14, 15, 16, 17, 18, 19, 20, 21, 22, 23, 24, 25, 26, 27, 28, 29, 30, 31, 32, 33, 34, 35, 36, 37] [[], [0], [1], [2], [3], [4], [4, 5], [4, 6], [4, 7], [4, 8], [9], [10], [10], [10], [13], [13], [13], [13], [13], [13], [13], [13], [13], [13], [10], [10]] [0, 0, 0, 0, 0, 0, 0, 0, 0, 0, 0, 0, 0, 0, 0, 0, 0, 0, 0, 0, 0, 0, 0, 0, 0, 0] [0, 0, 0, 0, 0, 0, 0, 0, 0, 0, 0, 0, 0, 0, 0, 0, 0, 0, 0, 0, 0, 0, 0, 0, 0, 0] [1000, 1000, 1000, 1000, 1000, 1000, 1000, 1000, 1000, 1000, 1000, 1000, 1000, 1000, 1000, 1000, 1000, 1000, 1000, 1000, 1000, 1000, 1000, 1000, 1000, 1000] [.val 12 (.pointer (some ⟨gk, 0, none⟩)), .val 13 (.string (mkB p)), .val 14 (.bool true), .val 15 (.bool false), .val 16 (.bool false), .val 17 (.pointer (some ⟨gk, 1, none⟩)), .val 18 (.slice ay ny cy), .val 19 (.bool false), .val 20 (.bool true), .val 21 (.bool true), .val 22 (.bool true), .val 23 undef, .val 24 undef, .val 25 undef, .val 26 undef, .val 27 undef, .val 28 undef, .val 29 undef, .val 30 undef, .val 31 undef, .val 32 undef, .val 33 undef, .val 34 undef, .val 35 undef, .val 36 undef, .val 37 (.bool true)] (by kernel_rfl) ?_ (W5.heap.size) (W5.heap.size) rfl (Below.refl _ _) rfl (fun _ => 0) ?_ ?_ ?_
          · intro j hj
            have hj3 : j < 26 := hj
            have hj2 : j = 0 ∨ j = 1 ∨ j = 2 ∨ j = 3 ∨ j = 4 ∨ j = 5 ∨ j = 6 ∨ j = 7 ∨ j = 8 ∨ j = 9 ∨ j = 10 ∨ j = 11 ∨ j = 12 ∨ j = 13 ∨ j = 14 ∨ j = 15 ∨ j = 16 ∨ j = 17 ∨ j = 18 ∨ j = 19 ∨ j = 20 ∨ j = 21 ∨ j = 22 ∨ j = 23 ∨ j = 24 ∨ j = 25 := by omega
            clear hj hj3
            rcases hj2 with rfl | rfl | rfl | rfl | rfl | rfl | rfl | rfl | rfl | rfl | rfl | rfl | rfl | rfl | rfl | rfl | rfl | rfl | rfl | rfl | rfl | rfl | rfl | rfl | rfl | rfl
            · exact trivial
            · exact trivial
            · exact trivial
            · exact trivial
            · exact trivial
            · exact trivial
            · exact trivial
            · exact trivial
            · exact trivial
            · exact trivial
            · exact trivial
            · exact trivial
            · exact trivial
            · exact trivial
            · exact trivial
            · exact trivial
            · exact trivial
            · exact trivial
            · exact trivial
            · exact trivial
            · exact trivial
            · exact trivial
            · exact trivial
            · exact trivial
            · exact trivial
            · exact trivial
          · intro j hj0 hj
            exact absurd hj (Nat.not_lt.2 hj0)
          · intro i hi a wx who hG hF
            have hz : a.tmps.size = 39 := hG.size
            have hi3 : i < 26 := hi
            have hi2 : i = 0 ∨ i = 1 ∨ i = 2 ∨ i = 3 ∨ i = 4 ∨ i = 5 ∨ i = 6 ∨ i = 7 ∨ i = 8 ∨ i = 9 ∨ i = 10 ∨ i = 11 ∨ i = 12 ∨ i = 13 ∨ i = 14 ∨ i = 15 ∨ i = 16 ∨ i = 17 ∨ i = 18 ∨ i = 19 ∨ i = 20 ∨ i = 21 ∨ i = 22 ∨ i = 23 ∨ i = 24 ∨ i = 25 := by omega
            clear hi hi3
            rcases hi2 with rfl | rfl | rfl | rfl | rfl | rfl | rfl | rfl | rfl | rfl | rfl | rfl | rfl | rfl | rfl | rfl | rfl | rfl | rfl | rfl | rfl | rfl | rfl | rfl | rfl | rfl
            · exact rol_val rfl rfl rfl (by rw [hz]; decide) (ex_field rfl (eval_slot ((hG.slots 4 (by decide)).trans rfl)) (by go_simp)) hG.below
            · exact rol_val rfl rfl rfl (by rw [hz]; decide) (ex_load rfl (eval_slot (hF 0 (by decide))) (ld_strT (cell_keep D0.out hG.below))) hG.below
            · refine rol_call rfl rfl rfl (by rw [hz]; decide) (ex_call rfl (by simp [eval_slot (hF 1 (by decide))]) e1) (KP.out wx) ?_ hG.below (Nat.le_trans HNW.out hG.new)
              rintro e w1 ⟨rfl, hb1⟩
              exact ⟨_, rfl, hb1, .inl rfl⟩
            · exact rol_val rfl rfl rfl (by rw [hz]; decide) (ex_un rfl (eval_slot (hF 2 (by decide))) rfl) hG.below
            · exact rol_val rfl rfl rfl (by rw [hz]; decide) (ex_move (Or.inl rfl) (eval_slot (hF 3 (by decide)))) hG.below
            · exact rol_val rfl (want_yes rfl rfl (hF 4 (by decide))) rfl (by rw [hz]; decide) (ex_field rfl (eval_slot ((hG.slots 4 (by decide)).trans rfl)) (by go_simp)) hG.below
            · exact rol_val rfl (want_yes rfl rfl (hF 4 (by decide))) rfl (by rw [hz]; decide) (ex_load rfl (eval_slot (hF 5 (by decide))) (ld_stsT (cell_keep D1.out hG.below))) hG.below
            · refine rol_call rfl (want_yes rfl rfl (hF 4 (by decide))) rfl (by rw [hz]; decide) (ex_call rfl (by simp [eval_slot (hF 6 (by decide))]) e2) (KF.out wx (SY.out.belowB hG.below)) ?_ hG.below (Nat.le_trans HNW.out hG.new)
              rintro e w1 ⟨rfl, hb1⟩
              exact ⟨_, rfl, hb1, .inl rfl⟩
            · exact rol_val rfl (want_yes rfl rfl (hF 4 (by decide))) rfl (by rw [hz]; decide) (ex_un rfl (eval_slot (hF 7 (by decide))) rfl) hG.below
            · exact rol_val rfl rfl rfl (by rw [hz]; decide) (ex_pick_no rfl (eval_slot (hF 4 (by decide))) (eval_slot (hF 8 (by decide)))) hG.below
            · exact rol_val rfl rfl rfl (by rw [hz]; decide) (ex_move (Or.inl rfl) (eval_slot (hF 9 (by decide)))) hG.below
            · exact rol_val_skip rfl (want_no rfl rfl (hF 10 (by decide)) (by decide)) rfl (by rw [hz]; decide) hG.below
            · exact rol_val_skip rfl (want_no rfl rfl (hF 10 (by decide)) (by decide)) rfl (by rw [hz]; decide) hG.below
            · exact rol_val_skip rfl (want_no rfl rfl (hF 10 (by decide)) (by decide)) rfl (by rw [hz]; decide) hG.below
            · exact rol_val_skip rfl (want_undef rfl rfl (hF 13 (by decide))) rfl (by rw [hz]; decide) hG.below
            · exact rol_val_skip rfl (want_undef rfl rfl (hF 13 (by decide))) rfl (by rw [hz]; decide) hG.below
            · exact rol_val_skip rfl (want_undef rfl rfl (hF 13 (by decide))) rfl (by rw [hz]; decide) hG.below
            · exact rol_val_skip rfl (want_undef rfl rfl (hF 13 (by decide))) rfl (by rw [hz]; decide) hG.below
            · exact rol_val_skip rfl (want_undef rfl rfl (hF 13 (by decide))) rfl (by rw [hz]; decide) hG.below
            · exact rol_val_skip rfl (want_undef rfl rfl (hF 13 (by decide))) rfl (by rw [hz]; decide) hG.below
            · exact rol_val_skip rfl (want_undef rfl rfl (hF 13 (by decide))) rfl (by rw [hz]; decide) hG.below
            · exact rol_val_skip rfl (want_undef rfl rfl (hF 13 (by decide))) rfl (by rw [hz]; decide) hG.below
            · exact rol_val_skip rfl (want_undef rfl rfl (hF 13 (by decide))) rfl (by rw [hz]; decide) hG.below
            · exact rol_val_skip rfl (want_undef rfl rfl (hF 13 (by decide))) rfl (by rw [hz]; decide) hG.below
            · exact rol_val_skip rfl (want_no rfl rfl (hF 10 (by decide)) (by decide)) rfl (by rw [hz]; decide) hG.below
            · exact rol_val rfl rfl rfl (by rw [hz]; decide) (ex_pick_yes rfl (eval_slot (hF 10 (by decide))) rfl) hG.below
          · intro a wx who hG hF
            have fv37 : a.tmps.getD 37 undef = .bool true := eval_slot (s := 37) (hF 25 (of_decide_eq_true (by kernel_rfl)) (of_decide_eq_true (by kernel_rfl)))
            have hbx := hG.below
            have hnx := hG.new
            rw [hG.frame]
            simp only [List.foldl_cons, List.foldl_nil, List.setIfInBounds_toArray, List.set_cons_zero, List.set_cons_succ]
            generalize a.tmps.getD 12 undef = u12
            generalize a.tmps.getD 13 undef = u13
            generalize a.tmps.getD 14 undef = u14
            generalize a.tmps.getD 15 undef = u15
            generalize a.tmps.getD 16 undef = u16
            generalize a.tmps.getD 17 undef = u17
            generalize a.tmps.getD 18 undef = u18
            generalize a.tmps.getD 19 undef = u19
            generalize a.tmps.getD 20 undef = u20
            generalize a.tmps.getD 21 undef = u21
            generalize a.tmps.getD 22 undef = u22
            generalize a.tmps.getD 23 undef = u23
            generalize a.tmps.getD 24 undef = u24
            generalize a.tmps.getD 25 undef = u25
            generalize a.tmps.getD 26 undef = u26
            generalize a.tmps.getD 27 undef = u27
            generalize a.tmps.getD 28 undef = u28
            generalize a.tmps.getD 29 undef = u29
            generalize a.tmps.getD 30 undef = u30
            generalize a.tmps.getD 31 undef = u31
            generalize a.tmps.getD 32 undef = u32
            generalize a.tmps.getD 33 undef = u33
            generalize a.tmps.getD 34 undef = u34
            generalize a.tmps.getD 35 undef = u35
            generalize a.tmps.getD 36 undef = u36
            rw [fv37]
            clear hF hG fv37
            have HB6 := Lib.hid (below_step HB5.out hbx)
            clear hbx hnx
            go_wp2
            go_ret
            exact ⟨by rw [HNO.out]; rfl, HB6.out⟩
        | true =>
          by_cases h0 : k = 0
          · have HZ := Lib.hid (show decide (0 < k) = false by simp [h0])
            have HJ2 := Lib.hid (show Hid (∀ j, j < k + 1 → chainB okRow ltP zR l j = true) from Lib.hid (HJ0.out (by rw [HST.out, decide_eq_true h0]; rfl)))
            clear h0
            refine rol_run (by kernel_rfl) [[], [0], [0, 1], [0, 1, 2], [0, 1, 2, 3], [0, 1, 2, 3, 4], [0, 1, 2, 3, 4, 5], [0, 1, 2, 3, 4, 5, 6], [0, 1, 2, 3, 4, 5, 6, 7], [0, 1, 2, 3, 4, 5, 6, 7, 8], [0, 1, 2, 3, 4, 5, 6, 7, 8, 9], [0, 1, 2, 3, 4, 5, 6, 7, 8, 9, 10], [0, 1, 2, 3, 4, 5, 6, 7, 8, 9, 10, 11], [0, 1, 2, 3, 4, 5, 6, 7, 8, 9, 10, 11, 12], [0, 1, 2, 3, 4, 5, 6, 7, 8, 9, 10, 11, 12, 13], [0, 1, 2, 3, 4, 5, 6, 7, 8, 9, 10, 11, 12, 13], [0, 1, 2, 3, 4, 5, 6, 7, 8, 9, 10, 11, 12, 13, 15], [0, 1, 2, 3, 4, 5, 6, 7, 8, 9, 10, 11, 12, 13, 14, 15, 16], [0, 1, 2, 3, 4, 5, 6, 7, 8, 9, 10, 11, 12, 13, 14, 15, 16, 17], [0, 1, 2, 3, 4, 5, 6, 7, 8, 9, 10, 11, 12, 13, 14, 15, 16, 17, 18], [0, 1, 2, 3, 4, 5, 6, 7, 8, 9, 10, 11, 12, 13], [0, 1, 2, 3, 4, 5, 6, 7, 8, 9, 10, 11, 12, 13, 20], [0, 1, 2, 3, 4, 5, 6, 7, 8, 9, 10, 11, 12, 13, 14, 15, 16, 17, 18, 19, 20, 21], [0, 1, 2, 3, 4, 5, 6, 7, 8, 9, 10, 11, 12, 13, 14, 15, 16, 17, 18, 19, 20, 21, 22], [0, 1, 2, 3, 4, 5, 6, 7, 8, 9, 10, 11, 12, 13, 14, 15, 16, 17, 18, 19, 20, 21, 22, 23], [0, 1, 2, 3, 4, 5, 6, 7, 8, 9, 10, 11, 12, 13, 14, 15, 16, 17, 18, 19, 20, 21, 22, 23, 24]] (by kernel_rfl) [12, 13, 14, 15, 16, 17, 18, 19, 20, 21, 22, 23, 24, 25, 26, 27, 28, 29, 30, 31, 32, 33, 34, 35, 36, 37] [[], [0], [1], [2], [3], [4], [4, 5], [4, 6], [4, 7], [4, 8], [9], [10], [10, 11], [10, 12], [13], [13], [13], [13], [13], [13], [13], [13], [13], [13], [10, 13], [10, 24]] [0, 0, 0, 0, 0, 0, 0, 0, 0, 0, 0, 0, 0, 0, 0, 0, 0, 0, 0, 0, 0, 0, 0, 0, 0, 0] [0, 0, 0, 0, 0, 0, 0, 0, 0, 0, 0, 0, 0, 0, 0, 0, 0, 0, 0, 0, 0, 0, 0, 0, 0, 0] [1000, 1000, 1000, 1000, 1000, 1000, 1000, 1000, 1000, 1000, 1000, 1000, 1000, 1000, 1000, 1000, 1000, 1000, 1000, 1000, 1000, 1000, 1000, 1000, 1000, 1000] [.val 12 (.pointer (some ⟨gk, 0, none⟩)), .val 13 (.string (mkB p)), .val 14 (.bool true), .val 15 (.bool false), .val 16 (.bool false), .val 17 (.pointer (some ⟨gk, 1, none⟩)), .val 18 (.slice ay ny cy), .val 19 (.bool true), .val 20 (.bool false), .val 21 (.bool false), .val 22 (.bool false), .val 23 (.int .i64 (k : Int)), .val 24 (.bool false), .val 25 (.bool false), .val 26 undef, .val 27 undef, .val 28 undef, .val 29 undef, .val 30 undef, .val 31 undef, .val 32 undef, .val 33 undef, .val 34 undef, .val 35 undef, .val 36 (.bool false), .val 37 (.bool false)] (by kernel_rfl) ?_ (W5.heap.size) (W5.heap.size) rfl (Below.refl _ _) rfl (fun _ => 0) ?_ ?_ ?_
            · intro j hj
              have hj3 : j < 26 := hj
              have hj2 : j = 0 ∨ j = 1 ∨ j = 2 ∨ j = 3 ∨ j = 4 ∨ j = 5 ∨ j = 6 ∨ j = 7 ∨ j = 8 ∨ j = 9 ∨ j = 10 ∨ j = 11 ∨ j = 12 ∨ j = 13 ∨ j = 14 ∨ j = 15 ∨ j = 16 ∨ j = 17 ∨ j = 18 ∨ j = 19 ∨ j = 20 ∨ j = 21 ∨ j = 22 ∨ j = 23 ∨ j = 24 ∨ j = 25 := by omega
              clear hj hj3
              rcases hj2 with rfl | rfl | rfl | rfl | rfl | rfl | rfl | rfl | rfl | rfl | rfl | rfl | rfl | rfl | rfl | rfl | rfl | rfl | rfl | rfl | rfl | rfl | rfl | rfl | rfl | rfl
              · exact trivial
              · exact trivial
              · exact trivial
              · exact trivial
              · exact trivial
              · exact trivial
              · exact trivial
              · exact trivial
              · exact trivial
              · exact trivial
              · exact trivial
              · exact trivial
              · exact trivial
              · exact trivial
              · exact trivial
              · exact trivial
              · exact trivial
              · exact trivial
              · exact trivial
              · exact trivial
              · exact trivial
              · exact trivial
              · exact trivial
              · exact trivial
              · exact trivial
              · exact trivial
            · intro j hj0 hj
              exact absurd hj (Nat.not_lt.2 hj0)
            · intro i hi a wx who hG hF
              have hz : a.tmps.size = 39 := hG.size
              have hi3 : i < 26 := hi
              have hi2 : i = 0 ∨ i = 1 ∨ i = 2 ∨ i = 3 ∨ i = 4 ∨ i = 5 ∨ i = 6 ∨ i = 7 ∨ i = 8 ∨ i = 9 ∨ i = 10 ∨ i = 11 ∨ i = 12 ∨ i = 13 ∨ i = 14 ∨ i = 15 ∨ i = 16 ∨ i = 17 ∨ i = 18 ∨ i = 19 ∨ i = 20 ∨ i = 21 ∨ i = 22 ∨ i = 23 ∨ i = 24 ∨ i = 25 := by omega
              clear hi hi3
              rcases hi2 with rfl | rfl | rfl | rfl | rfl | rfl | rfl | rfl | rfl | rfl | rfl | rfl | rfl | rfl | rfl | rfl | rfl | rfl | rfl | rfl | rfl | rfl | rfl | rfl | rfl | rfl
              · exact rol_val rfl rfl rfl (by rw [hz]; decide) (ex_field rfl (eval_slot ((hG.slots 4 (by decide)).trans rfl)) (by go_simp)) hG.below
              · exact rol_val rfl rfl rfl (by rw [hz]; decide) (ex_load rfl (eval_slot (hF 0 (by decide))) (ld_strT (cell_keep D0.out hG.below))) hG.below
              · refine rol_call rfl rfl rfl (by rw [hz]; decide) (ex_call rfl (by simp [eval_slot (hF 1 (by decide))]) e1) (KP.out wx) ?_ hG.below (Nat.le_trans HNW.out hG.new)
                rintro e w1 ⟨rfl, hb1⟩
                exact ⟨_, rfl, hb1, .inl rfl⟩
              · exact rol_val rfl rfl rfl (by rw [hz]; decide) (ex_un rfl (eval_slot (hF 2 (by decide))) rfl) hG.below
              · exact rol_val rfl rfl rfl (by rw [hz]; decide) (ex_move (Or.inl rfl) (eval_slot (hF 3 (by decide)))) hG.below
              · exact rol_val rfl (want_yes rfl rfl (hF 4 (by decide))) rfl (by rw [hz]; decide) (ex_field rfl (eval_slot ((hG.slots 4 (by decide)).trans rfl)) (by go_simp)) hG.below
              · exact rol_val rfl (want_yes rfl rfl (hF 4 (by decide))) rfl (by rw [hz]; decide) (ex_load rfl (eval_slot (hF 5 (by decide))) (ld_stsT (cell_keep D1.out hG.below))) hG.below
              · refine rol_call rfl (want_yes rfl rfl (hF 4 (by decide))) rfl (by rw [hz]; decide) (ex_call rfl (by simp [eval_slot (hF 6 (by decide))]) e2) (KF.out wx (SY.out.belowB hG.below)) ?_ hG.below (Nat.le_trans HNW.out hG.new)
                rintro e w1 ⟨rfl, hb1⟩
                exact ⟨_, rfl, hb1, .inl rfl⟩
              · exact rol_val rfl (want_yes rfl rfl (hF 4 (by decide))) rfl (by rw [hz]; decide) (ex_un rfl (eval_slot (hF 7 (by decide))) rfl) hG.below
              · exact rol_val rfl rfl rfl (by rw [hz]; decide) (ex_pick_no rfl (eval_slot (hF 4 (by decide))) (eval_slot (hF 8 (by decide)))) hG.below
              · exact rol_val rfl rfl rfl (by rw [hz]; decide) (ex_move (Or.inl rfl) (eval_slot (hF 9 (by decide)))) hG.below
              · exact rol_val rfl (want_yes rfl rfl (hF 10 (by decide))) rfl (by rw [hz]; decide) (ex_move (Or.inl rfl) (eval_slot ((hG.slots 3 (by decide)).trans rfl))) hG.below
              · exact rol_val rfl (want_yes rfl rfl (hF 10 (by decide))) rfl (by rw [hz]; decide) (ex_bin rfl (eval_slot (hF 11 (by decide))) rfl (by go_simp) (bin_gtr0 HZ.out)) hG.below
              · exact rol_val rfl (want_yes rfl rfl (hF 10 (by decide))) rfl (by rw [hz]; decide) (ex_move (Or.inl rfl) (eval_slot (hF 12 (by decide)))) hG.below
              · exact rol_val_skip rfl (want_no rfl rfl (hF 13 (by decide)) (by decide)) rfl (by rw [hz]; decide) hG.below
              · exact rol_val_skip rfl (want_no rfl rfl (hF 13 (by decide)) (by decide)) rfl (by rw [hz]; decide) hG.below
              · exact rol_val_skip rfl (want_no rfl rfl (hF 13 (by decide)) (by decide)) rfl (by rw [hz]; decide) hG.below
              · exact rol_val_skip rfl (want_no rfl rfl (hF 13 (by decide)) (by decide)) rfl (by rw [hz]; decide) hG.below
              · exact rol_val_skip rfl (want_no rfl rfl (hF 13 (by decide)) (by decide)) rfl (by rw [hz]; decide) hG.below
              · exact rol_val_skip rfl (want_no rfl rfl (hF 13 (by decide)) (by decide)) rfl (by rw [hz]; decide) hG.below
              · exact rol_val_skip rfl (want_no rfl rfl (hF 13 (by decide)) (by decide)) rfl (by rw [hz]; decide) hG.below
              · exact rol_val_skip rfl (want_no rfl rfl (hF 13 (by decide)) (by decide)) rfl (by rw [hz]; decide) hG.below
              · exact rol_val_skip rfl (want_no rfl rfl (hF 13 (by decide)) (by decide)) rfl (by rw [hz]; decide) hG.below
              · exact rol_val_skip rfl (want_no rfl rfl (hF 13 (by decide)) (by decide)) rfl (by rw [hz]; decide) hG.below
              · exact rol_val rfl (want_yes rfl rfl (hF 10 (by decide))) rfl (by rw [hz]; decide) (ex_pick_no rfl (eval_slot (hF 13 (by decide))) rfl) hG.below
              · exact rol_val rfl rfl rfl (by rw [hz]; decide) (ex_pick_no rfl (eval_slot (hF 10 (by decide))) (eval_slot (hF 24 (by decide)))) hG.below
            · intro a wx who hG hF
              have fv37 : a.tmps.getD 37 undef = .bool false := eval_slot (s := 37) (hF 25 (of_decide_eq_true (by kernel_rfl)) (of_decide_eq_true (by kernel_rfl)))
              have hbx := hG.below
              have hnx := hG.new
              rw [hG.frame]
              simp only [List.foldl_cons, List.foldl_nil, List.setIfInBounds_toArray, List.set_cons_zero, List.set_cons_succ]
              generalize a.tmps.getD 12 undef = u12
              generalize a.tmps.getD 13 undef = u13
              generalize a.tmps.getD 14 undef = u14
              generalize a.tmps.getD 15 undef = u15
              generalize a.tmps.getD 16 undef = u16
              generalize a.tmps.getD 17 undef = u17
              generalize a.tmps.getD 18 undef = u18
              generalize a.tmps.getD 19 undef = u19
              generalize a.tmps.getD 20 undef = u20
              generalize a.tmps.getD 21 undef = u21
              generalize a.tmps.getD 22 undef = u22
              generalize a.tmps.getD 23 undef = u23
              generalize a.tmps.getD 24 undef = u24
              generalize a.tmps.getD 25 undef = u25
              generalize a.tmps.getD 26 undef = u26
              generalize a.tmps.getD 27 undef = u27
              generalize a.tmps.getD 28 undef = u28
              generalize a.tmps.getD 29 undef = u29
              generalize a.tmps.getD 30 undef = u30
              generalize a.tmps.getD 31 undef = u31
              generalize a.tmps.getD 32 undef = u32
              generalize a.tmps.getD 33 undef = u33
              generalize a.tmps.getD 34 undef = u34
              generalize a.tmps.getD 35 undef = u35
              generalize a.tmps.getD 36 undef = u36
              rw [fv37]
              clear hF hG fv37
              have HB6 := Lib.hid (below_step HB5.out hbx)
              clear hbx hnx
              go_wp2
              go_roundw
              case rel => exact ⟨k + 1, by omega, by go_num, HJ2.out, HB6⟩
              case measure => simp [intOf]; omega
          · have HZ := Lib.hid (show decide (0 < k) = true by simp; omega)
            obtain ⟨m, hm⟩ : ∃ m, k - 1 = m := ⟨_, rfl⟩
            rw [hm] at Q
            have Q0 := Q
            have HM := Lib.hid (show k = m + 1 by omega); have HMN := Lib.hid (show m < n by omega)
            have hs2 : chainB okRow ltP zR l k = decide (C < 0) := by rw [HST.out, decide_eq_false h0]; simp
            clear hm h0
            by_cases hlt0 : C < 0
            · have HGE := Lib.hid (show decide (0 ≤ C) = false by simp; omega)
              have HJ2 := Lib.hid (show Hid (∀ j, j < k + 1 → chainB okRow ltP zR l j = true) from Lib.hid (HJ0.out (by rw [hs2, decide_eq_true hlt0])))
              clear hs2 hlt0
              refine rol_run (by kernel_rfl) [[], [0], [0, 1], [0, 1, 2], [0, 1, 2, 3], [0, 1, 2, 3, 4], [0, 1, 2, 3, 4, 5], [0, 1, 2, 3, 4, 5, 6], [0, 1, 2, 3, 4, 5, 6, 7], [0, 1, 2, 3, 4, 5, 6, 7, 8], [0, 1, 2, 3, 4, 5, 6, 7, 8, 9], [0, 1, 2, 3, 4, 5, 6, 7, 8, 9, 10], [0, 1, 2, 3, 4, 5, 6, 7, 8, 9, 10, 11], [0, 1, 2, 3, 4, 5, 6, 7, 8, 9, 10, 11, 12], [0, 1, 2, 3, 4, 5, 6, 7, 8, 9, 10, 11, 12, 13], [0, 1, 2, 3, 4, 5, 6, 7, 8, 9, 10, 11, 12, 13], [0, 1, 2, 3, 4, 5, 6, 7, 8, 9, 10, 11, 12, 13, 15], [0, 1, 2, 3, 4, 5, 6, 7, 8, 9, 10, 11, 12, 13, 14, 15, 16], [0, 1, 2, 3, 4, 5, 6, 7, 8, 9, 10, 11, 12, 13, 14, 15, 16, 17], [0, 1, 2, 3, 4, 5, 6, 7, 8, 9, 10, 11, 12, 13, 14, 15, 16, 17, 18], [0, 1, 2, 3, 4, 5, 6, 7, 8, 9, 10, 11, 12, 13], [0, 1, 2, 3, 4, 5, 6, 7, 8, 9, 10, 11, 12, 13, 20], [0, 1, 2, 3, 4, 5, 6, 7, 8, 9, 10, 11, 12, 13, 14, 15, 16, 17, 18, 19, 20, 21], [0, 1, 2, 3, 4, 5, 6, 7, 8, 9, 10, 11, 12, 13, 14, 15, 16, 17, 18, 19, 20, 21, 22], [0, 1, 2, 3, 4, 5, 6, 7, 8, 9, 10, 11, 12, 13, 14, 15, 16, 17, 18, 19, 20, 21, 22, 23], [0, 1, 2, 3, 4, 5, 6, 7, 8, 9, 10, 11, 12, 13, 14, 15, 16, 17, 18, 19, 20, 21, 22, 23, 24]] (by kernel_rfl) [12, 13, 14, 15, 16, 17, 18, 19, 20, 21, 22, 23, 24, 25, 26, 27, 28, 29, 30, 31, 32, 33, 34, 35, 36, 37] [[], [0], [1], [2], [3], [4], [4, 5], [4, 6], [4, 7], [4, 8], [9], [10], [10, 11], [10, 12], [13], [13], [13, 15], [13, 14, 16], [13, 17], [13, 18], [13], [13, 20], [13, 19, 21], [13, 22], [10, 13, 23], [10, 24]] [0, 0, 0, 0, 0, 0, 0, 0, 0, 0, 0, 0, 0, 0, 0, 0, 0, 0, 0, 0, 0, 0, 0, 0, 0, 0] [0, 0, 0, 0, 0, 0, 0, 0, 0, 0, 0, 0, 0, 0, 0, 0, 0, 0, 0, 0, 0, 0, 0, 0, 0, 0] [1000, 1000, 1000, 1000, 1000, 1000, 1000, 1000, 1000, 1000, 1000, 1000, 1000, 1000, 1000, 1000, 1000, 1000, 1000, 1000, 1000, 1000, 1000, 1000, 1000, 1000] [.val 12 (.pointer (some ⟨gk, 0, none⟩)), .val 13 (.string (mkB p)), .val 14 (.bool true), .val 15 (.bool false), .val 16 (.bool false), .val 17 (.pointer (some ⟨gk, 1, none⟩)), .val 18 (.slice ay ny cy), .val 19 (.bool true), .val 20 (.bool false), .val 21 (.bool false), .val 22 (.bool false), .val 23 (.int .i64 (k : Int)), .val 24 (.bool true), .val 25 (.bool true), .val 26 (.slice (some ⟨bl, ol, none⟩) n cl), .val 27 (.int .i64 (k : Int)), .val 28 (.int .i64 (m : Int)), .val 29 (.pointer (some ⟨bl, ol + m * 2, none⟩)), .val 30 (.pointer (some ⟨bl, ol + m * 2, none⟩)), .val 31 (.string (mkB q)), .val 32 (.pointer (some ⟨gk, 0, none⟩)), .val 33 (.string (mkB p)), .val 34 (.int .i64 C), .val 35 (.bool false), .val 36 (.bool false), .val 37 (.bool false)] (by kernel_rfl) ?_ (W5.heap.size) (W5.heap.size) rfl (Below.refl _ _) rfl (fun _ => 0) ?_ ?_ ?_
              · intro j hj
                have hj3 : j < 26 := hj
                have hj2 : j = 0 ∨ j = 1 ∨ j = 2 ∨ j = 3 ∨ j = 4 ∨ j = 5 ∨ j = 6 ∨ j = 7 ∨ j = 8 ∨ j = 9 ∨ j = 10 ∨ j = 11 ∨ j = 12 ∨ j = 13 ∨ j = 14 ∨ j = 15 ∨ j = 16 ∨ j = 17 ∨ j = 18 ∨ j = 19 ∨ j = 20 ∨ j = 21 ∨ j = 22 ∨ j = 23 ∨ j = 24 ∨ j = 25 := by omega
                clear hj hj3
                rcases hj2 with rfl | rfl | rfl | rfl | rfl | rfl | rfl | rfl | rfl | rfl | rfl | rfl | rfl | rfl | rfl | rfl | rfl | rfl | rfl | rfl | rfl | rfl | rfl | rfl | rfl | rfl
                · exact trivial
                · exact trivial
                · exact trivial
                · exact trivial
                · exact trivial
                · exact trivial
                · exact trivial
                · exact trivial
                · exact trivial
                · exact trivial
                · exact trivial
                · exact trivial
                · exact trivial
                · exact trivial
                · exact trivial
                · exact trivial
                · exact trivial
                · exact trivial
                · exact trivial
                · exact trivial
                · exact trivial
                · exact trivial
                · exact trivial
                · exact trivial
                · exact trivial
                · exact trivial
              · intro j hj0 hj
                exact absurd hj (Nat.not_lt.2 hj0)
              · intro i hi a wx who hG hF
                have hz : a.tmps.size = 39 := hG.size
                have hi3 : i < 26 := hi
                have hi2 : i = 0 ∨ i = 1 ∨ i = 2 ∨ i = 3 ∨ i = 4 ∨ i = 5 ∨ i = 6 ∨ i = 7 ∨ i = 8 ∨ i = 9 ∨ i = 10 ∨ i = 11 ∨ i = 12 ∨ i = 13 ∨ i = 14 ∨ i = 15 ∨ i = 16 ∨ i = 17 ∨ i = 18 ∨ i = 19 ∨ i = 20 ∨ i = 21 ∨ i = 22 ∨ i = 23 ∨ i = 24 ∨ i = 25 := by omega
                clear hi hi3
                rcases hi2 with rfl | rfl | rfl | rfl | rfl | rfl | rfl | rfl | rfl | rfl | rfl | rfl | rfl | rfl | rfl | rfl | rfl | rfl | rfl | rfl | rfl | rfl | rfl | rfl | rfl | rfl
                · exact rol_val rfl rfl rfl (by rw [hz]; decide) (ex_field rfl (eval_slot ((hG.slots 4 (by decide)).trans rfl)) (by go_simp)) hG.below
                · exact rol_val rfl rfl rfl (by rw [hz]; decide) (ex_load rfl (eval_slot (hF 0 (by decide))) (ld_strT (cell_keep D0.out hG.below))) hG.below
                · refine rol_call rfl rfl rfl (by rw [hz]; decide) (ex_call rfl (by simp [eval_slot (hF 1 (by decide))]) e1) (KP.out wx) ?_ hG.below (Nat.le_trans HNW.out hG.new)
                  rintro e w1 ⟨rfl, hb1⟩
                  exact ⟨_, rfl, hb1, .inl rfl⟩
                · exact rol_val rfl rfl rfl (by rw [hz]; decide) (ex_un rfl (eval_slot (hF 2 (by decide))) rfl) hG.below
                · exact rol_val rfl rfl rfl (by rw [hz]; decide) (ex_move (Or.inl rfl) (eval_slot (hF 3 (by decide)))) hG.below
                · exact rol_val rfl (want_yes rfl rfl (hF 4 (by decide))) rfl (by rw [hz]; decide) (ex_field rfl (eval_slot ((hG.slots 4 (by decide)).trans rfl)) (by go_simp)) hG.below
                · exact rol_val rfl (want_yes rfl rfl (hF 4 (by decide))) rfl (by rw [hz]; decide) (ex_load rfl (eval_slot (hF 5 (by decide))) (ld_stsT (cell_keep D1.out hG.below))) hG.below
                · refine rol_call rfl (want_yes rfl rfl (hF 4 (by decide))) rfl (by rw [hz]; decide) (ex_call rfl (by simp [eval_slot (hF 6 (by decide))]) e2) (KF.out wx (SY.out.belowB hG.below)) ?_ hG.below (Nat.le_trans HNW.out hG.new)
                  rintro e w1 ⟨rfl, hb1⟩
                  exact ⟨_, rfl, hb1, .inl rfl⟩
                · exact rol_val rfl (want_yes rfl rfl (hF 4 (by decide))) rfl (by rw [hz]; decide) (ex_un rfl (eval_slot (hF 7 (by decide))) rfl) hG.below
                · exact rol_val rfl rfl rfl (by rw [hz]; decide) (ex_pick_no rfl (eval_slot (hF 4 (by decide))) (eval_slot (hF 8 (by decide)))) hG.below
                · exact rol_val rfl rfl rfl (by rw [hz]; decide) (ex_move (Or.inl rfl) (eval_slot (hF 9 (by decide)))) hG.below
                · exact rol_val rfl (want_yes rfl rfl (hF 10 (by decide))) rfl (by rw [hz]; decide) (ex_move (Or.inl rfl) (eval_slot ((hG.slots 3 (by decide)).trans rfl))) hG.below
                · exact rol_val rfl (want_yes rfl rfl (hF 10 (by decide))) rfl (by rw [hz]; decide) (ex_bin rfl (eval_slot (hF 11 (by decide))) rfl (by go_simp) (bin_gtr0 HZ.out)) hG.below
                · exact rol_val rfl (want_yes rfl rfl (hF 10 (by decide))) rfl (by rw [hz]; decide) (ex_move (Or.inl rfl) (eval_slot (hF 12 (by decide)))) hG.below
                · exact rol_val rfl (want_yes rfl rfl (hF 13 (by decide))) rfl (by rw [hz]; decide) (ex_move (Or.inl rfl) (eval_slot ((hG.slots 0 (by decide)).trans rfl))) hG.below
                · exact rol_val rfl (want_yes rfl rfl (hF 13 (by decide))) rfl (by rw [hz]; decide) (ex_move (Or.inl rfl) (eval_slot ((hG.slots 3 (by decide)).trans rfl))) hG.below
                · exact rol_val rfl (want_yes rfl rfl (hF 13 (by decide))) rfl (by rw [hz]; decide) (ex_bin rfl (eval_slot (hF 15 (by decide))) rfl (by go_simp) (bin_sub1 HM.out HKB.out)) hG.below
                · exact rol_val rfl (want_yes rfl rfl (hF 13 (by decide))) rfl (by rw [hz]; decide) (ex_index rfl (eval_slot (hF 14 (by decide))) (eval_slot (hF 16 (by decide))) (idx_rws HMN.out)) hG.below
                · exact rol_val rfl (want_yes rfl rfl (hF 13 (by decide))) rfl (by rw [hz]; decide) (ex_field rfl (eval_slot (hF 17 (by decide))) (by go_simp)) hG.below
                · exact rol_val rfl (want_yes rfl rfl (hF 13 (by decide))) rfl (by rw [hz]; decide) (ex_load rfl (eval_slot (hF 18 (by decide))) (ld_strT (cell_keep Q0.out hG.below))) hG.below
                · exact rol_val rfl (want_yes rfl rfl (hF 13 (by decide))) rfl (by rw [hz]; decide) (ex_field rfl (eval_slot ((hG.slots 4 (by decide)).trans rfl)) (by go_simp)) hG.below
                · exact rol_val rfl (want_yes rfl rfl (hF 13 (by decide))) rfl (by rw [hz]; decide) (ex_load rfl (eval_slot (hF 20 (by decide))) (ld_strT (cell_keep D0.out hG.below))) hG.below
                · refine rol_call rfl (want_yes rfl rfl (hF 13 (by decide))) rfl (by rw [hz]; decide) (ex_call rfl (by simp [eval_slot (hF 19 (by decide)), eval_slot (hF 21 (by decide))]) e3) (KC.out wx) ?_ hG.below (Nat.le_trans HNW.out hG.new)
                  rintro e w1 ⟨rfl, rfl⟩
                  exact ⟨_, rfl, Below.refl _ _, .inl rfl⟩
                · exact rol_val rfl (want_yes rfl rfl (hF 13 (by decide))) rfl (by rw [hz]; decide) (ex_bin rfl (eval_slot (hF 22 (by decide))) rfl (by go_simp) (bin_geq0 HGE.out)) hG.below
                · exact rol_val rfl (want_yes rfl rfl (hF 10 (by decide))) rfl (by rw [hz]; decide) (ex_pick_yes rfl (eval_slot (hF 13 (by decide))) (eval_slot (hF 23 (by decide)))) hG.below
                · exact rol_val rfl rfl rfl (by rw [hz]; decide) (ex_pick_no rfl (eval_slot (hF 10 (by decide))) (eval_slot (hF 24 (by decide)))) hG.below
              · intro a wx who hG hF
                have fv37 : a.tmps.getD 37 undef = .bool false := eval_slot (s := 37) (hF 25 (of_decide_eq_true (by kernel_rfl)) (of_decide_eq_true (by kernel_rfl)))
                have hbx := hG.below
                have hnx := hG.new
                rw [hG.frame]
                simp only [List.foldl_cons, List.foldl_nil, List.setIfInBounds_toArray, List.set_cons_zero, List.set_cons_succ]
                generalize a.tmps.getD 12 undef = u12
                generalize a.tmps.getD 13 undef = u13
                generalize a.tmps.getD 14 undef = u14
                generalize a.tmps.getD 15 undef = u15
                generalize a.tmps.getD 16 undef = u16
                generalize a.tmps.getD 17 undef = u17
                generalize a.tmps.getD 18 undef = u18
                generalize a.tmps.getD 19 undef = u19
                generalize a.tmps.getD 20 undef = u20
                generalize a.tmps.getD 21 undef = u21
                generalize a.tmps.getD 22 undef = u22
                generalize a.tmps.getD 23 undef = u23
                generalize a.tmps.getD 24 undef = u24
                generalize a.tmps.getD 25 undef = u25
                generalize a.tmps.getD 26 undef = u26
                generalize a.tmps.getD 27 undef = u27
                generalize a.tmps.getD 28 undef = u28
                generalize a.tmps.getD 29 undef = u29
                generalize a.tmps.getD 30 undef = u30
                generalize a.tmps.getD 31 undef = u31
                generalize a.tmps.getD 32 undef = u32
                generalize a.tmps.getD 33 undef = u33
                generalize a.tmps.getD 34 undef = u34
                generalize a.tmps.getD 35 undef = u35
                generalize a.tmps.getD 36 undef = u36
                rw [fv37]
                clear hF hG fv37
                have HB6 := Lib.hid (below_step HB5.out hbx)
                clear hbx hnx
                go_wp2
                go_roundw
                case rel => exact ⟨k + 1, by omega, by go_num, HJ2.out, HB6⟩
                case measure => simp [intOf]; omega
            · have HGE := Lib.hid (show decide (0 ≤ C) = true by simp; omega)
              have HNO := Lib.hid (HNO0.out (by rw [hs2, decide_eq_false hlt0]))
              clear hs2 hlt0
              refine rol_run (by kernel_rfl) [[], [0], [0, 1], [0, 1, 2], [0, 1, 2, 3], [0, 1, 2, 3, 4], [0, 1, 2, 3, 4, 5], [0, 1, 2, 3, 4, 5, 6], [0, 1, 2, 3, 4, 5, 6, 7], [0, 1, 2, 3, 4, 5, 6, 7, 8], [0, 1, 2, 3, 4, 5, 6, 7, 8, 9], [0, 1, 2, 3, 4, 5, 6, 7, 8, 9, 10], [0, 1, 2, 3, 4, 5, 6, 7, 8, 9, 10, 11], [0, 1, 2, 3, 4, 5, 6, 7, 8, 9, 10, 11, 12], [0, 1, 2, 3, 4, 5, 6, 7, 8, 9, 10, 11, 12, 13], [0, 1, 2, 3, 4, 5, 6, 7, 8, 9, 10, 11, 12, 13], [0, 1, 2, 3, 4, 5, 6, 7, 8, 9, 10, 11, 12, 13, 15], [0, 1, 2, 3, 4, 5, 6, 7, 8, 9, 10, 11, 12, 13, 14, 15, 16], [0, 1, 2, 3, 4, 5, 6, 7, 8, 9, 10, 11, 12, 13, 14, 15, 16, 17], [0, 1, 2, 3, 4, 5, 6, 7, 8, 9, 10, 11, 12, 13, 14, 15, 16, 17, 18], [0, 1, 2, 3, 4, 5, 6, 7, 8, 9, 10, 11, 12, 13], [0, 1, 2, 3, 4, 5, 6, 7, 8, 9, 10, 11, 12, 13, 20], [0, 1, 2, 3, 4, 5, 6, 7, 8, 9, 10, 11, 12, 13, 14, 15, 16, 17, 18, 19, 20, 21], [0, 1, 2, 3, 4, 5, 6, 7, 8, 9, 10, 11, 12, 13, 14, 15, 16, 17, 18, 19, 20, 21, 22], [0, 1, 2, 3, 4, 5, 6, 7, 8, 9, 10, 11, 12, 13, 14, 15, 16, 17, 18, 19, 20, 21, 22, 23], [0, 1, 2, 3, 4, 5, 6, 7, 8, 9, 10, 11, 12, 13, 14, 15, 16, 17, 18, 19, 20, 21, 22, 23, 24]] (by kernel_rfl) [12, 13, 14, 15, 16, 17, 18, 19, 20, 21, 22, 23, 24, 25, 26, 27, 28, 29, 30, 31, 32, 33, 34, 35, 36, 37] [[], [0], [1], [2], [3], [4], [4, 5], [4, 6], [4, 7], [4, 8], [9], [10], [10, 11], [10, 12], [13], [13], [13, 15], [13, 14, 16], [13, 17], [13, 18], [13], [13, 20], [13, 19, 21], [13, 22], [10, 13, 23], [10, 24]] [0, 0, 0, 0, 0, 0, 0, 0, 0, 0, 0, 0, 0, 0, 0, 0, 0, 0, 0, 0, 0, 0, 0, 0, 0, 0] [0, 0, 0, 0, 0, 0, 0, 0, 0, 0, 0, 0, 0, 0, 0, 0, 0, 0, 0, 0, 0, 0, 0, 0, 0, 0] [1000, 1000, 1000, 1000, 1000, 1000, 1000, 1000, 1000, 1000, 1000, 1000, 1000, 1000, 1000, 1000, 1000, 1000, 1000, 1000, 1000, 1000, 1000, 1000, 1000, 1000] [.val 12 (.pointer (some ⟨gk, 0, none⟩)), .val 13 (.string (mkB p)), .val 14 (.bool true), .val 15 (.bool false), .val 16 (.bool false), .val 17 (.pointer (some ⟨gk, 1, none⟩)), .val 18 (.slice ay ny cy), .val 19 (.bool true), .val 20 (.bool false), .val 21 (.bool false), .val 22 (.bool false), .val 23 (.int .i64 (k : Int)), .val 24 (.bool true), .val 25 (.bool true), .val 26 (.slice (some ⟨bl, ol, none⟩) n cl), .val 27 (.int .i64 (k : Int)), .val 28 (.int .i64 (m : Int)), .val 29 (.pointer (some ⟨bl, ol + m * 2, none⟩)), .val 30 (.pointer (some ⟨bl, ol + m * 2, none⟩)), .val 31 (.string (mkB q)), .val 32 (.pointer (some ⟨gk, 0, none⟩)), .val 33 (.string (mkB p)), .val 34 (.int .i64 C), .val 35 (.bool true), .val 36 (.bool true), .val 37 (.bool true)] (by kernel_rfl) ?_ (W5.heap.size) (W5.heap.size) rfl (Below.refl _ _) rfl (fun _ => 0) ?_ ?_ ?_
              · intro j hj
                have hj3 : j < 26 := hj
                have hj2 : j = 0 ∨ j = 1 ∨ j = 2 ∨ j = 3 ∨ j = 4 ∨ j = 5 ∨ j = 6 ∨ j = 7 ∨ j = 8 ∨ j = 9 ∨ j = 10 ∨ j = 11 ∨ j = 12 ∨ j = 13 ∨ j = 14 ∨ j = 15 ∨ j = 16 ∨ j = 17 ∨ j = 18 ∨ j = 19 ∨ j = 20 ∨ j = 21 ∨ j = 22 ∨ j = 23 ∨ j = 24 ∨ j = 25 := by omega
                clear hj hj3
                rcases hj2 with rfl | rfl | rfl | rfl | rfl | rfl | rfl | rfl | rfl | rfl | rfl | rfl | rfl | rfl | rfl | rfl | rfl | rfl | rfl | rfl | rfl | rfl | rfl | rfl | rfl | rfl
                · exact trivial
                · exact trivial
                · exact trivial
                · exact trivial
                · exact trivial
                · exact trivial
                · exact trivial
                · exact trivial
                · exact trivial
                · exact trivial
                · exact trivial
                · exact trivial
                · exact trivial
                · exact trivial
                · exact trivial
                · exact trivial
                · exact trivial
                · exact trivial
                · exact trivial
                · exact trivial
                · exact trivial
                · exact trivial
                · exact trivial
                · exact trivial
                · exact trivial
                · exact trivial
              · intro j hj0 hj
                exact absurd hj (Nat.not_lt.2 hj0)
              · intro i hi a wx who hG hF
                have hz : a.tmps.size = 39 := hG.size
                have hi3 : i < 26 := hi
                have hi2 : i = 0 ∨ i = 1 ∨ i = 2 ∨ i = 3 ∨ i = 4 ∨ i = 5 ∨ i = 6 ∨ i = 7 ∨ i = 8 ∨ i = 9 ∨ i = 10 ∨ i = 11 ∨ i = 12 ∨ i = 13 ∨ i = 14 ∨ i = 15 ∨ i = 16 ∨ i = 17 ∨ i = 18 ∨ i = 19 ∨ i = 20 ∨ i = 21 ∨ i = 22 ∨ i = 23 ∨ i = 24 ∨ i = 25 := by omega
                clear hi hi3
                rcases hi2 with rfl | rfl | rfl | rfl | rfl | rfl | rfl | rfl | rfl | rfl | rfl | rfl | rfl | rfl | rfl | rfl | rfl | rfl | rfl | rfl | rfl | rfl | rfl | rfl | rfl | rfl
                · exact rol_val rfl rfl rfl (by rw [hz]; decide) (ex_field rfl (eval_slot ((hG.slots 4 (by decide)).trans rfl)) (by go_simp)) hG.below
                · exact rol_val rfl rfl rfl (by rw [hz]; decide) (ex_load rfl (eval_slot (hF 0 (by decide))) (ld_strT (cell_keep D0.out hG.below))) hG.below
                · refine rol_call rfl rfl rfl (by rw [hz]; decide) (ex_call rfl (by simp [eval_slot (hF 1 (by decide))]) e1) (KP.out wx) ?_ hG.below (Nat.le_trans HNW.out hG.new)
                  rintro e w1 ⟨rfl, hb1⟩
                  exact ⟨_, rfl, hb1, .inl rfl⟩
                · exact rol_val rfl rfl rfl (by rw [hz]; decide) (ex_un rfl (eval_slot (hF 2 (by decide))) rfl) hG.below
                · exact rol_val rfl rfl rfl (by rw [hz]; decide) (ex_move (Or.inl rfl) (eval_slot (hF 3 (by decide)))) hG.below
                · exact rol_val rfl (want_yes rfl rfl (hF 4 (by decide))) rfl (by rw [hz]; decide) (ex_field rfl (eval_slot ((hG.slots 4 (by decide)).trans rfl)) (by go_simp)) hG.below
                · exact rol_val rfl (want_yes rfl rfl (hF 4 (by decide))) rfl (by rw [hz]; decide) (ex_load rfl (eval_slot (hF 5 (by decide))) (ld_stsT (cell_keep D1.out hG.below))) hG.below
                · refine rol_call rfl (want_yes rfl rfl (hF 4 (by decide))) rfl (by rw [hz]; decide) (ex_call rfl (by simp [eval_slot (hF 6 (by decide))]) e2) (KF.out wx (SY.out.belowB hG.below)) ?_ hG.below (Nat.le_trans HNW.out hG.new)
                  rintro e w1 ⟨rfl, hb1⟩
                  exact ⟨_, rfl, hb1, .inl rfl⟩
                · exact rol_val rfl (want_yes rfl rfl (hF 4 (by decide))) rfl (by rw [hz]; decide) (ex_un rfl (eval_slot (hF 7 (by decide))) rfl) hG.below
                · exact rol_val rfl rfl rfl (by rw [hz]; decide) (ex_pick_no rfl (eval_slot (hF 4 (by decide))) (eval_slot (hF 8 (by decide)))) hG.below
                · exact rol_val rfl rfl rfl (by rw [hz]; decide) (ex_move (Or.inl rfl) (eval_slot (hF 9 (by decide)))) hG.below
                · exact rol_val rfl (want_yes rfl rfl (hF 10 (by decide))) rfl (by rw [hz]; decide) (ex_move (Or.inl rfl) (eval_slot ((hG.slots 3 (by decide)).trans rfl))) hG.below
                · exact rol_val rfl (want_yes rfl rfl (hF 10 (by decide))) rfl (by rw [hz]; decide) (ex_bin rfl (eval_slot (hF 11 (by decide))) rfl (by go_simp) (bin_gtr0 HZ.out)) hG.below
                · exact rol_val rfl (want_yes rfl rfl (hF 10 (by decide))) rfl (by rw [hz]; decide) (ex_move (Or.inl rfl) (eval_slot (hF 12 (by decide)))) hG.below
                · exact rol_val rfl (want_yes rfl rfl (hF 13 (by decide))) rfl (by rw [hz]; decide) (ex_move (Or.inl rfl) (eval_slot ((hG.slots 0 (by decide)).trans rfl))) hG.below
                · exact rol_val rfl (want_yes rfl rfl (hF 13 (by decide))) rfl (by rw [hz]; decide) (ex_move (Or.inl rfl) (eval_slot ((hG.slots 3 (by decide)).trans rfl))) hG.below
                · exact rol_val rfl (want_yes rfl rfl (hF 13 (by decide))) rfl (by rw [hz]; decide) (ex_bin rfl (eval_slot (hF 15 (by decide))) rfl (by go_simp) (bin_sub1 HM.out HKB.out)) hG.below
                · exact rol_val rfl (want_yes rfl rfl (hF 13 (by decide))) rfl (by rw [hz]; decide) (ex_index rfl (eval_slot (hF 14 (by decide))) (eval_slot (hF 16 (by decide))) (idx_rws HMN.out)) hG.below
                · exact rol_val rfl (want_yes rfl rfl (hF 13 (by decide))) rfl (by rw [hz]; decide) (ex_field rfl (eval_slot (hF 17 (by decide))) (by go_simp)) hG.below
                · exact rol_val rfl (want_yes rfl rfl (hF 13 (by decide))) rfl (by rw [hz]; decide) (ex_load rfl (eval_slot (hF 18 (by decide))) (ld_strT (cell_keep Q0.out hG.below))) hG.below
                · exact rol_val rfl (want_yes rfl rfl (hF 13 (by decide))) rfl (by rw [hz]; decide) (ex_field rfl (eval_slot ((hG.slots 4 (by decide)).trans rfl)) (by go_simp)) hG.below
                · exact rol_val rfl (want_yes rfl rfl (hF 13 (by decide))) rfl (by rw [hz]; decide) (ex_load rfl (eval_slot (hF 20 (by decide))) (ld_strT (cell_keep D0.out hG.below))) hG.below
                · refine rol_call rfl (want_yes rfl rfl (hF 13 (by decide))) rfl (by rw [hz]; decide) (ex_call rfl (by simp [eval_slot (hF 19 (by decide)), eval_slot (hF 21 (by decide))]) e3) (KC.out wx) ?_ hG.below (Nat.le_trans HNW.out hG.new)
                  rintro e w1 ⟨rfl, rfl⟩
                  exact ⟨_, rfl, Below.refl _ _, .inl rfl⟩
                · exact rol_val rfl (want_yes rfl rfl (hF 13 (by decide))) rfl (by rw [hz]; decide) (ex_bin rfl (eval_slot (hF 22 (by decide))) rfl (by go_simp) (bin_geq0 HGE.out)) hG.below
                · exact rol_val rfl (want_yes rfl rfl (hF 10 (by decide))) rfl (by rw [hz]; decide) (ex_pick_yes rfl (eval_slot (hF 13 (by decide))) (eval_slot (hF 23 (by decide)))) hG.below
                · exact rol_val rfl rfl rfl (by rw [hz]; decide) (ex_pick_no rfl (eval_slot (hF 10 (by decide))) (eval_slot (hF 24 (by decide)))) hG.below
              · intro a wx who hG hF
                have fv37 : a.tmps.getD 37 undef = .bool true := eval_slot (s := 37) (hF 25 (of_decide_eq_true (by kernel_rfl)) (of_decide_eq_true (by kernel_rfl)))
                have hbx := hG.below
                have hnx := hG.new
                rw [hG.frame]
                simp only [List.foldl_cons, List.foldl_nil, List.setIfInBounds_toArray, List.set_cons_zero, List.set_cons_succ]
                generalize a.tmps.getD 12 undef = u12
                generalize a.tmps.getD 13 undef = u13
                generalize a.tmps.getD 14 undef = u14
                generalize a.tmps.getD 15 undef = u15
                generalize a.tmps.getD 16 undef = u16
                generalize a.tmps.getD 17 undef = u17
                generalize a.tmps.getD 18 undef = u18
                generalize a.tmps.getD 19 undef = u19
                generalize a.tmps.getD 20 undef = u20
                generalize a.tmps.getD 21 undef = u21
                generalize a.tmps.getD 22 undef = u22
                generalize a.tmps.getD 23 undef = u23
                generalize a.tmps.getD 24 undef = u24
                generalize a.tmps.getD 25 undef = u25
                generalize a.tmps.getD 26 undef = u26
                generalize a.tmps.getD 27 undef = u27
                generalize a.tmps.getD 28 undef = u28
                generalize a.tmps.getD 29 undef = u29
                generalize a.tmps.getD 30 undef = u30
                generalize a.tmps.getD 31 undef = u31
                generalize a.tmps.getD 32 undef = u32
                generalize a.tmps.getD 33 undef = u33
                generalize a.tmps.getD 34 undef = u34
                generalize a.tmps.getD 35 undef = u35
                generalize a.tmps.getD 36 undef = u36
                rw [fv37]
                clear hF hG fv37
                have HB6 := Lib.hid (below_step HB5.out hbx)
                clear hbx hnx
                go_wp2
                go_ret
                exact ⟨by rw [HNO.out]; rfl, HB6.out⟩
    · have e : k = n := by omega
      subst e
      have hy : okR l = true := okR_len HJ.out (by rw [HN.out]; exact Nat.le_refl _)
      have HT2 := Lib.hid (show T = 0 by rw [← HT.out, if_pos hy])
      clear hy
      go_wp2
      go_ret
      exact ⟨by rw [HT2.out]; rfl, HB.out⟩
end Go.Proofs.YtlbibgofhhdgoaaGreat

namespace Go.Proofs.YtlbibgofhhdgoaaGreat
open Go.RowKit
set_option linter.unusedVariables false
set_option maxRecDepth 100000

end Go.Proofs.YtlbibgofhhdgoaaGreat

namespace Go.Proofs.YtlbibgofhhdgoaaGreat
open Go.RowKit
set_option linter.unusedVariables false
set_option maxRecDepth 100000

/-! ### A path's versions -/
/-! ### Where a version is -/
end Go.Proofs.YtlbibgofhhdgoaaGreat

namespace Go.Proofs.YtlbibgofhhdgoaaGreat
open Go.RowKit
set_option linter.unusedVariables false
set_option maxRecDepth 100000

section
variable {α : Type}
end
/-! ### Taken out -/
end Go.Proofs.YtlbibgofhhdgoaaGreat

namespace Go.Proofs.YtlbibgofhhdgoaaGreat
open Go.RowKit
set_option linter.unusedVariables false
set_option maxRecDepth 100000

theorem own_form {w : World} {base : Nat} {e : TypeId} {size : Nat} {v : Value} {n : Nat} {xs : List Value} (h : w.ownsRow base e size v n xs) : ∃ a c, v = .slice a n c := by
  rcases h.2 with ⟨rfl, rfl⟩ | ⟨g, cap, cur, rfl, _⟩
  · exact ⟨_, _, rfl⟩
  · exact ⟨_, _, rfl⟩
section
variable {wr : World} {ops : Array Oper} {rest : List Oper} {o : Oper} {a : Act} {Q : Exit → Act → World → Prop}
end
theorem RwI.len {w : World} {lo : Nat} {ys : List Value} {rs : List Rw} (h : RwI w lo ys rs) : ys.length = rs.length := h.1

end Go.Proofs.YtlbibgofhhdgoaaGreat

namespace Go.Proofs.YtlbibgofhhdgoaaGreat
open Go.RowKit
set_option linter.unusedVariables false
set_option maxRecDepth 100000

section
variable {P : Program} {ops : Array Oper} {Q : Exit → Act → World → Prop} {a : Act} {w w0 : World} {who : Nat → Nat} {i B r ro : Nat} {o : Oper}
end
end Go.Proofs.YtlbibgofhhdgoaaGreat

namespace Go.Proofs.YtlbibgofhhdgoaaGreat
open Go.RowKit
set_option linter.unusedVariables false
set_option maxRecDepth 100000

theorem blk_nds {w : World} {b : Nat} {p v : List UInt8} (hh : w.heap[b]? = some (.cells #[.string (mkB p), .string (mkB v)] 55 (0, 0))) : Nds w (.slice (some ⟨b, 0, none⟩) 1 1) [(p, v)] := by
  obtain ⟨c0, c1, _, _⟩ := row2 hh
  exact ⟨some ⟨b, 0, none⟩, 1, rfl, Nat.le_refl _, by unfold maxLen; omega, (fun h => by cases h), fun _ => ⟨b, 0, rfl, (Array.getElem?_eq_some_iff.1 hh).1, fun j hj => by
    have hj2 : j = 0 := by simp at hj; omega
    subst hj2
    exact ⟨c0, c1⟩⟩⟩
theorem run_app_ndT {w : World} {base n : Nat} {v : Value} {K : List Nd} (hown : w.ownsRow base 55 2 v n (ndsC K)) {ad : Addr} {m c : Nat} {L : List Nd} (hN : Nds w (.slice (some ad) m c) L) (hlen : n + m ≤ 200000000) (hbase : base ≤ w.heap.size) (t : TypeId) :
    ∃ v' w', (Builtin.append_ #[22, 22] t #[v, .slice (some ad) m c]).run Tryz.prog w = .ok v' w' ∧ w'.ownsRow base 55 2 v' (n + m) (ndsC (K ++ L)) ∧ w.grownBy w' v.ownBlock := by
  obtain ⟨i, hi, hz, hsize, hby⟩ := info_parts Tryz.info_node
  obtain ⟨v', w', hr, h2, h3, _, _⟩ := run_append_own_at (P := Tryz.prog) w base 22 t 55 i (.agg #[.string ByteArray.empty, .string ByteArray.empty]) 2 32 Tryz.underlying22 hi hz hsize hby rfl (by decide) v n _ hown ad m c (ndsC L) (by rw [ndsC_len, hN.lenE.1]) (hN.src ad rfl) (fun u hu => List.all_eq_true.1 (ndsC_one L) u hu) (by unfold maxLen; omega) (by omega) hbase
  rw [← ndsC_app] at h2
  exact ⟨v', w', hr, h2, h3⟩
section
variable {wr : World} {ops : Array Oper} {rest : List Oper} {o : Oper} {a : Act} {Q : Exit → Act → World → Prop}
/-- 'l = append(l, n)', l the call's own: the node has just been laid in a block of its own. -/
theorem wpList_push_ndT (hgd : o.guard = none) (s x : Operand) (ho : o.op = .call { callee := .builtin .append, args := #[s, x], argTypes := #[22, 22] })
    (base : Nat) (V : Value) (K : List Nd) (n : Nat) (hs : a.eval s = V) (hown : wr.ownsRow base 55 2 V n (ndsC K)) (p v : List UInt8) (N : Nat) (hN : wr.heap.size = N) (hx : a.eval x = .slice (some ⟨N, 0, none⟩) 1 1) (hlen : n ≤ 100000000) (hbase : base ≤ wr.heap.size)
    (h : ∀ a' c' w', w'.ownsRow base 55 2 (.slice a' (n + 1) c') (n + 1) (ndsC (K ++ [(p, v)])) → wr.grownBy w' V.ownBlock → wpList Tryz.prog ops Q rest (a.put o.dst (.slice a' (n + 1) c')) w') :
    wpList Tryz.prog ops Q (o :: rest) a (wr.alloc (.cells #[.string (mkB p), .string (mkB v)] 55)) := by
  subst hN
  refine wpList_plain hgd fun K' hK' => ?_
  obtain ⟨v', w', hr, h2, h3⟩ := run_app_ndT (hown.alloc (.cells #[.string (mkB p), .string (mkB v)] 55)) (blk_nds (heap_alloc_new wr (.cells #[.string (mkB p), .string (mkB v)] 55))) (m := 1) (c := 1) (by omega) (by simp; omega) o.type
  obtain ⟨a', c', rfl⟩ := own_form h2
  have hk := h a' c' w' h2 ((World.grownBy_alloc wr _ _).trans h3)
  unfold Oper.wp
  simp [execOp, ho, resolve, invoke, builtin, hs, hx, hr, Result.andThen]
  exact hK' _ _ hk
end
/-! ### The last version -/
end Go.Proofs.YtlbibgofhhdgoaaGreat
