/- What regions by lanes and roles, and laws on memory, have in common. -/
import Derived.Test.YtlbibgofhhdgoaaGreatOctW
import Derived.Maps.AppendAt
namespace Go.Proofs.YtlbibgofhhdgoaaGreat
open Go.RowKit
set_option maxRecDepth 100000

theorem cell_alloc {w : World} {p : Addr} {v : Value} (h : w.cell? p = some v) (o : Obj) : (w.alloc o).cell? p = some v := cell_keep h ((Below.refl _ _).alloc (Nat.le_refl _) o)
theorem cell_new {X : World} {cs : Array Value} {t : TypeId} {i n : Nat} {v : Value} (hn : n = X.heap.size) (hv : cs[i]? = some v) : (X.alloc (.cells cs t)).cell? ⟨n, i, none⟩ = some v := by
  subst hn; rw [World.cell?_alloc_new]; exact hv
theorem cell_drew {w : World} {p : Addr} {v : Value} (h : w.cell? p = some v) : w.drew.cell? p = some v := h
theorem addr_add (b off j : Nat) : (⟨b, off, none⟩ : Addr).add j = ⟨b, off + j, none⟩ := by unfold Addr.add; split <;> simp_all
theorem ownsRow_belowB {w w' : World} {base : Nat} {e : TypeId} {size : Nat} {v : Value} {n : Nat} {xs : List Value} (h : w.ownsRow base e size v n xs) (hb : Below w.heap.size w w') : w'.ownsRow base e size v n xs := by
  obtain ⟨h1, h2⟩ := h
  refine ⟨h1, h2.imp id ?_⟩
  rintro ⟨g, cap, cur, hv, hg, hh, h3⟩
  exact ⟨g, cap, cur, hv, hg, (hb.block g (Array.getElem?_eq_some_iff.1 hh).1).trans hh, h3⟩
theorem row_base {w : World} {base base' : Nat} {e : TypeId} {size : Nat} {v : Value} {n : Nat} {xs : List Value} (h : w.ownsRow base e size v n xs) (hb : base' ≤ base) : w.ownsRow base' e size v n xs := by
  obtain ⟨h1, h2⟩ := h
  refine ⟨h1, h2.imp id ?_⟩
  rintro ⟨b, cap, cur, hv, hg, h3⟩
  exact ⟨b, cap, cur, hv, Nat.le_trans hb hg, h3⟩
/-! ### Lanes -/
theorem put_other {a : Act} {dst : Option Nat} {v : Value} {s : Nat} (h : dst ≠ some s) : (a.put dst v).tmps[s]? = a.tmps[s]? := by
  cases dst with
  | none => rfl
  | some d => simp only [Act.put]; exact Array.getElem?_setIfInBounds_ne (fun e => h (by rw [e]))
theorem put_self {a : Act} {d : Nat} (v : Value) (h : d < a.tmps.size) : (a.put (some d) v).tmps[d]? = some v := by
  simp only [Act.put]; exact Array.getElem?_setIfInBounds_self_of_lt h
/-- What no operation of the region turns. -/
structure Lane (a0 : Act) (S : List Nat) (B N : Nat) (w0 : World) (a : Act) (w : World) : Prop where
  defers : a.defers = []
  size : a.tmps.size = a0.tmps.size
  slots : ∀ s, s ∉ S → a.tmps[s]? = a0.tmps[s]?
  below : Below B w0 w
  new : N ≤ w.heap.size
theorem Lane.put {a0 : Act} {S : List Nat} {B N : Nat} {w0 w w' : World} {a : Act} (h : Lane a0 S B N w0 a w) {dst : Option Nat} (v : Value) (hd : ∀ d, dst = some d → d ∈ S) (hb : Below B w0 w') (hn : w.heap.size ≤ w'.heap.size) : Lane a0 S B N w0 (a.put dst v) w' := by
  refine ⟨?_, ?_, fun s hs => ?_, hb, Nat.le_trans h.new hn⟩
  · cases dst <;> exact h.defers
  · cases dst with
    | none => exact h.size
    | some d => simp only [Act.put, Array.size_setIfInBounds]; exact h.size
  · rw [put_other (fun e => hs (hd s e))]; exact h.slots s hs
theorem lane_start {a : Act} (hd : a.defers = []) (S : List Nat) {B : Nat} {w0 w : World} (hb : Below B w0 w) : Lane a S B w.heap.size w0 a w.drew := ⟨hd, rfl, fun _ _ => rfl, hb.drew, Nat.le_refl _⟩
/-- The frame, its slots of the region unknown. -/
theorem Lane.frame {a0 : Act} {S : List Nat} {B N : Nat} {w0 w : World} {a : Act} (h : Lane a0 S B N w0 a w) : a = { tmps := S.foldl (fun t s => t.setIfInBounds s (a.tmps.getD s undef)) a0.tmps, defers := [] } := by
  have key : ∀ (S : List Nat) (t : Array Value), t.size = a.tmps.size → (∀ s, s ∉ S → a.tmps[s]? = t[s]?) → a.tmps = S.foldl (fun t s => t.setIfInBounds s (a.tmps.getD s undef)) t := by
    intro S
    induction S with
    | nil =>
      intro t hs ht
      apply Array.ext_getElem?
      intro i; exact ht i (by simp)
    | cons x S ih =>
      intro t hs ht
      rw [List.foldl_cons]
      refine ih _ (by rw [Array.size_setIfInBounds]; exact hs) fun s hsS => ?_
      by_cases hx : x = s
      · subst hx
        by_cases hlt : x < t.size
        · rw [Array.getElem?_setIfInBounds_self_of_lt hlt, Array.getD_eq_getD_getElem?]
          rw [Array.getElem?_eq_getElem (by omega)]; rfl
        · rw [Array.getElem?_eq_none (by omega), Array.getElem?_eq_none (by rw [Array.size_setIfInBounds]; omega)]
      · rw [Array.getElem?_setIfInBounds_ne hx]
        exact ht s (by simp [hsS, Ne.symm hx])
  have h1 := key S a0.tmps h.size.symm h.slots
  have h2 := h.defers
  cases a
  simp only at h1 h2
  rw [← h1, h2]
def dstOf (ops : Array Oper) (i : Nat) : Option Nat := (ops[i]?).bind (·.dst)
theorem eval_slot {a : Act} {s : Nat} {v : Value} (h : a.tmps[s]? = some v) : a.eval (.tmp s) = v := by
  simp only [Act.eval, Array.getD_eq_getD_getElem?, h, Option.getD_some]
section
variable {P : Program} {ops : Array Oper} {Q : Exit → Act → World → Prop} {K : Act → World → Prop} {a : Act} {w : World} {i : Nat} {o : Oper}
end
theorem own_lt {w : World} {base : Nat} {e : TypeId} {size : Nat} {v : Value} {n : Nat} {xs : List Value} (h : w.ownsRow base e size v n xs) {b : Nat} (hb : v.ownBlock = some b) : base ≤ b ∧ b < w.heap.size := h.lt b hb
section
variable {P : Program}
end
theorem row2 {w : World} {g : Nat} {x0 x1 : Value} {t : TypeId} (h : w.heap[g]? = some (.cells #[x0, x1] t (0, 0))) :
    w.cell? ⟨g, 0, none⟩ = some x0 ∧ w.cell? ⟨g, 1, none⟩ = some x1 ∧ w.frozen? ⟨g, 0, none⟩ = false ∧ w.frozen? ⟨g, 1, none⟩ = false := by
  simp [World.cell?, World.frozen?, h]
theorem row2_set {w : World} {g : Nat} {x0 x1 : Value} {t : TypeId} (h : w.heap[g]? = some (.cells #[x0, x1] t (0, 0))) (y0 y1 : Value) :
    ((w.setCell ⟨g, 0, none⟩ y0).setCell ⟨g, 1, none⟩ y1).heap[g]? = some (.cells #[y0, y1] t (0, 0)) := by
  simp [World.setCell, Array.getElem?_modify, h]
end Go.Proofs.YtlbibgofhhdgoaaGreat
