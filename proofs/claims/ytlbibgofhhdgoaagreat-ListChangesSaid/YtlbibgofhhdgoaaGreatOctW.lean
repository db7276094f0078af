/- A region that draws its order, by what each operation leaves and what it finds: each is kept by the others. -/
import Derived.Test.YtlbibgofhhdgoaaGreatOctO
import Derived.Orders
namespace Go.Proofs.YtlbibgofhhdgoaaGreat
open Go.RowKit
set_option maxRecDepth 100000

theorem lane_count {l : Array Bool} {i : Nat} (h : l.getD i true = false) : (l.setIfInBounds i true).toList.count false + 1 = l.toList.count false := by
  obtain ⟨l⟩ := l
  rw [Array.toList_setIfInBounds]
  have hi : i < l.length := by
    by_cases hi : i < l.length
    · exact hi
    · rw [Array.getD_eq_getD_getElem?] at h
      simp [List.getElem?_eq_none (Nat.le_of_not_lt hi)] at h
  have hv : l[i] = false := by
    rw [Array.getD_eq_getD_getElem?] at h
    simpa [List.getElem?_eq_getElem hi] using h
  have hc : 0 < l.count false := List.count_pos_iff.2 (hv ▸ List.getElem_mem hi)
  simp only
  rw [List.count_set hi, hv]
  simp
  omega
theorem lane_inv {P : Program} {md : Region.Mode} {ops : Array Oper} {Q : Exit → Act → World → Prop} (I : Array Bool → Act → World → Prop)
    (hstep : ∀ listed a w i, listed.size = ops.size → i ∈ Region.ready md ops listed → I listed a w → wpOp P ops Q i (I (listed.setIfInBounds i true)) a w)
    (hend : ∀ listed a w, listed.size = ops.size → Region.ready md ops listed = [] → I listed a w → Q .normal a w) :
    ∀ (fuel : Nat) (listed : Array Bool) (a : Act) (w : World), listed.size = ops.size → listed.toList.count false ≤ fuel → I listed a w → wpAny P md ops Q fuel listed a w := by
  intro fuel
  induction fuel with
  | zero =>
    intro listed a w hs hc hI
    have hr : Region.ready md ops listed = [] := by
      rw [List.eq_nil_iff_forall_not_mem]
      intro i hi
      have h := lane_count (mem_ready.1 hi).1
      omega
    exact ⟨hr, hend _ _ _ hs hr hI⟩
  | succ fuel ih =>
    intro listed a w hs hc hI
    refine ⟨fun hr => hend _ _ _ hs hr hI, fun i hi => ?_⟩
    refine wpOp_mono (fun a' w' h => ih _ a' w' ?_ ?_ h) (hstep _ _ _ i hs hi hI)
    · rw [Array.size_setIfInBounds]; exact hs
    · have h := lane_count (mem_ready.1 hi).1
      omega

/-- What stands ahead of an operation, told by the region itself. -/
def laneDeps (ops : Array Oper) (i : Nat) : List Nat := match ops[i]? with
  | some o => o.after.toList.filterMap fun e => if Region.binds .any e then some e.on else none
  | none => []
def laneGood (ops : Array Oper) (deps : List (List Nat)) : Bool :=
  (List.range ops.size).all fun i => ((deps.getD i []).all fun d => decide (d < i) && ((laneDeps ops i).contains d || (laneDeps ops i).any fun e => (deps.getD e []).contains d)) && (laneDeps ops i).all fun e => decide (e < i)

theorem lane_set {l : Array Bool} {i j : Nat} (h : (l.setIfInBounds i true).getD j true = true) (hne : j ≠ i) : l.getD j true = true := by
  rwa [getD_set_ne true (Ne.symm hne)] at h
theorem getD_false {l : Array Bool} {j : Nat} (h : l.getD j false = true) : l.getD j true = true := by
  rw [Array.getD_eq_getD_getElem?] at h ⊢
  cases e : l[j]? with
  | none => rfl
  | some b => rw [e] at h; simpa using h
theorem getD_true {l : Array Bool} {j : Nat} (hj : j < l.size) (h : l.getD j true = true) : l.getD j false = true := by
  rw [Array.getD_eq_getD_getElem?] at h ⊢
  rw [Array.getElem?_eq_getElem hj] at h ⊢
  exact h
theorem mem_laneDeps {ops : Array Oper} {i d : Nat} {o : Oper} (ho : ops[i]? = some o) : d ∈ laneDeps ops i ↔ ∃ e ∈ o.after, Region.binds .any e = true ∧ e.on = d := by
  unfold laneDeps
  rw [ho]
  simp only [List.mem_filterMap, Array.mem_toList_iff]
  constructor
  · rintro ⟨e, he, h⟩
    by_cases hb : Region.binds .any e = true
    · rw [if_pos hb] at h; exact ⟨e, he, hb, Option.some.inj h⟩
    · rw [if_neg hb] at h; cases h
  · rintro ⟨e, he, hb, rfl⟩
    exact ⟨e, he, by rw [if_pos hb]⟩

end Go.Proofs.YtlbibgofhhdgoaaGreat
