/- The region of VersionSteps that draws 26 operations. -/
import Derived.Test.YtcdflfjbdbofcaaVerV
namespace Go.Proofs.Ytcdflfjbdbofcaa
open Go.RowKit

def regionOf (id : Nat) : Code → Option (Array Oper)
  | .region i ops _ => if i = id then some ops else none
  | .seq x y => (regionOf id x).orElse fun _ => regionOf id y
  | .cond _ x y => (regionOf id x).orElse fun _ => regionOf id y
  | .block _ c => regionOf id c
  | .loop c => regionOf id c
  | .scope c => regionOf id c
  | _ => none
noncomputable def ops21 : Array Oper := ((Try.f7.body).bind (regionOf 21)).getD #[]
def need21 : Nat → List Nat
  | 2 => [1]
  | 3 => [0, 2]
  | 5 => [4]
  | 6 => [5]
  | 7 => [6]
  | 8 => [7]
  | 9 => [8]
  | 10 => [3, 9]
  | 13 => [12]
  | 14 => [11, 13, 10]
  | 16 => [15]
  | 17 => [16]
  | 18 => [17]
  | 19 => [18]
  | 20 => [19]
  | 21 => [14, 20]
  | 23 => [22, 10]
  | 25 => [24, 21]
  | _ => []
theorem need21_ok : ((List.range 26).all fun i => (need21 i).all fun d => (ops21[i]?).any fun o => o.after.any fun e => Region.binds .any e && e.on == d) = true := by kernel_rfl
theorem size21 : ops21.size = 26 := by kernel_rfl
theorem rdy21 {listed : Array Bool} {i : Nat} (h : i ∈ Region.ready .any ops21 listed) : i < 26 ∧ listed.getD i true = false ∧ ∀ d ∈ need21 i, listed.getD d false = true := by
  have h1 := ready_out h
  rw [size21] at h1
  refine ⟨h1.1, h1.2, fun d hd => ?_⟩
  have h2 := need21_ok
  simp only [List.all_eq_true, List.mem_range] at h2
  have h3 := h2 i h1.1 d hd
  unfold Region.ready at h
  simp only [List.mem_filter, List.mem_range, Bool.and_eq_true, Bool.not_eq_true'] at h
  obtain ⟨_, _, h4⟩ := h
  cases ho : ops21[i]? with
  | none => rw [ho] at h3; cases h3
  | some o =>
    rw [ho] at h3 h4
    simp only [Option.any_some, Array.any_eq_true', Bool.and_eq_true, beq_iff_eq] at h3
    simp only [Option.map_some, Option.getD_some, Array.all_eq_true', Bool.or_eq_true, Bool.not_eq_true'] at h4
    obtain ⟨e, he, hb, rfl⟩ := h3
    rcases h4 e he with h5 | h5
    · rw [hb] at h5; cases h5
    · exact h5
/-- One operation of the region. -/
structure IsOp (i : Nat) (op : Op) (dst : Option Tmp) (o : Oper) : Prop where
  at_ : ops21[i]? = some o
  op : o.op = op
  dst : o.dst = dst
  guard : o.guard = none
theorem isOp {i : Nat} {op : Op} {dst : Option Tmp} (h : (ops21[i]?).map (fun o => (o.op, o.dst, o.guard)) = some (op, dst, none)) : ∃ o, IsOp i op dst o := by
  obtain ⟨o, ho, he⟩ := Option.map_eq_some_iff.1 h
  simp only [Prod.mk.injEq] at he
  exact ⟨o, ho, he.1, he.2.1, he.2.2⟩
theorem wpOp21 {P : Program} {i : Nat} {op : Op} {dst : Option Tmp} {o : Oper} (h : IsOp i op dst o) {a : Act} {w : World} {K : Act → World → Prop} {Q : Exit → Act → World → Prop} (hw : o.wp P a w K Q) : wpOp P ops21 Q i K a w := by
  unfold wpOp
  rw [h.at_]
  simp only [Region.wanted, h.guard, if_true]
  exact .inl hw
theorem isOp0 : ∃ o, IsOp 0 (.buildSlice 22 0 #[]) (some 104) o := isOp (by kernel_rfl)
theorem isOp1 : ∃ o, IsOp 1 (.fieldAddr 24 (.tmp 3) 3) (some 105) o := isOp (by kernel_rfl)
theorem isOp2 : ∃ o, IsOp 2 (.load 22 (.tmp 105)) (some 106) o := isOp (by kernel_rfl)
theorem isOp3 : ∃ o, IsOp 3 (.call { callee := .builtin .append, args := #[.tmp 104, .tmp 106], argTypes := #[22, 22] }) (some 107) o := isOp (by kernel_rfl)
theorem isOp4 : ∃ o, IsOp 4 (.move (.tmp 2)) (some 108) o := isOp (by kernel_rfl)
theorem isOp5 : ∃ o, IsOp 5 (.binOp .rem 5 (.tmp 108) (.const (.int .u8 9)) 5) (some 109) o := isOp (by kernel_rfl)
theorem isOp6 : ∃ o, IsOp 6 (.binOp .add 5 (.const (.int .u8 49)) (.tmp 109) 5) (some 110) o := isOp (by kernel_rfl)
theorem isOp7 : ∃ o, IsOp 7 (.buildSlice 46 1 #[(0, .tmp 110)]) (some 111) o := isOp (by kernel_rfl)
theorem isOp8 : ∃ o, IsOp 8 (.convert 46 9 (.tmp 111)) (some 112) o := isOp (by kernel_rfl)
theorem isOp9 : ∃ o, IsOp 9 (.buildSlice 22 1 #[(0, .tmp 112)]) (some 113) o := isOp (by kernel_rfl)
theorem isOp10 : ∃ o, IsOp 10 (.call { callee := .builtin .append, args := #[.tmp 107, .tmp 113], argTypes := #[22, 22] }) (some 114) o := isOp (by kernel_rfl)
theorem isOp11 : ∃ o, IsOp 11 (.buildSlice 22 0 #[]) (some 115) o := isOp (by kernel_rfl)
theorem isOp12 : ∃ o, IsOp 12 (.fieldAddr 24 (.tmp 3) 3) (some 116) o := isOp (by kernel_rfl)
theorem isOp13 : ∃ o, IsOp 13 (.load 22 (.tmp 116)) (some 117) o := isOp (by kernel_rfl)
theorem isOp14 : ∃ o, IsOp 14 (.call { callee := .builtin .append, args := #[.tmp 115, .tmp 117], argTypes := #[22, 22] }) (some 118) o := isOp (by kernel_rfl)
theorem isOp15 : ∃ o, IsOp 15 (.move (.tmp 2)) (some 119) o := isOp (by kernel_rfl)
theorem isOp16 : ∃ o, IsOp 16 (.binOp .rem 5 (.tmp 119) (.const (.int .u8 26)) 5) (some 120) o := isOp (by kernel_rfl)
theorem isOp17 : ∃ o, IsOp 17 (.binOp .add 5 (.const (.int .u8 97)) (.tmp 120) 5) (some 121) o := isOp (by kernel_rfl)
theorem isOp18 : ∃ o, IsOp 18 (.buildSlice 46 1 #[(0, .tmp 121)]) (some 122) o := isOp (by kernel_rfl)
theorem isOp19 : ∃ o, IsOp 19 (.convert 46 9 (.tmp 122)) (some 123) o := isOp (by kernel_rfl)
theorem isOp20 : ∃ o, IsOp 20 (.buildSlice 22 1 #[(0, .tmp 123)]) (some 124) o := isOp (by kernel_rfl)
theorem isOp21 : ∃ o, IsOp 21 (.call { callee := .builtin .append, args := #[.tmp 118, .tmp 124], argTypes := #[22, 22] }) (some 125) o := isOp (by kernel_rfl)
theorem isOp22 : ∃ o, IsOp 22 (.fieldAddr 24 (.tmp 20) 3) (some 126) o := isOp (by kernel_rfl)
theorem isOp23 : ∃ o, IsOp 23 (.store 22 (.tmp 126) (.tmp 114)) (none) o := isOp (by kernel_rfl)
theorem isOp24 : ∃ o, IsOp 24 (.fieldAddr 24 (.tmp 21) 3) (some 127) o := isOp (by kernel_rfl)
theorem isOp25 : ∃ o, IsOp 25 (.store 22 (.tmp 127) (.tmp 125)) (none) o := isOp (by kernel_rfl)

/-! ### The frame -/
def fr (X Y : List Value) (f : Nat → Value) : Act := ⟨(X ++ ((List.range 24).map f ++ Y)).toArray, []⟩
theorem fr_old {X Y : List Value} (hX : X.length = 104) {f : Nat → Value} {k : Nat} (hk : k < 104) {v : Value} (h : X[k]? = some v) : (fr X Y f).eval (.tmp k) = v := by
  unfold fr Act.eval
  simp only
  rw [Array.getD_eq_getD_getElem?, List.getElem?_toArray, List.getElem?_append_left (by omega), h]
  rfl
theorem fr_new {X Y : List Value} (hX : X.length = 104) {f : Nat → Value} {k : Nat} (j : Nat) (hj : j < 24) (hk : k = 104 + j) : (fr X Y f).eval (.tmp k) = f j := by
  subst hk
  unfold fr Act.eval
  simp only
  rw [Array.getD_eq_getD_getElem?, List.getElem?_toArray, List.getElem?_append_right (by omega), hX, Nat.add_sub_cancel_left, List.getElem?_append_left (by simpa using hj), List.getElem?_map, List.getElem?_range hj]
  rfl
theorem fr_put {X Y : List Value} (hX : X.length = 104) {f : Nat → Value} {k : Nat} (j : Nat) (hj : j < 24) (hk : k = 104 + j) (v : Value) : (fr X Y f).put (some k) v = fr X Y (upd f j v) := by
  subst hk
  unfold fr Act.put
  simp only [List.setIfInBounds_toArray]
  rw [List.set_append_right _ _ (by omega), hX, Nat.add_sub_cancel_left, List.set_append_left _ _ (by simpa using hj)]
  congr 4
  apply List.ext_getElem?
  intro t
  rw [List.getElem?_set]
  by_cases e : j = t
  · subst e
    rw [if_pos rfl, if_pos (by simpa using hj), List.getElem?_map, List.getElem?_range hj]
    simp [upd_at]
  · rw [if_neg e, List.getElem?_map, List.getElem?_map]
    by_cases ht : t < 24
    · rw [List.getElem?_range ht]
      simp [upd_ne _ _ (fun h => e h.symm)]
    · rw [List.getElem?_eq_none (by simpa using ht)]; rfl
theorem fr_putn {X Y : List Value} {f : Nat → Value} (v : Value) : (fr X Y f).put none v = fr X Y f := rfl
end Go.Proofs.Ytcdflfjbdbofcaa
