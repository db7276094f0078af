/- The contracts of word's tables: tables, find. -/
import Derived.Test.YtjlnajokkhdhnaaDoorWorA
import Derived.Great.BuildSlice
namespace Go.Proofs.YtjlnajokkhdhnaaDoor
open Go.RowKit
set_option maxRecDepth 100000

def fnV (n : Nat) : Value := .func (.func n) #[] #[]
/-- The function of a state. -/
def Tryd.tagF : Tag → Nat
  | .el => 35
  | .ine => 36
  | .bd => 37
  | .bg => 38
  | .nm => 39
  | .ze => 40
  | .di => 41
  | .lz => 42
  | .ld => 43
  | .wd => 44
  | .bz => 45
  | .iw => 46
  | .bzs => 47
  | .en => 48
  | .ed => 49
def tagV (o : Option Tag) : Value := match o with
  | none => .nilFunc
  | some t => fnV (Tryd.tagF t)
def rowV (k : Nat) : Array Value := ((List.range 14).map fun a => tagV (tagAt k a)).toArray
def tabsV : Array Value := rowV 0 ++ rowV 1 ++ rowV 2
def nils (n : Nat) : Array Value := Array.replicate n .nilFunc
theorem Tryd.built_row0 : Tryd.prog.built 45 [(0, fnV 35), (1, fnV 36), (2, fnV 37)] = some (rowV 0) := by kernel_rfl
theorem Tryd.built_tabs : Tryd.prog.built 46 [(0, .agg (rowV 0)), (1, .agg (rowV 1)), (2, .agg (rowV 2))] = some tabsV := by kernel_rfl
theorem Tryd.zero_tabs (w : World) : Sem.run Tryd.prog (zeroValue 46) w = .ok (.agg (nils 42)) w := by kernel_rfl
theorem Tryd.size_tabs : (Tryd.prog.info? 46).map (·.size) = some 42 := by kernel_rfl
theorem tabsV_size : tabsV.size = 42 := by decide +kernel
theorem tabsV_one : tabsV.all (·.oneCell') = true := by decide +kernel
theorem nils_size (n : Nat) : (nils n).size = n := by simp [nils]

set_option maxHeartbeats 400000 in
theorem tables_any (w : World) :
    Calls Tryd.prog 29 #[] w fun e w' => e = .returned (.agg tabsV) ∧ Below w.heap.size w w' := by
  have hz := Tryd.zero_tabs
  go_enter Tryd.func29, Tryd.ntmps29
  go_wp2_with (first
    | (refine wpList_build_to rfl 45 #[(0, .func 35), (1, .func 36), (2, .func 37)] rfl (rowV 0) (by kernel_rfl) ?_)
    | (refine wpList_build_to rfl 45 #[(0, .func 38), (1, .func 39), (2, .func 40), (3, .func 41), (4, .func 39), (5, .func 40), (6, .func 41), (7, .func 39), (8, .func 42), (9, .func 43), (10, .func 44), (11, .func 45), (12, .func 46), (13, .func 47)] rfl (rowV 1) (by kernel_rfl) ?_)
    | (refine wpList_build_to rfl 45 #[(0, .func 39), (1, .func 40), (2, .func 41), (3, .func 39), (4, .func 40), (5, .func 41), (6, .func 39), (7, .func 48), (8, .func 49)] rfl (rowV 2) (by kernel_rfl) ?_)
    | (refine wpList_build_to rfl 46 _ rfl tabsV (by kernel_rfl) ?_)
    | (refine wpList_store_row rfl 46 _ _ rfl w.heap.size tabsV rfl rfl 46 (nils 42) ?_ (by rw [tabsV_size]; exact Tryd.size_tabs) (by rw [nils_size, tabsV_size]) tabsV_one ?_))
  · exact heap_alloc_new _ _
  · refine bodyPost_ret (v := .agg tabsV) ?_ rfl ⟨rfl, ?_⟩
    · exact results_cell_row (fn := Tryd.f29) (p := 0) (ty := 46) rfl _ _ w.heap.size 46 tabsV (0, 0) _ rfl (setRow_heap _ _ _ _ _ _ (heap_alloc_new _ _)) Tryd.underlying46 rfl (by rw [tabsV_size]; exact Tryd.size_tabs)
    · exact below_setRow ((Below.refl _ _).alloc (Nat.le_refl _) _) (Nat.le_refl _) _

theorem row_at (k a : Nat) (_hk : k < 3) (ha : a < 14) : (rowV k)[a]? = some (tagV (tagAt k a)) := by
  unfold rowV
  rw [List.getElem?_toArray, List.getElem?_map, List.getElem?_range ha]
  rfl
theorem tabs_index (k : Nat) (hk : k < 3) (w : World) : Sem.run Tryd.prog (Instr.index 46 (.agg tabsV) (.int .i64 (k : Int))) w = .ok (.agg (rowV k)) w := by
  rcases k with _ | _ | _ | k
  · kernel_rfl
  · kernel_rfl
  · kernel_rfl
  · omega
theorem row_index (k a : Nat) (hk : k < 3) (ha : a < 14) (w : World) : Sem.run Tryd.prog (Instr.index 45 (.agg (rowV k)) (.int .i64 (a : Int))) w = .ok (tagV (tagAt k a)) w := by
  have hi : (Tryd.prog.info? 36).map (·.size) = some 1 := by kernel_rfl
  have hg : ∀ w, Sem.run Tryd.prog (isAgg 36) w = .ok false w := by intro w; kernel_rfl
  have hv := row_at k a hk ha
  simp [Instr.index, run_underlying Tryd.underlying45, asIntOf, part, hg, hv]
  omega

/-- The state that a kind's number and a state's tell. -/
def tagI (k a : Int) : Option Tag := if 0 ≤ k ∧ k < 3 ∧ 0 ≤ a ∧ a < 14 then tagAt k.toNat a.toNat else none
theorem tagI_nat (k a : Nat) (hk : k < 3) (ha : a < 14) : tagI (k : Int) (a : Int) = tagAt k a := by
  unfold tagI; rw [if_pos ⟨by omega, by omega, by omega, by omega⟩]; rfl
theorem tagI_no {k a : Int} (h : ¬ (0 ≤ k ∧ k < 3 ∧ 0 ≤ a ∧ a < 14)) : tagI k a = none := by unfold tagI; rw [if_neg h]
theorem ret_val {a b : Value} (h : a = b) : Ending.returned a = .returned b := by rw [h]

set_option maxHeartbeats 400000 in
theorem find_any (k a : Int) (w : World) :
    Calls Tryd.prog 20 #[.int .i64 k, .int .i64 a] w fun e w' => e = .returned (tagV (tagI k a)) ∧ Below w.heap.size w w' := by
  by_cases h1 : k < 0
  · go_enter Tryd.func20, Tryd.ntmps20
    go_wp2
    go_ret
    exact ⟨ret_val (by rw [tagI_no (by omega)]; rfl), Below.refl _ _⟩
  by_cases h2 : 3 ≤ k
  · go_enter Tryd.func20, Tryd.ntmps20
    go_wp2
    go_ret
    exact ⟨ret_val (by rw [tagI_no (by omega)]; rfl), Below.refl _ _⟩
  by_cases h3 : a < 0
  · go_enter Tryd.func20, Tryd.ntmps20
    go_wp2
    go_ret
    exact ⟨ret_val (by rw [tagI_no (by omega)]; rfl), Below.refl _ _⟩
  by_cases h4 : 14 ≤ a
  · go_enter Tryd.func20, Tryd.ntmps20
    go_wp2
    go_ret
    exact ⟨ret_val (by rw [tagI_no (by omega)]; rfl), Below.refl _ _⟩
  obtain ⟨k', rfl⟩ : ∃ k' : Nat, k = k' := ⟨k.toNat, by omega⟩
  obtain ⟨a', rfl⟩ : ∃ a' : Nat, a = a' := ⟨a.toNat, by omega⟩
  have e1 := tabs_index k' (by omega)
  have e2 := row_index k' a' (by omega) (by omega)
  have E := Lib.hid (tagI_nat k' a' (by omega) (by omega))
  go_enter Tryd.func20, Tryd.ntmps20
  go_wp2_with (go_at_call 29; refine (tables_any _).mono ?_; rintro e w1 ⟨rfl, hb1⟩)
  go_ret
  exact ⟨ret_val (by rw [E.out]; rfl), by assumption⟩
end Go.Proofs.YtjlnajokkhdhnaaDoor
