/- The contracts of octet's tables and classes: Few, table, Class, and the document's Class. -/
import Derived.Test.YtglhjdbnpdoinaaGreatOctO
import Derived.Test.YtglhjdbnpdoinaaGreatRows
import Derived.WalkKit
import Derived.WalkSpells
import Derived.WalkLawsBesides
import Derived.Lib.Hide
import Derived.Lib.Strings
import Derived.Laws.CopyOwn
namespace Go.Proofs.YtglhjdbnpdoinaaGreat
open Go.RowKit
set_option maxRecDepth 100000

theorem ret_int {k : IntKind} {a b : Int} (h : a = b) : Ending.returned (.int k a) = .returned (.int k b) := by rw [h]

theorem ret_bool {a b : Bool} (h : a = b) : Ending.returned (.bool a) = .returned (.bool b) := by rw [h]

def fewB (s : ByteArray) : ByteArray := if 400 < s.size then s.extract 0 400 else s

set_option maxHeartbeats 400000 in
theorem few_any (s : ByteArray) (w : World) (hs : s.size ≤ maxLen) :
    Calls Tryz.prog 30 #[.string s] w fun e w' => e = .returned (.string (fewB s)) ∧ w = w' := by
  unfold maxLen at hs
  by_cases h : 400 < s.size
  · go_enter Tryz.func30, Tryz.ntmps30
    go_wp2
    go_ret
    exact ⟨by simp [fewB, h], rfl⟩
  · go_enter Tryz.func30, Tryz.ntmps30
    go_wp2
    go_ret
    exact ⟨by simp [fewB, h], rfl⟩

/-- Each octet's class, in the octets' order. -/
def tabL : List Int := [0, 0, 0, 0, 0, 0, 0, 0, 0, 5, 6, 0, 0, 0, 0, 0, 0, 0, 0, 0, 0, 0, 0, 0, 0, 0, 0, 0, 0, 0, 0, 0, 5, 0, 7, 0, 0, 0, 0, 0, 8, 9, 0, 0, 0, 3, 3, 4, 1, 1, 1, 1, 1, 1, 1, 1, 1, 1, 0, 0, 0, 0, 0, 0, 0, 2, 2, 2, 2, 2, 2, 2, 2, 2, 2, 2, 2, 2, 2, 2, 2, 2, 2, 2, 2, 2, 2, 2, 2, 2, 2, 0, 0, 0, 0, 3, 0, 2, 2, 2, 2, 2, 2, 2, 2, 2, 2, 2, 2, 2, 2, 2, 2, 2, 2, 2, 2, 2, 2, 2, 2, 2, 2, 0, 0, 0, 3, 0, 0, 0, 0, 0, 0, 0, 0, 0, 0, 0, 0, 0, 0, 0, 0, 0, 0, 0, 0, 0, 0, 0, 0, 0, 0, 0, 0, 0, 0, 0, 0, 0, 0, 0, 0, 0, 0, 0, 0, 0, 0, 0, 0, 0, 0, 0, 0, 0, 0, 0, 0, 0, 0, 0, 0, 0, 0, 0, 0, 0, 0, 0, 0, 0, 0, 0, 0, 0, 0, 0, 0, 0, 0, 0, 0, 0, 0, 0, 0, 0, 0, 0, 0, 0, 0, 0, 0, 0, 0, 0, 0, 0, 0, 0, 0, 0, 0, 0, 0, 0, 0, 0, 0, 0, 0, 0, 0, 0, 0, 0, 0, 0, 0, 0, 0, 0, 0, 0, 0, 0, 0, 0, 0, 0, 0, 0, 0, 0]
def tabV : Array Value := (tabL.map (Value.int .u8)).toArray
theorem tabV_size : tabV.size = 256 := by decide +kernel
theorem tabV_one : tabV.all (·.oneCell') = true := by decide +kernel

section
variable {P : Program}
theorem wpList_build_to {ops : Array Oper} {rest : List Oper} {o : Oper} {a : Act} {w : World} {Q : Exit → Act → World → Prop} (hg : o.guard = none) (t : TypeId) (parts : Array (Nat × Operand)) (ho : o.op = .build t parts)
    (cells : Array Value) (hf : P.built t (parts.map fun (i, x) => (i, a.eval x)).toList = some cells)
    (h : wpList P ops Q rest (a.put o.dst (.agg cells)) w) : wpList P ops Q (o :: rest) a w :=
  wpList_build hg t parts ho (by rw [hf]; rfl) (by rw [hf]; exact h)
end

def zeroV : Array Value := (List.replicate 256 (Value.int .u8 0)).toArray
theorem zeroV_size : zeroV.size = 256 := by decide +kernel
theorem Tryz.zero_tab (w : World) : Sem.run Tryz.prog (zeroValue 149) w = .ok (.agg zeroV) w := by kernel_rfl
theorem Tryz.size_tab : (Tryz.prog.info? 149).map (·.size) = some 256 := by kernel_rfl

set_option maxHeartbeats 400000 in
theorem table_any (w : World) :
    Calls Tryz.prog 139 #[] w fun e w' => e = .returned (.agg tabV) ∧ Bel w.heap.size w w' := by
  have hz := Tryz.zero_tab
  go_enter Tryz.func139, Tryz.ntmps139
  go_wp2_with (first
    | (refine wpList_build_to rfl 149 _ rfl tabV (by kernel_rfl) ?_)
    | (refine wpList_store_row rfl 149 _ _ rfl w.heap.size tabV rfl rfl 149 zeroV ?_ (by rw [tabV_size]; exact Tryz.size_tab) (by rw [zeroV_size, tabV_size]) tabV_one ?_))
  · exact heap_alloc_new _ _
  · refine bodyPost_ret (v := .agg tabV) ?_ rfl ⟨rfl, ?_⟩
    · exact results_cell_row (fn := Tryz.f139) (p := 0) (ty := 149) rfl _ _ w.heap.size 149 tabV (0, 0) _ rfl (setRow_heap _ _ _ _ _ _ (heap_alloc_new _ _)) Tryz.underlying149 rfl (by rw [tabV_size]; exact Tryz.size_tab)
    · exact bel_setRow ((Bel.refl _ _).alloc (Nat.le_refl _) _) (Nat.le_refl _) _

/-- An octet's class, as the table has it. -/
def clsI (c : Int) : Int := tabL.getD c.toNat 0

theorem tab_index (c : Int) (h0 : 0 ≤ c) (h1 : c < 256) (w : World) :
    Sem.run Tryz.prog (Instr.index 149 (.agg tabV) (.int .u8 c)) w = .ok (.int .u8 (clsI c)) w := by
  have hi : (Tryz.prog.info? 5).map (·.size) = some 1 := by kernel_rfl
  have ha : ∀ w, Sem.run Tryz.prog (isAgg 5) w = .ok false w := by intro w; kernel_rfl
  have hn : c.toNat < tabL.length := by have : tabL.length = 256 := by decide +kernel
                                        omega
  have hv : tabV[c.toNat]? = some (.int .u8 (clsI c)) := by
    unfold tabV clsI
    rw [List.getElem?_toArray, List.getElem?_map, List.getD_eq_getElem?_getD, List.getElem?_eq_getElem hn]
    rfl
  simp [Instr.index, run_underlying Tryz.underlying149, asIntOf, h0, h1, part, ha, hv]

theorem clsI_bd (c : Int) (h0 : 0 ≤ c) (h1 : c < 256) : 0 ≤ clsI c ∧ clsI c ≤ 9 := by
  have h : ∀ n : Fin 256, 0 ≤ tabL.getD n.1 0 ∧ tabL.getD n.1 0 ≤ 9 := by decide +kernel
  exact h ⟨c.toNat, by omega⟩

set_option maxHeartbeats 400000 in
theorem class_any (c : Int) (h0 : 0 ≤ c) (h1 : c < 256) (w : World) :
    Calls Tryz.prog 134 #[.int .u8 c] w fun e w' => e = .returned (.int .i64 (clsI c)) ∧ Bel w.heap.size w w' := by
  have hb := clsI_bd c h0 h1
  have hx := tab_index c h0 h1
  go_enter Tryz.func134, Tryz.ntmps134
  go_wp2_with (go_at_call 139; refine (table_any _).mono ?_; rintro e w1 ⟨rfl, hb1⟩)
  go_ret
  exact ⟨rfl, by assumption⟩

end Go.Proofs.YtglhjdbnpdoinaaGreat
