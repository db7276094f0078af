/- The contracts of octet's tables and classes: Few, table, Class, and the document's Class. -/
import Derived.Test.YtfkbpkjejnpaiaaOctO
import Derived.Test.YtfkbpkjejnpaiaaRows
import Derived.WalkKit
import Derived.WalkSpells
import Derived.WalkLawsBesides
import Derived.Lib.Hide
import Derived.Lib.Strings
import Derived.Laws.CopyOwn
namespace Go.Proofs.Ytfkbpkjejnpaiaa
open Go.RowKit
set_option maxRecDepth 100000

theorem ret_int {k : IntKind} {a b : Int} (h : a = b) : Ending.returned (.int k a) = .returned (.int k b) := by rw [h]

theorem ret_bool {a b : Bool} (h : a = b) : Ending.returned (.bool a) = .returned (.bool b) := by rw [h]

def fewB (s : ByteArray) : ByteArray := if 400 < s.size then s.extract 0 400 else s

/-- Each octet's class, in the octets' order. -/
def tabL : List Int := [0, 0, 0, 0, 0, 0, 0, 0, 0, 5, 6, 0, 0, 0, 0, 0, 0, 0, 0, 0, 0, 0, 0, 0, 0, 0, 0, 0, 0, 0, 0, 0, 5, 0, 7, 0, 0, 0, 0, 0, 8, 9, 0, 0, 0, 3, 3, 4, 1, 1, 1, 1, 1, 1, 1, 1, 1, 1, 0, 0, 0, 0, 0, 0, 0, 2, 2, 2, 2, 2, 2, 2, 2, 2, 2, 2, 2, 2, 2, 2, 2, 2, 2, 2, 2, 2, 2, 2, 2, 2, 2, 0, 0, 0, 0, 3, 0, 2, 2, 2, 2, 2, 2, 2, 2, 2, 2, 2, 2, 2, 2, 2, 2, 2, 2, 2, 2, 2, 2, 2, 2, 2, 2, 0, 0, 0, 3, 0, 0, 0, 0, 0, 0, 0, 0, 0, 0, 0, 0, 0, 0, 0, 0, 0, 0, 0, 0, 0, 0, 0, 0, 0, 0, 0, 0, 0, 0, 0, 0, 0, 0, 0, 0, 0, 0, 0, 0, 0, 0, 0, 0, 0, 0, 0, 0, 0, 0, 0, 0, 0, 0, 0, 0, 0, 0, 0, 0, 0, 0, 0, 0, 0, 0, 0, 0, 0, 0, 0, 0, 0, 0, 0, 0, 0, 0, 0, 0, 0, 0, 0, 0, 0, 0, 0, 0, 0, 0, 0, 0, 0, 0, 0, 0, 0, 0, 0, 0, 0, 0, 0, 0, 0, 0, 0, 0, 0, 0, 0, 0, 0, 0, 0, 0, 0, 0, 0, 0, 0, 0, 0, 0, 0, 0, 0, 0, 0]
def tabV : Array Value := (tabL.map (Value.int .u8)).toArray
theorem tabV_size : tabV.size = 256 := by decide +kernel
theorem tabV_one : tabV.all (·.oneCell') = true := by decide +kernel

section
variable {P : Program}
theorem wpList_build_to {ops : Array Oper} {rest : List Oper} {o : Oper} {a : Act} {w : World} {Q : Exit → Act → World → Prop} (hg : o.guard = none) (t : TypeId) (parts : Array (Nat × Operand)) (ho : o.op = .build t parts)
    (cells : Array Value) (hf : P.built t (parts.map fun (i, x) => (i, a.eval x)).toList = some cells)
    (h : wpList P ops Q rest (a.put o.dst (.agg cells)) w) : wpList P ops Q (o :: rest) a w :=
  wpList_build hg t parts ho (by rw [hf]; rfl) (by rw [hf]; exact h)
end

def zeroV : Array Value := (List.replicate 256 (Value.int .u8 0)).toArray
theorem zeroV_size : zeroV.size = 256 := by decide +kernel
/-- An octet's class, as the table has it. -/
def clsI (c : Int) : Int := tabL.getD c.toNat 0

theorem clsI_bd (c : Int) (h0 : 0 ≤ c) (h1 : c < 256) : 0 ≤ clsI c ∧ clsI c ≤ 9 := by
  have h : ∀ n : Fin 256, 0 ≤ tabL.getD n.1 0 ∧ tabL.getD n.1 0 ≤ 9 := by decide +kernel
  exact h ⟨c.toNat, by omega⟩

end Go.Proofs.Ytfkbpkjejnpaiaa
