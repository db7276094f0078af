/-
  No cell of these rows narrows 'for every input' (looked for: loops, veiled, ifaces, maps, wideKeys, modest, calm, conditions, laid).
  DERIVED. THE GIVEN ROWS OF THIS SEAT. 2 by the template 'for every input the law returns true; each argument reads behind the call as it read before'; 0 by the template 'total and deterministic' (their statements: YtijhdjdjnolpcaaGreatTotals.lean).
  GIVEN WITH THE SEED: the statements are not yours to turn. If you find one false, say at which input.
  Laid BY PROGRAM, IN A SANDBOX (cutbox-rows.mjs): the forced cells as the released guide's own fill.sh prints them over the translation 4c05236d0400ae0a… (all of the seat's roots in one cut). By AI agents, Wed Nov 11 2026. No macro, syntax, notation, axiom, sorry.
-/
import Derived.Test.YtijhdjdjnolpcaaGreatChecked
import GoSem.Claim
import GoSem.ClaimJoined
import GoSem.ClaimMapViews
import Derived.JoinedTies
import Derived.KernelRfl
namespace Go.Proofs.YtijhdjdjnolpcaaGreat
/- THE CELL 'sum', in the pinned program and in every row, IS THE sha256 OF THE DUMP (.gsa) THAT YtijhdjdjnolpcaaGreatProg.lean LOADS. Nothing in Lean hashes anything: it is a label: what it is worth is what the hold of that sum in a sandbox is worth. -/
noncomputable def Tryz.pinned : Pinned := { name := "ytijhdjdjnolpcaagreat", sum := "4c05236d0400ae0a1b356e3e7b3790e08067d92cc1915db219191546daaf83f2", checked := Tryz.checked }
namespace Rows
def none {H : Type} : Left H := { results := [], args := [] }

/-- 'graftwoodlaw05.NodeSets': WHATEVER THE INPUT: true; the input reads as it did. -/
def nodeSetsSpec : ChangeSpec := { name := "nodeSets", fn := fun _ => fun
  | [d1, d2] => { results := [.lit (.bool true)], args := [d1, d2] }
  | _ => none }
def nodeSetsRow : OpenClaim := { program := "ytijhdjdjnolpcaagreat", sum := "4c05236d0400ae0a1b356e3e7b3790e08067d92cc1915db219191546daaf83f2", func := "graftwood/graftwoodlaw05.NodeSets", spec := "nodeSets", inPlace := ["internal/bytealg.IndexByteString", "internal/bytealg.IndexString", "internal/bytealg.abigen_runtime_cmpstring"], unfollowed := true, recurses := true, named := ["internal/bytealg.MaxLen"], plainKeys := false, apart := false }
def NodeSetsSaid : Prop := nodeSetsRow.holds Tryz.pinned (OpenSpec.ofChange nodeSetsSpec)

/-- ITS FALSE NEIGHBOUR: 'it returns false'. Refute it at one input. -/
def nodeSetsWrong : ChangeSpec := { name := "nodeSets", fn := fun _ => fun
  | [d1, d2] => { results := [.lit (.bool false)], args := [d1, d2] }
  | _ => none }
def NodeSetsWrongFalsely : Prop := nodeSetsRow.holds Tryz.pinned (OpenSpec.ofChange nodeSetsWrong)

/-- 'graftwoodlaw05.NodeMinus': WHATEVER THE INPUT: true; the input reads as it did. -/
def nodeMinusSpec : ChangeSpec := { name := "nodeMinus", fn := fun _ => fun
  | [d1, d2] => { results := [.lit (.bool true)], args := [d1, d2] }
  | _ => none }
def nodeMinusRow : OpenClaim := { program := "ytijhdjdjnolpcaagreat", sum := "4c05236d0400ae0a1b356e3e7b3790e08067d92cc1915db219191546daaf83f2", func := "graftwood/graftwoodlaw05.NodeMinus", spec := "nodeMinus", inPlace := ["internal/bytealg.IndexByteString", "internal/bytealg.IndexString", "internal/bytealg.abigen_runtime_cmpstring"], unfollowed := true, recurses := true, named := ["internal/bytealg.MaxLen"], plainKeys := false, apart := false }
def NodeMinusSaid : Prop := nodeMinusRow.holds Tryz.pinned (OpenSpec.ofChange nodeMinusSpec)

/-- ITS FALSE NEIGHBOUR: 'it returns false'. Refute it at one input. -/
def nodeMinusWrong : ChangeSpec := { name := "nodeMinus", fn := fun _ => fun
  | [d1, d2] => { results := [.lit (.bool false)], args := [d1, d2] }
  | _ => none }
def NodeMinusWrongFalsely : Prop := nodeMinusRow.holds Tryz.pinned (OpenSpec.ofChange nodeMinusWrong)

/- THE SECOND FORM. 'bulk': how many values and letters a reading holds, each counted each time it is reached (what is shared counts as often as it is met; a slice's spare places count too). A statement '..UptoSaid' is the law's where the arguments, and the package variables that the reading takes, are together of bulk at most 1048576: NARROWER than '..Said'. Prove '..Said' where nothing that the law and all that it calls make is longer than what came in: it says more and counts as full. Else prove '..UptoSaid'. A law counts once. -/
mutual
def uptoBulk {H : Type} : DataW H → Nat
  | .lit (.string bytes) => bytes.length + 1
  | .lit _ => 1
  | .nil => 1
  | .ptr d => uptoBulk d + 1
  | .slice elems spare => uptoBulkAll elems + uptoBulkAll spare + 1
  | .agg parts => uptoBulkAll parts + 1
  | .iface _ d => uptoBulk d + 1
  | .map entries => uptoBulkEntries entries + 1
  | .held _ => 1
def uptoBulkAll {H : Type} : List (DataW H) → Nat
  | [] => 0
  | d :: r => uptoBulk d + uptoBulkAll r
def uptoBulkEntries {H : Type} : List (Lit × DataW H) → Nat
  | [] => 0
  | x :: r => uptoBulkEntry x + uptoBulkEntries r
def uptoBulkEntry {H : Type} : Lit × DataW H → Nat
  | (.string bytes, d) => bytes.length + uptoBulk d + 1
  | (_, d) => uptoBulk d + 1
 end
def uptoSmall : (H : Type) → List (DataW H) → Bool := fun _ ds => decide (uptoBulkAll ds ≤ 1048576)
def OpenSpec.upto (s : _root_.Go.ChangeSpec) : _root_.Go.OpenSpec := { _root_.Go.OpenSpec.ofChange s with cond := some uptoSmall }

/-- 'graftwoodlaw05.NodeSets', WHERE WHAT IT READS IS OF BULK AT MOST 1048576: true; the input reads as it did. -/
def nodeSetsUptoRow : OpenClaim := { program := "ytijhdjdjnolpcaagreat", sum := "4c05236d0400ae0a1b356e3e7b3790e08067d92cc1915db219191546daaf83f2", func := "graftwood/graftwoodlaw05.NodeSets", spec := "nodeSets", inPlace := ["internal/bytealg.IndexByteString", "internal/bytealg.IndexString", "internal/bytealg.abigen_runtime_cmpstring"], unfollowed := true, recurses := true, named := ["internal/bytealg.MaxLen"], plainKeys := false, apart := false, narrowed := true }
def NodeSetsUptoSaid : Prop := nodeSetsUptoRow.holds Tryz.pinned (OpenSpec.upto nodeSetsSpec)

/-- 'graftwoodlaw05.NodeMinus', WHERE WHAT IT READS IS OF BULK AT MOST 1048576: true; the input reads as it did. -/
def nodeMinusUptoRow : OpenClaim := { program := "ytijhdjdjnolpcaagreat", sum := "4c05236d0400ae0a1b356e3e7b3790e08067d92cc1915db219191546daaf83f2", func := "graftwood/graftwoodlaw05.NodeMinus", spec := "nodeMinus", inPlace := ["internal/bytealg.IndexByteString", "internal/bytealg.IndexString", "internal/bytealg.abigen_runtime_cmpstring"], unfollowed := true, recurses := true, named := ["internal/bytealg.MaxLen"], plainKeys := false, apart := false, narrowed := true }
def NodeMinusUptoSaid : Prop := nodeMinusUptoRow.holds Tryz.pinned (OpenSpec.upto nodeMinusSpec)

end Rows
end Go.Proofs.YtijhdjdjnolpcaaGreat
