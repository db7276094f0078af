/-
  No cell of these rows narrows 'for every input' (looked for: loops, veiled, ifaces, maps, wideKeys, modest, calm, conditions, laid).
  DERIVED. THE GIVEN ROWS OF THIS SEAT. 2 by the template 'for every input the law returns true; each argument reads behind the call as it read before'; 0 by the template 'total and deterministic' (their statements: YtlbibgofhhdgoaaTotals.lean).
  GIVEN WITH THE SEED: the statements are not yours to turn. If you find one false, say at which input.
  Laid BY PROGRAM, IN A SANDBOX (cutbox-rows.mjs): the forced cells as the released guide's own fill.sh prints them over the translation 7c99fa72e6d730f2… (all of the seat's roots in one cut). By AI agents, Wed Nov 11 2026. No macro, syntax, notation, axiom, sorry.
-/
import Derived.Test.YtlbibgofhhdgoaaChecked
import GoSem.Claim
import GoSem.ClaimJoined
import GoSem.ClaimMapViews
import Derived.JoinedTies
import Derived.KernelRfl
namespace Go.Proofs.Ytlbibgofhhdgoaa
/- THE CELL 'sum', in the pinned program and in every row, IS THE sha256 OF THE DUMP (.gsa) THAT YtlbibgofhhdgoaaProg.lean LOADS. Nothing in Lean hashes anything: it is a label: what it is worth is what the hold of that sum in a sandbox is worth. -/
noncomputable def Try.pinned : Pinned := { name := "ytlbibgofhhdgoaa", sum := "7c99fa72e6d730f2e77832d570ad8219903d2be56f7edf6559e0b15b0975c463", checked := Try.checked }
namespace Rows
def none {H : Type} : Left H := { results := [], args := [] }

/-- 'graftwoodlaw17.ListGoes': WHATEVER THE INPUT: true; the input reads as it did. -/
def listGoesSpec : ChangeSpec := { name := "listGoes", fn := fun _ => fun
  | [d1, d2, d3] => { results := [.lit (.bool true)], args := [d1, d2, d3] }
  | _ => none }
def listGoesRow : OpenClaim := { program := "ytlbibgofhhdgoaa", sum := "7c99fa72e6d730f2e77832d570ad8219903d2be56f7edf6559e0b15b0975c463", func := "graftwood/graftwoodlaw17.ListGoes", spec := "listGoes", inPlace := ["internal/bytealg.IndexByteString", "internal/bytealg.IndexString", "internal/bytealg.abigen_runtime_cmpstring"], unfollowed := true, recurses := true, named := ["internal/bytealg.MaxLen"], apart := false }
def ListGoesSaid : Prop := listGoesRow.holds Try.pinned (OpenSpec.ofChange listGoesSpec)

/-- ITS FALSE NEIGHBOUR: 'it returns false'. Refute it at one input. -/
def listGoesWrong : ChangeSpec := { name := "listGoes", fn := fun _ => fun
  | [d1, d2, d3] => { results := [.lit (.bool false)], args := [d1, d2, d3] }
  | _ => none }
def ListGoesWrongFalsely : Prop := listGoesRow.holds Try.pinned (OpenSpec.ofChange listGoesWrong)

/-- 'graftwoodlaw17.ListPicks': WHATEVER THE INPUT: true; the input reads as it did. -/
def listPicksSpec : ChangeSpec := { name := "listPicks", fn := fun _ => fun
  | [d1, d2, d3] => { results := [.lit (.bool true)], args := [d1, d2, d3] }
  | _ => none }
def listPicksRow : OpenClaim := { program := "ytlbibgofhhdgoaa", sum := "7c99fa72e6d730f2e77832d570ad8219903d2be56f7edf6559e0b15b0975c463", func := "graftwood/graftwoodlaw17.ListPicks", spec := "listPicks", inPlace := ["internal/bytealg.IndexByteString", "internal/bytealg.IndexString", "internal/bytealg.abigen_runtime_cmpstring"], unfollowed := true, recurses := true, named := ["internal/bytealg.MaxLen"], apart := false }
def ListPicksSaid : Prop := listPicksRow.holds Try.pinned (OpenSpec.ofChange listPicksSpec)

/-- ITS FALSE NEIGHBOUR: 'it returns false'. Refute it at one input. -/
def listPicksWrong : ChangeSpec := { name := "listPicks", fn := fun _ => fun
  | [d1, d2, d3] => { results := [.lit (.bool false)], args := [d1, d2, d3] }
  | _ => none }
def ListPicksWrongFalsely : Prop := listPicksRow.holds Try.pinned (OpenSpec.ofChange listPicksWrong)

/- THE SECOND FORM. 'bulk': how many values and letters a reading holds, each counted each time it is reached (what is shared counts as often as it is met; a slice's spare places count too). A statement '..UptoSaid' is the law's where the arguments, and the package variables that the reading takes, are together of bulk at most 1048576: NARROWER than '..Said'. Prove '..Said' where nothing that the law and all that it calls make is longer than what came in: it says more and counts as full. Else prove '..UptoSaid'. A law counts once. -/
mutual
def uptoBulk {H : Type} : DataW H → Nat
  | .lit (.string bytes) => bytes.length + 1
  | .lit _ => 1
  | .nil => 1
  | .ptr d => uptoBulk d + 1
  | .slice elems spare => uptoBulkAll elems + uptoBulkAll spare + 1
  | .agg parts => uptoBulkAll parts + 1
  | .iface _ d => uptoBulk d + 1
  | .map entries => uptoBulkEntries entries + 1
  | .held _ => 1
def uptoBulkAll {H : Type} : List (DataW H) → Nat
  | [] => 0
  | d :: r => uptoBulk d + uptoBulkAll r
def uptoBulkEntries {H : Type} : List (Lit × DataW H) → Nat
  | [] => 0
  | x :: r => uptoBulkEntry x + uptoBulkEntries r
def uptoBulkEntry {H : Type} : Lit × DataW H → Nat
  | (.string bytes, d) => bytes.length + uptoBulk d + 1
  | (_, d) => uptoBulk d + 1
 end
def uptoSmall : (H : Type) → List (DataW H) → Bool := fun _ ds => decide (uptoBulkAll ds ≤ 1048576)
def OpenSpec.upto (s : _root_.Go.ChangeSpec) : _root_.Go.OpenSpec := { _root_.Go.OpenSpec.ofChange s with cond := some uptoSmall }

/-- 'graftwoodlaw17.ListGoes', WHERE WHAT IT READS IS OF BULK AT MOST 1048576: true; the input reads as it did. -/
def listGoesUptoRow : OpenClaim := { program := "ytlbibgofhhdgoaa", sum := "7c99fa72e6d730f2e77832d570ad8219903d2be56f7edf6559e0b15b0975c463", func := "graftwood/graftwoodlaw17.ListGoes", spec := "listGoes", inPlace := ["internal/bytealg.IndexByteString", "internal/bytealg.IndexString", "internal/bytealg.abigen_runtime_cmpstring"], unfollowed := true, recurses := true, named := ["internal/bytealg.MaxLen"], apart := false, narrowed := true }
def ListGoesUptoSaid : Prop := listGoesUptoRow.holds Try.pinned (OpenSpec.upto listGoesSpec)

/-- 'graftwoodlaw17.ListPicks', WHERE WHAT IT READS IS OF BULK AT MOST 1048576: true; the input reads as it did. -/
def listPicksUptoRow : OpenClaim := { program := "ytlbibgofhhdgoaa", sum := "7c99fa72e6d730f2e77832d570ad8219903d2be56f7edf6559e0b15b0975c463", func := "graftwood/graftwoodlaw17.ListPicks", spec := "listPicks", inPlace := ["internal/bytealg.IndexByteString", "internal/bytealg.IndexString", "internal/bytealg.abigen_runtime_cmpstring"], unfollowed := true, recurses := true, named := ["internal/bytealg.MaxLen"], apart := false, narrowed := true }
def ListPicksUptoSaid : Prop := listPicksUptoRow.holds Try.pinned (OpenSpec.upto listPicksSpec)

end Rows
end Go.Proofs.Ytlbibgofhhdgoaa
