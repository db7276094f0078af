/-
  No cell of these rows narrows 'for every input' (looked for: loops, veiled, ifaces, maps, wideKeys, modest, calm, conditions, laid).
  DERIVED. THE GIVEN ROWS OF THIS SEAT. 4 by the template 'for every input the law returns true; each argument reads behind the call as it read before'; 0 by the template 'total and deterministic' (their statements: YtlbibgofhhdgoaaGreatTotals.lean).
  GIVEN WITH THE SEED: the statements are not yours to turn. If you find one false, say at which input.
  Laid BY PROGRAM, IN A SANDBOX (cutbox-rows.mjs): the forced cells as the released guide's own fill.sh prints them over the translation 0208f0dfc7484995… (all of the seat's roots in one cut). By AI agents, Wed Nov 11 2026. No macro, syntax, notation, axiom, sorry.
-/
import Derived.Test.YtlbibgofhhdgoaaGreatChecked
import GoSem.Claim
import GoSem.ClaimJoined
import GoSem.ClaimMapViews
import Derived.JoinedTies
import Derived.KernelRfl
namespace Go.Proofs.YtlbibgofhhdgoaaGreat
/- THE CELL 'sum', in the pinned program and in every row, IS THE sha256 OF THE DUMP (.gsa) THAT YtlbibgofhhdgoaaGreatProg.lean LOADS. Nothing in Lean hashes anything: it is a label: what it is worth is what the hold of that sum in a sandbox is worth. -/
noncomputable def Tryz.pinned : Pinned := { name := "ytlbibgofhhdgoaagreat", sum := "0208f0dfc7484995eb32191212556828f1d84bb9bd06f64d41d3cbcd2f727e54", checked := Tryz.checked }
namespace Rows
def none {H : Type} : Left H := { results := [], args := [] }

/-- 'graftwoodlaw17.ListTells': WHATEVER THE INPUT: true; the input reads as it did. -/
def listTellsSpec : ChangeSpec := { name := "listTells", fn := fun _ => fun
  | [d1, d2, d3] => { results := [.lit (.bool true)], args := [d1, d2, d3] }
  | _ => none }
def listTellsRow : OpenClaim := { program := "ytlbibgofhhdgoaagreat", sum := "0208f0dfc7484995eb32191212556828f1d84bb9bd06f64d41d3cbcd2f727e54", func := "graftwood/graftwoodlaw17.ListTells", spec := "listTells", inPlace := ["internal/bytealg.IndexByteString", "internal/bytealg.IndexString", "internal/bytealg.abigen_runtime_cmpstring"], unfollowed := true, recurses := true, named := ["internal/bytealg.MaxLen"], apart := false }
def ListTellsSaid : Prop := listTellsRow.holds Tryz.pinned (OpenSpec.ofChange listTellsSpec)

/-- ITS FALSE NEIGHBOUR: 'it returns false'. Refute it at one input. -/
def listTellsWrong : ChangeSpec := { name := "listTells", fn := fun _ => fun
  | [d1, d2, d3] => { results := [.lit (.bool false)], args := [d1, d2, d3] }
  | _ => none }
def ListTellsWrongFalsely : Prop := listTellsRow.holds Tryz.pinned (OpenSpec.ofChange listTellsWrong)

/-- 'graftwoodlaw17.ListChanges': WHATEVER THE INPUT: true; the input reads as it did. -/
def listChangesSpec : ChangeSpec := { name := "listChanges", fn := fun _ => fun
  | [d1, d2, d3] => { results := [.lit (.bool true)], args := [d1, d2, d3] }
  | _ => none }
def listChangesRow : OpenClaim := { program := "ytlbibgofhhdgoaagreat", sum := "0208f0dfc7484995eb32191212556828f1d84bb9bd06f64d41d3cbcd2f727e54", func := "graftwood/graftwoodlaw17.ListChanges", spec := "listChanges", inPlace := ["internal/bytealg.IndexByteString", "internal/bytealg.IndexString", "internal/bytealg.abigen_runtime_cmpstring"], unfollowed := true, recurses := true, named := ["internal/bytealg.MaxLen"], apart := false }
def ListChangesSaid : Prop := listChangesRow.holds Tryz.pinned (OpenSpec.ofChange listChangesSpec)

/-- ITS FALSE NEIGHBOUR: 'it returns false'. Refute it at one input. -/
def listChangesWrong : ChangeSpec := { name := "listChanges", fn := fun _ => fun
  | [d1, d2, d3] => { results := [.lit (.bool false)], args := [d1, d2, d3] }
  | _ => none }
def ListChangesWrongFalsely : Prop := listChangesRow.holds Tryz.pinned (OpenSpec.ofChange listChangesWrong)

/-- 'graftwoodlaw17.ListAbove': WHATEVER THE INPUT: true; the input reads as it did. -/
def listAboveSpec : ChangeSpec := { name := "listAbove", fn := fun _ => fun
  | [d1, d2] => { results := [.lit (.bool true)], args := [d1, d2] }
  | _ => none }
def listAboveRow : OpenClaim := { program := "ytlbibgofhhdgoaagreat", sum := "0208f0dfc7484995eb32191212556828f1d84bb9bd06f64d41d3cbcd2f727e54", func := "graftwood/graftwoodlaw17.ListAbove", spec := "listAbove", inPlace := ["internal/bytealg.IndexByteString", "internal/bytealg.IndexString", "internal/bytealg.abigen_runtime_cmpstring"], unfollowed := true, recurses := true, named := ["internal/bytealg.MaxLen"], apart := false }
def ListAboveSaid : Prop := listAboveRow.holds Tryz.pinned (OpenSpec.ofChange listAboveSpec)

/-- ITS FALSE NEIGHBOUR: 'it returns false'. Refute it at one input. -/
def listAboveWrong : ChangeSpec := { name := "listAbove", fn := fun _ => fun
  | [d1, d2] => { results := [.lit (.bool false)], args := [d1, d2] }
  | _ => none }
def ListAboveWrongFalsely : Prop := listAboveRow.holds Tryz.pinned (OpenSpec.ofChange listAboveWrong)

/-- 'graftwoodlaw17.ListMore': WHATEVER THE INPUT: true; the input reads as it did. -/
def listMoreSpec : ChangeSpec := { name := "listMore", fn := fun _ => fun
  | [d1, d2] => { results := [.lit (.bool true)], args := [d1, d2] }
  | _ => none }
def listMoreRow : OpenClaim := { program := "ytlbibgofhhdgoaagreat", sum := "0208f0dfc7484995eb32191212556828f1d84bb9bd06f64d41d3cbcd2f727e54", func := "graftwood/graftwoodlaw17.ListMore", spec := "listMore", inPlace := ["internal/bytealg.IndexByteString", "internal/bytealg.IndexString", "internal/bytealg.abigen_runtime_cmpstring", "slices.overlaps[string]"], unfollowed := true, recurses := true, named := ["internal/bytealg.MaxLen"], apart := false }
def ListMoreSaid : Prop := listMoreRow.holds Tryz.pinned (OpenSpec.ofChange listMoreSpec)

/-- ITS FALSE NEIGHBOUR: 'it returns false'. Refute it at one input. -/
def listMoreWrong : ChangeSpec := { name := "listMore", fn := fun _ => fun
  | [d1, d2] => { results := [.lit (.bool false)], args := [d1, d2] }
  | _ => none }
def ListMoreWrongFalsely : Prop := listMoreRow.holds Tryz.pinned (OpenSpec.ofChange listMoreWrong)

/- THE SECOND FORM. 'bulk': how many values and letters a reading holds, each counted each time it is reached (what is shared counts as often as it is met; a slice's spare places count too). A statement '..UptoSaid' is the law's where the arguments, and the package variables that the reading takes, are together of bulk at most 1048576: NARROWER than '..Said'. Prove '..Said' where nothing that the law and all that it calls make is longer than what came in: it says more and counts as full. Else prove '..UptoSaid'. A law counts once. -/
mutual
def uptoBulk {H : Type} : DataW H → Nat
  | .lit (.string bytes) => bytes.length + 1
  | .lit _ => 1
  | .nil => 1
  | .ptr d => uptoBulk d + 1
  | .slice elems spare => uptoBulkAll elems + uptoBulkAll spare + 1
  | .agg parts => uptoBulkAll parts + 1
  | .iface _ d => uptoBulk d + 1
  | .map entries => uptoBulkEntries entries + 1
  | .held _ => 1
def uptoBulkAll {H : Type} : List (DataW H) → Nat
  | [] => 0
  | d :: r => uptoBulk d + uptoBulkAll r
def uptoBulkEntries {H : Type} : List (Lit × DataW H) → Nat
  | [] => 0
  | x :: r => uptoBulkEntry x + uptoBulkEntries r
def uptoBulkEntry {H : Type} : Lit × DataW H → Nat
  | (.string bytes, d) => bytes.length + uptoBulk d + 1
  | (_, d) => uptoBulk d + 1
 end
def uptoSmall : (H : Type) → List (DataW H) → Bool := fun _ ds => decide (uptoBulkAll ds ≤ 1048576)
def OpenSpec.upto (s : _root_.Go.ChangeSpec) : _root_.Go.OpenSpec := { _root_.Go.OpenSpec.ofChange s with cond := some uptoSmall }

/-- 'graftwoodlaw17.ListTells', WHERE WHAT IT READS IS OF BULK AT MOST 1048576: true; the input reads as it did. -/
def listTellsUptoRow : OpenClaim := { program := "ytlbibgofhhdgoaagreat", sum := "0208f0dfc7484995eb32191212556828f1d84bb9bd06f64d41d3cbcd2f727e54", func := "graftwood/graftwoodlaw17.ListTells", spec := "listTells", inPlace := ["internal/bytealg.IndexByteString", "internal/bytealg.IndexString", "internal/bytealg.abigen_runtime_cmpstring"], unfollowed := true, recurses := true, named := ["internal/bytealg.MaxLen"], apart := false, narrowed := true }
def ListTellsUptoSaid : Prop := listTellsUptoRow.holds Tryz.pinned (OpenSpec.upto listTellsSpec)

/-- 'graftwoodlaw17.ListChanges', WHERE WHAT IT READS IS OF BULK AT MOST 1048576: true; the input reads as it did. -/
def listChangesUptoRow : OpenClaim := { program := "ytlbibgofhhdgoaagreat", sum := "0208f0dfc7484995eb32191212556828f1d84bb9bd06f64d41d3cbcd2f727e54", func := "graftwood/graftwoodlaw17.ListChanges", spec := "listChanges", inPlace := ["internal/bytealg.IndexByteString", "internal/bytealg.IndexString", "internal/bytealg.abigen_runtime_cmpstring"], unfollowed := true, recurses := true, named := ["internal/bytealg.MaxLen"], apart := false, narrowed := true }
def ListChangesUptoSaid : Prop := listChangesUptoRow.holds Tryz.pinned (OpenSpec.upto listChangesSpec)

/-- 'graftwoodlaw17.ListAbove', WHERE WHAT IT READS IS OF BULK AT MOST 1048576: true; the input reads as it did. -/
def listAboveUptoRow : OpenClaim := { program := "ytlbibgofhhdgoaagreat", sum := "0208f0dfc7484995eb32191212556828f1d84bb9bd06f64d41d3cbcd2f727e54", func := "graftwood/graftwoodlaw17.ListAbove", spec := "listAbove", inPlace := ["internal/bytealg.IndexByteString", "internal/bytealg.IndexString", "internal/bytealg.abigen_runtime_cmpstring"], unfollowed := true, recurses := true, named := ["internal/bytealg.MaxLen"], apart := false, narrowed := true }
def ListAboveUptoSaid : Prop := listAboveUptoRow.holds Tryz.pinned (OpenSpec.upto listAboveSpec)

/-- 'graftwoodlaw17.ListMore', WHERE WHAT IT READS IS OF BULK AT MOST 1048576: true; the input reads as it did. -/
def listMoreUptoRow : OpenClaim := { program := "ytlbibgofhhdgoaagreat", sum := "0208f0dfc7484995eb32191212556828f1d84bb9bd06f64d41d3cbcd2f727e54", func := "graftwood/graftwoodlaw17.ListMore", spec := "listMore", inPlace := ["internal/bytealg.IndexByteString", "internal/bytealg.IndexString", "internal/bytealg.abigen_runtime_cmpstring", "slices.overlaps[string]"], unfollowed := true, recurses := true, named := ["internal/bytealg.MaxLen"], apart := false, narrowed := true }
def ListMoreUptoSaid : Prop := listMoreUptoRow.holds Tryz.pinned (OpenSpec.upto listMoreSpec)

end Rows
end Go.Proofs.YtlbibgofhhdgoaaGreat
