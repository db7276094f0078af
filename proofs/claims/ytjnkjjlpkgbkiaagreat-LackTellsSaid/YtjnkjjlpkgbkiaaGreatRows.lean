/-
  No cell of these rows narrows 'for every input' (looked for: loops, veiled, ifaces, maps, wideKeys, modest, calm, conditions, laid).
  DERIVED. THE GIVEN ROWS OF THIS SEAT. 3 by the template 'for every input the law returns true; each argument reads behind the call as it read before'; 0 by the template 'total and deterministic' (their statements: YtjnkjjlpkgbkiaaGreatTotals.lean).
  GIVEN WITH THE SEED: the statements are not yours to turn. If you find one false, say at which input.
  Laid BY PROGRAM, IN A SANDBOX (cutbox-rows.mjs): the forced cells as the released guide's own fill.sh prints them over the translation bc2ee61c3c83575c… (all of the seat's roots in one cut). By AI agents, Wed Nov 11 2026. No macro, syntax, notation, axiom, sorry.
-/
import Derived.Test.YtjnkjjlpkgbkiaaGreatChecked
import GoSem.Claim
import GoSem.ClaimJoined
import GoSem.ClaimMapViews
import Derived.JoinedTies
import Derived.KernelRfl
namespace Go.Proofs.YtjnkjjlpkgbkiaaGreat
/- THE CELL 'sum', in the pinned program and in every row, IS THE sha256 OF THE DUMP (.gsa) THAT YtjnkjjlpkgbkiaaGreatProg.lean LOADS. Nothing in Lean hashes anything: it is a label: what it is worth is what the hold of that sum in a sandbox is worth. -/
noncomputable def Tryz.pinned : Pinned := { name := "ytjnkjjlpkgbkiaagreat", sum := "bc2ee61c3c83575c62bb0742363796bafe76d7a84865d57a7aac89dff403d965", checked := Tryz.checked }
namespace Rows
def none {H : Type} : Left H := { results := [], args := [] }

/-- 'graftwoodlaw18.LackTells': WHATEVER THE INPUT: true; the input reads as it did. -/
def lackTellsSpec : ChangeSpec := { name := "lackTells", fn := fun _ => fun
  | [d1, d2, d3] => { results := [.lit (.bool true)], args := [d1, d2, d3] }
  | _ => none }
def lackTellsRow : OpenClaim := { program := "ytjnkjjlpkgbkiaagreat", sum := "bc2ee61c3c83575c62bb0742363796bafe76d7a84865d57a7aac89dff403d965", func := "graftwood/graftwoodlaw18.LackTells", spec := "lackTells", inPlace := ["internal/bytealg.IndexByteString", "internal/bytealg.IndexString", "internal/bytealg.abigen_runtime_cmpstring"], unfollowed := true, recurses := true, named := ["internal/bytealg.MaxLen"], plainKeys := false, apart := false }
def LackTellsSaid : Prop := lackTellsRow.holds Tryz.pinned (OpenSpec.ofChange lackTellsSpec)

/-- ITS FALSE NEIGHBOUR: 'it returns false'. Refute it at one input. -/
def lackTellsWrong : ChangeSpec := { name := "lackTells", fn := fun _ => fun
  | [d1, d2, d3] => { results := [.lit (.bool false)], args := [d1, d2, d3] }
  | _ => none }
def LackTellsWrongFalsely : Prop := lackTellsRow.holds Tryz.pinned (OpenSpec.ofChange lackTellsWrong)

/-- 'graftwoodlaw18.LackBy': WHATEVER THE INPUT: true; the input reads as it did. -/
def lackBySpec : ChangeSpec := { name := "lackBy", fn := fun _ => fun
  | [d1, d2] => { results := [.lit (.bool true)], args := [d1, d2] }
  | _ => none }
def lackByRow : OpenClaim := { program := "ytjnkjjlpkgbkiaagreat", sum := "bc2ee61c3c83575c62bb0742363796bafe76d7a84865d57a7aac89dff403d965", func := "graftwood/graftwoodlaw18.LackBy", spec := "lackBy", inPlace := ["internal/bytealg.IndexByteString", "internal/bytealg.IndexString", "internal/bytealg.abigen_runtime_cmpstring"], unfollowed := true, recurses := true, named := ["internal/bytealg.MaxLen"], plainKeys := false, apart := false }
def LackBySaid : Prop := lackByRow.holds Tryz.pinned (OpenSpec.ofChange lackBySpec)

/-- ITS FALSE NEIGHBOUR: 'it returns false'. Refute it at one input. -/
def lackByWrong : ChangeSpec := { name := "lackBy", fn := fun _ => fun
  | [d1, d2] => { results := [.lit (.bool false)], args := [d1, d2] }
  | _ => none }
def LackByWrongFalsely : Prop := lackByRow.holds Tryz.pinned (OpenSpec.ofChange lackByWrong)

/-- 'graftwoodlaw18.LackLess': WHATEVER THE INPUT: true; the input reads as it did. -/
def lackLessSpec : ChangeSpec := { name := "lackLess", fn := fun _ => fun
  | [d1, d2, d3] => { results := [.lit (.bool true)], args := [d1, d2, d3] }
  | _ => none }
def lackLessRow : OpenClaim := { program := "ytjnkjjlpkgbkiaagreat", sum := "bc2ee61c3c83575c62bb0742363796bafe76d7a84865d57a7aac89dff403d965", func := "graftwood/graftwoodlaw18.LackLess", spec := "lackLess", inPlace := ["internal/bytealg.IndexByteString", "internal/bytealg.IndexString", "internal/bytealg.abigen_runtime_cmpstring"], unfollowed := true, recurses := true, named := ["internal/bytealg.MaxLen"], plainKeys := false, apart := false }
def LackLessSaid : Prop := lackLessRow.holds Tryz.pinned (OpenSpec.ofChange lackLessSpec)

/-- ITS FALSE NEIGHBOUR: 'it returns false'. Refute it at one input. -/
def lackLessWrong : ChangeSpec := { name := "lackLess", fn := fun _ => fun
  | [d1, d2, d3] => { results := [.lit (.bool false)], args := [d1, d2, d3] }
  | _ => none }
def LackLessWrongFalsely : Prop := lackLessRow.holds Tryz.pinned (OpenSpec.ofChange lackLessWrong)

/- THE SECOND FORM. 'bulk': how many values and letters a reading holds, each counted each time it is reached (what is shared counts as often as it is met; a slice's spare places count too). A statement '..UptoSaid' is the law's where the arguments, and the package variables that the reading takes, are together of bulk at most 1048576: NARROWER than '..Said'. Prove '..Said' where nothing that the law and all that it calls make is longer than what came in: it says more and counts as full. Else prove '..UptoSaid'. A law counts once. -/
mutual
def uptoBulk {H : Type} : DataW H → Nat
  | .lit (.string bytes) => bytes.length + 1
  | .lit _ => 1
  | .nil => 1
  | .ptr d => uptoBulk d + 1
  | .slice elems spare => uptoBulkAll elems + uptoBulkAll spare + 1
  | .agg parts => uptoBulkAll parts + 1
  | .iface _ d => uptoBulk d + 1
  | .map entries => uptoBulkEntries entries + 1
  | .held _ => 1
def uptoBulkAll {H : Type} : List (DataW H) → Nat
  | [] => 0
  | d :: r => uptoBulk d + uptoBulkAll r
def uptoBulkEntries {H : Type} : List (Lit × DataW H) → Nat
  | [] => 0
  | x :: r => uptoBulkEntry x + uptoBulkEntries r
def uptoBulkEntry {H : Type} : Lit × DataW H → Nat
  | (.string bytes, d) => bytes.length + uptoBulk d + 1
  | (_, d) => uptoBulk d + 1
 end
def uptoSmall : (H : Type) → List (DataW H) → Bool := fun _ ds => decide (uptoBulkAll ds ≤ 1048576)
def OpenSpec.upto (s : _root_.Go.ChangeSpec) : _root_.Go.OpenSpec := { _root_.Go.OpenSpec.ofChange s with cond := some uptoSmall }

/-- 'graftwoodlaw18.LackTells', WHERE WHAT IT READS IS OF BULK AT MOST 1048576: true; the input reads as it did. -/
def lackTellsUptoRow : OpenClaim := { program := "ytjnkjjlpkgbkiaagreat", sum := "bc2ee61c3c83575c62bb0742363796bafe76d7a84865d57a7aac89dff403d965", func := "graftwood/graftwoodlaw18.LackTells", spec := "lackTells", inPlace := ["internal/bytealg.IndexByteString", "internal/bytealg.IndexString", "internal/bytealg.abigen_runtime_cmpstring"], unfollowed := true, recurses := true, named := ["internal/bytealg.MaxLen"], plainKeys := false, apart := false, narrowed := true }
def LackTellsUptoSaid : Prop := lackTellsUptoRow.holds Tryz.pinned (OpenSpec.upto lackTellsSpec)

/-- 'graftwoodlaw18.LackBy', WHERE WHAT IT READS IS OF BULK AT MOST 1048576: true; the input reads as it did. -/
def lackByUptoRow : OpenClaim := { program := "ytjnkjjlpkgbkiaagreat", sum := "bc2ee61c3c83575c62bb0742363796bafe76d7a84865d57a7aac89dff403d965", func := "graftwood/graftwoodlaw18.LackBy", spec := "lackBy", inPlace := ["internal/bytealg.IndexByteString", "internal/bytealg.IndexString", "internal/bytealg.abigen_runtime_cmpstring"], unfollowed := true, recurses := true, named := ["internal/bytealg.MaxLen"], plainKeys := false, apart := false, narrowed := true }
def LackByUptoSaid : Prop := lackByUptoRow.holds Tryz.pinned (OpenSpec.upto lackBySpec)

/-- 'graftwoodlaw18.LackLess', WHERE WHAT IT READS IS OF BULK AT MOST 1048576: true; the input reads as it did. -/
def lackLessUptoRow : OpenClaim := { program := "ytjnkjjlpkgbkiaagreat", sum := "bc2ee61c3c83575c62bb0742363796bafe76d7a84865d57a7aac89dff403d965", func := "graftwood/graftwoodlaw18.LackLess", spec := "lackLess", inPlace := ["internal/bytealg.IndexByteString", "internal/bytealg.IndexString", "internal/bytealg.abigen_runtime_cmpstring"], unfollowed := true, recurses := true, named := ["internal/bytealg.MaxLen"], plainKeys := false, apart := false, narrowed := true }
def LackLessUptoSaid : Prop := lackLessUptoRow.holds Tryz.pinned (OpenSpec.upto lackLessSpec)

end Rows
end Go.Proofs.YtjnkjjlpkgbkiaaGreat
