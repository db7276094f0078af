/-
  No cell of these rows narrows 'for every input' (looked for: loops, veiled, ifaces, maps, wideKeys, modest, calm, conditions, laid).
  DERIVED. THE GIVEN ROWS OF THIS SEAT. 7 by the template 'for every input the law returns true; each argument reads behind the call as it read before'; 0 by the template 'total and deterministic' (their statements: YtcdflfjbdbofcaaTotals.lean).
  GIVEN WITH THE SEED: the statements are not yours to turn. If you find one false, say at which input.
  Laid BY PROGRAM, IN A SANDBOX (cutbox-rows.mjs): the forced cells as the released guide's own fill.sh prints them over the translation 9c8feffcaa4088b2… (all of the seat's roots in one cut). By AI agents, Wed Nov 11 2026. No macro, syntax, notation, axiom, sorry.
-/
import Derived.Test.YtcdflfjbdbofcaaChecked
import GoSem.Claim
import GoSem.ClaimJoined
import GoSem.ClaimMapViews
import Derived.JoinedTies
import Derived.KernelRfl
namespace Go.Proofs.Ytcdflfjbdbofcaa
/- THE CELL 'sum', in the pinned program and in every row, IS THE sha256 OF THE DUMP (.gsa) THAT YtcdflfjbdbofcaaProg.lean LOADS. Nothing in Lean hashes anything: it is a label: what it is worth is what the hold of that sum in a sandbox is worth. -/
noncomputable def Try.pinned : Pinned := { name := "ytcdflfjbdbofcaa", sum := "9c8feffcaa4088b2f19393a3e0b6068670612f24f7c7a1f0b62c65ee893919ad", checked := Try.checked }
namespace Rows
def none {H : Type} : Left H := { results := [], args := [] }

/-- 'graftwoodlaw03.VersionParts': WHATEVER THE INPUT: true; the input reads as it did. -/
def versionPartsSpec : ChangeSpec := { name := "versionParts", fn := fun _ => fun
  | [d1, d2] => { results := [.lit (.bool true)], args := [d1, d2] }
  | _ => none }
def versionPartsRow : OpenClaim := { program := "ytcdflfjbdbofcaa", sum := "9c8feffcaa4088b2f19393a3e0b6068670612f24f7c7a1f0b62c65ee893919ad", func := "graftwood/graftwoodlaw03.VersionParts", spec := "versionParts", inPlace := ["internal/bytealg.IndexByteString", "internal/bytealg.IndexString", "internal/abi.NoEscape", "internal/bytealg.MakeNoZero", "internal/bytealg.abigen_runtime_cmpstring"], unfollowed := true, recurses := true, named := ["internal/bytealg.MaxLen"], apart := false }
def VersionPartsSaid : Prop := versionPartsRow.holds Try.pinned (OpenSpec.ofChange versionPartsSpec)

/-- ITS FALSE NEIGHBOUR: 'it returns false'. Refute it at one input. -/
def versionPartsWrong : ChangeSpec := { name := "versionParts", fn := fun _ => fun
  | [d1, d2] => { results := [.lit (.bool false)], args := [d1, d2] }
  | _ => none }
def VersionPartsWrongFalsely : Prop := versionPartsRow.holds Try.pinned (OpenSpec.ofChange versionPartsWrong)

/-- 'graftwoodlaw03.VersionOrders': WHATEVER THE INPUT: true; the input reads as it did. -/
def versionOrdersSpec : ChangeSpec := { name := "versionOrders", fn := fun _ => fun
  | [d1, d2, d3] => { results := [.lit (.bool true)], args := [d1, d2, d3] }
  | _ => none }
def versionOrdersRow : OpenClaim := { program := "ytcdflfjbdbofcaa", sum := "9c8feffcaa4088b2f19393a3e0b6068670612f24f7c7a1f0b62c65ee893919ad", func := "graftwood/graftwoodlaw03.VersionOrders", spec := "versionOrders", inPlace := ["internal/bytealg.IndexByteString", "internal/bytealg.IndexString", "internal/bytealg.abigen_runtime_cmpstring"], unfollowed := true, recurses := true, named := ["internal/bytealg.MaxLen"], apart := false }
def VersionOrdersSaid : Prop := versionOrdersRow.holds Try.pinned (OpenSpec.ofChange versionOrdersSpec)

/-- ITS FALSE NEIGHBOUR: 'it returns false'. Refute it at one input. -/
def versionOrdersWrong : ChangeSpec := { name := "versionOrders", fn := fun _ => fun
  | [d1, d2, d3] => { results := [.lit (.bool false)], args := [d1, d2, d3] }
  | _ => none }
def VersionOrdersWrongFalsely : Prop := versionOrdersRow.holds Try.pinned (OpenSpec.ofChange versionOrdersWrong)

/-- 'graftwoodlaw03.VersionBack': WHATEVER THE INPUT: true; the input reads as it did. -/
def versionBackSpec : ChangeSpec := { name := "versionBack", fn := fun _ => fun
  | [d1, d2] => { results := [.lit (.bool true)], args := [d1, d2] }
  | _ => none }
def versionBackRow : OpenClaim := { program := "ytcdflfjbdbofcaa", sum := "9c8feffcaa4088b2f19393a3e0b6068670612f24f7c7a1f0b62c65ee893919ad", func := "graftwood/graftwoodlaw03.VersionBack", spec := "versionBack", inPlace := ["internal/bytealg.IndexByteString", "internal/bytealg.IndexString", "internal/abi.NoEscape", "internal/bytealg.MakeNoZero", "internal/bytealg.abigen_runtime_cmpstring"], unfollowed := true, recurses := true, named := ["internal/bytealg.MaxLen"], apart := false }
def VersionBackSaid : Prop := versionBackRow.holds Try.pinned (OpenSpec.ofChange versionBackSpec)

/-- ITS FALSE NEIGHBOUR: 'it returns false'. Refute it at one input. -/
def versionBackWrong : ChangeSpec := { name := "versionBack", fn := fun _ => fun
  | [d1, d2] => { results := [.lit (.bool false)], args := [d1, d2] }
  | _ => none }
def VersionBackWrongFalsely : Prop := versionBackRow.holds Try.pinned (OpenSpec.ofChange versionBackWrong)

/-- 'graftwoodlaw03.VersionOrder': WHATEVER THE INPUT: true; the input reads as it did. -/
def versionOrderSpec : ChangeSpec := { name := "versionOrder", fn := fun _ => fun
  | [d1, d2, d3] => { results := [.lit (.bool true)], args := [d1, d2, d3] }
  | _ => none }
def versionOrderRow : OpenClaim := { program := "ytcdflfjbdbofcaa", sum := "9c8feffcaa4088b2f19393a3e0b6068670612f24f7c7a1f0b62c65ee893919ad", func := "graftwood/graftwoodlaw03.VersionOrder", spec := "versionOrder", inPlace := ["internal/bytealg.IndexByteString", "internal/bytealg.IndexString", "internal/bytealg.abigen_runtime_cmpstring"], unfollowed := true, recurses := true, named := ["internal/bytealg.MaxLen"], apart := false }
def VersionOrderSaid : Prop := versionOrderRow.holds Try.pinned (OpenSpec.ofChange versionOrderSpec)

/-- ITS FALSE NEIGHBOUR: 'it returns false'. Refute it at one input. -/
def versionOrderWrong : ChangeSpec := { name := "versionOrder", fn := fun _ => fun
  | [d1, d2, d3] => { results := [.lit (.bool false)], args := [d1, d2, d3] }
  | _ => none }
def VersionOrderWrongFalsely : Prop := versionOrderRow.holds Try.pinned (OpenSpec.ofChange versionOrderWrong)

/-- 'graftwoodlaw03.VersionSteps': WHATEVER THE INPUT: true; the input reads as it did. -/
def versionStepsSpec : ChangeSpec := { name := "versionSteps", fn := fun _ => fun
  | [d1, d2, d3] => { results := [.lit (.bool true)], args := [d1, d2, d3] }
  | _ => none }
def versionStepsRow : OpenClaim := { program := "ytcdflfjbdbofcaa", sum := "9c8feffcaa4088b2f19393a3e0b6068670612f24f7c7a1f0b62c65ee893919ad", func := "graftwood/graftwoodlaw03.VersionSteps", spec := "versionSteps", inPlace := ["internal/bytealg.IndexByteString", "internal/bytealg.IndexString", "internal/abi.NoEscape", "internal/bytealg.MakeNoZero", "internal/bytealg.abigen_runtime_cmpstring"], unfollowed := true, recurses := true, named := ["internal/bytealg.MaxLen"], apart := false }
def VersionStepsSaid : Prop := versionStepsRow.holds Try.pinned (OpenSpec.ofChange versionStepsSpec)

/-- ITS FALSE NEIGHBOUR: 'it returns false'. Refute it at one input. -/
def versionStepsWrong : ChangeSpec := { name := "versionSteps", fn := fun _ => fun
  | [d1, d2, d3] => { results := [.lit (.bool false)], args := [d1, d2, d3] }
  | _ => none }
def VersionStepsWrongFalsely : Prop := versionStepsRow.holds Try.pinned (OpenSpec.ofChange versionStepsWrong)

/-- 'graftwoodlaw03.VersionCores': WHATEVER THE INPUT: true; the input reads as it did. -/
def versionCoresSpec : ChangeSpec := { name := "versionCores", fn := fun _ => fun
  | [d1, d2] => { results := [.lit (.bool true)], args := [d1, d2] }
  | _ => none }
def versionCoresRow : OpenClaim := { program := "ytcdflfjbdbofcaa", sum := "9c8feffcaa4088b2f19393a3e0b6068670612f24f7c7a1f0b62c65ee893919ad", func := "graftwood/graftwoodlaw03.VersionCores", spec := "versionCores", inPlace := ["internal/bytealg.IndexByteString", "internal/bytealg.IndexString", "internal/abi.NoEscape", "internal/bytealg.MakeNoZero", "internal/bytealg.abigen_runtime_cmpstring"], unfollowed := true, recurses := true, named := ["internal/bytealg.MaxLen"], apart := false }
def VersionCoresSaid : Prop := versionCoresRow.holds Try.pinned (OpenSpec.ofChange versionCoresSpec)

/-- ITS FALSE NEIGHBOUR: 'it returns false'. Refute it at one input. -/
def versionCoresWrong : ChangeSpec := { name := "versionCores", fn := fun _ => fun
  | [d1, d2] => { results := [.lit (.bool false)], args := [d1, d2] }
  | _ => none }
def VersionCoresWrongFalsely : Prop := versionCoresRow.holds Try.pinned (OpenSpec.ofChange versionCoresWrong)

/-- 'graftwoodlaw03.VersionMost': WHATEVER THE INPUT: true; the input reads as it did. -/
def versionMostSpec : ChangeSpec := { name := "versionMost", fn := fun _ => fun
  | [d] => { results := [.lit (.bool true)], args := [d] }
  | _ => none }
def versionMostRow : OpenClaim := { program := "ytcdflfjbdbofcaa", sum := "9c8feffcaa4088b2f19393a3e0b6068670612f24f7c7a1f0b62c65ee893919ad", func := "graftwood/graftwoodlaw03.VersionMost", spec := "versionMost", inPlace := ["internal/bytealg.IndexByteString", "internal/bytealg.IndexString", "internal/bytealg.abigen_runtime_cmpstring"], unfollowed := true, recurses := true, named := ["internal/bytealg.MaxLen"], apart := false }
def VersionMostSaid : Prop := versionMostRow.holds Try.pinned (OpenSpec.ofChange versionMostSpec)

/-- ITS FALSE NEIGHBOUR: 'it returns false'. Refute it at one input. -/
def versionMostWrong : ChangeSpec := { name := "versionMost", fn := fun _ => fun
  | [d] => { results := [.lit (.bool false)], args := [d] }
  | _ => none }
def VersionMostWrongFalsely : Prop := versionMostRow.holds Try.pinned (OpenSpec.ofChange versionMostWrong)

/- THE SECOND FORM. 'bulk': how many values and letters a reading holds, each counted each time it is reached (what is shared counts as often as it is met; a slice's spare places count too). A statement '..UptoSaid' is the law's where the arguments, and the package variables that the reading takes, are together of bulk at most 1048576: NARROWER than '..Said'. Prove '..Said' where nothing that the law and all that it calls make is longer than what came in: it says more and counts as full. Else prove '..UptoSaid'. A law counts once. -/
mutual
def uptoBulk {H : Type} : DataW H → Nat
  | .lit (.string bytes) => bytes.length + 1
  | .lit _ => 1
  | .nil => 1
  | .ptr d => uptoBulk d + 1
  | .slice elems spare => uptoBulkAll elems + uptoBulkAll spare + 1
  | .agg parts => uptoBulkAll parts + 1
  | .iface _ d => uptoBulk d + 1
  | .map entries => uptoBulkEntries entries + 1
  | .held _ => 1
def uptoBulkAll {H : Type} : List (DataW H) → Nat
  | [] => 0
  | d :: r => uptoBulk d + uptoBulkAll r
def uptoBulkEntries {H : Type} : List (Lit × DataW H) → Nat
  | [] => 0
  | x :: r => uptoBulkEntry x + uptoBulkEntries r
def uptoBulkEntry {H : Type} : Lit × DataW H → Nat
  | (.string bytes, d) => bytes.length + uptoBulk d + 1
  | (_, d) => uptoBulk d + 1
 end
def uptoSmall : (H : Type) → List (DataW H) → Bool := fun _ ds => decide (uptoBulkAll ds ≤ 1048576)
def OpenSpec.upto (s : _root_.Go.ChangeSpec) : _root_.Go.OpenSpec := { _root_.Go.OpenSpec.ofChange s with cond := some uptoSmall }

/-- 'graftwoodlaw03.VersionParts', WHERE WHAT IT READS IS OF BULK AT MOST 1048576: true; the input reads as it did. -/
def versionPartsUptoRow : OpenClaim := { program := "ytcdflfjbdbofcaa", sum := "9c8feffcaa4088b2f19393a3e0b6068670612f24f7c7a1f0b62c65ee893919ad", func := "graftwood/graftwoodlaw03.VersionParts", spec := "versionParts", inPlace := ["internal/bytealg.IndexByteString", "internal/bytealg.IndexString", "internal/abi.NoEscape", "internal/bytealg.MakeNoZero", "internal/bytealg.abigen_runtime_cmpstring"], unfollowed := true, recurses := true, named := ["internal/bytealg.MaxLen"], apart := false, narrowed := true }
def VersionPartsUptoSaid : Prop := versionPartsUptoRow.holds Try.pinned (OpenSpec.upto versionPartsSpec)

/-- 'graftwoodlaw03.VersionOrders', WHERE WHAT IT READS IS OF BULK AT MOST 1048576: true; the input reads as it did. -/
def versionOrdersUptoRow : OpenClaim := { program := "ytcdflfjbdbofcaa", sum := "9c8feffcaa4088b2f19393a3e0b6068670612f24f7c7a1f0b62c65ee893919ad", func := "graftwood/graftwoodlaw03.VersionOrders", spec := "versionOrders", inPlace := ["internal/bytealg.IndexByteString", "internal/bytealg.IndexString", "internal/bytealg.abigen_runtime_cmpstring"], unfollowed := true, recurses := true, named := ["internal/bytealg.MaxLen"], apart := false, narrowed := true }
def VersionOrdersUptoSaid : Prop := versionOrdersUptoRow.holds Try.pinned (OpenSpec.upto versionOrdersSpec)

/-- 'graftwoodlaw03.VersionBack', WHERE WHAT IT READS IS OF BULK AT MOST 1048576: true; the input reads as it did. -/
def versionBackUptoRow : OpenClaim := { program := "ytcdflfjbdbofcaa", sum := "9c8feffcaa4088b2f19393a3e0b6068670612f24f7c7a1f0b62c65ee893919ad", func := "graftwood/graftwoodlaw03.VersionBack", spec := "versionBack", inPlace := ["internal/bytealg.IndexByteString", "internal/bytealg.IndexString", "internal/abi.NoEscape", "internal/bytealg.MakeNoZero", "internal/bytealg.abigen_runtime_cmpstring"], unfollowed := true, recurses := true, named := ["internal/bytealg.MaxLen"], apart := false, narrowed := true }
def VersionBackUptoSaid : Prop := versionBackUptoRow.holds Try.pinned (OpenSpec.upto versionBackSpec)

/-- 'graftwoodlaw03.VersionOrder', WHERE WHAT IT READS IS OF BULK AT MOST 1048576: true; the input reads as it did. -/
def versionOrderUptoRow : OpenClaim := { program := "ytcdflfjbdbofcaa", sum := "9c8feffcaa4088b2f19393a3e0b6068670612f24f7c7a1f0b62c65ee893919ad", func := "graftwood/graftwoodlaw03.VersionOrder", spec := "versionOrder", inPlace := ["internal/bytealg.IndexByteString", "internal/bytealg.IndexString", "internal/bytealg.abigen_runtime_cmpstring"], unfollowed := true, recurses := true, named := ["internal/bytealg.MaxLen"], apart := false, narrowed := true }
def VersionOrderUptoSaid : Prop := versionOrderUptoRow.holds Try.pinned (OpenSpec.upto versionOrderSpec)

/-- 'graftwoodlaw03.VersionSteps', WHERE WHAT IT READS IS OF BULK AT MOST 1048576: true; the input reads as it did. -/
def versionStepsUptoRow : OpenClaim := { program := "ytcdflfjbdbofcaa", sum := "9c8feffcaa4088b2f19393a3e0b6068670612f24f7c7a1f0b62c65ee893919ad", func := "graftwood/graftwoodlaw03.VersionSteps", spec := "versionSteps", inPlace := ["internal/bytealg.IndexByteString", "internal/bytealg.IndexString", "internal/abi.NoEscape", "internal/bytealg.MakeNoZero", "internal/bytealg.abigen_runtime_cmpstring"], unfollowed := true, recurses := true, named := ["internal/bytealg.MaxLen"], apart := false, narrowed := true }
def VersionStepsUptoSaid : Prop := versionStepsUptoRow.holds Try.pinned (OpenSpec.upto versionStepsSpec)

/-- 'graftwoodlaw03.VersionCores', WHERE WHAT IT READS IS OF BULK AT MOST 1048576: true; the input reads as it did. -/
def versionCoresUptoRow : OpenClaim := { program := "ytcdflfjbdbofcaa", sum := "9c8feffcaa4088b2f19393a3e0b6068670612f24f7c7a1f0b62c65ee893919ad", func := "graftwood/graftwoodlaw03.VersionCores", spec := "versionCores", inPlace := ["internal/bytealg.IndexByteString", "internal/bytealg.IndexString", "internal/abi.NoEscape", "internal/bytealg.MakeNoZero", "internal/bytealg.abigen_runtime_cmpstring"], unfollowed := true, recurses := true, named := ["internal/bytealg.MaxLen"], apart := false, narrowed := true }
def VersionCoresUptoSaid : Prop := versionCoresUptoRow.holds Try.pinned (OpenSpec.upto versionCoresSpec)

/-- 'graftwoodlaw03.VersionMost', WHERE WHAT IT READS IS OF BULK AT MOST 1048576: true; the input reads as it did. -/
def versionMostUptoRow : OpenClaim := { program := "ytcdflfjbdbofcaa", sum := "9c8feffcaa4088b2f19393a3e0b6068670612f24f7c7a1f0b62c65ee893919ad", func := "graftwood/graftwoodlaw03.VersionMost", spec := "versionMost", inPlace := ["internal/bytealg.IndexByteString", "internal/bytealg.IndexString", "internal/bytealg.abigen_runtime_cmpstring"], unfollowed := true, recurses := true, named := ["internal/bytealg.MaxLen"], apart := false, narrowed := true }
def VersionMostUptoSaid : Prop := versionMostUptoRow.holds Try.pinned (OpenSpec.upto versionMostSpec)

end Rows
end Go.Proofs.Ytcdflfjbdbofcaa
