/-
  No cell of these rows narrows 'for every input' (looked for: loops, veiled, ifaces, maps, wideKeys, modest, calm, conditions, laid).
  DERIVED. THE GIVEN ROWS OF THIS SEAT. 3 by the template 'for every input the law returns true; each argument reads behind the call as it read before'; 0 by the template 'total and deterministic' (their statements: YtdefphacdcbljaaTotals.lean).
  GIVEN WITH THE SEED: the statements are not yours to turn. If you find one false, say at which input.
  Laid BY PROGRAM, IN A SANDBOX (cutbox-rows.mjs): the forced cells as the released guide's own fill.sh prints them over the translation bafae87922882caf… (all of the seat's roots in one cut). By AI agents, Wed Nov 11 2026. No macro, syntax, notation, axiom, sorry.
-/
import Derived.Test.YtdefphacdcbljaaChecked
import GoSem.Claim
import GoSem.ClaimJoined
import GoSem.ClaimMapViews
import Derived.JoinedTies
import Derived.KernelRfl
namespace Go.Proofs.Ytdefphacdcbljaa
/- THE CELL 'sum', in the pinned program and in every row, IS THE sha256 OF THE DUMP (.gsa) THAT YtdefphacdcbljaaProg.lean LOADS. Nothing in Lean hashes anything: it is a label: what it is worth is what the hold of that sum in a sandbox is worth. -/
noncomputable def Try.pinned : Pinned := { name := "ytdefphacdcbljaa", sum := "bafae87922882cafdbad756952356e0251882ea2659c11d7e48c3cbcf34247fc", checked := Try.checked }
namespace Rows
def none {H : Type} : Left H := { results := [], args := [] }

/-- 'graftwoodlaw19.WhyChain': WHATEVER THE INPUT: true; the input reads as it did. -/
def whyChainSpec : ChangeSpec := { name := "whyChain", fn := fun _ => fun
  | [d1, d2] => { results := [.lit (.bool true)], args := [d1, d2] }
  | _ => none }
def whyChainRow : OpenClaim := { program := "ytdefphacdcbljaa", sum := "bafae87922882cafdbad756952356e0251882ea2659c11d7e48c3cbcf34247fc", func := "graftwood/graftwoodlaw19.WhyChain", spec := "whyChain", inPlace := ["internal/bytealg.IndexByteString", "internal/bytealg.IndexString", "internal/bytealg.abigen_runtime_cmpstring"], unfollowed := true, recurses := true, named := ["internal/bytealg.MaxLen"], plainKeys := false, apart := false }
def WhyChainSaid : Prop := whyChainRow.holds Try.pinned (OpenSpec.ofChange whyChainSpec)

/-- ITS FALSE NEIGHBOUR: 'it returns false'. Refute it at one input. -/
def whyChainWrong : ChangeSpec := { name := "whyChain", fn := fun _ => fun
  | [d1, d2] => { results := [.lit (.bool false)], args := [d1, d2] }
  | _ => none }
def WhyChainWrongFalsely : Prop := whyChainRow.holds Try.pinned (OpenSpec.ofChange whyChainWrong)

/-- 'graftwoodlaw19.WhyLeast': WHATEVER THE INPUT: true; the input reads as it did. -/
def whyLeastSpec : ChangeSpec := { name := "whyLeast", fn := fun _ => fun
  | [d1, d2, d3] => { results := [.lit (.bool true)], args := [d1, d2, d3] }
  | _ => none }
def whyLeastRow : OpenClaim := { program := "ytdefphacdcbljaa", sum := "bafae87922882cafdbad756952356e0251882ea2659c11d7e48c3cbcf34247fc", func := "graftwood/graftwoodlaw19.WhyLeast", spec := "whyLeast", inPlace := ["internal/bytealg.IndexByteString", "internal/bytealg.IndexString", "internal/bytealg.abigen_runtime_cmpstring"], unfollowed := true, recurses := true, named := ["internal/bytealg.MaxLen"], plainKeys := false, apart := false }
def WhyLeastSaid : Prop := whyLeastRow.holds Try.pinned (OpenSpec.ofChange whyLeastSpec)

/-- ITS FALSE NEIGHBOUR: 'it returns false'. Refute it at one input. -/
def whyLeastWrong : ChangeSpec := { name := "whyLeast", fn := fun _ => fun
  | [d1, d2, d3] => { results := [.lit (.bool false)], args := [d1, d2, d3] }
  | _ => none }
def WhyLeastWrongFalsely : Prop := whyLeastRow.holds Try.pinned (OpenSpec.ofChange whyLeastWrong)

/-- 'graftwoodlaw19.WhyMore': WHATEVER THE INPUT: true; the input reads as it did. -/
def whyMoreSpec : ChangeSpec := { name := "whyMore", fn := fun _ => fun
  | [d1, d2, d3] => { results := [.lit (.bool true)], args := [d1, d2, d3] }
  | _ => none }
def whyMoreRow : OpenClaim := { program := "ytdefphacdcbljaa", sum := "bafae87922882cafdbad756952356e0251882ea2659c11d7e48c3cbcf34247fc", func := "graftwood/graftwoodlaw19.WhyMore", spec := "whyMore", inPlace := ["internal/bytealg.IndexByteString", "internal/bytealg.IndexString", "internal/bytealg.abigen_runtime_cmpstring"], unfollowed := true, recurses := true, named := ["internal/bytealg.MaxLen"], plainKeys := false, apart := false }
def WhyMoreSaid : Prop := whyMoreRow.holds Try.pinned (OpenSpec.ofChange whyMoreSpec)

/-- ITS FALSE NEIGHBOUR: 'it returns false'. Refute it at one input. -/
def whyMoreWrong : ChangeSpec := { name := "whyMore", fn := fun _ => fun
  | [d1, d2, d3] => { results := [.lit (.bool false)], args := [d1, d2, d3] }
  | _ => none }
def WhyMoreWrongFalsely : Prop := whyMoreRow.holds Try.pinned (OpenSpec.ofChange whyMoreWrong)

/- THE SECOND FORM. 'bulk': how many values and letters a reading holds, each counted each time it is reached (what is shared counts as often as it is met; a slice's spare places count too). A statement '..UptoSaid' is the law's where the arguments, and the package variables that the reading takes, are together of bulk at most 1048576: NARROWER than '..Said'. Prove '..Said' where nothing that the law and all that it calls make is longer than what came in: it says more and counts as full. Else prove '..UptoSaid'. A law counts once. -/
mutual
def uptoBulk {H : Type} : DataW H → Nat
  | .lit (.string bytes) => bytes.length + 1
  | .lit _ => 1
  | .nil => 1
  | .ptr d => uptoBulk d + 1
  | .slice elems spare => uptoBulkAll elems + uptoBulkAll spare + 1
  | .agg parts => uptoBulkAll parts + 1
  | .iface _ d => uptoBulk d + 1
  | .map entries => uptoBulkEntries entries + 1
  | .held _ => 1
def uptoBulkAll {H : Type} : List (DataW H) → Nat
  | [] => 0
  | d :: r => uptoBulk d + uptoBulkAll r
def uptoBulkEntries {H : Type} : List (Lit × DataW H) → Nat
  | [] => 0
  | x :: r => uptoBulkEntry x + uptoBulkEntries r
def uptoBulkEntry {H : Type} : Lit × DataW H → Nat
  | (.string bytes, d) => bytes.length + uptoBulk d + 1
  | (_, d) => uptoBulk d + 1
 end
def uptoSmall : (H : Type) → List (DataW H) → Bool := fun _ ds => decide (uptoBulkAll ds ≤ 1048576)
def OpenSpec.upto (s : _root_.Go.ChangeSpec) : _root_.Go.OpenSpec := { _root_.Go.OpenSpec.ofChange s with cond := some uptoSmall }

/-- 'graftwoodlaw19.WhyChain', WHERE WHAT IT READS IS OF BULK AT MOST 1048576: true; the input reads as it did. -/
def whyChainUptoRow : OpenClaim := { program := "ytdefphacdcbljaa", sum := "bafae87922882cafdbad756952356e0251882ea2659c11d7e48c3cbcf34247fc", func := "graftwood/graftwoodlaw19.WhyChain", spec := "whyChain", inPlace := ["internal/bytealg.IndexByteString", "internal/bytealg.IndexString", "internal/bytealg.abigen_runtime_cmpstring"], unfollowed := true, recurses := true, named := ["internal/bytealg.MaxLen"], plainKeys := false, apart := false, narrowed := true }
def WhyChainUptoSaid : Prop := whyChainUptoRow.holds Try.pinned (OpenSpec.upto whyChainSpec)

/-- 'graftwoodlaw19.WhyLeast', WHERE WHAT IT READS IS OF BULK AT MOST 1048576: true; the input reads as it did. -/
def whyLeastUptoRow : OpenClaim := { program := "ytdefphacdcbljaa", sum := "bafae87922882cafdbad756952356e0251882ea2659c11d7e48c3cbcf34247fc", func := "graftwood/graftwoodlaw19.WhyLeast", spec := "whyLeast", inPlace := ["internal/bytealg.IndexByteString", "internal/bytealg.IndexString", "internal/bytealg.abigen_runtime_cmpstring"], unfollowed := true, recurses := true, named := ["internal/bytealg.MaxLen"], plainKeys := false, apart := false, narrowed := true }
def WhyLeastUptoSaid : Prop := whyLeastUptoRow.holds Try.pinned (OpenSpec.upto whyLeastSpec)

/-- 'graftwoodlaw19.WhyMore', WHERE WHAT IT READS IS OF BULK AT MOST 1048576: true; the input reads as it did. -/
def whyMoreUptoRow : OpenClaim := { program := "ytdefphacdcbljaa", sum := "bafae87922882cafdbad756952356e0251882ea2659c11d7e48c3cbcf34247fc", func := "graftwood/graftwoodlaw19.WhyMore", spec := "whyMore", inPlace := ["internal/bytealg.IndexByteString", "internal/bytealg.IndexString", "internal/bytealg.abigen_runtime_cmpstring"], unfollowed := true, recurses := true, named := ["internal/bytealg.MaxLen"], plainKeys := false, apart := false, narrowed := true }
def WhyMoreUptoSaid : Prop := whyMoreUptoRow.holds Try.pinned (OpenSpec.upto whyMoreSpec)

end Rows
end Go.Proofs.Ytdefphacdcbljaa
