/-
  NARROWER THAN 'FOR EVERY INPUT', by the rows' own cells (each row's printed sentence says how): WordTells: laid · WordSteps: laid · WordNone: laid · WordLives: laid · WordOnward: laid · WordKinds: laid.
  DERIVED. THE GIVEN ROWS OF THIS SEAT. 6 by the template 'for every input the law returns true; each argument reads behind the call as it read before'; 0 by the template 'total and deterministic' (their statements: YtjlnajokkhdhnaaDoorTotals.lean).
  GIVEN WITH THE SEED: the statements are not yours to turn. If you find one false, say at which input.
  Laid BY PROGRAM, IN A SANDBOX (cutbox-rows.mjs): the forced cells as the released guide's own fill.sh prints them over the translation e43ffee5926fd1fa… (all of the seat's roots in one cut). By AI agents, Wed Nov 11 2026. No macro, syntax, notation, axiom, sorry.
-/
import Derived.Test.YtjlnajokkhdhnaaDoorChecked
import GoSem.Claim
import GoSem.ClaimJoined
import GoSem.ClaimMapViews
import Derived.JoinedTies
import Derived.KernelRfl
namespace Go.Proofs.YtjlnajokkhdhnaaDoor
/- THE CELL 'sum', in the pinned program and in every row, IS THE sha256 OF THE DUMP (.gsa) THAT YtjlnajokkhdhnaaDoorProg.lean LOADS. Nothing in Lean hashes anything: it is a label: what it is worth is what the hold of that sum in a sandbox is worth. -/
noncomputable def Tryd.pinned : Pinned := { name := "ytjlnajokkhdhnaadoor", sum := "e43ffee5926fd1fa6140c53a18320739046cfbd838fa7b551d27aeb0129d8259", checked := Tryd.checked }
namespace Rows
def none {H : Type} : Left H := { results := [], args := [] }

/- WHAT THE LISTED PACKAGE-LEVEL VARIABLES READ AS WHEN THE CALL BEGINS. Each datum BY PROGRAM (the guide's laid-datum.mjs) off the statement by which the dump's own 'gosem.cut.vars' lays the variable. In a bare row this is a premise. The card (YtjlnajokkhdhnaaDoorCards.lean) ties it to the program's text. -/
def laid_graftwood_word_rests {H : Type} : DataW H := .agg [.agg [.lit (.string [97]), .lit (.string []), .lit (.string [97]), .lit (.string []), .lit (.string []), .lit (.string []), .lit (.string []), .lit (.string []), .lit (.string []), .lit (.string []), .lit (.string []), .lit (.string []), .lit (.string []), .lit (.string [])], .agg [.lit (.string [118, 48, 46, 48, 46, 48]), .lit (.string [48, 46, 48, 46, 48]), .lit (.string [46, 48, 46, 48]), .lit (.string [46, 48, 46, 48]), .lit (.string [48, 46, 48]), .lit (.string [46, 48]), .lit (.string [46, 48]), .lit (.string [48]), .lit (.string []), .lit (.string []), .lit (.string [48]), .lit (.string []), .lit (.string []), .lit (.string [97])], .agg [.lit (.string [48, 46, 48]), .lit (.string [46, 48]), .lit (.string [46, 48]), .lit (.string [48]), .lit (.string []), .lit (.string []), .lit (.string [48]), .lit (.string []), .lit (.string []), .lit (.string []), .lit (.string []), .lit (.string []), .lit (.string []), .lit (.string [])]]

/-- 'graftwoodlaw06.WordTells': WHATEVER THE INPUT: true; the input reads as it did. -/
def wordTellsSpec : ChangeSpec := { name := "wordTells", fn := fun _ => fun
  | [d1, d2] => { results := [.lit (.bool true)], args := [d1, d2] }
  | _ => none }
def wordTellsRow : OpenClaim := { program := "ytjlnajokkhdhnaadoor", sum := "e43ffee5926fd1fa6140c53a18320739046cfbd838fa7b551d27aeb0129d8259", func := "graftwood/graftwoodlaw06.WordTells", spec := "wordTells", inPlace := ["internal/bytealg.IndexByteString", "internal/bytealg.IndexString"], unfollowed := true, recurses := true, named := ["internal/bytealg.MaxLen", "graftwood/word.rests"], apart := false, laid := [("graftwood/word.rests", laid_graftwood_word_rests)] }
def WordTellsSaid : Prop := wordTellsRow.holds Tryd.pinned (OpenSpec.ofChange wordTellsSpec)

/-- ITS FALSE NEIGHBOUR: 'it returns false'. Refute it at one input. -/
def wordTellsWrong : ChangeSpec := { name := "wordTells", fn := fun _ => fun
  | [d1, d2] => { results := [.lit (.bool false)], args := [d1, d2] }
  | _ => none }
def WordTellsWrongFalsely : Prop := wordTellsRow.holds Tryd.pinned (OpenSpec.ofChange wordTellsWrong)

/-- 'graftwoodlaw06.WordSteps': WHATEVER THE INPUT: true; the input reads as it did. -/
def wordStepsSpec : ChangeSpec := { name := "wordSteps", fn := fun _ => fun
  | [d1, d2] => { results := [.lit (.bool true)], args := [d1, d2] }
  | _ => none }
def wordStepsRow : OpenClaim := { program := "ytjlnajokkhdhnaadoor", sum := "e43ffee5926fd1fa6140c53a18320739046cfbd838fa7b551d27aeb0129d8259", func := "graftwood/graftwoodlaw06.WordSteps", spec := "wordSteps", inPlace := ["internal/bytealg.IndexByteString", "internal/bytealg.IndexString"], unfollowed := true, recurses := true, named := ["graftwood/word.rests", "internal/bytealg.MaxLen"], apart := false, laid := [("graftwood/word.rests", laid_graftwood_word_rests)] }
def WordStepsSaid : Prop := wordStepsRow.holds Tryd.pinned (OpenSpec.ofChange wordStepsSpec)

/-- ITS FALSE NEIGHBOUR: 'it returns false'. Refute it at one input. -/
def wordStepsWrong : ChangeSpec := { name := "wordSteps", fn := fun _ => fun
  | [d1, d2] => { results := [.lit (.bool false)], args := [d1, d2] }
  | _ => none }
def WordStepsWrongFalsely : Prop := wordStepsRow.holds Tryd.pinned (OpenSpec.ofChange wordStepsWrong)

/-- 'graftwoodlaw06.WordNone': WHATEVER THE INPUT: true; the input reads as it did. -/
def wordNoneSpec : ChangeSpec := { name := "wordNone", fn := fun _ => fun
  | [d1, d2, d3] => { results := [.lit (.bool true)], args := [d1, d2, d3] }
  | _ => none }
def wordNoneRow : OpenClaim := { program := "ytjlnajokkhdhnaadoor", sum := "e43ffee5926fd1fa6140c53a18320739046cfbd838fa7b551d27aeb0129d8259", func := "graftwood/graftwoodlaw06.WordNone", spec := "wordNone", inPlace := ["internal/bytealg.IndexByteString", "internal/bytealg.IndexString"], unfollowed := true, recurses := true, named := ["internal/bytealg.MaxLen", "graftwood/word.rests"], apart := false, laid := [("graftwood/word.rests", laid_graftwood_word_rests)] }
def WordNoneSaid : Prop := wordNoneRow.holds Tryd.pinned (OpenSpec.ofChange wordNoneSpec)

/-- ITS FALSE NEIGHBOUR: 'it returns false'. Refute it at one input. -/
def wordNoneWrong : ChangeSpec := { name := "wordNone", fn := fun _ => fun
  | [d1, d2, d3] => { results := [.lit (.bool false)], args := [d1, d2, d3] }
  | _ => none }
def WordNoneWrongFalsely : Prop := wordNoneRow.holds Tryd.pinned (OpenSpec.ofChange wordNoneWrong)

/-- 'graftwoodlaw06.WordLives': WHATEVER THE INPUT: true; the input reads as it did. -/
def wordLivesSpec : ChangeSpec := { name := "wordLives", fn := fun _ => fun
  | [d1, d2, d3] => { results := [.lit (.bool true)], args := [d1, d2, d3] }
  | _ => none }
def wordLivesRow : OpenClaim := { program := "ytjlnajokkhdhnaadoor", sum := "e43ffee5926fd1fa6140c53a18320739046cfbd838fa7b551d27aeb0129d8259", func := "graftwood/graftwoodlaw06.WordLives", spec := "wordLives", inPlace := ["internal/bytealg.IndexByteString", "internal/bytealg.IndexString"], unfollowed := true, recurses := true, named := ["internal/bytealg.MaxLen", "graftwood/word.rests"], apart := false, laid := [("graftwood/word.rests", laid_graftwood_word_rests)] }
def WordLivesSaid : Prop := wordLivesRow.holds Tryd.pinned (OpenSpec.ofChange wordLivesSpec)

/-- ITS FALSE NEIGHBOUR: 'it returns false'. Refute it at one input. -/
def wordLivesWrong : ChangeSpec := { name := "wordLives", fn := fun _ => fun
  | [d1, d2, d3] => { results := [.lit (.bool false)], args := [d1, d2, d3] }
  | _ => none }
def WordLivesWrongFalsely : Prop := wordLivesRow.holds Tryd.pinned (OpenSpec.ofChange wordLivesWrong)

/-- 'graftwoodlaw06.WordOnward': WHATEVER THE INPUT: true; the input reads as it did. -/
def wordOnwardSpec : ChangeSpec := { name := "wordOnward", fn := fun _ => fun
  | [d1, d2, d3] => { results := [.lit (.bool true)], args := [d1, d2, d3] }
  | _ => none }
def wordOnwardRow : OpenClaim := { program := "ytjlnajokkhdhnaadoor", sum := "e43ffee5926fd1fa6140c53a18320739046cfbd838fa7b551d27aeb0129d8259", func := "graftwood/graftwoodlaw06.WordOnward", spec := "wordOnward", inPlace := ["internal/bytealg.IndexByteString", "internal/bytealg.IndexString"], unfollowed := true, recurses := true, named := ["internal/bytealg.MaxLen", "graftwood/word.rests"], apart := false, laid := [("graftwood/word.rests", laid_graftwood_word_rests)] }
def WordOnwardSaid : Prop := wordOnwardRow.holds Tryd.pinned (OpenSpec.ofChange wordOnwardSpec)

/-- ITS FALSE NEIGHBOUR: 'it returns false'. Refute it at one input. -/
def wordOnwardWrong : ChangeSpec := { name := "wordOnward", fn := fun _ => fun
  | [d1, d2, d3] => { results := [.lit (.bool false)], args := [d1, d2, d3] }
  | _ => none }
def WordOnwardWrongFalsely : Prop := wordOnwardRow.holds Tryd.pinned (OpenSpec.ofChange wordOnwardWrong)

/-- 'graftwoodlaw06.WordKinds': WHATEVER THE INPUT: true; the input reads as it did. -/
def wordKindsSpec : ChangeSpec := { name := "wordKinds", fn := fun _ => fun
  | [d] => { results := [.lit (.bool true)], args := [d] }
  | _ => none }
def wordKindsRow : OpenClaim := { program := "ytjlnajokkhdhnaadoor", sum := "e43ffee5926fd1fa6140c53a18320739046cfbd838fa7b551d27aeb0129d8259", func := "graftwood/graftwoodlaw06.WordKinds", spec := "wordKinds", inPlace := ["internal/bytealg.IndexByteString", "internal/bytealg.IndexString"], unfollowed := true, recurses := true, named := ["internal/bytealg.MaxLen", "graftwood/word.rests"], apart := false, laid := [("graftwood/word.rests", laid_graftwood_word_rests)] }
def WordKindsSaid : Prop := wordKindsRow.holds Tryd.pinned (OpenSpec.ofChange wordKindsSpec)

/-- ITS FALSE NEIGHBOUR: 'it returns false'. Refute it at one input. -/
def wordKindsWrong : ChangeSpec := { name := "wordKinds", fn := fun _ => fun
  | [d] => { results := [.lit (.bool false)], args := [d] }
  | _ => none }
def WordKindsWrongFalsely : Prop := wordKindsRow.holds Tryd.pinned (OpenSpec.ofChange wordKindsWrong)

/- THE SECOND FORM. 'bulk': how many values and letters a reading holds, each counted each time it is reached (what is shared counts as often as it is met; a slice's spare places count too). A statement '..UptoSaid' is the law's where the arguments, and the package variables that the reading takes, are together of bulk at most 1048576: NARROWER than '..Said'. Prove '..Said' where nothing that the law and all that it calls make is longer than what came in: it says more and counts as full. Else prove '..UptoSaid'. A law counts once. -/
mutual
def uptoBulk {H : Type} : DataW H → Nat
  | .lit (.string bytes) => bytes.length + 1
  | .lit _ => 1
  | .nil => 1
  | .ptr d => uptoBulk d + 1
  | .slice elems spare => uptoBulkAll elems + uptoBulkAll spare + 1
  | .agg parts => uptoBulkAll parts + 1
  | .iface _ d => uptoBulk d + 1
  | .map entries => uptoBulkEntries entries + 1
  | .held _ => 1
def uptoBulkAll {H : Type} : List (DataW H) → Nat
  | [] => 0
  | d :: r => uptoBulk d + uptoBulkAll r
def uptoBulkEntries {H : Type} : List (Lit × DataW H) → Nat
  | [] => 0
  | x :: r => uptoBulkEntry x + uptoBulkEntries r
def uptoBulkEntry {H : Type} : Lit × DataW H → Nat
  | (.string bytes, d) => bytes.length + uptoBulk d + 1
  | (_, d) => uptoBulk d + 1
 end
def uptoSmall : (H : Type) → List (DataW H) → Bool := fun _ ds => decide (uptoBulkAll ds ≤ 1048576)
def OpenSpec.upto (s : _root_.Go.ChangeSpec) : _root_.Go.OpenSpec := { _root_.Go.OpenSpec.ofChange s with cond := some uptoSmall }

/-- 'graftwoodlaw06.WordTells', WHERE WHAT IT READS IS OF BULK AT MOST 1048576: true; the input reads as it did. -/
def wordTellsUptoRow : OpenClaim := { program := "ytjlnajokkhdhnaadoor", sum := "e43ffee5926fd1fa6140c53a18320739046cfbd838fa7b551d27aeb0129d8259", func := "graftwood/graftwoodlaw06.WordTells", spec := "wordTells", inPlace := ["internal/bytealg.IndexByteString", "internal/bytealg.IndexString"], unfollowed := true, recurses := true, named := ["internal/bytealg.MaxLen", "graftwood/word.rests"], apart := false, laid := [("graftwood/word.rests", laid_graftwood_word_rests)], narrowed := true }
def WordTellsUptoSaid : Prop := wordTellsUptoRow.holds Tryd.pinned (OpenSpec.upto wordTellsSpec)

/-- 'graftwoodlaw06.WordSteps', WHERE WHAT IT READS IS OF BULK AT MOST 1048576: true; the input reads as it did. -/
def wordStepsUptoRow : OpenClaim := { program := "ytjlnajokkhdhnaadoor", sum := "e43ffee5926fd1fa6140c53a18320739046cfbd838fa7b551d27aeb0129d8259", func := "graftwood/graftwoodlaw06.WordSteps", spec := "wordSteps", inPlace := ["internal/bytealg.IndexByteString", "internal/bytealg.IndexString"], unfollowed := true, recurses := true, named := ["graftwood/word.rests", "internal/bytealg.MaxLen"], apart := false, laid := [("graftwood/word.rests", laid_graftwood_word_rests)], narrowed := true }
def WordStepsUptoSaid : Prop := wordStepsUptoRow.holds Tryd.pinned (OpenSpec.upto wordStepsSpec)

/-- 'graftwoodlaw06.WordNone', WHERE WHAT IT READS IS OF BULK AT MOST 1048576: true; the input reads as it did. -/
def wordNoneUptoRow : OpenClaim := { program := "ytjlnajokkhdhnaadoor", sum := "e43ffee5926fd1fa6140c53a18320739046cfbd838fa7b551d27aeb0129d8259", func := "graftwood/graftwoodlaw06.WordNone", spec := "wordNone", inPlace := ["internal/bytealg.IndexByteString", "internal/bytealg.IndexString"], unfollowed := true, recurses := true, named := ["internal/bytealg.MaxLen", "graftwood/word.rests"], apart := false, laid := [("graftwood/word.rests", laid_graftwood_word_rests)], narrowed := true }
def WordNoneUptoSaid : Prop := wordNoneUptoRow.holds Tryd.pinned (OpenSpec.upto wordNoneSpec)

/-- 'graftwoodlaw06.WordLives', WHERE WHAT IT READS IS OF BULK AT MOST 1048576: true; the input reads as it did. -/
def wordLivesUptoRow : OpenClaim := { program := "ytjlnajokkhdhnaadoor", sum := "e43ffee5926fd1fa6140c53a18320739046cfbd838fa7b551d27aeb0129d8259", func := "graftwood/graftwoodlaw06.WordLives", spec := "wordLives", inPlace := ["internal/bytealg.IndexByteString", "internal/bytealg.IndexString"], unfollowed := true, recurses := true, named := ["internal/bytealg.MaxLen", "graftwood/word.rests"], apart := false, laid := [("graftwood/word.rests", laid_graftwood_word_rests)], narrowed := true }
def WordLivesUptoSaid : Prop := wordLivesUptoRow.holds Tryd.pinned (OpenSpec.upto wordLivesSpec)

/-- 'graftwoodlaw06.WordOnward', WHERE WHAT IT READS IS OF BULK AT MOST 1048576: true; the input reads as it did. -/
def wordOnwardUptoRow : OpenClaim := { program := "ytjlnajokkhdhnaadoor", sum := "e43ffee5926fd1fa6140c53a18320739046cfbd838fa7b551d27aeb0129d8259", func := "graftwood/graftwoodlaw06.WordOnward", spec := "wordOnward", inPlace := ["internal/bytealg.IndexByteString", "internal/bytealg.IndexString"], unfollowed := true, recurses := true, named := ["internal/bytealg.MaxLen", "graftwood/word.rests"], apart := false, laid := [("graftwood/word.rests", laid_graftwood_word_rests)], narrowed := true }
def WordOnwardUptoSaid : Prop := wordOnwardUptoRow.holds Tryd.pinned (OpenSpec.upto wordOnwardSpec)

/-- 'graftwoodlaw06.WordKinds', WHERE WHAT IT READS IS OF BULK AT MOST 1048576: true; the input reads as it did. -/
def wordKindsUptoRow : OpenClaim := { program := "ytjlnajokkhdhnaadoor", sum := "e43ffee5926fd1fa6140c53a18320739046cfbd838fa7b551d27aeb0129d8259", func := "graftwood/graftwoodlaw06.WordKinds", spec := "wordKinds", inPlace := ["internal/bytealg.IndexByteString", "internal/bytealg.IndexString"], unfollowed := true, recurses := true, named := ["internal/bytealg.MaxLen", "graftwood/word.rests"], apart := false, laid := [("graftwood/word.rests", laid_graftwood_word_rests)], narrowed := true }
def WordKindsUptoSaid : Prop := wordKindsUptoRow.holds Tryd.pinned (OpenSpec.upto wordKindsSpec)

end Rows
end Go.Proofs.YtjlnajokkhdhnaaDoor
