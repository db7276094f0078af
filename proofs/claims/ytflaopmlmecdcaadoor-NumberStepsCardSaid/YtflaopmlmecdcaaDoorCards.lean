/-
  DERIVED. GIVEN WITH THE SEED: THE CARDS: each row of YtflaopmlmecdcaaDoorRows.lean that lists a variable, with what it lists TIED to the program's text (the seventh form; the later family's looks); each row that meets fmt, with fmt's text TOLD by the authors' own Lean function (tested against real Go, not proved from fmt's source: count such statements apart). THE CARD IS WHAT COUNTS. Prove the row's statement (the work); the ties are given (YtflaopmlmecdcaaDoorTie.lean); close each card by the builder's one call (the guide's Derived/Test/ToyasCard.lean, 'card_holds'). Laid BY PROGRAM, IN A SANDBOX (cutbox-door.mjs). By AI agents, Wed Nov 11 2026. No macro, syntax, notation, axiom, sorry.
-/
import Derived.Test.YtflaopmlmecdcaaDoorRows
import GoSem.ClaimSeven
namespace Go.Proofs.YtflaopmlmecdcaaDoor
namespace Rows

/-- THE TIED CARD OF 'graftwoodlaw02.NumberTells'. -/
def numberTellsCard : Claim7 := { stood := { row := numberTellsRow, standIns := [], harness := (true, "e1dbefdf3517f2a599f0a902fe0b5e69e16588c0b361c962a6783dac695d170f"), looks := false }, kinds := [], alts := [], laidByText := true, laidKinds := [.data, .data, .data], laidTests := true, laidLooks := .later }
def NumberTellsCardSaid : Prop := Claim7.holds Tryd.pinned (.plain (OpenSpec.ofChange numberTellsSpec)) numberTellsCard

/-- THE TIED CARD OF 'graftwoodlaw02.NumberBack'. -/
def numberBackCard : Claim7 := { stood := { row := numberBackRow, standIns := [], harness := (true, "e1dbefdf3517f2a599f0a902fe0b5e69e16588c0b361c962a6783dac695d170f"), looks := false }, kinds := [], alts := [], laidByText := true, laidKinds := [.data, .data, .data], laidTests := true, laidLooks := .later }
def NumberBackCardSaid : Prop := Claim7.holds Tryd.pinned (.plain (OpenSpec.ofChange numberBackSpec)) numberBackCard

/-- THE TIED CARD OF 'graftwoodlaw02.NumberSteps'. -/
def numberStepsCard : Claim7 := { stood := { row := numberStepsRow, standIns := [], harness := (true, "e1dbefdf3517f2a599f0a902fe0b5e69e16588c0b361c962a6783dac695d170f"), looks := false }, kinds := [], alts := [], laidByText := true, laidKinds := [.data, .data, .data], laidTests := true, laidLooks := .later }
def NumberStepsCardSaid : Prop := Claim7.holds Tryd.pinned (.plain (OpenSpec.ofChange numberStepsSpec)) numberStepsCard

/-- THE SECOND FORM's CARD OF 'graftwoodlaw02.NumberTells'. -/
def numberTellsUptoCard : Claim7 := { stood := { row := numberTellsUptoRow, standIns := [], harness := (true, "e1dbefdf3517f2a599f0a902fe0b5e69e16588c0b361c962a6783dac695d170f"), looks := false }, kinds := [], alts := [], laidByText := true, laidKinds := [.data, .data, .data], laidTests := true, laidLooks := .later }
def NumberTellsUptoCardSaid : Prop := Claim7.holds Tryd.pinned (.plain (OpenSpec.upto numberTellsSpec)) numberTellsUptoCard

/-- THE SECOND FORM's CARD OF 'graftwoodlaw02.NumberBack'. -/
def numberBackUptoCard : Claim7 := { stood := { row := numberBackUptoRow, standIns := [], harness := (true, "e1dbefdf3517f2a599f0a902fe0b5e69e16588c0b361c962a6783dac695d170f"), looks := false }, kinds := [], alts := [], laidByText := true, laidKinds := [.data, .data, .data], laidTests := true, laidLooks := .later }
def NumberBackUptoCardSaid : Prop := Claim7.holds Tryd.pinned (.plain (OpenSpec.upto numberBackSpec)) numberBackUptoCard

/-- THE SECOND FORM's CARD OF 'graftwoodlaw02.NumberSteps'. -/
def numberStepsUptoCard : Claim7 := { stood := { row := numberStepsUptoRow, standIns := [], harness := (true, "e1dbefdf3517f2a599f0a902fe0b5e69e16588c0b361c962a6783dac695d170f"), looks := false }, kinds := [], alts := [], laidByText := true, laidKinds := [.data, .data, .data], laidTests := true, laidLooks := .later }
def NumberStepsUptoCardSaid : Prop := Claim7.holds Tryd.pinned (.plain (OpenSpec.upto numberStepsSpec)) numberStepsUptoCard
end Rows
end Go.Proofs.YtflaopmlmecdcaaDoor
