/-
  DERIVED. GIVEN WITH THE SEED: THE CARDS: each row of YtjlnajokkhdhnaaDoorRows.lean that lists a variable, with what it lists TIED to the program's text (the seventh form; the later family's looks); each row that meets fmt, with fmt's text TOLD by the authors' own Lean function (tested against real Go, not proved from fmt's source: count such statements apart). THE CARD IS WHAT COUNTS. Prove the row's statement (the work); the ties are given (YtjlnajokkhdhnaaDoorTie.lean); close each card by the builder's one call (the guide's Derived/Test/ToyasCard.lean, 'card_holds'). Laid BY PROGRAM, IN A SANDBOX (cutbox-door.mjs). By AI agents, Wed Nov 11 2026. No macro, syntax, notation, axiom, sorry.
-/
import Derived.Test.YtjlnajokkhdhnaaDoorRows
import GoSem.ClaimSeven
namespace Go.Proofs.YtjlnajokkhdhnaaDoor
namespace Rows

/-- THE TIED CARD OF 'graftwoodlaw06.WordTells'. -/
def wordTellsCard : Claim7 := { stood := { row := wordTellsRow, standIns := [], harness := (true, "28be0090eea4ee41c11d0684074f322a3aab883a2c2467f03ce7eed119394e23"), looks := false }, kinds := [], alts := [], laidByText := true, laidKinds := [.data], laidTests := true, laidLooks := .later }
def WordTellsCardSaid : Prop := Claim7.holds Tryd.pinned (.plain (OpenSpec.ofChange wordTellsSpec)) wordTellsCard

/-- THE TIED CARD OF 'graftwoodlaw06.WordSteps'. -/
def wordStepsCard : Claim7 := { stood := { row := wordStepsRow, standIns := [], harness := (true, "28be0090eea4ee41c11d0684074f322a3aab883a2c2467f03ce7eed119394e23"), looks := false }, kinds := [], alts := [], laidByText := true, laidKinds := [.data], laidTests := true, laidLooks := .later }
def WordStepsCardSaid : Prop := Claim7.holds Tryd.pinned (.plain (OpenSpec.ofChange wordStepsSpec)) wordStepsCard

/-- THE TIED CARD OF 'graftwoodlaw06.WordNone'. -/
def wordNoneCard : Claim7 := { stood := { row := wordNoneRow, standIns := [], harness := (true, "28be0090eea4ee41c11d0684074f322a3aab883a2c2467f03ce7eed119394e23"), looks := false }, kinds := [], alts := [], laidByText := true, laidKinds := [.data], laidTests := true, laidLooks := .later }
def WordNoneCardSaid : Prop := Claim7.holds Tryd.pinned (.plain (OpenSpec.ofChange wordNoneSpec)) wordNoneCard

/-- THE TIED CARD OF 'graftwoodlaw06.WordLives'. -/
def wordLivesCard : Claim7 := { stood := { row := wordLivesRow, standIns := [], harness := (true, "28be0090eea4ee41c11d0684074f322a3aab883a2c2467f03ce7eed119394e23"), looks := false }, kinds := [], alts := [], laidByText := true, laidKinds := [.data], laidTests := true, laidLooks := .later }
def WordLivesCardSaid : Prop := Claim7.holds Tryd.pinned (.plain (OpenSpec.ofChange wordLivesSpec)) wordLivesCard

/-- THE TIED CARD OF 'graftwoodlaw06.WordOnward'. -/
def wordOnwardCard : Claim7 := { stood := { row := wordOnwardRow, standIns := [], harness := (true, "28be0090eea4ee41c11d0684074f322a3aab883a2c2467f03ce7eed119394e23"), looks := false }, kinds := [], alts := [], laidByText := true, laidKinds := [.data], laidTests := true, laidLooks := .later }
def WordOnwardCardSaid : Prop := Claim7.holds Tryd.pinned (.plain (OpenSpec.ofChange wordOnwardSpec)) wordOnwardCard

/-- THE TIED CARD OF 'graftwoodlaw06.WordKinds'. -/
def wordKindsCard : Claim7 := { stood := { row := wordKindsRow, standIns := [], harness := (true, "28be0090eea4ee41c11d0684074f322a3aab883a2c2467f03ce7eed119394e23"), looks := false }, kinds := [], alts := [], laidByText := true, laidKinds := [.data], laidTests := true, laidLooks := .later }
def WordKindsCardSaid : Prop := Claim7.holds Tryd.pinned (.plain (OpenSpec.ofChange wordKindsSpec)) wordKindsCard

/-- THE SECOND FORM's CARD OF 'graftwoodlaw06.WordTells'. -/
def wordTellsUptoCard : Claim7 := { stood := { row := wordTellsUptoRow, standIns := [], harness := (true, "28be0090eea4ee41c11d0684074f322a3aab883a2c2467f03ce7eed119394e23"), looks := false }, kinds := [], alts := [], laidByText := true, laidKinds := [.data], laidTests := true, laidLooks := .later }
def WordTellsUptoCardSaid : Prop := Claim7.holds Tryd.pinned (.plain (OpenSpec.upto wordTellsSpec)) wordTellsUptoCard

/-- THE SECOND FORM's CARD OF 'graftwoodlaw06.WordSteps'. -/
def wordStepsUptoCard : Claim7 := { stood := { row := wordStepsUptoRow, standIns := [], harness := (true, "28be0090eea4ee41c11d0684074f322a3aab883a2c2467f03ce7eed119394e23"), looks := false }, kinds := [], alts := [], laidByText := true, laidKinds := [.data], laidTests := true, laidLooks := .later }
def WordStepsUptoCardSaid : Prop := Claim7.holds Tryd.pinned (.plain (OpenSpec.upto wordStepsSpec)) wordStepsUptoCard

/-- THE SECOND FORM's CARD OF 'graftwoodlaw06.WordNone'. -/
def wordNoneUptoCard : Claim7 := { stood := { row := wordNoneUptoRow, standIns := [], harness := (true, "28be0090eea4ee41c11d0684074f322a3aab883a2c2467f03ce7eed119394e23"), looks := false }, kinds := [], alts := [], laidByText := true, laidKinds := [.data], laidTests := true, laidLooks := .later }
def WordNoneUptoCardSaid : Prop := Claim7.holds Tryd.pinned (.plain (OpenSpec.upto wordNoneSpec)) wordNoneUptoCard

/-- THE SECOND FORM's CARD OF 'graftwoodlaw06.WordLives'. -/
def wordLivesUptoCard : Claim7 := { stood := { row := wordLivesUptoRow, standIns := [], harness := (true, "28be0090eea4ee41c11d0684074f322a3aab883a2c2467f03ce7eed119394e23"), looks := false }, kinds := [], alts := [], laidByText := true, laidKinds := [.data], laidTests := true, laidLooks := .later }
def WordLivesUptoCardSaid : Prop := Claim7.holds Tryd.pinned (.plain (OpenSpec.upto wordLivesSpec)) wordLivesUptoCard

/-- THE SECOND FORM's CARD OF 'graftwoodlaw06.WordOnward'. -/
def wordOnwardUptoCard : Claim7 := { stood := { row := wordOnwardUptoRow, standIns := [], harness := (true, "28be0090eea4ee41c11d0684074f322a3aab883a2c2467f03ce7eed119394e23"), looks := false }, kinds := [], alts := [], laidByText := true, laidKinds := [.data], laidTests := true, laidLooks := .later }
def WordOnwardUptoCardSaid : Prop := Claim7.holds Tryd.pinned (.plain (OpenSpec.upto wordOnwardSpec)) wordOnwardUptoCard

/-- THE SECOND FORM's CARD OF 'graftwoodlaw06.WordKinds'. -/
def wordKindsUptoCard : Claim7 := { stood := { row := wordKindsUptoRow, standIns := [], harness := (true, "28be0090eea4ee41c11d0684074f322a3aab883a2c2467f03ce7eed119394e23"), looks := false }, kinds := [], alts := [], laidByText := true, laidKinds := [.data], laidTests := true, laidLooks := .later }
def WordKindsUptoCardSaid : Prop := Claim7.holds Tryd.pinned (.plain (OpenSpec.upto wordKindsSpec)) wordKindsUptoCard
end Rows
end Go.Proofs.YtjlnajokkhdhnaaDoor
