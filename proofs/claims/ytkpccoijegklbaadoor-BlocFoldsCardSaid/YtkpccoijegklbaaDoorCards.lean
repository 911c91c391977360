/-
  DERIVED. GIVEN WITH THE SEED: THE CARDS: each row of YtkpccoijegklbaaDoorRows.lean that lists a variable, with what it lists TIED to the program's text (the seventh form; the later family's looks); each row that meets fmt, with fmt's text TOLD by the authors' own Lean function (tested against real Go, not proved from fmt's source: count such statements apart). THE CARD IS WHAT COUNTS. Prove the row's statement (the work); the ties are given (YtkpccoijegklbaaDoorTie.lean); close each card by the builder's one call (the guide's Derived/Test/ToyasCard.lean, 'card_holds'). Laid BY PROGRAM, IN A SANDBOX (cutbox-door.mjs). By AI agents, Wed Nov 11 2026. No macro, syntax, notation, axiom, sorry.
-/
import Derived.Test.YtkpccoijegklbaaDoorRows
import GoSem.ClaimSeven
namespace Go.Proofs.YtkpccoijegklbaaDoor
namespace Rows

/-- THE TIED CARD OF 'bosketlaw13.BlocTells'. -/
def blocTellsCard : Claim7 := { stood := { row := blocTellsRow, standIns := [], harness := (true, "0264c8c21dae9fcfb7ee8767cb9f9509a87aca5a7daa6118d8b2e92d779c4755"), looks := false }, kinds := [], alts := [], laidByText := true, laidKinds := [.data, .pinned], laidTests := true, laidLooks := .later }
def BlocTellsCardSaid : Prop := Claim7.holds Tryd.pinned (.plain (OpenSpec.ofChange blocTellsSpec)) blocTellsCard

/-- THE TIED CARD OF 'bosketlaw13.BlocMade'. -/
def blocMadeCard : Claim7 := { stood := { row := blocMadeRow, standIns := [], harness := (true, "0264c8c21dae9fcfb7ee8767cb9f9509a87aca5a7daa6118d8b2e92d779c4755"), looks := false }, kinds := [], alts := [], laidByText := true, laidKinds := [.data, .pinned], laidTests := true, laidLooks := .later }
def BlocMadeCardSaid : Prop := Claim7.holds Tryd.pinned (.plain (OpenSpec.ofChange blocMadeSpec)) blocMadeCard

/-- THE TIED CARD OF 'bosketlaw13.BlocBack'. -/
def blocBackCard : Claim7 := { stood := { row := blocBackRow, standIns := [], harness := (true, "0264c8c21dae9fcfb7ee8767cb9f9509a87aca5a7daa6118d8b2e92d779c4755"), looks := false }, kinds := [], alts := [], laidByText := true, laidKinds := [.data, .pinned], laidTests := true, laidLooks := .later }
def BlocBackCardSaid : Prop := Claim7.holds Tryd.pinned (.plain (OpenSpec.ofChange blocBackSpec)) blocBackCard

/-- THE TIED CARD OF 'bosketlaw13.BlocFolds'. -/
def blocFoldsCard : Claim7 := { stood := { row := blocFoldsRow, standIns := [], harness := (true, "0264c8c21dae9fcfb7ee8767cb9f9509a87aca5a7daa6118d8b2e92d779c4755"), looks := false }, kinds := [], alts := [], laidByText := true, laidKinds := [.data, .pinned], laidTests := true, laidLooks := .later }
def BlocFoldsCardSaid : Prop := Claim7.holds Tryd.pinned (.plain (OpenSpec.ofChange blocFoldsSpec)) blocFoldsCard

/-- THE TIED CARD OF 'bosketlaw13.BlocDigits'. -/
def blocDigitsCard : Claim7 := { stood := { row := blocDigitsRow, standIns := [], harness := (true, "0264c8c21dae9fcfb7ee8767cb9f9509a87aca5a7daa6118d8b2e92d779c4755"), looks := false }, kinds := [], alts := [], laidByText := true, laidKinds := [.data, .pinned], laidTests := true, laidLooks := .later }
def BlocDigitsCardSaid : Prop := Claim7.holds Tryd.pinned (.plain (OpenSpec.ofChange blocDigitsSpec)) blocDigitsCard

/-- THE TIED CARD OF 'bosketlaw13.BlocWrong'. -/
def blocWrongCard : Claim7 := { stood := { row := blocWrongRow, standIns := [], harness := (true, "0264c8c21dae9fcfb7ee8767cb9f9509a87aca5a7daa6118d8b2e92d779c4755"), looks := false }, kinds := [], alts := [], laidByText := true, laidKinds := [.data, .pinned], laidTests := true, laidLooks := .later }
def BlocWrongCardSaid : Prop := Claim7.holds Tryd.pinned (.plain (OpenSpec.ofChange blocWrongSpec)) blocWrongCard

/-- THE SECOND FORM's CARD OF 'bosketlaw13.BlocTells'. -/
def blocTellsUptoCard : Claim7 := { stood := { row := blocTellsUptoRow, standIns := [], harness := (true, "0264c8c21dae9fcfb7ee8767cb9f9509a87aca5a7daa6118d8b2e92d779c4755"), looks := false }, kinds := [], alts := [], laidByText := true, laidKinds := [.data, .pinned], laidTests := true, laidLooks := .later }
def BlocTellsUptoCardSaid : Prop := Claim7.holds Tryd.pinned (.plain (OpenSpec.upto blocTellsSpec)) blocTellsUptoCard

/-- THE SECOND FORM's CARD OF 'bosketlaw13.BlocMade'. -/
def blocMadeUptoCard : Claim7 := { stood := { row := blocMadeUptoRow, standIns := [], harness := (true, "0264c8c21dae9fcfb7ee8767cb9f9509a87aca5a7daa6118d8b2e92d779c4755"), looks := false }, kinds := [], alts := [], laidByText := true, laidKinds := [.data, .pinned], laidTests := true, laidLooks := .later }
def BlocMadeUptoCardSaid : Prop := Claim7.holds Tryd.pinned (.plain (OpenSpec.upto blocMadeSpec)) blocMadeUptoCard

/-- THE SECOND FORM's CARD OF 'bosketlaw13.BlocBack'. -/
def blocBackUptoCard : Claim7 := { stood := { row := blocBackUptoRow, standIns := [], harness := (true, "0264c8c21dae9fcfb7ee8767cb9f9509a87aca5a7daa6118d8b2e92d779c4755"), looks := false }, kinds := [], alts := [], laidByText := true, laidKinds := [.data, .pinned], laidTests := true, laidLooks := .later }
def BlocBackUptoCardSaid : Prop := Claim7.holds Tryd.pinned (.plain (OpenSpec.upto blocBackSpec)) blocBackUptoCard

/-- THE SECOND FORM's CARD OF 'bosketlaw13.BlocFolds'. -/
def blocFoldsUptoCard : Claim7 := { stood := { row := blocFoldsUptoRow, standIns := [], harness := (true, "0264c8c21dae9fcfb7ee8767cb9f9509a87aca5a7daa6118d8b2e92d779c4755"), looks := false }, kinds := [], alts := [], laidByText := true, laidKinds := [.data, .pinned], laidTests := true, laidLooks := .later }
def BlocFoldsUptoCardSaid : Prop := Claim7.holds Tryd.pinned (.plain (OpenSpec.upto blocFoldsSpec)) blocFoldsUptoCard

/-- THE SECOND FORM's CARD OF 'bosketlaw13.BlocDigits'. -/
def blocDigitsUptoCard : Claim7 := { stood := { row := blocDigitsUptoRow, standIns := [], harness := (true, "0264c8c21dae9fcfb7ee8767cb9f9509a87aca5a7daa6118d8b2e92d779c4755"), looks := false }, kinds := [], alts := [], laidByText := true, laidKinds := [.data, .pinned], laidTests := true, laidLooks := .later }
def BlocDigitsUptoCardSaid : Prop := Claim7.holds Tryd.pinned (.plain (OpenSpec.upto blocDigitsSpec)) blocDigitsUptoCard

/-- THE SECOND FORM's CARD OF 'bosketlaw13.BlocWrong'. -/
def blocWrongUptoCard : Claim7 := { stood := { row := blocWrongUptoRow, standIns := [], harness := (true, "0264c8c21dae9fcfb7ee8767cb9f9509a87aca5a7daa6118d8b2e92d779c4755"), looks := false }, kinds := [], alts := [], laidByText := true, laidKinds := [.data, .pinned], laidTests := true, laidLooks := .later }
def BlocWrongUptoCardSaid : Prop := Claim7.holds Tryd.pinned (.plain (OpenSpec.upto blocWrongSpec)) blocWrongUptoCard
end Rows
end Go.Proofs.YtkpccoijegklbaaDoor
