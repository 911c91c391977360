/-
  DERIVED. GIVEN WITH THE SEED: THE CARDS: each row of YtncngeamdechmaaGreatDoorRows.lean that lists a variable, with what it lists TIED to the program's text (the seventh form; the later family's looks); each row that meets fmt, with fmt's text TOLD by the authors' own Lean function (tested against real Go, not proved from fmt's source: count such statements apart). THE CARD IS WHAT COUNTS. Prove the row's statement (the work); the ties are given (YtncngeamdechmaaGreatDoorTie.lean); close each card by the builder's one call (the guide's Derived/Test/ToyasCard.lean, 'card_holds'). Laid BY PROGRAM, IN A SANDBOX (cutbox-door.mjs). By AI agents, Wed Nov 11 2026. No macro, syntax, notation, axiom, sorry.
-/
import Derived.Test.YtncngeamdechmaaGreatDoorRows
import GoSem.ClaimSeven
namespace Go.Proofs.YtncngeamdechmaaGreatDoor
namespace Rows

/-- THE TIED CARD OF 'bosketlaw16.FlowRows'. -/
def flowRowsCard : Claim7 := { stood := { row := flowRowsRow, standIns := [], harness := (true, "5bd54f69b5cade0c955045b51ddd82d72c27c238cf4b0dbda76d449d05ccd683"), looks := true }, kinds := [], alts := [], laidByText := true, laidKinds := [.data, .data, .data, .data, .sentinel, .sentinel, .pinned], laidTests := true, laidLooks := .later }
def FlowRowsCardSaid : Prop := Claim7.holds Tryz.pinned (.plain (OpenSpec.ofChange flowRowsSpec)) flowRowsCard

/-- THE TIED CARD OF 'bosketlaw16.FlowWords'. -/
def flowWordsCard : Claim7 := { stood := { row := flowWordsRow, standIns := [], harness := (true, "5bd54f69b5cade0c955045b51ddd82d72c27c238cf4b0dbda76d449d05ccd683"), looks := true }, kinds := [], alts := [], laidByText := true, laidKinds := [.data, .data, .data, .data, .sentinel, .sentinel, .pinned], laidTests := true, laidLooks := .later }
def FlowWordsCardSaid : Prop := Claim7.holds Tryz.pinned (.plain (OpenSpec.ofChange flowWordsSpec)) flowWordsCard

/-- THE TIED CARD OF 'bosketlaw16.FlowDeep'. -/
def flowDeepCard : Claim7 := { stood := { row := flowDeepRow, standIns := [], harness := (true, "5bd54f69b5cade0c955045b51ddd82d72c27c238cf4b0dbda76d449d05ccd683"), looks := true }, kinds := [], alts := [], laidByText := true, laidKinds := [.data, .data, .data, .data, .sentinel, .sentinel, .pinned], laidTests := true, laidLooks := .later }
def FlowDeepCardSaid : Prop := Claim7.holds Tryz.pinned (.plain (OpenSpec.ofChange flowDeepSpec)) flowDeepCard

/-- THE TIED CARD OF 'bosketlaw16.FlowNotes'. -/
def flowNotesCard : Claim7 := { stood := { row := flowNotesRow, standIns := [], harness := (true, "5bd54f69b5cade0c955045b51ddd82d72c27c238cf4b0dbda76d449d05ccd683"), looks := true }, kinds := [], alts := [], laidByText := true, laidKinds := [.data, .data, .data, .data, .sentinel, .sentinel, .pinned], laidTests := true, laidLooks := .later }
def FlowNotesCardSaid : Prop := Claim7.holds Tryz.pinned (.plain (OpenSpec.ofChange flowNotesSpec)) flowNotesCard

/-- THE SECOND FORM's CARD OF 'bosketlaw16.FlowRows'. -/
def flowRowsUptoCard : Claim7 := { stood := { row := flowRowsUptoRow, standIns := [], harness := (true, "5bd54f69b5cade0c955045b51ddd82d72c27c238cf4b0dbda76d449d05ccd683"), looks := true }, kinds := [], alts := [], laidByText := true, laidKinds := [.data, .data, .data, .data, .sentinel, .sentinel, .pinned], laidTests := true, laidLooks := .later }
def FlowRowsUptoCardSaid : Prop := Claim7.holds Tryz.pinned (.plain (OpenSpec.upto flowRowsSpec)) flowRowsUptoCard

/-- THE SECOND FORM's CARD OF 'bosketlaw16.FlowWords'. -/
def flowWordsUptoCard : Claim7 := { stood := { row := flowWordsUptoRow, standIns := [], harness := (true, "5bd54f69b5cade0c955045b51ddd82d72c27c238cf4b0dbda76d449d05ccd683"), looks := true }, kinds := [], alts := [], laidByText := true, laidKinds := [.data, .data, .data, .data, .sentinel, .sentinel, .pinned], laidTests := true, laidLooks := .later }
def FlowWordsUptoCardSaid : Prop := Claim7.holds Tryz.pinned (.plain (OpenSpec.upto flowWordsSpec)) flowWordsUptoCard

/-- THE SECOND FORM's CARD OF 'bosketlaw16.FlowDeep'. -/
def flowDeepUptoCard : Claim7 := { stood := { row := flowDeepUptoRow, standIns := [], harness := (true, "5bd54f69b5cade0c955045b51ddd82d72c27c238cf4b0dbda76d449d05ccd683"), looks := true }, kinds := [], alts := [], laidByText := true, laidKinds := [.data, .data, .data, .data, .sentinel, .sentinel, .pinned], laidTests := true, laidLooks := .later }
def FlowDeepUptoCardSaid : Prop := Claim7.holds Tryz.pinned (.plain (OpenSpec.upto flowDeepSpec)) flowDeepUptoCard

/-- THE SECOND FORM's CARD OF 'bosketlaw16.FlowNotes'. -/
def flowNotesUptoCard : Claim7 := { stood := { row := flowNotesUptoRow, standIns := [], harness := (true, "5bd54f69b5cade0c955045b51ddd82d72c27c238cf4b0dbda76d449d05ccd683"), looks := true }, kinds := [], alts := [], laidByText := true, laidKinds := [.data, .data, .data, .data, .sentinel, .sentinel, .pinned], laidTests := true, laidLooks := .later }
def FlowNotesUptoCardSaid : Prop := Claim7.holds Tryz.pinned (.plain (OpenSpec.upto flowNotesSpec)) flowNotesUptoCard
end Rows
end Go.Proofs.YtncngeamdechmaaGreatDoor
