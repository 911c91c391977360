/-
  DERIVED. GIVEN WITH THE SEED: THE CARDS: each row of YthcmkpiajkbpnaaGreatDoorRows.lean that lists a variable, with what it lists TIED to the program's text (the seventh form; the later family's looks); each row that meets fmt, with fmt's text TOLD by the authors' own Lean function (tested against real Go, not proved from fmt's source: count such statements apart). THE CARD IS WHAT COUNTS. Prove the row's statement (the work); the ties are given (YthcmkpiajkbpnaaGreatDoorTie.lean); close each card by the builder's one call (the guide's Derived/Test/ToyasCard.lean, 'card_holds'). Laid BY PROGRAM, IN A SANDBOX (cutbox-door.mjs). By AI agents, Wed Nov 11 2026. No macro, syntax, notation, axiom, sorry.
-/
import Derived.Test.YthcmkpiajkbpnaaGreatDoorRows
import GoSem.ClaimSeven
namespace Go.Proofs.YthcmkpiajkbpnaaGreatDoor
namespace Rows

/-- THE TIED CARD OF 'bosketlaw17.TreeDeep'. -/
def treeDeepCard : Claim7 := { stood := { row := treeDeepRow, standIns := [], harness := (true, "a7aceb3d4953a3532804f1e750c0ac0c4758cdbfcbfeccb465a9278421993c0a"), looks := true }, kinds := [], alts := [], laidByText := true, laidKinds := [.data, .data, .data, .data, .sentinel, .sentinel, .pinned], laidTests := true, laidLooks := .later }
def TreeDeepCardSaid : Prop := Claim7.holds Tryz.pinned (.plain (OpenSpec.ofChange treeDeepSpec)) treeDeepCard

/-- THE TIED CARD OF 'bosketlaw17.TreeNotes'. -/
def treeNotesCard : Claim7 := { stood := { row := treeNotesRow, standIns := [], harness := (true, "a7aceb3d4953a3532804f1e750c0ac0c4758cdbfcbfeccb465a9278421993c0a"), looks := true }, kinds := [], alts := [], laidByText := true, laidKinds := [.data, .data, .data, .data, .sentinel, .sentinel, .pinned], laidTests := true, laidLooks := .later }
def TreeNotesCardSaid : Prop := Claim7.holds Tryz.pinned (.plain (OpenSpec.ofChange treeNotesSpec)) treeNotesCard

/-- THE TIED CARD OF 'bosketlaw18.StreMarks'. -/
def streMarksCard : Claim7 := { stood := { row := streMarksRow, standIns := [], harness := (true, "a7aceb3d4953a3532804f1e750c0ac0c4758cdbfcbfeccb465a9278421993c0a"), looks := true }, kinds := [], alts := [], laidByText := true, laidKinds := [.data, .data, .data, .data, .sentinel, .sentinel, .pinned], laidTests := true, laidLooks := .later }
def StreMarksCardSaid : Prop := Claim7.holds Tryz.pinned (.plain (OpenSpec.ofChange streMarksSpec)) streMarksCard

/-- THE TIED CARD OF 'bosketlaw18.StreForms'. -/
def streFormsCard : Claim7 := { stood := { row := streFormsRow, standIns := [], harness := (true, "a7aceb3d4953a3532804f1e750c0ac0c4758cdbfcbfeccb465a9278421993c0a"), looks := true }, kinds := [], alts := [], laidByText := true, laidKinds := [.data, .data, .data, .data, .sentinel, .sentinel, .pinned], laidTests := true, laidLooks := .later }
def StreFormsCardSaid : Prop := Claim7.holds Tryz.pinned (.plain (OpenSpec.ofChange streFormsSpec)) streFormsCard

/-- THE SECOND FORM's CARD OF 'bosketlaw17.TreeDeep'. -/
def treeDeepUptoCard : Claim7 := { stood := { row := treeDeepUptoRow, standIns := [], harness := (true, "a7aceb3d4953a3532804f1e750c0ac0c4758cdbfcbfeccb465a9278421993c0a"), looks := true }, kinds := [], alts := [], laidByText := true, laidKinds := [.data, .data, .data, .data, .sentinel, .sentinel, .pinned], laidTests := true, laidLooks := .later }
def TreeDeepUptoCardSaid : Prop := Claim7.holds Tryz.pinned (.plain (OpenSpec.upto treeDeepSpec)) treeDeepUptoCard

/-- THE SECOND FORM's CARD OF 'bosketlaw17.TreeNotes'. -/
def treeNotesUptoCard : Claim7 := { stood := { row := treeNotesUptoRow, standIns := [], harness := (true, "a7aceb3d4953a3532804f1e750c0ac0c4758cdbfcbfeccb465a9278421993c0a"), looks := true }, kinds := [], alts := [], laidByText := true, laidKinds := [.data, .data, .data, .data, .sentinel, .sentinel, .pinned], laidTests := true, laidLooks := .later }
def TreeNotesUptoCardSaid : Prop := Claim7.holds Tryz.pinned (.plain (OpenSpec.upto treeNotesSpec)) treeNotesUptoCard

/-- THE SECOND FORM's CARD OF 'bosketlaw18.StreMarks'. -/
def streMarksUptoCard : Claim7 := { stood := { row := streMarksUptoRow, standIns := [], harness := (true, "a7aceb3d4953a3532804f1e750c0ac0c4758cdbfcbfeccb465a9278421993c0a"), looks := true }, kinds := [], alts := [], laidByText := true, laidKinds := [.data, .data, .data, .data, .sentinel, .sentinel, .pinned], laidTests := true, laidLooks := .later }
def StreMarksUptoCardSaid : Prop := Claim7.holds Tryz.pinned (.plain (OpenSpec.upto streMarksSpec)) streMarksUptoCard

/-- THE SECOND FORM's CARD OF 'bosketlaw18.StreForms'. -/
def streFormsUptoCard : Claim7 := { stood := { row := streFormsUptoRow, standIns := [], harness := (true, "a7aceb3d4953a3532804f1e750c0ac0c4758cdbfcbfeccb465a9278421993c0a"), looks := true }, kinds := [], alts := [], laidByText := true, laidKinds := [.data, .data, .data, .data, .sentinel, .sentinel, .pinned], laidTests := true, laidLooks := .later }
def StreFormsUptoCardSaid : Prop := Claim7.holds Tryz.pinned (.plain (OpenSpec.upto streFormsSpec)) streFormsUptoCard
end Rows
end Go.Proofs.YthcmkpiajkbpnaaGreatDoor
