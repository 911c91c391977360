/-
  DERIVED. GIVEN WITH THE SEED: THE CARDS: each row of YtafhgbokdfhapaaGreatDoorRows.lean that lists a variable, with what it lists TIED to the program's text (the seventh form; the later family's looks); each row that meets fmt, with fmt's text TOLD by the authors' own Lean function (tested against real Go, not proved from fmt's source: count such statements apart). THE CARD IS WHAT COUNTS. Prove the row's statement (the work); the ties are given (YtafhgbokdfhapaaGreatDoorTie.lean); close each card by the builder's one call (the guide's Derived/Test/ToyasCard.lean, 'card_holds'). Laid BY PROGRAM, IN A SANDBOX (cutbox-door.mjs). By AI agents, Wed Nov 11 2026. No macro, syntax, notation, axiom, sorry.
-/
import Derived.Test.YtafhgbokdfhapaaGreatDoorRows
import GoSem.ClaimSeven
namespace Go.Proofs.YtafhgbokdfhapaaGreatDoor
namespace Rows

/-- THE TIED CARD OF 'bosketlaw17.TreeItems'. -/
def treeItemsCard : Claim7 := { stood := { row := treeItemsRow, standIns := [], harness := (true, "4536ea55128a9e47103de55647fb6fa8764d73c55ad980b9c4c4ae67086bbab1"), looks := true }, kinds := [], alts := [], laidByText := true, laidKinds := [.data, .data, .data, .data, .sentinel, .sentinel, .pinned], laidTests := true, laidLooks := .later }
def TreeItemsCardSaid : Prop := Claim7.holds Tryz.pinned (.plain (OpenSpec.ofChange treeItemsSpec)) treeItemsCard

/-- THE TIED CARD OF 'bosketlaw17.TreeNests'. -/
def treeNestsCard : Claim7 := { stood := { row := treeNestsRow, standIns := [], harness := (true, "4536ea55128a9e47103de55647fb6fa8764d73c55ad980b9c4c4ae67086bbab1"), looks := true }, kinds := [], alts := [], laidByText := true, laidKinds := [.data, .data, .data, .data, .sentinel, .sentinel, .pinned], laidTests := true, laidLooks := .later }
def TreeNestsCardSaid : Prop := Claim7.holds Tryz.pinned (.plain (OpenSpec.ofChange treeNestsSpec)) treeNestsCard

/-- THE TIED CARD OF 'bosketlaw17.TreeBeside'. -/
def treeBesideCard : Claim7 := { stood := { row := treeBesideRow, standIns := [], harness := (true, "4536ea55128a9e47103de55647fb6fa8764d73c55ad980b9c4c4ae67086bbab1"), looks := true }, kinds := [], alts := [], laidByText := true, laidKinds := [.data, .data, .data, .data, .sentinel, .sentinel, .pinned], laidTests := true, laidLooks := .later }
def TreeBesideCardSaid : Prop := Claim7.holds Tryz.pinned (.plain (OpenSpec.ofChange treeBesideSpec)) treeBesideCard

/-- THE TIED CARD OF 'bosketlaw17.TreeLeft'. -/
def treeLeftCard : Claim7 := { stood := { row := treeLeftRow, standIns := [], harness := (true, "4536ea55128a9e47103de55647fb6fa8764d73c55ad980b9c4c4ae67086bbab1"), looks := true }, kinds := [], alts := [], laidByText := true, laidKinds := [.data, .data, .data, .data, .sentinel, .sentinel, .pinned], laidTests := true, laidLooks := .later }
def TreeLeftCardSaid : Prop := Claim7.holds Tryz.pinned (.plain (OpenSpec.ofChange treeLeftSpec)) treeLeftCard

/-- THE TIED CARD OF 'bosketlaw17.TreeDeep'. -/
def treeDeepCard : Claim7 := { stood := { row := treeDeepRow, standIns := [], harness := (true, "4536ea55128a9e47103de55647fb6fa8764d73c55ad980b9c4c4ae67086bbab1"), looks := true }, kinds := [], alts := [], laidByText := true, laidKinds := [.data, .data, .data, .data, .sentinel, .sentinel, .pinned], laidTests := true, laidLooks := .later }
def TreeDeepCardSaid : Prop := Claim7.holds Tryz.pinned (.plain (OpenSpec.ofChange treeDeepSpec)) treeDeepCard

/-- THE TIED CARD OF 'bosketlaw17.TreeNotes'. -/
def treeNotesCard : Claim7 := { stood := { row := treeNotesRow, standIns := [], harness := (true, "4536ea55128a9e47103de55647fb6fa8764d73c55ad980b9c4c4ae67086bbab1"), looks := true }, kinds := [], alts := [], laidByText := true, laidKinds := [.data, .data, .data, .data, .sentinel, .sentinel, .pinned], laidTests := true, laidLooks := .later }
def TreeNotesCardSaid : Prop := Claim7.holds Tryz.pinned (.plain (OpenSpec.ofChange treeNotesSpec)) treeNotesCard

/-- THE SECOND FORM's CARD OF 'bosketlaw17.TreeItems'. -/
def treeItemsUptoCard : Claim7 := { stood := { row := treeItemsUptoRow, standIns := [], harness := (true, "4536ea55128a9e47103de55647fb6fa8764d73c55ad980b9c4c4ae67086bbab1"), looks := true }, kinds := [], alts := [], laidByText := true, laidKinds := [.data, .data, .data, .data, .sentinel, .sentinel, .pinned], laidTests := true, laidLooks := .later }
def TreeItemsUptoCardSaid : Prop := Claim7.holds Tryz.pinned (.plain (OpenSpec.upto treeItemsSpec)) treeItemsUptoCard

/-- THE SECOND FORM's CARD OF 'bosketlaw17.TreeNests'. -/
def treeNestsUptoCard : Claim7 := { stood := { row := treeNestsUptoRow, standIns := [], harness := (true, "4536ea55128a9e47103de55647fb6fa8764d73c55ad980b9c4c4ae67086bbab1"), looks := true }, kinds := [], alts := [], laidByText := true, laidKinds := [.data, .data, .data, .data, .sentinel, .sentinel, .pinned], laidTests := true, laidLooks := .later }
def TreeNestsUptoCardSaid : Prop := Claim7.holds Tryz.pinned (.plain (OpenSpec.upto treeNestsSpec)) treeNestsUptoCard

/-- THE SECOND FORM's CARD OF 'bosketlaw17.TreeBeside'. -/
def treeBesideUptoCard : Claim7 := { stood := { row := treeBesideUptoRow, standIns := [], harness := (true, "4536ea55128a9e47103de55647fb6fa8764d73c55ad980b9c4c4ae67086bbab1"), looks := true }, kinds := [], alts := [], laidByText := true, laidKinds := [.data, .data, .data, .data, .sentinel, .sentinel, .pinned], laidTests := true, laidLooks := .later }
def TreeBesideUptoCardSaid : Prop := Claim7.holds Tryz.pinned (.plain (OpenSpec.upto treeBesideSpec)) treeBesideUptoCard

/-- THE SECOND FORM's CARD OF 'bosketlaw17.TreeLeft'. -/
def treeLeftUptoCard : Claim7 := { stood := { row := treeLeftUptoRow, standIns := [], harness := (true, "4536ea55128a9e47103de55647fb6fa8764d73c55ad980b9c4c4ae67086bbab1"), looks := true }, kinds := [], alts := [], laidByText := true, laidKinds := [.data, .data, .data, .data, .sentinel, .sentinel, .pinned], laidTests := true, laidLooks := .later }
def TreeLeftUptoCardSaid : Prop := Claim7.holds Tryz.pinned (.plain (OpenSpec.upto treeLeftSpec)) treeLeftUptoCard

/-- THE SECOND FORM's CARD OF 'bosketlaw17.TreeDeep'. -/
def treeDeepUptoCard : Claim7 := { stood := { row := treeDeepUptoRow, standIns := [], harness := (true, "4536ea55128a9e47103de55647fb6fa8764d73c55ad980b9c4c4ae67086bbab1"), looks := true }, kinds := [], alts := [], laidByText := true, laidKinds := [.data, .data, .data, .data, .sentinel, .sentinel, .pinned], laidTests := true, laidLooks := .later }
def TreeDeepUptoCardSaid : Prop := Claim7.holds Tryz.pinned (.plain (OpenSpec.upto treeDeepSpec)) treeDeepUptoCard

/-- THE SECOND FORM's CARD OF 'bosketlaw17.TreeNotes'. -/
def treeNotesUptoCard : Claim7 := { stood := { row := treeNotesUptoRow, standIns := [], harness := (true, "4536ea55128a9e47103de55647fb6fa8764d73c55ad980b9c4c4ae67086bbab1"), looks := true }, kinds := [], alts := [], laidByText := true, laidKinds := [.data, .data, .data, .data, .sentinel, .sentinel, .pinned], laidTests := true, laidLooks := .later }
def TreeNotesUptoCardSaid : Prop := Claim7.holds Tryz.pinned (.plain (OpenSpec.upto treeNotesSpec)) treeNotesUptoCard
end Rows
end Go.Proofs.YtafhgbokdfhapaaGreatDoor
