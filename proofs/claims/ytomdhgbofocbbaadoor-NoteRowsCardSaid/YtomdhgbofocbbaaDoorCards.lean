/-
  DERIVED. GIVEN WITH THE SEED: THE CARDS: each row of YtomdhgbofocbbaaDoorRows.lean that lists a variable, with what it lists TIED to the program's text (the seventh form; the later family's looks); each row that meets fmt, with fmt's text TOLD by the authors' own Lean function (tested against real Go, not proved from fmt's source: count such statements apart). THE CARD IS WHAT COUNTS. Prove the row's statement (the work); the ties are given (YtomdhgbofocbbaaDoorTie.lean); close each card by the builder's one call (the guide's Derived/Test/ToyasCard.lean, 'card_holds'). Laid BY PROGRAM, IN A SANDBOX (cutbox-door.mjs). By AI agents, Wed Nov 11 2026. No macro, syntax, notation, axiom, sorry.
-/
import Derived.Test.YtomdhgbofocbbaaDoorRows
import GoSem.ClaimSeven
namespace Go.Proofs.YtomdhgbofocbbaaDoor
namespace Rows

/-- THE TIED CARD OF 'bosketlaw15.NoteTells'. -/
def noteTellsCard : Claim7 := { stood := { row := noteTellsRow, standIns := [], harness := (true, "e1d28adafa894ef25318756203dcc642a2c504ce492a72ffd0d0b046b6de2de9"), looks := false }, kinds := [], alts := [], laidByText := true, laidKinds := [.data, .pinned], laidTests := true, laidLooks := .later }
def NoteTellsCardSaid : Prop := Claim7.holds Tryd.pinned (.plain (OpenSpec.ofChange noteTellsSpec)) noteTellsCard

/-- THE TIED CARD OF 'bosketlaw15.NoteMade'. -/
def noteMadeCard : Claim7 := { stood := { row := noteMadeRow, standIns := [], harness := (true, "e1d28adafa894ef25318756203dcc642a2c504ce492a72ffd0d0b046b6de2de9"), looks := false }, kinds := [], alts := [], laidByText := true, laidKinds := [.data, .pinned], laidTests := true, laidLooks := .later }
def NoteMadeCardSaid : Prop := Claim7.holds Tryd.pinned (.plain (OpenSpec.ofChange noteMadeSpec)) noteMadeCard

/-- THE TIED CARD OF 'bosketlaw15.NoteRows'. -/
def noteRowsCard : Claim7 := { stood := { row := noteRowsRow, standIns := [], harness := (true, "e1d28adafa894ef25318756203dcc642a2c504ce492a72ffd0d0b046b6de2de9"), looks := false }, kinds := [], alts := [], laidByText := true, laidKinds := [.data, .pinned], laidTests := true, laidLooks := .later }
def NoteRowsCardSaid : Prop := Claim7.holds Tryd.pinned (.plain (OpenSpec.ofChange noteRowsSpec)) noteRowsCard

/-- THE TIED CARD OF 'bosketlaw15.NoteTabs'. -/
def noteTabsCard : Claim7 := { stood := { row := noteTabsRow, standIns := [], harness := (true, "e1d28adafa894ef25318756203dcc642a2c504ce492a72ffd0d0b046b6de2de9"), looks := false }, kinds := [], alts := [], laidByText := true, laidKinds := [.data, .pinned], laidTests := true, laidLooks := .later }
def NoteTabsCardSaid : Prop := Claim7.holds Tryd.pinned (.plain (OpenSpec.ofChange noteTabsSpec)) noteTabsCard

/-- THE SECOND FORM's CARD OF 'bosketlaw15.NoteTells'. -/
def noteTellsUptoCard : Claim7 := { stood := { row := noteTellsUptoRow, standIns := [], harness := (true, "e1d28adafa894ef25318756203dcc642a2c504ce492a72ffd0d0b046b6de2de9"), looks := false }, kinds := [], alts := [], laidByText := true, laidKinds := [.data, .pinned], laidTests := true, laidLooks := .later }
def NoteTellsUptoCardSaid : Prop := Claim7.holds Tryd.pinned (.plain (OpenSpec.upto noteTellsSpec)) noteTellsUptoCard

/-- THE SECOND FORM's CARD OF 'bosketlaw15.NoteMade'. -/
def noteMadeUptoCard : Claim7 := { stood := { row := noteMadeUptoRow, standIns := [], harness := (true, "e1d28adafa894ef25318756203dcc642a2c504ce492a72ffd0d0b046b6de2de9"), looks := false }, kinds := [], alts := [], laidByText := true, laidKinds := [.data, .pinned], laidTests := true, laidLooks := .later }
def NoteMadeUptoCardSaid : Prop := Claim7.holds Tryd.pinned (.plain (OpenSpec.upto noteMadeSpec)) noteMadeUptoCard

/-- THE SECOND FORM's CARD OF 'bosketlaw15.NoteRows'. -/
def noteRowsUptoCard : Claim7 := { stood := { row := noteRowsUptoRow, standIns := [], harness := (true, "e1d28adafa894ef25318756203dcc642a2c504ce492a72ffd0d0b046b6de2de9"), looks := false }, kinds := [], alts := [], laidByText := true, laidKinds := [.data, .pinned], laidTests := true, laidLooks := .later }
def NoteRowsUptoCardSaid : Prop := Claim7.holds Tryd.pinned (.plain (OpenSpec.upto noteRowsSpec)) noteRowsUptoCard

/-- THE SECOND FORM's CARD OF 'bosketlaw15.NoteTabs'. -/
def noteTabsUptoCard : Claim7 := { stood := { row := noteTabsUptoRow, standIns := [], harness := (true, "e1d28adafa894ef25318756203dcc642a2c504ce492a72ffd0d0b046b6de2de9"), looks := false }, kinds := [], alts := [], laidByText := true, laidKinds := [.data, .pinned], laidTests := true, laidLooks := .later }
def NoteTabsUptoCardSaid : Prop := Claim7.holds Tryd.pinned (.plain (OpenSpec.upto noteTabsSpec)) noteTabsUptoCard
end Rows
end Go.Proofs.YtomdhgbofocbbaaDoor
