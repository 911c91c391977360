/-
  DERIVED. GIVEN WITH THE SEED: THE CARDS: each row of YtckdhidcbkbeoaaDoorRows.lean that lists a variable, with what it lists TIED to the program's text (the seventh form; the later family's looks); each row that meets fmt, with fmt's text TOLD by the authors' own Lean function (tested against real Go, not proved from fmt's source: count such statements apart). THE CARD IS WHAT COUNTS. Prove the row's statement (the work); the ties are given (YtckdhidcbkbeoaaDoorTie.lean); close each card by the builder's one call (the guide's Derived/Test/ToyasCard.lean, 'card_holds'). Laid BY PROGRAM, IN A SANDBOX (cutbox-door.mjs). By AI agents, Wed Nov 11 2026. No macro, syntax, notation, axiom, sorry.
-/
import Derived.Test.YtckdhidcbkbeoaaDoorRows
import GoSem.ClaimSeven
namespace Go.Proofs.YtckdhidcbkbeoaaDoor
namespace Rows

/-- THE TIED CARD OF 'bosketlaw10.DireTells'. -/
def direTellsCard : Claim7 := { stood := { row := direTellsRow, standIns := [], harness := (true, "a3426a4a04a645db4e83a4623b2b44b32617f744f9d57a46bfdef45668acac01"), looks := false }, kinds := [], alts := [], laidByText := true, laidKinds := [.data, .pinned], laidTests := true, laidLooks := .later }
def DireTellsCardSaid : Prop := Claim7.holds Tryd.pinned (.plain (OpenSpec.ofChange direTellsSpec)) direTellsCard

/-- THE TIED CARD OF 'bosketlaw10.DireAgain'. -/
def direAgainCard : Claim7 := { stood := { row := direAgainRow, standIns := [], harness := (true, "a3426a4a04a645db4e83a4623b2b44b32617f744f9d57a46bfdef45668acac01"), looks := false }, kinds := [], alts := [], laidByText := true, laidKinds := [.data, .pinned], laidTests := true, laidLooks := .later }
def DireAgainCardSaid : Prop := Claim7.holds Tryd.pinned (.plain (OpenSpec.ofChange direAgainSpec)) direAgainCard

/-- THE TIED CARD OF 'bosketlaw10.DireForms'. -/
def direFormsCard : Claim7 := { stood := { row := direFormsRow, standIns := [], harness := (true, "a3426a4a04a645db4e83a4623b2b44b32617f744f9d57a46bfdef45668acac01"), looks := false }, kinds := [], alts := [], laidByText := true, laidKinds := [.data, .pinned], laidTests := true, laidLooks := .later }
def DireFormsCardSaid : Prop := Claim7.holds Tryd.pinned (.plain (OpenSpec.ofChange direFormsSpec)) direFormsCard

/-- THE TIED CARD OF 'bosketlaw10.DireTwice'. -/
def direTwiceCard : Claim7 := { stood := { row := direTwiceRow, standIns := [], harness := (true, "a3426a4a04a645db4e83a4623b2b44b32617f744f9d57a46bfdef45668acac01"), looks := false }, kinds := [], alts := [], laidByText := true, laidKinds := [.data, .pinned], laidTests := true, laidLooks := .later }
def DireTwiceCardSaid : Prop := Claim7.holds Tryd.pinned (.plain (OpenSpec.ofChange direTwiceSpec)) direTwiceCard

/-- THE SECOND FORM's CARD OF 'bosketlaw10.DireTells'. -/
def direTellsUptoCard : Claim7 := { stood := { row := direTellsUptoRow, standIns := [], harness := (true, "a3426a4a04a645db4e83a4623b2b44b32617f744f9d57a46bfdef45668acac01"), looks := false }, kinds := [], alts := [], laidByText := true, laidKinds := [.data, .pinned], laidTests := true, laidLooks := .later }
def DireTellsUptoCardSaid : Prop := Claim7.holds Tryd.pinned (.plain (OpenSpec.upto direTellsSpec)) direTellsUptoCard

/-- THE SECOND FORM's CARD OF 'bosketlaw10.DireAgain'. -/
def direAgainUptoCard : Claim7 := { stood := { row := direAgainUptoRow, standIns := [], harness := (true, "a3426a4a04a645db4e83a4623b2b44b32617f744f9d57a46bfdef45668acac01"), looks := false }, kinds := [], alts := [], laidByText := true, laidKinds := [.data, .pinned], laidTests := true, laidLooks := .later }
def DireAgainUptoCardSaid : Prop := Claim7.holds Tryd.pinned (.plain (OpenSpec.upto direAgainSpec)) direAgainUptoCard

/-- THE SECOND FORM's CARD OF 'bosketlaw10.DireForms'. -/
def direFormsUptoCard : Claim7 := { stood := { row := direFormsUptoRow, standIns := [], harness := (true, "a3426a4a04a645db4e83a4623b2b44b32617f744f9d57a46bfdef45668acac01"), looks := false }, kinds := [], alts := [], laidByText := true, laidKinds := [.data, .pinned], laidTests := true, laidLooks := .later }
def DireFormsUptoCardSaid : Prop := Claim7.holds Tryd.pinned (.plain (OpenSpec.upto direFormsSpec)) direFormsUptoCard

/-- THE SECOND FORM's CARD OF 'bosketlaw10.DireTwice'. -/
def direTwiceUptoCard : Claim7 := { stood := { row := direTwiceUptoRow, standIns := [], harness := (true, "a3426a4a04a645db4e83a4623b2b44b32617f744f9d57a46bfdef45668acac01"), looks := false }, kinds := [], alts := [], laidByText := true, laidKinds := [.data, .pinned], laidTests := true, laidLooks := .later }
def DireTwiceUptoCardSaid : Prop := Claim7.holds Tryd.pinned (.plain (OpenSpec.upto direTwiceSpec)) direTwiceUptoCard
end Rows
end Go.Proofs.YtckdhidcbkbeoaaDoor
