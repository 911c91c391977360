/-
  DERIVED. GIVEN WITH THE SEED: THE CARDS: each row of YthleebnfbdcobaaGreatDoorRows.lean that lists a variable, with what it lists TIED to the program's text (the seventh form; the later family's looks); each row that meets fmt, with fmt's text TOLD by the authors' own Lean function (tested against real Go, not proved from fmt's source: count such statements apart). THE CARD IS WHAT COUNTS. Prove the row's statement (the work); the ties are given (YthleebnfbdcobaaGreatDoorTie.lean); close each card by the builder's one call (the guide's Derived/Test/ToyasCard.lean, 'card_holds'). Laid BY PROGRAM, IN A SANDBOX (cutbox-door.mjs). By AI agents, Wed Nov 11 2026. No macro, syntax, notation, axiom, sorry.
-/
import Derived.Test.YthleebnfbdcobaaGreatDoorRows
import GoSem.ClaimSeven
namespace Go.Proofs.YthleebnfbdcobaaGreatDoor
namespace Rows

/-- THE TIED CARD OF 'bosketlaw12.QuotBack'. -/
def quotBackCard : Claim7 := { stood := { row := quotBackRow, standIns := [], harness := (true, "a873ef24dbf84a468e98cf75f3fddaa359f99222c5557a2949feca233b5c08e2"), looks := true }, kinds := [], alts := [], laidByText := true, laidKinds := [.data, .data, .data, .data, .sentinel, .sentinel, .pinned], laidTests := true, laidLooks := .later }
def QuotBackCardSaid : Prop := Claim7.holds Tryz.pinned (.plain (OpenSpec.ofChange quotBackSpec)) quotBackCard

/-- THE SECOND FORM's CARD OF 'bosketlaw12.QuotBack'. -/
def quotBackUptoCard : Claim7 := { stood := { row := quotBackUptoRow, standIns := [], harness := (true, "a873ef24dbf84a468e98cf75f3fddaa359f99222c5557a2949feca233b5c08e2"), looks := true }, kinds := [], alts := [], laidByText := true, laidKinds := [.data, .data, .data, .data, .sentinel, .sentinel, .pinned], laidTests := true, laidLooks := .later }
def QuotBackUptoCardSaid : Prop := Claim7.holds Tryz.pinned (.plain (OpenSpec.upto quotBackSpec)) quotBackUptoCard
end Rows
end Go.Proofs.YthleebnfbdcobaaGreatDoor
