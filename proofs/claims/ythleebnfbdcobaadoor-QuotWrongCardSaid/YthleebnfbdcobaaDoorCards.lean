/-
  DERIVED. GIVEN WITH THE SEED: THE CARDS: each row of YthleebnfbdcobaaDoorRows.lean that lists a variable, with what it lists TIED to the program's text (the seventh form; the later family's looks); each row that meets fmt, with fmt's text TOLD by the authors' own Lean function (tested against real Go, not proved from fmt's source: count such statements apart). THE CARD IS WHAT COUNTS. Prove the row's statement (the work); the ties are given (YthleebnfbdcobaaDoorTie.lean); close each card by the builder's one call (the guide's Derived/Test/ToyasCard.lean, 'card_holds'). Laid BY PROGRAM, IN A SANDBOX (cutbox-door.mjs). By AI agents, Wed Nov 11 2026. No macro, syntax, notation, axiom, sorry.
-/
import Derived.Test.YthleebnfbdcobaaDoorRows
import GoSem.ClaimSeven
namespace Go.Proofs.YthleebnfbdcobaaDoor
namespace Rows

/-- THE TIED CARD OF 'bosketlaw12.QuotRows'. -/
def quotRowsCard : Claim7 := { stood := { row := quotRowsRow, standIns := [], harness := (true, "6ad280aa2dd8b256906185d80d5fac7ba9271f7cd53e1ee1251ab75ef76c40fb"), looks := true }, kinds := [], alts := [], laidByText := true, laidKinds := [.data, .data, .data, .data, .sentinel, .sentinel, .pinned], laidTests := true, laidLooks := .later }
def QuotRowsCardSaid : Prop := Claim7.holds Tryd.pinned (.plain (OpenSpec.ofChange quotRowsSpec)) quotRowsCard

/-- THE TIED CARD OF 'bosketlaw12.QuotWrong'. -/
def quotWrongCard : Claim7 := { stood := { row := quotWrongRow, standIns := [], harness := (true, "6ad280aa2dd8b256906185d80d5fac7ba9271f7cd53e1ee1251ab75ef76c40fb"), looks := true }, kinds := [], alts := [], laidByText := true, laidKinds := [.data, .data, .data, .data, .sentinel, .sentinel, .pinned], laidTests := true, laidLooks := .later }
def QuotWrongCardSaid : Prop := Claim7.holds Tryd.pinned (.plain (OpenSpec.ofChange quotWrongSpec)) quotWrongCard

/-- THE SECOND FORM's CARD OF 'bosketlaw12.QuotRows'. -/
def quotRowsUptoCard : Claim7 := { stood := { row := quotRowsUptoRow, standIns := [], harness := (true, "6ad280aa2dd8b256906185d80d5fac7ba9271f7cd53e1ee1251ab75ef76c40fb"), looks := true }, kinds := [], alts := [], laidByText := true, laidKinds := [.data, .data, .data, .data, .sentinel, .sentinel, .pinned], laidTests := true, laidLooks := .later }
def QuotRowsUptoCardSaid : Prop := Claim7.holds Tryd.pinned (.plain (OpenSpec.upto quotRowsSpec)) quotRowsUptoCard

/-- THE SECOND FORM's CARD OF 'bosketlaw12.QuotWrong'. -/
def quotWrongUptoCard : Claim7 := { stood := { row := quotWrongUptoRow, standIns := [], harness := (true, "6ad280aa2dd8b256906185d80d5fac7ba9271f7cd53e1ee1251ab75ef76c40fb"), looks := true }, kinds := [], alts := [], laidByText := true, laidKinds := [.data, .data, .data, .data, .sentinel, .sentinel, .pinned], laidTests := true, laidLooks := .later }
def QuotWrongUptoCardSaid : Prop := Claim7.holds Tryd.pinned (.plain (OpenSpec.upto quotWrongSpec)) quotWrongUptoCard
end Rows
end Go.Proofs.YthleebnfbdcobaaDoor
