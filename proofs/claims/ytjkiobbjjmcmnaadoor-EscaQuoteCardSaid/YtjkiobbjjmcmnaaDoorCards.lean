/-
  DERIVED. GIVEN WITH THE SEED: THE CARDS: each row of YtjkiobbjjmcmnaaDoorRows.lean that lists a variable, with what it lists TIED to the program's text (the seventh form; the later family's looks); each row that meets fmt, with fmt's text TOLD by the authors' own Lean function (tested against real Go, not proved from fmt's source: count such statements apart). THE CARD IS WHAT COUNTS. Prove the row's statement (the work); the ties are given (YtjkiobbjjmcmnaaDoorTie.lean); close each card by the builder's one call (the guide's Derived/Test/ToyasCard.lean, 'card_holds'). Laid BY PROGRAM, IN A SANDBOX (cutbox-door.mjs). By AI agents, Wed Nov 11 2026. No macro, syntax, notation, axiom, sorry.
-/
import Derived.Test.YtjkiobbjjmcmnaaDoorRows
import GoSem.ClaimSeven
namespace Go.Proofs.YtjkiobbjjmcmnaaDoor
namespace Rows

/-- THE TIED CARD OF 'bosketlaw5.EscaTells'. -/
def escaTellsCard : Claim7 := { stood := { row := escaTellsRow, standIns := [], harness := (true, "d52ae42f6b0833119d17ddd29478fec435bde53d770004d03249cbf590c9b769"), looks := true }, kinds := [], alts := [], laidByText := true, laidKinds := [.data, .data, .data, .data, .sentinel, .sentinel, .pinned], laidTests := true, laidLooks := .later }
def EscaTellsCardSaid : Prop := Claim7.holds Tryd.pinned (.plain (OpenSpec.ofChange escaTellsSpec)) escaTellsCard

/-- THE TIED CARD OF 'bosketlaw5.EscaForms'. -/
def escaFormsCard : Claim7 := { stood := { row := escaFormsRow, standIns := [], harness := (true, "d52ae42f6b0833119d17ddd29478fec435bde53d770004d03249cbf590c9b769"), looks := true }, kinds := [], alts := [], laidByText := true, laidKinds := [.data, .data, .data, .data, .sentinel, .sentinel, .pinned], laidTests := true, laidLooks := .later }
def EscaFormsCardSaid : Prop := Claim7.holds Tryd.pinned (.plain (OpenSpec.ofChange escaFormsSpec)) escaFormsCard

/-- THE TIED CARD OF 'bosketlaw5.EscaBack'. -/
def escaBackCard : Claim7 := { stood := { row := escaBackRow, standIns := [], harness := (true, "d52ae42f6b0833119d17ddd29478fec435bde53d770004d03249cbf590c9b769"), looks := true }, kinds := [], alts := [], laidByText := true, laidKinds := [.data, .data, .data, .data, .sentinel, .sentinel, .pinned], laidTests := true, laidLooks := .later }
def EscaBackCardSaid : Prop := Claim7.holds Tryd.pinned (.plain (OpenSpec.ofChange escaBackSpec)) escaBackCard

/-- THE TIED CARD OF 'bosketlaw5.EscaQuote'. -/
def escaQuoteCard : Claim7 := { stood := { row := escaQuoteRow, standIns := [], harness := (true, "d52ae42f6b0833119d17ddd29478fec435bde53d770004d03249cbf590c9b769"), looks := true }, kinds := [], alts := [], laidByText := true, laidKinds := [.data, .data, .data, .data, .sentinel, .sentinel, .pinned], laidTests := true, laidLooks := .later }
def EscaQuoteCardSaid : Prop := Claim7.holds Tryd.pinned (.plain (OpenSpec.ofChange escaQuoteSpec)) escaQuoteCard

/-- THE SECOND FORM's CARD OF 'bosketlaw5.EscaTells'. -/
def escaTellsUptoCard : Claim7 := { stood := { row := escaTellsUptoRow, standIns := [], harness := (true, "d52ae42f6b0833119d17ddd29478fec435bde53d770004d03249cbf590c9b769"), looks := true }, kinds := [], alts := [], laidByText := true, laidKinds := [.data, .data, .data, .data, .sentinel, .sentinel, .pinned], laidTests := true, laidLooks := .later }
def EscaTellsUptoCardSaid : Prop := Claim7.holds Tryd.pinned (.plain (OpenSpec.upto escaTellsSpec)) escaTellsUptoCard

/-- THE SECOND FORM's CARD OF 'bosketlaw5.EscaForms'. -/
def escaFormsUptoCard : Claim7 := { stood := { row := escaFormsUptoRow, standIns := [], harness := (true, "d52ae42f6b0833119d17ddd29478fec435bde53d770004d03249cbf590c9b769"), looks := true }, kinds := [], alts := [], laidByText := true, laidKinds := [.data, .data, .data, .data, .sentinel, .sentinel, .pinned], laidTests := true, laidLooks := .later }
def EscaFormsUptoCardSaid : Prop := Claim7.holds Tryd.pinned (.plain (OpenSpec.upto escaFormsSpec)) escaFormsUptoCard

/-- THE SECOND FORM's CARD OF 'bosketlaw5.EscaBack'. -/
def escaBackUptoCard : Claim7 := { stood := { row := escaBackUptoRow, standIns := [], harness := (true, "d52ae42f6b0833119d17ddd29478fec435bde53d770004d03249cbf590c9b769"), looks := true }, kinds := [], alts := [], laidByText := true, laidKinds := [.data, .data, .data, .data, .sentinel, .sentinel, .pinned], laidTests := true, laidLooks := .later }
def EscaBackUptoCardSaid : Prop := Claim7.holds Tryd.pinned (.plain (OpenSpec.upto escaBackSpec)) escaBackUptoCard

/-- THE SECOND FORM's CARD OF 'bosketlaw5.EscaQuote'. -/
def escaQuoteUptoCard : Claim7 := { stood := { row := escaQuoteUptoRow, standIns := [], harness := (true, "d52ae42f6b0833119d17ddd29478fec435bde53d770004d03249cbf590c9b769"), looks := true }, kinds := [], alts := [], laidByText := true, laidKinds := [.data, .data, .data, .data, .sentinel, .sentinel, .pinned], laidTests := true, laidLooks := .later }
def EscaQuoteUptoCardSaid : Prop := Claim7.holds Tryd.pinned (.plain (OpenSpec.upto escaQuoteSpec)) escaQuoteUptoCard
end Rows
end Go.Proofs.YtjkiobbjjmcmnaaDoor
