/-
  NARROWER THAN 'FOR EVERY INPUT', by the rows' own cells (each row's printed sentence says how): BlocTells: laid · BlocMade: laid · BlocBack: laid · BlocFolds: laid · BlocDigits: laid · BlocWrong: laid.
  DERIVED. THE GIVEN ROWS OF THIS SEAT. 6 by the template 'for every input the law returns true; each argument reads behind the call as it read before'; 0 by the template 'total and deterministic' (their statements: YtkpccoijegklbaaDoorTotals.lean).
  GIVEN WITH THE SEED: the statements are not yours to turn. If you find one false, say at which input.
  Laid BY PROGRAM, IN A SANDBOX (cutbox-rows.mjs): the forced cells as the released guide's own fill.sh prints them over the translation 197940b84ce9b230… (all of the seat's roots in one cut). By AI agents, Wed Nov 11 2026. No macro, syntax, notation, axiom, sorry.
-/
import Derived.Test.YtkpccoijegklbaaDoorChecked
import GoSem.PinnedTables
import GoSem.Claim
import GoSem.ClaimJoined
import GoSem.ClaimMapViews
import Derived.JoinedTies
import Derived.KernelRfl
namespace Go.Proofs.YtkpccoijegklbaaDoor
/- THE CELL 'sum', in the pinned program and in every row, IS THE sha256 OF THE DUMP (.gsa) THAT YtkpccoijegklbaaDoorProg.lean LOADS. Nothing in Lean hashes anything: it is a label: what it is worth is what the hold of that sum in a sandbox is worth. -/
noncomputable def Tryd.pinned : Pinned := { name := "ytkpccoijegklbaadoor", sum := "197940b84ce9b230f5691cce33d7db9fb518641e110c3f5e058132d9a6b59329", checked := Tryd.checked }
namespace Rows
def none {H : Type} : Left H := { results := [], args := [] }

/- WHAT THE LISTED PACKAGE-LEVEL VARIABLES READ AS WHEN THE CALL BEGINS. Each datum BY PROGRAM (the guide's laid-datum.mjs) off the statement by which the dump's own 'gosem.cut.vars' lays the variable. In a bare row this is a premise. The card (YtkpccoijegklbaaDoorCards.lean) ties it to the program's text. -/
def laid_unicode_utf8_acceptRanges {H : Type} : DataW H := .agg [.agg [.lit (.int .u8 128), .lit (.int .u8 191)], .agg [.lit (.int .u8 160), .lit (.int .u8 191)], .agg [.lit (.int .u8 128), .lit (.int .u8 159)], .agg [.lit (.int .u8 144), .lit (.int .u8 191)], .agg [.lit (.int .u8 128), .lit (.int .u8 143)], .agg [.lit (.int .u8 0), .lit (.int .u8 0)], .agg [.lit (.int .u8 0), .lit (.int .u8 0)], .agg [.lit (.int .u8 0), .lit (.int .u8 0)], .agg [.lit (.int .u8 0), .lit (.int .u8 0)], .agg [.lit (.int .u8 0), .lit (.int .u8 0)], .agg [.lit (.int .u8 0), .lit (.int .u8 0)], .agg [.lit (.int .u8 0), .lit (.int .u8 0)], .agg [.lit (.int .u8 0), .lit (.int .u8 0)], .agg [.lit (.int .u8 0), .lit (.int .u8 0)], .agg [.lit (.int .u8 0), .lit (.int .u8 0)], .agg [.lit (.int .u8 0), .lit (.int .u8 0)]]
/-- One of Go's own tables, pinned by name: the form's constant. -/
def laid_unicode_utf8_first : DataW Unit := Go.Pinned.utf8First

/-- 'bosketlaw13.BlocTells': WHATEVER THE INPUT: true; the input reads as it did. -/
def blocTellsSpec : ChangeSpec := { name := "blocTells", fn := fun _ => fun
  | [d1, d2, d3, d4] => { results := [.lit (.bool true)], args := [d1, d2, d3, d4] }
  | _ => none }
def blocTellsRow : OpenClaim := { program := "ytkpccoijegklbaadoor", sum := "197940b84ce9b230f5691cce33d7db9fb518641e110c3f5e058132d9a6b59329", func := "bosket/bosketlaw13.BlocTells", spec := "blocTells", inPlace := ["internal/bytealg.IndexByteString", "internal/bytealg.IndexString", "internal/bytealg.CountString", "internal/abi.NoEscape"], recurses := true, named := ["unicode/utf8.first", "unicode/utf8.acceptRanges", "internal/bytealg.MaxLen"], apart := false, laid := [("unicode/utf8.acceptRanges", laid_unicode_utf8_acceptRanges), ("unicode/utf8.first", laid_unicode_utf8_first)] }
def BlocTellsSaid : Prop := blocTellsRow.holds Tryd.pinned (OpenSpec.ofChange blocTellsSpec)

/-- ITS FALSE NEIGHBOUR: 'it returns false'. Refute it at one input. -/
def blocTellsWrong : ChangeSpec := { name := "blocTells", fn := fun _ => fun
  | [d1, d2, d3, d4] => { results := [.lit (.bool false)], args := [d1, d2, d3, d4] }
  | _ => none }
def BlocTellsWrongFalsely : Prop := blocTellsRow.holds Tryd.pinned (OpenSpec.ofChange blocTellsWrong)

/-- 'bosketlaw13.BlocMade': WHATEVER THE INPUT: true; the input reads as it did. -/
def blocMadeSpec : ChangeSpec := { name := "blocMade", fn := fun _ => fun
  | [d1, d2, d3] => { results := [.lit (.bool true)], args := [d1, d2, d3] }
  | _ => none }
def blocMadeRow : OpenClaim := { program := "ytkpccoijegklbaadoor", sum := "197940b84ce9b230f5691cce33d7db9fb518641e110c3f5e058132d9a6b59329", func := "bosket/bosketlaw13.BlocMade", spec := "blocMade", inPlace := ["internal/bytealg.IndexByteString", "internal/bytealg.IndexString", "internal/bytealg.CountString", "internal/abi.NoEscape"], recurses := true, named := ["unicode/utf8.first", "unicode/utf8.acceptRanges", "internal/bytealg.MaxLen"], apart := false, laid := [("unicode/utf8.acceptRanges", laid_unicode_utf8_acceptRanges), ("unicode/utf8.first", laid_unicode_utf8_first)] }
def BlocMadeSaid : Prop := blocMadeRow.holds Tryd.pinned (OpenSpec.ofChange blocMadeSpec)

/-- ITS FALSE NEIGHBOUR: 'it returns false'. Refute it at one input. -/
def blocMadeWrong : ChangeSpec := { name := "blocMade", fn := fun _ => fun
  | [d1, d2, d3] => { results := [.lit (.bool false)], args := [d1, d2, d3] }
  | _ => none }
def BlocMadeWrongFalsely : Prop := blocMadeRow.holds Tryd.pinned (OpenSpec.ofChange blocMadeWrong)

/-- 'bosketlaw13.BlocBack': WHATEVER THE INPUT: true; the input reads as it did. -/
def blocBackSpec : ChangeSpec := { name := "blocBack", fn := fun _ => fun
  | [d1, d2, d3, d4, d5] => { results := [.lit (.bool true)], args := [d1, d2, d3, d4, d5] }
  | _ => none }
def blocBackRow : OpenClaim := { program := "ytkpccoijegklbaadoor", sum := "197940b84ce9b230f5691cce33d7db9fb518641e110c3f5e058132d9a6b59329", func := "bosket/bosketlaw13.BlocBack", spec := "blocBack", inPlace := ["internal/bytealg.IndexByteString", "internal/bytealg.IndexString", "internal/bytealg.CountString", "internal/abi.NoEscape"], named := ["unicode/utf8.first", "unicode/utf8.acceptRanges", "internal/bytealg.MaxLen"], apart := false, laid := [("unicode/utf8.acceptRanges", laid_unicode_utf8_acceptRanges), ("unicode/utf8.first", laid_unicode_utf8_first)] }
def BlocBackSaid : Prop := blocBackRow.holds Tryd.pinned (OpenSpec.ofChange blocBackSpec)

/-- ITS FALSE NEIGHBOUR: 'it returns false'. Refute it at one input. -/
def blocBackWrong : ChangeSpec := { name := "blocBack", fn := fun _ => fun
  | [d1, d2, d3, d4, d5] => { results := [.lit (.bool false)], args := [d1, d2, d3, d4, d5] }
  | _ => none }
def BlocBackWrongFalsely : Prop := blocBackRow.holds Tryd.pinned (OpenSpec.ofChange blocBackWrong)

/-- 'bosketlaw13.BlocFolds': WHATEVER THE INPUT: true; the input reads as it did. -/
def blocFoldsSpec : ChangeSpec := { name := "blocFolds", fn := fun _ => fun
  | [d1, d2, d3, d4] => { results := [.lit (.bool true)], args := [d1, d2, d3, d4] }
  | _ => none }
def blocFoldsRow : OpenClaim := { program := "ytkpccoijegklbaadoor", sum := "197940b84ce9b230f5691cce33d7db9fb518641e110c3f5e058132d9a6b59329", func := "bosket/bosketlaw13.BlocFolds", spec := "blocFolds", inPlace := ["internal/bytealg.IndexByteString", "internal/bytealg.IndexString", "internal/bytealg.CountString", "internal/abi.NoEscape"], named := ["unicode/utf8.first", "unicode/utf8.acceptRanges", "internal/bytealg.MaxLen"], apart := false, laid := [("unicode/utf8.acceptRanges", laid_unicode_utf8_acceptRanges), ("unicode/utf8.first", laid_unicode_utf8_first)] }
def BlocFoldsSaid : Prop := blocFoldsRow.holds Tryd.pinned (OpenSpec.ofChange blocFoldsSpec)

/-- ITS FALSE NEIGHBOUR: 'it returns false'. Refute it at one input. -/
def blocFoldsWrong : ChangeSpec := { name := "blocFolds", fn := fun _ => fun
  | [d1, d2, d3, d4] => { results := [.lit (.bool false)], args := [d1, d2, d3, d4] }
  | _ => none }
def BlocFoldsWrongFalsely : Prop := blocFoldsRow.holds Tryd.pinned (OpenSpec.ofChange blocFoldsWrong)

/-- 'bosketlaw13.BlocDigits': WHATEVER THE INPUT: true; the input reads as it did. -/
def blocDigitsSpec : ChangeSpec := { name := "blocDigits", fn := fun _ => fun
  | [d1, d2, d3, d4] => { results := [.lit (.bool true)], args := [d1, d2, d3, d4] }
  | _ => none }
def blocDigitsRow : OpenClaim := { program := "ytkpccoijegklbaadoor", sum := "197940b84ce9b230f5691cce33d7db9fb518641e110c3f5e058132d9a6b59329", func := "bosket/bosketlaw13.BlocDigits", spec := "blocDigits", inPlace := ["internal/bytealg.IndexByteString", "internal/bytealg.IndexString", "internal/bytealg.CountString", "internal/abi.NoEscape"], recurses := true, named := ["unicode/utf8.first", "unicode/utf8.acceptRanges", "internal/bytealg.MaxLen"], apart := false, laid := [("unicode/utf8.acceptRanges", laid_unicode_utf8_acceptRanges), ("unicode/utf8.first", laid_unicode_utf8_first)] }
def BlocDigitsSaid : Prop := blocDigitsRow.holds Tryd.pinned (OpenSpec.ofChange blocDigitsSpec)

/-- ITS FALSE NEIGHBOUR: 'it returns false'. Refute it at one input. -/
def blocDigitsWrong : ChangeSpec := { name := "blocDigits", fn := fun _ => fun
  | [d1, d2, d3, d4] => { results := [.lit (.bool false)], args := [d1, d2, d3, d4] }
  | _ => none }
def BlocDigitsWrongFalsely : Prop := blocDigitsRow.holds Tryd.pinned (OpenSpec.ofChange blocDigitsWrong)

/-- 'bosketlaw13.BlocWrong': WHATEVER THE INPUT: true; the input reads as it did. -/
def blocWrongSpec : ChangeSpec := { name := "blocWrong", fn := fun _ => fun
  | [d1, d2] => { results := [.lit (.bool true)], args := [d1, d2] }
  | _ => none }
def blocWrongRow : OpenClaim := { program := "ytkpccoijegklbaadoor", sum := "197940b84ce9b230f5691cce33d7db9fb518641e110c3f5e058132d9a6b59329", func := "bosket/bosketlaw13.BlocWrong", spec := "blocWrong", inPlace := ["internal/bytealg.IndexByteString", "internal/bytealg.IndexString", "internal/bytealg.CountString", "internal/abi.NoEscape"], named := ["unicode/utf8.first", "unicode/utf8.acceptRanges", "internal/bytealg.MaxLen"], apart := false, laid := [("unicode/utf8.acceptRanges", laid_unicode_utf8_acceptRanges), ("unicode/utf8.first", laid_unicode_utf8_first)] }
def BlocWrongSaid : Prop := blocWrongRow.holds Tryd.pinned (OpenSpec.ofChange blocWrongSpec)

/-- ITS FALSE NEIGHBOUR: 'it returns false'. Refute it at one input. -/
def blocWrongWrong : ChangeSpec := { name := "blocWrong", fn := fun _ => fun
  | [d1, d2] => { results := [.lit (.bool false)], args := [d1, d2] }
  | _ => none }
def BlocWrongWrongFalsely : Prop := blocWrongRow.holds Tryd.pinned (OpenSpec.ofChange blocWrongWrong)

/- THE SECOND FORM. 'bulk': how many values and letters a reading holds, each counted each time it is reached (what is shared counts as often as it is met; a slice's spare places count too). A statement '..UptoSaid' is the law's where the arguments, and the package variables that the reading takes, are together of bulk at most 1048576: NARROWER than '..Said'. Prove '..Said' where nothing that the law and all that it calls make is longer than what came in: it says more and counts as full. Else prove '..UptoSaid'. A law counts once. -/
mutual
def uptoBulk {H : Type} : DataW H → Nat
  | .lit (.string bytes) => bytes.length + 1
  | .lit _ => 1
  | .nil => 1
  | .ptr d => uptoBulk d + 1
  | .slice elems spare => uptoBulkAll elems + uptoBulkAll spare + 1
  | .agg parts => uptoBulkAll parts + 1
  | .iface _ d => uptoBulk d + 1
  | .map entries => uptoBulkEntries entries + 1
  | .held _ => 1
def uptoBulkAll {H : Type} : List (DataW H) → Nat
  | [] => 0
  | d :: r => uptoBulk d + uptoBulkAll r
def uptoBulkEntries {H : Type} : List (Lit × DataW H) → Nat
  | [] => 0
  | x :: r => uptoBulkEntry x + uptoBulkEntries r
def uptoBulkEntry {H : Type} : Lit × DataW H → Nat
  | (.string bytes, d) => bytes.length + uptoBulk d + 1
  | (_, d) => uptoBulk d + 1
 end
def uptoSmall : (H : Type) → List (DataW H) → Bool := fun _ ds => decide (uptoBulkAll ds ≤ 1048576)
def OpenSpec.upto (s : _root_.Go.ChangeSpec) : _root_.Go.OpenSpec := { _root_.Go.OpenSpec.ofChange s with cond := some uptoSmall }

/-- 'bosketlaw13.BlocTells', WHERE WHAT IT READS IS OF BULK AT MOST 1048576: true; the input reads as it did. -/
def blocTellsUptoRow : OpenClaim := { program := "ytkpccoijegklbaadoor", sum := "197940b84ce9b230f5691cce33d7db9fb518641e110c3f5e058132d9a6b59329", func := "bosket/bosketlaw13.BlocTells", spec := "blocTells", inPlace := ["internal/bytealg.IndexByteString", "internal/bytealg.IndexString", "internal/bytealg.CountString", "internal/abi.NoEscape"], recurses := true, named := ["unicode/utf8.first", "unicode/utf8.acceptRanges", "internal/bytealg.MaxLen"], apart := false, laid := [("unicode/utf8.acceptRanges", laid_unicode_utf8_acceptRanges), ("unicode/utf8.first", laid_unicode_utf8_first)], narrowed := true }
def BlocTellsUptoSaid : Prop := blocTellsUptoRow.holds Tryd.pinned (OpenSpec.upto blocTellsSpec)

/-- 'bosketlaw13.BlocMade', WHERE WHAT IT READS IS OF BULK AT MOST 1048576: true; the input reads as it did. -/
def blocMadeUptoRow : OpenClaim := { program := "ytkpccoijegklbaadoor", sum := "197940b84ce9b230f5691cce33d7db9fb518641e110c3f5e058132d9a6b59329", func := "bosket/bosketlaw13.BlocMade", spec := "blocMade", inPlace := ["internal/bytealg.IndexByteString", "internal/bytealg.IndexString", "internal/bytealg.CountString", "internal/abi.NoEscape"], recurses := true, named := ["unicode/utf8.first", "unicode/utf8.acceptRanges", "internal/bytealg.MaxLen"], apart := false, laid := [("unicode/utf8.acceptRanges", laid_unicode_utf8_acceptRanges), ("unicode/utf8.first", laid_unicode_utf8_first)], narrowed := true }
def BlocMadeUptoSaid : Prop := blocMadeUptoRow.holds Tryd.pinned (OpenSpec.upto blocMadeSpec)

/-- 'bosketlaw13.BlocBack', WHERE WHAT IT READS IS OF BULK AT MOST 1048576: true; the input reads as it did. -/
def blocBackUptoRow : OpenClaim := { program := "ytkpccoijegklbaadoor", sum := "197940b84ce9b230f5691cce33d7db9fb518641e110c3f5e058132d9a6b59329", func := "bosket/bosketlaw13.BlocBack", spec := "blocBack", inPlace := ["internal/bytealg.IndexByteString", "internal/bytealg.IndexString", "internal/bytealg.CountString", "internal/abi.NoEscape"], named := ["unicode/utf8.first", "unicode/utf8.acceptRanges", "internal/bytealg.MaxLen"], apart := false, laid := [("unicode/utf8.acceptRanges", laid_unicode_utf8_acceptRanges), ("unicode/utf8.first", laid_unicode_utf8_first)], narrowed := true }
def BlocBackUptoSaid : Prop := blocBackUptoRow.holds Tryd.pinned (OpenSpec.upto blocBackSpec)

/-- 'bosketlaw13.BlocFolds', WHERE WHAT IT READS IS OF BULK AT MOST 1048576: true; the input reads as it did. -/
def blocFoldsUptoRow : OpenClaim := { program := "ytkpccoijegklbaadoor", sum := "197940b84ce9b230f5691cce33d7db9fb518641e110c3f5e058132d9a6b59329", func := "bosket/bosketlaw13.BlocFolds", spec := "blocFolds", inPlace := ["internal/bytealg.IndexByteString", "internal/bytealg.IndexString", "internal/bytealg.CountString", "internal/abi.NoEscape"], named := ["unicode/utf8.first", "unicode/utf8.acceptRanges", "internal/bytealg.MaxLen"], apart := false, laid := [("unicode/utf8.acceptRanges", laid_unicode_utf8_acceptRanges), ("unicode/utf8.first", laid_unicode_utf8_first)], narrowed := true }
def BlocFoldsUptoSaid : Prop := blocFoldsUptoRow.holds Tryd.pinned (OpenSpec.upto blocFoldsSpec)

/-- 'bosketlaw13.BlocDigits', WHERE WHAT IT READS IS OF BULK AT MOST 1048576: true; the input reads as it did. -/
def blocDigitsUptoRow : OpenClaim := { program := "ytkpccoijegklbaadoor", sum := "197940b84ce9b230f5691cce33d7db9fb518641e110c3f5e058132d9a6b59329", func := "bosket/bosketlaw13.BlocDigits", spec := "blocDigits", inPlace := ["internal/bytealg.IndexByteString", "internal/bytealg.IndexString", "internal/bytealg.CountString", "internal/abi.NoEscape"], recurses := true, named := ["unicode/utf8.first", "unicode/utf8.acceptRanges", "internal/bytealg.MaxLen"], apart := false, laid := [("unicode/utf8.acceptRanges", laid_unicode_utf8_acceptRanges), ("unicode/utf8.first", laid_unicode_utf8_first)], narrowed := true }
def BlocDigitsUptoSaid : Prop := blocDigitsUptoRow.holds Tryd.pinned (OpenSpec.upto blocDigitsSpec)

/-- 'bosketlaw13.BlocWrong', WHERE WHAT IT READS IS OF BULK AT MOST 1048576: true; the input reads as it did. -/
def blocWrongUptoRow : OpenClaim := { program := "ytkpccoijegklbaadoor", sum := "197940b84ce9b230f5691cce33d7db9fb518641e110c3f5e058132d9a6b59329", func := "bosket/bosketlaw13.BlocWrong", spec := "blocWrong", inPlace := ["internal/bytealg.IndexByteString", "internal/bytealg.IndexString", "internal/bytealg.CountString", "internal/abi.NoEscape"], named := ["unicode/utf8.first", "unicode/utf8.acceptRanges", "internal/bytealg.MaxLen"], apart := false, laid := [("unicode/utf8.acceptRanges", laid_unicode_utf8_acceptRanges), ("unicode/utf8.first", laid_unicode_utf8_first)], narrowed := true }
def BlocWrongUptoSaid : Prop := blocWrongUptoRow.holds Tryd.pinned (OpenSpec.upto blocWrongSpec)

end Rows
end Go.Proofs.YtkpccoijegklbaaDoor
