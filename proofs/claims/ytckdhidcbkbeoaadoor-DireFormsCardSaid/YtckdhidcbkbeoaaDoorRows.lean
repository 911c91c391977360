/-
  NARROWER THAN 'FOR EVERY INPUT', by the rows' own cells (each row's printed sentence says how): DireTells: laid · DireAgain: laid · DireForms: laid · DireTwice: laid.
  DERIVED. THE GIVEN ROWS OF THIS SEAT. 4 by the template 'for every input the law returns true; each argument reads behind the call as it read before'; 0 by the template 'total and deterministic' (their statements: YtckdhidcbkbeoaaDoorTotals.lean).
  GIVEN WITH THE SEED: the statements are not yours to turn. If you find one false, say at which input.
  Laid BY PROGRAM, IN A SANDBOX (cutbox-rows.mjs): the forced cells as the released guide's own fill.sh prints them over the translation af0848bbb11cec21… (all of the seat's roots in one cut). By AI agents, Wed Nov 11 2026. No macro, syntax, notation, axiom, sorry.
-/
import Derived.Test.YtckdhidcbkbeoaaDoorChecked
import GoSem.PinnedTables
import GoSem.Claim
import GoSem.ClaimJoined
import GoSem.ClaimMapViews
import Derived.JoinedTies
import Derived.KernelRfl
namespace Go.Proofs.YtckdhidcbkbeoaaDoor
/- THE CELL 'sum', in the pinned program and in every row, IS THE sha256 OF THE DUMP (.gsa) THAT YtckdhidcbkbeoaaDoorProg.lean LOADS. Nothing in Lean hashes anything: it is a label: what it is worth is what the hold of that sum in a sandbox is worth. -/
noncomputable def Tryd.pinned : Pinned := { name := "ytckdhidcbkbeoaadoor", sum := "af0848bbb11cec21f42f41f528c99f7c6b0cdae0f51b4c5e355a016deabaa035", checked := Tryd.checked }
namespace Rows
def none {H : Type} : Left H := { results := [], args := [] }

/- WHAT THE LISTED PACKAGE-LEVEL VARIABLES READ AS WHEN THE CALL BEGINS. Each datum BY PROGRAM (the guide's laid-datum.mjs) off the statement by which the dump's own 'gosem.cut.vars' lays the variable. In a bare row this is a premise. The card (YtckdhidcbkbeoaaDoorCards.lean) ties it to the program's text. -/
def laid_unicode_utf8_acceptRanges {H : Type} : DataW H := .agg [.agg [.lit (.int .u8 128), .lit (.int .u8 191)], .agg [.lit (.int .u8 160), .lit (.int .u8 191)], .agg [.lit (.int .u8 128), .lit (.int .u8 159)], .agg [.lit (.int .u8 144), .lit (.int .u8 191)], .agg [.lit (.int .u8 128), .lit (.int .u8 143)], .agg [.lit (.int .u8 0), .lit (.int .u8 0)], .agg [.lit (.int .u8 0), .lit (.int .u8 0)], .agg [.lit (.int .u8 0), .lit (.int .u8 0)], .agg [.lit (.int .u8 0), .lit (.int .u8 0)], .agg [.lit (.int .u8 0), .lit (.int .u8 0)], .agg [.lit (.int .u8 0), .lit (.int .u8 0)], .agg [.lit (.int .u8 0), .lit (.int .u8 0)], .agg [.lit (.int .u8 0), .lit (.int .u8 0)], .agg [.lit (.int .u8 0), .lit (.int .u8 0)], .agg [.lit (.int .u8 0), .lit (.int .u8 0)], .agg [.lit (.int .u8 0), .lit (.int .u8 0)]]
/-- One of Go's own tables, pinned by name: the form's constant. -/
def laid_unicode_utf8_first : DataW Unit := Go.Pinned.utf8First

/-- 'bosketlaw10.DireTells': WHATEVER THE INPUT: true; the input reads as it did. -/
def direTellsSpec : ChangeSpec := { name := "direTells", fn := fun _ => fun
  | [d1, d2, d3] => { results := [.lit (.bool true)], args := [d1, d2, d3] }
  | _ => none }
def direTellsRow : OpenClaim := { program := "ytckdhidcbkbeoaadoor", sum := "af0848bbb11cec21f42f41f528c99f7c6b0cdae0f51b4c5e355a016deabaa035", func := "bosket/bosketlaw10.DireTells", spec := "direTells", inPlace := ["internal/bytealg.IndexByteString", "internal/bytealg.IndexString", "internal/abi.NoEscape", "internal/bytealg.MakeNoZero"], unfollowed := true, recurses := true, named := ["unicode/utf8.first", "unicode/utf8.acceptRanges", "internal/bytealg.MaxLen"], apart := false, laid := [("unicode/utf8.acceptRanges", laid_unicode_utf8_acceptRanges), ("unicode/utf8.first", laid_unicode_utf8_first)] }
def DireTellsSaid : Prop := direTellsRow.holds Tryd.pinned (OpenSpec.ofChange direTellsSpec)

/-- ITS FALSE NEIGHBOUR: 'it returns false'. Refute it at one input. -/
def direTellsWrong : ChangeSpec := { name := "direTells", fn := fun _ => fun
  | [d1, d2, d3] => { results := [.lit (.bool false)], args := [d1, d2, d3] }
  | _ => none }
def DireTellsWrongFalsely : Prop := direTellsRow.holds Tryd.pinned (OpenSpec.ofChange direTellsWrong)

/-- 'bosketlaw10.DireAgain': WHATEVER THE INPUT: true; the input reads as it did. -/
def direAgainSpec : ChangeSpec := { name := "direAgain", fn := fun _ => fun
  | [d1, d2] => { results := [.lit (.bool true)], args := [d1, d2] }
  | _ => none }
def direAgainRow : OpenClaim := { program := "ytckdhidcbkbeoaadoor", sum := "af0848bbb11cec21f42f41f528c99f7c6b0cdae0f51b4c5e355a016deabaa035", func := "bosket/bosketlaw10.DireAgain", spec := "direAgain", inPlace := ["internal/bytealg.IndexByteString", "internal/bytealg.IndexString", "internal/abi.NoEscape", "internal/bytealg.MakeNoZero"], unfollowed := true, recurses := true, named := ["unicode/utf8.first", "unicode/utf8.acceptRanges", "internal/bytealg.MaxLen"], apart := false, laid := [("unicode/utf8.acceptRanges", laid_unicode_utf8_acceptRanges), ("unicode/utf8.first", laid_unicode_utf8_first)] }
def DireAgainSaid : Prop := direAgainRow.holds Tryd.pinned (OpenSpec.ofChange direAgainSpec)

/-- ITS FALSE NEIGHBOUR: 'it returns false'. Refute it at one input. -/
def direAgainWrong : ChangeSpec := { name := "direAgain", fn := fun _ => fun
  | [d1, d2] => { results := [.lit (.bool false)], args := [d1, d2] }
  | _ => none }
def DireAgainWrongFalsely : Prop := direAgainRow.holds Tryd.pinned (OpenSpec.ofChange direAgainWrong)

/-- 'bosketlaw10.DireForms': WHATEVER THE INPUT: true; the input reads as it did. -/
def direFormsSpec : ChangeSpec := { name := "direForms", fn := fun _ => fun
  | [d] => { results := [.lit (.bool true)], args := [d] }
  | _ => none }
def direFormsRow : OpenClaim := { program := "ytckdhidcbkbeoaadoor", sum := "af0848bbb11cec21f42f41f528c99f7c6b0cdae0f51b4c5e355a016deabaa035", func := "bosket/bosketlaw10.DireForms", spec := "direForms", inPlace := ["internal/bytealg.IndexByteString", "internal/bytealg.IndexString", "internal/abi.NoEscape", "internal/bytealg.MakeNoZero"], unfollowed := true, recurses := true, named := ["unicode/utf8.first", "unicode/utf8.acceptRanges", "internal/bytealg.MaxLen"], apart := false, laid := [("unicode/utf8.acceptRanges", laid_unicode_utf8_acceptRanges), ("unicode/utf8.first", laid_unicode_utf8_first)] }
def DireFormsSaid : Prop := direFormsRow.holds Tryd.pinned (OpenSpec.ofChange direFormsSpec)

/-- ITS FALSE NEIGHBOUR: 'it returns false'. Refute it at one input. -/
def direFormsWrong : ChangeSpec := { name := "direForms", fn := fun _ => fun
  | [d] => { results := [.lit (.bool false)], args := [d] }
  | _ => none }
def DireFormsWrongFalsely : Prop := direFormsRow.holds Tryd.pinned (OpenSpec.ofChange direFormsWrong)

/-- 'bosketlaw10.DireTwice': WHATEVER THE INPUT: true; the input reads as it did. -/
def direTwiceSpec : ChangeSpec := { name := "direTwice", fn := fun _ => fun
  | [d1, d2] => { results := [.lit (.bool true)], args := [d1, d2] }
  | _ => none }
def direTwiceRow : OpenClaim := { program := "ytckdhidcbkbeoaadoor", sum := "af0848bbb11cec21f42f41f528c99f7c6b0cdae0f51b4c5e355a016deabaa035", func := "bosket/bosketlaw10.DireTwice", spec := "direTwice", inPlace := ["internal/bytealg.IndexByteString", "internal/bytealg.IndexString", "internal/abi.NoEscape", "internal/bytealg.MakeNoZero"], unfollowed := true, recurses := true, named := ["unicode/utf8.first", "unicode/utf8.acceptRanges", "internal/bytealg.MaxLen"], apart := false, laid := [("unicode/utf8.acceptRanges", laid_unicode_utf8_acceptRanges), ("unicode/utf8.first", laid_unicode_utf8_first)] }
def DireTwiceSaid : Prop := direTwiceRow.holds Tryd.pinned (OpenSpec.ofChange direTwiceSpec)

/-- ITS FALSE NEIGHBOUR: 'it returns false'. Refute it at one input. -/
def direTwiceWrong : ChangeSpec := { name := "direTwice", fn := fun _ => fun
  | [d1, d2] => { results := [.lit (.bool false)], args := [d1, d2] }
  | _ => none }
def DireTwiceWrongFalsely : Prop := direTwiceRow.holds Tryd.pinned (OpenSpec.ofChange direTwiceWrong)

/- THE SECOND FORM. 'bulk': how many values and letters a reading holds, each counted each time it is reached (what is shared counts as often as it is met; a slice's spare places count too). A statement '..UptoSaid' is the law's where the arguments, and the package variables that the reading takes, are together of bulk at most 1048576: NARROWER than '..Said'. Prove '..Said' where nothing that the law and all that it calls make is longer than what came in: it says more and counts as full. Else prove '..UptoSaid'. A law counts once. -/
mutual
def uptoBulk {H : Type} : DataW H → Nat
  | .lit (.string bytes) => bytes.length + 1
  | .lit _ => 1
  | .nil => 1
  | .ptr d => uptoBulk d + 1
  | .slice elems spare => uptoBulkAll elems + uptoBulkAll spare + 1
  | .agg parts => uptoBulkAll parts + 1
  | .iface _ d => uptoBulk d + 1
  | .map entries => uptoBulkEntries entries + 1
  | .held _ => 1
def uptoBulkAll {H : Type} : List (DataW H) → Nat
  | [] => 0
  | d :: r => uptoBulk d + uptoBulkAll r
def uptoBulkEntries {H : Type} : List (Lit × DataW H) → Nat
  | [] => 0
  | x :: r => uptoBulkEntry x + uptoBulkEntries r
def uptoBulkEntry {H : Type} : Lit × DataW H → Nat
  | (.string bytes, d) => bytes.length + uptoBulk d + 1
  | (_, d) => uptoBulk d + 1
 end
def uptoSmall : (H : Type) → List (DataW H) → Bool := fun _ ds => decide (uptoBulkAll ds ≤ 1048576)
def OpenSpec.upto (s : _root_.Go.ChangeSpec) : _root_.Go.OpenSpec := { _root_.Go.OpenSpec.ofChange s with cond := some uptoSmall }

/-- 'bosketlaw10.DireTells', WHERE WHAT IT READS IS OF BULK AT MOST 1048576: true; the input reads as it did. -/
def direTellsUptoRow : OpenClaim := { program := "ytckdhidcbkbeoaadoor", sum := "af0848bbb11cec21f42f41f528c99f7c6b0cdae0f51b4c5e355a016deabaa035", func := "bosket/bosketlaw10.DireTells", spec := "direTells", inPlace := ["internal/bytealg.IndexByteString", "internal/bytealg.IndexString", "internal/abi.NoEscape", "internal/bytealg.MakeNoZero"], unfollowed := true, recurses := true, named := ["unicode/utf8.first", "unicode/utf8.acceptRanges", "internal/bytealg.MaxLen"], apart := false, laid := [("unicode/utf8.acceptRanges", laid_unicode_utf8_acceptRanges), ("unicode/utf8.first", laid_unicode_utf8_first)], narrowed := true }
def DireTellsUptoSaid : Prop := direTellsUptoRow.holds Tryd.pinned (OpenSpec.upto direTellsSpec)

/-- 'bosketlaw10.DireAgain', WHERE WHAT IT READS IS OF BULK AT MOST 1048576: true; the input reads as it did. -/
def direAgainUptoRow : OpenClaim := { program := "ytckdhidcbkbeoaadoor", sum := "af0848bbb11cec21f42f41f528c99f7c6b0cdae0f51b4c5e355a016deabaa035", func := "bosket/bosketlaw10.DireAgain", spec := "direAgain", inPlace := ["internal/bytealg.IndexByteString", "internal/bytealg.IndexString", "internal/abi.NoEscape", "internal/bytealg.MakeNoZero"], unfollowed := true, recurses := true, named := ["unicode/utf8.first", "unicode/utf8.acceptRanges", "internal/bytealg.MaxLen"], apart := false, laid := [("unicode/utf8.acceptRanges", laid_unicode_utf8_acceptRanges), ("unicode/utf8.first", laid_unicode_utf8_first)], narrowed := true }
def DireAgainUptoSaid : Prop := direAgainUptoRow.holds Tryd.pinned (OpenSpec.upto direAgainSpec)

/-- 'bosketlaw10.DireForms', WHERE WHAT IT READS IS OF BULK AT MOST 1048576: true; the input reads as it did. -/
def direFormsUptoRow : OpenClaim := { program := "ytckdhidcbkbeoaadoor", sum := "af0848bbb11cec21f42f41f528c99f7c6b0cdae0f51b4c5e355a016deabaa035", func := "bosket/bosketlaw10.DireForms", spec := "direForms", inPlace := ["internal/bytealg.IndexByteString", "internal/bytealg.IndexString", "internal/abi.NoEscape", "internal/bytealg.MakeNoZero"], unfollowed := true, recurses := true, named := ["unicode/utf8.first", "unicode/utf8.acceptRanges", "internal/bytealg.MaxLen"], apart := false, laid := [("unicode/utf8.acceptRanges", laid_unicode_utf8_acceptRanges), ("unicode/utf8.first", laid_unicode_utf8_first)], narrowed := true }
def DireFormsUptoSaid : Prop := direFormsUptoRow.holds Tryd.pinned (OpenSpec.upto direFormsSpec)

/-- 'bosketlaw10.DireTwice', WHERE WHAT IT READS IS OF BULK AT MOST 1048576: true; the input reads as it did. -/
def direTwiceUptoRow : OpenClaim := { program := "ytckdhidcbkbeoaadoor", sum := "af0848bbb11cec21f42f41f528c99f7c6b0cdae0f51b4c5e355a016deabaa035", func := "bosket/bosketlaw10.DireTwice", spec := "direTwice", inPlace := ["internal/bytealg.IndexByteString", "internal/bytealg.IndexString", "internal/abi.NoEscape", "internal/bytealg.MakeNoZero"], unfollowed := true, recurses := true, named := ["unicode/utf8.first", "unicode/utf8.acceptRanges", "internal/bytealg.MaxLen"], apart := false, laid := [("unicode/utf8.acceptRanges", laid_unicode_utf8_acceptRanges), ("unicode/utf8.first", laid_unicode_utf8_first)], narrowed := true }
def DireTwiceUptoSaid : Prop := direTwiceUptoRow.holds Tryd.pinned (OpenSpec.upto direTwiceSpec)

end Rows
end Go.Proofs.YtckdhidcbkbeoaaDoor
