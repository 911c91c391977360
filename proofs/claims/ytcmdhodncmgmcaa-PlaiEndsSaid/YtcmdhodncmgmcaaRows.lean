/-
  No cell of these rows narrows 'for every input' (looked for: loops, veiled, ifaces, maps, wideKeys, modest, calm, conditions, laid).
  DERIVED. THE GIVEN ROWS OF THIS SEAT. 4 by the template 'for every input the law returns true; each argument reads behind the call as it read before'; 0 by the template 'total and deterministic' (their statements: YtcmdhodncmgmcaaTotals.lean).
  GIVEN WITH THE SEED: the statements are not yours to turn. If you find one false, say at which input.
  Laid BY PROGRAM, IN A SANDBOX (cutbox-rows.mjs): the forced cells as the released guide's own fill.sh prints them over the translation 327abc25415d1bda… (all of the seat's roots in one cut). By AI agents, Wed Nov 11 2026. No macro, syntax, notation, axiom, sorry.
-/
import Derived.Test.YtcmdhodncmgmcaaChecked
import GoSem.Claim
import GoSem.ClaimJoined
import GoSem.ClaimMapViews
import Derived.JoinedTies
import Derived.KernelRfl
namespace Go.Proofs.Ytcmdhodncmgmcaa
/- THE CELL 'sum', in the pinned program and in every row, IS THE sha256 OF THE DUMP (.gsa) THAT YtcmdhodncmgmcaaProg.lean LOADS. Nothing in Lean hashes anything: it is a label: what it is worth is what the hold of that sum in a sandbox is worth. -/
noncomputable def Try.pinned : Pinned := { name := "ytcmdhodncmgmcaa", sum := "327abc25415d1bda74b95aedd8b8c7dc2d0fcf7aaee219181bfe1ecbe469e039", checked := Try.checked }
namespace Rows
def none {H : Type} : Left H := { results := [], args := [] }

/-- 'bosketlaw11.PlaiMade': WHATEVER THE INPUT: true; the input reads as it did. -/
def plaiMadeSpec : ChangeSpec := { name := "plaiMade", fn := fun _ => fun
  | [d1, d2, d3] => { results := [.lit (.bool true)], args := [d1, d2, d3] }
  | _ => none }
def plaiMadeRow : OpenClaim := { program := "ytcmdhodncmgmcaa", sum := "327abc25415d1bda74b95aedd8b8c7dc2d0fcf7aaee219181bfe1ecbe469e039", func := "bosket/bosketlaw11.PlaiMade", spec := "plaiMade", inPlace := ["internal/bytealg.IndexByteString", "internal/abi.NoEscape"], apart := false }
def PlaiMadeSaid : Prop := plaiMadeRow.holds Try.pinned (OpenSpec.ofChange plaiMadeSpec)

/-- ITS FALSE NEIGHBOUR: 'it returns false'. Refute it at one input. -/
def plaiMadeWrong : ChangeSpec := { name := "plaiMade", fn := fun _ => fun
  | [d1, d2, d3] => { results := [.lit (.bool false)], args := [d1, d2, d3] }
  | _ => none }
def PlaiMadeWrongFalsely : Prop := plaiMadeRow.holds Try.pinned (OpenSpec.ofChange plaiMadeWrong)

/-- 'bosketlaw11.PlaiWords': WHATEVER THE INPUT: true; the input reads as it did. -/
def plaiWordsSpec : ChangeSpec := { name := "plaiWords", fn := fun _ => fun
  | [d1, d2, d3, d4] => { results := [.lit (.bool true)], args := [d1, d2, d3, d4] }
  | _ => none }
def plaiWordsRow : OpenClaim := { program := "ytcmdhodncmgmcaa", sum := "327abc25415d1bda74b95aedd8b8c7dc2d0fcf7aaee219181bfe1ecbe469e039", func := "bosket/bosketlaw11.PlaiWords", spec := "plaiWords", inPlace := ["internal/bytealg.IndexByteString", "internal/abi.NoEscape"], apart := false }
def PlaiWordsSaid : Prop := plaiWordsRow.holds Try.pinned (OpenSpec.ofChange plaiWordsSpec)

/-- ITS FALSE NEIGHBOUR: 'it returns false'. Refute it at one input. -/
def plaiWordsWrong : ChangeSpec := { name := "plaiWords", fn := fun _ => fun
  | [d1, d2, d3, d4] => { results := [.lit (.bool false)], args := [d1, d2, d3, d4] }
  | _ => none }
def PlaiWordsWrongFalsely : Prop := plaiWordsRow.holds Try.pinned (OpenSpec.ofChange plaiWordsWrong)

/-- 'bosketlaw11.PlaiEnds': WHATEVER THE INPUT: true; the input reads as it did. -/
def plaiEndsSpec : ChangeSpec := { name := "plaiEnds", fn := fun _ => fun
  | [d1, d2, d3, d4] => { results := [.lit (.bool true)], args := [d1, d2, d3, d4] }
  | _ => none }
def plaiEndsRow : OpenClaim := { program := "ytcmdhodncmgmcaa", sum := "327abc25415d1bda74b95aedd8b8c7dc2d0fcf7aaee219181bfe1ecbe469e039", func := "bosket/bosketlaw11.PlaiEnds", spec := "plaiEnds", inPlace := ["internal/bytealg.IndexByteString", "internal/abi.NoEscape"], apart := false }
def PlaiEndsSaid : Prop := plaiEndsRow.holds Try.pinned (OpenSpec.ofChange plaiEndsSpec)

/-- ITS FALSE NEIGHBOUR: 'it returns false'. Refute it at one input. -/
def plaiEndsWrong : ChangeSpec := { name := "plaiEnds", fn := fun _ => fun
  | [d1, d2, d3, d4] => { results := [.lit (.bool false)], args := [d1, d2, d3, d4] }
  | _ => none }
def PlaiEndsWrongFalsely : Prop := plaiEndsRow.holds Try.pinned (OpenSpec.ofChange plaiEndsWrong)

/-- 'bosketlaw11.PlaiSigns': WHATEVER THE INPUT: true; the input reads as it did. -/
def plaiSignsSpec : ChangeSpec := { name := "plaiSigns", fn := fun _ => fun
  | [d1, d2] => { results := [.lit (.bool true)], args := [d1, d2] }
  | _ => none }
def plaiSignsRow : OpenClaim := { program := "ytcmdhodncmgmcaa", sum := "327abc25415d1bda74b95aedd8b8c7dc2d0fcf7aaee219181bfe1ecbe469e039", func := "bosket/bosketlaw11.PlaiSigns", spec := "plaiSigns", inPlace := ["internal/bytealg.IndexByteString", "internal/abi.NoEscape"], apart := false }
def PlaiSignsSaid : Prop := plaiSignsRow.holds Try.pinned (OpenSpec.ofChange plaiSignsSpec)

/-- ITS FALSE NEIGHBOUR: 'it returns false'. Refute it at one input. -/
def plaiSignsWrong : ChangeSpec := { name := "plaiSigns", fn := fun _ => fun
  | [d1, d2] => { results := [.lit (.bool false)], args := [d1, d2] }
  | _ => none }
def PlaiSignsWrongFalsely : Prop := plaiSignsRow.holds Try.pinned (OpenSpec.ofChange plaiSignsWrong)

/- THE SECOND FORM. 'bulk': how many values and letters a reading holds, each counted each time it is reached (what is shared counts as often as it is met; a slice's spare places count too). A statement '..UptoSaid' is the law's where the arguments, and the package variables that the reading takes, are together of bulk at most 1048576: NARROWER than '..Said'. Prove '..Said' where nothing that the law and all that it calls make is longer than what came in: it says more and counts as full. Else prove '..UptoSaid'. A law counts once. -/
mutual
def uptoBulk {H : Type} : DataW H → Nat
  | .lit (.string bytes) => bytes.length + 1
  | .lit _ => 1
  | .nil => 1
  | .ptr d => uptoBulk d + 1
  | .slice elems spare => uptoBulkAll elems + uptoBulkAll spare + 1
  | .agg parts => uptoBulkAll parts + 1
  | .iface _ d => uptoBulk d + 1
  | .map entries => uptoBulkEntries entries + 1
  | .held _ => 1
def uptoBulkAll {H : Type} : List (DataW H) → Nat
  | [] => 0
  | d :: r => uptoBulk d + uptoBulkAll r
def uptoBulkEntries {H : Type} : List (Lit × DataW H) → Nat
  | [] => 0
  | x :: r => uptoBulkEntry x + uptoBulkEntries r
def uptoBulkEntry {H : Type} : Lit × DataW H → Nat
  | (.string bytes, d) => bytes.length + uptoBulk d + 1
  | (_, d) => uptoBulk d + 1
 end
def uptoSmall : (H : Type) → List (DataW H) → Bool := fun _ ds => decide (uptoBulkAll ds ≤ 1048576)
def OpenSpec.upto (s : _root_.Go.ChangeSpec) : _root_.Go.OpenSpec := { _root_.Go.OpenSpec.ofChange s with cond := some uptoSmall }

/-- 'bosketlaw11.PlaiMade', WHERE WHAT IT READS IS OF BULK AT MOST 1048576: true; the input reads as it did. -/
def plaiMadeUptoRow : OpenClaim := { program := "ytcmdhodncmgmcaa", sum := "327abc25415d1bda74b95aedd8b8c7dc2d0fcf7aaee219181bfe1ecbe469e039", func := "bosket/bosketlaw11.PlaiMade", spec := "plaiMade", inPlace := ["internal/bytealg.IndexByteString", "internal/abi.NoEscape"], apart := false, narrowed := true }
def PlaiMadeUptoSaid : Prop := plaiMadeUptoRow.holds Try.pinned (OpenSpec.upto plaiMadeSpec)

/-- 'bosketlaw11.PlaiWords', WHERE WHAT IT READS IS OF BULK AT MOST 1048576: true; the input reads as it did. -/
def plaiWordsUptoRow : OpenClaim := { program := "ytcmdhodncmgmcaa", sum := "327abc25415d1bda74b95aedd8b8c7dc2d0fcf7aaee219181bfe1ecbe469e039", func := "bosket/bosketlaw11.PlaiWords", spec := "plaiWords", inPlace := ["internal/bytealg.IndexByteString", "internal/abi.NoEscape"], apart := false, narrowed := true }
def PlaiWordsUptoSaid : Prop := plaiWordsUptoRow.holds Try.pinned (OpenSpec.upto plaiWordsSpec)

/-- 'bosketlaw11.PlaiEnds', WHERE WHAT IT READS IS OF BULK AT MOST 1048576: true; the input reads as it did. -/
def plaiEndsUptoRow : OpenClaim := { program := "ytcmdhodncmgmcaa", sum := "327abc25415d1bda74b95aedd8b8c7dc2d0fcf7aaee219181bfe1ecbe469e039", func := "bosket/bosketlaw11.PlaiEnds", spec := "plaiEnds", inPlace := ["internal/bytealg.IndexByteString", "internal/abi.NoEscape"], apart := false, narrowed := true }
def PlaiEndsUptoSaid : Prop := plaiEndsUptoRow.holds Try.pinned (OpenSpec.upto plaiEndsSpec)

/-- 'bosketlaw11.PlaiSigns', WHERE WHAT IT READS IS OF BULK AT MOST 1048576: true; the input reads as it did. -/
def plaiSignsUptoRow : OpenClaim := { program := "ytcmdhodncmgmcaa", sum := "327abc25415d1bda74b95aedd8b8c7dc2d0fcf7aaee219181bfe1ecbe469e039", func := "bosket/bosketlaw11.PlaiSigns", spec := "plaiSigns", inPlace := ["internal/bytealg.IndexByteString", "internal/abi.NoEscape"], apart := false, narrowed := true }
def PlaiSignsUptoSaid : Prop := plaiSignsUptoRow.holds Try.pinned (OpenSpec.upto plaiSignsSpec)

end Rows
end Go.Proofs.Ytcmdhodncmgmcaa
