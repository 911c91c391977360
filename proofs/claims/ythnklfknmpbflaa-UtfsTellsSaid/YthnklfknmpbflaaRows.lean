/-
  No cell of these rows narrows 'for every input' (looked for: loops, veiled, ifaces, maps, wideKeys, modest, calm, conditions, laid).
  DERIVED. THE GIVEN ROWS OF THIS SEAT. 5 by the template 'for every input the law returns true; each argument reads behind the call as it read before'; 0 by the template 'total and deterministic' (their statements: YthnklfknmpbflaaTotals.lean).
  GIVEN WITH THE SEED: the statements are not yours to turn. If you find one false, say at which input.
  Laid BY PROGRAM, IN A SANDBOX (cutbox-rows.mjs): the forced cells as the released guide's own fill.sh prints them over the translation 2fc4635848855064… (all of the seat's roots in one cut). By AI agents, Wed Nov 11 2026. No macro, syntax, notation, axiom, sorry.
-/
import Derived.Test.YthnklfknmpbflaaChecked
import GoSem.Claim
import GoSem.ClaimJoined
import GoSem.ClaimMapViews
import Derived.JoinedTies
import Derived.KernelRfl
namespace Go.Proofs.Ythnklfknmpbflaa
/- THE CELL 'sum', in the pinned program and in every row, IS THE sha256 OF THE DUMP (.gsa) THAT YthnklfknmpbflaaProg.lean LOADS. Nothing in Lean hashes anything: it is a label: what it is worth is what the hold of that sum in a sandbox is worth. -/
noncomputable def Try.pinned : Pinned := { name := "ythnklfknmpbflaa", sum := "2fc4635848855064f5ba95d8fb396654791857e5b62471a0cd94bd595d1649a9", checked := Try.checked }
namespace Rows
def none {H : Type} : Left H := { results := [], args := [] }

/-- 'bosketlaw1.UtfsTells': WHATEVER THE INPUT: true; the input reads as it did. -/
def utfsTellsSpec : ChangeSpec := { name := "utfsTells", fn := fun _ => fun
  | [d] => { results := [.lit (.bool true)], args := [d] }
  | _ => none }
def utfsTellsRow : OpenClaim := { program := "ythnklfknmpbflaa", sum := "2fc4635848855064f5ba95d8fb396654791857e5b62471a0cd94bd595d1649a9", func := "bosket/bosketlaw1.UtfsTells", spec := "utfsTells", apart := false }
def UtfsTellsSaid : Prop := utfsTellsRow.holds Try.pinned (OpenSpec.ofChange utfsTellsSpec)

/-- ITS FALSE NEIGHBOUR: 'it returns false'. Refute it at one input. -/
def utfsTellsWrong : ChangeSpec := { name := "utfsTells", fn := fun _ => fun
  | [d] => { results := [.lit (.bool false)], args := [d] }
  | _ => none }
def UtfsTellsWrongFalsely : Prop := utfsTellsRow.holds Try.pinned (OpenSpec.ofChange utfsTellsWrong)

/-- 'bosketlaw1.UtfsBack': WHATEVER THE INPUT: true; the input reads as it did. -/
def utfsBackSpec : ChangeSpec := { name := "utfsBack", fn := fun _ => fun
  | [d] => { results := [.lit (.bool true)], args := [d] }
  | _ => none }
def utfsBackRow : OpenClaim := { program := "ythnklfknmpbflaa", sum := "2fc4635848855064f5ba95d8fb396654791857e5b62471a0cd94bd595d1649a9", func := "bosket/bosketlaw1.UtfsBack", spec := "utfsBack", apart := false }
def UtfsBackSaid : Prop := utfsBackRow.holds Try.pinned (OpenSpec.ofChange utfsBackSpec)

/-- ITS FALSE NEIGHBOUR: 'it returns false'. Refute it at one input. -/
def utfsBackWrong : ChangeSpec := { name := "utfsBack", fn := fun _ => fun
  | [d] => { results := [.lit (.bool false)], args := [d] }
  | _ => none }
def UtfsBackWrongFalsely : Prop := utfsBackRow.holds Try.pinned (OpenSpec.ofChange utfsBackWrong)

/-- 'bosketlaw1.UtfsWhole': WHATEVER THE INPUT: true; the input reads as it did. -/
def utfsWholeSpec : ChangeSpec := { name := "utfsWhole", fn := fun _ => fun
  | [d] => { results := [.lit (.bool true)], args := [d] }
  | _ => none }
def utfsWholeRow : OpenClaim := { program := "ythnklfknmpbflaa", sum := "2fc4635848855064f5ba95d8fb396654791857e5b62471a0cd94bd595d1649a9", func := "bosket/bosketlaw1.UtfsWhole", spec := "utfsWhole", apart := false }
def UtfsWholeSaid : Prop := utfsWholeRow.holds Try.pinned (OpenSpec.ofChange utfsWholeSpec)

/-- ITS FALSE NEIGHBOUR: 'it returns false'. Refute it at one input. -/
def utfsWholeWrong : ChangeSpec := { name := "utfsWhole", fn := fun _ => fun
  | [d] => { results := [.lit (.bool false)], args := [d] }
  | _ => none }
def UtfsWholeWrongFalsely : Prop := utfsWholeRow.holds Try.pinned (OpenSpec.ofChange utfsWholeWrong)

/-- 'bosketlaw1.UtfsJoins': WHATEVER THE INPUT: true; the input reads as it did. -/
def utfsJoinsSpec : ChangeSpec := { name := "utfsJoins", fn := fun _ => fun
  | [d1, d2] => { results := [.lit (.bool true)], args := [d1, d2] }
  | _ => none }
def utfsJoinsRow : OpenClaim := { program := "ythnklfknmpbflaa", sum := "2fc4635848855064f5ba95d8fb396654791857e5b62471a0cd94bd595d1649a9", func := "bosket/bosketlaw1.UtfsJoins", spec := "utfsJoins", apart := false }
def UtfsJoinsSaid : Prop := utfsJoinsRow.holds Try.pinned (OpenSpec.ofChange utfsJoinsSpec)

/-- ITS FALSE NEIGHBOUR: 'it returns false'. Refute it at one input. -/
def utfsJoinsWrong : ChangeSpec := { name := "utfsJoins", fn := fun _ => fun
  | [d1, d2] => { results := [.lit (.bool false)], args := [d1, d2] }
  | _ => none }
def UtfsJoinsWrongFalsely : Prop := utfsJoinsRow.holds Try.pinned (OpenSpec.ofChange utfsJoinsWrong)

/-- 'bosketlaw1.UtfsCut': WHATEVER THE INPUT: true; the input reads as it did. -/
def utfsCutSpec : ChangeSpec := { name := "utfsCut", fn := fun _ => fun
  | [d1, d2] => { results := [.lit (.bool true)], args := [d1, d2] }
  | _ => none }
def utfsCutRow : OpenClaim := { program := "ythnklfknmpbflaa", sum := "2fc4635848855064f5ba95d8fb396654791857e5b62471a0cd94bd595d1649a9", func := "bosket/bosketlaw1.UtfsCut", spec := "utfsCut", apart := false }
def UtfsCutSaid : Prop := utfsCutRow.holds Try.pinned (OpenSpec.ofChange utfsCutSpec)

/-- ITS FALSE NEIGHBOUR: 'it returns false'. Refute it at one input. -/
def utfsCutWrong : ChangeSpec := { name := "utfsCut", fn := fun _ => fun
  | [d1, d2] => { results := [.lit (.bool false)], args := [d1, d2] }
  | _ => none }
def UtfsCutWrongFalsely : Prop := utfsCutRow.holds Try.pinned (OpenSpec.ofChange utfsCutWrong)

/- THE SECOND FORM. 'bulk': how many values and letters a reading holds, each counted each time it is reached (what is shared counts as often as it is met; a slice's spare places count too). A statement '..UptoSaid' is the law's where the arguments, and the package variables that the reading takes, are together of bulk at most 1048576: NARROWER than '..Said'. Prove '..Said' where nothing that the law and all that it calls make is longer than what came in: it says more and counts as full. Else prove '..UptoSaid'. A law counts once. -/
mutual
def uptoBulk {H : Type} : DataW H → Nat
  | .lit (.string bytes) => bytes.length + 1
  | .lit _ => 1
  | .nil => 1
  | .ptr d => uptoBulk d + 1
  | .slice elems spare => uptoBulkAll elems + uptoBulkAll spare + 1
  | .agg parts => uptoBulkAll parts + 1
  | .iface _ d => uptoBulk d + 1
  | .map entries => uptoBulkEntries entries + 1
  | .held _ => 1
def uptoBulkAll {H : Type} : List (DataW H) → Nat
  | [] => 0
  | d :: r => uptoBulk d + uptoBulkAll r
def uptoBulkEntries {H : Type} : List (Lit × DataW H) → Nat
  | [] => 0
  | x :: r => uptoBulkEntry x + uptoBulkEntries r
def uptoBulkEntry {H : Type} : Lit × DataW H → Nat
  | (.string bytes, d) => bytes.length + uptoBulk d + 1
  | (_, d) => uptoBulk d + 1
 end
def uptoSmall : (H : Type) → List (DataW H) → Bool := fun _ ds => decide (uptoBulkAll ds ≤ 1048576)
def OpenSpec.upto (s : _root_.Go.ChangeSpec) : _root_.Go.OpenSpec := { _root_.Go.OpenSpec.ofChange s with cond := some uptoSmall }

/-- 'bosketlaw1.UtfsTells', WHERE WHAT IT READS IS OF BULK AT MOST 1048576: true; the input reads as it did. -/
def utfsTellsUptoRow : OpenClaim := { program := "ythnklfknmpbflaa", sum := "2fc4635848855064f5ba95d8fb396654791857e5b62471a0cd94bd595d1649a9", func := "bosket/bosketlaw1.UtfsTells", spec := "utfsTells", apart := false, narrowed := true }
def UtfsTellsUptoSaid : Prop := utfsTellsUptoRow.holds Try.pinned (OpenSpec.upto utfsTellsSpec)

/-- 'bosketlaw1.UtfsBack', WHERE WHAT IT READS IS OF BULK AT MOST 1048576: true; the input reads as it did. -/
def utfsBackUptoRow : OpenClaim := { program := "ythnklfknmpbflaa", sum := "2fc4635848855064f5ba95d8fb396654791857e5b62471a0cd94bd595d1649a9", func := "bosket/bosketlaw1.UtfsBack", spec := "utfsBack", apart := false, narrowed := true }
def UtfsBackUptoSaid : Prop := utfsBackUptoRow.holds Try.pinned (OpenSpec.upto utfsBackSpec)

/-- 'bosketlaw1.UtfsWhole', WHERE WHAT IT READS IS OF BULK AT MOST 1048576: true; the input reads as it did. -/
def utfsWholeUptoRow : OpenClaim := { program := "ythnklfknmpbflaa", sum := "2fc4635848855064f5ba95d8fb396654791857e5b62471a0cd94bd595d1649a9", func := "bosket/bosketlaw1.UtfsWhole", spec := "utfsWhole", apart := false, narrowed := true }
def UtfsWholeUptoSaid : Prop := utfsWholeUptoRow.holds Try.pinned (OpenSpec.upto utfsWholeSpec)

/-- 'bosketlaw1.UtfsJoins', WHERE WHAT IT READS IS OF BULK AT MOST 1048576: true; the input reads as it did. -/
def utfsJoinsUptoRow : OpenClaim := { program := "ythnklfknmpbflaa", sum := "2fc4635848855064f5ba95d8fb396654791857e5b62471a0cd94bd595d1649a9", func := "bosket/bosketlaw1.UtfsJoins", spec := "utfsJoins", apart := false, narrowed := true }
def UtfsJoinsUptoSaid : Prop := utfsJoinsUptoRow.holds Try.pinned (OpenSpec.upto utfsJoinsSpec)

/-- 'bosketlaw1.UtfsCut', WHERE WHAT IT READS IS OF BULK AT MOST 1048576: true; the input reads as it did. -/
def utfsCutUptoRow : OpenClaim := { program := "ythnklfknmpbflaa", sum := "2fc4635848855064f5ba95d8fb396654791857e5b62471a0cd94bd595d1649a9", func := "bosket/bosketlaw1.UtfsCut", spec := "utfsCut", apart := false, narrowed := true }
def UtfsCutUptoSaid : Prop := utfsCutUptoRow.holds Try.pinned (OpenSpec.upto utfsCutSpec)

end Rows
end Go.Proofs.Ythnklfknmpbflaa
