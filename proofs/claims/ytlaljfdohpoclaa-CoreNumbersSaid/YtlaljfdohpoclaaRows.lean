/-
  No cell of these rows narrows 'for every input' (looked for: loops, veiled, ifaces, maps, wideKeys, modest, calm, conditions, laid).
  DERIVED. THE GIVEN ROWS OF THIS SEAT. 4 by the template 'for every input the law returns true; each argument reads behind the call as it read before'; 0 by the template 'total and deterministic' (their statements: YtlaljfdohpoclaaTotals.lean).
  GIVEN WITH THE SEED: the statements are not yours to turn. If you find one false, say at which input.
  Laid BY PROGRAM, IN A SANDBOX (cutbox-rows.mjs): the forced cells as the released guide's own fill.sh prints them over the translation 0f4a5665e944455d… (all of the seat's roots in one cut). By AI agents, Wed Nov 11 2026. No macro, syntax, notation, axiom, sorry.
-/
import Derived.Test.YtlaljfdohpoclaaChecked
import GoSem.Claim
import GoSem.ClaimJoined
import GoSem.ClaimMapViews
import Derived.JoinedTies
import Derived.KernelRfl
namespace Go.Proofs.Ytlaljfdohpoclaa
/- THE CELL 'sum', in the pinned program and in every row, IS THE sha256 OF THE DUMP (.gsa) THAT YtlaljfdohpoclaaProg.lean LOADS. Nothing in Lean hashes anything: it is a label: what it is worth is what the hold of that sum in a sandbox is worth. -/
noncomputable def Try.pinned : Pinned := { name := "ytlaljfdohpoclaa", sum := "0f4a5665e944455d4fabd4eb91c6ee4999a1c0630d5ae1ed9fbfc8ae9d2b5c55", checked := Try.checked }
namespace Rows
def none {H : Type} : Left H := { results := [], args := [] }

/-- 'bosketlaw8.CoreTells': WHATEVER THE INPUT: true; the input reads as it did. -/
def coreTellsSpec : ChangeSpec := { name := "coreTells", fn := fun _ => fun
  | [d1, d2] => { results := [.lit (.bool true)], args := [d1, d2] }
  | _ => none }
def coreTellsRow : OpenClaim := { program := "ytlaljfdohpoclaa", sum := "0f4a5665e944455d4fabd4eb91c6ee4999a1c0630d5ae1ed9fbfc8ae9d2b5c55", func := "bosket/bosketlaw8.CoreTells", spec := "coreTells", unfollowed := true, recurses := true, apart := false }
def CoreTellsSaid : Prop := coreTellsRow.holds Try.pinned (OpenSpec.ofChange coreTellsSpec)

/-- ITS FALSE NEIGHBOUR: 'it returns false'. Refute it at one input. -/
def coreTellsWrong : ChangeSpec := { name := "coreTells", fn := fun _ => fun
  | [d1, d2] => { results := [.lit (.bool false)], args := [d1, d2] }
  | _ => none }
def CoreTellsWrongFalsely : Prop := coreTellsRow.holds Try.pinned (OpenSpec.ofChange coreTellsWrong)

/-- 'bosketlaw8.CoreNumbers': WHATEVER THE INPUT: true; the input reads as it did. -/
def coreNumbersSpec : ChangeSpec := { name := "coreNumbers", fn := fun _ => fun
  | [d1, d2, d3, d4] => { results := [.lit (.bool true)], args := [d1, d2, d3, d4] }
  | _ => none }
def coreNumbersRow : OpenClaim := { program := "ytlaljfdohpoclaa", sum := "0f4a5665e944455d4fabd4eb91c6ee4999a1c0630d5ae1ed9fbfc8ae9d2b5c55", func := "bosket/bosketlaw8.CoreNumbers", spec := "coreNumbers", unfollowed := true, recurses := true, apart := false }
def CoreNumbersSaid : Prop := coreNumbersRow.holds Try.pinned (OpenSpec.ofChange coreNumbersSpec)

/-- ITS FALSE NEIGHBOUR: 'it returns false'. Refute it at one input. -/
def coreNumbersWrong : ChangeSpec := { name := "coreNumbers", fn := fun _ => fun
  | [d1, d2, d3, d4] => { results := [.lit (.bool false)], args := [d1, d2, d3, d4] }
  | _ => none }
def CoreNumbersWrongFalsely : Prop := coreNumbersRow.holds Try.pinned (OpenSpec.ofChange coreNumbersWrong)

/-- 'bosketlaw8.CoreBases': WHATEVER THE INPUT: true; the input reads as it did. -/
def coreBasesSpec : ChangeSpec := { name := "coreBases", fn := fun _ => fun
  | [d1, d2] => { results := [.lit (.bool true)], args := [d1, d2] }
  | _ => none }
def coreBasesRow : OpenClaim := { program := "ytlaljfdohpoclaa", sum := "0f4a5665e944455d4fabd4eb91c6ee4999a1c0630d5ae1ed9fbfc8ae9d2b5c55", func := "bosket/bosketlaw8.CoreBases", spec := "coreBases", unfollowed := true, recurses := true, apart := false }
def CoreBasesSaid : Prop := coreBasesRow.holds Try.pinned (OpenSpec.ofChange coreBasesSpec)

/-- ITS FALSE NEIGHBOUR: 'it returns false'. Refute it at one input. -/
def coreBasesWrong : ChangeSpec := { name := "coreBases", fn := fun _ => fun
  | [d1, d2] => { results := [.lit (.bool false)], args := [d1, d2] }
  | _ => none }
def CoreBasesWrongFalsely : Prop := coreBasesRow.holds Try.pinned (OpenSpec.ofChange coreBasesWrong)

/-- 'bosketlaw8.CoreWords': WHATEVER THE INPUT: true; the input reads as it did. -/
def coreWordsSpec : ChangeSpec := { name := "coreWords", fn := fun _ => fun
  | [d] => { results := [.lit (.bool true)], args := [d] }
  | _ => none }
def coreWordsRow : OpenClaim := { program := "ytlaljfdohpoclaa", sum := "0f4a5665e944455d4fabd4eb91c6ee4999a1c0630d5ae1ed9fbfc8ae9d2b5c55", func := "bosket/bosketlaw8.CoreWords", spec := "coreWords", unfollowed := true, recurses := true, apart := false }
def CoreWordsSaid : Prop := coreWordsRow.holds Try.pinned (OpenSpec.ofChange coreWordsSpec)

/-- ITS FALSE NEIGHBOUR: 'it returns false'. Refute it at one input. -/
def coreWordsWrong : ChangeSpec := { name := "coreWords", fn := fun _ => fun
  | [d] => { results := [.lit (.bool false)], args := [d] }
  | _ => none }
def CoreWordsWrongFalsely : Prop := coreWordsRow.holds Try.pinned (OpenSpec.ofChange coreWordsWrong)

/- THE SECOND FORM. 'bulk': how many values and letters a reading holds, each counted each time it is reached (what is shared counts as often as it is met; a slice's spare places count too). A statement '..UptoSaid' is the law's where the arguments, and the package variables that the reading takes, are together of bulk at most 1048576: NARROWER than '..Said'. Prove '..Said' where nothing that the law and all that it calls make is longer than what came in: it says more and counts as full. Else prove '..UptoSaid'. A law counts once. -/
mutual
def uptoBulk {H : Type} : DataW H → Nat
  | .lit (.string bytes) => bytes.length + 1
  | .lit _ => 1
  | .nil => 1
  | .ptr d => uptoBulk d + 1
  | .slice elems spare => uptoBulkAll elems + uptoBulkAll spare + 1
  | .agg parts => uptoBulkAll parts + 1
  | .iface _ d => uptoBulk d + 1
  | .map entries => uptoBulkEntries entries + 1
  | .held _ => 1
def uptoBulkAll {H : Type} : List (DataW H) → Nat
  | [] => 0
  | d :: r => uptoBulk d + uptoBulkAll r
def uptoBulkEntries {H : Type} : List (Lit × DataW H) → Nat
  | [] => 0
  | x :: r => uptoBulkEntry x + uptoBulkEntries r
def uptoBulkEntry {H : Type} : Lit × DataW H → Nat
  | (.string bytes, d) => bytes.length + uptoBulk d + 1
  | (_, d) => uptoBulk d + 1
 end
def uptoSmall : (H : Type) → List (DataW H) → Bool := fun _ ds => decide (uptoBulkAll ds ≤ 1048576)
def OpenSpec.upto (s : _root_.Go.ChangeSpec) : _root_.Go.OpenSpec := { _root_.Go.OpenSpec.ofChange s with cond := some uptoSmall }

/-- 'bosketlaw8.CoreTells', WHERE WHAT IT READS IS OF BULK AT MOST 1048576: true; the input reads as it did. -/
def coreTellsUptoRow : OpenClaim := { program := "ytlaljfdohpoclaa", sum := "0f4a5665e944455d4fabd4eb91c6ee4999a1c0630d5ae1ed9fbfc8ae9d2b5c55", func := "bosket/bosketlaw8.CoreTells", spec := "coreTells", unfollowed := true, recurses := true, apart := false, narrowed := true }
def CoreTellsUptoSaid : Prop := coreTellsUptoRow.holds Try.pinned (OpenSpec.upto coreTellsSpec)

/-- 'bosketlaw8.CoreNumbers', WHERE WHAT IT READS IS OF BULK AT MOST 1048576: true; the input reads as it did. -/
def coreNumbersUptoRow : OpenClaim := { program := "ytlaljfdohpoclaa", sum := "0f4a5665e944455d4fabd4eb91c6ee4999a1c0630d5ae1ed9fbfc8ae9d2b5c55", func := "bosket/bosketlaw8.CoreNumbers", spec := "coreNumbers", unfollowed := true, recurses := true, apart := false, narrowed := true }
def CoreNumbersUptoSaid : Prop := coreNumbersUptoRow.holds Try.pinned (OpenSpec.upto coreNumbersSpec)

/-- 'bosketlaw8.CoreBases', WHERE WHAT IT READS IS OF BULK AT MOST 1048576: true; the input reads as it did. -/
def coreBasesUptoRow : OpenClaim := { program := "ytlaljfdohpoclaa", sum := "0f4a5665e944455d4fabd4eb91c6ee4999a1c0630d5ae1ed9fbfc8ae9d2b5c55", func := "bosket/bosketlaw8.CoreBases", spec := "coreBases", unfollowed := true, recurses := true, apart := false, narrowed := true }
def CoreBasesUptoSaid : Prop := coreBasesUptoRow.holds Try.pinned (OpenSpec.upto coreBasesSpec)

/-- 'bosketlaw8.CoreWords', WHERE WHAT IT READS IS OF BULK AT MOST 1048576: true; the input reads as it did. -/
def coreWordsUptoRow : OpenClaim := { program := "ytlaljfdohpoclaa", sum := "0f4a5665e944455d4fabd4eb91c6ee4999a1c0630d5ae1ed9fbfc8ae9d2b5c55", func := "bosket/bosketlaw8.CoreWords", spec := "coreWords", unfollowed := true, recurses := true, apart := false, narrowed := true }
def CoreWordsUptoSaid : Prop := coreWordsUptoRow.holds Try.pinned (OpenSpec.upto coreWordsSpec)

end Rows
end Go.Proofs.Ytlaljfdohpoclaa
