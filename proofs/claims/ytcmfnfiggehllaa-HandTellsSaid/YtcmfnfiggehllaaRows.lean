/-
  No cell of these rows narrows 'for every input' (looked for: loops, veiled, ifaces, maps, wideKeys, modest, calm, conditions, laid).
  DERIVED. THE GIVEN ROWS OF THIS SEAT. 4 by the template 'for every input the law returns true; each argument reads behind the call as it read before'; 0 by the template 'total and deterministic' (their statements: YtcmfnfiggehllaaTotals.lean).
  GIVEN WITH THE SEED: the statements are not yours to turn. If you find one false, say at which input.
  Laid BY PROGRAM, IN A SANDBOX (cutbox-rows.mjs): the forced cells as the released guide's own fill.sh prints them over the translation 7b5599d9fcd0eb5a… (all of the seat's roots in one cut). By AI agents, Wed Nov 11 2026. No macro, syntax, notation, axiom, sorry.
-/
import Derived.Test.YtcmfnfiggehllaaChecked
import GoSem.Claim
import GoSem.ClaimJoined
import GoSem.ClaimMapViews
import Derived.JoinedTies
import Derived.KernelRfl
namespace Go.Proofs.Ytcmfnfiggehllaa
/- THE CELL 'sum', in the pinned program and in every row, IS THE sha256 OF THE DUMP (.gsa) THAT YtcmfnfiggehllaaProg.lean LOADS. Nothing in Lean hashes anything: it is a label: what it is worth is what the hold of that sum in a sandbox is worth. -/
noncomputable def Try.pinned : Pinned := { name := "ytcmfnfiggehllaa", sum := "7b5599d9fcd0eb5ae3cf26cdc10f7569fdbbdd0b46de6151a619f0979a646314", checked := Try.checked }
namespace Rows
def none {H : Type} : Left H := { results := [], args := [] }

/-- 'bosketlaw9.HandTells': WHATEVER THE INPUT: true; the input reads as it did. -/
def handTellsSpec : ChangeSpec := { name := "handTells", fn := fun _ => fun
  | [d1, d2, d3, d4] => { results := [.lit (.bool true)], args := [d1, d2, d3, d4] }
  | _ => none }
def handTellsRow : OpenClaim := { program := "ytcmfnfiggehllaa", sum := "7b5599d9fcd0eb5ae3cf26cdc10f7569fdbbdd0b46de6151a619f0979a646314", func := "bosket/bosketlaw9.HandTells", spec := "handTells", unfollowed := true, recurses := true, apart := false }
def HandTellsSaid : Prop := handTellsRow.holds Try.pinned (OpenSpec.ofChange handTellsSpec)

/-- ITS FALSE NEIGHBOUR: 'it returns false'. Refute it at one input. -/
def handTellsWrong : ChangeSpec := { name := "handTells", fn := fun _ => fun
  | [d1, d2, d3, d4] => { results := [.lit (.bool false)], args := [d1, d2, d3, d4] }
  | _ => none }
def HandTellsWrongFalsely : Prop := handTellsRow.holds Try.pinned (OpenSpec.ofChange handTellsWrong)

/-- 'bosketlaw9.HandWhole': WHATEVER THE INPUT: true; the input reads as it did. -/
def handWholeSpec : ChangeSpec := { name := "handWhole", fn := fun _ => fun
  | [d] => { results := [.lit (.bool true)], args := [d] }
  | _ => none }
def handWholeRow : OpenClaim := { program := "ytcmfnfiggehllaa", sum := "7b5599d9fcd0eb5ae3cf26cdc10f7569fdbbdd0b46de6151a619f0979a646314", func := "bosket/bosketlaw9.HandWhole", spec := "handWhole", unfollowed := true, recurses := true, apart := false }
def HandWholeSaid : Prop := handWholeRow.holds Try.pinned (OpenSpec.ofChange handWholeSpec)

/-- ITS FALSE NEIGHBOUR: 'it returns false'. Refute it at one input. -/
def handWholeWrong : ChangeSpec := { name := "handWhole", fn := fun _ => fun
  | [d] => { results := [.lit (.bool false)], args := [d] }
  | _ => none }
def HandWholeWrongFalsely : Prop := handWholeRow.holds Try.pinned (OpenSpec.ofChange handWholeWrong)

/-- 'bosketlaw9.HandPrefix': WHATEVER THE INPUT: true; the input reads as it did. -/
def handPrefixSpec : ChangeSpec := { name := "handPrefix", fn := fun _ => fun
  | [d1, d2, d3] => { results := [.lit (.bool true)], args := [d1, d2, d3] }
  | _ => none }
def handPrefixRow : OpenClaim := { program := "ytcmfnfiggehllaa", sum := "7b5599d9fcd0eb5ae3cf26cdc10f7569fdbbdd0b46de6151a619f0979a646314", func := "bosket/bosketlaw9.HandPrefix", spec := "handPrefix", unfollowed := true, recurses := true, apart := false }
def HandPrefixSaid : Prop := handPrefixRow.holds Try.pinned (OpenSpec.ofChange handPrefixSpec)

/-- ITS FALSE NEIGHBOUR: 'it returns false'. Refute it at one input. -/
def handPrefixWrong : ChangeSpec := { name := "handPrefix", fn := fun _ => fun
  | [d1, d2, d3] => { results := [.lit (.bool false)], args := [d1, d2, d3] }
  | _ => none }
def HandPrefixWrongFalsely : Prop := handPrefixRow.holds Try.pinned (OpenSpec.ofChange handPrefixWrong)

/-- 'bosketlaw9.HandBytes': WHATEVER THE INPUT: true; the input reads as it did. -/
def handBytesSpec : ChangeSpec := { name := "handBytes", fn := fun _ => fun
  | [d1, d2] => { results := [.lit (.bool true)], args := [d1, d2] }
  | _ => none }
def handBytesRow : OpenClaim := { program := "ytcmfnfiggehllaa", sum := "7b5599d9fcd0eb5ae3cf26cdc10f7569fdbbdd0b46de6151a619f0979a646314", func := "bosket/bosketlaw9.HandBytes", spec := "handBytes", unfollowed := true, recurses := true, apart := false }
def HandBytesSaid : Prop := handBytesRow.holds Try.pinned (OpenSpec.ofChange handBytesSpec)

/-- ITS FALSE NEIGHBOUR: 'it returns false'. Refute it at one input. -/
def handBytesWrong : ChangeSpec := { name := "handBytes", fn := fun _ => fun
  | [d1, d2] => { results := [.lit (.bool false)], args := [d1, d2] }
  | _ => none }
def HandBytesWrongFalsely : Prop := handBytesRow.holds Try.pinned (OpenSpec.ofChange handBytesWrong)

/- THE SECOND FORM. 'bulk': how many values and letters a reading holds, each counted each time it is reached (what is shared counts as often as it is met; a slice's spare places count too). A statement '..UptoSaid' is the law's where the arguments, and the package variables that the reading takes, are together of bulk at most 1048576: NARROWER than '..Said'. Prove '..Said' where nothing that the law and all that it calls make is longer than what came in: it says more and counts as full. Else prove '..UptoSaid'. A law counts once. -/
mutual
def uptoBulk {H : Type} : DataW H → Nat
  | .lit (.string bytes) => bytes.length + 1
  | .lit _ => 1
  | .nil => 1
  | .ptr d => uptoBulk d + 1
  | .slice elems spare => uptoBulkAll elems + uptoBulkAll spare + 1
  | .agg parts => uptoBulkAll parts + 1
  | .iface _ d => uptoBulk d + 1
  | .map entries => uptoBulkEntries entries + 1
  | .held _ => 1
def uptoBulkAll {H : Type} : List (DataW H) → Nat
  | [] => 0
  | d :: r => uptoBulk d + uptoBulkAll r
def uptoBulkEntries {H : Type} : List (Lit × DataW H) → Nat
  | [] => 0
  | x :: r => uptoBulkEntry x + uptoBulkEntries r
def uptoBulkEntry {H : Type} : Lit × DataW H → Nat
  | (.string bytes, d) => bytes.length + uptoBulk d + 1
  | (_, d) => uptoBulk d + 1
 end
def uptoSmall : (H : Type) → List (DataW H) → Bool := fun _ ds => decide (uptoBulkAll ds ≤ 1048576)
def OpenSpec.upto (s : _root_.Go.ChangeSpec) : _root_.Go.OpenSpec := { _root_.Go.OpenSpec.ofChange s with cond := some uptoSmall }

/-- 'bosketlaw9.HandTells', WHERE WHAT IT READS IS OF BULK AT MOST 1048576: true; the input reads as it did. -/
def handTellsUptoRow : OpenClaim := { program := "ytcmfnfiggehllaa", sum := "7b5599d9fcd0eb5ae3cf26cdc10f7569fdbbdd0b46de6151a619f0979a646314", func := "bosket/bosketlaw9.HandTells", spec := "handTells", unfollowed := true, recurses := true, apart := false, narrowed := true }
def HandTellsUptoSaid : Prop := handTellsUptoRow.holds Try.pinned (OpenSpec.upto handTellsSpec)

/-- 'bosketlaw9.HandWhole', WHERE WHAT IT READS IS OF BULK AT MOST 1048576: true; the input reads as it did. -/
def handWholeUptoRow : OpenClaim := { program := "ytcmfnfiggehllaa", sum := "7b5599d9fcd0eb5ae3cf26cdc10f7569fdbbdd0b46de6151a619f0979a646314", func := "bosket/bosketlaw9.HandWhole", spec := "handWhole", unfollowed := true, recurses := true, apart := false, narrowed := true }
def HandWholeUptoSaid : Prop := handWholeUptoRow.holds Try.pinned (OpenSpec.upto handWholeSpec)

/-- 'bosketlaw9.HandPrefix', WHERE WHAT IT READS IS OF BULK AT MOST 1048576: true; the input reads as it did. -/
def handPrefixUptoRow : OpenClaim := { program := "ytcmfnfiggehllaa", sum := "7b5599d9fcd0eb5ae3cf26cdc10f7569fdbbdd0b46de6151a619f0979a646314", func := "bosket/bosketlaw9.HandPrefix", spec := "handPrefix", unfollowed := true, recurses := true, apart := false, narrowed := true }
def HandPrefixUptoSaid : Prop := handPrefixUptoRow.holds Try.pinned (OpenSpec.upto handPrefixSpec)

/-- 'bosketlaw9.HandBytes', WHERE WHAT IT READS IS OF BULK AT MOST 1048576: true; the input reads as it did. -/
def handBytesUptoRow : OpenClaim := { program := "ytcmfnfiggehllaa", sum := "7b5599d9fcd0eb5ae3cf26cdc10f7569fdbbdd0b46de6151a619f0979a646314", func := "bosket/bosketlaw9.HandBytes", spec := "handBytes", unfollowed := true, recurses := true, apart := false, narrowed := true }
def HandBytesUptoSaid : Prop := handBytesUptoRow.holds Try.pinned (OpenSpec.upto handBytesSpec)

end Rows
end Go.Proofs.Ytcmfnfiggehllaa
