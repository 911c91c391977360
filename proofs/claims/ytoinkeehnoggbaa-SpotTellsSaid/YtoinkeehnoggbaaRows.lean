/-
  No cell of these rows narrows 'for every input' (looked for: loops, veiled, ifaces, maps, wideKeys, modest, calm, conditions, laid).
  DERIVED. THE GIVEN ROWS OF THIS SEAT. 4 by the template 'for every input the law returns true; each argument reads behind the call as it read before'; 0 by the template 'total and deterministic' (their statements: YtoinkeehnoggbaaTotals.lean).
  GIVEN WITH THE SEED: the statements are not yours to turn. If you find one false, say at which input.
  Laid BY PROGRAM, IN A SANDBOX (cutbox-rows.mjs): the forced cells as the released guide's own fill.sh prints them over the translation 8eb1cb048caad8ef… (all of the seat's roots in one cut). By AI agents, Wed Nov 11 2026. No macro, syntax, notation, axiom, sorry.
-/
import Derived.Test.YtoinkeehnoggbaaChecked
import GoSem.Claim
import GoSem.ClaimJoined
import GoSem.ClaimMapViews
import Derived.JoinedTies
import Derived.KernelRfl
namespace Go.Proofs.Ytoinkeehnoggbaa
/- THE CELL 'sum', in the pinned program and in every row, IS THE sha256 OF THE DUMP (.gsa) THAT YtoinkeehnoggbaaProg.lean LOADS. Nothing in Lean hashes anything: it is a label: what it is worth is what the hold of that sum in a sandbox is worth. -/
noncomputable def Try.pinned : Pinned := { name := "ytoinkeehnoggbaa", sum := "8eb1cb048caad8ef5729b1221a8a1dab9d7152d0084992d36d9cb4dd6dc91f3a", checked := Try.checked }
namespace Rows
def none {H : Type} : Left H := { results := [], args := [] }

/-- 'bosketlaw3.SpotTells': WHATEVER THE INPUT: true; the input reads as it did. -/
def spotTellsSpec : ChangeSpec := { name := "spotTells", fn := fun _ => fun
  | [d1, d2, d3, d4] => { results := [.lit (.bool true)], args := [d1, d2, d3, d4] }
  | _ => none }
def spotTellsRow : OpenClaim := { program := "ytoinkeehnoggbaa", sum := "8eb1cb048caad8ef5729b1221a8a1dab9d7152d0084992d36d9cb4dd6dc91f3a", func := "bosket/bosketlaw3.SpotTells", spec := "spotTells", inPlace := ["internal/bytealg.CountString", "internal/bytealg.IndexByteString", "internal/bytealg.IndexString"], named := ["internal/bytealg.MaxLen"], apart := false }
def SpotTellsSaid : Prop := spotTellsRow.holds Try.pinned (OpenSpec.ofChange spotTellsSpec)

/-- ITS FALSE NEIGHBOUR: 'it returns false'. Refute it at one input. -/
def spotTellsWrong : ChangeSpec := { name := "spotTells", fn := fun _ => fun
  | [d1, d2, d3, d4] => { results := [.lit (.bool false)], args := [d1, d2, d3, d4] }
  | _ => none }
def SpotTellsWrongFalsely : Prop := spotTellsRow.holds Try.pinned (OpenSpec.ofChange spotTellsWrong)

/-- 'bosketlaw3.SpotBack': WHATEVER THE INPUT: true; the input reads as it did. -/
def spotBackSpec : ChangeSpec := { name := "spotBack", fn := fun _ => fun
  | [d] => { results := [.lit (.bool true)], args := [d] }
  | _ => none }
def spotBackRow : OpenClaim := { program := "ytoinkeehnoggbaa", sum := "8eb1cb048caad8ef5729b1221a8a1dab9d7152d0084992d36d9cb4dd6dc91f3a", func := "bosket/bosketlaw3.SpotBack", spec := "spotBack", inPlace := ["internal/bytealg.CountString", "internal/bytealg.IndexByteString", "internal/bytealg.IndexString"], named := ["internal/bytealg.MaxLen"], apart := false }
def SpotBackSaid : Prop := spotBackRow.holds Try.pinned (OpenSpec.ofChange spotBackSpec)

/-- ITS FALSE NEIGHBOUR: 'it returns false'. Refute it at one input. -/
def spotBackWrong : ChangeSpec := { name := "spotBack", fn := fun _ => fun
  | [d] => { results := [.lit (.bool false)], args := [d] }
  | _ => none }
def SpotBackWrongFalsely : Prop := spotBackRow.holds Try.pinned (OpenSpec.ofChange spotBackWrong)

/-- 'bosketlaw3.SpotRows': WHATEVER THE INPUT: true; the input reads as it did. -/
def spotRowsSpec : ChangeSpec := { name := "spotRows", fn := fun _ => fun
  | [d1, d2] => { results := [.lit (.bool true)], args := [d1, d2] }
  | _ => none }
def spotRowsRow : OpenClaim := { program := "ytoinkeehnoggbaa", sum := "8eb1cb048caad8ef5729b1221a8a1dab9d7152d0084992d36d9cb4dd6dc91f3a", func := "bosket/bosketlaw3.SpotRows", spec := "spotRows", inPlace := ["internal/bytealg.CountString", "internal/bytealg.IndexByteString", "internal/bytealg.IndexString"], named := ["internal/bytealg.MaxLen"], apart := false }
def SpotRowsSaid : Prop := spotRowsRow.holds Try.pinned (OpenSpec.ofChange spotRowsSpec)

/-- ITS FALSE NEIGHBOUR: 'it returns false'. Refute it at one input. -/
def spotRowsWrong : ChangeSpec := { name := "spotRows", fn := fun _ => fun
  | [d1, d2] => { results := [.lit (.bool false)], args := [d1, d2] }
  | _ => none }
def SpotRowsWrongFalsely : Prop := spotRowsRow.holds Try.pinned (OpenSpec.ofChange spotRowsWrong)

/-- 'bosketlaw3.SpotRises': WHATEVER THE INPUT: true; the input reads as it did. -/
def spotRisesSpec : ChangeSpec := { name := "spotRises", fn := fun _ => fun
  | [d] => { results := [.lit (.bool true)], args := [d] }
  | _ => none }
def spotRisesRow : OpenClaim := { program := "ytoinkeehnoggbaa", sum := "8eb1cb048caad8ef5729b1221a8a1dab9d7152d0084992d36d9cb4dd6dc91f3a", func := "bosket/bosketlaw3.SpotRises", spec := "spotRises", inPlace := ["internal/bytealg.CountString", "internal/bytealg.IndexByteString", "internal/bytealg.IndexString"], named := ["internal/bytealg.MaxLen"], apart := false }
def SpotRisesSaid : Prop := spotRisesRow.holds Try.pinned (OpenSpec.ofChange spotRisesSpec)

/-- ITS FALSE NEIGHBOUR: 'it returns false'. Refute it at one input. -/
def spotRisesWrong : ChangeSpec := { name := "spotRises", fn := fun _ => fun
  | [d] => { results := [.lit (.bool false)], args := [d] }
  | _ => none }
def SpotRisesWrongFalsely : Prop := spotRisesRow.holds Try.pinned (OpenSpec.ofChange spotRisesWrong)

/- THE SECOND FORM. 'bulk': how many values and letters a reading holds, each counted each time it is reached (what is shared counts as often as it is met; a slice's spare places count too). A statement '..UptoSaid' is the law's where the arguments, and the package variables that the reading takes, are together of bulk at most 1048576: NARROWER than '..Said'. Prove '..Said' where nothing that the law and all that it calls make is longer than what came in: it says more and counts as full. Else prove '..UptoSaid'. A law counts once. -/
mutual
def uptoBulk {H : Type} : DataW H → Nat
  | .lit (.string bytes) => bytes.length + 1
  | .lit _ => 1
  | .nil => 1
  | .ptr d => uptoBulk d + 1
  | .slice elems spare => uptoBulkAll elems + uptoBulkAll spare + 1
  | .agg parts => uptoBulkAll parts + 1
  | .iface _ d => uptoBulk d + 1
  | .map entries => uptoBulkEntries entries + 1
  | .held _ => 1
def uptoBulkAll {H : Type} : List (DataW H) → Nat
  | [] => 0
  | d :: r => uptoBulk d + uptoBulkAll r
def uptoBulkEntries {H : Type} : List (Lit × DataW H) → Nat
  | [] => 0
  | x :: r => uptoBulkEntry x + uptoBulkEntries r
def uptoBulkEntry {H : Type} : Lit × DataW H → Nat
  | (.string bytes, d) => bytes.length + uptoBulk d + 1
  | (_, d) => uptoBulk d + 1
 end
def uptoSmall : (H : Type) → List (DataW H) → Bool := fun _ ds => decide (uptoBulkAll ds ≤ 1048576)
def OpenSpec.upto (s : _root_.Go.ChangeSpec) : _root_.Go.OpenSpec := { _root_.Go.OpenSpec.ofChange s with cond := some uptoSmall }

/-- 'bosketlaw3.SpotTells', WHERE WHAT IT READS IS OF BULK AT MOST 1048576: true; the input reads as it did. -/
def spotTellsUptoRow : OpenClaim := { program := "ytoinkeehnoggbaa", sum := "8eb1cb048caad8ef5729b1221a8a1dab9d7152d0084992d36d9cb4dd6dc91f3a", func := "bosket/bosketlaw3.SpotTells", spec := "spotTells", inPlace := ["internal/bytealg.CountString", "internal/bytealg.IndexByteString", "internal/bytealg.IndexString"], named := ["internal/bytealg.MaxLen"], apart := false, narrowed := true }
def SpotTellsUptoSaid : Prop := spotTellsUptoRow.holds Try.pinned (OpenSpec.upto spotTellsSpec)

/-- 'bosketlaw3.SpotBack', WHERE WHAT IT READS IS OF BULK AT MOST 1048576: true; the input reads as it did. -/
def spotBackUptoRow : OpenClaim := { program := "ytoinkeehnoggbaa", sum := "8eb1cb048caad8ef5729b1221a8a1dab9d7152d0084992d36d9cb4dd6dc91f3a", func := "bosket/bosketlaw3.SpotBack", spec := "spotBack", inPlace := ["internal/bytealg.CountString", "internal/bytealg.IndexByteString", "internal/bytealg.IndexString"], named := ["internal/bytealg.MaxLen"], apart := false, narrowed := true }
def SpotBackUptoSaid : Prop := spotBackUptoRow.holds Try.pinned (OpenSpec.upto spotBackSpec)

/-- 'bosketlaw3.SpotRows', WHERE WHAT IT READS IS OF BULK AT MOST 1048576: true; the input reads as it did. -/
def spotRowsUptoRow : OpenClaim := { program := "ytoinkeehnoggbaa", sum := "8eb1cb048caad8ef5729b1221a8a1dab9d7152d0084992d36d9cb4dd6dc91f3a", func := "bosket/bosketlaw3.SpotRows", spec := "spotRows", inPlace := ["internal/bytealg.CountString", "internal/bytealg.IndexByteString", "internal/bytealg.IndexString"], named := ["internal/bytealg.MaxLen"], apart := false, narrowed := true }
def SpotRowsUptoSaid : Prop := spotRowsUptoRow.holds Try.pinned (OpenSpec.upto spotRowsSpec)

/-- 'bosketlaw3.SpotRises', WHERE WHAT IT READS IS OF BULK AT MOST 1048576: true; the input reads as it did. -/
def spotRisesUptoRow : OpenClaim := { program := "ytoinkeehnoggbaa", sum := "8eb1cb048caad8ef5729b1221a8a1dab9d7152d0084992d36d9cb4dd6dc91f3a", func := "bosket/bosketlaw3.SpotRises", spec := "spotRises", inPlace := ["internal/bytealg.CountString", "internal/bytealg.IndexByteString", "internal/bytealg.IndexString"], named := ["internal/bytealg.MaxLen"], apart := false, narrowed := true }
def SpotRisesUptoSaid : Prop := spotRisesUptoRow.holds Try.pinned (OpenSpec.upto spotRisesSpec)

end Rows
end Go.Proofs.Ytoinkeehnoggbaa
