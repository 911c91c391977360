/-
  No cell of these rows narrows 'for every input' (looked for: loops, veiled, ifaces, maps, wideKeys, modest, calm, conditions, laid).
  DERIVED. THE GIVEN ROWS OF THIS SEAT. 4 by the template 'for every input the law returns true; each argument reads behind the call as it read before'; 0 by the template 'total and deterministic' (their statements: YtlblamabkjpnaaaTotals.lean).
  GIVEN WITH THE SEED: the statements are not yours to turn. If you find one false, say at which input.
  Laid BY PROGRAM, IN A SANDBOX (cutbox-rows.mjs): the forced cells as the released guide's own fill.sh prints them over the translation e3c6dc007c604ba9… (all of the seat's roots in one cut). By AI agents, Wed Nov 11 2026. No macro, syntax, notation, axiom, sorry.
-/
import Derived.Test.YtlblamabkjpnaaaChecked
import GoSem.Claim
import GoSem.ClaimJoined
import GoSem.ClaimMapViews
import Derived.JoinedTies
import Derived.KernelRfl
namespace Go.Proofs.Ytlblamabkjpnaaa
/- THE CELL 'sum', in the pinned program and in every row, IS THE sha256 OF THE DUMP (.gsa) THAT YtlblamabkjpnaaaProg.lean LOADS. Nothing in Lean hashes anything: it is a label: what it is worth is what the hold of that sum in a sandbox is worth. -/
noncomputable def Try.pinned : Pinned := { name := "ytlblamabkjpnaaa", sum := "e3c6dc007c604ba9d223d18490c9ab866242380e8e0104fd240ac88a870ee208", checked := Try.checked }
namespace Rows
def none {H : Type} : Left H := { results := [], args := [] }

/-- 'bosketlaw7.RowsTells': WHATEVER THE INPUT: true; the input reads as it did. -/
def rowsTellsSpec : ChangeSpec := { name := "rowsTells", fn := fun _ => fun
  | [d1, d2] => { results := [.lit (.bool true)], args := [d1, d2] }
  | _ => none }
def rowsTellsRow : OpenClaim := { program := "ytlblamabkjpnaaa", sum := "e3c6dc007c604ba9d223d18490c9ab866242380e8e0104fd240ac88a870ee208", func := "bosket/bosketlaw7.RowsTells", spec := "rowsTells", inPlace := ["internal/bytealg.IndexByteString"], apart := false }
def RowsTellsSaid : Prop := rowsTellsRow.holds Try.pinned (OpenSpec.ofChange rowsTellsSpec)

/-- ITS FALSE NEIGHBOUR: 'it returns false'. Refute it at one input. -/
def rowsTellsWrong : ChangeSpec := { name := "rowsTells", fn := fun _ => fun
  | [d1, d2] => { results := [.lit (.bool false)], args := [d1, d2] }
  | _ => none }
def RowsTellsWrongFalsely : Prop := rowsTellsRow.holds Try.pinned (OpenSpec.ofChange rowsTellsWrong)

/-- 'bosketlaw7.RowsParts': WHATEVER THE INPUT: true; the input reads as it did. -/
def rowsPartsSpec : ChangeSpec := { name := "rowsParts", fn := fun _ => fun
  | [d] => { results := [.lit (.bool true)], args := [d] }
  | _ => none }
def rowsPartsRow : OpenClaim := { program := "ytlblamabkjpnaaa", sum := "e3c6dc007c604ba9d223d18490c9ab866242380e8e0104fd240ac88a870ee208", func := "bosket/bosketlaw7.RowsParts", spec := "rowsParts", inPlace := ["internal/bytealg.IndexByteString"], apart := false }
def RowsPartsSaid : Prop := rowsPartsRow.holds Try.pinned (OpenSpec.ofChange rowsPartsSpec)

/-- ITS FALSE NEIGHBOUR: 'it returns false'. Refute it at one input. -/
def rowsPartsWrong : ChangeSpec := { name := "rowsParts", fn := fun _ => fun
  | [d] => { results := [.lit (.bool false)], args := [d] }
  | _ => none }
def RowsPartsWrongFalsely : Prop := rowsPartsRow.holds Try.pinned (OpenSpec.ofChange rowsPartsWrong)

/-- 'bosketlaw7.RowsKinds': WHATEVER THE INPUT: true; the input reads as it did. -/
def rowsKindsSpec : ChangeSpec := { name := "rowsKinds", fn := fun _ => fun
  | [d1, d2, d3] => { results := [.lit (.bool true)], args := [d1, d2, d3] }
  | _ => none }
def rowsKindsRow : OpenClaim := { program := "ytlblamabkjpnaaa", sum := "e3c6dc007c604ba9d223d18490c9ab866242380e8e0104fd240ac88a870ee208", func := "bosket/bosketlaw7.RowsKinds", spec := "rowsKinds", inPlace := ["internal/bytealg.IndexByteString"], apart := false }
def RowsKindsSaid : Prop := rowsKindsRow.holds Try.pinned (OpenSpec.ofChange rowsKindsSpec)

/-- ITS FALSE NEIGHBOUR: 'it returns false'. Refute it at one input. -/
def rowsKindsWrong : ChangeSpec := { name := "rowsKinds", fn := fun _ => fun
  | [d1, d2, d3] => { results := [.lit (.bool false)], args := [d1, d2, d3] }
  | _ => none }
def RowsKindsWrongFalsely : Prop := rowsKindsRow.holds Try.pinned (OpenSpec.ofChange rowsKindsWrong)

/-- 'bosketlaw7.RowsAbove': WHATEVER THE INPUT: true; the input reads as it did. -/
def rowsAboveSpec : ChangeSpec := { name := "rowsAbove", fn := fun _ => fun
  | [d1, d2, d3, d4] => { results := [.lit (.bool true)], args := [d1, d2, d3, d4] }
  | _ => none }
def rowsAboveRow : OpenClaim := { program := "ytlblamabkjpnaaa", sum := "e3c6dc007c604ba9d223d18490c9ab866242380e8e0104fd240ac88a870ee208", func := "bosket/bosketlaw7.RowsAbove", spec := "rowsAbove", inPlace := ["internal/bytealg.IndexByteString"], apart := false }
def RowsAboveSaid : Prop := rowsAboveRow.holds Try.pinned (OpenSpec.ofChange rowsAboveSpec)

/-- ITS FALSE NEIGHBOUR: 'it returns false'. Refute it at one input. -/
def rowsAboveWrong : ChangeSpec := { name := "rowsAbove", fn := fun _ => fun
  | [d1, d2, d3, d4] => { results := [.lit (.bool false)], args := [d1, d2, d3, d4] }
  | _ => none }
def RowsAboveWrongFalsely : Prop := rowsAboveRow.holds Try.pinned (OpenSpec.ofChange rowsAboveWrong)

/- THE SECOND FORM. 'bulk': how many values and letters a reading holds, each counted each time it is reached (what is shared counts as often as it is met; a slice's spare places count too). A statement '..UptoSaid' is the law's where the arguments, and the package variables that the reading takes, are together of bulk at most 1048576: NARROWER than '..Said'. Prove '..Said' where nothing that the law and all that it calls make is longer than what came in: it says more and counts as full. Else prove '..UptoSaid'. A law counts once. -/
mutual
def uptoBulk {H : Type} : DataW H → Nat
  | .lit (.string bytes) => bytes.length + 1
  | .lit _ => 1
  | .nil => 1
  | .ptr d => uptoBulk d + 1
  | .slice elems spare => uptoBulkAll elems + uptoBulkAll spare + 1
  | .agg parts => uptoBulkAll parts + 1
  | .iface _ d => uptoBulk d + 1
  | .map entries => uptoBulkEntries entries + 1
  | .held _ => 1
def uptoBulkAll {H : Type} : List (DataW H) → Nat
  | [] => 0
  | d :: r => uptoBulk d + uptoBulkAll r
def uptoBulkEntries {H : Type} : List (Lit × DataW H) → Nat
  | [] => 0
  | x :: r => uptoBulkEntry x + uptoBulkEntries r
def uptoBulkEntry {H : Type} : Lit × DataW H → Nat
  | (.string bytes, d) => bytes.length + uptoBulk d + 1
  | (_, d) => uptoBulk d + 1
 end
def uptoSmall : (H : Type) → List (DataW H) → Bool := fun _ ds => decide (uptoBulkAll ds ≤ 1048576)
def OpenSpec.upto (s : _root_.Go.ChangeSpec) : _root_.Go.OpenSpec := { _root_.Go.OpenSpec.ofChange s with cond := some uptoSmall }

/-- 'bosketlaw7.RowsTells', WHERE WHAT IT READS IS OF BULK AT MOST 1048576: true; the input reads as it did. -/
def rowsTellsUptoRow : OpenClaim := { program := "ytlblamabkjpnaaa", sum := "e3c6dc007c604ba9d223d18490c9ab866242380e8e0104fd240ac88a870ee208", func := "bosket/bosketlaw7.RowsTells", spec := "rowsTells", inPlace := ["internal/bytealg.IndexByteString"], apart := false, narrowed := true }
def RowsTellsUptoSaid : Prop := rowsTellsUptoRow.holds Try.pinned (OpenSpec.upto rowsTellsSpec)

/-- 'bosketlaw7.RowsParts', WHERE WHAT IT READS IS OF BULK AT MOST 1048576: true; the input reads as it did. -/
def rowsPartsUptoRow : OpenClaim := { program := "ytlblamabkjpnaaa", sum := "e3c6dc007c604ba9d223d18490c9ab866242380e8e0104fd240ac88a870ee208", func := "bosket/bosketlaw7.RowsParts", spec := "rowsParts", inPlace := ["internal/bytealg.IndexByteString"], apart := false, narrowed := true }
def RowsPartsUptoSaid : Prop := rowsPartsUptoRow.holds Try.pinned (OpenSpec.upto rowsPartsSpec)

/-- 'bosketlaw7.RowsKinds', WHERE WHAT IT READS IS OF BULK AT MOST 1048576: true; the input reads as it did. -/
def rowsKindsUptoRow : OpenClaim := { program := "ytlblamabkjpnaaa", sum := "e3c6dc007c604ba9d223d18490c9ab866242380e8e0104fd240ac88a870ee208", func := "bosket/bosketlaw7.RowsKinds", spec := "rowsKinds", inPlace := ["internal/bytealg.IndexByteString"], apart := false, narrowed := true }
def RowsKindsUptoSaid : Prop := rowsKindsUptoRow.holds Try.pinned (OpenSpec.upto rowsKindsSpec)

/-- 'bosketlaw7.RowsAbove', WHERE WHAT IT READS IS OF BULK AT MOST 1048576: true; the input reads as it did. -/
def rowsAboveUptoRow : OpenClaim := { program := "ytlblamabkjpnaaa", sum := "e3c6dc007c604ba9d223d18490c9ab866242380e8e0104fd240ac88a870ee208", func := "bosket/bosketlaw7.RowsAbove", spec := "rowsAbove", inPlace := ["internal/bytealg.IndexByteString"], apart := false, narrowed := true }
def RowsAboveUptoSaid : Prop := rowsAboveUptoRow.holds Try.pinned (OpenSpec.upto rowsAboveSpec)

end Rows
end Go.Proofs.Ytlblamabkjpnaaa
