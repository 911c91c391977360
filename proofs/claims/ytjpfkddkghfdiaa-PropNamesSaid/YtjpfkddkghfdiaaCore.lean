/- The program's package core, its parts: classes of bytes, how many of a class stand in front, powers, numbers, words. Conditions: those that each theorem writes out (lengths that memory can hold). -/
import Derived.Test.YtjpfkddkghfdiaaCoreP
import Derived.Test.YtjpfkddkghfdiaaSign
namespace Go.Proofs.Ytjpfkddkghfdiaa
open Go.RowKit

theorem cNulls_or (s : ByteArray) : U.cIn U.cNulls s.data.toList = (s.toList.isEmpty || (s.toList == [110, 117, 108, 108]) || (s.toList == [78, 117, 108, 108]) || (s.toList == [78, 85, 76, 76]) || (s.toList == [126])) := by
  rw [Bool.eq_iff_iff, U.cIn_iff, Lib.toList_data]
  simp only [U.cNulls, List.mem_cons, List.not_mem_nil, or_false, Bool.or_eq_true, beq_iff_eq, List.isEmpty_iff, or_assoc]
theorem cBools_or (s : ByteArray) : U.cIn U.cBools s.data.toList = ((s.toList == [116, 114, 117, 101]) || (s.toList == [84, 114, 117, 101]) || (s.toList == [84, 82, 85, 69]) || (s.toList == [102, 97, 108, 115, 101]) || (s.toList == [70, 97, 108, 115, 101]) || (s.toList == [70, 65, 76, 83, 69])) := by
  rw [Bool.eq_iff_iff, U.cIn_iff, Lib.toList_data]
  simp only [U.cBools, List.mem_cons, List.not_mem_nil, or_false, Bool.or_eq_true, beq_iff_eq, or_assoc]
theorem cInfs_or (s : ByteArray) : U.cIn U.cInfs s.data.toList = ((s.toList == [46, 105, 110, 102]) || (s.toList == [46, 73, 110, 102]) || (s.toList == [46, 73, 78, 70])) := by
  rw [Bool.eq_iff_iff, U.cIn_iff, Lib.toList_data]
  simp only [U.cInfs, List.mem_cons, List.not_mem_nil, or_false, Bool.or_eq_true, beq_iff_eq, or_assoc]
theorem cNans_or (s : ByteArray) : U.cIn U.cNans s.data.toList = ((s.toList == [46, 110, 97, 110]) || (s.toList == [46, 78, 97, 78]) || (s.toList == [46, 78, 65, 78])) := by
  rw [Bool.eq_iff_iff, U.cIn_iff, Lib.toList_data]
  simp only [U.cNans, List.mem_cons, List.not_mem_nil, or_false, Bool.or_eq_true, beq_iff_eq, or_assoc]
/-- A class, asked by a function value: the function is entered, and says whether a byte is of the class. -/
structure ClassF (K : FuncId) (p : Int → Bool) : Prop where
  enter : ∀ args w, (callFunc K args).run Try.prog w = .ok (.enter K args) w
  says : ∀ (c : Int) (w : World), Calls Try.prog K #[.int .u8 c] w fun e w' => e = .returned (.bool (p c)) ∧ w = w'
theorem ClassF.is {K : FuncId} {p : Int → Bool} (h : ClassF K p) (q : Bool) (c : Int) (w : World) (hq : p c = q) : Calls Try.prog K #[.int .u8 c] w fun e w' => e = .returned (.bool q) ∧ w = w' := by
  subst hq; exact h.says c w
end Go.Proofs.Ytjpfkddkghfdiaa
