/- The program's package core, numbers and words: powers, numbers, the matchers' methods. Conditions: those that each theorem writes out (lengths that memory can hold). -/
import Derived.Test.YtckdhidcbkbeoaaDoorCore
namespace Go.Proofs.YtckdhidcbkbeoaaDoor
open Go.RowKit

theorem drop_ext (s : ByteArray) (k : Nat) : (s.extract k s.size).data.toList = s.data.toList.drop k := by
  rw [Lib.extract_data, List.take_of_length_le (by rw [List.length_drop, Lib.size_eq]; omega)]
theorem cons_ext (s : ByteArray) (h : 0 < s.size) : ∃ b : UInt8, s.data.toList = b :: (s.extract 1 s.size).data.toList ∧ b.toNat = byt s 0 := by
  obtain ⟨b, hd, hb⟩ := drop_byte s 0 h
  refine ⟨b, ?_, hb⟩
  rw [drop_ext]
  exact hd
theorem empty_or (s : ByteArray) : (s.toList.isEmpty = true ∧ s.data.toList = []) ∨ (s.toList.isEmpty = false ∧ 0 < s.size) := by
  rw [Lib.toList_data, Lib.size_eq]
  cases s.data.toList with
  | nil => exact .inl ⟨rfl, rfl⟩
  | cons b l => exact .inr ⟨rfl, by simp⟩
theorem uns_cases (s : ByteArray) : (s.toList.isEmpty = true ∧ U.cUns s.data.toList = s.data.toList) ∨
    (s.toList.isEmpty = false ∧ 0 < s.size ∧ U.cSgn (byt s 0 : Int) = true ∧ U.cUns s.data.toList = (s.extract 1 s.size).data.toList) ∨
    (s.toList.isEmpty = false ∧ 0 < s.size ∧ U.cSgn (byt s 0 : Int) = false ∧ U.cUns s.data.toList = s.data.toList) := by
  rcases empty_or s with ⟨h1, h2⟩ | ⟨h1, h2⟩
  · exact .inl ⟨h1, by rw [h2]; rfl⟩
  · obtain ⟨b, hd, hb⟩ := cons_ext s h2
    cases hc : U.cSgn (byt s 0 : Int) with
    | true => exact .inr (.inl ⟨h1, h2, rfl, by rw [hd, U.cUns_cons, hb, if_pos hc]⟩)
    | false => exact .inr (.inr ⟨h1, h2, rfl, by rw [hd, U.cUns_cons, hb, if_neg (by simp [hc])]⟩)

theorem pow_cases (s : ByteArray) (q : Bool) (h : U.cPow s.data.toList = q) : (s.toList.isEmpty = true ∧ q = true) ∨ (s.toList.isEmpty = false ∧ 0 < s.size ∧ U.cExp s.data.toList = q) := by
  unfold U.cPow at h
  rw [← Lib.toList_data] at h
  rcases empty_or s with ⟨h1, h2⟩ | ⟨h1, h2⟩
  · exact .inl ⟨h1, by rw [← h, h1]; rfl⟩
  · refine .inr ⟨h1, h2, ?_⟩
    rw [h1, Bool.false_or, Lib.toList_data] at h
    exact h

theorem base_short (s : ByteArray) (h : s.size < 2) : U.cBase s.data.toList = false := by
  rw [Lib.size_eq] at h
  unfold U.cBase
  rw [List.take_of_length_le (by omega)]
  have : ∀ y, decide (s.data.toList = [48, y]) = false := fun y => by
    rw [decide_eq_false_iff_not]; intro e; rw [e] at h; simp at h
  rw [this, this]; rfl
theorem base_long (s s2 : ByteArray) (he : s.extract 2 s.size = s2) : U.cBase s.data.toList = ((((s.extract 0 2).toList == [48, 111]) && U.cAll U.cOct s2.data.toList) || (((s.extract 0 2).toList == [48, 120]) && U.cAll U.cHex s2.data.toList)) := by
  unfold U.cBase
  rw [← he, drop_ext, Lib.toList_data, Lib.extract_data, List.drop_zero]
  have : ∀ y : UInt8, decide (s.data.toList.take 2 = [48, y]) = (s.data.toList.take 2 == [48, y]) := fun y => by
    rw [Bool.eq_iff_iff, decide_eq_true_eq, beq_iff_eq]
  rw [this, this]

end Go.Proofs.YtckdhidcbkbeoaaDoor
