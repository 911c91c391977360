/- The statements on package sign: the walks: for every input the law returns true. Conditions: none beside those that each theorem writes out. -/
import Derived.Test.YtjpfkddkghfdiaaSign
namespace Go.Proofs.Ytjpfkddkghfdiaa
open Go.RowKit

/-- The classes of a byte that a walk wants to know. -/
theorem cls_letter {c : Int} (h : (97 ≤ c ∧ c ≤ 122) ∨ (65 ≤ c ∧ c ≤ 90) ∨ (48 ≤ c ∧ c ≤ 57)) : U.flow c = false ∧ U.indic c = false ∧ U.wordc c = true ∧ U.uri c = true ∧ U.white c = false := by
  have hw : U.wordc c = true := by unfold U.wordc; rw [decide_eq_true_eq]; omega
  have hf : U.flow c = false := by unfold U.flow; rw [decide_eq_false_iff_not]; omega
  refine ⟨hf, ?_, hw, ?_, ?_⟩
  · unfold U.indic; rw [hf, decide_eq_false_iff_not]; simp; omega
  · unfold U.uri; rw [hw]; rfl
  · unfold U.white; rw [decide_eq_false_iff_not]; omega
theorem cls_none {c : Int} (h : (c < 48 ∧ c ≠ 45 ∧ c ≠ 32 ∧ c ≠ 9 ∧ c ≠ 44) ∨ (57 < c ∧ c < 65) ∨ (90 < c ∧ c < 97 ∧ c ≠ 91 ∧ c ≠ 93) ∨ (122 < c ∧ c ≠ 123 ∧ c ≠ 125)) : U.flow c = false ∧ U.wordc c = false ∧ U.white c = false := by
  refine ⟨?_, ?_, ?_⟩
  · unfold U.flow; rw [decide_eq_false_iff_not]; omega
  · unfold U.wordc; rw [decide_eq_false_iff_not]; omega
  · unfold U.white; rw [decide_eq_false_iff_not]; omega
theorem cls_high {c : Int} (h : 128 ≤ c) : U.indic c = false ∧ U.uri c = false := by
  obtain ⟨hf, hw, _⟩ := cls_none (c := c) (.inr (.inr (.inr (by omega))))
  refine ⟨?_, ?_⟩
  · unfold U.indic; rw [hf, decide_eq_false_iff_not]; simp; omega
  · unfold U.uri; rw [hw, decide_eq_false_iff_not]; simp; omega
theorem parts_cases (c : Int) : ((97 ≤ c ∧ c ≤ 122) ∨ (65 ≤ c ∧ c ≤ 90) ∨ (48 ≤ c ∧ c ≤ 57)) ∨ (c = 45 ∨ c = 32 ∨ c = 9 ∨ c = 44 ∨ c = 91 ∨ c = 93 ∨ c = 123 ∨ c = 125) ∨
    ((c < 48 ∧ c ≠ 45 ∧ c ≠ 32 ∧ c ≠ 9 ∧ c ≠ 44) ∨ (57 < c ∧ c < 65) ∨ (90 < c ∧ c < 97 ∧ c ≠ 91 ∧ c ≠ 93) ∨ (122 < c ∧ c < 128 ∧ c ≠ 123 ∧ c ≠ 125) ∨ 128 ≤ c) := by omega

/-! ### SignNames -/
/-- What of a text ends no name. -/
def kept (l : List UInt8) : List UInt8 := l.filter U.keeps
theorem kept_step (s : ByteArray) (k : Nat) (b : UInt8) (S : List UInt8) (hd : s.data.toList.drop k = b :: s.data.toList.drop (k + 1)) (h : S ++ kept (s.data.toList.drop k) = kept s.data.toList) :
    (if U.keeps b = true then S ++ [b] else S) ++ kept (s.data.toList.drop (k + 1)) = kept s.data.toList := by
  rw [← h, hd]
  unfold kept
  rw [List.filter_cons]
  split <;> simp
theorem kept_name (l m : List UInt8) (b : UInt8) (hb : U.keeps b = false) : U.nameL (kept l ++ b :: m) = (kept l).length := by
  unfold U.nameL
  have h : ∀ x ∈ kept l, U.keeps x = true := fun x hx => (List.mem_filter.1 hx).2
  generalize kept l = t at h
  induction t with
  | nil => simp [hb]
  | cons a t ih =>
    rw [List.cons_append, List.takeWhile_cons, if_pos (h a (by simp)), List.length_cons, List.length_cons, ih (fun x hx => h x (by simp [hx]))]
theorem kept_all (l : List UInt8) : U.nameL (kept l) = (kept l).length := by
  unfold U.nameL
  have h : ∀ x ∈ kept l, U.keeps x = true := fun x hx => (List.mem_filter.1 hx).2
  generalize kept l = t at h
  induction t with
  | nil => rfl
  | cons a t ih => rw [List.takeWhile_cons, if_pos (h a (by simp)), List.length_cons, List.length_cons, ih (fun x hx => h x (by simp [hx]))]
theorem kept_length (l : List UInt8) : (kept l).length ≤ l.length := List.length_filter_le _ _
theorem extract_one (s : ByteArray) (k : Nat) (b : UInt8) (hd : s.data.toList.drop k = b :: s.data.toList.drop (k + 1)) : s.extract k (k + 1) = ⟨#[b]⟩ := by
  apply ByteArray.ext
  apply Array.toList_inj.1
  rw [Lib.extract_data, hd, show k + 1 - k = 1 from by omega]
  rfl

/-- The bytes that end a name. -/
def nameEndL : List UInt8 := [32, 9, 10, 44, 91, 93, 123, 125]
theorem nameEndL_mem : ∀ k : Fin 8, U.keeps (nameEndL.getD k.val 0) = false := by decide +kernel

end Go.Proofs.Ytjpfkddkghfdiaa
