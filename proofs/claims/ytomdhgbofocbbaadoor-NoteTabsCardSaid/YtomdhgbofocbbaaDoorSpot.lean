/- The program's package spot, and the document's answers of chapter 3: what each of these functions returns. Conditions: those that each theorem writes out (lengths that memory can hold). -/
import Derived.Test.YtomdhgbofocbbaaDoorRef2
import Derived.Test.YtomdhgbofocbbaaDoorSpotP
import Derived.Test.YtomdhgbofocbbaaDoorShelf
namespace Go.Proofs.YtomdhgbofocbbaaDoor
open Go.RowKit

/-- What stands behind the last LF, by the library's search. -/
theorem last_row (s : ByteArray) : ∃ f : Nat, Lib.lastIndexByte s 10 + 1 = (f : Int) ∧ f ≤ s.size ∧ (s.extract f s.size).data.toList = U.row s.data.toList := by
  have hx : ∀ f, (s.extract f s.size).data.toList = s.data.toList.drop f := fun f => by
    rw [Lib.extract_data, List.take_of_length_le]
    rw [List.length_drop, Lib.size_eq]; exact Nat.le_refl _
  have hg : ∀ j, j < s.size → ((s.data[j]!).toNat : Int) ≠ 10 → s.data.toList.getD j 0 ≠ 10 := fun j hj h h2 => by
    apply h
    have : s.data[j]! = s.data.toList.getD j 0 := by
      rw [getElem!_pos s.data j (by simpa using hj)]
      have hj2 : j < s.data.toList.length := by rw [← Lib.size_eq]; exact hj
      simp [List.getD, List.getElem?_eq_getElem hj2]
    rw [this, h2]; rfl
  rcases Lib.lastIndexByte_spec s 10 with ⟨h1, h2⟩ | ⟨i, hi, h1, h2, h3⟩
  · refine ⟨0, by omega, Nat.zero_le _, ?_⟩
    rw [hx, List.drop_zero, U.row_self]
    intro hm
    obtain ⟨j, hj, he⟩ := List.getElem_of_mem hm
    have hj2 : j < s.size := by rw [Lib.size_eq]; exact hj
    refine hg j hj2 (h2 j hj2) ?_
    simp only [List.getD, List.getElem?_eq_getElem hj, Option.getD_some]; exact he
  · refine ⟨i + 1, by omega, by omega, ?_⟩
    have hi2 : i < s.data.toList.length := by rw [← Lib.size_eq]; exact hi
    have he : s.data.toList[i] = 10 := by
      rw [getElem!_pos s.data i (by simpa using hi)] at h2
      have h4 : (s.data.toList[i]).toNat = (10 : UInt8).toNat := by
        have : s.data.toList[i] = s.data[i]'(by simpa using hi) := by simp
        rw [this]
        have h10 : (10 : UInt8).toNat = 10 := rfl
        omega
      exact UInt8.toNat_inj.1 h4
    have hm : (10 : UInt8) ∉ s.data.toList.drop (i + 1) := by
      intro hm
      obtain ⟨j, hj, hej⟩ := List.getElem_of_mem hm
      rw [List.length_drop] at hj
      rw [List.getElem_drop] at hej
      have hj2 : i + 1 + j < s.size := by rw [Lib.size_eq]; omega
      refine hg (i + 1 + j) hj2 (h3 _ (by omega) hj2) ?_
      simp only [List.getD, List.getElem?_eq_getElem (show i + 1 + j < s.data.toList.length by omega), Option.getD_some]; exact hej
    have e : s.data.toList = s.data.toList.take i ++ 10 :: s.data.toList.drop (i + 1) := by
      have h5 := List.take_append_drop i s.data.toList
      rw [List.drop_eq_getElem_cons hi2, he] at h5
      exact h5.symm
    rw [hx]
    conv => rhs; rw [e]
    rw [U.row_behind _ _ hm]

/-- A place held within a text. -/
def clampN (at' : Int) (n : Nat) : Nat := min at'.toNat n
theorem clampN_le (at' : Int) (n : Nat) : clampN at' n ≤ n := Nat.min_le_right _ _
theorem clampN_self (k n : Nat) (h : k ≤ n) : clampN (k : Int) n = k := by unfold clampN; omega

theorem extract_take (s : ByteArray) (k : Nat) : (s.extract 0 k).data.toList = s.data.toList.take k := by
  rw [Lib.extract_data]; simp

/-- What a search found, as the program tells it. -/
def foundV (o : Option Nat) : Value := .tuple #[.int .i64 ((o.getD 0 : Nat) : Int), .bool o.isSome]

theorem seek_next (s : ByteArray) (pos : Nat) (a b y x : Int) (h : pos < s.size) (hn : ¬ (a = y ∧ b = x)) :
    U.seekAt (s.data.toList.drop pos) pos a b y x = U.seekAt (s.data.toList.drop (pos + (Utf8.decode s pos).2)) (pos + (Utf8.decode s pos).2) (U.nextL (Utf8.decode s pos).1 a) (U.nextC (Utf8.decode s pos).1 b) y x := by
  rw [U.seekAt_step _ _ _ _ _ _ (drop_ne h), if_neg hn, Lib.decodeL_drop, List.drop_drop]
theorem seek_over (s : ByteArray) (pos : Nat) (a b y x : Int) (h : ¬ pos < s.size) (hn : ¬ (a = y ∧ b = x)) : U.seekAt (s.data.toList.drop pos) pos a b y x = none := by
  rw [List.drop_eq_nil_of_le (by rw [← Lib.size_eq]; omega), U.seekAt_nil, if_neg hn]
theorem goes_next (s : ByteArray) (pos : Nat) (a b : Int) (h : pos < s.size) (hg : U.Goes s.data.toList 1 1 pos a b) :
    U.Goes s.data.toList 1 1 (pos + (Utf8.decode s pos).2) (U.nextL (Utf8.decode s pos).1 a) (U.nextC (Utf8.decode s pos).1 b) := by
  have := hg.snoc (by rw [← Lib.size_eq]; exact h)
  rwa [Lib.decodeL_drop] at this
theorem goes_one (s : ByteArray) (pos : Nat) (a b : Int) (hg : U.Goes s.data.toList 1 1 pos a b) : pos ≤ s.size ∧ 1 ≤ a ∧ 1 ≤ b ∧ a ≤ 1 + pos ∧ b ≤ 1 + pos := by
  have := hg.le
  rw [← Lib.size_eq] at this
  have := hg.one (by omega) (by omega)
  omega

end Go.Proofs.YtomdhgbofocbbaaDoor
