/- The statements on package utfs: the walks: for every input the law returns true. -/
import Derived.Test.YthleebnfbdcobaaGreatDoorLaw0
import Derived.Test.YthleebnfbdcobaaGreatDoorUtfCut
namespace Go.Proofs.YthleebnfbdcobaaGreatDoor
open Go.RowKit

theorem Place_is (p : Int) (s : ByteArray) (w : World) (hs : s.size ≤ maxLen) (h : U.place s.data.toList = p) :
    Calls Tryz.prog 18 #[.string s] w fun e w' => e = .returned (.int .i64 p) ∧ Below w.heap.size w w' := by
  subst h; exact Place_any s w hs
theorem Is32_new (w : World) (xs : List Int) (h : xs.length ≤ maxLen) : Is32 (w.heap.size + 1) (w.alloc (.cells (xs.map (Value.int .i32)).toArray 21)) (.slice (some ⟨w.heap.size, 0, none⟩) xs.length xs.length) xs := by
  refine ⟨_, xs.length, rfl, Nat.le_refl _, h, (fun h => by cases h), fun hp => ⟨_, _, rfl, Nat.lt_succ_self _, fun j hj => ?_⟩⟩
  rw [Nat.zero_add, World.cell?_alloc_mark]
  simp [List.getD, hj]
theorem Text_is (l : List UInt8) (xs : List Int) (v : Value) (w : World) (h : Is32 w.heap.size w v xs) (hl : U.text xs = l) :
    Calls Tryz.prog 24 #[v] w fun e w' => e = .returned (.string ⟨l.toArray⟩) ∧ w = w' := by
  subst hl; exact Text_any xs v w h

/-- One step more. -/
theorem bt {a b c : World} (h : Below a.heap.size a b) (k : Below b.heap.size b c) : Below a.heap.size a c := h.trans (k.mono h.size)
theorem b0 (a : World) : Below a.heap.size a a := Below.refl _ _

theorem arr_toList (l : List UInt8) : (⟨l.toArray⟩ : ByteArray).data.toList = l := rfl
theorem text_size {l : List UInt8} : (⟨l.toArray⟩ : ByteArray).size = l.length := by simp [ByteArray.size]
theorem text_length : ∀ xs : List Int, (U.text xs).length ≤ 4 * xs.length
  | [] => by simp [U.text]
  | x :: xs => by
    have := text_length xs
    have h := U.encode_length x
    rw [U.text_cons, List.length_append, List.length_cons]
    omega

/-- A code point of one byte, or of more. -/
theorem enc_one (r : Int) (h : 0 ≤ r ∧ r ≤ 127) : (Lib.encodeRune r).length = 1 := by
  unfold Lib.encodeRune; rw [Lib.encodeRuneZ_one h.1 h.2]; rfl

theorem small_of (s : ByteArray) (l : List UInt8) (h : s.data.toList = l) (hl : l.length ≤ 1000) : s.size ≤ maxLen := by
  rw [Lib.size_eq, h]; unfold maxLen; omega
theorem cut_take (l : List UInt8) (k : Nat) : ((⟨l.toArray⟩ : ByteArray).extract 0 k).data.toList = l.take k := by
  rw [Lib.extract_data]; simp
theorem cut_drop (l : List UInt8) (k : Nat) : ((⟨l.toArray⟩ : ByteArray).extract k l.length).data.toList = l.drop k := by
  rw [Lib.extract_data, List.take_of_length_le]; rw [List.length_drop]; exact Nat.le_refl _
theorem cut_a (l : List UInt8) (k : Nat) : ((⟨#[97]⟩ : ByteArray) ++ (⟨l.toArray⟩ : ByteArray).extract k l.length).data.toList = 97 :: l.drop k := by
  rw [ByteArray.data_append, Array.toList_append, cut_drop]; rfl
theorem cut_ff (l : List UInt8) (k : Nat) : ((⟨l.toArray⟩ : ByteArray).extract 0 k ++ (⟨#[255]⟩ : ByteArray) ++ (⟨l.toArray⟩ : ByteArray).extract (k + 1) l.length).data.toList = l.take k ++ (255 :: l.drop (k + 1)) := by
  rw [ByteArray.data_append, ByteArray.data_append, Array.toList_append, Array.toList_append, cut_take, cut_drop, List.append_assoc]; rfl

end Go.Proofs.YthleebnfbdcobaaGreatDoor
