/- Texts put together, by their places: plain facts (nothing of the program). Conditions: none beside those that each theorem writes out. -/
import Derived.Test.YtomdhgbofocbbaaDoorLin
namespace Go.Proofs.YtomdhgbofocbbaaDoor
open Go.RowKit

theorem byt_app {V M : ByteArray} {j : Nat} (h : j < V.size) : byt (V ++ M) j = byt V j := by
  rw [byt_list, byt_list, ByteArray.data_append, Array.toList_append, List.getD, List.getD, List.getElem?_append_left (by rw [← Lib.size_eq]; exact h)]
theorem byt_behind (S M : ByteArray) (j : Nat) : byt (S ++ M) (S.size + j) = byt M j := by
  rw [byt_list, byt_list, ByteArray.data_append, Array.toList_append, List.getD, List.getD, List.getElem?_append_right (by rw [Lib.size_eq]; omega), Lib.size_eq, Nat.add_sub_cancel_left]
/-- Bytes as a text. -/
def mkB (l : List UInt8) : ByteArray := ⟨l.toArray⟩
/-- So many blanks. -/
def blanksB (i : Nat) : List UInt8 := List.replicate i 32

end Go.Proofs.YtomdhgbofocbbaaDoor
