/- strings.TrimLeft, strings.TrimRight at White, and at blanks and line feeds: what each returns. Conditions: those that each theorem writes out (lengths that memory can hold). -/
import Derived.Test.YtomdhgbofocbbaaDoorTrimP
import Derived.Test.YtomdhgbofocbbaaDoorShelf
import Derived.Shelf.Strings.SlTrimAscii
namespace Go.Proofs.YtomdhgbofocbbaaDoor
open Go.RowKit Go.Shelf

/-- Cut White off at the left, and at the right. -/
theorem white_cut : ∀ (j : Nat) b, (⟨#[32, 9]⟩ : ByteArray).data.toList[j]? = some b → b.toNat < 128 := by
  intro j b h
  have hm : b ∈ ([32, 9] : List UInt8) := List.mem_of_getElem? h
  simp at hm
  rcases hm with rfl | rfl <;> decide
theorem quotTrimR (l : List UInt8) (s : ByteArray) (w : World) (hs : s.size ≤ 9223372036854775807) (h : Lib.trimRightS s.data.toList [32, 9] = l) :
    Calls Tryd.prog 28 #[.string s, .string ⟨#[32, 9]⟩] w fun e w' => e = .returned (.string ⟨l.toArray⟩) ∧ Below w.heap.size w w' := by
  subst h
  exact Any.strings_TrimRight_laid Tryd.lays162 (by kernel_rfl) s ⟨#[32, 9]⟩ w hs (by decide) white_cut
theorem fill_cut : ∀ (j : Nat) b, (⟨#[32, 10]⟩ : ByteArray).data.toList[j]? = some b → b.toNat < 128 := by
  intro j b h
  have hm : b ∈ ([32, 10] : List UInt8) := List.mem_of_getElem? h
  simp at hm
  rcases hm with rfl | rfl <;> decide
end Go.Proofs.YtomdhgbofocbbaaDoor
