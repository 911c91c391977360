/- The program's package hand: a suffix decoded, and a tag's full form. Conditions: those that each theorem writes out (lengths that memory can hold). -/
import Derived.Test.YtckdhidcbkbeoaaDoorHand3
namespace Go.Proofs.YtckdhidcbkbeoaaDoor
open Go.RowKit

theorem tDs_any (v : Nat) (l : List UInt8) : U.tDs 0 v l = U.tDs 0 0 l := by
  cases l <;> rfl
theorem byte_toNat (n : Nat) (h : n ≤ 255) : ((UInt8.ofNat n).toNat : Int) = (n : Int) := by
  rw [UInt8.toNat_ofNat']; omega

end Go.Proofs.YtckdhidcbkbeoaaDoor
