/- The statements on package hand: what every program answers that is one, and HandWhole: for every string the law returns true. Conditions: none beside those that each theorem writes out. -/
import Derived.Test.YtckdhidcbkbeoaaDoorHand5
namespace Go.Proofs.YtckdhidcbkbeoaaDoor
open Go.RowKit

theorem none_short : ∀ l ∈ ([] : List (List UInt8)), l.length ≤ 1099511627776 := fun l h => by simp at h
theorem below_in {B : Nat} {w w' : World} {v : Value} {ds : List (List UInt8)} (h : IsTexts B w v ds) (hb : Below B w w') (hB : B ≤ w'.heap.size) : IsTexts w'.heap.size w' v ds := (h.below hb).mono hB
def dirE : List UInt8 := [37, 84, 65, 71, 32, 33, 101, 33, 32, 120, 58]

end Go.Proofs.YtckdhidcbkbeoaaDoor
