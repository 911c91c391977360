/- What the rows' cell 'laid' gives the walks: the two tables of unicode/utf8. Conditions: the row's list is met. -/
import Derived.Test.YtckdhidcbkbeoaaDoorRows
import Derived.Test.YtckdhidcbkbeoaaDoorShelf
import Derived.Lib.LaidU8T
namespace Go.Proofs.YtckdhidcbkbeoaaDoor
open Go.RowKit

theorem firstIs : Rows.laid_unicode_utf8_first = Lib.firstData := by kernel_rfl
theorem acceptIs : (Rows.laid_unicode_utf8_acceptRanges : DataW Unit) = Lib.acceptData := by kernel_rfl
theorem tabs_laid (W : World) (hL : laidMet Tryd.prog Rows.direTellsRow.laid W) : Lib.Utf8Tabs 0 1 W := by
  have h1 : ("unicode/utf8.acceptRanges", Lib.acceptData) ∈ Rows.direTellsRow.laid := by rw [← acceptIs]; exact .head _
  have h2 : ("unicode/utf8.first", Lib.firstData) ∈ Rows.direTellsRow.laid := by rw [← firstIs]; exact .tail _ (.head _)
  exact utf8Tabs_of_readsT (ρ := Tryd.lays238_ren) { Tryd.lays238 with } ⟨by kernel_rfl, by kernel_rfl, by kernel_rfl, by kernel_rfl, by kernel_rfl, by kernel_rfl, by kernel_rfl⟩ (Lib.laidMet.reads hL h2) (Lib.laidMet.reads hL h1)

end Go.Proofs.YtckdhidcbkbeoaaDoor
