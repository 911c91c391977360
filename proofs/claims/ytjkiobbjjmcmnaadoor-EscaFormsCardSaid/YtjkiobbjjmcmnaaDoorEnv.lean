/- What the rows' cell 'laid' gives the walks: MaxLen holds a number, ErrSyntax an error, and the table of bits its number at 16. Conditions: the row's list is met, and the world is shaped. -/
import Derived.Test.YtjkiobbjjmcmnaaDoorRows
import Derived.Test.YtjkiobbjjmcmnaaDoorEscaNum
import Derived.Stop.LaidErr
import Derived.Lib.LaidTab
import Derived.MakeChecks
namespace Go.Proofs.YtjkiobbjjmcmnaaDoor
open Go.RowKit

def bitsTab : List Int := [0, 1, 56, 2, 57, 49, 28, 3, 61, 58, 42, 50, 38, 29, 17, 4, 62, 47, 59, 36, 45, 43, 51, 22, 53, 39, 33, 30, 24, 18, 12, 5, 63, 55, 48, 27, 60, 41, 37, 16, 46, 35, 44, 21, 52, 32, 23, 11, 54, 26, 40, 15, 34, 20, 31, 10, 25, 14, 19, 9, 13, 8, 7, 6]
theorem gTab : Tryd.prog.globalNamed "math/bits.deBruijn64tab" = some 7 := by kernel_rfl
theorem gTabType : (Tryd.prog.globals[7]?).map (·.type) = some 120 := by kernel_rfl
theorem gES : Tryd.prog.globalNamed "strconv.ErrSyntax" = some 3 := by kernel_rfl
theorem gESType : (Tryd.prog.globals[3]?).map (·.type) = some 53 := by kernel_rfl
theorem cellsTab : Tryd.prog.cellsOf 120 = 64 := by kernel_rfl
theorem cells8' : Tryd.prog.cellsOf 5 = 1 := by kernel_rfl
theorem cellsES : Tryd.prog.cellsOf 117 = 1 := by kernel_rfl
theorem cells9' : Tryd.prog.cellsOf 9 = 1 := by kernel_rfl
theorem starES : "*" ++ "errors.errorString" = "*errors.errorString" := by decide
theorem rowES (u : TypeId) (h : Tryd.prog.typeName? 3 u = some "*errors.errorString") : u = 115 :=
  typeName_ptr_named (nm := "errors.errorString") (by rw [starES]; kernel_rfl) (by kernel_rfl) (by decide) u (by rw [starES]; exact h)

theorem env_laid (W : World) (hL : laidMet Tryd.prog Rows.escaTellsRow.laid W) (hsh : W.ShapedOpen Tryd.prog) : Env W := by
  have h1 : laidMet Tryd.prog (("math/bits.deBruijn64tab", Lib.tabData .u8 bitsTab) :: Rows.escaTellsRow.laid.drop 2) W := hL.tail
  have ht := Lib.tabIs_of_head gTab gTabType Tryd.underlying120 Tryd.underlying5 cells8' cellsTab h1
  have hc := ht.cell gTab 15 (by decide)
  have h5 : laidMet Tryd.prog (("strconv.ErrSyntax", .iface "*errors.errorString" (.ptr (.agg [.lit (.string [105, 110, 118, 97, 108, 105, 100, 32, 115, 121, 110, 116, 97, 120])]))) :: Rows.escaTellsRow.laid.drop 6) W := hL.tail.tail.tail.tail.tail
  obtain ⟨a0, s0, hv0, -, -, -⟩ := laid_sentinel h5 gES gESType Tryd.underlying53 rowES Tryd.underlying115 Tryd.underlying117 rfl rfl Tryd.underlying9 cellsES cells9'
  have h0 := World.var?_cell gES hv0 0
  exact ⟨maxIs_shaped W hsh, ⟨_, by simpa using h0, .inr ⟨_, _, rfl⟩⟩, hc⟩

end Go.Proofs.YtjkiobbjjmcmnaaDoor
