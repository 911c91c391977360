/- From a row's cell 'laid' to what the walks ask of the library's variables (Env): whichever list holds the two. Conditions: the list is met, and the world is shaped. -/
import Derived.Test.YthleebnfbdcobaaDoorEscaNum
import Derived.Stop.LaidErr
import Derived.Lib.LaidTab
import Derived.MakeChecks
namespace Go.Proofs.YthleebnfbdcobaaDoor
open Go.RowKit

def bitsTab : List Int := [0, 1, 56, 2, 57, 49, 28, 3, 61, 58, 42, 50, 38, 29, 17, 4, 62, 47, 59, 36, 45, 43, 51, 22, 53, 39, 33, 30, 24, 18, 12, 5, 63, 55, 48, 27, 60, 41, 37, 16, 46, 35, 44, 21, 52, 32, 23, 11, 54, 26, 40, 15, 34, 20, 31, 10, 25, 14, 19, 9, 13, 8, 7, 6]
theorem gTab : Tryd.prog.globalNamed "math/bits.deBruijn64tab" = some 7 := by kernel_rfl
theorem gTabType : (Tryd.prog.globals[7]?).map (·.type) = some 121 := by kernel_rfl
theorem gES : Tryd.prog.globalNamed "strconv.ErrSyntax" = some 3 := by kernel_rfl
theorem gESType : (Tryd.prog.globals[3]?).map (·.type) = some 48 := by kernel_rfl
theorem cellsTab : Tryd.prog.cellsOf 121 = 64 := by kernel_rfl
theorem cells8' : Tryd.prog.cellsOf 5 = 1 := by kernel_rfl
theorem cellsES : Tryd.prog.cellsOf 107 = 1 := by kernel_rfl
theorem cells9' : Tryd.prog.cellsOf 9 = 1 := by kernel_rfl
theorem starES : "*" ++ "errors.errorString" = "*errors.errorString" := by decide
theorem rowES (u : TypeId) (h : Tryd.prog.typeName? 3 u = some "*errors.errorString") : u = 105 :=
  typeName_ptr_named (nm := "errors.errorString") (by rw [starES]; kernel_rfl) (by kernel_rfl) (by decide) u (by rw [starES]; exact h)

theorem laid_mem {P : Program} {W : World} {x : String × DataW Unit} : ∀ {L : List (String × DataW Unit)}, laidMet P L W → x ∈ L → ∃ t, laidMet P (x :: t) W
  | _ :: _, h, .head _ => ⟨_, h⟩
  | _ :: _, h, .tail _ hm => laid_mem h.tail hm
theorem env_of (L : List (String × DataW Unit)) (W : World) (hL : laidMet Tryd.prog L W) (hsh : W.ShapedOpen Tryd.prog)
    (m1 : ("math/bits.deBruijn64tab", Lib.tabData .u8 bitsTab) ∈ L) (m2 : ("strconv.ErrSyntax", .iface "*errors.errorString" (.ptr (.agg [.lit (.string [105, 110, 118, 97, 108, 105, 100, 32, 115, 121, 110, 116, 97, 120])]))) ∈ L) : Env W := by
  obtain ⟨t1, h1⟩ := laid_mem hL m1
  obtain ⟨t2, h5⟩ := laid_mem hL m2
  have ht := Lib.tabIs_of_head gTab gTabType Tryd.underlying121 Tryd.underlying5 cells8' cellsTab h1
  have hc := ht.cell gTab 15 (by decide)
  obtain ⟨a0, s0, hv0, -, -, -⟩ := laid_sentinel h5 gES gESType Tryd.underlying48 rowES Tryd.underlying105 Tryd.underlying107 rfl rfl Tryd.underlying9 cellsES cells9'
  have h0 := World.var?_cell gES hv0 0
  exact ⟨maxIs_shaped W hsh, ⟨_, by simpa using h0, .inr ⟨_, _, rfl⟩⟩, hc⟩

end Go.Proofs.YthleebnfbdcobaaDoor
