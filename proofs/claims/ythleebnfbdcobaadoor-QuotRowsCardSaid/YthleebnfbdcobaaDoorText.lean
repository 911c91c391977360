/- The program's package text, and the document's answers of chapter 2: what each of these functions returns. Conditions: those that each theorem writes out (lengths that memory can hold; the library's variable MaxLen holds a number). -/
import Derived.Test.YthleebnfbdcobaaDoorUtfs
import Derived.Test.YthleebnfbdcobaaDoorTextP
import Derived.Test.YthleebnfbdcobaaDoorShelf
import Derived.Lib.ConvBytes
import Derived.Lib.AppendStr
import Derived.Laws.IdiomStrings
namespace Go.Proofs.YthleebnfbdcobaaDoor
open Go.RowKit

theorem prn_cases (r : Int) : (r = 9 ∨ r = 10 ∨ r = 133 ∨ r = 65279) ∨ ((r == 9) = false ∧ (r == 10) = false ∧ (r == 133) = false ∧ (r == 65279) = false ∧ (r != 65279) = true ∧
    ((r < 32 ∧ U.prn r = false) ∨ ((32 ≤ r ∧ r ≤ 126) ∧ U.prn r = true) ∨ ((126 < r ∧ r < 160) ∧ U.prn r = false) ∨ ((160 ≤ r ∧ r ≤ 55295) ∧ U.prn r = true) ∨ ((55295 < r ∧ r < 57344) ∧ U.prn r = false) ∨ ((57344 ≤ r ∧ r ≤ 65533) ∧ U.prn r = true) ∨
     ((65533 < r ∧ r < 65536) ∧ U.prn r = false) ∨ ((65536 ≤ r ∧ r ≤ 1114111) ∧ U.prn r = true) ∨ (1114111 < r ∧ U.prn r = false))) := by
  by_cases h : r = 9 ∨ r = 10 ∨ r = 133 ∨ r = 65279
  · exact .inl h
  · refine .inr ⟨by simp; omega, by simp; omega, by simp; omega, by simp; omega, by simp; omega, ?_⟩
    unfold U.prn
    rw [decide_eq_true_eq, decide_eq_false_iff_not]
    omega

/-! ### text.wrong -/
theorem wrongAt_over (s : ByteArray) (pos : Nat) (h : ¬ pos < s.size) : U.wrongAt (s.data.toList.drop pos) pos = -1 := by
  rw [List.drop_eq_nil_of_le (by rw [← Lib.size_eq]; omega)]; rfl
theorem wrongAt_next (s : ByteArray) (pos : Nat) (h : pos < s.size) (hb : U.bad (s.data.toList.drop pos) = false) (hq : U.prn ((Utf8.decode s pos).1 : Int) = true ∨ (Utf8.decode s pos).1 = 13) :
    U.wrongAt (s.data.toList.drop pos) pos = U.wrongAt (s.data.toList.drop (pos + (Utf8.decode s pos).2)) (pos + (Utf8.decode s pos).2) := by
  rw [U.wrongAt_step _ _ (drop_ne h), if_pos, Lib.decodeL_drop, List.drop_drop]
  unfold U.fine
  rw [hb, Lib.decodeL_drop]
  rcases hq with h | h <;> simp [h]
theorem wrongAt_here (s : ByteArray) (pos : Nat) (h : pos < s.size) (hb : U.bad (s.data.toList.drop pos) = true ∨ (U.prn ((Utf8.decode s pos).1 : Int) = false ∧ ¬ (Utf8.decode s pos).1 = 13)) :
    U.wrongAt (s.data.toList.drop pos) pos = (pos : Int) := by
  rw [U.wrongAt_step _ _ (drop_ne h), if_neg]
  unfold U.fine
  rw [Lib.decodeL_drop]
  rcases hb with h | ⟨h, h2⟩
  · simp [h]
  · simp [h, h2]

/-! ### text.endRows -/
/-- The library's variable MaxLen holds a number. -/
def MaxIs (w : World) : Prop := ∃ m : Int, w.cell? ⟨0, 0, none⟩ = some (.int .i64 m)
theorem maxIs_shaped (w : World) (h : w.ShapedOpen Tryd.prog) : MaxIs w :=
  Go.Proofs.cell_of_shapedOpen_int (zero := #[.int .i64 0]) (t := 3) h (of_decide_eq_true (by kernel_rfl)) (by kernel_rfl) rfl (by kernel_rfl) (by kernel_rfl) Tryd.underlying3
theorem MaxIs.below {w w' : World} (h : MaxIs w) (hb : Below w.heap.size w w') : MaxIs w' := by
  obtain ⟨m, hm⟩ := h
  exact ⟨m, by rw [hb.cell (World.block_lt_of_cell? w _ hm)]; exact hm⟩
end Go.Proofs.YthleebnfbdcobaaDoor
