/- The program's package text, and the document's answers of chapter 2: what each of these functions returns. Conditions: those that each theorem writes out (lengths that memory can hold; the library's variable MaxLen holds a number). -/
import Derived.Test.YthleebnfbdcobaaGreatDoorUtfs
import Derived.Test.YthleebnfbdcobaaGreatDoorTextP
import Derived.Test.YthleebnfbdcobaaGreatDoorShelf
import Derived.Lib.ConvBytes
import Derived.Lib.AppendStr
import Derived.Laws.IdiomStrings
namespace Go.Proofs.YthleebnfbdcobaaGreatDoor
open Go.RowKit

theorem within_is (q : Bool) (r a b : Int) (w : World) (h : decide (a ≤ r ∧ r ≤ b) = q) :
    Calls Tryz.prog 36 #[.int .i32 r, .int .i32 a, .int .i32 b] w fun e w' => e = .returned (.bool q) ∧ w = w' := by
  subst h
  by_cases h1 : a ≤ r
  · by_cases h2 : r ≤ b
    · have hd : decide (a ≤ r ∧ r ≤ b) = true := by rw [decide_eq_true_eq]; omega
      rw [hd]; clear hd
      go_enter Tryz.func36, Tryz.ntmps36
      go_wp2
      go_ret
      exact ⟨rfl, rfl⟩
    · have hd : decide (a ≤ r ∧ r ≤ b) = false := by rw [decide_eq_false_iff_not]; omega
      rw [hd]; clear hd
      go_enter Tryz.func36, Tryz.ntmps36
      go_wp2
      go_ret
      exact ⟨rfl, rfl⟩
  · have hd : decide (a ≤ r ∧ r ≤ b) = false := by rw [decide_eq_false_iff_not]; omega
    rw [hd]; clear hd
    go_enter Tryz.func36, Tryz.ntmps36
    go_wp2
    go_ret
    exact ⟨rfl, rfl⟩

theorem prn_cases (r : Int) : (r = 9 ∨ r = 10 ∨ r = 133 ∨ r = 65279) ∨ ((r == 9) = false ∧ (r == 10) = false ∧ (r == 133) = false ∧ (r == 65279) = false ∧ (r != 65279) = true ∧
    ((r < 32 ∧ U.prn r = false) ∨ ((32 ≤ r ∧ r ≤ 126) ∧ U.prn r = true) ∨ ((126 < r ∧ r < 160) ∧ U.prn r = false) ∨ ((160 ≤ r ∧ r ≤ 55295) ∧ U.prn r = true) ∨ ((55295 < r ∧ r < 57344) ∧ U.prn r = false) ∨ ((57344 ≤ r ∧ r ≤ 65533) ∧ U.prn r = true) ∨
     ((65533 < r ∧ r < 65536) ∧ U.prn r = false) ∨ ((65536 ≤ r ∧ r ≤ 1114111) ∧ U.prn r = true) ∨ (1114111 < r ∧ U.prn r = false))) := by
  by_cases h : r = 9 ∨ r = 10 ∨ r = 133 ∨ r = 65279
  · exact .inl h
  · refine .inr ⟨by simp; omega, by simp; omega, by simp; omega, by simp; omega, by simp; omega, ?_⟩
    unfold U.prn
    rw [decide_eq_true_eq, decide_eq_false_iff_not]
    omega

set_option maxHeartbeats 400000 in
theorem Printable_any (r : Int) (w : World) :
    Calls Tryz.prog 19 #[.int .i32 r] w fun e w' => e = .returned (.bool (U.prn r)) ∧ w = w' := by
  rcases prn_cases r with (rfl | rfl | rfl | rfl) | ⟨h9, h10, h133, hf, hf2, h | h | h | h | h | h | h | h | h⟩
  case inl.inl | inl.inr.inl | inl.inr.inr.inl | inl.inr.inr.inr =>
    go_enter Tryz.func19, Tryz.ntmps19
    go_wp2
    go_ret
    exact ⟨rfl, rfl⟩
  all_goals
    obtain ⟨h, hq⟩ := h
    rw [hq]
    clear hq
    try obtain ⟨hl, hh⟩ := h
    go_enter Tryz.func19, Tryz.ntmps19
    go_wp2_with (go_at_call 36; refine (within_is _ _ _ _ _ (by first | (rw [decide_eq_true_eq]; omega) | (rw [decide_eq_false_iff_not]; omega))).mono ?_; rintro e w' ⟨rfl, rfl⟩)
    go_ret
    exact ⟨rfl, rfl⟩

theorem Printable_is (q : Bool) (r : Int) (w : World) (h : U.prn r = q) :
    Calls Tryz.prog 19 #[.int .i32 r] w fun e w' => e = .returned (.bool q) ∧ w = w' := by
  subst h; exact Printable_any r w

/-! ### text.wrong -/
theorem wrongAt_over (s : ByteArray) (pos : Nat) (h : ¬ pos < s.size) : U.wrongAt (s.data.toList.drop pos) pos = -1 := by
  rw [List.drop_eq_nil_of_le (by rw [← Lib.size_eq]; omega)]; rfl
theorem wrongAt_next (s : ByteArray) (pos : Nat) (h : pos < s.size) (hb : U.bad (s.data.toList.drop pos) = false) (hq : U.prn ((Utf8.decode s pos).1 : Int) = true ∨ (Utf8.decode s pos).1 = 13) :
    U.wrongAt (s.data.toList.drop pos) pos = U.wrongAt (s.data.toList.drop (pos + (Utf8.decode s pos).2)) (pos + (Utf8.decode s pos).2) := by
  rw [U.wrongAt_step _ _ (drop_ne h), if_pos, Lib.decodeL_drop, List.drop_drop]
  unfold U.fine
  rw [hb, Lib.decodeL_drop]
  rcases hq with h | h <;> simp [h]
theorem wrongAt_here (s : ByteArray) (pos : Nat) (h : pos < s.size) (hb : U.bad (s.data.toList.drop pos) = true ∨ (U.prn ((Utf8.decode s pos).1 : Int) = false ∧ ¬ (Utf8.decode s pos).1 = 13)) :
    U.wrongAt (s.data.toList.drop pos) pos = (pos : Int) := by
  rw [U.wrongAt_step _ _ (drop_ne h), if_neg]
  unfold U.fine
  rw [Lib.decodeL_drop]
  rcases hb with h | ⟨h, h2⟩
  · simp [h]
  · simp [h, h2]

/-! ### text.endRows -/
/-- The library's variable MaxLen holds a number. -/
def MaxIs (w : World) : Prop := ∃ m : Int, w.cell? ⟨0, 0, none⟩ = some (.int .i64 m)
theorem maxIs_shaped (w : World) (h : w.ShapedOpen Tryz.prog) : MaxIs w :=
  Go.Proofs.cell_of_shapedOpen_int (zero := #[.int .i64 0]) (t := 3) h (of_decide_eq_true (by kernel_rfl)) (by kernel_rfl) rfl (by kernel_rfl) (by kernel_rfl) Tryz.underlying3
theorem MaxIs.below {w w' : World} (h : MaxIs w) (hb : Below w.heap.size w w') : MaxIs w' := by
  obtain ⟨m, hm⟩ := h
  exact ⟨m, by rw [hb.cell (World.block_lt_of_cell? w _ hm)]; exact hm⟩
theorem ReplaceAll_is (l old new out : List UInt8) (w : World) (hm : MaxIs w) (h1 : 1 ≤ old.length) (hn : new.length ≤ 8) (hs : l.length ≤ 16777216) (ho : Lib.replaceAll l old new = out) :
    Calls Tryz.prog 10 #[.string ⟨l.toArray⟩, .string ⟨old.toArray⟩, .string ⟨new.toArray⟩] w fun e w' => e = .returned (.string ⟨out.toArray⟩) ∧ Below w.heap.size w w' := by
  subst ho
  obtain ⟨m, hm⟩ := hm
  have hc := U.count_le ⟨old.toArray⟩ (by simpa [ByteArray.size] using h1) l
  have hc2 : Lib.countB ⟨l.toArray⟩ ⟨old.toArray⟩ * new.length ≤ l.length * 8 := Nat.mul_le_mul hc hn
  exact Tryz.strings_ReplaceAll ⟨l.toArray⟩ ⟨old.toArray⟩ ⟨new.toArray⟩ m w (by simp [ByteArray.size]; omega) hm (by simpa [ByteArray.size] using h1) (by
    have e1 : (⟨l.toArray⟩ : ByteArray).size = l.length := by simp [ByteArray.size]
    have e2 : (⟨new.toArray⟩ : ByteArray).size = new.length := by simp [ByteArray.size]
    rw [e1, e2]; omega)
end Go.Proofs.YthleebnfbdcobaaGreatDoor
