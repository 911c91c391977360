/- Package quot: how one row of a scalar is read: what 'row' returns. Conditions: those that each theorem writes out (lengths that memory can hold; what two of the library's variables hold). -/
import Derived.Test.YthleebnfbdcobaaGreatDoorQuotH
import Derived.Test.YthleebnfbdcobaaGreatDoorQuotD
import Derived.Test.YthleebnfbdcobaaGreatDoorBuildR
import Derived.Test.YthleebnfbdcobaaGreatDoorEscaRead
import Derived.Deep.DrawnRows
namespace Go.Proofs.YthleebnfbdcobaaGreatDoor
open Go.RowKit
attribute [local go_sem ↓] Go.wp_at_zero Go.wp_at_succ

/-- What a row is: its text x, the place behind what ends it, what that is, and what is wrong; and how the scalar goes on. -/
def RowA (s : ByteArray) (q : Nat) (n : Int) (T : List UInt8) (E : Nat) (O : Bool) (C : Int) (R : List (List UInt8 × Bool)) (fr : Nat) (x : List UInt8) (te : Nat) (by' c : Int) : Prop :=
  (c = 5 ∧ by' = 0 ∧ x = [] ∧ T = [] ∧ E = te ∧ O = false ∧ C = 5) ∨
  (c = 0 ∧ x.length + 1 ≤ 2 * (te - fr) ∧ fr < te ∧ te ≤ s.size ∧
    ((by' = (q : Int) ∧ T = qT (R ++ [(x, false)]) ∧ E = te ∧ O = R.isEmpty ∧ C = 0) ∨
     (by' = 10 ∧ byt s (te - 1) = 10 ∧ QZ s q n T E O C te true (R ++ [(x, false)]) [] []) ∨
     (by' = 92 ∧ byt s (te - 1) = 10 ∧ QZ s q n T E O C te true (R ++ [(x, true)]) [] [])))
/-- Where the loop stands: at k of the text from fr on; out is laid up te kept. -/
def RowL (s : ByteArray) (q : Nat) (n : Int) (T : List UInt8) (E : Nat) (O : Bool) (C : Int) (R : List (List UInt8 × Bool)) (p kept : Nat) (out : List UInt8) : Prop :=
  (kept ≤ p ∧ ∃ t w, RowS s kept p out t w ∧ QZ s q n T E O C p false R t w) ∨ (p < kept ∧ (∀ j, j < kept → p ≤ j → byt s j < 128) ∧ QZ s q n T E O C kept false R out [])

theorem mk_append (a b : List UInt8) : (⟨(a ++ b).toArray⟩ : ByteArray) = ⟨a.toArray⟩ ++ ⟨b.toArray⟩ := by rw [ByteArray.mk_append_mk]
theorem wrapQ (x : Int) (h0 : 0 ≤ x) (h1 : x ≤ 4398046511104) : IntKind.i64.wrap x = x := by
  simp [IntKind.wrap, IntKind.bits, IntKind.signed]
  omega
/-- Does a text go on with this byte? -/
theorem pre1 (s : ByteArray) (p : Nat) (ch : UInt8) (hp : p ≤ s.size) : Lib.hasPrefix (s.extract p s.size).data.toList [ch] = decide (p < s.size ∧ byt s p = ch.toNat) := by
  have hx : (s.extract p s.size).data.toList = s.data.toList.drop p := by
    rw [Lib.extract_data, List.take_of_length_le]
    rw [List.length_drop, Lib.size_eq]; exact Nat.le_refl _
  rw [hx]
  by_cases h : p < s.size
  · obtain ⟨b, hd, hb⟩ := drop_byte s p h
    rw [hd, Bool.eq_iff_iff]
    simp [Lib.hasPrefix, h, ← hb, UInt8.toNat_inj]
    exact eq_comm
  · rw [List.drop_eq_nil_of_le (by rw [← Lib.size_eq]; omega)]
    simp [Lib.hasPrefix, h]
theorem quotPre (v : Bool) (s : ByteArray) (p : Nat) (m : ByteArray) (ch : UInt8) (w : World) (hp : p ≤ s.size) (hm : m = ⟨#[ch]⟩) (h : decide (p < s.size ∧ byt s p = ch.toNat) = v) :
    Calls Tryz.prog 27 #[.string (s.extract p s.size), .string m] w fun e w' => e = .returned (.bool v) ∧ w = w' := by
  subst hm
  refine (Tryz.strings_HasPrefix (s.extract p s.size) ⟨#[ch]⟩ w).mono ?_
  rintro e w' ⟨rfl, rfl⟩
  refine ⟨?_, rfl⟩
  rw [← h, ← pre1 s p ch hp]

end Go.Proofs.YthleebnfbdcobaaGreatDoor
