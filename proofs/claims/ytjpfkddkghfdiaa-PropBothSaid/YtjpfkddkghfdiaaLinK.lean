/- The program's package rows: the kind of a row, and blank rows above. Conditions: those that each theorem writes out (lengths that memory can hold). -/
import Derived.Test.YtjpfkddkghfdiaaLin
namespace Go.Proofs.Ytjpfkddkghfdiaa
open Go.RowKit

theorem endc_ne {b : Nat} (h : b ≠ 10) : U.endc (b : Int) = U.white (b : Int) := by
  rw [white_endc]
  have : ((b : Int) == 10) = false := by simp; omega
  rw [this, Bool.or_false]
theorem prefix3 (s : ByteArray) (ch : UInt8) : Lib.hasPrefix s.data.toList [ch, ch, ch] = decide (3 ≤ s.size ∧ byt s 0 = ch.toNat ∧ byt s 1 = ch.toNat ∧ byt s 2 = ch.toNat) := by
  rw [byt_list, byt_list, byt_list, Lib.size_eq]
  unfold Lib.hasPrefix
  rw [Bool.eq_iff_iff, decide_eq_true_eq]
  rcases hl : s.data.toList with _ | ⟨x, _ | ⟨y, _ | ⟨z, t⟩⟩⟩
  · simp
  · simp [List.isPrefixOf]
  · simp [List.isPrefixOf]
  · simp only [List.isPrefixOf, Bool.and_eq_true, beq_iff_eq, List.length_cons, List.getD_cons_zero, List.getD_cons_succ, Bool.and_true]
    constructor
    · rintro ⟨rfl, rfl, rfl⟩
      exact ⟨by omega, rfl, rfl, rfl⟩
    · rintro ⟨_, h1, h2, h3⟩
      exact ⟨(UInt8.toNat_inj.1 h1).symm, (UInt8.toNat_inj.1 h2).symm, (UInt8.toNat_inj.1 h3).symm⟩
/-- What the program asks of a row: that is the mark. -/
theorem marked_row (s : ByteArray) (a b : Nat) (ch : UInt8) (hab : a ≤ b) (hb : b ≤ s.size) (hn : ∀ j, j < b → a ≤ j → byt s j ≠ 10) :
    (Lib.hasPrefix (s.extract a b).data.toList [ch, ch, ch] && endsB (s.extract a b) 3) = mk3 s a b ch.toNat := by
  have hsz := size_piece s a b hb
  rw [prefix3, hsz]
  unfold mk3
  by_cases h3 : 3 ≤ b - a
  · rw [byt_extract s a b 0 (by omega), byt_extract s a b 1 (by omega), byt_extract s a b 2 (by omega), Nat.add_zero]
    have he : endsB (s.extract a b) 3 = decide (a + 3 = b ∨ U.white (byt s (a + 3) : Int) = true) := by
      by_cases h4 : a + 3 = b
      · rw [endsB_out _ _ (.inr (by rw [hsz]; omega))]
        simp [h4]
      · rw [show (3 : Int) = ((3 : Nat) : Int) from rfl, endsB_in _ 3 (by rw [hsz]; omega), byt_extract s a b 3 (by omega), endc_ne (hn _ (by omega) (by omega))]
        simp [h4]
    rw [he, Bool.eq_iff_iff]
    simp only [Bool.and_eq_true, decide_eq_true_eq]
    constructor
    · rintro ⟨⟨_, h5, h6, h7⟩, h8⟩; exact ⟨by omega, h5, h6, h7, h8⟩
    · rintro ⟨_, h5, h6, h7, h8⟩; exact ⟨⟨h3, h5, h6, h7⟩, h8⟩
  · rw [decide_eq_false (fun h => h3 h.1), Bool.false_and, decide_eq_false (fun h => h3 (by omega))]

theorem wl_lf {b : Nat} (h : b = 10) : wl b = true := by subst h; rfl
theorem wl_other {b : Nat} (h : b ≠ 10) : wl b = U.white (b : Int) := by
  unfold wl; rw [decide_eq_false h, Bool.false_or]

end Go.Proofs.Ytjpfkddkghfdiaa
