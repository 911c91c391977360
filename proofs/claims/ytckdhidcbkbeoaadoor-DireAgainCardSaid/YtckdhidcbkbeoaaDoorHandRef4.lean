/- The document's answer of chapter 9: full forms. Conditions: those that each theorem writes out (lengths that memory can hold). -/
import Derived.Test.YtckdhidcbkbeoaaDoorHandRef3
namespace Go.Proofs.YtckdhidcbkbeoaaDoor
open Go.RowKit

/-- The handle's bytes, as the document reckons them. -/
theorem handle_way {t : List UInt8} {a b c m : Nat} (hab : U.tHand (t.drop 1) = (a, b)) (hc : U.tH (t.drop 1) = c) (hm : U.tR U.sfx 0 (t.drop c) = m) : (m = 0 ∧ a = 1) ∨ (m ≠ 0 ∧ a = c) := by
  unfold U.tHand at hab
  by_cases hh : ((t.drop 1).drop (U.tR U.wordc 0 (t.drop 1))).headD 0 = 33
  · have hc2 : c = U.tR U.wordc 0 (t.drop 1) + 2 := by rw [← hc]; unfold U.tH; rw [if_pos hh]
    have e : (t.drop 1).drop (U.tR U.wordc 0 (t.drop 1) + 1) = t.drop c := by
      rw [List.drop_drop, hc2]; congr 1; omega
    rw [e, hm] at hab
    by_cases hm0 : 0 < m
    · rw [if_pos ⟨hh, hm0⟩] at hab
      exact .inr ⟨by omega, by rw [hc2]; exact (Prod.mk.inj hab).1.symm⟩
    · rw [if_neg (fun x => hm0 x.2)] at hab
      exact .inl ⟨by omega, (Prod.mk.inj hab).1.symm⟩
  · have hc2 : c = 1 := by rw [← hc]; unfold U.tH; rw [if_neg hh]
    rw [if_neg (fun x => hh x.1)] at hab
    have ha := (Prod.mk.inj hab).1
    by_cases hm0 : m = 0
    · exact .inl ⟨hm0, ha.symm⟩
    · exact .inr ⟨hm0, by omega⟩

theorem wrap_i64 (x : Int) (h0 : 0 ≤ x) (h1 : x ≤ 4398046511104) : IntKind.i64.wrap x = x := by
  simp [IntKind.wrap, IntKind.bits, IntKind.signed]
  omega
theorem wrap_i32 (x : Int) (h0 : 0 ≤ x) (h1 : x ≤ 65536) : IntKind.i32.wrap x = x := by
  simp [IntKind.wrap, IntKind.bits, IntKind.signed]
  omega
theorem wrap_u8 (x : Int) (h0 : 0 ≤ x) (h1 : x ≤ 255) : IntKind.u8.wrap x = x := by
  simp [IntKind.wrap, IntKind.bits, IntKind.signed]
  omega
/-- The loop over a suffix, with all that stands behind it: what comes is told by the last place's answer. -/
theorem suffix_step {s : ByteArray} {i : Nat} {l D : List UInt8} (hi : i < s.size) (h : U.tR U.sfx 0 (s.data.toList.drop i) = s.size - i ∧ l ++ U.tDs 0 0 (s.data.toList.drop i) = D) :
    (byt s i ≠ 37 ∧ ∃ b : UInt8, b.toNat = byt s i ∧ U.tR U.sfx 0 (s.data.toList.drop (i + 1)) = s.size - (i + 1) ∧ (l ++ [b]) ++ U.tDs 0 0 (s.data.toList.drop (i + 1)) = D) ∨
    (byt s i = 37 ∧ i + 2 < s.size ∧ ∃ v1 v2 : Nat, v1 ≤ 15 ∧ v2 ≤ 15 ∧ U.cHexV (byt s (i + 1)) = (v1 : Int) ∧ U.cHexV (byt s (i + 2)) = (v2 : Int) ∧
      U.tR U.sfx 0 (s.data.toList.drop (i + 3)) = s.size - (i + 3) ∧ (l ++ [UInt8.ofNat (v1 * 16 + v2)]) ++ U.tDs 0 0 (s.data.toList.drop (i + 3)) = D) := by
  obtain ⟨b, hd, hb⟩ := drop_byte s i hi
  rw [hd, U.tR_zero, U.tDs_zero, hb] at h
  obtain ⟨h1, h2⟩ := h
  by_cases h37 : byt s i = 37
  · rw [if_pos h37] at h1 h2
    split at h1
    · have hlen := U.tR_le U.sfx (s.data.toList.drop (i + 1)) 2 (by omega)
      by_cases hi1 : i + 1 < s.size
      · obtain ⟨b1, hd1, hb1⟩ := drop_byte s (i + 1) hi1
        rw [hd1, U.tR_two] at h1
        rw [hd1, U.tDs_two] at h2
        split at h1
        · rename_i g1
          by_cases hi2 : i + 2 < s.size
          · obtain ⟨b2, hd2, hb2⟩ := drop_byte s (i + 2) hi2
            rw [show i + 1 + 1 = i + 2 from rfl, hd2] at h1 h2
            rw [U.tR_one] at h1
            rw [U.tDs_one] at h2
            split at h1
            · rename_i g2
              rw [U.hx_iff, hb1] at g1
              rw [U.hx_iff, hb2] at g2
              have r1 := U.hexV_le (byt s (i + 1))
              have r2 := U.hexV_le (byt s (i + 2))
              refine .inr ⟨h37, hi2, (U.cHexV (byt s (i + 1))).toNat, (U.cHexV (byt s (i + 2))).toNat, by omega, by omega, by omega, by omega, ?_, ?_⟩
              · rw [show i + 2 + 1 = i + 3 from rfl] at h1; omega
              · rw [show i + 2 + 1 = i + 3 from rfl, hb1, hb2, Nat.zero_mul, Nat.zero_add] at h2
                rw [List.append_assoc]; exact h2
            · omega
          · rw [List.drop_eq_nil_of_le (by rw [← Lib.size_eq]; omega), U.tR_nil] at h1
            omega
        · omega
      · rw [List.drop_eq_nil_of_le (by rw [← Lib.size_eq]; omega), U.tR_nil] at h1
        omega
    · omega
  · rw [if_neg h37] at h1 h2
    refine .inl ⟨h37, b, hb, ?_, by rw [List.append_assoc]; exact h2⟩
    split at h1
    · omega
    · omega

end Go.Proofs.YtckdhidcbkbeoaaDoor
