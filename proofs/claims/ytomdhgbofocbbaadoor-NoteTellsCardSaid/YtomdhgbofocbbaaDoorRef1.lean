/- The document's answers of chapter 1: what each of these functions returns. Conditions: those that each theorem writes out (lengths that memory can hold). -/
import Derived.Test.YtomdhgbofocbbaaDoorUtfs
namespace Go.Proofs.YtomdhgbofocbbaaDoor
open Go.RowKit

/-- What 'One' answers of the bytes from a place on. -/
def one (l : List UInt8) : Nat × Nat := if U.bad l = true then (0, 0) else Lib.decodeL l
/-- The byte at a place (0 behind the end). -/
def byt (s : ByteArray) (i : Nat) : Nat := (s.get! i).toNat
/-- What has been read of a code point when i bytes behind the first one are. -/
def acc (s : ByteArray) (pos : Nat) (m : Nat) : Nat → Nat
  | 0 => m
  | i + 1 => acc s pos m i * 64 + byt s (pos + (i + 1)) % 64
def oneN (n b0 b1 b2 b3 : Nat) : Nat × Nat := if (Lib.decodeN n b0 b1 b2 b3).1 = 65533 ∧ (Lib.decodeN n b0 b1 b2 b3).2 = 1 then (0, 0) else Lib.decodeN n b0 b1 b2 b3

theorem byt_lt (s : ByteArray) (i : Nat) : byt s i < 256 := UInt8.toNat_lt _
theorem one_eq (s : ByteArray) (pos : Nat) : one (s.data.toList.drop pos) = oneN (s.size - pos) (byt s pos) (byt s (pos + 1)) (byt s (pos + 2)) (byt s (pos + 3)) := by
  unfold one oneN byt
  rw [← Lib.decode_at, ← Lib.decodeL_drop]
  by_cases h : U.bad (s.data.toList.drop pos) = true
  · rw [if_pos h, if_pos ((U.bad_iff _).1 h)]
  · rw [if_neg h, if_neg (fun x => h ((U.bad_iff _).2 x))]
theorem oneN_none {n b0 b1 b2 b3 : Nat} (h : Lib.decodeN n b0 b1 b2 b3 = (65533, 1)) : oneN n b0 b1 b2 b3 = (0, 0) := by
  unfold oneN; rw [if_pos (by rw [h]; exact ⟨rfl, rfl⟩)]
theorem oneN_some {n b0 b1 b2 b3 c k : Nat} (h : Lib.decodeN n b0 b1 b2 b3 = (c, k)) (hk : c < 128 ∨ 2 ≤ k) : oneN n b0 b1 b2 b3 = (c, k) := by
  unfold oneN
  rw [h, if_neg]
  intro x
  dsimp only at x
  omega

/-! ### the answers, a class of first bytes at a time -/
theorem oneA (n b0 b1 b2 b3 : Nat) (h : b0 < 128) : oneN n b0 b1 b2 b3 = (b0, 1) :=
  oneN_some (by unfold Lib.decodeN; rw [if_pos h]) (.inl h)
theorem oneZ (n b0 b1 b2 b3 : Nat) (h : (128 ≤ b0 ∧ b0 < 194) ∨ 245 ≤ b0) (h256 : b0 < 256) : oneN n b0 b1 b2 b3 = (0, 0) := by
  apply oneN_none
  rcases Lib.decodeN_shape n b0 b1 b2 b3 with ⟨c, e⟩ | ⟨c1, c2, c3, cv, e⟩ | ⟨c1, c2, c3, c4, cv, cs, e⟩ | ⟨c1, c2, c3, c4, c5, cv, cw, e⟩ | e
  · omega
  · omega
  · omega
  · omega
  · exact e
theorem oneB (n b0 b1 b2 b3 : Nat) (h : 194 ≤ b0 ∧ b0 < 224) :
    oneN n b0 b1 b2 b3 = if 2 ≤ n ∧ b1 / 64 = 2 then (b0 % 32 * 64 + b1 % 64, 2) else (0, 0) := by
  by_cases hc : 2 ≤ n ∧ b1 / 64 = 2
  · rw [if_pos hc]
    apply oneN_some _ (.inr (Nat.le_refl _))
    unfold Lib.decodeN
    rw [if_neg (by omega), if_pos (by omega), if_pos (by omega)]
  · rw [if_neg hc]
    apply oneN_none
    unfold Lib.decodeN
    rw [if_neg (by omega), if_neg (by omega), if_neg (by omega), if_neg (by omega)]
theorem oneC (n b0 b1 b2 b3 : Nat) (h : 224 ≤ b0 ∧ b0 < 240) :
    oneN n b0 b1 b2 b3 = if 3 ≤ n ∧ b1 / 64 = 2 ∧ b2 / 64 = 2 ∧ 2048 ≤ (b0 % 16 * 64 + b1 % 64) * 64 + b2 % 64 ∧ ¬ (55296 ≤ (b0 % 16 * 64 + b1 % 64) * 64 + b2 % 64 ∧ (b0 % 16 * 64 + b1 % 64) * 64 + b2 % 64 ≤ 57343) then ((b0 % 16 * 64 + b1 % 64) * 64 + b2 % 64, 3) else (0, 0) := by
  by_cases hc : 3 ≤ n ∧ b1 / 64 = 2 ∧ b2 / 64 = 2 ∧ 2048 ≤ (b0 % 16 * 64 + b1 % 64) * 64 + b2 % 64 ∧ ¬ (55296 ≤ (b0 % 16 * 64 + b1 % 64) * 64 + b2 % 64 ∧ (b0 % 16 * 64 + b1 % 64) * 64 + b2 % 64 ≤ 57343)
  · rw [if_pos hc]
    apply oneN_some _ (.inr (by omega))
    unfold Lib.decodeN
    rw [if_neg (by omega), if_neg (by omega), if_pos ⟨by omega, by omega, by omega⟩, if_pos ⟨by omega, by omega⟩, Prod.mk.injEq]
    exact ⟨by omega, rfl⟩
  · rw [if_neg hc]
    apply oneN_none
    unfold Lib.decodeN
    rw [if_neg (by omega), if_neg (by omega)]
    by_cases hd : b0 / 16 = 14 ∧ (1 < n ∧ b1 / 64 = 2) ∧ (2 < n ∧ b2 / 64 = 2)
    · rw [if_pos hd, if_neg (by omega)]
    · rw [if_neg hd, if_neg (by omega)]
theorem oneD (n b0 b1 b2 b3 : Nat) (h : 240 ≤ b0 ∧ b0 < 245) :
    oneN n b0 b1 b2 b3 = if 4 ≤ n ∧ b1 / 64 = 2 ∧ b2 / 64 = 2 ∧ b3 / 64 = 2 ∧ 65536 ≤ ((b0 % 8 * 64 + b1 % 64) * 64 + b2 % 64) * 64 + b3 % 64 ∧ ((b0 % 8 * 64 + b1 % 64) * 64 + b2 % 64) * 64 + b3 % 64 ≤ 1114111 then (((b0 % 8 * 64 + b1 % 64) * 64 + b2 % 64) * 64 + b3 % 64, 4) else (0, 0) := by
  by_cases hc : 4 ≤ n ∧ b1 / 64 = 2 ∧ b2 / 64 = 2 ∧ b3 / 64 = 2 ∧ 65536 ≤ ((b0 % 8 * 64 + b1 % 64) * 64 + b2 % 64) * 64 + b3 % 64 ∧ ((b0 % 8 * 64 + b1 % 64) * 64 + b2 % 64) * 64 + b3 % 64 ≤ 1114111
  · rw [if_pos hc]
    apply oneN_some _ (.inr (by omega))
    unfold Lib.decodeN
    rw [if_neg (by omega), if_neg (by omega), if_neg (by omega), if_pos ⟨by omega, by omega, by omega, by omega⟩, if_pos ⟨by omega, by omega⟩, Prod.mk.injEq]
    exact ⟨by omega, rfl⟩
  · rw [if_neg hc]
    apply oneN_none
    unfold Lib.decodeN
    rw [if_neg (by omega), if_neg (by omega), if_neg (by omega)]
    by_cases hd : b0 / 8 = 30 ∧ (1 < n ∧ b1 / 64 = 2) ∧ (2 < n ∧ b2 / 64 = 2) ∧ (3 < n ∧ b3 / 64 = 2)
    · rw [if_pos hd, if_neg (by omega)]
    · rw [if_neg hd]

theorem run_byt (s : ByteArray) (i : Nat) (h : i < s.size) (x : Int) (hx : x = (i : Int)) : ∀ W, (Instr.index 9 (.string s) (.int .i64 x)).run Tryd.prog W = .ok (.int .u8 (byt s i : Int)) W := by
  intro W
  subst hx
  have e : s.get! i = s[i]'h := by
    simp [ByteArray.get!, getElem!_pos, h]
    rfl
  simp [Instr.index, asIntOf, run_underlying Tryd.underlying9, byt, e, h]
theorem and192 (c : Nat) (h : c < 256) : bits .and .u8 (c : Int) 192 = ((c / 64 * 64 : Nat) : Int) := by
  have H : ∀ x : Fin 256, bits .and .u8 ((x.val : Nat) : Int) 192 = ((x.val / 64 * 64 : Nat) : Int) := by decide +kernel
  exact H ⟨c, h⟩

end Go.Proofs.YtomdhgbofocbbaaDoor
