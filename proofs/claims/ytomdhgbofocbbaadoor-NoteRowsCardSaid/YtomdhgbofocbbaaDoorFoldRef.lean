/- The document's answers of chapter 6 (package bosketref1): what each of these functions returns. Conditions: those that each theorem writes out (lengths that memory can hold). -/
import Derived.Test.YtomdhgbofocbbaaDoorFold
namespace Go.Proofs.YtomdhgbofocbbaaDoor
open Go.RowKit

set_option maxHeartbeats 400000 in
theorem lawFeeds_is (n : Nat) (z : Int) (w : World) (hz : z.toNat = n) (hn : z ≤ 1000000000) :
    Calls Tryd.prog 11 #[.int .i64 z] w fun e w' => e = .returned (.string ⟨(U.feeds n).toArray⟩) ∧ w = w' := by
  go_enter Tryd.func11, Tryd.ntmps11
  go_wp2
  go_loop [3, 4] (fun s i => ∃ k : Nat, i = .int .i64 (k : Int) ∧ s = .string ⟨(U.feeds k).toArray⟩ ∧ k ≤ n) (fun _ i => n - (intOf i).toNat)
  case atStart => exact ⟨0, rfl, rfl, Nat.zero_le _⟩
  case round =>
    obtain ⟨k, rfl, rfl, hk⟩ := hrel
    have hl := U.feeds_length k
    by_cases hk2 : k < n
    · have hlt : (k : Int) < z := by omega
      go_wp2
      go_round
      case rel => exact ⟨k + 1, by go_num, by rw [U.feeds_succ]; exact congrArg Value.string (ByteArray.mk_append_mk _ [10]), by omega⟩
      case measure => simp [intOf]; omega
    · have hlt : ¬ (k : Int) < z := by omega
      obtain rfl : k = n := by omega
      go_wp2
      go_ret
      exact ⟨rfl, rfl⟩

/-- The first byte of a row that is something. -/
theorem first_byte (r : List UInt8) (h : r ≠ []) : ∃ b : Nat, (∀ W, (Instr.index 9 (.string ⟨r.toArray⟩) (.int .i64 0)).run Tryd.prog W = .ok (.int .u8 (b : Int)) W) ∧ U.white (b : Int) = U.whiteL r := by
  cases r with
  | nil => exact absurd rfl h
  | cons a t => exact ⟨_, run_byt (⟨(a :: t).toArray⟩ : ByteArray) 0 (by rw [size_mk]; simp) 0 rfl, rfl⟩
theorem str_app3 (a b c : List UInt8) : Value.string ((⟨a.toArray⟩ : ByteArray) ++ ⟨b.toArray⟩ ++ ⟨c.toArray⟩) = .string ⟨(a ++ b ++ c).toArray⟩ := by
  rw [ByteArray.mk_append_mk, ByteArray.mk_append_mk]
theorem str_app2 (a b : List UInt8) : Value.string ((⟨a.toArray⟩ : ByteArray) ++ ⟨b.toArray⟩) = .string ⟨(a ++ b).toArray⟩ := by
  rw [ByteArray.mk_append_mk]

end Go.Proofs.YtomdhgbofocbbaaDoor
