/- What bosketlaw0.Blanks returns: so many blanks. Conditions: those that each theorem writes out. -/
import Derived.Test.YtomdhgbofocbbaaDoorTexts
namespace Go.Proofs.YtomdhgbofocbbaaDoor
open Go.RowKit

theorem size_list (l : List UInt8) : (⟨l.toArray⟩ : ByteArray).size = l.length := by simp [ByteArray.size]
set_option maxHeartbeats 400000 in
theorem lawBlanks_is (n : Nat) (z : Int) (w : World) (hz : z = (n : Int)) (hn : n ≤ 1000000000) :
    Calls Tryd.prog 12 #[.int .i64 z] w fun e w' => e = .returned (.string ⟨(List.replicate n (32 : UInt8)).toArray⟩) ∧ w = w' := by
  subst hz
  go_enter Tryd.func12, Tryd.ntmps12
  go_wp2
  go_loop [3, 4] (fun s i => ∃ (k : Nat) (l : List UInt8), i = .int .i64 (k : Int) ∧ s = .string ⟨l.toArray⟩ ∧ k ≤ n ∧ l.length = k ∧ Hid (l = List.replicate k (32 : UInt8))) (fun _ i => n - (intOf i).toNat)
  case atStart => exact ⟨0, [], rfl, rfl, Nat.zero_le _, rfl, rfl⟩
  case round =>
    obtain ⟨k, l, rfl, rfl, hk, hl, H⟩ := hrel
    have hl2 := size_list l
    rw [hl] at hl2
    by_cases hk2 : k < n
    · go_wp2
      go_round
      case rel => exact ⟨k + 1, l ++ [32], by go_num, congrArg Value.string (ByteArray.mk_append_mk l [32]), by omega, by simp [hl], by show _ = _; rw [H.out, List.replicate_succ']⟩
      case measure => simp [intOf]; omega
    · obtain rfl : k = n := by omega
      have HE := H.out
      subst HE
      go_wp2
      go_ret
      exact ⟨rfl, rfl⟩

end Go.Proofs.YtomdhgbofocbbaaDoor
