/- The document's answer of chapter 8, its parts: digits, whole, number. Conditions: those that each theorem writes out (lengths that memory can hold). -/
import Derived.Test.YtckdhidcbkbeoaaDoorCore2
namespace Go.Proofs.YtckdhidcbkbeoaaDoor
open Go.RowKit

set_option maxHeartbeats 800000 in
theorem coreRefHex_is (v : Int) (c : Nat) (w : World) (hc : c < 256) (h : U.cHexV c = v) :
    Calls Tryd.prog 69 #[.int .u8 (c : Int)] w fun e w' => e = .returned (.int .i32 v) ∧ w = w' := by
  have H := Lib.hid h
  clear h
  unfold U.cHexV at H
  rcases (show c < 48 ∨ (48 ≤ c ∧ c ≤ 57) ∨ (57 < c ∧ c < 65) ∨ (65 ≤ c ∧ c ≤ 70) ∨ (70 < c ∧ c < 97) ∨ (97 ≤ c ∧ c ≤ 102) ∨ 102 < c from by omega) with g | ⟨g, g2⟩ | ⟨g, g2⟩ | ⟨g, g2⟩ | ⟨g, g2⟩ | ⟨g, g2⟩ | g
  all_goals
    go_enter Tryd.func69, Tryd.ntmps69
    go_wp2
    go_ret
    refine ⟨congrArg (fun z : Int => Ending.returned (.int .i32 z)) (?_ : _ = v), rfl⟩
    have H2 := H.out
    repeat' split at H2
    all_goals omega

set_option maxHeartbeats 800000 in
theorem coreRefDigits_is {p : Int → Bool} {most : Int} (hp : U.cMost p most) (n : Nat) (s : ByteArray) (k : Nat) (at' : Int) (w : World) (hs : s.size ≤ 1099511627776) (hat : at' = (k : Int)) (hk : k ≤ s.size) (h : U.cRun p (s.data.toList.drop k) = n) :
    Calls Tryd.prog 52 #[.string s, .int .i64 at', .int .i32 most] w fun e w' => e = .returned (.int .i64 (n : Int)) ∧ w = w' := by
  subst hat
  have HQ := Lib.hid h
  clear h
  go_enter Tryd.func52, Tryd.ntmps52
  go_wp2
  go_loop [7] (fun i => ∃ j : Nat, i = .int .i64 (j : Int) ∧ k + j ≤ s.size ∧ Hid (j + U.cRun p (s.data.toList.drop (k + j)) = n)) (fun i => s.size - (intOf i).toNat)
  case atStart => exact ⟨0, rfl, hk, by show _ = _; rw [Nat.add_zero, HQ.out, Nat.zero_add]⟩
  case round =>
    obtain ⟨j, rfl, hj, H⟩ := hrel
    by_cases hk2 : k + j < s.size
    · obtain ⟨b, hd, hb⟩ := drop_byte s (k + j) hk2
      have hi := run_byt s (k + j) hk2 ((k : Int) + (j : Int)) (by omega)
      have hlt := byt_lt s (k + j)
      have H2 := H.out
      rw [hd, U.cRun_cons, hb, hp] at H2
      obtain ⟨x, hx⟩ : ∃ x : Nat, x = byt s (k + j) := ⟨_, rfl⟩
      rw [← hx] at hi H2 hlt
      clear hx hd hb b H
      obtain ⟨v, hv⟩ : ∃ v, U.cHexV x = v := ⟨_, rfl⟩
      rw [hv] at H2
      have HV := Lib.hid hv
      clear hv
      have HX := Lib.hid hlt
      clear hlt
      by_cases h0 : 0 ≤ v
      · by_cases h1 : v < most
        · rw [if_pos (by simp [h0, h1])] at H2
          have F := Lib.hid H2
          clear H2
          go_wp2_with fail
          refine (coreRefHex_is v x _ HX.out HV.out).mono ?_
          rintro e w1 ⟨rfl, rfl⟩
          go_wp2_with fail
          refine (coreRefHex_is v x _ HX.out HV.out).mono ?_
          rintro e w1 ⟨rfl, rfl⟩
          go_wp2
          go_round
          case rel => exact ⟨j + 1, by go_num, by omega, by show _ = _; rw [← F.out, show k + (j + 1) = k + j + 1 from by omega]; omega⟩
          case measure => simp [intOf]; omega
        · rw [if_neg (by simp [h1])] at H2
          have F := Lib.hid H2
          clear H2
          go_wp2_with fail
          refine (coreRefHex_is v x _ HX.out HV.out).mono ?_
          rintro e w1 ⟨rfl, rfl⟩
          go_wp2_with fail
          refine (coreRefHex_is v x _ HX.out HV.out).mono ?_
          rintro e w1 ⟨rfl, rfl⟩
          go_wp2
          go_ret
          exact ⟨by rw [← F.out]; rfl, rfl⟩
      · rw [if_neg (by simp [h0])] at H2
        have F := Lib.hid H2
        clear H2
        go_wp2_with fail
        refine (coreRefHex_is v x _ HX.out HV.out).mono ?_
        rintro e w1 ⟨rfl, rfl⟩
        go_wp2
        go_ret
        exact ⟨by rw [← F.out]; rfl, rfl⟩
    · have H2 := H.out
      rw [List.drop_eq_nil_of_le (by rw [← Lib.size_eq]; omega)] at H2
      have F := Lib.hid (show j = n by rw [← H2]; rfl)
      clear H2
      go_wp2
      go_ret
      exact ⟨by rw [← F.out]; rfl, rfl⟩

end Go.Proofs.YtckdhidcbkbeoaaDoor
