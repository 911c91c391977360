/- The document's answer of chapter 8, its parts: digits, whole, number. Conditions: those that each theorem writes out (lengths that memory can hold). -/
import Derived.Test.YtlaljfdohpoclaaCore2
namespace Go.Proofs.Ytlaljfdohpoclaa
open Go.RowKit

set_option maxHeartbeats 800000 in
theorem coreRefHex_is (v : Int) (c : Nat) (w : World) (hc : c < 256) (h : U.cHexV c = v) :
    Calls Try.prog 22 #[.int .u8 (c : Int)] w fun e w' => e = .returned (.int .i32 v) ∧ w = w' := by
  have H := Lib.hid h
  clear h
  unfold U.cHexV at H
  rcases (show c < 48 ∨ (48 ≤ c ∧ c ≤ 57) ∨ (57 < c ∧ c < 65) ∨ (65 ≤ c ∧ c ≤ 70) ∨ (70 < c ∧ c < 97) ∨ (97 ≤ c ∧ c ≤ 102) ∨ 102 < c from by omega) with g | ⟨g, g2⟩ | ⟨g, g2⟩ | ⟨g, g2⟩ | ⟨g, g2⟩ | ⟨g, g2⟩ | g
  all_goals
    go_enter Try.func22, Try.ntmps22
    go_wp2
    go_ret
    refine ⟨congrArg (fun z : Int => Ending.returned (.int .i32 z)) (?_ : _ = v), rfl⟩
    have H2 := H.out
    repeat' split at H2
    all_goals omega

set_option maxHeartbeats 800000 in
theorem coreRefDigits_is {p : Int → Bool} {most : Int} (hp : U.cMost p most) (n : Nat) (s : ByteArray) (k : Nat) (at' : Int) (w : World) (hs : s.size ≤ 1099511627776) (hat : at' = (k : Int)) (hk : k ≤ s.size) (h : U.cRun p (s.data.toList.drop k) = n) :
    Calls Try.prog 21 #[.string s, .int .i64 at', .int .i32 most] w fun e w' => e = .returned (.int .i64 (n : Int)) ∧ w = w' := by
  subst hat
  have HQ := Lib.hid h
  clear h
  go_enter Try.func21, Try.ntmps21
  go_wp2
  go_loop [7] (fun i => ∃ j : Nat, i = .int .i64 (j : Int) ∧ k + j ≤ s.size ∧ Hid (j + U.cRun p (s.data.toList.drop (k + j)) = n)) (fun i => s.size - (intOf i).toNat)
  case atStart => exact ⟨0, rfl, hk, by show _ = _; rw [Nat.add_zero, HQ.out, Nat.zero_add]⟩
  case round =>
    obtain ⟨j, rfl, hj, H⟩ := hrel
    by_cases hk2 : k + j < s.size
    · obtain ⟨b, hd, hb⟩ := drop_byte s (k + j) hk2
      have hi := run_byt s (k + j) hk2 ((k : Int) + (j : Int)) (by omega)
      have hlt := byt_lt s (k + j)
      have H2 := H.out
      rw [hd, U.cRun_cons, hb, hp] at H2
      obtain ⟨x, hx⟩ : ∃ x : Nat, x = byt s (k + j) := ⟨_, rfl⟩
      rw [← hx] at hi H2 hlt
      clear hx hd hb b H
      obtain ⟨v, hv⟩ : ∃ v, U.cHexV x = v := ⟨_, rfl⟩
      rw [hv] at H2
      have HV := Lib.hid hv
      clear hv
      have HX := Lib.hid hlt
      clear hlt
      by_cases h0 : 0 ≤ v
      · by_cases h1 : v < most
        · rw [if_pos (by simp [h0, h1])] at H2
          have F := Lib.hid H2
          clear H2
          go_wp2_with fail
          refine (coreRefHex_is v x _ HX.out HV.out).mono ?_
          rintro e w1 ⟨rfl, rfl⟩
          go_wp2_with fail
          refine (coreRefHex_is v x _ HX.out HV.out).mono ?_
          rintro e w1 ⟨rfl, rfl⟩
          go_wp2
          go_round
          case rel => exact ⟨j + 1, by go_num, by omega, by show _ = _; rw [← F.out, show k + (j + 1) = k + j + 1 from by omega]; omega⟩
          case measure => simp [intOf]; omega
        · rw [if_neg (by simp [h1])] at H2
          have F := Lib.hid H2
          clear H2
          go_wp2_with fail
          refine (coreRefHex_is v x _ HX.out HV.out).mono ?_
          rintro e w1 ⟨rfl, rfl⟩
          go_wp2_with fail
          refine (coreRefHex_is v x _ HX.out HV.out).mono ?_
          rintro e w1 ⟨rfl, rfl⟩
          go_wp2
          go_ret
          exact ⟨by rw [← F.out]; rfl, rfl⟩
      · rw [if_neg (by simp [h0])] at H2
        have F := Lib.hid H2
        clear H2
        go_wp2_with fail
        refine (coreRefHex_is v x _ HX.out HV.out).mono ?_
        rintro e w1 ⟨rfl, rfl⟩
        go_wp2
        go_ret
        exact ⟨by rw [← F.out]; rfl, rfl⟩
    · have H2 := H.out
      rw [List.drop_eq_nil_of_le (by rw [← Lib.size_eq]; omega)] at H2
      have F := Lib.hid (show j = n by rw [← H2]; rfl)
      clear H2
      go_wp2
      go_ret
      exact ⟨by rw [← F.out]; rfl, rfl⟩

set_option maxHeartbeats 800000 in
theorem coreRefWhole_is {p : Int → Bool} {most : Int} (hp : U.cMost p most) (q : Bool) (s : ByteArray) (w : World) (hs : s.size ≤ 1099511627776) (h2 : 2 < s.size) (h : U.cAll p (s.data.toList.drop 2) = q) :
    Calls Try.prog 17 #[.string s, .int .i32 most] w fun e w' => e = .returned (.bool q) ∧ w = w' := by
  obtain ⟨n, hn⟩ : ∃ n, U.cRun p (s.data.toList.drop 2) = n := ⟨_, rfl⟩
  have hl : s.data.toList.length = s.size := (Lib.size_eq s).symm
  have hq : q = decide (n = s.size - 2) := by
    rw [← h]
    unfold U.cAll
    rw [hn, List.length_drop, hl]
    have : (s.data.toList.drop 2).isEmpty = false := by
      rw [List.isEmpty_eq_false_iff]
      intro e
      have := congrArg List.length e
      rw [List.length_drop, hl] at this
      simp at this
      omega
    rw [this]
    rfl
  clear h hl
  have HN := Lib.hid hn
  clear hn
  by_cases hc : n = s.size - 2
  · rw [decide_eq_true hc] at hq
    subst hq
    have h3 : 0 < n := by omega
    have h4 : ((n : Int) == (s.size : Int) - 2) = true := by simp; omega
    clear hc
    go_enter Try.func17, Try.ntmps17
    go_wp2_with fail
    refine (coreRefDigits_is hp n s 2 _ _ hs rfl (by omega) HN.out).mono ?_
    rintro e w1 ⟨rfl, rfl⟩
    go_wp2
    go_ret
    exact ⟨rfl, rfl⟩
  · rw [decide_eq_false hc] at hq
    subst hq
    have h4 : ((n : Int) == (s.size : Int) - 2) = false := by simp; omega
    clear hc
    by_cases h3 : 0 < n
    all_goals
      go_enter Try.func17, Try.ntmps17
      go_wp2_with fail
      refine (coreRefDigits_is hp n s 2 _ _ hs rfl (by omega) HN.out).mono ?_
      rintro e w1 ⟨rfl, rfl⟩
      go_wp2
      go_ret
      exact ⟨rfl, rfl⟩

set_option maxHeartbeats 400000 in
theorem coreRefLong_is (t s : ByteArray) (w : World) (hs : s.size ≤ 1099511627776) (h : (⟨#[116, 97, 103, 58, 121, 97, 109, 108, 46, 111, 114, 103, 44, 50, 48, 48, 50, 58]⟩ : ByteArray) ++ s = t) :
    Calls Try.prog 16 #[.string s] w fun e w' => e = .returned (.string t) ∧ w = w' := by
  subst h
  go_enter Try.func16, Try.ntmps16
  go_wp2
  go_ret
  exact ⟨rfl, rfl⟩

end Go.Proofs.Ytlaljfdohpoclaa
