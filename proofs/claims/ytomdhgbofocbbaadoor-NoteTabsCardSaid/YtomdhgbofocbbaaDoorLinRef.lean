/- The document's answers of chapter 7: what each of these functions returns. Conditions: those that each theorem writes out (lengths that memory can hold). -/
import Derived.Test.YtomdhgbofocbbaaDoorLinK
namespace Go.Proofs.YtomdhgbofocbbaaDoor
open Go.RowKit

set_option maxHeartbeats 800000 in
theorem refRow_is (a b : Nat) (s : ByteArray) (at' : Int) (w : World) (hs : s.size ≤ 1099511627776) (hB : RowB s (clampN at' s.size) a) (hE : RowE s (clampN at' s.size) b) :
    Calls Tryd.prog 37 #[.string s, .int .i64 at'] w fun e w' => e = .returned (.tuple #[.int .i64 (a : Int), .int .i64 (b : Int)]) ∧ w = w' := by
  have hcs := clampN_le at' s.size
  obtain ⟨c, hc⟩ : ∃ c, clampN at' s.size = c := ⟨_, rfl⟩
  rw [hc] at hB hE hcs
  have HC := Lib.hid hc
  have h1 := hB.1
  have h2 := hE.1
  have h3 := hE.2.1
  have HB := Lib.hid hB
  have HE := Lib.hid hE
  clear hc hB hE
  go_enter Tryd.func37, Tryd.ntmps37
  go_wp2_with fail
  refine (held_is c s at' _ hs HC.out).mono ?_
  rintro e w' ⟨rfl, rfl⟩
  go_wp2
  go_loop [6] (fun v => ∃ k : Nat, v = .int .i64 (k : Int) ∧ a ≤ k ∧ k ≤ c) (fun v => (intOf v).toNat)
  case atStart => exact ⟨c, rfl, h1, Nat.le_refl _⟩
  case round =>
    obtain ⟨k, rfl, hk1, hk2⟩ := hrel
    by_cases hka : a < k
    · have hix := run_byt s (k - 1) (by omega) ((k : Int) - 1) (by omega)
      have hb := HB.out.2.1 (k - 1) (by omega) (by omega)
      obtain ⟨x, hx⟩ : ∃ x, x = byt s (k - 1) := ⟨_, rfl⟩
      rw [← hx] at hix hb
      have hxb : ((x : Int) == 10) = false := by simp; omega
      clear hx hb
      go_wp2
      go_round
      case rel => exact ⟨k - 1, by go_num, by omega, by omega⟩
      case measure => simp [intOf]; omega
    · obtain rfl : k = a := by omega
      have key : k = 0 ∨ (0 < k ∧ byt s (k - 1) = 10) := by
        rcases HB.out.2.2 with h | h
        · exact .inl h
        · rcases Nat.eq_zero_or_pos k with h0 | h0
          · exact .inl h0
          · exact .inr ⟨h0, h⟩
      rcases key with h0 | ⟨h0, hb⟩
      · go_wp2
        go_loop [7] (fun v => ∃ m : Nat, v = .int .i64 (m : Int) ∧ c ≤ m ∧ m ≤ b) (fun v => b - (intOf v).toNat)
        case atStart => exact ⟨c, rfl, Nat.le_refl _, h2⟩
        case round =>
          obtain ⟨m, rfl, hm1, hm2⟩ := hrel
          by_cases hms : m < s.size
          · have hix := run_byt s m hms _ rfl
            by_cases hmb : m < b
            · have hb := HE.out.2.2.1 m hmb hm1
              obtain ⟨x, hx⟩ : ∃ x, x = byt s m := ⟨_, rfl⟩
              rw [← hx] at hix hb
              have hxb : ((x : Int) == 10) = false := by simp; omega
              clear hx hb
              go_wp2
              go_round
              case rel => exact ⟨m + 1, by go_num, by omega, by omega⟩
              case measure => simp [intOf]; omega
            · obtain rfl : m = b := by omega
              have hb := HE.out.2.2.2.resolve_left (by omega)
              rw [hb] at hix
              go_wp2
              go_ret2
              exact ⟨rfl, rfl⟩
          · obtain rfl : m = b := by omega
            go_wp2
            go_ret2
            exact ⟨rfl, rfl⟩
      · have hix := run_byt s (k - 1) (by omega) ((k : Int) - 1) (by omega)
        rw [hb] at hix
        go_wp2
        go_loop [7] (fun v => ∃ m : Nat, v = .int .i64 (m : Int) ∧ c ≤ m ∧ m ≤ b) (fun v => b - (intOf v).toNat)
        case atStart => exact ⟨c, rfl, Nat.le_refl _, h2⟩
        case round =>
          obtain ⟨m, rfl, hm1, hm2⟩ := hrel
          by_cases hms : m < s.size
          · have hix := run_byt s m hms _ rfl
            by_cases hmb : m < b
            · have hb := HE.out.2.2.1 m hmb hm1
              obtain ⟨x, hx⟩ : ∃ x, x = byt s m := ⟨_, rfl⟩
              rw [← hx] at hix hb
              have hxb : ((x : Int) == 10) = false := by simp; omega
              clear hx hb
              go_wp2
              go_round
              case rel => exact ⟨m + 1, by go_num, by omega, by omega⟩
              case measure => simp [intOf]; omega
            · obtain rfl : m = b := by omega
              have hb := HE.out.2.2.2.resolve_left (by omega)
              rw [hb] at hix
              go_wp2
              go_ret2
              exact ⟨rfl, rfl⟩
          · obtain rfl : m = b := by omega
            go_wp2
            go_ret2
            exact ⟨rfl, rfl⟩

set_option maxHeartbeats 400000 in
theorem refIn_is (a b n : Nat) (s : ByteArray) (at' : Int) (w : World) (hs : s.size ≤ 1099511627776) (hB : RowB s (clampN at' s.size) a) (hE : RowE s (clampN at' s.size) b) (hN : InN s a b n) :
    Calls Tryd.prog 40 #[.string s, .int .i64 at'] w fun e w' => e = .returned (.int .i64 (n : Int)) ∧ w = w' := by
  have h1 := hB.1
  have h2 := hE.1
  have h3 := hE.2.1
  have h4 := hN.1
  have HB := Lib.hid hB
  have HE := Lib.hid hE
  have HN := Lib.hid hN
  clear hB hE hN
  go_enter Tryd.func40, Tryd.ntmps40
  go_wp2_with fail
  refine (refRow_is a b s at' _ hs HB.out HE.out).mono ?_
  rintro e w' ⟨rfl, rfl⟩
  go_wp2
  go_loop [7] (fun i => ∃ k : Nat, i = .int .i64 (k : Int) ∧ k ≤ n) (fun i => n - (intOf i).toNat)
  case atStart => exact ⟨0, rfl, Nat.zero_le _⟩
  case round =>
    obtain ⟨k, rfl, hk⟩ := hrel
    by_cases hkb : a + k < b
    · have hix := run_byt s (a + k) (by omega) _ rfl
      push_cast at hix
      by_cases hkn : k < n
      · have hb := HN.out.2.1 k hkn
        rw [hb] at hix
        go_wp2
        go_round
        case rel => exact ⟨k + 1, by go_num, hkn⟩
        case measure => simp [intOf]; omega
      · obtain rfl : k = n := by omega
        have hb := HN.out.2.2.resolve_left (by omega)
        obtain ⟨x, hx⟩ : ∃ x, x = byt s (a + k) := ⟨_, rfl⟩
        rw [← hx] at hix hb
        have hxb : ((x : Int) == 32) = false := by simp; omega
        clear hx hb
        go_wp2
        go_ret
        exact ⟨rfl, rfl⟩
    · obtain rfl : k = n := by omega
      go_wp2
      go_ret
      exact ⟨rfl, rfl⟩

set_option maxHeartbeats 400000 in
theorem First_is (a b p : Nat) (s : ByteArray) (w : World) (hs : s.size ≤ 1099511627776) (hb : b ≤ s.size) (hF : FirN s a b p) :
    Calls Tryd.prog 41 #[.string s, .int .i64 (a : Int), .int .i64 (b : Int)] w fun e w' => e = .returned (.int .i64 (p : Int)) ∧ w = w' := by
  have h1 := hF.1
  have h2 := hF.2.1
  have HF := Lib.hid hF
  clear hF
  go_enter Tryd.func41, Tryd.ntmps41
  go_wp2
  go_loop [1] (fun v => ∃ k : Nat, v = .int .i64 (k : Int) ∧ a ≤ k ∧ k ≤ p) (fun v => p - (intOf v).toNat)
  case atStart => exact ⟨a, rfl, Nat.le_refl _, h1⟩
  case round =>
    obtain ⟨k, rfl, hk1, hk2⟩ := hrel
    by_cases hkb : k < b
    · have hix := run_byt s k (by omega) _ rfl
      by_cases hkp : k < p
      · have hw := HF.out.2.2.1 k hkp hk1
        obtain ⟨x, hx⟩ : ∃ x, x = byt s k := ⟨_, rfl⟩
        rw [← hx] at hix hw
        have HW := Lib.hid hw
        clear hx hw
        go_wp2_with fail
        refine (refWhite_is true _ _ HW.out).mono ?_
        rintro e w' ⟨rfl, rfl⟩
        go_wp2
        go_round
        case rel => exact ⟨k + 1, by go_num, by omega, by omega⟩
        case measure => simp [intOf]; omega
      · obtain rfl : k = p := by omega
        have hw := HF.out.2.2.2.resolve_left (by omega)
        obtain ⟨x, hx⟩ : ∃ x, x = byt s k := ⟨_, rfl⟩
        rw [← hx] at hix hw
        have HW := Lib.hid hw
        clear hx hw
        go_wp2_with fail
        refine (refWhite_is false _ _ HW.out).mono ?_
        rintro e w' ⟨rfl, rfl⟩
        go_wp2
        go_ret
        exact ⟨rfl, rfl⟩
    · obtain rfl : k = p := by omega
      go_wp2
      go_ret
      exact ⟨rfl, rfl⟩

end Go.Proofs.YtomdhgbofocbbaaDoor
