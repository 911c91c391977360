/- The document's answer of chapter 8: number: what a text without a sign is. Conditions: those that each theorem writes out (lengths that memory can hold). -/
import Derived.Test.YtlaljfdohpoclaaCoreRef
namespace Go.Proofs.Ytlaljfdohpoclaa
open Go.RowKit

/-- What stands from a place on, behind a number's digits: what the document makes of it (2: a number with a point or a power; 0: none). -/
inductive CTail (s : ByteArray) (k : Nat) : Nat → Prop
  | stop (h : k = s.size) : CTail s k 2
  | other (h : k < s.size) (h1 : (byt s k : Int) ≠ 101) (h2 : (byt s k : Int) ≠ 69) : CTail s k 0
  | bare (h : k < s.size) (hx : (byt s k : Int) = 101 ∨ (byt s k : Int) = 69) (h1 : s.size ≤ k + 1) : CTail s k 0
  | signZ (h : k < s.size) (hx : (byt s k : Int) = 101 ∨ (byt s k : Int) = 69) (h1 : k + 1 < s.size) (hy : (byt s (k + 1) : Int) = 43 ∨ (byt s (k + 1) : Int) = 45) (hn : U.cRun U.cDig (s.data.toList.drop (k + 2)) = 0) : CTail s k 0
  | signN (n : Nat) (h : k < s.size) (hx : (byt s k : Int) = 101 ∨ (byt s k : Int) = 69) (h1 : k + 1 < s.size) (hy : (byt s (k + 1) : Int) = 43 ∨ (byt s (k + 1) : Int) = 45) (h2 : 0 < n) (hn : U.cRun U.cDig (s.data.toList.drop (k + 2)) = n) (h3 : k + 2 + n < s.size) : CTail s k 0
  | signE (n : Nat) (h : k < s.size) (hx : (byt s k : Int) = 101 ∨ (byt s k : Int) = 69) (h1 : k + 1 < s.size) (hy : (byt s (k + 1) : Int) = 43 ∨ (byt s (k + 1) : Int) = 45) (h2 : 0 < n) (hn : U.cRun U.cDig (s.data.toList.drop (k + 2)) = n) (h3 : s.size ≤ k + 2 + n) (h4 : k + 2 + n ≤ s.size) : CTail s k 2
  | plainZ (h : k < s.size) (hx : (byt s k : Int) = 101 ∨ (byt s k : Int) = 69) (h1 : k + 1 < s.size) (hy1 : (byt s (k + 1) : Int) ≠ 43) (hy2 : (byt s (k + 1) : Int) ≠ 45) (hn : U.cRun U.cDig (s.data.toList.drop (k + 1)) = 0) : CTail s k 0
  | plainN (n : Nat) (h : k < s.size) (hx : (byt s k : Int) = 101 ∨ (byt s k : Int) = 69) (h1 : k + 1 < s.size) (hy1 : (byt s (k + 1) : Int) ≠ 43) (hy2 : (byt s (k + 1) : Int) ≠ 45) (h2 : 0 < n) (hn : U.cRun U.cDig (s.data.toList.drop (k + 1)) = n) (h3 : k + 1 + n < s.size) : CTail s k 0
  | plainE (n : Nat) (h : k < s.size) (hx : (byt s k : Int) = 101 ∨ (byt s k : Int) = 69) (h1 : k + 1 < s.size) (hy1 : (byt s (k + 1) : Int) ≠ 43) (hy2 : (byt s (k + 1) : Int) ≠ 45) (h2 : 0 < n) (hn : U.cRun U.cDig (s.data.toList.drop (k + 1)) = n) (h3 : s.size ≤ k + 1 + n) (h4 : k + 1 + n ≤ s.size) : CTail s k 2

theorem CTail.ex (s : ByteArray) (k : Nat) (hk : k ≤ s.size) : CTail s k (if U.cPow (s.data.toList.drop k) = true then 2 else 0) := by
  have hl : s.data.toList.length = s.size := (Lib.size_eq s).symm
  by_cases hke : k = s.size
  · rw [List.drop_eq_nil_of_le (by omega)]
    exact .stop hke
  have h : k < s.size := by omega
  obtain ⟨b, hd, hb⟩ := drop_byte s k h
  have hp : U.cPow (s.data.toList.drop k) = (decide ((byt s k : Int) = 101 ∨ (byt s k : Int) = 69) && U.cAll U.cDig (U.cUns (s.data.toList.drop (k + 1)))) := by
    unfold U.cPow
    rw [hd, U.cExp_cons, hb]
    rfl
  rw [hp]
  by_cases hx : (byt s k : Int) = 101 ∨ (byt s k : Int) = 69
  · rw [decide_eq_true hx, Bool.true_and]
    by_cases h1 : s.size ≤ k + 1
    · rw [List.drop_eq_nil_of_le (by omega)]
      exact .bare h hx h1
    · have h1 : k + 1 < s.size := by omega
      obtain ⟨c, hd2, hc⟩ := drop_byte s (k + 1) h1
      rw [hd2, U.cUns_cons, hc]
      by_cases hy : (byt s (k + 1) : Int) = 43 ∨ (byt s (k + 1) : Int) = 45
      · rw [if_pos (show U.cSgn (byt s (k + 1) : Int) = true from decide_eq_true hy)]
        obtain ⟨n, hn⟩ : ∃ n, U.cRun U.cDig (s.data.toList.drop (k + 2)) = n := ⟨_, rfl⟩
        have hle := U.cRun_le U.cDig (s.data.toList.drop (k + 2))
        rw [hn, List.length_drop, hl] at hle
        have ha : U.cAll U.cDig (s.data.toList.drop (k + 1 + 1)) = decide (0 < n ∧ s.size ≤ k + 2 + n) := by
          rw [Bool.eq_iff_iff, decide_eq_true_eq]
          unfold U.cAll
          rw [show k + 1 + 1 = k + 2 from rfl, hn, Bool.and_eq_true, decide_eq_true_eq, Bool.not_eq_true', List.isEmpty_eq_false_iff, List.length_drop, hl]
          constructor
          · rintro ⟨e1, e2⟩
            have : 0 < (s.data.toList.drop (k + 2)).length := List.length_pos_iff.2 e1
            rw [List.length_drop, hl] at this
            omega
          · rintro ⟨e1, e2⟩
            refine ⟨fun e => ?_, by omega⟩
            have := congrArg List.length e
            rw [List.length_drop, hl] at this
            simp at this
            omega
        rw [ha]
        by_cases h2 : 0 < n
        · by_cases h3 : s.size ≤ k + 2 + n
          · rw [decide_eq_true ⟨h2, h3⟩]
            exact .signE n h hx h1 hy h2 hn h3 (by omega)
          · rw [decide_eq_false (fun e => h3 e.2)]
            exact .signN n h hx h1 hy h2 hn (by omega)
        · rw [decide_eq_false (fun e => h2 e.1)]
          exact .signZ h hx h1 hy (by omega)
      · rw [if_neg (show ¬ U.cSgn (byt s (k + 1) : Int) = true from fun e => hy (of_decide_eq_true e)), ← hd2]
        obtain ⟨n, hn⟩ : ∃ n, U.cRun U.cDig (s.data.toList.drop (k + 1)) = n := ⟨_, rfl⟩
        have hle := U.cRun_le U.cDig (s.data.toList.drop (k + 1))
        rw [hn, List.length_drop, hl] at hle
        have ha : U.cAll U.cDig (s.data.toList.drop (k + 1)) = decide (0 < n ∧ s.size ≤ k + 1 + n) := by
          rw [Bool.eq_iff_iff, decide_eq_true_eq]
          unfold U.cAll
          rw [hn, Bool.and_eq_true, decide_eq_true_eq, Bool.not_eq_true', List.isEmpty_eq_false_iff, List.length_drop, hl]
          constructor
          · rintro ⟨e1, e2⟩
            have : 0 < (s.data.toList.drop (k + 1)).length := List.length_pos_iff.2 e1
            rw [List.length_drop, hl] at this
            omega
          · rintro ⟨e1, e2⟩
            refine ⟨fun e => ?_, by omega⟩
            have := congrArg List.length e
            rw [List.length_drop, hl] at this
            simp at this
            omega
        rw [ha]
        by_cases h2 : 0 < n
        · by_cases h3 : s.size ≤ k + 1 + n
          · rw [decide_eq_true ⟨h2, h3⟩]
            exact .plainE n h hx h1 (fun e => hy (.inl e)) (fun e => hy (.inr e)) h2 hn h3 (by omega)
          · rw [decide_eq_false (fun e => h3 e.2)]
            exact .plainN n h hx h1 (fun e => hy (.inl e)) (fun e => hy (.inr e)) h2 hn (by omega)
        · rw [decide_eq_false (fun e => h2 e.1)]
          exact .plainZ h hx h1 (fun e => hy (.inl e)) (fun e => hy (.inr e)) (by omega)
  · rw [decide_eq_false hx, Bool.false_and]
    exact .other h (fun e => hx (.inl e)) (fun e => hx (.inr e))

set_option maxHeartbeats 4000000 in
theorem coreRefNumber_H1 (r : Nat) (s : ByteArray) (w : World) (hs : s.size ≤ 1099511627776) (k : Nat) (hk : k < s.size) (ha : U.cRun U.cDig (s.data.toList.drop 0) = k) (h0 : 0 < k) (h46 : (byt s k : Int) ≠ 46) (T : CTail s k r) :
    Calls Try.prog 18 #[.string s] w fun e w' => e = .returned (.int .i64 (r : Int)) ∧ w = w' := by
  have HA := Lib.hid ha
  have ea : ((k : Int) == 0) = false := by simp; omega
  clear ha
  cases T with
  | stop h =>
    omega
  | other h h1 h2 =>
    have hi := run_byt s k h (k : Int) rfl
    obtain ⟨x, hx0⟩ : ∃ x : Nat, x = byt s k := ⟨_, rfl⟩
    rw [← hx0] at hi h46 h1 h2
    clear hx0
    have e46 : ((x : Int) == 46) = false := by simp; omega
    clear h46
    have e1 : ((x : Int) == 101) = false := by simp; omega
    have e2 : ((x : Int) == 69) = false := by simp; omega
    clear h1 h2
    go_enter Try.func18, Try.ntmps18
    go_wp2_with fail
    refine (coreRefDigits_is U.cMost_dig k s (0) (0) _ hs (by omega) (by omega) HA.out).mono ?_
    rintro e w1 ⟨rfl, rfl⟩
    go_wp2
    go_ret
    exact ⟨rfl, rfl⟩
  | bare h hx h1 =>
    have hi := run_byt s k h (k : Int) rfl
    obtain ⟨x, hx0⟩ : ∃ x : Nat, x = byt s k := ⟨_, rfl⟩
    rw [← hx0] at hi h46 hx
    clear hx0
    clear h46
    have HN : Hid (U.cRun U.cDig (s.data.toList.drop (k + 1)) = 0) := by
      show _ = _
      rw [List.drop_eq_nil_of_le (by rw [← Lib.size_eq]; omega)]
      rfl
    rcases hx with e1 | e1
    all_goals
      rw [e1] at hi
      go_enter Try.func18, Try.ntmps18
      go_wp2_with fail
      refine (coreRefDigits_is U.cMost_dig k s (0) (0) _ hs (by omega) (by omega) HA.out).mono ?_
      rintro e w1 ⟨rfl, rfl⟩
      go_wp2_with fail
      refine (coreRefDigits_is U.cMost_dig 0 s (k + 1) ((k : Int) + 1) _ hs (by omega) (by omega) HN.out).mono ?_
      rintro e w1 ⟨rfl, rfl⟩
      go_wp2
      go_ret
      exact ⟨rfl, rfl⟩
  | signZ h hx h1 hy hn =>
    have hi := run_byt s k h (k : Int) rfl
    obtain ⟨x, hx0⟩ : ∃ x : Nat, x = byt s k := ⟨_, rfl⟩
    rw [← hx0] at hi h46 hx
    clear hx0
    clear h46
    have hi2 := run_byt s (k + 1) h1 ((k : Int) + 1) (by omega)
    obtain ⟨y, hy0⟩ : ∃ y : Nat, y = byt s (k + 1) := ⟨_, rfl⟩
    rw [← hy0] at hi2 hy
    clear hy0
    have HN := Lib.hid hn
    clear hn
    rcases hx with e1 | e1 <;> rcases hy with e2 | e2
    all_goals
      rw [e1] at hi
      rw [e2] at hi2
      go_enter Try.func18, Try.ntmps18
      go_wp2_with fail
      refine (coreRefDigits_is U.cMost_dig k s (0) (0) _ hs (by omega) (by omega) HA.out).mono ?_
      rintro e w1 ⟨rfl, rfl⟩
      go_wp2_with fail
      refine (coreRefDigits_is U.cMost_dig 0 s (k + 2) ((k : Int) + 1 + 1) _ hs (by omega) (by omega) HN.out).mono ?_
      rintro e w1 ⟨rfl, rfl⟩
      go_wp2
      go_ret
      exact ⟨rfl, rfl⟩
  | signN n h hx h1 hy h2 hn h3 =>
    have hi := run_byt s k h (k : Int) rfl
    obtain ⟨x, hx0⟩ : ∃ x : Nat, x = byt s k := ⟨_, rfl⟩
    rw [← hx0] at hi h46 hx
    clear hx0
    clear h46
    have hi2 := run_byt s (k + 1) h1 ((k : Int) + 1) (by omega)
    obtain ⟨y, hy0⟩ : ∃ y : Nat, y = byt s (k + 1) := ⟨_, rfl⟩
    rw [← hy0] at hi2 hy
    clear hy0
    have HN := Lib.hid hn
    clear hn
    have en : ((n : Int) == 0) = false := by simp; omega
    rcases hx with e1 | e1 <;> rcases hy with e2 | e2
    all_goals
      rw [e1] at hi
      rw [e2] at hi2
      go_enter Try.func18, Try.ntmps18
      go_wp2_with fail
      refine (coreRefDigits_is U.cMost_dig k s (0) (0) _ hs (by omega) (by omega) HA.out).mono ?_
      rintro e w1 ⟨rfl, rfl⟩
      go_wp2_with fail
      refine (coreRefDigits_is U.cMost_dig n s (k + 2) ((k : Int) + 1 + 1) _ hs (by omega) (by omega) HN.out).mono ?_
      rintro e w1 ⟨rfl, rfl⟩
      go_wp2
      go_ret
      exact ⟨rfl, rfl⟩
  | signE n h hx h1 hy h2 hn h3 h4 =>
    have hi := run_byt s k h (k : Int) rfl
    obtain ⟨x, hx0⟩ : ∃ x : Nat, x = byt s k := ⟨_, rfl⟩
    rw [← hx0] at hi h46 hx
    clear hx0
    clear h46
    have hi2 := run_byt s (k + 1) h1 ((k : Int) + 1) (by omega)
    obtain ⟨y, hy0⟩ : ∃ y : Nat, y = byt s (k + 1) := ⟨_, rfl⟩
    rw [← hy0] at hi2 hy
    clear hy0
    have HN := Lib.hid hn
    clear hn
    have en : ((n : Int) == 0) = false := by simp; omega
    rcases hx with e1 | e1 <;> rcases hy with e2 | e2
    all_goals
      rw [e1] at hi
      rw [e2] at hi2
      go_enter Try.func18, Try.ntmps18
      go_wp2_with fail
      refine (coreRefDigits_is U.cMost_dig k s (0) (0) _ hs (by omega) (by omega) HA.out).mono ?_
      rintro e w1 ⟨rfl, rfl⟩
      go_wp2_with fail
      refine (coreRefDigits_is U.cMost_dig n s (k + 2) ((k : Int) + 1 + 1) _ hs (by omega) (by omega) HN.out).mono ?_
      rintro e w1 ⟨rfl, rfl⟩
      go_wp2
      go_ret
      exact ⟨rfl, rfl⟩
  | plainZ h hx h1 hy1 hy2 hn =>
    have hi := run_byt s k h (k : Int) rfl
    obtain ⟨x, hx0⟩ : ∃ x : Nat, x = byt s k := ⟨_, rfl⟩
    rw [← hx0] at hi h46 hx
    clear hx0
    clear h46
    have hi2 := run_byt s (k + 1) h1 ((k : Int) + 1) (by omega)
    obtain ⟨y, hy0⟩ : ∃ y : Nat, y = byt s (k + 1) := ⟨_, rfl⟩
    rw [← hy0] at hi2 hy1 hy2
    clear hy0
    have HN := Lib.hid hn
    clear hn
    have e3 : ((y : Int) == 43) = false := by simp; omega
    have e4 : ((y : Int) == 45) = false := by simp; omega
    clear hy1 hy2
    rcases hx with e1 | e1
    all_goals
      rw [e1] at hi
      go_enter Try.func18, Try.ntmps18
      go_wp2_with fail
      refine (coreRefDigits_is U.cMost_dig k s (0) (0) _ hs (by omega) (by omega) HA.out).mono ?_
      rintro e w1 ⟨rfl, rfl⟩
      go_wp2_with fail
      refine (coreRefDigits_is U.cMost_dig 0 s (k + 1) ((k : Int) + 1) _ hs (by omega) (by omega) HN.out).mono ?_
      rintro e w1 ⟨rfl, rfl⟩
      go_wp2
      go_ret
      exact ⟨rfl, rfl⟩
  | plainN n h hx h1 hy1 hy2 h2 hn h3 =>
    have hi := run_byt s k h (k : Int) rfl
    obtain ⟨x, hx0⟩ : ∃ x : Nat, x = byt s k := ⟨_, rfl⟩
    rw [← hx0] at hi h46 hx
    clear hx0
    clear h46
    have hi2 := run_byt s (k + 1) h1 ((k : Int) + 1) (by omega)
    obtain ⟨y, hy0⟩ : ∃ y : Nat, y = byt s (k + 1) := ⟨_, rfl⟩
    rw [← hy0] at hi2 hy1 hy2
    clear hy0
    have HN := Lib.hid hn
    clear hn
    have en : ((n : Int) == 0) = false := by simp; omega
    have e3 : ((y : Int) == 43) = false := by simp; omega
    have e4 : ((y : Int) == 45) = false := by simp; omega
    clear hy1 hy2
    rcases hx with e1 | e1
    all_goals
      rw [e1] at hi
      go_enter Try.func18, Try.ntmps18
      go_wp2_with fail
      refine (coreRefDigits_is U.cMost_dig k s (0) (0) _ hs (by omega) (by omega) HA.out).mono ?_
      rintro e w1 ⟨rfl, rfl⟩
      go_wp2_with fail
      refine (coreRefDigits_is U.cMost_dig n s (k + 1) ((k : Int) + 1) _ hs (by omega) (by omega) HN.out).mono ?_
      rintro e w1 ⟨rfl, rfl⟩
      go_wp2
      go_ret
      exact ⟨rfl, rfl⟩
  | plainE n h hx h1 hy1 hy2 h2 hn h3 h4 =>
    have hi := run_byt s k h (k : Int) rfl
    obtain ⟨x, hx0⟩ : ∃ x : Nat, x = byt s k := ⟨_, rfl⟩
    rw [← hx0] at hi h46 hx
    clear hx0
    clear h46
    have hi2 := run_byt s (k + 1) h1 ((k : Int) + 1) (by omega)
    obtain ⟨y, hy0⟩ : ∃ y : Nat, y = byt s (k + 1) := ⟨_, rfl⟩
    rw [← hy0] at hi2 hy1 hy2
    clear hy0
    have HN := Lib.hid hn
    clear hn
    have en : ((n : Int) == 0) = false := by simp; omega
    have e3 : ((y : Int) == 43) = false := by simp; omega
    have e4 : ((y : Int) == 45) = false := by simp; omega
    clear hy1 hy2
    rcases hx with e1 | e1
    all_goals
      rw [e1] at hi
      go_enter Try.func18, Try.ntmps18
      go_wp2_with fail
      refine (coreRefDigits_is U.cMost_dig k s (0) (0) _ hs (by omega) (by omega) HA.out).mono ?_
      rintro e w1 ⟨rfl, rfl⟩
      go_wp2_with fail
      refine (coreRefDigits_is U.cMost_dig n s (k + 1) ((k : Int) + 1) _ hs (by omega) (by omega) HN.out).mono ?_
      rintro e w1 ⟨rfl, rfl⟩
      go_wp2
      go_ret
      exact ⟨rfl, rfl⟩

set_option maxHeartbeats 4000000 in
theorem coreRefNumber_H2 (r : Nat) (s : ByteArray) (w : World) (hs : s.size ≤ 1099511627776) (a b k : Nat) (hk : k ≤ s.size) (hak : a < s.size) (ha : U.cRun U.cDig (s.data.toList.drop 0) = a) (h0 : 0 < a) (h46 : (byt s a : Int) = 46) (hb : U.cRun U.cDig (s.data.toList.drop (a + 1)) = b) (ek : (a : Int) + 1 + (b : Int) = (k : Int)) (T : CTail s k r) :
    Calls Try.prog 18 #[.string s] w fun e w' => e = .returned (.int .i64 (r : Int)) ∧ w = w' := by
  have HA := Lib.hid ha
  have HB := Lib.hid hb
  have ea : ((a : Int) == 0) = false := by simp; omega
  have hi0 := run_byt s a hak (a : Int) rfl
  rw [h46] at hi0
  clear ha hb h46
  cases T with
  | stop h =>
    subst h
    go_enter Try.func18, Try.ntmps18
    go_wp2_with fail
    refine (coreRefDigits_is U.cMost_dig a s (0) (0) _ hs (by omega) (by omega) HA.out).mono ?_
    rintro e w1 ⟨rfl, rfl⟩
    go_wp2_with fail
    refine (coreRefDigits_is U.cMost_dig b s (a + 1) ((a : Int) + 1) _ hs (by omega) (by omega) HB.out).mono ?_
    rintro e w1 ⟨rfl, rfl⟩
    go_wp2
    go_ret
    exact ⟨rfl, rfl⟩
  | other h h1 h2 =>
    have hi := run_byt s k h (k : Int) rfl
    obtain ⟨x, hx0⟩ : ∃ x : Nat, x = byt s k := ⟨_, rfl⟩
    rw [← hx0] at hi h1 h2
    clear hx0
    have e1 : ((x : Int) == 101) = false := by simp; omega
    have e2 : ((x : Int) == 69) = false := by simp; omega
    clear h1 h2
    go_enter Try.func18, Try.ntmps18
    go_wp2_with fail
    refine (coreRefDigits_is U.cMost_dig a s (0) (0) _ hs (by omega) (by omega) HA.out).mono ?_
    rintro e w1 ⟨rfl, rfl⟩
    go_wp2_with fail
    refine (coreRefDigits_is U.cMost_dig b s (a + 1) ((a : Int) + 1) _ hs (by omega) (by omega) HB.out).mono ?_
    rintro e w1 ⟨rfl, rfl⟩
    go_wp2
    go_ret
    exact ⟨rfl, rfl⟩
  | bare h hx h1 =>
    have hi := run_byt s k h (k : Int) rfl
    obtain ⟨x, hx0⟩ : ∃ x : Nat, x = byt s k := ⟨_, rfl⟩
    rw [← hx0] at hi hx
    clear hx0
    have HN : Hid (U.cRun U.cDig (s.data.toList.drop (k + 1)) = 0) := by
      show _ = _
      rw [List.drop_eq_nil_of_le (by rw [← Lib.size_eq]; omega)]
      rfl
    rcases hx with e1 | e1
    all_goals
      rw [e1] at hi
      go_enter Try.func18, Try.ntmps18
      go_wp2_with fail
      refine (coreRefDigits_is U.cMost_dig a s (0) (0) _ hs (by omega) (by omega) HA.out).mono ?_
      rintro e w1 ⟨rfl, rfl⟩
      go_wp2_with fail
      refine (coreRefDigits_is U.cMost_dig b s (a + 1) ((a : Int) + 1) _ hs (by omega) (by omega) HB.out).mono ?_
      rintro e w1 ⟨rfl, rfl⟩
      go_wp2_with fail
      refine (coreRefDigits_is U.cMost_dig 0 s (k + 1) ((k : Int) + 1) _ hs (by omega) (by omega) HN.out).mono ?_
      rintro e w1 ⟨rfl, rfl⟩
      go_wp2
      go_ret
      exact ⟨rfl, rfl⟩
  | signZ h hx h1 hy hn =>
    have hi := run_byt s k h (k : Int) rfl
    obtain ⟨x, hx0⟩ : ∃ x : Nat, x = byt s k := ⟨_, rfl⟩
    rw [← hx0] at hi hx
    clear hx0
    have hi2 := run_byt s (k + 1) h1 ((k : Int) + 1) (by omega)
    obtain ⟨y, hy0⟩ : ∃ y : Nat, y = byt s (k + 1) := ⟨_, rfl⟩
    rw [← hy0] at hi2 hy
    clear hy0
    have HN := Lib.hid hn
    clear hn
    rcases hx with e1 | e1 <;> rcases hy with e2 | e2
    all_goals
      rw [e1] at hi
      rw [e2] at hi2
      go_enter Try.func18, Try.ntmps18
      go_wp2_with fail
      refine (coreRefDigits_is U.cMost_dig a s (0) (0) _ hs (by omega) (by omega) HA.out).mono ?_
      rintro e w1 ⟨rfl, rfl⟩
      go_wp2_with fail
      refine (coreRefDigits_is U.cMost_dig b s (a + 1) ((a : Int) + 1) _ hs (by omega) (by omega) HB.out).mono ?_
      rintro e w1 ⟨rfl, rfl⟩
      go_wp2_with fail
      refine (coreRefDigits_is U.cMost_dig 0 s (k + 2) ((k : Int) + 1 + 1) _ hs (by omega) (by omega) HN.out).mono ?_
      rintro e w1 ⟨rfl, rfl⟩
      go_wp2
      go_ret
      exact ⟨rfl, rfl⟩
  | signN n h hx h1 hy h2 hn h3 =>
    have hi := run_byt s k h (k : Int) rfl
    obtain ⟨x, hx0⟩ : ∃ x : Nat, x = byt s k := ⟨_, rfl⟩
    rw [← hx0] at hi hx
    clear hx0
    have hi2 := run_byt s (k + 1) h1 ((k : Int) + 1) (by omega)
    obtain ⟨y, hy0⟩ : ∃ y : Nat, y = byt s (k + 1) := ⟨_, rfl⟩
    rw [← hy0] at hi2 hy
    clear hy0
    have HN := Lib.hid hn
    clear hn
    have en : ((n : Int) == 0) = false := by simp; omega
    rcases hx with e1 | e1 <;> rcases hy with e2 | e2
    all_goals
      rw [e1] at hi
      rw [e2] at hi2
      go_enter Try.func18, Try.ntmps18
      go_wp2_with fail
      refine (coreRefDigits_is U.cMost_dig a s (0) (0) _ hs (by omega) (by omega) HA.out).mono ?_
      rintro e w1 ⟨rfl, rfl⟩
      go_wp2_with fail
      refine (coreRefDigits_is U.cMost_dig b s (a + 1) ((a : Int) + 1) _ hs (by omega) (by omega) HB.out).mono ?_
      rintro e w1 ⟨rfl, rfl⟩
      go_wp2_with fail
      refine (coreRefDigits_is U.cMost_dig n s (k + 2) ((k : Int) + 1 + 1) _ hs (by omega) (by omega) HN.out).mono ?_
      rintro e w1 ⟨rfl, rfl⟩
      go_wp2
      go_ret
      exact ⟨rfl, rfl⟩
  | signE n h hx h1 hy h2 hn h3 h4 =>
    have hi := run_byt s k h (k : Int) rfl
    obtain ⟨x, hx0⟩ : ∃ x : Nat, x = byt s k := ⟨_, rfl⟩
    rw [← hx0] at hi hx
    clear hx0
    have hi2 := run_byt s (k + 1) h1 ((k : Int) + 1) (by omega)
    obtain ⟨y, hy0⟩ : ∃ y : Nat, y = byt s (k + 1) := ⟨_, rfl⟩
    rw [← hy0] at hi2 hy
    clear hy0
    have HN := Lib.hid hn
    clear hn
    have en : ((n : Int) == 0) = false := by simp; omega
    rcases hx with e1 | e1 <;> rcases hy with e2 | e2
    all_goals
      rw [e1] at hi
      rw [e2] at hi2
      go_enter Try.func18, Try.ntmps18
      go_wp2_with fail
      refine (coreRefDigits_is U.cMost_dig a s (0) (0) _ hs (by omega) (by omega) HA.out).mono ?_
      rintro e w1 ⟨rfl, rfl⟩
      go_wp2_with fail
      refine (coreRefDigits_is U.cMost_dig b s (a + 1) ((a : Int) + 1) _ hs (by omega) (by omega) HB.out).mono ?_
      rintro e w1 ⟨rfl, rfl⟩
      go_wp2_with fail
      refine (coreRefDigits_is U.cMost_dig n s (k + 2) ((k : Int) + 1 + 1) _ hs (by omega) (by omega) HN.out).mono ?_
      rintro e w1 ⟨rfl, rfl⟩
      go_wp2
      go_ret
      exact ⟨rfl, rfl⟩
  | plainZ h hx h1 hy1 hy2 hn =>
    have hi := run_byt s k h (k : Int) rfl
    obtain ⟨x, hx0⟩ : ∃ x : Nat, x = byt s k := ⟨_, rfl⟩
    rw [← hx0] at hi hx
    clear hx0
    have hi2 := run_byt s (k + 1) h1 ((k : Int) + 1) (by omega)
    obtain ⟨y, hy0⟩ : ∃ y : Nat, y = byt s (k + 1) := ⟨_, rfl⟩
    rw [← hy0] at hi2 hy1 hy2
    clear hy0
    have HN := Lib.hid hn
    clear hn
    have e3 : ((y : Int) == 43) = false := by simp; omega
    have e4 : ((y : Int) == 45) = false := by simp; omega
    clear hy1 hy2
    rcases hx with e1 | e1
    all_goals
      rw [e1] at hi
      go_enter Try.func18, Try.ntmps18
      go_wp2_with fail
      refine (coreRefDigits_is U.cMost_dig a s (0) (0) _ hs (by omega) (by omega) HA.out).mono ?_
      rintro e w1 ⟨rfl, rfl⟩
      go_wp2_with fail
      refine (coreRefDigits_is U.cMost_dig b s (a + 1) ((a : Int) + 1) _ hs (by omega) (by omega) HB.out).mono ?_
      rintro e w1 ⟨rfl, rfl⟩
      go_wp2_with fail
      refine (coreRefDigits_is U.cMost_dig 0 s (k + 1) ((k : Int) + 1) _ hs (by omega) (by omega) HN.out).mono ?_
      rintro e w1 ⟨rfl, rfl⟩
      go_wp2
      go_ret
      exact ⟨rfl, rfl⟩
  | plainN n h hx h1 hy1 hy2 h2 hn h3 =>
    have hi := run_byt s k h (k : Int) rfl
    obtain ⟨x, hx0⟩ : ∃ x : Nat, x = byt s k := ⟨_, rfl⟩
    rw [← hx0] at hi hx
    clear hx0
    have hi2 := run_byt s (k + 1) h1 ((k : Int) + 1) (by omega)
    obtain ⟨y, hy0⟩ : ∃ y : Nat, y = byt s (k + 1) := ⟨_, rfl⟩
    rw [← hy0] at hi2 hy1 hy2
    clear hy0
    have HN := Lib.hid hn
    clear hn
    have en : ((n : Int) == 0) = false := by simp; omega
    have e3 : ((y : Int) == 43) = false := by simp; omega
    have e4 : ((y : Int) == 45) = false := by simp; omega
    clear hy1 hy2
    rcases hx with e1 | e1
    all_goals
      rw [e1] at hi
      go_enter Try.func18, Try.ntmps18
      go_wp2_with fail
      refine (coreRefDigits_is U.cMost_dig a s (0) (0) _ hs (by omega) (by omega) HA.out).mono ?_
      rintro e w1 ⟨rfl, rfl⟩
      go_wp2_with fail
      refine (coreRefDigits_is U.cMost_dig b s (a + 1) ((a : Int) + 1) _ hs (by omega) (by omega) HB.out).mono ?_
      rintro e w1 ⟨rfl, rfl⟩
      go_wp2_with fail
      refine (coreRefDigits_is U.cMost_dig n s (k + 1) ((k : Int) + 1) _ hs (by omega) (by omega) HN.out).mono ?_
      rintro e w1 ⟨rfl, rfl⟩
      go_wp2
      go_ret
      exact ⟨rfl, rfl⟩
  | plainE n h hx h1 hy1 hy2 h2 hn h3 h4 =>
    have hi := run_byt s k h (k : Int) rfl
    obtain ⟨x, hx0⟩ : ∃ x : Nat, x = byt s k := ⟨_, rfl⟩
    rw [← hx0] at hi hx
    clear hx0
    have hi2 := run_byt s (k + 1) h1 ((k : Int) + 1) (by omega)
    obtain ⟨y, hy0⟩ : ∃ y : Nat, y = byt s (k + 1) := ⟨_, rfl⟩
    rw [← hy0] at hi2 hy1 hy2
    clear hy0
    have HN := Lib.hid hn
    clear hn
    have en : ((n : Int) == 0) = false := by simp; omega
    have e3 : ((y : Int) == 43) = false := by simp; omega
    have e4 : ((y : Int) == 45) = false := by simp; omega
    clear hy1 hy2
    rcases hx with e1 | e1
    all_goals
      rw [e1] at hi
      go_enter Try.func18, Try.ntmps18
      go_wp2_with fail
      refine (coreRefDigits_is U.cMost_dig a s (0) (0) _ hs (by omega) (by omega) HA.out).mono ?_
      rintro e w1 ⟨rfl, rfl⟩
      go_wp2_with fail
      refine (coreRefDigits_is U.cMost_dig b s (a + 1) ((a : Int) + 1) _ hs (by omega) (by omega) HB.out).mono ?_
      rintro e w1 ⟨rfl, rfl⟩
      go_wp2_with fail
      refine (coreRefDigits_is U.cMost_dig n s (k + 1) ((k : Int) + 1) _ hs (by omega) (by omega) HN.out).mono ?_
      rintro e w1 ⟨rfl, rfl⟩
      go_wp2
      go_ret
      exact ⟨rfl, rfl⟩

set_option maxHeartbeats 4000000 in
theorem coreRefNumber_H3 (r : Nat) (s : ByteArray) (w : World) (hs : s.size ≤ 1099511627776) (b k : Nat) (hk : k ≤ s.size) (hak : 0 < s.size) (ha : U.cRun U.cDig (s.data.toList.drop 0) = 0) (h46 : (byt s 0 : Int) = 46) (hb : U.cRun U.cDig (s.data.toList.drop (0 + 1)) = b) (h0 : 0 < b) (ek : (1 : Int) + (b : Int) = (k : Int)) (T : CTail s k r) :
    Calls Try.prog 18 #[.string s] w fun e w' => e = .returned (.int .i64 (r : Int)) ∧ w = w' := by
  have HA := Lib.hid ha
  have HB := Lib.hid hb
  have ea : ((b : Int) == 0) = false := by simp; omega
  have hi0 := run_byt s 0 hak 0 rfl
  rw [h46] at hi0
  clear ha hb h46
  cases T with
  | stop h =>
    subst h
    go_enter Try.func18, Try.ntmps18
    go_wp2_with fail
    refine (coreRefDigits_is U.cMost_dig 0 s (0) (0) _ hs (by omega) (by omega) HA.out).mono ?_
    rintro e w1 ⟨rfl, rfl⟩
    go_wp2_with fail
    refine (coreRefDigits_is U.cMost_dig b s (0 + 1) (1) _ hs (by omega) (by omega) HB.out).mono ?_
    rintro e w1 ⟨rfl, rfl⟩
    go_wp2
    go_ret
    exact ⟨rfl, rfl⟩
  | other h h1 h2 =>
    have hi := run_byt s k h (k : Int) rfl
    obtain ⟨x, hx0⟩ : ∃ x : Nat, x = byt s k := ⟨_, rfl⟩
    rw [← hx0] at hi h1 h2
    clear hx0
    have e1 : ((x : Int) == 101) = false := by simp; omega
    have e2 : ((x : Int) == 69) = false := by simp; omega
    clear h1 h2
    go_enter Try.func18, Try.ntmps18
    go_wp2_with fail
    refine (coreRefDigits_is U.cMost_dig 0 s (0) (0) _ hs (by omega) (by omega) HA.out).mono ?_
    rintro e w1 ⟨rfl, rfl⟩
    go_wp2_with fail
    refine (coreRefDigits_is U.cMost_dig b s (0 + 1) (1) _ hs (by omega) (by omega) HB.out).mono ?_
    rintro e w1 ⟨rfl, rfl⟩
    go_wp2
    go_ret
    exact ⟨rfl, rfl⟩
  | bare h hx h1 =>
    have hi := run_byt s k h (k : Int) rfl
    obtain ⟨x, hx0⟩ : ∃ x : Nat, x = byt s k := ⟨_, rfl⟩
    rw [← hx0] at hi hx
    clear hx0
    have HN : Hid (U.cRun U.cDig (s.data.toList.drop (k + 1)) = 0) := by
      show _ = _
      rw [List.drop_eq_nil_of_le (by rw [← Lib.size_eq]; omega)]
      rfl
    rcases hx with e1 | e1
    all_goals
      rw [e1] at hi
      go_enter Try.func18, Try.ntmps18
      go_wp2_with fail
      refine (coreRefDigits_is U.cMost_dig 0 s (0) (0) _ hs (by omega) (by omega) HA.out).mono ?_
      rintro e w1 ⟨rfl, rfl⟩
      go_wp2_with fail
      refine (coreRefDigits_is U.cMost_dig b s (0 + 1) (1) _ hs (by omega) (by omega) HB.out).mono ?_
      rintro e w1 ⟨rfl, rfl⟩
      go_wp2_with fail
      refine (coreRefDigits_is U.cMost_dig 0 s (k + 1) ((k : Int) + 1) _ hs (by omega) (by omega) HN.out).mono ?_
      rintro e w1 ⟨rfl, rfl⟩
      go_wp2
      go_ret
      exact ⟨rfl, rfl⟩
  | signZ h hx h1 hy hn =>
    have hi := run_byt s k h (k : Int) rfl
    obtain ⟨x, hx0⟩ : ∃ x : Nat, x = byt s k := ⟨_, rfl⟩
    rw [← hx0] at hi hx
    clear hx0
    have hi2 := run_byt s (k + 1) h1 ((k : Int) + 1) (by omega)
    obtain ⟨y, hy0⟩ : ∃ y : Nat, y = byt s (k + 1) := ⟨_, rfl⟩
    rw [← hy0] at hi2 hy
    clear hy0
    have HN := Lib.hid hn
    clear hn
    rcases hx with e1 | e1 <;> rcases hy with e2 | e2
    all_goals
      rw [e1] at hi
      rw [e2] at hi2
      go_enter Try.func18, Try.ntmps18
      go_wp2_with fail
      refine (coreRefDigits_is U.cMost_dig 0 s (0) (0) _ hs (by omega) (by omega) HA.out).mono ?_
      rintro e w1 ⟨rfl, rfl⟩
      go_wp2_with fail
      refine (coreRefDigits_is U.cMost_dig b s (0 + 1) (1) _ hs (by omega) (by omega) HB.out).mono ?_
      rintro e w1 ⟨rfl, rfl⟩
      go_wp2_with fail
      refine (coreRefDigits_is U.cMost_dig 0 s (k + 2) ((k : Int) + 1 + 1) _ hs (by omega) (by omega) HN.out).mono ?_
      rintro e w1 ⟨rfl, rfl⟩
      go_wp2
      go_ret
      exact ⟨rfl, rfl⟩
  | signN n h hx h1 hy h2 hn h3 =>
    have hi := run_byt s k h (k : Int) rfl
    obtain ⟨x, hx0⟩ : ∃ x : Nat, x = byt s k := ⟨_, rfl⟩
    rw [← hx0] at hi hx
    clear hx0
    have hi2 := run_byt s (k + 1) h1 ((k : Int) + 1) (by omega)
    obtain ⟨y, hy0⟩ : ∃ y : Nat, y = byt s (k + 1) := ⟨_, rfl⟩
    rw [← hy0] at hi2 hy
    clear hy0
    have HN := Lib.hid hn
    clear hn
    have en : ((n : Int) == 0) = false := by simp; omega
    rcases hx with e1 | e1 <;> rcases hy with e2 | e2
    all_goals
      rw [e1] at hi
      rw [e2] at hi2
      go_enter Try.func18, Try.ntmps18
      go_wp2_with fail
      refine (coreRefDigits_is U.cMost_dig 0 s (0) (0) _ hs (by omega) (by omega) HA.out).mono ?_
      rintro e w1 ⟨rfl, rfl⟩
      go_wp2_with fail
      refine (coreRefDigits_is U.cMost_dig b s (0 + 1) (1) _ hs (by omega) (by omega) HB.out).mono ?_
      rintro e w1 ⟨rfl, rfl⟩
      go_wp2_with fail
      refine (coreRefDigits_is U.cMost_dig n s (k + 2) ((k : Int) + 1 + 1) _ hs (by omega) (by omega) HN.out).mono ?_
      rintro e w1 ⟨rfl, rfl⟩
      go_wp2
      go_ret
      exact ⟨rfl, rfl⟩
  | signE n h hx h1 hy h2 hn h3 h4 =>
    have hi := run_byt s k h (k : Int) rfl
    obtain ⟨x, hx0⟩ : ∃ x : Nat, x = byt s k := ⟨_, rfl⟩
    rw [← hx0] at hi hx
    clear hx0
    have hi2 := run_byt s (k + 1) h1 ((k : Int) + 1) (by omega)
    obtain ⟨y, hy0⟩ : ∃ y : Nat, y = byt s (k + 1) := ⟨_, rfl⟩
    rw [← hy0] at hi2 hy
    clear hy0
    have HN := Lib.hid hn
    clear hn
    have en : ((n : Int) == 0) = false := by simp; omega
    rcases hx with e1 | e1 <;> rcases hy with e2 | e2
    all_goals
      rw [e1] at hi
      rw [e2] at hi2
      go_enter Try.func18, Try.ntmps18
      go_wp2_with fail
      refine (coreRefDigits_is U.cMost_dig 0 s (0) (0) _ hs (by omega) (by omega) HA.out).mono ?_
      rintro e w1 ⟨rfl, rfl⟩
      go_wp2_with fail
      refine (coreRefDigits_is U.cMost_dig b s (0 + 1) (1) _ hs (by omega) (by omega) HB.out).mono ?_
      rintro e w1 ⟨rfl, rfl⟩
      go_wp2_with fail
      refine (coreRefDigits_is U.cMost_dig n s (k + 2) ((k : Int) + 1 + 1) _ hs (by omega) (by omega) HN.out).mono ?_
      rintro e w1 ⟨rfl, rfl⟩
      go_wp2
      go_ret
      exact ⟨rfl, rfl⟩
  | plainZ h hx h1 hy1 hy2 hn =>
    have hi := run_byt s k h (k : Int) rfl
    obtain ⟨x, hx0⟩ : ∃ x : Nat, x = byt s k := ⟨_, rfl⟩
    rw [← hx0] at hi hx
    clear hx0
    have hi2 := run_byt s (k + 1) h1 ((k : Int) + 1) (by omega)
    obtain ⟨y, hy0⟩ : ∃ y : Nat, y = byt s (k + 1) := ⟨_, rfl⟩
    rw [← hy0] at hi2 hy1 hy2
    clear hy0
    have HN := Lib.hid hn
    clear hn
    have e3 : ((y : Int) == 43) = false := by simp; omega
    have e4 : ((y : Int) == 45) = false := by simp; omega
    clear hy1 hy2
    rcases hx with e1 | e1
    all_goals
      rw [e1] at hi
      go_enter Try.func18, Try.ntmps18
      go_wp2_with fail
      refine (coreRefDigits_is U.cMost_dig 0 s (0) (0) _ hs (by omega) (by omega) HA.out).mono ?_
      rintro e w1 ⟨rfl, rfl⟩
      go_wp2_with fail
      refine (coreRefDigits_is U.cMost_dig b s (0 + 1) (1) _ hs (by omega) (by omega) HB.out).mono ?_
      rintro e w1 ⟨rfl, rfl⟩
      go_wp2_with fail
      refine (coreRefDigits_is U.cMost_dig 0 s (k + 1) ((k : Int) + 1) _ hs (by omega) (by omega) HN.out).mono ?_
      rintro e w1 ⟨rfl, rfl⟩
      go_wp2
      go_ret
      exact ⟨rfl, rfl⟩
  | plainN n h hx h1 hy1 hy2 h2 hn h3 =>
    have hi := run_byt s k h (k : Int) rfl
    obtain ⟨x, hx0⟩ : ∃ x : Nat, x = byt s k := ⟨_, rfl⟩
    rw [← hx0] at hi hx
    clear hx0
    have hi2 := run_byt s (k + 1) h1 ((k : Int) + 1) (by omega)
    obtain ⟨y, hy0⟩ : ∃ y : Nat, y = byt s (k + 1) := ⟨_, rfl⟩
    rw [← hy0] at hi2 hy1 hy2
    clear hy0
    have HN := Lib.hid hn
    clear hn
    have en : ((n : Int) == 0) = false := by simp; omega
    have e3 : ((y : Int) == 43) = false := by simp; omega
    have e4 : ((y : Int) == 45) = false := by simp; omega
    clear hy1 hy2
    rcases hx with e1 | e1
    all_goals
      rw [e1] at hi
      go_enter Try.func18, Try.ntmps18
      go_wp2_with fail
      refine (coreRefDigits_is U.cMost_dig 0 s (0) (0) _ hs (by omega) (by omega) HA.out).mono ?_
      rintro e w1 ⟨rfl, rfl⟩
      go_wp2_with fail
      refine (coreRefDigits_is U.cMost_dig b s (0 + 1) (1) _ hs (by omega) (by omega) HB.out).mono ?_
      rintro e w1 ⟨rfl, rfl⟩
      go_wp2_with fail
      refine (coreRefDigits_is U.cMost_dig n s (k + 1) ((k : Int) + 1) _ hs (by omega) (by omega) HN.out).mono ?_
      rintro e w1 ⟨rfl, rfl⟩
      go_wp2
      go_ret
      exact ⟨rfl, rfl⟩
  | plainE n h hx h1 hy1 hy2 h2 hn h3 h4 =>
    have hi := run_byt s k h (k : Int) rfl
    obtain ⟨x, hx0⟩ : ∃ x : Nat, x = byt s k := ⟨_, rfl⟩
    rw [← hx0] at hi hx
    clear hx0
    have hi2 := run_byt s (k + 1) h1 ((k : Int) + 1) (by omega)
    obtain ⟨y, hy0⟩ : ∃ y : Nat, y = byt s (k + 1) := ⟨_, rfl⟩
    rw [← hy0] at hi2 hy1 hy2
    clear hy0
    have HN := Lib.hid hn
    clear hn
    have en : ((n : Int) == 0) = false := by simp; omega
    have e3 : ((y : Int) == 43) = false := by simp; omega
    have e4 : ((y : Int) == 45) = false := by simp; omega
    clear hy1 hy2
    rcases hx with e1 | e1
    all_goals
      rw [e1] at hi
      go_enter Try.func18, Try.ntmps18
      go_wp2_with fail
      refine (coreRefDigits_is U.cMost_dig 0 s (0) (0) _ hs (by omega) (by omega) HA.out).mono ?_
      rintro e w1 ⟨rfl, rfl⟩
      go_wp2_with fail
      refine (coreRefDigits_is U.cMost_dig b s (0 + 1) (1) _ hs (by omega) (by omega) HB.out).mono ?_
      rintro e w1 ⟨rfl, rfl⟩
      go_wp2_with fail
      refine (coreRefDigits_is U.cMost_dig n s (k + 1) ((k : Int) + 1) _ hs (by omega) (by omega) HN.out).mono ?_
      rintro e w1 ⟨rfl, rfl⟩
      go_wp2
      go_ret
      exact ⟨rfl, rfl⟩

end Go.Proofs.Ytlaljfdohpoclaa
