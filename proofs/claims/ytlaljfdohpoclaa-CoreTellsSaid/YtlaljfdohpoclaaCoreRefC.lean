/- The document's answer of chapter 8: number whole, and Core: the tag of a plain scalar. Conditions: those that each theorem writes out (lengths that memory can hold). -/
import Derived.Test.YtlaljfdohpoclaaCoreRefN
import Derived.Test.YtlaljfdohpoclaaCore4
namespace Go.Proofs.Ytlaljfdohpoclaa
open Go.RowKit

set_option maxHeartbeats 1600000 in
theorem coreRefNumber_is (r : Nat) (s : ByteArray) (w : World) (hs : s.size ≤ 1099511627776) (h : U.cNum s.data.toList = r) :
    Calls Try.prog 18 #[.string s] w fun e w' => e = .returned (.int .i64 (r : Int)) ∧ w = w' := by
  have hl : s.data.toList.length = s.size := (Lib.size_eq s).symm
  obtain ⟨a, ha⟩ : ∃ a, U.cRun U.cDig s.data.toList = a := ⟨_, rfl⟩
  have hle := U.cRun_le U.cDig s.data.toList
  rw [ha, hl] at hle
  have ha0 : U.cRun U.cDig (s.data.toList.drop 0) = a := by rw [List.drop_zero]; exact ha
  by_cases hend : a = s.size
  · by_cases hz : a = 0
    · have hnil : s.data.toList = [] := List.eq_nil_of_length_eq_zero (by omega)
      rw [hnil] at h
      have h2 : r = 0 := by rw [← h]; rfl
      subst h2
      have hsz : s.size ≤ 0 := by omega
      have HA := Lib.hid (show U.cRun U.cDig (s.data.toList.drop 0) = 0 by rw [ha0]; exact hz)
      clear hend hz hnil h ha ha0 hle hl
      go_enter Try.func18, Try.ntmps18
      go_wp2_with fail
      refine (coreRefDigits_is U.cMost_dig 0 s 0 0 _ hs (by omega) (by omega) HA.out).mono ?_
      rintro e w1 ⟨rfl, rfl⟩
      go_wp2
      go_ret
      exact ⟨rfl, rfl⟩
    · have hall : U.cAll U.cDig s.data.toList = true := by
        unfold U.cAll
        rw [ha, hl, decide_eq_true hend, Bool.and_true, Bool.not_eq_true', List.isEmpty_eq_false_iff]
        intro e
        rw [e] at hl
        simp at hl
        omega
      have h2 : r = 1 := by rw [← h]; unfold U.cNum; rw [if_pos hall]
      subst h2
      have HA := Lib.hid ha0
      have ea : ((a : Int) == 0) = false := by simp; omega
      have hge : s.size ≤ a := by omega
      clear hend hz hall h ha ha0 hl
      go_enter Try.func18, Try.ntmps18
      go_wp2_with fail
      refine (coreRefDigits_is U.cMost_dig a s 0 0 _ hs (by omega) (by omega) HA.out).mono ?_
      rintro e w1 ⟨rfl, rfl⟩
      go_wp2
      go_ret
      exact ⟨rfl, rfl⟩
  have hlt : a < s.size := by omega
  have hall : U.cAll U.cDig s.data.toList = false := by
    unfold U.cAll
    rw [ha, hl, decide_eq_false hend, Bool.and_false]
  have h2 : (if U.cDec s.data.toList = true then 2 else 0) = r := by
    rw [← h]
    unfold U.cNum
    rw [hall]
    rfl
  obtain ⟨b0, hd, hb⟩ := drop_byte s a hlt
  unfold U.cDec at h2
  rw [ha, hd, U.cPart_cons, U.cRest_cons, hb] at h2
  clear hend hall h ha
  by_cases h46 : (byt s a : Int) = 46
  · rw [if_pos h46, if_pos h46] at h2
    obtain ⟨b, hbr⟩ : ∃ b, U.cRun U.cDig (s.data.toList.drop (a + 1)) = b := ⟨_, rfl⟩
    have hble := U.cRun_le U.cDig (s.data.toList.drop (a + 1))
    rw [hbr, List.length_drop, hl] at hble
    rw [hbr, List.drop_drop] at h2
    by_cases hz : 0 < a + b
    · rw [decide_eq_true hz, Bool.true_and] at h2
      have T := CTail.ex s (a + 1 + b) (by omega)
      rw [h2] at T
      by_cases ha1 : 0 < a
      · exact coreRefNumber_H2 r s w hs a b (a + 1 + b) (by omega) hlt ha0 ha1 h46 hbr (by omega) T
      · obtain rfl : a = 0 := by omega
        exact coreRefNumber_H3 r s w hs b (0 + 1 + b) (by omega) hlt ha0 h46 hbr (by omega) (by omega) T
    · rw [decide_eq_false hz, Bool.false_and] at h2
      have h3 : r = 0 := by rw [← h2]; rfl
      subst h3
      obtain ⟨rfl, rfl⟩ : a = 0 ∧ b = 0 := by omega
      have hi := run_byt s 0 hlt 0 rfl
      rw [h46] at hi
      have HA := Lib.hid ha0
      have HB := Lib.hid hbr
      clear h2 hd hb ha0 hbr hz
      go_enter Try.func18, Try.ntmps18
      go_wp2_with fail
      refine (coreRefDigits_is U.cMost_dig 0 s 0 0 _ hs (by omega) (by omega) HA.out).mono ?_
      rintro e w1 ⟨rfl, rfl⟩
      go_wp2_with fail
      refine (coreRefDigits_is U.cMost_dig 0 s (0 + 1) 1 _ hs (by omega) (by omega) HB.out).mono ?_
      rintro e w1 ⟨rfl, rfl⟩
      go_wp2
      go_ret
      exact ⟨rfl, rfl⟩
  · rw [if_neg h46, if_neg h46, ← hd, Nat.add_zero] at h2
    by_cases hz : 0 < a
    · rw [decide_eq_true hz, Bool.true_and] at h2
      have T := CTail.ex s a hle
      rw [h2] at T
      exact coreRefNumber_H1 r s w hs a hlt ha0 hz h46 T
    · rw [decide_eq_false hz, Bool.false_and] at h2
      have h3 : r = 0 := by rw [← h2]; rfl
      subst h3
      obtain rfl : a = 0 := by omega
      have hi := run_byt s 0 hlt 0 rfl
      obtain ⟨x, hx⟩ : ∃ x : Nat, x = byt s 0 := ⟨_, rfl⟩
      rw [← hx] at hi h46
      have e46 : ((x : Int) == 46) = false := by simp; omega
      have HA := Lib.hid ha0
      clear h2 hd hb ha0 hz hx h46
      go_enter Try.func18, Try.ntmps18
      go_wp2_with fail
      refine (coreRefDigits_is U.cMost_dig 0 s 0 0 _ hs (by omega) (by omega) HA.out).mono ?_
      rintro e w1 ⟨rfl, rfl⟩
      go_wp2
      go_ret
      exact ⟨rfl, rfl⟩

set_option maxHeartbeats 800000 in
theorem coreRefCore_w0 (s : ByteArray) (w : World)  (g0 : s.toList.isEmpty = true) :
    Calls Try.prog 10 #[.string s] w fun e w' => e = .returned (.string (tagS 0)) ∧ w = w' := by
  go_enter Try.func10, Try.ntmps10
  go_wp2_with fail
  refine (coreRefLong_is (tagS 0) _ _ (cWord_size 0) rfl).mono ?_
  rintro e w1 ⟨rfl, rfl⟩
  go_wp2
  go_ret
  exact ⟨rfl, rfl⟩

set_option maxHeartbeats 800000 in
theorem coreRefCore_w1 (s : ByteArray) (w : World) (g0 : s.toList.isEmpty = false) (g1 : (s.toList == [110, 117, 108, 108]) = true) :
    Calls Try.prog 10 #[.string s] w fun e w' => e = .returned (.string (tagS 0)) ∧ w = w' := by
  go_enter Try.func10, Try.ntmps10
  go_wp2_with fail
  refine (coreRefLong_is (tagS 0) _ _ (cWord_size 0) rfl).mono ?_
  rintro e w1 ⟨rfl, rfl⟩
  go_wp2
  go_ret
  exact ⟨rfl, rfl⟩

set_option maxHeartbeats 800000 in
theorem coreRefCore_w2 (s : ByteArray) (w : World) (g0 : s.toList.isEmpty = false) (g1 : (s.toList == [110, 117, 108, 108]) = false) (g2 : (s.toList == [78, 117, 108, 108]) = true) :
    Calls Try.prog 10 #[.string s] w fun e w' => e = .returned (.string (tagS 0)) ∧ w = w' := by
  go_enter Try.func10, Try.ntmps10
  go_wp2_with fail
  refine (coreRefLong_is (tagS 0) _ _ (cWord_size 0) rfl).mono ?_
  rintro e w1 ⟨rfl, rfl⟩
  go_wp2
  go_ret
  exact ⟨rfl, rfl⟩

set_option maxHeartbeats 800000 in
theorem coreRefCore_w3 (s : ByteArray) (w : World) (g0 : s.toList.isEmpty = false) (g1 : (s.toList == [110, 117, 108, 108]) = false) (g2 : (s.toList == [78, 117, 108, 108]) = false) (g3 : (s.toList == [78, 85, 76, 76]) = true) :
    Calls Try.prog 10 #[.string s] w fun e w' => e = .returned (.string (tagS 0)) ∧ w = w' := by
  go_enter Try.func10, Try.ntmps10
  go_wp2_with fail
  refine (coreRefLong_is (tagS 0) _ _ (cWord_size 0) rfl).mono ?_
  rintro e w1 ⟨rfl, rfl⟩
  go_wp2
  go_ret
  exact ⟨rfl, rfl⟩

set_option maxHeartbeats 800000 in
theorem coreRefCore_w4 (s : ByteArray) (w : World) (g0 : s.toList.isEmpty = false) (g1 : (s.toList == [110, 117, 108, 108]) = false) (g2 : (s.toList == [78, 117, 108, 108]) = false) (g3 : (s.toList == [78, 85, 76, 76]) = false) (g4 : (s.toList == [126]) = true) :
    Calls Try.prog 10 #[.string s] w fun e w' => e = .returned (.string (tagS 0)) ∧ w = w' := by
  go_enter Try.func10, Try.ntmps10
  go_wp2_with fail
  refine (coreRefLong_is (tagS 0) _ _ (cWord_size 0) rfl).mono ?_
  rintro e w1 ⟨rfl, rfl⟩
  go_wp2
  go_ret
  exact ⟨rfl, rfl⟩

set_option maxHeartbeats 800000 in
theorem coreRefCore_w5 (s : ByteArray) (w : World) (g0 : s.toList.isEmpty = false) (g1 : (s.toList == [110, 117, 108, 108]) = false) (g2 : (s.toList == [78, 117, 108, 108]) = false) (g3 : (s.toList == [78, 85, 76, 76]) = false) (g4 : (s.toList == [126]) = false) (g5 : (s.toList == [116, 114, 117, 101]) = true) :
    Calls Try.prog 10 #[.string s] w fun e w' => e = .returned (.string (tagS 1)) ∧ w = w' := by
  go_enter Try.func10, Try.ntmps10
  go_wp2_with fail
  refine (coreRefLong_is (tagS 1) _ _ (cWord_size 1) rfl).mono ?_
  rintro e w1 ⟨rfl, rfl⟩
  go_wp2
  go_ret
  exact ⟨rfl, rfl⟩

set_option maxHeartbeats 800000 in
theorem coreRefCore_w6 (s : ByteArray) (w : World) (g0 : s.toList.isEmpty = false) (g1 : (s.toList == [110, 117, 108, 108]) = false) (g2 : (s.toList == [78, 117, 108, 108]) = false) (g3 : (s.toList == [78, 85, 76, 76]) = false) (g4 : (s.toList == [126]) = false) (g5 : (s.toList == [116, 114, 117, 101]) = false) (g6 : (s.toList == [84, 114, 117, 101]) = true) :
    Calls Try.prog 10 #[.string s] w fun e w' => e = .returned (.string (tagS 1)) ∧ w = w' := by
  go_enter Try.func10, Try.ntmps10
  go_wp2_with fail
  refine (coreRefLong_is (tagS 1) _ _ (cWord_size 1) rfl).mono ?_
  rintro e w1 ⟨rfl, rfl⟩
  go_wp2
  go_ret
  exact ⟨rfl, rfl⟩

set_option maxHeartbeats 800000 in
theorem coreRefCore_w7 (s : ByteArray) (w : World) (g0 : s.toList.isEmpty = false) (g1 : (s.toList == [110, 117, 108, 108]) = false) (g2 : (s.toList == [78, 117, 108, 108]) = false) (g3 : (s.toList == [78, 85, 76, 76]) = false) (g4 : (s.toList == [126]) = false) (g5 : (s.toList == [116, 114, 117, 101]) = false) (g6 : (s.toList == [84, 114, 117, 101]) = false) (g7 : (s.toList == [84, 82, 85, 69]) = true) :
    Calls Try.prog 10 #[.string s] w fun e w' => e = .returned (.string (tagS 1)) ∧ w = w' := by
  go_enter Try.func10, Try.ntmps10
  go_wp2_with fail
  refine (coreRefLong_is (tagS 1) _ _ (cWord_size 1) rfl).mono ?_
  rintro e w1 ⟨rfl, rfl⟩
  go_wp2
  go_ret
  exact ⟨rfl, rfl⟩

set_option maxHeartbeats 800000 in
theorem coreRefCore_w8 (s : ByteArray) (w : World) (g0 : s.toList.isEmpty = false) (g1 : (s.toList == [110, 117, 108, 108]) = false) (g2 : (s.toList == [78, 117, 108, 108]) = false) (g3 : (s.toList == [78, 85, 76, 76]) = false) (g4 : (s.toList == [126]) = false) (g5 : (s.toList == [116, 114, 117, 101]) = false) (g6 : (s.toList == [84, 114, 117, 101]) = false) (g7 : (s.toList == [84, 82, 85, 69]) = false) (g8 : (s.toList == [102, 97, 108, 115, 101]) = true) :
    Calls Try.prog 10 #[.string s] w fun e w' => e = .returned (.string (tagS 1)) ∧ w = w' := by
  go_enter Try.func10, Try.ntmps10
  go_wp2_with fail
  refine (coreRefLong_is (tagS 1) _ _ (cWord_size 1) rfl).mono ?_
  rintro e w1 ⟨rfl, rfl⟩
  go_wp2
  go_ret
  exact ⟨rfl, rfl⟩

set_option maxHeartbeats 800000 in
theorem coreRefCore_w9 (s : ByteArray) (w : World) (g0 : s.toList.isEmpty = false) (g1 : (s.toList == [110, 117, 108, 108]) = false) (g2 : (s.toList == [78, 117, 108, 108]) = false) (g3 : (s.toList == [78, 85, 76, 76]) = false) (g4 : (s.toList == [126]) = false) (g5 : (s.toList == [116, 114, 117, 101]) = false) (g6 : (s.toList == [84, 114, 117, 101]) = false) (g7 : (s.toList == [84, 82, 85, 69]) = false) (g8 : (s.toList == [102, 97, 108, 115, 101]) = false) (g9 : (s.toList == [70, 97, 108, 115, 101]) = true) :
    Calls Try.prog 10 #[.string s] w fun e w' => e = .returned (.string (tagS 1)) ∧ w = w' := by
  go_enter Try.func10, Try.ntmps10
  go_wp2_with fail
  refine (coreRefLong_is (tagS 1) _ _ (cWord_size 1) rfl).mono ?_
  rintro e w1 ⟨rfl, rfl⟩
  go_wp2
  go_ret
  exact ⟨rfl, rfl⟩

set_option maxHeartbeats 800000 in
theorem coreRefCore_w10 (s : ByteArray) (w : World) (g0 : s.toList.isEmpty = false) (g1 : (s.toList == [110, 117, 108, 108]) = false) (g2 : (s.toList == [78, 117, 108, 108]) = false) (g3 : (s.toList == [78, 85, 76, 76]) = false) (g4 : (s.toList == [126]) = false) (g5 : (s.toList == [116, 114, 117, 101]) = false) (g6 : (s.toList == [84, 114, 117, 101]) = false) (g7 : (s.toList == [84, 82, 85, 69]) = false) (g8 : (s.toList == [102, 97, 108, 115, 101]) = false) (g9 : (s.toList == [70, 97, 108, 115, 101]) = false) (g10 : (s.toList == [70, 65, 76, 83, 69]) = true) :
    Calls Try.prog 10 #[.string s] w fun e w' => e = .returned (.string (tagS 1)) ∧ w = w' := by
  go_enter Try.func10, Try.ntmps10
  go_wp2_with fail
  refine (coreRefLong_is (tagS 1) _ _ (cWord_size 1) rfl).mono ?_
  rintro e w1 ⟨rfl, rfl⟩
  go_wp2
  go_ret
  exact ⟨rfl, rfl⟩

set_option maxHeartbeats 800000 in
theorem coreRefCore_w11 (s : ByteArray) (w : World) (g0 : s.toList.isEmpty = false) (g1 : (s.toList == [110, 117, 108, 108]) = false) (g2 : (s.toList == [78, 117, 108, 108]) = false) (g3 : (s.toList == [78, 85, 76, 76]) = false) (g4 : (s.toList == [126]) = false) (g5 : (s.toList == [116, 114, 117, 101]) = false) (g6 : (s.toList == [84, 114, 117, 101]) = false) (g7 : (s.toList == [84, 82, 85, 69]) = false) (g8 : (s.toList == [102, 97, 108, 115, 101]) = false) (g9 : (s.toList == [70, 97, 108, 115, 101]) = false) (g10 : (s.toList == [70, 65, 76, 83, 69]) = false) (g11 : (s.toList == [46, 110, 97, 110]) = true) :
    Calls Try.prog 10 #[.string s] w fun e w' => e = .returned (.string (tagS 3)) ∧ w = w' := by
  go_enter Try.func10, Try.ntmps10
  go_wp2_with fail
  refine (coreRefLong_is (tagS 3) _ _ (cWord_size 3) rfl).mono ?_
  rintro e w1 ⟨rfl, rfl⟩
  go_wp2
  go_ret
  exact ⟨rfl, rfl⟩

set_option maxHeartbeats 800000 in
theorem coreRefCore_w12 (s : ByteArray) (w : World) (g0 : s.toList.isEmpty = false) (g1 : (s.toList == [110, 117, 108, 108]) = false) (g2 : (s.toList == [78, 117, 108, 108]) = false) (g3 : (s.toList == [78, 85, 76, 76]) = false) (g4 : (s.toList == [126]) = false) (g5 : (s.toList == [116, 114, 117, 101]) = false) (g6 : (s.toList == [84, 114, 117, 101]) = false) (g7 : (s.toList == [84, 82, 85, 69]) = false) (g8 : (s.toList == [102, 97, 108, 115, 101]) = false) (g9 : (s.toList == [70, 97, 108, 115, 101]) = false) (g10 : (s.toList == [70, 65, 76, 83, 69]) = false) (g11 : (s.toList == [46, 110, 97, 110]) = false) (g12 : (s.toList == [46, 78, 97, 78]) = true) :
    Calls Try.prog 10 #[.string s] w fun e w' => e = .returned (.string (tagS 3)) ∧ w = w' := by
  go_enter Try.func10, Try.ntmps10
  go_wp2_with fail
  refine (coreRefLong_is (tagS 3) _ _ (cWord_size 3) rfl).mono ?_
  rintro e w1 ⟨rfl, rfl⟩
  go_wp2
  go_ret
  exact ⟨rfl, rfl⟩

set_option maxHeartbeats 800000 in
theorem coreRefCore_w13 (s : ByteArray) (w : World) (g0 : s.toList.isEmpty = false) (g1 : (s.toList == [110, 117, 108, 108]) = false) (g2 : (s.toList == [78, 117, 108, 108]) = false) (g3 : (s.toList == [78, 85, 76, 76]) = false) (g4 : (s.toList == [126]) = false) (g5 : (s.toList == [116, 114, 117, 101]) = false) (g6 : (s.toList == [84, 114, 117, 101]) = false) (g7 : (s.toList == [84, 82, 85, 69]) = false) (g8 : (s.toList == [102, 97, 108, 115, 101]) = false) (g9 : (s.toList == [70, 97, 108, 115, 101]) = false) (g10 : (s.toList == [70, 65, 76, 83, 69]) = false) (g11 : (s.toList == [46, 110, 97, 110]) = false) (g12 : (s.toList == [46, 78, 97, 78]) = false) (g13 : (s.toList == [46, 78, 65, 78]) = true) :
    Calls Try.prog 10 #[.string s] w fun e w' => e = .returned (.string (tagS 3)) ∧ w = w' := by
  go_enter Try.func10, Try.ntmps10
  go_wp2_with fail
  refine (coreRefLong_is (tagS 3) _ _ (cWord_size 3) rfl).mono ?_
  rintro e w1 ⟨rfl, rfl⟩
  go_wp2
  go_ret
  exact ⟨rfl, rfl⟩

theorem cTail_inf (l : List UInt8) (h : U.cIn U.cInfs l = true) : U.cTail l = 3 := by unfold U.cTail; rw [if_pos h]
theorem cTail_num (l : List UInt8) (h : U.cIn U.cInfs l = false) : U.cTail l = if U.cNum l = 1 then 2 else if U.cNum l = 2 then 3 else 4 := by unfold U.cTail; rw [if_neg (by simp [h])]

set_option maxHeartbeats 8000000 in
theorem coreRefCore_short (k : Nat) (s : ByteArray) (w : World) (hs : s.size ≤ 1099511627776) (g0 : s.toList.isEmpty = false) (g1 : (s.toList == [110, 117, 108, 108]) = false) (g2 : (s.toList == [78, 117, 108, 108]) = false) (g3 : (s.toList == [78, 85, 76, 76]) = false) (g4 : (s.toList == [126]) = false) (g5 : (s.toList == [116, 114, 117, 101]) = false) (g6 : (s.toList == [84, 114, 117, 101]) = false) (g7 : (s.toList == [84, 82, 85, 69]) = false) (g8 : (s.toList == [102, 97, 108, 115, 101]) = false) (g9 : (s.toList == [70, 97, 108, 115, 101]) = false) (g10 : (s.toList == [70, 65, 76, 83, 69]) = false) (g11 : (s.toList == [46, 110, 97, 110]) = false) (g12 : (s.toList == [46, 78, 97, 78]) = false) (g13 : (s.toList == [46, 78, 65, 78]) = false) (z0 : s.size ≤ 2) (h : U.cTail (U.cUns s.data.toList) = k) :
    Calls Try.prog 10 #[.string s] w fun e w' => e = .returned (.string (tagS k)) ∧ w = w' := by
  rcases uns_cases s with ⟨u1, u2⟩ | ⟨u1, u2, u3, u4⟩ | ⟨u1, u2, u3, u4⟩
  · rw [u1] at g0; cases g0
  · rw [u4] at h
    obtain ⟨s1, he⟩ : ∃ s1, s.extract 1 s.size = s1 := ⟨_, rfl⟩
    have hs1 : s1.size ≤ 1099511627776 := by rw [← he, ByteArray.size_extract]; omega
    rw [he] at h
    have hi := run_byt s 0 u2 0 rfl
    obtain ⟨x, hx⟩ : ∃ x : Nat, x = byt s 0 := ⟨_, rfl⟩
    rw [← hx] at hi u3
    have hx2 : (x : Int) = 43 ∨ (x : Int) = 45 := of_decide_eq_true u3
    clear hx u3 u4
    rcases hx2 with e1 | e1
    all_goals
      rw [e1] at hi
      cases i0 : (s1.toList == [46, 105, 110, 102]) with
      | true =>
        have hk : k = 3 := by rw [← h, cTail_inf _ (by rw [cInfs_or, i0]; rfl)]
        subst hk
        clear h
        go_enter Try.func10, Try.ntmps10
        go_wp2_with fail
        refine (coreRefLong_is (tagS 3) _ _ (cWord_size 3) rfl).mono ?_
        rintro e w1 ⟨rfl, rfl⟩
        go_wp2
        go_ret
        exact ⟨rfl, rfl⟩
      | false =>
        cases i1 : (s1.toList == [46, 73, 110, 102]) with
        | true =>
          have hk : k = 3 := by rw [← h, cTail_inf _ (by rw [cInfs_or, i0, i1]; rfl)]
          subst hk
          clear h
          go_enter Try.func10, Try.ntmps10
          go_wp2_with fail
          refine (coreRefLong_is (tagS 3) _ _ (cWord_size 3) rfl).mono ?_
          rintro e w1 ⟨rfl, rfl⟩
          go_wp2
          go_ret
          exact ⟨rfl, rfl⟩
        | false =>
          cases i2 : (s1.toList == [46, 73, 78, 70]) with
          | true =>
            have hk : k = 3 := by rw [← h, cTail_inf _ (by rw [cInfs_or, i0, i1, i2]; rfl)]
            subst hk
            clear h
            go_enter Try.func10, Try.ntmps10
            go_wp2_with fail
            refine (coreRefLong_is (tagS 3) _ _ (cWord_size 3) rfl).mono ?_
            rintro e w1 ⟨rfl, rfl⟩
            go_wp2
            go_ret
            exact ⟨rfl, rfl⟩
          | false =>
            rw [cTail_num _ (by rw [cInfs_or, i0, i1, i2]; rfl)] at h
            obtain ⟨r, hr⟩ : ∃ r, U.cNum s1.data.toList = r := ⟨_, rfl⟩
            rw [hr] at h
            have HR := Lib.hid hr
            have hr2 : r = 1 ∨ r = 2 ∨ r = 0 := by rw [← hr]; exact U.cNum_cases _
            clear hr
            rcases hr2 with rfl | rfl | rfl
            · have hk : k = 2 := by rw [← h]; rfl
              subst hk
              clear h
              go_enter Try.func10, Try.ntmps10
              go_wp2_with fail
              refine (coreRefNumber_is 1 s1 _ hs1 HR.out).mono ?_
              rintro e w1 ⟨rfl, rfl⟩
              go_wp2_with fail
              refine (coreRefLong_is (tagS 2) _ _ (cWord_size 2) rfl).mono ?_
              rintro e w1 ⟨rfl, rfl⟩
              go_wp2
              go_ret
              exact ⟨rfl, rfl⟩
            · have hk : k = 3 := by rw [← h]; rfl
              subst hk
              clear h
              go_enter Try.func10, Try.ntmps10
              go_wp2_with fail
              refine (coreRefNumber_is 2 s1 _ hs1 HR.out).mono ?_
              rintro e w1 ⟨rfl, rfl⟩
              go_wp2_with fail
              refine (coreRefLong_is (tagS 3) _ _ (cWord_size 3) rfl).mono ?_
              rintro e w1 ⟨rfl, rfl⟩
              go_wp2
              go_ret
              exact ⟨rfl, rfl⟩
            · have hk : k = 4 := by rw [← h]; rfl
              subst hk
              clear h
              go_enter Try.func10, Try.ntmps10
              go_wp2_with fail
              refine (coreRefNumber_is 0 s1 _ hs1 HR.out).mono ?_
              rintro e w1 ⟨rfl, rfl⟩
              go_wp2_with fail
              refine (coreRefLong_is (tagS 4) _ _ (cWord_size 4) rfl).mono ?_
              rintro e w1 ⟨rfl, rfl⟩
              go_wp2
              go_ret
              exact ⟨rfl, rfl⟩
  · rw [u4] at h
    have hi := run_byt s 0 u2 0 rfl
    obtain ⟨x, hx⟩ : ∃ x : Nat, x = byt s 0 := ⟨_, rfl⟩
    rw [← hx] at hi u3
    have hx2 : ¬ ((x : Int) = 43 ∨ (x : Int) = 45) := of_decide_eq_false u3
    have e1 : ((x : Int) == 43) = false := by simp; omega
    have e2 : ((x : Int) == 45) = false := by simp; omega
    clear hx u3 u4 hx2
    cases i0 : (s.toList == [46, 105, 110, 102]) with
    | true =>
      have hk : k = 3 := by rw [← h, cTail_inf _ (by rw [cInfs_or, i0]; rfl)]
      subst hk
      clear h
      go_enter Try.func10, Try.ntmps10
      go_wp2_with fail
      refine (coreRefLong_is (tagS 3) _ _ (cWord_size 3) rfl).mono ?_
      rintro e w1 ⟨rfl, rfl⟩
      go_wp2
      go_ret
      exact ⟨rfl, rfl⟩
    | false =>
      cases i1 : (s.toList == [46, 73, 110, 102]) with
      | true =>
        have hk : k = 3 := by rw [← h, cTail_inf _ (by rw [cInfs_or, i0, i1]; rfl)]
        subst hk
        clear h
        go_enter Try.func10, Try.ntmps10
        go_wp2_with fail
        refine (coreRefLong_is (tagS 3) _ _ (cWord_size 3) rfl).mono ?_
        rintro e w1 ⟨rfl, rfl⟩
        go_wp2
        go_ret
        exact ⟨rfl, rfl⟩
      | false =>
        cases i2 : (s.toList == [46, 73, 78, 70]) with
        | true =>
          have hk : k = 3 := by rw [← h, cTail_inf _ (by rw [cInfs_or, i0, i1, i2]; rfl)]
          subst hk
          clear h
          go_enter Try.func10, Try.ntmps10
          go_wp2_with fail
          refine (coreRefLong_is (tagS 3) _ _ (cWord_size 3) rfl).mono ?_
          rintro e w1 ⟨rfl, rfl⟩
          go_wp2
          go_ret
          exact ⟨rfl, rfl⟩
        | false =>
          rw [cTail_num _ (by rw [cInfs_or, i0, i1, i2]; rfl)] at h
          obtain ⟨r, hr⟩ : ∃ r, U.cNum s.data.toList = r := ⟨_, rfl⟩
          rw [hr] at h
          have HR := Lib.hid hr
          have hr2 : r = 1 ∨ r = 2 ∨ r = 0 := by rw [← hr]; exact U.cNum_cases _
          clear hr
          rcases hr2 with rfl | rfl | rfl
          · have hk : k = 2 := by rw [← h]; rfl
            subst hk
            clear h
            go_enter Try.func10, Try.ntmps10
            go_wp2_with fail
            refine (coreRefNumber_is 1 s _ hs HR.out).mono ?_
            rintro e w1 ⟨rfl, rfl⟩
            go_wp2_with fail
            refine (coreRefLong_is (tagS 2) _ _ (cWord_size 2) rfl).mono ?_
            rintro e w1 ⟨rfl, rfl⟩
            go_wp2
            go_ret
            exact ⟨rfl, rfl⟩
          · have hk : k = 3 := by rw [← h]; rfl
            subst hk
            clear h
            go_enter Try.func10, Try.ntmps10
            go_wp2_with fail
            refine (coreRefNumber_is 2 s _ hs HR.out).mono ?_
            rintro e w1 ⟨rfl, rfl⟩
            go_wp2_with fail
            refine (coreRefLong_is (tagS 3) _ _ (cWord_size 3) rfl).mono ?_
            rintro e w1 ⟨rfl, rfl⟩
            go_wp2
            go_ret
            exact ⟨rfl, rfl⟩
          · have hk : k = 4 := by rw [← h]; rfl
            subst hk
            clear h
            go_enter Try.func10, Try.ntmps10
            go_wp2_with fail
            refine (coreRefNumber_is 0 s _ hs HR.out).mono ?_
            rintro e w1 ⟨rfl, rfl⟩
            go_wp2_with fail
            refine (coreRefLong_is (tagS 4) _ _ (cWord_size 4) rfl).mono ?_
            rintro e w1 ⟨rfl, rfl⟩
            go_wp2
            go_ret
            exact ⟨rfl, rfl⟩

set_option maxHeartbeats 8000000 in
theorem coreRefCore_none (k : Nat) (s : ByteArray) (w : World) (hs : s.size ≤ 1099511627776) (g0 : s.toList.isEmpty = false) (g1 : (s.toList == [110, 117, 108, 108]) = false) (g2 : (s.toList == [78, 117, 108, 108]) = false) (g3 : (s.toList == [78, 85, 76, 76]) = false) (g4 : (s.toList == [126]) = false) (g5 : (s.toList == [116, 114, 117, 101]) = false) (g6 : (s.toList == [84, 114, 117, 101]) = false) (g7 : (s.toList == [84, 82, 85, 69]) = false) (g8 : (s.toList == [102, 97, 108, 115, 101]) = false) (g9 : (s.toList == [70, 97, 108, 115, 101]) = false) (g10 : (s.toList == [70, 65, 76, 83, 69]) = false) (g11 : (s.toList == [46, 110, 97, 110]) = false) (g12 : (s.toList == [46, 78, 97, 78]) = false) (g13 : (s.toList == [46, 78, 65, 78]) = false) (z0 : 2 < s.size) (z1 : ((s.extract 0 2).toList == [48, 111]) = false) (z2 : ((s.extract 0 2).toList == [48, 120]) = false) (h : U.cTail (U.cUns s.data.toList) = k) :
    Calls Try.prog 10 #[.string s] w fun e w' => e = .returned (.string (tagS k)) ∧ w = w' := by
  rcases uns_cases s with ⟨u1, u2⟩ | ⟨u1, u2, u3, u4⟩ | ⟨u1, u2, u3, u4⟩
  · rw [u1] at g0; cases g0
  · rw [u4] at h
    obtain ⟨s1, he⟩ : ∃ s1, s.extract 1 s.size = s1 := ⟨_, rfl⟩
    have hs1 : s1.size ≤ 1099511627776 := by rw [← he, ByteArray.size_extract]; omega
    rw [he] at h
    have hi := run_byt s 0 u2 0 rfl
    obtain ⟨x, hx⟩ : ∃ x : Nat, x = byt s 0 := ⟨_, rfl⟩
    rw [← hx] at hi u3
    have hx2 : (x : Int) = 43 ∨ (x : Int) = 45 := of_decide_eq_true u3
    clear hx u3 u4
    rcases hx2 with e1 | e1
    all_goals
      rw [e1] at hi
      cases i0 : (s1.toList == [46, 105, 110, 102]) with
      | true =>
        have hk : k = 3 := by rw [← h, cTail_inf _ (by rw [cInfs_or, i0]; rfl)]
        subst hk
        clear h
        go_enter Try.func10, Try.ntmps10
        go_wp2_with fail
        refine (coreRefLong_is (tagS 3) _ _ (cWord_size 3) rfl).mono ?_
        rintro e w1 ⟨rfl, rfl⟩
        go_wp2
        go_ret
        exact ⟨rfl, rfl⟩
      | false =>
        cases i1 : (s1.toList == [46, 73, 110, 102]) with
        | true =>
          have hk : k = 3 := by rw [← h, cTail_inf _ (by rw [cInfs_or, i0, i1]; rfl)]
          subst hk
          clear h
          go_enter Try.func10, Try.ntmps10
          go_wp2_with fail
          refine (coreRefLong_is (tagS 3) _ _ (cWord_size 3) rfl).mono ?_
          rintro e w1 ⟨rfl, rfl⟩
          go_wp2
          go_ret
          exact ⟨rfl, rfl⟩
        | false =>
          cases i2 : (s1.toList == [46, 73, 78, 70]) with
          | true =>
            have hk : k = 3 := by rw [← h, cTail_inf _ (by rw [cInfs_or, i0, i1, i2]; rfl)]
            subst hk
            clear h
            go_enter Try.func10, Try.ntmps10
            go_wp2_with fail
            refine (coreRefLong_is (tagS 3) _ _ (cWord_size 3) rfl).mono ?_
            rintro e w1 ⟨rfl, rfl⟩
            go_wp2
            go_ret
            exact ⟨rfl, rfl⟩
          | false =>
            rw [cTail_num _ (by rw [cInfs_or, i0, i1, i2]; rfl)] at h
            obtain ⟨r, hr⟩ : ∃ r, U.cNum s1.data.toList = r := ⟨_, rfl⟩
            rw [hr] at h
            have HR := Lib.hid hr
            have hr2 : r = 1 ∨ r = 2 ∨ r = 0 := by rw [← hr]; exact U.cNum_cases _
            clear hr
            rcases hr2 with rfl | rfl | rfl
            · have hk : k = 2 := by rw [← h]; rfl
              subst hk
              clear h
              go_enter Try.func10, Try.ntmps10
              go_wp2_with fail
              refine (coreRefNumber_is 1 s1 _ hs1 HR.out).mono ?_
              rintro e w1 ⟨rfl, rfl⟩
              go_wp2_with fail
              refine (coreRefLong_is (tagS 2) _ _ (cWord_size 2) rfl).mono ?_
              rintro e w1 ⟨rfl, rfl⟩
              go_wp2
              go_ret
              exact ⟨rfl, rfl⟩
            · have hk : k = 3 := by rw [← h]; rfl
              subst hk
              clear h
              go_enter Try.func10, Try.ntmps10
              go_wp2_with fail
              refine (coreRefNumber_is 2 s1 _ hs1 HR.out).mono ?_
              rintro e w1 ⟨rfl, rfl⟩
              go_wp2_with fail
              refine (coreRefLong_is (tagS 3) _ _ (cWord_size 3) rfl).mono ?_
              rintro e w1 ⟨rfl, rfl⟩
              go_wp2
              go_ret
              exact ⟨rfl, rfl⟩
            · have hk : k = 4 := by rw [← h]; rfl
              subst hk
              clear h
              go_enter Try.func10, Try.ntmps10
              go_wp2_with fail
              refine (coreRefNumber_is 0 s1 _ hs1 HR.out).mono ?_
              rintro e w1 ⟨rfl, rfl⟩
              go_wp2_with fail
              refine (coreRefLong_is (tagS 4) _ _ (cWord_size 4) rfl).mono ?_
              rintro e w1 ⟨rfl, rfl⟩
              go_wp2
              go_ret
              exact ⟨rfl, rfl⟩
  · rw [u4] at h
    have hi := run_byt s 0 u2 0 rfl
    obtain ⟨x, hx⟩ : ∃ x : Nat, x = byt s 0 := ⟨_, rfl⟩
    rw [← hx] at hi u3
    have hx2 : ¬ ((x : Int) = 43 ∨ (x : Int) = 45) := of_decide_eq_false u3
    have e1 : ((x : Int) == 43) = false := by simp; omega
    have e2 : ((x : Int) == 45) = false := by simp; omega
    clear hx u3 u4 hx2
    cases i0 : (s.toList == [46, 105, 110, 102]) with
    | true =>
      have hk : k = 3 := by rw [← h, cTail_inf _ (by rw [cInfs_or, i0]; rfl)]
      subst hk
      clear h
      go_enter Try.func10, Try.ntmps10
      go_wp2_with fail
      refine (coreRefLong_is (tagS 3) _ _ (cWord_size 3) rfl).mono ?_
      rintro e w1 ⟨rfl, rfl⟩
      go_wp2
      go_ret
      exact ⟨rfl, rfl⟩
    | false =>
      cases i1 : (s.toList == [46, 73, 110, 102]) with
      | true =>
        have hk : k = 3 := by rw [← h, cTail_inf _ (by rw [cInfs_or, i0, i1]; rfl)]
        subst hk
        clear h
        go_enter Try.func10, Try.ntmps10
        go_wp2_with fail
        refine (coreRefLong_is (tagS 3) _ _ (cWord_size 3) rfl).mono ?_
        rintro e w1 ⟨rfl, rfl⟩
        go_wp2
        go_ret
        exact ⟨rfl, rfl⟩
      | false =>
        cases i2 : (s.toList == [46, 73, 78, 70]) with
        | true =>
          have hk : k = 3 := by rw [← h, cTail_inf _ (by rw [cInfs_or, i0, i1, i2]; rfl)]
          subst hk
          clear h
          go_enter Try.func10, Try.ntmps10
          go_wp2_with fail
          refine (coreRefLong_is (tagS 3) _ _ (cWord_size 3) rfl).mono ?_
          rintro e w1 ⟨rfl, rfl⟩
          go_wp2
          go_ret
          exact ⟨rfl, rfl⟩
        | false =>
          rw [cTail_num _ (by rw [cInfs_or, i0, i1, i2]; rfl)] at h
          obtain ⟨r, hr⟩ : ∃ r, U.cNum s.data.toList = r := ⟨_, rfl⟩
          rw [hr] at h
          have HR := Lib.hid hr
          have hr2 : r = 1 ∨ r = 2 ∨ r = 0 := by rw [← hr]; exact U.cNum_cases _
          clear hr
          rcases hr2 with rfl | rfl | rfl
          · have hk : k = 2 := by rw [← h]; rfl
            subst hk
            clear h
            go_enter Try.func10, Try.ntmps10
            go_wp2_with fail
            refine (coreRefNumber_is 1 s _ hs HR.out).mono ?_
            rintro e w1 ⟨rfl, rfl⟩
            go_wp2_with fail
            refine (coreRefLong_is (tagS 2) _ _ (cWord_size 2) rfl).mono ?_
            rintro e w1 ⟨rfl, rfl⟩
            go_wp2
            go_ret
            exact ⟨rfl, rfl⟩
          · have hk : k = 3 := by rw [← h]; rfl
            subst hk
            clear h
            go_enter Try.func10, Try.ntmps10
            go_wp2_with fail
            refine (coreRefNumber_is 2 s _ hs HR.out).mono ?_
            rintro e w1 ⟨rfl, rfl⟩
            go_wp2_with fail
            refine (coreRefLong_is (tagS 3) _ _ (cWord_size 3) rfl).mono ?_
            rintro e w1 ⟨rfl, rfl⟩
            go_wp2
            go_ret
            exact ⟨rfl, rfl⟩
          · have hk : k = 4 := by rw [← h]; rfl
            subst hk
            clear h
            go_enter Try.func10, Try.ntmps10
            go_wp2_with fail
            refine (coreRefNumber_is 0 s _ hs HR.out).mono ?_
            rintro e w1 ⟨rfl, rfl⟩
            go_wp2_with fail
            refine (coreRefLong_is (tagS 4) _ _ (cWord_size 4) rfl).mono ?_
            rintro e w1 ⟨rfl, rfl⟩
            go_wp2
            go_ret
            exact ⟨rfl, rfl⟩

set_option maxHeartbeats 800000 in
theorem coreRefCore_oYes (s : ByteArray) (w : World) (hs : s.size ≤ 1099511627776) (g0 : s.toList.isEmpty = false) (g1 : (s.toList == [110, 117, 108, 108]) = false) (g2 : (s.toList == [78, 117, 108, 108]) = false) (g3 : (s.toList == [78, 85, 76, 76]) = false) (g4 : (s.toList == [126]) = false) (g5 : (s.toList == [116, 114, 117, 101]) = false) (g6 : (s.toList == [84, 114, 117, 101]) = false) (g7 : (s.toList == [84, 82, 85, 69]) = false) (g8 : (s.toList == [102, 97, 108, 115, 101]) = false) (g9 : (s.toList == [70, 97, 108, 115, 101]) = false) (g10 : (s.toList == [70, 65, 76, 83, 69]) = false) (g11 : (s.toList == [46, 110, 97, 110]) = false) (g12 : (s.toList == [46, 78, 97, 78]) = false) (g13 : (s.toList == [46, 78, 65, 78]) = false) (z0 : 2 < s.size) (z1 : ((s.extract 0 2).toList == [48, 111]) = true) (z3 : U.cAll U.cOct (s.data.toList.drop 2) = true) :
    Calls Try.prog 10 #[.string s] w fun e w' => e = .returned (.string (tagS 2)) ∧ w = w' := by
  have HZ := Lib.hid z3
  clear z3
  go_enter Try.func10, Try.ntmps10
  go_wp2_with fail
  refine (coreRefWhole_is U.cMost_oct true s _ hs z0 HZ.out).mono ?_
  rintro e w1 ⟨rfl, rfl⟩
  go_wp2_with fail
  refine (coreRefLong_is (tagS 2) _ _ (cWord_size 2) rfl).mono ?_
  rintro e w1 ⟨rfl, rfl⟩
  go_wp2
  go_ret
  exact ⟨rfl, rfl⟩

set_option maxHeartbeats 4000000 in
theorem coreRefCore_oNo (k : Nat) (s : ByteArray) (w : World) (hs : s.size ≤ 1099511627776) (g0 : s.toList.isEmpty = false) (g1 : (s.toList == [110, 117, 108, 108]) = false) (g2 : (s.toList == [78, 117, 108, 108]) = false) (g3 : (s.toList == [78, 85, 76, 76]) = false) (g4 : (s.toList == [126]) = false) (g5 : (s.toList == [116, 114, 117, 101]) = false) (g6 : (s.toList == [84, 114, 117, 101]) = false) (g7 : (s.toList == [84, 82, 85, 69]) = false) (g8 : (s.toList == [102, 97, 108, 115, 101]) = false) (g9 : (s.toList == [70, 97, 108, 115, 101]) = false) (g10 : (s.toList == [70, 65, 76, 83, 69]) = false) (g11 : (s.toList == [46, 110, 97, 110]) = false) (g12 : (s.toList == [46, 78, 97, 78]) = false) (g13 : (s.toList == [46, 78, 65, 78]) = false) (z0 : 2 < s.size) (z1 : ((s.extract 0 2).toList == [48, 111]) = true) (z2 : ((s.extract 0 2).toList == [48, 120]) = false) (z3 : U.cAll U.cOct (s.data.toList.drop 2) = false) (hx : (byt s 0 : Int) = 48) (i0 : (s.toList == [46, 105, 110, 102]) = false) (i1 : (s.toList == [46, 73, 110, 102]) = false) (i2 : (s.toList == [46, 73, 78, 70]) = false) (h : (if U.cNum s.data.toList = 1 then 2 else if U.cNum s.data.toList = 2 then 3 else 4) = k) :
    Calls Try.prog 10 #[.string s] w fun e w' => e = .returned (.string (tagS k)) ∧ w = w' := by
  have HZ := Lib.hid z3
  have hi := run_byt s 0 (by omega) 0 rfl
  rw [hx] at hi
  clear z3 hx
  obtain ⟨r, hr⟩ : ∃ r, U.cNum s.data.toList = r := ⟨_, rfl⟩
  rw [hr] at h
  have HR := Lib.hid hr
  have hr2 : r = 1 ∨ r = 2 ∨ r = 0 := by rw [← hr]; exact U.cNum_cases _
  clear hr
  rcases hr2 with rfl | rfl | rfl
  · have hk : k = 2 := by rw [← h]; rfl
    subst hk
    clear h
    go_enter Try.func10, Try.ntmps10
    go_wp2_with fail
    refine (coreRefWhole_is U.cMost_oct false s _ hs z0 HZ.out).mono ?_
    rintro e w1 ⟨rfl, rfl⟩
    go_wp2_with fail
    refine (coreRefNumber_is 1 s _ hs HR.out).mono ?_
    rintro e w1 ⟨rfl, rfl⟩
    go_wp2_with fail
    refine (coreRefLong_is (tagS 2) _ _ (cWord_size 2) rfl).mono ?_
    rintro e w1 ⟨rfl, rfl⟩
    go_wp2
    go_ret
    exact ⟨rfl, rfl⟩
  · have hk : k = 3 := by rw [← h]; rfl
    subst hk
    clear h
    go_enter Try.func10, Try.ntmps10
    go_wp2_with fail
    refine (coreRefWhole_is U.cMost_oct false s _ hs z0 HZ.out).mono ?_
    rintro e w1 ⟨rfl, rfl⟩
    go_wp2_with fail
    refine (coreRefNumber_is 2 s _ hs HR.out).mono ?_
    rintro e w1 ⟨rfl, rfl⟩
    go_wp2_with fail
    refine (coreRefLong_is (tagS 3) _ _ (cWord_size 3) rfl).mono ?_
    rintro e w1 ⟨rfl, rfl⟩
    go_wp2
    go_ret
    exact ⟨rfl, rfl⟩
  · have hk : k = 4 := by rw [← h]; rfl
    subst hk
    clear h
    go_enter Try.func10, Try.ntmps10
    go_wp2_with fail
    refine (coreRefWhole_is U.cMost_oct false s _ hs z0 HZ.out).mono ?_
    rintro e w1 ⟨rfl, rfl⟩
    go_wp2_with fail
    refine (coreRefNumber_is 0 s _ hs HR.out).mono ?_
    rintro e w1 ⟨rfl, rfl⟩
    go_wp2_with fail
    refine (coreRefLong_is (tagS 4) _ _ (cWord_size 4) rfl).mono ?_
    rintro e w1 ⟨rfl, rfl⟩
    go_wp2
    go_ret
    exact ⟨rfl, rfl⟩

set_option maxHeartbeats 800000 in
theorem coreRefCore_xYes (s : ByteArray) (w : World) (hs : s.size ≤ 1099511627776) (g0 : s.toList.isEmpty = false) (g1 : (s.toList == [110, 117, 108, 108]) = false) (g2 : (s.toList == [78, 117, 108, 108]) = false) (g3 : (s.toList == [78, 85, 76, 76]) = false) (g4 : (s.toList == [126]) = false) (g5 : (s.toList == [116, 114, 117, 101]) = false) (g6 : (s.toList == [84, 114, 117, 101]) = false) (g7 : (s.toList == [84, 82, 85, 69]) = false) (g8 : (s.toList == [102, 97, 108, 115, 101]) = false) (g9 : (s.toList == [70, 97, 108, 115, 101]) = false) (g10 : (s.toList == [70, 65, 76, 83, 69]) = false) (g11 : (s.toList == [46, 110, 97, 110]) = false) (g12 : (s.toList == [46, 78, 97, 78]) = false) (g13 : (s.toList == [46, 78, 65, 78]) = false) (z0 : 2 < s.size) (z1 : ((s.extract 0 2).toList == [48, 111]) = false) (z2 : ((s.extract 0 2).toList == [48, 120]) = true) (z3 : U.cAll U.cHex (s.data.toList.drop 2) = true) :
    Calls Try.prog 10 #[.string s] w fun e w' => e = .returned (.string (tagS 2)) ∧ w = w' := by
  have HZ := Lib.hid z3
  clear z3
  go_enter Try.func10, Try.ntmps10
  go_wp2_with fail
  refine (coreRefWhole_is U.cMost_hex true s _ hs z0 HZ.out).mono ?_
  rintro e w1 ⟨rfl, rfl⟩
  go_wp2_with fail
  refine (coreRefLong_is (tagS 2) _ _ (cWord_size 2) rfl).mono ?_
  rintro e w1 ⟨rfl, rfl⟩
  go_wp2
  go_ret
  exact ⟨rfl, rfl⟩

set_option maxHeartbeats 4000000 in
theorem coreRefCore_xNo (k : Nat) (s : ByteArray) (w : World) (hs : s.size ≤ 1099511627776) (g0 : s.toList.isEmpty = false) (g1 : (s.toList == [110, 117, 108, 108]) = false) (g2 : (s.toList == [78, 117, 108, 108]) = false) (g3 : (s.toList == [78, 85, 76, 76]) = false) (g4 : (s.toList == [126]) = false) (g5 : (s.toList == [116, 114, 117, 101]) = false) (g6 : (s.toList == [84, 114, 117, 101]) = false) (g7 : (s.toList == [84, 82, 85, 69]) = false) (g8 : (s.toList == [102, 97, 108, 115, 101]) = false) (g9 : (s.toList == [70, 97, 108, 115, 101]) = false) (g10 : (s.toList == [70, 65, 76, 83, 69]) = false) (g11 : (s.toList == [46, 110, 97, 110]) = false) (g12 : (s.toList == [46, 78, 97, 78]) = false) (g13 : (s.toList == [46, 78, 65, 78]) = false) (z0 : 2 < s.size) (z1 : ((s.extract 0 2).toList == [48, 111]) = false) (z2 : ((s.extract 0 2).toList == [48, 120]) = true) (z3 : U.cAll U.cHex (s.data.toList.drop 2) = false) (hx : (byt s 0 : Int) = 48) (i0 : (s.toList == [46, 105, 110, 102]) = false) (i1 : (s.toList == [46, 73, 110, 102]) = false) (i2 : (s.toList == [46, 73, 78, 70]) = false) (h : (if U.cNum s.data.toList = 1 then 2 else if U.cNum s.data.toList = 2 then 3 else 4) = k) :
    Calls Try.prog 10 #[.string s] w fun e w' => e = .returned (.string (tagS k)) ∧ w = w' := by
  have HZ := Lib.hid z3
  have hi := run_byt s 0 (by omega) 0 rfl
  rw [hx] at hi
  clear z3 hx
  obtain ⟨r, hr⟩ : ∃ r, U.cNum s.data.toList = r := ⟨_, rfl⟩
  rw [hr] at h
  have HR := Lib.hid hr
  have hr2 : r = 1 ∨ r = 2 ∨ r = 0 := by rw [← hr]; exact U.cNum_cases _
  clear hr
  rcases hr2 with rfl | rfl | rfl
  · have hk : k = 2 := by rw [← h]; rfl
    subst hk
    clear h
    go_enter Try.func10, Try.ntmps10
    go_wp2_with fail
    refine (coreRefWhole_is U.cMost_hex false s _ hs z0 HZ.out).mono ?_
    rintro e w1 ⟨rfl, rfl⟩
    go_wp2_with fail
    refine (coreRefNumber_is 1 s _ hs HR.out).mono ?_
    rintro e w1 ⟨rfl, rfl⟩
    go_wp2_with fail
    refine (coreRefLong_is (tagS 2) _ _ (cWord_size 2) rfl).mono ?_
    rintro e w1 ⟨rfl, rfl⟩
    go_wp2
    go_ret
    exact ⟨rfl, rfl⟩
  · have hk : k = 3 := by rw [← h]; rfl
    subst hk
    clear h
    go_enter Try.func10, Try.ntmps10
    go_wp2_with fail
    refine (coreRefWhole_is U.cMost_hex false s _ hs z0 HZ.out).mono ?_
    rintro e w1 ⟨rfl, rfl⟩
    go_wp2_with fail
    refine (coreRefNumber_is 2 s _ hs HR.out).mono ?_
    rintro e w1 ⟨rfl, rfl⟩
    go_wp2_with fail
    refine (coreRefLong_is (tagS 3) _ _ (cWord_size 3) rfl).mono ?_
    rintro e w1 ⟨rfl, rfl⟩
    go_wp2
    go_ret
    exact ⟨rfl, rfl⟩
  · have hk : k = 4 := by rw [← h]; rfl
    subst hk
    clear h
    go_enter Try.func10, Try.ntmps10
    go_wp2_with fail
    refine (coreRefWhole_is U.cMost_hex false s _ hs z0 HZ.out).mono ?_
    rintro e w1 ⟨rfl, rfl⟩
    go_wp2_with fail
    refine (coreRefNumber_is 0 s _ hs HR.out).mono ?_
    rintro e w1 ⟨rfl, rfl⟩
    go_wp2_with fail
    refine (coreRefLong_is (tagS 4) _ _ (cWord_size 4) rfl).mono ?_
    rintro e w1 ⟨rfl, rfl⟩
    go_wp2
    go_ret
    exact ⟨rfl, rfl⟩

end Go.Proofs.Ytlaljfdohpoclaa
