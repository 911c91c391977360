/- The program's package core, its parts: classes of bytes, how many of a class stand in front, powers, numbers, words. Conditions: those that each theorem writes out (lengths that memory can hold). -/
import Derived.Test.YtlaljfdohpoclaaCoreP
import Derived.Test.YtlaljfdohpoclaaSign
namespace Go.Proofs.Ytlaljfdohpoclaa
open Go.RowKit

theorem cNulls_or (s : ByteArray) : U.cIn U.cNulls s.data.toList = (s.toList.isEmpty || (s.toList == [110, 117, 108, 108]) || (s.toList == [78, 117, 108, 108]) || (s.toList == [78, 85, 76, 76]) || (s.toList == [126])) := by
  rw [Bool.eq_iff_iff, U.cIn_iff, Lib.toList_data]
  simp only [U.cNulls, List.mem_cons, List.not_mem_nil, or_false, Bool.or_eq_true, beq_iff_eq, List.isEmpty_iff, or_assoc]
theorem cBools_or (s : ByteArray) : U.cIn U.cBools s.data.toList = ((s.toList == [116, 114, 117, 101]) || (s.toList == [84, 114, 117, 101]) || (s.toList == [84, 82, 85, 69]) || (s.toList == [102, 97, 108, 115, 101]) || (s.toList == [70, 97, 108, 115, 101]) || (s.toList == [70, 65, 76, 83, 69])) := by
  rw [Bool.eq_iff_iff, U.cIn_iff, Lib.toList_data]
  simp only [U.cBools, List.mem_cons, List.not_mem_nil, or_false, Bool.or_eq_true, beq_iff_eq, or_assoc]
theorem cInfs_or (s : ByteArray) : U.cIn U.cInfs s.data.toList = ((s.toList == [46, 105, 110, 102]) || (s.toList == [46, 73, 110, 102]) || (s.toList == [46, 73, 78, 70])) := by
  rw [Bool.eq_iff_iff, U.cIn_iff, Lib.toList_data]
  simp only [U.cInfs, List.mem_cons, List.not_mem_nil, or_false, Bool.or_eq_true, beq_iff_eq, or_assoc]
theorem cNans_or (s : ByteArray) : U.cIn U.cNans s.data.toList = ((s.toList == [46, 110, 97, 110]) || (s.toList == [46, 78, 97, 78]) || (s.toList == [46, 78, 65, 78])) := by
  rw [Bool.eq_iff_iff, U.cIn_iff, Lib.toList_data]
  simp only [U.cNans, List.mem_cons, List.not_mem_nil, or_false, Bool.or_eq_true, beq_iff_eq, or_assoc]
set_option maxHeartbeats 400000 in
theorem coreSign_any (c : Int) (w : World) :
    Calls Try.prog 19 #[.int .u8 c] w fun e w' => e = .returned (.bool (U.cSgn c)) ∧ w = w' := by
  go_enter Try.func19, Try.ntmps19
  go_wp2
  all_goals go_ret
  all_goals
    refine ⟨congrArg (fun b : Bool => Ending.returned (.bool b)) ?_, rfl⟩
    unfold U.cSgn
    rw [Bool.eq_iff_iff]
    simp at *
    try omega
theorem coreSign_is (q : Bool) (c : Int) (w : World) (h : U.cSgn c = q) :
    Calls Try.prog 19 #[.int .u8 c] w fun e w' => e = .returned (.bool q) ∧ w = w' := by
  subst h; exact coreSign_any c w
set_option maxHeartbeats 400000 in
theorem coreDigit_any (c : Int) (w : World) :
    Calls Try.prog 20 #[.int .u8 c] w fun e w' => e = .returned (.bool (U.cDig c)) ∧ w = w' := by
  go_enter Try.func20, Try.ntmps20
  go_wp2
  all_goals go_ret
  all_goals
    refine ⟨congrArg (fun b : Bool => Ending.returned (.bool b)) ?_, rfl⟩
    unfold U.cDig
    rw [Bool.eq_iff_iff]
    simp at *
    try omega
theorem coreDigit_is (q : Bool) (c : Int) (w : World) (h : U.cDig c = q) :
    Calls Try.prog 20 #[.int .u8 c] w fun e w' => e = .returned (.bool q) ∧ w = w' := by
  subst h; exact coreDigit_any c w
set_option maxHeartbeats 400000 in
theorem coreOctal_any (c : Int) (w : World) :
    Calls Try.prog 48 #[.int .u8 c] w fun e w' => e = .returned (.bool (U.cOct c)) ∧ w = w' := by
  go_enter Try.func48, Try.ntmps48
  go_wp2
  all_goals go_ret
  all_goals
    refine ⟨congrArg (fun b : Bool => Ending.returned (.bool b)) ?_, rfl⟩
    unfold U.cOct
    rw [Bool.eq_iff_iff]
    simp at *
    try omega
theorem coreOctal_is (q : Bool) (c : Int) (w : World) (h : U.cOct c = q) :
    Calls Try.prog 48 #[.int .u8 c] w fun e w' => e = .returned (.bool q) ∧ w = w' := by
  subst h; exact coreOctal_any c w
set_option maxHeartbeats 800000 in
theorem coreHexadecimal_any (c : Int) (w : World) :
    Calls Try.prog 49 #[.int .u8 c] w fun e w' => e = .returned (.bool (U.cHex c)) ∧ w = w' := by
  cases hd : U.cDig c with
  | true =>
    have F := Lib.hid (show U.cHex c = true by unfold U.cDig at hd; unfold U.cHex; rw [decide_eq_true_eq] at *; omega)
    have HD := Lib.hid hd
    clear hd
    go_enter Try.func49, Try.ntmps49
    go_wp2_with fail
    refine (coreDigit_is true c _ HD.out).mono ?_
    rintro e w1 ⟨rfl, rfl⟩
    go_wp2
    go_ret
    exact ⟨by rw [F.out]; rfl, rfl⟩
  | false =>
    have HD := Lib.hid hd
    clear hd
    go_enter Try.func49, Try.ntmps49
    go_wp2_with fail
    refine (coreDigit_is false c _ HD.out).mono ?_
    rintro e w1 ⟨rfl, rfl⟩
    go_wp2
    all_goals go_ret
    all_goals
      refine ⟨congrArg (fun b : Bool => Ending.returned (.bool b)) ?_, rfl⟩
      have hd := HD.out
      unfold U.cDig at hd
      unfold U.cHex
      rw [Bool.eq_iff_iff]
      simp at *
      try omega
set_option maxHeartbeats 800000 in
theorem coreNull_any (s : ByteArray) (w : World) :
    Calls Try.prog 39 #[.string s] w fun e w' => e = .returned (.bool (U.cIn U.cNulls s.data.toList)) ∧ w = w' := by
  rw [cNulls_or]
  cases h0 : s.toList.isEmpty with
  | true =>
    go_enter Try.func39, Try.ntmps39
    go_wp2
    go_ret
    exact ⟨rfl, rfl⟩
  | false =>
    cases h1 : (s.toList == [110, 117, 108, 108]) with
    | true =>
      go_enter Try.func39, Try.ntmps39
      go_wp2
      go_ret
      exact ⟨rfl, rfl⟩
    | false =>
      cases h2 : (s.toList == [78, 117, 108, 108]) with
      | true =>
        go_enter Try.func39, Try.ntmps39
        go_wp2
        go_ret
        exact ⟨rfl, rfl⟩
      | false =>
        cases h3 : (s.toList == [78, 85, 76, 76]) with
        | true =>
          go_enter Try.func39, Try.ntmps39
          go_wp2
          go_ret
          exact ⟨rfl, rfl⟩
        | false =>
          cases h4 : (s.toList == [126]) with
          | true =>
            go_enter Try.func39, Try.ntmps39
            go_wp2
            go_ret
            exact ⟨rfl, rfl⟩
          | false =>
            go_enter Try.func39, Try.ntmps39
            go_wp2
            go_ret
            exact ⟨rfl, rfl⟩
theorem coreNull_is (q : Bool) (s : ByteArray) (w : World) (h : U.cIn U.cNulls s.data.toList = q) :
    Calls Try.prog 39 #[.string s] w fun e w' => e = .returned (.bool q) ∧ w = w' := by
  subst h; exact coreNull_any s w
set_option maxHeartbeats 800000 in
theorem coreBool_any (s : ByteArray) (w : World) :
    Calls Try.prog 38 #[.string s] w fun e w' => e = .returned (.bool (U.cIn U.cBools s.data.toList)) ∧ w = w' := by
  rw [cBools_or]
  cases h0 : (s.toList == [116, 114, 117, 101]) with
  | true =>
    go_enter Try.func38, Try.ntmps38
    go_wp2
    go_ret
    exact ⟨rfl, rfl⟩
  | false =>
    cases h1 : (s.toList == [84, 114, 117, 101]) with
    | true =>
      go_enter Try.func38, Try.ntmps38
      go_wp2
      go_ret
      exact ⟨rfl, rfl⟩
    | false =>
      cases h2 : (s.toList == [84, 82, 85, 69]) with
      | true =>
        go_enter Try.func38, Try.ntmps38
        go_wp2
        go_ret
        exact ⟨rfl, rfl⟩
      | false =>
        cases h3 : (s.toList == [102, 97, 108, 115, 101]) with
        | true =>
          go_enter Try.func38, Try.ntmps38
          go_wp2
          go_ret
          exact ⟨rfl, rfl⟩
        | false =>
          cases h4 : (s.toList == [70, 97, 108, 115, 101]) with
          | true =>
            go_enter Try.func38, Try.ntmps38
            go_wp2
            go_ret
            exact ⟨rfl, rfl⟩
          | false =>
            cases h5 : (s.toList == [70, 65, 76, 83, 69]) with
            | true =>
              go_enter Try.func38, Try.ntmps38
              go_wp2
              go_ret
              exact ⟨rfl, rfl⟩
            | false =>
              go_enter Try.func38, Try.ntmps38
              go_wp2
              go_ret
              exact ⟨rfl, rfl⟩
theorem coreBool_is (q : Bool) (s : ByteArray) (w : World) (h : U.cIn U.cBools s.data.toList = q) :
    Calls Try.prog 38 #[.string s] w fun e w' => e = .returned (.bool q) ∧ w = w' := by
  subst h; exact coreBool_any s w

/-- A class, asked by a function value: the function is entered, and says whether a byte is of the class. -/
structure ClassF (K : FuncId) (p : Int → Bool) : Prop where
  enter : ∀ args w, (callFunc K args).run Try.prog w = .ok (.enter K args) w
  says : ∀ (c : Int) (w : World), Calls Try.prog K #[.int .u8 c] w fun e w' => e = .returned (.bool (p c)) ∧ w = w'
theorem ClassF.is {K : FuncId} {p : Int → Bool} (h : ClassF K p) (q : Bool) (c : Int) (w : World) (hq : p c = q) : Calls Try.prog K #[.int .u8 c] w fun e w' => e = .returned (.bool q) ∧ w = w' := by
  subst hq; exact h.says c w
theorem classDigit : ClassF 20 U.cDig := ⟨Try.call20, coreDigit_any⟩
theorem classOctal : ClassF 48 U.cOct := ⟨Try.call48, coreOctal_any⟩
theorem classHexadecimal : ClassF 49 U.cHex := ⟨Try.call49, coreHexadecimal_any⟩

set_option maxHeartbeats 400000 in
theorem coreCount_is {K : FuncId} {p : Int → Bool} (hK : ClassF K p) (n : Nat) (s : ByteArray) (w : World) (hs : s.size ≤ 1099511627776) (h : U.cRun p s.data.toList = n) :
    Calls Try.prog 44 #[.string s, .func (.func K) #[] #[]] w fun e w' => e = .returned (.int .i64 (n : Int)) ∧ w = w' := by
  have HQ := Lib.hid h
  have hC := hK.enter
  clear h
  go_enter Try.func44, Try.ntmps44
  go_wp2
  go_loop [5, 8] (fun _ i => ∃ k : Nat, i = .int .i64 (k : Int) ∧ k ≤ s.size ∧ Hid (k + U.cRun p (s.data.toList.drop k) = n)) (fun _ i => s.size - (intOf i).toNat)
  case atStart => exact ⟨0, rfl, Nat.zero_le _, by show _ = _; rw [List.drop_zero, HQ.out, Nat.zero_add]⟩
  case round =>
    obtain ⟨k, rfl, hk, H⟩ := hrel
    by_cases hk2 : k < s.size
    · obtain ⟨b, hd, hb⟩ := drop_byte s k hk2
      have hi := run_byt s k hk2 _ rfl
      have H2 := H.out
      rw [hd, U.cRun_cons, hb] at H2
      obtain ⟨x, hx⟩ : ∃ x : Nat, x = byt s k := ⟨_, rfl⟩
      rw [← hx] at hi H2
      clear hx hd hb b H
      cases hp : p (x : Int) with
      | true =>
        rw [if_pos hp] at H2
        have F := Lib.hid H2
        have HP := Lib.hid hp
        clear H2 hp
        go_wp2_with fail
        refine (hK.is true _ _ HP.out).mono ?_
        rintro e w1 ⟨rfl, rfl⟩
        go_wp2
        go_round
        case rel => exact ⟨k + 1, by go_num, by omega, by show _ = _; have := F.out; omega⟩
        case measure => simp [intOf]; omega
      | false =>
        rw [if_neg (by simp [hp])] at H2
        have F := Lib.hid H2
        have HP := Lib.hid hp
        clear H2 hp
        go_wp2_with fail
        refine (hK.is false _ _ HP.out).mono ?_
        rintro e w1 ⟨rfl, rfl⟩
        go_wp2
        go_ret
        exact ⟨by rw [← F.out]; rfl, rfl⟩
    · have H2 := H.out
      rw [List.drop_eq_nil_of_le (by rw [← Lib.size_eq]; omega)] at H2
      have F := Lib.hid (show s.size = n by rw [← H2]; simp [U.cRun]; omega)
      clear H2
      go_wp2
      go_ret
      exact ⟨by rw [← F.out]; rfl, rfl⟩

set_option maxHeartbeats 400000 in
theorem coreAll_is {K : FuncId} {p : Int → Bool} (hK : ClassF K p) (q : Bool) (s : ByteArray) (w : World) (hs : s.size ≤ 1099511627776) (h : U.cAll p s.data.toList = q) :
    Calls Try.prog 43 #[.string s, .func (.func K) #[] #[]] w fun e w' => e = .returned (.bool q) ∧ w = w' := by
  subst h
  unfold U.cAll
  rw [← Lib.size_eq, ← Lib.toList_data]
  cases h0 : s.toList.isEmpty with
  | true =>
    go_enter Try.func43, Try.ntmps43
    go_wp2
    go_ret
    exact ⟨rfl, rfl⟩
  | false =>
    obtain ⟨n, hn⟩ : ∃ n, U.cRun p s.toList = n := ⟨_, rfl⟩
    rw [hn]
    rw [Lib.toList_data] at hn
    have HN := Lib.hid hn
    clear hn
    go_enter Try.func43, Try.ntmps43
    go_wp2_with fail
    refine (coreCount_is hK n s _ hs HN.out).mono ?_
    rintro e w1 ⟨rfl, rfl⟩
    go_wp2
    go_ret
    refine ⟨congrArg (fun b : Bool => Ending.returned (.bool b)) ?_, rfl⟩
    rw [Bool.eq_iff_iff]
    simp
    omega

end Go.Proofs.Ytlaljfdohpoclaa
