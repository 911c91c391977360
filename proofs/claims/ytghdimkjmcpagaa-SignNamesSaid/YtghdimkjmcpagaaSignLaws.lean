/- The statements on package sign: the walks: for every input the law returns true. Conditions: none beside those that each theorem writes out. -/
import Derived.Test.YtghdimkjmcpagaaSign
namespace Go.Proofs.Ytghdimkjmcpagaa
open Go.RowKit

set_option maxHeartbeats 400000 in
/-- What every program answers that is one. -/
theorem awake4_any (w : World) : Calls Try.prog 6 #[] w fun e w' => e = .returned (.bool true) ∧ w = w' := by
  go_enter Try.func6, Try.ntmps6
  go_wp2_with fail
  refine (White_is true _ _ (by decide)).mono ?_
  rintro e w' ⟨rfl, rfl⟩
  go_wp2_with fail
  refine (Indicator_is true _ _ (by decide)).mono ?_
  rintro e w' ⟨rfl, rfl⟩
  go_wp2_with fail
  refine (Flow_is true _ _ (by decide)).mono ?_
  rintro e w' ⟨rfl, rfl⟩
  go_wp2_with fail
  refine (Word_is true _ _ (by decide)).mono ?_
  rintro e w' ⟨rfl, rfl⟩
  go_wp2_with fail
  refine (Uri_is true _ _ (by decide)).mono ?_
  rintro e w' ⟨rfl, rfl⟩
  go_wp2_with fail
  refine (Uri_is false _ _ (by decide)).mono ?_
  rintro e w' ⟨rfl, rfl⟩
  go_wp2_with fail
  refine (Ends_is true ⟨#[97]⟩ _ _ (by decide) (by decide +kernel)).mono ?_
  rintro e w' ⟨rfl, rfl⟩
  go_wp2_with fail
  refine (Ends_is false ⟨#[97]⟩ _ _ (by decide) (by decide +kernel)).mono ?_
  rintro e w' ⟨rfl, rfl⟩
  go_wp2_with fail
  refine (Name_is 2 ⟨#[97, 98, 93]⟩ _ _ (by decide) (by decide +kernel)).mono ?_
  rintro e w' ⟨rfl, rfl⟩
  go_wp2
  go_ret
  exact ⟨rfl, rfl⟩

set_option maxHeartbeats 1000000 in
theorem SignTells_walk (c : Int) (s : ByteArray) (at' : Int) (w : World) :
    Calls Try.prog 3 #[.int .u8 c, .string s, .int .i64 at'] w fun e w' => e = .returned (.bool true) ∧ w = w' := by
  by_cases h : 100 < s.size
  · go_enter Try.func3, Try.ntmps3
    go_wp2_with (go_at_call 6; refine (awake4_any _).mono ?_; rintro e w1 ⟨rfl, rfl⟩)
    go_ret
    exact ⟨rfl, rfl⟩
  · have hs : s.size ≤ 1099511627776 := by omega
    obtain ⟨q1, h1⟩ : ∃ q, U.white c = q := ⟨_, rfl⟩
    obtain ⟨q2, h2⟩ : ∃ q, U.indic c = q := ⟨_, rfl⟩
    obtain ⟨q3, h3⟩ : ∃ q, U.flow c = q := ⟨_, rfl⟩
    obtain ⟨q4, h4⟩ : ∃ q, U.wordc c = q := ⟨_, rfl⟩
    obtain ⟨q5, h5⟩ : ∃ q, U.uri c = q := ⟨_, rfl⟩
    obtain ⟨e1, k1⟩ : ∃ q, endsB s at' = q := ⟨_, rfl⟩
    obtain ⟨n1, k2⟩ : ∃ q, nameAt s at' = q := ⟨_, rfl⟩
    obtain ⟨y, hy⟩ : ∃ y, lowZ at' ((s.size : Int) + 2) = y := ⟨_, rfl⟩
    have hyr := lowZ_range at' ((s.size : Int) + 2) (by omega)
    rw [hy] at hyr
    obtain ⟨e2, k3⟩ : ∃ q, endsB s (y - 1) = q := ⟨_, rfl⟩
    obtain ⟨n2, k4⟩ : ∃ q, nameAt s (y - 1) = q := ⟨_, rfl⟩
    have H1 := Lib.hid h1
    have H2 := Lib.hid h2
    have H3 := Lib.hid h3
    have H4 := Lib.hid h4
    have H5 := Lib.hid h5
    have K1 := Lib.hid k1
    have K2 := Lib.hid k2
    have K3 := Lib.hid k3
    have K4 := Lib.hid k4
    have HY := Lib.hid hy
    clear h1 h2 h3 h4 h5 k1 k2 k3 k4 hy
    go_enter Try.func3, Try.ntmps3
    go_wp2_with fail
    refine (White_is q1 c _ H1.out).mono ?_
    rintro e w' ⟨rfl, rfl⟩
    go_wp2_with fail
    refine (refWhite_is q1 c _ H1.out).mono ?_
    rintro e w' ⟨rfl, rfl⟩
    go_wp2_with fail
    refine (Indicator_is q2 c _ H2.out).mono ?_
    rintro e w' ⟨rfl, rfl⟩
    go_wp2_with fail
    refine (refIndicator_is q2 c _ H2.out).mono ?_
    rintro e w' ⟨rfl, rfl⟩
    go_wp2_with fail
    refine (Flow_is q3 c _ H3.out).mono ?_
    rintro e w' ⟨rfl, rfl⟩
    go_wp2_with fail
    refine (refFlow_is q3 c _ H3.out).mono ?_
    rintro e w' ⟨rfl, rfl⟩
    go_wp2_with fail
    refine (Word_is q4 c _ H4.out).mono ?_
    rintro e w' ⟨rfl, rfl⟩
    go_wp2_with fail
    refine (refWord_is q4 c _ H4.out).mono ?_
    rintro e w' ⟨rfl, rfl⟩
    go_wp2_with fail
    refine (Uri_is q5 c _ H5.out).mono ?_
    rintro e w' ⟨rfl, rfl⟩
    go_wp2_with fail
    refine (refUri_is q5 c _ H5.out).mono ?_
    rintro e w' ⟨rfl, rfl⟩
    go_wp2_with fail
    refine (Low_is y _ _ _ (by omega) (by omega) HY.out).mono ?_
    rintro e w' ⟨rfl, rfl⟩
    go_wp2_with fail
    refine (Ends_is e1 s _ _ hs K1.out).mono ?_
    rintro e w' ⟨rfl, rfl⟩
    go_wp2_with fail
    refine (refEnds_is e1 s _ _ hs K1.out).mono ?_
    rintro e w' ⟨rfl, rfl⟩
    go_wp2_with fail
    refine (Name_is n1 s _ _ hs K2.out).mono ?_
    rintro e w' ⟨rfl, rfl⟩
    go_wp2_with fail
    refine (refName_is n1 s _ _ hs K2.out).mono ?_
    rintro e w' ⟨rfl, rfl⟩
    go_wp2_with fail
    refine (Ends_is e2 s _ _ hs K3.out).mono ?_
    rintro e w' ⟨rfl, rfl⟩
    go_wp2_with fail
    refine (refEnds_is e2 s _ _ hs K3.out).mono ?_
    rintro e w' ⟨rfl, rfl⟩
    go_wp2_with fail
    refine (Name_is n2 s _ _ hs K4.out).mono ?_
    rintro e w' ⟨rfl, rfl⟩
    go_wp2_with fail
    refine (refName_is n2 s _ _ hs K4.out).mono ?_
    rintro e w' ⟨rfl, rfl⟩
    go_wp2_with fail
    refine (awake4_any _).mono ?_
    rintro e w' ⟨rfl, rfl⟩
    go_wp2
    go_ret
    exact ⟨rfl, rfl⟩

/-- The classes of a byte that a walk wants to know. -/
theorem cls_letter {c : Int} (h : (97 ≤ c ∧ c ≤ 122) ∨ (65 ≤ c ∧ c ≤ 90) ∨ (48 ≤ c ∧ c ≤ 57)) : U.flow c = false ∧ U.indic c = false ∧ U.wordc c = true ∧ U.uri c = true ∧ U.white c = false := by
  have hw : U.wordc c = true := by unfold U.wordc; rw [decide_eq_true_eq]; omega
  have hf : U.flow c = false := by unfold U.flow; rw [decide_eq_false_iff_not]; omega
  refine ⟨hf, ?_, hw, ?_, ?_⟩
  · unfold U.indic; rw [hf, decide_eq_false_iff_not]; simp; omega
  · unfold U.uri; rw [hw]; rfl
  · unfold U.white; rw [decide_eq_false_iff_not]; omega
theorem cls_none {c : Int} (h : (c < 48 ∧ c ≠ 45 ∧ c ≠ 32 ∧ c ≠ 9 ∧ c ≠ 44) ∨ (57 < c ∧ c < 65) ∨ (90 < c ∧ c < 97 ∧ c ≠ 91 ∧ c ≠ 93) ∨ (122 < c ∧ c ≠ 123 ∧ c ≠ 125)) : U.flow c = false ∧ U.wordc c = false ∧ U.white c = false := by
  refine ⟨?_, ?_, ?_⟩
  · unfold U.flow; rw [decide_eq_false_iff_not]; omega
  · unfold U.wordc; rw [decide_eq_false_iff_not]; omega
  · unfold U.white; rw [decide_eq_false_iff_not]; omega
theorem cls_high {c : Int} (h : 128 ≤ c) : U.indic c = false ∧ U.uri c = false := by
  obtain ⟨hf, hw, _⟩ := cls_none (c := c) (.inr (.inr (.inr (by omega))))
  refine ⟨?_, ?_⟩
  · unfold U.indic; rw [hf, decide_eq_false_iff_not]; simp; omega
  · unfold U.uri; rw [hw, decide_eq_false_iff_not]; simp; omega
theorem parts_cases (c : Int) : ((97 ≤ c ∧ c ≤ 122) ∨ (65 ≤ c ∧ c ≤ 90) ∨ (48 ≤ c ∧ c ≤ 57)) ∨ (c = 45 ∨ c = 32 ∨ c = 9 ∨ c = 44 ∨ c = 91 ∨ c = 93 ∨ c = 123 ∨ c = 125) ∨
    ((c < 48 ∧ c ≠ 45 ∧ c ≠ 32 ∧ c ≠ 9 ∧ c ≠ 44) ∨ (57 < c ∧ c < 65) ∨ (90 < c ∧ c < 97 ∧ c ≠ 91 ∧ c ≠ 93) ∨ (122 < c ∧ c < 128 ∧ c ≠ 123 ∧ c ≠ 125) ∨ 128 ≤ c) := by omega

set_option maxHeartbeats 400000 in
theorem SignParts_letter (c : Int) (w : World) (h : (97 ≤ c ∧ c ≤ 122) ∨ (65 ≤ c ∧ c ≤ 90) ∨ (48 ≤ c ∧ c ≤ 57)) :
    Calls Try.prog 4 #[.int .u8 c] w fun e w' => e = .returned (.bool true) ∧ w = w' := by
  obtain ⟨f, i, d, u, h'⟩ := cls_letter h
  have Hf := Lib.hid f
  have Hi := Lib.hid i
  have Hd := Lib.hid d
  have Hu := Lib.hid u
  clear f i d u
  have Hh := Lib.hid h'
  clear h'
  rcases h with ⟨h1, h2⟩ | ⟨h1, h2⟩ | ⟨h1, h2⟩
  all_goals
    go_enter Try.func4, Try.ntmps4
    go_wp2_with (first | (go_at_call 11; refine (Flow_is false c _ Hf.out).mono ?_; rintro e w' ⟨rfl, rfl⟩) | (go_at_call 9; refine (Indicator_is false c _ Hi.out).mono ?_; rintro e w' ⟨rfl, rfl⟩) | (go_at_call 13; refine (Word_is true c _ Hd.out).mono ?_; rintro e w' ⟨rfl, rfl⟩) | (go_at_call 15; refine (Uri_is true c _ Hu.out).mono ?_; rintro e w' ⟨rfl, rfl⟩) | (go_at_call 7; refine (White_is false c _ Hh.out).mono ?_; rintro e w' ⟨rfl, rfl⟩) | (go_at_call 6; refine (awake4_any _).mono ?_; rintro e w' ⟨rfl, rfl⟩))
    go_ret
    exact ⟨rfl, rfl⟩
set_option maxHeartbeats 400000 in
theorem SignParts_other (c : Int) (w : World) (h : (c < 48 ∧ c ≠ 45 ∧ c ≠ 32 ∧ c ≠ 9 ∧ c ≠ 44) ∨ (57 < c ∧ c < 65) ∨ (90 < c ∧ c < 97 ∧ c ≠ 91 ∧ c ≠ 93) ∨ (122 < c ∧ c < 128 ∧ c ≠ 123 ∧ c ≠ 125)) :
    Calls Try.prog 4 #[.int .u8 c] w fun e w' => e = .returned (.bool true) ∧ w = w' := by
  obtain ⟨f, d, h'⟩ := cls_none (c := c) (by omega)
  have h45 : (c == 45) = false := by simp; omega
  have hlt : c < 128 := by omega
  have Hf := Lib.hid f
  have Hd := Lib.hid d
  clear f d
  have Hh := Lib.hid h'
  clear h'
  rcases h with ⟨h1, _⟩ | ⟨h1, h2⟩ | ⟨h1, h2, _⟩ | ⟨h1, h2, _⟩
  all_goals
    go_enter Try.func4, Try.ntmps4
    go_wp2_with (first | (go_at_call 11; refine (Flow_is false c _ Hf.out).mono ?_; rintro e w' ⟨rfl, rfl⟩) | (go_at_call 9; refine (Indicator_is _ c _ rfl).mono ?_; rintro e w' ⟨rfl, rfl⟩) | (go_at_call 13; refine (Word_is false c _ Hd.out).mono ?_; rintro e w' ⟨rfl, rfl⟩) | (go_at_call 15; refine (Uri_is _ c _ rfl).mono ?_; rintro e w' ⟨rfl, rfl⟩) | (go_at_call 7; refine (White_is false c _ Hh.out).mono ?_; rintro e w' ⟨rfl, rfl⟩) | (go_at_call 6; refine (awake4_any _).mono ?_; rintro e w' ⟨rfl, rfl⟩))
    go_ret
    exact ⟨congrArg (fun b : Bool => Ending.returned (.bool b)) (by first | rfl | (simp; omega)), rfl⟩
set_option maxHeartbeats 400000 in
theorem SignParts_high (c : Int) (w : World) (h1 : 128 ≤ c) :
    Calls Try.prog 4 #[.int .u8 c] w fun e w' => e = .returned (.bool true) ∧ w = w' := by
  obtain ⟨f, d, h'⟩ := cls_none (c := c) (by omega)
  obtain ⟨i, u⟩ := cls_high h1
  have h45 : (c == 45) = false := by simp; omega
  have Hf := Lib.hid f
  have Hd := Lib.hid d
  have Hi := Lib.hid i
  have Hu := Lib.hid u
  clear f d i u
  have Hh := Lib.hid h'
  clear h'
  go_enter Try.func4, Try.ntmps4
  go_wp2_with (first | (go_at_call 11; refine (Flow_is false c _ Hf.out).mono ?_; rintro e w' ⟨rfl, rfl⟩) | (go_at_call 9; refine (Indicator_is false c _ Hi.out).mono ?_; rintro e w' ⟨rfl, rfl⟩) | (go_at_call 13; refine (Word_is false c _ Hd.out).mono ?_; rintro e w' ⟨rfl, rfl⟩) | (go_at_call 15; refine (Uri_is false c _ Hu.out).mono ?_; rintro e w' ⟨rfl, rfl⟩) | (go_at_call 7; refine (White_is false c _ Hh.out).mono ?_; rintro e w' ⟨rfl, rfl⟩) | (go_at_call 6; refine (awake4_any _).mono ?_; rintro e w' ⟨rfl, rfl⟩))
  go_ret
  exact ⟨congrArg (fun b : Bool => Ending.returned (.bool b)) (by first | rfl | (simp; omega)), rfl⟩
set_option maxHeartbeats 400000 in
theorem SignParts_45 (w : World)  :
    Calls Try.prog 4 #[.int .u8 45] w fun e w' => e = .returned (.bool true) ∧ w = w' := by
  have Hf := Lib.hid (show U.flow 45 = false by decide)
  have Hi := Lib.hid (show U.indic 45 = true by decide)
  have Hd := Lib.hid (show U.wordc 45 = true by decide)
  have Hu := Lib.hid (show U.uri 45 = true by decide)
  have Hh := Lib.hid (show U.white 45 = false by decide)
  go_enter Try.func4, Try.ntmps4
  go_wp2_with (first | (go_at_call 11; refine (Flow_is false 45 _ Hf.out).mono ?_; rintro e w' ⟨rfl, rfl⟩) | (go_at_call 9; refine (Indicator_is true 45 _ Hi.out).mono ?_; rintro e w' ⟨rfl, rfl⟩) | (go_at_call 13; refine (Word_is true 45 _ Hd.out).mono ?_; rintro e w' ⟨rfl, rfl⟩) | (go_at_call 15; refine (Uri_is true 45 _ Hu.out).mono ?_; rintro e w' ⟨rfl, rfl⟩) | (go_at_call 7; refine (White_is false 45 _ Hh.out).mono ?_; rintro e w' ⟨rfl, rfl⟩) | (go_at_call 6; refine (awake4_any _).mono ?_; rintro e w' ⟨rfl, rfl⟩))
  go_ret
  exact ⟨rfl, rfl⟩
set_option maxHeartbeats 400000 in
theorem SignParts_32 (w : World)  :
    Calls Try.prog 4 #[.int .u8 32] w fun e w' => e = .returned (.bool true) ∧ w = w' := by
  have Hf := Lib.hid (show U.flow 32 = false by decide)
  have Hi := Lib.hid (show U.indic 32 = false by decide)
  have Hd := Lib.hid (show U.wordc 32 = false by decide)
  have Hu := Lib.hid (show U.uri 32 = false by decide)
  have Hh := Lib.hid (show U.white 32 = true by decide)
  go_enter Try.func4, Try.ntmps4
  go_wp2_with (first | (go_at_call 11; refine (Flow_is false 32 _ Hf.out).mono ?_; rintro e w' ⟨rfl, rfl⟩) | (go_at_call 9; refine (Indicator_is false 32 _ Hi.out).mono ?_; rintro e w' ⟨rfl, rfl⟩) | (go_at_call 13; refine (Word_is false 32 _ Hd.out).mono ?_; rintro e w' ⟨rfl, rfl⟩) | (go_at_call 15; refine (Uri_is false 32 _ Hu.out).mono ?_; rintro e w' ⟨rfl, rfl⟩) | (go_at_call 7; refine (White_is true 32 _ Hh.out).mono ?_; rintro e w' ⟨rfl, rfl⟩) | (go_at_call 6; refine (awake4_any _).mono ?_; rintro e w' ⟨rfl, rfl⟩))
  go_ret
  exact ⟨rfl, rfl⟩
set_option maxHeartbeats 400000 in
theorem SignParts_9 (w : World)  :
    Calls Try.prog 4 #[.int .u8 9] w fun e w' => e = .returned (.bool true) ∧ w = w' := by
  have Hf := Lib.hid (show U.flow 9 = false by decide)
  have Hi := Lib.hid (show U.indic 9 = false by decide)
  have Hd := Lib.hid (show U.wordc 9 = false by decide)
  have Hu := Lib.hid (show U.uri 9 = false by decide)
  have Hh := Lib.hid (show U.white 9 = true by decide)
  go_enter Try.func4, Try.ntmps4
  go_wp2_with (first | (go_at_call 11; refine (Flow_is false 9 _ Hf.out).mono ?_; rintro e w' ⟨rfl, rfl⟩) | (go_at_call 9; refine (Indicator_is false 9 _ Hi.out).mono ?_; rintro e w' ⟨rfl, rfl⟩) | (go_at_call 13; refine (Word_is false 9 _ Hd.out).mono ?_; rintro e w' ⟨rfl, rfl⟩) | (go_at_call 15; refine (Uri_is false 9 _ Hu.out).mono ?_; rintro e w' ⟨rfl, rfl⟩) | (go_at_call 7; refine (White_is true 9 _ Hh.out).mono ?_; rintro e w' ⟨rfl, rfl⟩) | (go_at_call 6; refine (awake4_any _).mono ?_; rintro e w' ⟨rfl, rfl⟩))
  go_ret
  exact ⟨rfl, rfl⟩
set_option maxHeartbeats 400000 in
theorem SignParts_44 (w : World)  :
    Calls Try.prog 4 #[.int .u8 44] w fun e w' => e = .returned (.bool true) ∧ w = w' := by
  have Hf := Lib.hid (show U.flow 44 = true by decide)
  have Hi := Lib.hid (show U.indic 44 = true by decide)
  have Hd := Lib.hid (show U.wordc 44 = false by decide)
  have Hu := Lib.hid (show U.uri 44 = true by decide)
  have Hh := Lib.hid (show U.white 44 = false by decide)
  go_enter Try.func4, Try.ntmps4
  go_wp2_with (first | (go_at_call 11; refine (Flow_is true 44 _ Hf.out).mono ?_; rintro e w' ⟨rfl, rfl⟩) | (go_at_call 9; refine (Indicator_is true 44 _ Hi.out).mono ?_; rintro e w' ⟨rfl, rfl⟩) | (go_at_call 13; refine (Word_is false 44 _ Hd.out).mono ?_; rintro e w' ⟨rfl, rfl⟩) | (go_at_call 15; refine (Uri_is true 44 _ Hu.out).mono ?_; rintro e w' ⟨rfl, rfl⟩) | (go_at_call 7; refine (White_is false 44 _ Hh.out).mono ?_; rintro e w' ⟨rfl, rfl⟩) | (go_at_call 6; refine (awake4_any _).mono ?_; rintro e w' ⟨rfl, rfl⟩))
  go_ret
  exact ⟨rfl, rfl⟩
set_option maxHeartbeats 400000 in
theorem SignParts_91 (w : World)  :
    Calls Try.prog 4 #[.int .u8 91] w fun e w' => e = .returned (.bool true) ∧ w = w' := by
  have Hf := Lib.hid (show U.flow 91 = true by decide)
  have Hi := Lib.hid (show U.indic 91 = true by decide)
  have Hd := Lib.hid (show U.wordc 91 = false by decide)
  have Hu := Lib.hid (show U.uri 91 = true by decide)
  have Hh := Lib.hid (show U.white 91 = false by decide)
  go_enter Try.func4, Try.ntmps4
  go_wp2_with (first | (go_at_call 11; refine (Flow_is true 91 _ Hf.out).mono ?_; rintro e w' ⟨rfl, rfl⟩) | (go_at_call 9; refine (Indicator_is true 91 _ Hi.out).mono ?_; rintro e w' ⟨rfl, rfl⟩) | (go_at_call 13; refine (Word_is false 91 _ Hd.out).mono ?_; rintro e w' ⟨rfl, rfl⟩) | (go_at_call 15; refine (Uri_is true 91 _ Hu.out).mono ?_; rintro e w' ⟨rfl, rfl⟩) | (go_at_call 7; refine (White_is false 91 _ Hh.out).mono ?_; rintro e w' ⟨rfl, rfl⟩) | (go_at_call 6; refine (awake4_any _).mono ?_; rintro e w' ⟨rfl, rfl⟩))
  go_ret
  exact ⟨rfl, rfl⟩
set_option maxHeartbeats 400000 in
theorem SignParts_93 (w : World)  :
    Calls Try.prog 4 #[.int .u8 93] w fun e w' => e = .returned (.bool true) ∧ w = w' := by
  have Hf := Lib.hid (show U.flow 93 = true by decide)
  have Hi := Lib.hid (show U.indic 93 = true by decide)
  have Hd := Lib.hid (show U.wordc 93 = false by decide)
  have Hu := Lib.hid (show U.uri 93 = true by decide)
  have Hh := Lib.hid (show U.white 93 = false by decide)
  go_enter Try.func4, Try.ntmps4
  go_wp2_with (first | (go_at_call 11; refine (Flow_is true 93 _ Hf.out).mono ?_; rintro e w' ⟨rfl, rfl⟩) | (go_at_call 9; refine (Indicator_is true 93 _ Hi.out).mono ?_; rintro e w' ⟨rfl, rfl⟩) | (go_at_call 13; refine (Word_is false 93 _ Hd.out).mono ?_; rintro e w' ⟨rfl, rfl⟩) | (go_at_call 15; refine (Uri_is true 93 _ Hu.out).mono ?_; rintro e w' ⟨rfl, rfl⟩) | (go_at_call 7; refine (White_is false 93 _ Hh.out).mono ?_; rintro e w' ⟨rfl, rfl⟩) | (go_at_call 6; refine (awake4_any _).mono ?_; rintro e w' ⟨rfl, rfl⟩))
  go_ret
  exact ⟨rfl, rfl⟩
set_option maxHeartbeats 400000 in
theorem SignParts_123 (w : World)  :
    Calls Try.prog 4 #[.int .u8 123] w fun e w' => e = .returned (.bool true) ∧ w = w' := by
  have Hf := Lib.hid (show U.flow 123 = true by decide)
  have Hi := Lib.hid (show U.indic 123 = true by decide)
  have Hd := Lib.hid (show U.wordc 123 = false by decide)
  have Hu := Lib.hid (show U.uri 123 = false by decide)
  have Hh := Lib.hid (show U.white 123 = false by decide)
  go_enter Try.func4, Try.ntmps4
  go_wp2_with (first | (go_at_call 11; refine (Flow_is true 123 _ Hf.out).mono ?_; rintro e w' ⟨rfl, rfl⟩) | (go_at_call 9; refine (Indicator_is true 123 _ Hi.out).mono ?_; rintro e w' ⟨rfl, rfl⟩) | (go_at_call 13; refine (Word_is false 123 _ Hd.out).mono ?_; rintro e w' ⟨rfl, rfl⟩) | (go_at_call 15; refine (Uri_is false 123 _ Hu.out).mono ?_; rintro e w' ⟨rfl, rfl⟩) | (go_at_call 7; refine (White_is false 123 _ Hh.out).mono ?_; rintro e w' ⟨rfl, rfl⟩) | (go_at_call 6; refine (awake4_any _).mono ?_; rintro e w' ⟨rfl, rfl⟩))
  go_ret
  exact ⟨rfl, rfl⟩
set_option maxHeartbeats 400000 in
theorem SignParts_125 (w : World)  :
    Calls Try.prog 4 #[.int .u8 125] w fun e w' => e = .returned (.bool true) ∧ w = w' := by
  have Hf := Lib.hid (show U.flow 125 = true by decide)
  have Hi := Lib.hid (show U.indic 125 = true by decide)
  have Hd := Lib.hid (show U.wordc 125 = false by decide)
  have Hu := Lib.hid (show U.uri 125 = false by decide)
  have Hh := Lib.hid (show U.white 125 = false by decide)
  go_enter Try.func4, Try.ntmps4
  go_wp2_with (first | (go_at_call 11; refine (Flow_is true 125 _ Hf.out).mono ?_; rintro e w' ⟨rfl, rfl⟩) | (go_at_call 9; refine (Indicator_is true 125 _ Hi.out).mono ?_; rintro e w' ⟨rfl, rfl⟩) | (go_at_call 13; refine (Word_is false 125 _ Hd.out).mono ?_; rintro e w' ⟨rfl, rfl⟩) | (go_at_call 15; refine (Uri_is false 125 _ Hu.out).mono ?_; rintro e w' ⟨rfl, rfl⟩) | (go_at_call 7; refine (White_is false 125 _ Hh.out).mono ?_; rintro e w' ⟨rfl, rfl⟩) | (go_at_call 6; refine (awake4_any _).mono ?_; rintro e w' ⟨rfl, rfl⟩))
  go_ret
  exact ⟨rfl, rfl⟩
theorem SignParts_walk (c : Int) (w : World) :
    Calls Try.prog 4 #[.int .u8 c] w fun e w' => e = .returned (.bool true) ∧ w = w' := by
  rcases parts_cases c with h | (rfl | rfl | rfl | rfl | rfl | rfl | rfl | rfl) | h
  · exact SignParts_letter c w h
  · exact SignParts_45 w
  · exact SignParts_32 w
  · exact SignParts_9 w
  · exact SignParts_44 w
  · exact SignParts_91 w
  · exact SignParts_93 w
  · exact SignParts_123 w
  · exact SignParts_125 w
  · by_cases h1 : 128 ≤ c
    · exact SignParts_high c w h1
    · exact SignParts_other c w (by omega)

/-! ### SignNames -/
/-- What of a text ends no name. -/
def kept (l : List UInt8) : List UInt8 := l.filter U.keeps
theorem kept_step (s : ByteArray) (k : Nat) (b : UInt8) (S : List UInt8) (hd : s.data.toList.drop k = b :: s.data.toList.drop (k + 1)) (h : S ++ kept (s.data.toList.drop k) = kept s.data.toList) :
    (if U.keeps b = true then S ++ [b] else S) ++ kept (s.data.toList.drop (k + 1)) = kept s.data.toList := by
  rw [← h, hd]
  unfold kept
  rw [List.filter_cons]
  split <;> simp
theorem kept_name (l m : List UInt8) (b : UInt8) (hb : U.keeps b = false) : U.nameL (kept l ++ b :: m) = (kept l).length := by
  unfold U.nameL
  have h : ∀ x ∈ kept l, U.keeps x = true := fun x hx => (List.mem_filter.1 hx).2
  generalize kept l = t at h
  induction t with
  | nil => simp [hb]
  | cons a t ih =>
    rw [List.cons_append, List.takeWhile_cons, if_pos (h a (by simp)), List.length_cons, List.length_cons, ih (fun x hx => h x (by simp [hx]))]
theorem kept_all (l : List UInt8) : U.nameL (kept l) = (kept l).length := by
  unfold U.nameL
  have h : ∀ x ∈ kept l, U.keeps x = true := fun x hx => (List.mem_filter.1 hx).2
  generalize kept l = t at h
  induction t with
  | nil => rfl
  | cons a t ih => rw [List.takeWhile_cons, if_pos (h a (by simp)), List.length_cons, List.length_cons, ih (fun x hx => h x (by simp [hx]))]
theorem kept_length (l : List UInt8) : (kept l).length ≤ l.length := List.length_filter_le _ _
theorem extract_one (s : ByteArray) (k : Nat) (b : UInt8) (hd : s.data.toList.drop k = b :: s.data.toList.drop (k + 1)) : s.extract k (k + 1) = ⟨#[b]⟩ := by
  apply ByteArray.ext
  apply Array.toList_inj.1
  rw [Lib.extract_data, hd, show k + 1 - k = 1 from by omega]
  rfl

/-- The bytes that end a name. -/
def endL : List UInt8 := [32, 9, 10, 44, 91, 93, 123, 125]
theorem endL_mem : ∀ k : Fin 8, U.keeps (endL.getD k.val 0) = false := by decide +kernel

set_option maxRecDepth 100000 in
set_option maxHeartbeats 1000000 in
theorem SignNames_walk (s : ByteArray) (y : Int) (m : ByteArray) (w : World) :
    Calls Try.prog 5 #[.string s, .int .i64 y, .string m] w fun e w' => e = .returned (.bool true) ∧ Below w.heap.size w w' := by
  cases hl : longB 120 [s.size, m.size] with
  | true =>
    have HL := Lib.hid hl
    clear hl
    go_enter Try.func5, Try.ntmps5
    go_wp2_with fail
    refine (Long_any true _ _ _ [s, m] _ (by omega) (by omega) (IsStrs_two w s m) HL.out).mono ?_
    rintro e w1 ⟨rfl, rfl⟩
    go_wp2_with fail
    refine (awake4_any _).mono ?_
    rintro e w1 ⟨rfl, rfl⟩
    go_wp2
    go_ret
    exact ⟨rfl, (Below.refl _ _).alloc (Nat.le_refl _) _⟩
  | false =>
    have h2 : s.size ≤ 120 ∧ m.size ≤ 120 := by
      simp only [longB] at hl
      split at hl
      · cases hl
      · split at hl
        · cases hl
        · omega
    obtain ⟨hs1, hm1⟩ := h2
    have hs : s.size ≤ 1099511627776 := by omega
    have HL := Lib.hid hl
    clear hl
    have hr := lowZ_range y 8 (by omega)
    obtain ⟨z, hz⟩ : ∃ z : Nat, lowZ y 8 = (z : Int) := ⟨(lowZ y 8).toNat, by omega⟩
    rw [hz] at hr
    have hz8 : z < 8 := by omega
    have HZ := Lib.hid hz
    clear hz hr
    go_enter Try.func5, Try.ntmps5
    go_wp2_with fail
    refine (Long_any false _ _ _ [s, m] _ (by omega) (by omega) (IsStrs_two w s m) HL.out).mono ?_
    rintro e w1 ⟨rfl, rfl⟩
    obtain ⟨w0, hw0⟩ : ∃ w0, w0 = w.alloc (.cells #[.string s, .string m] 9) := ⟨_, rfl⟩
    have hb0 : Below w.heap.size w w0 := by rw [hw0]; exact (Below.refl _ _).alloc (Nat.le_refl _) _
    rw [← hw0]
    clear hw0
    go_wp2
    go_loop [7, 8] (fun t i => ∃ (k : Nat) (S : List UInt8), i = .int .i64 (k : Int) ∧ t = .string ⟨S.toArray⟩ ∧ k ≤ s.size ∧ S.length ≤ k ∧ Hid (S ++ kept (s.data.toList.drop k) = kept s.data.toList)) (fun _ i => s.size - (intOf i).toNat)
    case atStart => exact ⟨0, [], rfl, rfl, Nat.zero_le _, Nat.le_refl _, rfl⟩
    case round =>
      obtain ⟨k, S, rfl, rfl, hk, hS, H⟩ := hrel
      by_cases hk2 : k < s.size
      · obtain ⟨b, hd, hbb⟩ := drop_byte s k hk2
        have hi := run_byt s k hk2 _ rfl
        have hin := endsB_in s k hk2
        have hst := kept_step s k b S hd H.out
        have hx := extract_one s k b hd
        unfold U.keeps at hst
        rw [hbb] at hst
        obtain ⟨x, hxb⟩ : ∃ x : Nat, x = byt s k := ⟨_, rfl⟩
        rw [← hxb] at hi hin hst
        clear hxb hbb hd
        cases hE : U.endc (x : Int) with
        | true =>
          rw [hE] at hin hst
          have HE := Lib.hid hin
          have F := Lib.hid (show S ++ kept (s.data.toList.drop (k + 1)) = kept s.data.toList by simpa using hst)
          clear hin hst hE hx
          go_wp2_with (go_at_call 18; refine (Ends_is true s _ _ hs HE.out).mono ?_; rintro e w' ⟨rfl, rfl⟩)
          go_round
          case rel => exact ⟨k + 1, S, by go_num, rfl, by omega, by omega, F.out⟩
          case measure => simp [intOf]; omega
        | false =>
          rw [hE] at hin hst
          have HE := Lib.hid hin
          cases hF : U.flow (x : Int) with
          | true =>
            rw [hF] at hst
            have HF := Lib.hid hF
            have F := Lib.hid (show S ++ kept (s.data.toList.drop (k + 1)) = kept s.data.toList by simpa using hst)
            clear hin hst hE hF hx
            go_wp2_with (first | (go_at_call 18; refine (Ends_is false s _ _ hs HE.out).mono ?_; rintro e w' ⟨rfl, rfl⟩) | (go_at_call 11; refine (Flow_is true _ _ HF.out).mono ?_; rintro e w' ⟨rfl, rfl⟩))
            go_round
            case rel => exact ⟨k + 1, S, by go_num, rfl, by omega, by omega, F.out⟩
            case measure => simp [intOf]; omega
          | false =>
            rw [hF] at hst
            have HF := Lib.hid hF
            have F := Lib.hid (show S ++ [b] ++ kept (s.data.toList.drop (k + 1)) = kept s.data.toList by simpa using hst)
            have HX := Lib.hid hx
            clear hin hst hE hF hx
            go_wp2_with (first | (go_at_call 18; refine (Ends_is false s _ _ hs HE.out).mono ?_; rintro e w' ⟨rfl, rfl⟩) | (go_at_call 11; refine (Flow_is false _ _ HF.out).mono ?_; rintro e w' ⟨rfl, rfl⟩))
            go_round
            case rel => exact ⟨k + 1, S ++ [b], by go_num, by rw [HX.out]; exact congrArg Value.string (ByteArray.mk_append_mk _ [b]), by omega, by simp; omega, F.out⟩
            case measure => simp [intOf]; omega
      · have H2 := H.out
        rw [List.drop_eq_nil_of_le (by rw [← Lib.size_eq]; omega), show kept [] = [] from rfl, List.append_nil] at H2
        obtain ⟨t, ht⟩ : ∃ t : ByteArray, t = ⟨S.toArray⟩ := ⟨_, rfl⟩
        have htS : t.data.toList = kept s.data.toList := by rw [ht, ← H2]
        have htz : t.size ≤ 120 := by rw [Lib.size_eq, htS]; have := kept_length s.data.toList; rw [← Lib.size_eq] at this; omega
        obtain ⟨b, hb⟩ : ∃ b, b = endL.getD z 0 := ⟨_, rfl⟩
        have hbk : U.keeps b = false := by rw [hb]; exact endL_mem ⟨z, hz8⟩
        have hcell : (w0.alloc (.cells #[.string ⟨#[32]⟩, .string ⟨#[9]⟩, .string ⟨#[10]⟩, .string ⟨#[44]⟩, .string ⟨#[91]⟩, .string ⟨#[93]⟩, .string ⟨#[123]⟩, .string ⟨#[125]⟩] 9)).cell? ⟨w0.heap.size, z, none⟩ = some (.string ⟨#[b]⟩) := by
          rw [World.cell?_alloc_mark, hb]
          have HH : ∀ j : Fin 8, (#[Value.string ⟨#[32]⟩, .string ⟨#[9]⟩, .string ⟨#[10]⟩, .string ⟨#[44]⟩, .string ⟨#[91]⟩, .string ⟨#[93]⟩, .string ⟨#[123]⟩, .string ⟨#[125]⟩] : Array Value)[j.val]? = some (.string ⟨#[endL.getD j.val 0]⟩) := by
            intro j
            match j with
            | ⟨0, _⟩ | ⟨1, _⟩ | ⟨2, _⟩ | ⟨3, _⟩ | ⟨4, _⟩ | ⟨5, _⟩ | ⟨6, _⟩ | ⟨7, _⟩ => rfl
            | ⟨i + 8, hi⟩ => exact absurd hi (by omega)
          exact HH ⟨z, hz8⟩
        obtain ⟨q, hq⟩ : ∃ q : ByteArray, q = ⟨#[b]⟩ := ⟨_, rfl⟩
        have hqz : q.size = 1 := by rw [hq]; rfl
        rw [← hq] at hcell
        have hqb : q.data.toList = [b] := by rw [hq]
        have A1 : Hid (nameAt (t ++ q ++ m) 0 = t.size) := by
          show _ = _
          rw [show (0 : Int) = ((0 : Nat) : Int) from rfl, nameAt_in, List.drop_zero, ByteArray.data_append, Array.toList_append, ByteArray.data_append, Array.toList_append, hqb, htS, List.append_assoc, Lib.size_eq, htS]
          exact kept_name _ _ b hbk
        have A2 : Hid (nameAt t 0 = t.size) := by
          show _ = _
          rw [show (0 : Int) = ((0 : Nat) : Int) from rfl, nameAt_in, List.drop_zero, Lib.size_eq, htS]
          exact kept_all _
        have A3 : Hid (nameAt (⟨#[93]⟩ ++ t) 1 = t.size) := by
          show _ = _
          rw [show (1 : Int) = ((1 : Nat) : Int) from rfl, nameAt_in, ByteArray.data_append, Array.toList_append, Lib.size_eq, htS]
          exact kept_all _
        have h93 : ((⟨#[93]⟩ : ByteArray) ++ t).size ≤ 1099511627776 := by
          rw [ByteArray.size_append]
          have : (⟨#[93]⟩ : ByteArray).size = 1 := rfl
          omega
        have htqm : (t ++ q ++ m).size ≤ 1099511627776 := by rw [ByteArray.size_append, ByteArray.size_append]; omega
        rw [← ht]
        clear hqb hq hbk hb htS ht H2 H hS
        go_wp2_with fail
        refine (Low_is (z : Int) _ _ _ (by omega) (by omega) HZ.out).mono ?_
        rintro e w1 ⟨rfl, rfl⟩
        go_wp2_with fail
        refine (Name_is t.size (t ++ q ++ m) _ _ htqm A1.out).mono ?_
        rintro e w1 ⟨rfl, rfl⟩
        go_wp2_with fail
        refine (Name_is t.size t _ _ (by omega) A2.out).mono ?_
        rintro e w1 ⟨rfl, rfl⟩
        go_wp2_with fail
        refine (Name_is t.size ((⟨#[93]⟩ : ByteArray) ++ t) 1 _ h93 A3.out).mono ?_
        rintro e w1 ⟨rfl, rfl⟩
        go_wp2_with fail
        refine (awake4_any _).mono ?_
        rintro e w1 ⟨rfl, rfl⟩
        go_wp2
        go_ret
        exact ⟨rfl, hb0.alloc hb0.size _⟩

end Go.Proofs.Ytghdimkjmcpagaa
