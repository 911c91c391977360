/- The program's package core, numbers and words: powers, numbers, the matchers' methods. Conditions: those that each theorem writes out (lengths that memory can hold). -/
import Derived.Test.YtlaljfdohpoclaaCore
namespace Go.Proofs.Ytlaljfdohpoclaa
open Go.RowKit

theorem drop_ext (s : ByteArray) (k : Nat) : (s.extract k s.size).data.toList = s.data.toList.drop k := by
  rw [Lib.extract_data, List.take_of_length_le (by rw [List.length_drop, Lib.size_eq]; omega)]
theorem cons_ext (s : ByteArray) (h : 0 < s.size) : ∃ b : UInt8, s.data.toList = b :: (s.extract 1 s.size).data.toList ∧ b.toNat = byt s 0 := by
  obtain ⟨b, hd, hb⟩ := drop_byte s 0 h
  refine ⟨b, ?_, hb⟩
  rw [drop_ext]
  exact hd
theorem empty_or (s : ByteArray) : (s.toList.isEmpty = true ∧ s.data.toList = []) ∨ (s.toList.isEmpty = false ∧ 0 < s.size) := by
  rw [Lib.toList_data, Lib.size_eq]
  cases s.data.toList with
  | nil => exact .inl ⟨rfl, rfl⟩
  | cons b l => exact .inr ⟨rfl, by simp⟩
theorem uns_cases (s : ByteArray) : (s.toList.isEmpty = true ∧ U.cUns s.data.toList = s.data.toList) ∨
    (s.toList.isEmpty = false ∧ 0 < s.size ∧ U.cSgn (byt s 0 : Int) = true ∧ U.cUns s.data.toList = (s.extract 1 s.size).data.toList) ∨
    (s.toList.isEmpty = false ∧ 0 < s.size ∧ U.cSgn (byt s 0 : Int) = false ∧ U.cUns s.data.toList = s.data.toList) := by
  rcases empty_or s with ⟨h1, h2⟩ | ⟨h1, h2⟩
  · exact .inl ⟨h1, by rw [h2]; rfl⟩
  · obtain ⟨b, hd, hb⟩ := cons_ext s h2
    cases hc : U.cSgn (byt s 0 : Int) with
    | true => exact .inr (.inl ⟨h1, h2, rfl, by rw [hd, U.cUns_cons, hb, if_pos hc]⟩)
    | false => exact .inr (.inr ⟨h1, h2, rfl, by rw [hd, U.cUns_cons, hb, if_neg (by simp [hc])]⟩)

set_option maxHeartbeats 1600000 in
theorem coreExponent_is (q : Bool) (s : ByteArray) (w : World) (hs : s.size ≤ 1099511627776) (hp : 0 < s.size) (h : U.cExp s.data.toList = q) :
    Calls Try.prog 45 #[.string s] w fun e w' => e = .returned (.bool q) ∧ w = w' := by
  obtain ⟨b, hd, hb⟩ := cons_ext s hp
  have hi := run_byt s 0 hp 0 rfl
  obtain ⟨s1, he⟩ : ∃ s1, s.extract 1 s.size = s1 := ⟨_, rfl⟩
  have hs1 : s1.size ≤ 1099511627776 := by rw [← he, ByteArray.size_extract]; omega
  rw [hd, U.cExp_cons, hb, he] at h
  obtain ⟨x, hx⟩ : ∃ x : Nat, x = byt s 0 := ⟨_, rfl⟩
  rw [← hx] at hi h
  clear hx hb hd b
  by_cases hE : (x : Int) = 101 ∨ (x : Int) = 69
  · have h2 : U.cAll U.cDig (U.cUns s1.data.toList) = q := by rw [← h]; simp [hE]
    clear h
    rcases uns_cases s1 with ⟨g1, g2⟩ | ⟨g1, g2, g3, g4⟩ | ⟨g1, g2, g3, g4⟩
    · rw [g2] at h2
      have H := Lib.hid h2
      clear h2 g2
      rcases hE with e | e
      all_goals
        rw [e] at hi
        go_enter Try.func45, Try.ntmps45
        go_wp2_with fail
        refine (coreAll_is classDigit q s1 _ hs1 H.out).mono ?_
        rintro e w1 ⟨rfl, rfl⟩
        go_wp2
        go_ret
        exact ⟨rfl, rfl⟩
    · obtain ⟨s2, he2⟩ : ∃ s2, s1.extract 1 s1.size = s2 := ⟨_, rfl⟩
      have hs2 : s2.size ≤ 1099511627776 := by rw [← he2, ByteArray.size_extract]; omega
      rw [g4, he2] at h2
      have hi2 := run_byt s1 0 g2 0 rfl
      obtain ⟨y, hy⟩ : ∃ y : Nat, y = byt s1 0 := ⟨_, rfl⟩
      rw [← hy] at hi2 g3
      have H := Lib.hid h2
      have HS := Lib.hid g3
      clear h2 g3 g4 hy
      rcases hE with e | e
      all_goals
        rw [e] at hi
        go_enter Try.func45, Try.ntmps45
        go_wp2_with fail
        refine (coreSign_is true y _ HS.out).mono ?_
        rintro e w1 ⟨rfl, rfl⟩
        go_wp2_with fail
        refine (coreAll_is classDigit q s2 _ hs2 H.out).mono ?_
        rintro e w1 ⟨rfl, rfl⟩
        go_wp2
        go_ret
        exact ⟨rfl, rfl⟩
    · rw [g4] at h2
      have hi2 := run_byt s1 0 g2 0 rfl
      obtain ⟨y, hy⟩ : ∃ y : Nat, y = byt s1 0 := ⟨_, rfl⟩
      rw [← hy] at hi2 g3
      have H := Lib.hid h2
      have HS := Lib.hid g3
      clear h2 g3 g4 hy
      rcases hE with e | e
      all_goals
        rw [e] at hi
        go_enter Try.func45, Try.ntmps45
        go_wp2_with fail
        refine (coreSign_is false y _ HS.out).mono ?_
        rintro e w1 ⟨rfl, rfl⟩
        go_wp2_with fail
        refine (coreAll_is classDigit q s1 _ hs1 H.out).mono ?_
        rintro e w1 ⟨rfl, rfl⟩
        go_wp2
        go_ret
        exact ⟨rfl, rfl⟩
  · have h2 : q = false := by rw [← h]; simp [hE]
    subst h2
    have e1 : ((x : Int) != 101) = true := by simp; omega
    have e2 : ((x : Int) != 69) = true := by simp; omega
    clear h hE
    go_enter Try.func45, Try.ntmps45
    go_wp2
    go_ret
    exact ⟨rfl, rfl⟩

theorem pow_cases (s : ByteArray) (q : Bool) (h : U.cPow s.data.toList = q) : (s.toList.isEmpty = true ∧ q = true) ∨ (s.toList.isEmpty = false ∧ 0 < s.size ∧ U.cExp s.data.toList = q) := by
  unfold U.cPow at h
  rw [← Lib.toList_data] at h
  rcases empty_or s with ⟨h1, h2⟩ | ⟨h1, h2⟩
  · exact .inl ⟨h1, by rw [← h, h1]; rfl⟩
  · refine .inr ⟨h1, h2, ?_⟩
    rw [h1, Bool.false_or, Lib.toList_data] at h
    exact h

set_option maxHeartbeats 1600000 in
theorem coreDecimal_is (q : Bool) (s : ByteArray) (w : World) (hs : s.size ≤ 1099511627776) (h : U.cDec s.data.toList = q) :
    Calls Try.prog 42 #[.string s] w fun e w' => e = .returned (.bool q) ∧ w = w' := by
  obtain ⟨n, hn⟩ : ∃ n, U.cRun U.cDig s.data.toList = n := ⟨_, rfl⟩
  have hns : n ≤ s.size := by rw [← hn, Lib.size_eq]; exact U.cRun_le _ _
  unfold U.cDec at h
  rw [hn, ← drop_ext] at h
  obtain ⟨s1, he⟩ : ∃ s1, s.extract n s.size = s1 := ⟨_, rfl⟩
  have hs1 : s1.size ≤ 1099511627776 := by rw [← he, ByteArray.size_extract]; omega
  rw [he] at h
  have HN := Lib.hid hn
  clear hn
  rcases empty_or s1 with ⟨g1, g2⟩ | ⟨g1, g2⟩
  · rw [g2] at h
    have h2 : decide (0 < n) = q := by
      rw [← h, show U.cPart [] = 0 from rfl, show U.cPow (U.cRest []) = true from rfl, Bool.and_true, Nat.add_zero]
    clear h g2
    cases q with
    | true =>
      have h3 : 0 < n := by simpa using h2
      clear h2
      go_enter Try.func42, Try.ntmps42
      go_wp2_with fail
      refine (coreCount_is classDigit n s _ hs HN.out).mono ?_
      rintro e w1 ⟨rfl, rfl⟩
      go_wp2_with fail
      go_ret
      exact ⟨rfl, rfl⟩
    | false =>
      have h3 : n = 0 := by simpa using h2
      subst h3
      clear h2
      go_enter Try.func42, Try.ntmps42
      go_wp2_with fail
      refine (coreCount_is classDigit 0 s _ hs HN.out).mono ?_
      rintro e w1 ⟨rfl, rfl⟩
      go_wp2_with fail
      go_ret
      exact ⟨rfl, rfl⟩
  · obtain ⟨b, hd, hb⟩ := cons_ext s1 g2
    have hi := run_byt s1 0 g2 0 rfl
    obtain ⟨x, hx⟩ : ∃ x : Nat, x = byt s1 0 := ⟨_, rfl⟩
    rw [← hx] at hi hb
    clear hx
    rw [hd, U.cPart_cons, U.cRest_cons, hb] at h
    by_cases hE : (x : Int) = 46
    · rw [if_pos hE, if_pos hE] at h
      rw [hE] at hi
      obtain ⟨s2, he2⟩ : ∃ s2, s1.extract 1 s1.size = s2 := ⟨_, rfl⟩
      have hs2 : s2.size ≤ 1099511627776 := by rw [← he2, ByteArray.size_extract]; omega
      rw [he2] at h
      obtain ⟨m, hm⟩ : ∃ m, U.cRun U.cDig s2.data.toList = m := ⟨_, rfl⟩
      have hms : 1 + m ≤ s1.size := by
        have h1 := U.cRun_le U.cDig s2.data.toList
        rw [hm, ← Lib.size_eq, ← he2, ByteArray.size_extract] at h1
        omega
      obtain ⟨s3, he3⟩ : ∃ s3, s1.extract (1 + m) s1.size = s3 := ⟨_, rfl⟩
      have hs3 : s3.size ≤ 1099511627776 := by rw [← he3, ByteArray.size_extract]; omega
      have hl3 : s2.data.toList.drop m = s3.data.toList := by rw [← he2, ← he3, drop_ext, drop_ext, List.drop_drop]
      rw [hm, hl3] at h
      have HM := Lib.hid hm
      clear hm hl3 hd hb b hE
      by_cases hz : 0 < n + m
      · have h2 : U.cPow s3.data.toList = q := by rw [← h]; simp [hz]
        clear h
        rcases pow_cases s3 q h2 with ⟨k1, rfl⟩ | ⟨k1, k2, k3⟩
        · clear h2
          go_enter Try.func42, Try.ntmps42
          go_wp2_with fail
          refine (coreCount_is classDigit n s _ hs HN.out).mono ?_
          rintro e w1 ⟨rfl, rfl⟩
          go_wp2_with fail
          refine (coreCount_is classDigit m s2 _ hs2 HM.out).mono ?_
          rintro e w1 ⟨rfl, rfl⟩
          go_wp2
          go_ret
          exact ⟨rfl, rfl⟩
        · have H := Lib.hid k3
          clear h2 k3
          go_enter Try.func42, Try.ntmps42
          go_wp2_with fail
          refine (coreCount_is classDigit n s _ hs HN.out).mono ?_
          rintro e w1 ⟨rfl, rfl⟩
          go_wp2_with fail
          refine (coreCount_is classDigit m s2 _ hs2 HM.out).mono ?_
          rintro e w1 ⟨rfl, rfl⟩
          go_wp2_with fail
          refine (coreExponent_is q s3 _ hs3 k2 H.out).mono ?_
          rintro e w1 ⟨rfl, rfl⟩
          go_wp2
          go_ret
          exact ⟨rfl, rfl⟩
      · have h2 : q = false := by rw [← h]; simp [hz]
        subst h2
        obtain ⟨rfl, rfl⟩ : n = 0 ∧ m = 0 := by omega
        clear h hz
        go_enter Try.func42, Try.ntmps42
        go_wp2_with fail
        refine (coreCount_is classDigit 0 s _ hs HN.out).mono ?_
        rintro e w1 ⟨rfl, rfl⟩
        go_wp2_with fail
        refine (coreCount_is classDigit 0 s2 _ hs2 HM.out).mono ?_
        rintro e w1 ⟨rfl, rfl⟩
        go_wp2
        go_ret
        exact ⟨rfl, rfl⟩
    · rw [if_neg hE, if_neg hE, ← hd, Nat.add_zero] at h
      have e1 : ((x : Int) == 46) = false := by simp; omega
      clear hE hd hb b
      by_cases hz : 0 < n
      · have h2 : U.cPow s1.data.toList = q := by rw [← h]; simp [hz]
        rcases pow_cases s1 q h2 with ⟨k1, _⟩ | ⟨_, _, k3⟩
        · rw [k1] at g1; cases g1
        have H := Lib.hid k3
        clear h h2 k3
        go_enter Try.func42, Try.ntmps42
        go_wp2_with fail
        refine (coreCount_is classDigit n s _ hs HN.out).mono ?_
        rintro e w1 ⟨rfl, rfl⟩
        go_wp2_with fail
        refine (coreExponent_is q s1 _ hs1 g2 H.out).mono ?_
        rintro e w1 ⟨rfl, rfl⟩
        go_wp2
        go_ret
        exact ⟨rfl, rfl⟩
      · have h2 : q = false := by rw [← h]; simp [hz]
        subst h2
        have h3 : n = 0 := by omega
        subst h3
        clear h hz
        go_enter Try.func42, Try.ntmps42
        go_wp2_with fail
        refine (coreCount_is classDigit 0 s _ hs HN.out).mono ?_
        rintro e w1 ⟨rfl, rfl⟩
        go_wp2_with fail
        go_ret
        exact ⟨rfl, rfl⟩

set_option maxHeartbeats 800000 in
theorem coreSFloat_is (q : Bool) (s : ByteArray) (w : World) (hs : s.size ≤ 1099511627776) (h : (U.cIn U.cInfs s.data.toList || U.cDec s.data.toList) = q) :
    Calls Try.prog 40 #[.string s] w fun e w' => e = .returned (.bool q) ∧ w = w' := by
  subst h
  rw [cInfs_or]
  cases h0 : (s.toList == [46, 105, 110, 102]) with
  | true =>
    go_enter Try.func40, Try.ntmps40
    go_wp2
    go_ret
    exact ⟨rfl, rfl⟩
  | false =>
    cases h1 : (s.toList == [46, 73, 110, 102]) with
    | true =>
      go_enter Try.func40, Try.ntmps40
      go_wp2
      go_ret
      exact ⟨rfl, rfl⟩
    | false =>
      cases h2 : (s.toList == [46, 73, 78, 70]) with
      | true =>
        go_enter Try.func40, Try.ntmps40
        go_wp2
        go_ret
        exact ⟨rfl, rfl⟩
      | false =>
        obtain ⟨q, hq⟩ : ∃ q, U.cDec s.data.toList = q := ⟨_, rfl⟩
        rw [hq]
        have H := Lib.hid hq
        clear hq
        go_enter Try.func40, Try.ntmps40
        go_wp2_with fail
        refine (coreDecimal_is q s _ hs H.out).mono ?_
        rintro e w1 ⟨rfl, rfl⟩
        go_wp2
        go_ret
        exact ⟨by simp, rfl⟩

set_option maxHeartbeats 800000 in
theorem coreUFloat_is (q : Bool) (s : ByteArray) (w : World) (hs : s.size ≤ 1099511627776) (h : (U.cIn U.cNans s.data.toList || (U.cIn U.cInfs s.data.toList || U.cDec s.data.toList)) = q) :
    Calls Try.prog 46 #[.string s] w fun e w' => e = .returned (.bool q) ∧ w = w' := by
  subst h
  rw [cNans_or]
  cases h0 : (s.toList == [46, 110, 97, 110]) with
  | true =>
    go_enter Try.func46, Try.ntmps46
    go_wp2
    go_ret
    exact ⟨rfl, rfl⟩
  | false =>
    cases h1 : (s.toList == [46, 78, 97, 78]) with
    | true =>
      go_enter Try.func46, Try.ntmps46
      go_wp2
      go_ret
      exact ⟨rfl, rfl⟩
    | false =>
      cases h2 : (s.toList == [46, 78, 65, 78]) with
      | true =>
        go_enter Try.func46, Try.ntmps46
        go_wp2
        go_ret
        exact ⟨rfl, rfl⟩
      | false =>
        obtain ⟨q, hq⟩ : ∃ q, (U.cIn U.cInfs s.data.toList || U.cDec s.data.toList) = q := ⟨_, rfl⟩
        rw [hq]
        have H := Lib.hid hq
        clear hq
        go_enter Try.func46, Try.ntmps46
        go_wp2_with fail
        refine (coreSFloat_is q s _ hs H.out).mono ?_
        rintro e w1 ⟨rfl, rfl⟩
        go_wp2
        go_ret
        exact ⟨by simp, rfl⟩

set_option maxHeartbeats 800000 in
theorem coreSInteger_is (q : Bool) (s : ByteArray) (w : World) (hs : s.size ≤ 1099511627776) (h : U.cAll U.cDig s.data.toList = q) :
    Calls Try.prog 41 #[.string s] w fun e w' => e = .returned (.bool q) ∧ w = w' := by
  have H := Lib.hid h
  clear h
  go_enter Try.func41, Try.ntmps41
  go_wp2_with fail
  refine (coreAll_is classDigit q s _ hs H.out).mono ?_
  rintro e w1 ⟨rfl, rfl⟩
  go_wp2
  go_ret
  exact ⟨rfl, rfl⟩

theorem base_short (s : ByteArray) (h : s.size < 2) : U.cBase s.data.toList = false := by
  rw [Lib.size_eq] at h
  unfold U.cBase
  rw [List.take_of_length_le (by omega)]
  have : ∀ y, decide (s.data.toList = [48, y]) = false := fun y => by
    rw [decide_eq_false_iff_not]; intro e; rw [e] at h; simp at h
  rw [this, this]; rfl
theorem base_long (s s2 : ByteArray) (he : s.extract 2 s.size = s2) : U.cBase s.data.toList = ((((s.extract 0 2).toList == [48, 111]) && U.cAll U.cOct s2.data.toList) || (((s.extract 0 2).toList == [48, 120]) && U.cAll U.cHex s2.data.toList)) := by
  unfold U.cBase
  rw [← he, drop_ext, Lib.toList_data, Lib.extract_data, List.drop_zero]
  have : ∀ y : UInt8, decide (s.data.toList.take 2 = [48, y]) = (s.data.toList.take 2 == [48, y]) := fun y => by
    rw [Bool.eq_iff_iff, decide_eq_true_eq, beq_iff_eq]
  rw [this, this]

set_option maxHeartbeats 1600000 in
theorem coreUInteger_is (q : Bool) (s : ByteArray) (w : World) (hs : s.size ≤ 1099511627776) (h : (U.cAll U.cDig s.data.toList || U.cBase s.data.toList) = q) :
    Calls Try.prog 47 #[.string s] w fun e w' => e = .returned (.bool q) ∧ w = w' := by
  cases ha : U.cAll U.cDig s.data.toList with
  | true =>
    rw [ha, Bool.true_or] at h
    subst h
    have H := Lib.hid ha
    clear ha
    go_enter Try.func47, Try.ntmps47
    go_wp2_with fail
    refine (coreSInteger_is true s _ hs H.out).mono ?_
    rintro e w1 ⟨rfl, rfl⟩
    go_wp2
    go_ret
    exact ⟨rfl, rfl⟩
  | false =>
    rw [ha, Bool.false_or] at h
    have H := Lib.hid ha
    clear ha
    by_cases h2 : s.size < 2
    · rw [base_short s h2] at h
      subst h
      go_enter Try.func47, Try.ntmps47
      go_wp2_with fail
      refine (coreSInteger_is false s _ hs H.out).mono ?_
      rintro e w1 ⟨rfl, rfl⟩
      go_wp2
      go_ret
      exact ⟨rfl, rfl⟩
    · obtain ⟨s2, he⟩ : ∃ s2, s.extract 2 s.size = s2 := ⟨_, rfl⟩
      have hs2 : s2.size ≤ 1099511627776 := by rw [← he, ByteArray.size_extract]; omega
      rw [base_long s s2 he] at h
      cases ho : ((s.extract 0 2).toList == [48, 111]) with
      | true =>
        have hx : ((s.extract 0 2).toList == [48, 120]) = false := by rw [beq_iff_eq] at ho; rw [ho]; rfl
        rw [ho, hx, Bool.true_and, Bool.false_and, Bool.or_false] at h
        have HO := Lib.hid h
        clear h
        go_enter Try.func47, Try.ntmps47
        go_wp2_with fail
        refine (coreSInteger_is false s _ hs H.out).mono ?_
        rintro e w1 ⟨rfl, rfl⟩
        go_wp2_with fail
        refine (coreAll_is classOctal q s2 _ hs2 HO.out).mono ?_
        rintro e w1 ⟨rfl, rfl⟩
        go_wp2
        go_ret
        exact ⟨rfl, rfl⟩
      | false =>
        cases hx : ((s.extract 0 2).toList == [48, 120]) with
        | true =>
          rw [ho, hx, Bool.true_and, Bool.false_and, Bool.false_or] at h
          have HO := Lib.hid h
          clear h
          go_enter Try.func47, Try.ntmps47
          go_wp2_with fail
          refine (coreSInteger_is false s _ hs H.out).mono ?_
          rintro e w1 ⟨rfl, rfl⟩
          go_wp2_with fail
          refine (coreAll_is classHexadecimal q s2 _ hs2 HO.out).mono ?_
          rintro e w1 ⟨rfl, rfl⟩
          go_wp2
          go_ret
          exact ⟨rfl, rfl⟩
        | false =>
          rw [ho, hx, Bool.false_and, Bool.false_and, Bool.or_false] at h
          subst h
          go_enter Try.func47, Try.ntmps47
          go_wp2_with fail
          refine (coreSInteger_is false s _ hs H.out).mono ?_
          rintro e w1 ⟨rfl, rfl⟩
          go_wp2
          go_ret
          exact ⟨rfl, rfl⟩

end Go.Proofs.Ytlaljfdohpoclaa
