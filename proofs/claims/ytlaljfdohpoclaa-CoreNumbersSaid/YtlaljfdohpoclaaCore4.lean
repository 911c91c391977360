/- The program's package core: Tag: the tag of a plain scalar. Conditions: those that each theorem writes out (lengths that memory can hold). -/
import Derived.Test.YtlaljfdohpoclaaCore3
namespace Go.Proofs.Ytlaljfdohpoclaa
open Go.RowKit

set_option maxHeartbeats 800000 in
theorem coreScalar_empty (s : ByteArray) (w : World) (h0 : s.toList.isEmpty = true) :
    Calls Try.prog 15 #[.string s] w fun e w' => e = .returned (.iface 51 (.string s)) ∧ w = w' := by
  go_enter Try.func15, Try.ntmps15
  go_wp2
  go_ret
  exact ⟨rfl, rfl⟩
set_option maxHeartbeats 800000 in
theorem coreScalar_signed (s : ByteArray) (w : World) (h0 : s.toList.isEmpty = false) (hp : 0 < s.size) (hc : U.cSgn (byt s 0 : Int) = true) :
    Calls Try.prog 15 #[.string s] w fun e w' => e = .returned (.iface 53 (.string (s.extract 1 s.size))) ∧ w = w' := by
  have hi := run_byt s 0 hp 0 rfl
  obtain ⟨x, hx⟩ : ∃ x : Nat, x = byt s 0 := ⟨_, rfl⟩
  rw [← hx] at hi hc
  clear hx
  have HC := Lib.hid hc
  clear hc
  go_enter Try.func15, Try.ntmps15
  go_wp2_with fail
  refine (coreSign_is true x _ HC.out).mono ?_
  rintro e w1 ⟨rfl, rfl⟩
  go_wp2
  go_ret
  exact ⟨rfl, rfl⟩
set_option maxHeartbeats 800000 in
theorem coreScalar_point (s : ByteArray) (w : World) (h0 : s.toList.isEmpty = false) (hp : 0 < s.size) (hd : (byt s 0 : Int) = 46) :
    Calls Try.prog 15 #[.string s] w fun e w' => e = .returned (.iface 54 (.string s)) ∧ w = w' := by
  have hi := run_byt s 0 hp 0 rfl
  obtain ⟨x, hx⟩ : ∃ x : Nat, x = byt s 0 := ⟨_, rfl⟩
  rw [← hx] at hi hd
  clear hx
  rw [hd] at hi
  go_enter Try.func15, Try.ntmps15
  go_wp2_with fail
  refine (coreSign_is false 46 _ rfl).mono ?_
  rintro e w1 ⟨rfl, rfl⟩
  go_wp2
  go_ret
  exact ⟨rfl, rfl⟩
set_option maxHeartbeats 800000 in
theorem coreScalar_digit (s : ByteArray) (w : World) (h0 : s.toList.isEmpty = false) (hp : 0 < s.size) (hc : U.cSgn (byt s 0 : Int) = false) (hd : (byt s 0 : Int) ≠ 46) (hg : U.cDig (byt s 0 : Int) = true) :
    Calls Try.prog 15 #[.string s] w fun e w' => e = .returned (.iface 54 (.string s)) ∧ w = w' := by
  have hi := run_byt s 0 hp 0 rfl
  obtain ⟨x, hx⟩ : ∃ x : Nat, x = byt s 0 := ⟨_, rfl⟩
  rw [← hx] at hi hc hd hg
  clear hx
  have HC := Lib.hid hc
  have HG := Lib.hid hg
  have e1 : ((x : Int) == 46) = false := by simp; omega
  clear hc hg hd
  go_enter Try.func15, Try.ntmps15
  go_wp2_with fail
  refine (coreSign_is false x _ HC.out).mono ?_
  rintro e w1 ⟨rfl, rfl⟩
  go_wp2_with fail
  refine (coreDigit_is true x _ HG.out).mono ?_
  rintro e w1 ⟨rfl, rfl⟩
  go_wp2
  go_ret
  exact ⟨rfl, rfl⟩
set_option maxHeartbeats 800000 in
theorem coreScalar_name (s : ByteArray) (w : World) (h0 : s.toList.isEmpty = false) (hp : 0 < s.size) (hc : U.cSgn (byt s 0 : Int) = false) (hd : (byt s 0 : Int) ≠ 46) (hg : U.cDig (byt s 0 : Int) = false) :
    Calls Try.prog 15 #[.string s] w fun e w' => e = .returned (.iface 51 (.string s)) ∧ w = w' := by
  have hi := run_byt s 0 hp 0 rfl
  obtain ⟨x, hx⟩ : ∃ x : Nat, x = byt s 0 := ⟨_, rfl⟩
  rw [← hx] at hi hc hd hg
  clear hx
  have HC := Lib.hid hc
  have HG := Lib.hid hg
  have e1 : ((x : Int) == 46) = false := by simp; omega
  clear hc hg hd
  go_enter Try.func15, Try.ntmps15
  go_wp2_with fail
  refine (coreSign_is false x _ HC.out).mono ?_
  rintro e w1 ⟨rfl, rfl⟩
  go_wp2_with fail
  refine (coreDigit_is false x _ HG.out).mono ?_
  rintro e w1 ⟨rfl, rfl⟩
  go_wp2
  go_ret
  exact ⟨rfl, rfl⟩

theorem cWord_size (k : Nat) : (⟨(U.cWord k).toArray⟩ : ByteArray).size ≤ 1099511627776 := by
  match k with
  | 0 | 1 | 2 | 3 => decide
  | k + 4 => exact (by decide : (⟨([115, 116, 114] : List UInt8).toArray⟩ : ByteArray).size ≤ 1099511627776)

set_option maxHeartbeats 1600000 in
theorem coreTag_is (k : Nat) (s : ByteArray) (w : World) (hs : s.size ≤ 1099511627776) (h : U.cTag s.data.toList = k) :
    Calls Try.prog 9 #[.string s] w fun e w' => e = .returned (.string (tagS k)) ∧ w = w' := by
  rcases empty_or s with ⟨h0, h1⟩ | ⟨h0, hp⟩
  · have h2 : (if U.cIn U.cNulls s.data.toList = true then 0 else if U.cIn U.cBools s.data.toList = true then 1 else 4) = k := by rw [← h, h1]; rfl
    clear h h1
    go_enter Try.func9, Try.ntmps9
    go_wp2_with fail
    refine (coreScalar_empty s _ h0).mono ?_
    rintro e w1 ⟨rfl, rfl⟩
    go_wp2_with fail
    refine (coreWord_name k s _ hs h2).mono ?_
    rintro e w1 ⟨rfl, rfl⟩
    go_wp2_with fail
    refine (coreLong_is (tagS k) _ _ (cWord_size k) rfl).mono ?_
    rintro e w1 ⟨rfl, rfl⟩
    go_wp2
    go_ret
    exact ⟨rfl, rfl⟩
  obtain ⟨b, hd, hb⟩ := cons_ext s hp
  cases hc : U.cSgn (byt s 0 : Int) with
  | true =>
    have hs1 : (s.extract 1 s.size).size ≤ 1099511627776 := by rw [ByteArray.size_extract]; omega
    rw [hd, U.cTag_signed _ (by rw [hb]; exact hc)] at h
    clear hd hb
    go_enter Try.func9, Try.ntmps9
    go_wp2_with fail
    refine (coreScalar_signed s _ h0 hp hc).mono ?_
    rintro e w1 ⟨rfl, rfl⟩
    go_wp2_with fail
    refine (coreWord_signed k _ _ hs1 h).mono ?_
    rintro e w1 ⟨rfl, rfl⟩
    go_wp2_with fail
    refine (coreLong_is (tagS k) _ _ (cWord_size k) rfl).mono ?_
    rintro e w1 ⟨rfl, rfl⟩
    go_wp2
    go_ret
    exact ⟨rfl, rfl⟩
  | false =>
    by_cases h46 : (byt s 0 : Int) = 46
    · rw [hd, U.cTag_unsigned _ (by rw [hb, h46]; rfl), ← hd] at h
      clear hd hb
      go_enter Try.func9, Try.ntmps9
      go_wp2_with fail
      refine (coreScalar_point s _ h0 hp h46).mono ?_
      rintro e w1 ⟨rfl, rfl⟩
      go_wp2_with fail
      refine (coreWord_unsigned k s _ hs h).mono ?_
      rintro e w1 ⟨rfl, rfl⟩
      go_wp2_with fail
      refine (coreLong_is (tagS k) _ _ (cWord_size k) rfl).mono ?_
      rintro e w1 ⟨rfl, rfl⟩
      go_wp2
      go_ret
      exact ⟨rfl, rfl⟩
    cases hg : U.cDig (byt s 0 : Int) with
    | true =>
      rw [hd, U.cTag_unsigned _ (by rw [hb, hg, Bool.or_true]), ← hd] at h
      clear hd hb
      go_enter Try.func9, Try.ntmps9
      go_wp2_with fail
      refine (coreScalar_digit s _ h0 hp hc h46 hg).mono ?_
      rintro e w1 ⟨rfl, rfl⟩
      go_wp2_with fail
      refine (coreWord_unsigned k s _ hs h).mono ?_
      rintro e w1 ⟨rfl, rfl⟩
      go_wp2_with fail
      refine (coreLong_is (tagS k) _ _ (cWord_size k) rfl).mono ?_
      rintro e w1 ⟨rfl, rfl⟩
      go_wp2
      go_ret
      exact ⟨rfl, rfl⟩
    | false =>
      rw [hd, U.cTag_name _ (by rw [hb]; exact hc) (by rw [hb]; exact h46) (by rw [hb]; exact hg), ← hd] at h
      clear hd hb
      go_enter Try.func9, Try.ntmps9
      go_wp2_with fail
      refine (coreScalar_name s _ h0 hp hc h46 hg).mono ?_
      rintro e w1 ⟨rfl, rfl⟩
      go_wp2_with fail
      refine (coreWord_name k s _ hs h).mono ?_
      rintro e w1 ⟨rfl, rfl⟩
      go_wp2_with fail
      refine (coreLong_is (tagS k) _ _ (cWord_size k) rfl).mono ?_
      rintro e w1 ⟨rfl, rfl⟩
      go_wp2
      go_ret
      exact ⟨rfl, rfl⟩

end Go.Proofs.Ytlaljfdohpoclaa
