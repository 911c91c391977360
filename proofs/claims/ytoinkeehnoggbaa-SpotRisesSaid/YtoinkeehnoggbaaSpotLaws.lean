/- The statements on package spot: the walks: for every input the law returns true. Conditions: none beside those that each theorem writes out. -/
import Derived.Test.YtoinkeehnoggbaaSpotRef
import Derived.Test.YtoinkeehnoggbaaWord
namespace Go.Proofs.Ytoinkeehnoggbaa
open Go.RowKit

theorem tb2 {a b c : World} (h : Below a.heap.size a b) (k : Below b.heap.size b c) : Below a.heap.size a c := h.trans (k.mono h.size)
theorem PlaceV (p : Int) (s : ByteArray) (w : World) (hs : s.size ≤ maxLen) (h : U.place s.data.toList = p) :
    Calls Try.prog 15 #[.string s] w fun e w' => e = .returned (.int .i64 p) ∧ Below w.heap.size w w' := by
  subst h; exact Place_any s w hs
theorem WidthV (n : Nat) (s : ByteArray) (w : World) (hs : s.size ≤ maxLen) (h : (U.runes s.data.toList).length = n) :
    Calls Try.prog 17 #[.string s] w fun e w' => e = .returned (.int .i64 (n : Int)) ∧ Below w.heap.size w w' := by
  subst h; exact Width_any s w hs
theorem LinesV (n : Int) (s : ByteArray) (w : World) (hs : s.size ≤ 1099511627776) (h : U.line s.data.toList = n) :
    Calls Try.prog 13 #[.string s] w fun e w' => e = .returned (.int .i64 n) ∧ w = w' := by
  subst h; exact Lines_any s w hs
theorem refLinesV (n : Int) (s : ByteArray) (w : World) (hs : s.size ≤ 1099511627776) (h : U.line s.data.toList = n) :
    Calls Try.prog 14 #[.string s] w fun e w' => e = .returned (.int .i64 n) ∧ w = w' := by
  subst h; exact refLines_any s w hs
theorem BackV (p : Nat) (q : Bool) (s : ByteArray) (y x : Int) (w : World) (hs : s.size ≤ 1099511627776) (h : (U.seek s.data.toList y x).getD 0 = p ∧ (U.seek s.data.toList y x).isSome = q) :
    Calls Try.prog 10 #[.string s, .int .i64 y, .int .i64 x] w fun e w' => e = .returned (.tuple #[.int .i64 (p : Int), .bool q]) ∧ Below w.heap.size w w' := by
  rw [← h.1, ← h.2]; exact Back_is _ s y x w hs rfl
theorem refBackV (p : Nat) (q : Bool) (s : ByteArray) (y x : Int) (w : World) (hs : s.size ≤ 1099511627776) (h : (U.seek s.data.toList y x).getD 0 = p ∧ (U.seek s.data.toList y x).isSome = q) :
    Calls Try.prog 11 #[.string s, .int .i64 y, .int .i64 x] w fun e w' => e = .returned (.tuple #[.int .i64 (p : Int), .bool q]) ∧ Below w.heap.size w w' := by
  rw [← h.1, ← h.2]; exact refBack_is _ s y x w hs rfl

set_option maxHeartbeats 400000 in
/-- What every program answers that is one. -/
theorem awake3_any (w : World) : Calls Try.prog 7 #[] w fun e w' => e = .returned (.bool true) ∧ Below w.heap.size w w' := by
  go_enter Try.func7, Try.ntmps7
  go_wp2_with fail
  refine (At_is 2 2 ⟨#[195, 169, 10, 97, 98]⟩ 4 _ (by decide) (by decide +kernel) (by decide +kernel)).mono ?_
  rintro e w1 ⟨rfl, b1⟩
  go_wp2_with fail
  refine (BackV 2 true ⟨#[97, 10, 98]⟩ 2 1 _ (by decide) (by decide +kernel)).mono ?_
  rintro e w2 ⟨rfl, b2⟩
  go_wp2_with fail
  refine (LinesV 2 ⟨#[97, 10]⟩ _ (by decide) (by decide +kernel)).mono ?_
  rintro e w3 ⟨rfl, rfl⟩
  go_wp2
  go_ret
  exact ⟨rfl, tb2 b1 b2⟩

set_option maxHeartbeats 1000000 in
theorem SpotTells_walk (s : ByteArray) (at' y x : Int) (w : World) :
    Calls Try.prog 3 #[.string s, .int .i64 at', .int .i64 y, .int .i64 x] w fun e w' => e = .returned (.bool true) ∧ Below w.heap.size w w' := by
  by_cases h : 120 < s.size
  · go_enter Try.func3, Try.ntmps3
    go_wp2_with (go_at_call 7; refine (awake3_any _).mono ?_; rintro e w1 ⟨rfl, b1⟩)
    go_ret
    exact ⟨rfl, b1⟩
  · have hs : s.size ≤ 1099511627776 := by omega
    obtain ⟨a, ha⟩ : ∃ a, U.line (s.data.toList.take (clampN at' s.size)) = a := ⟨_, rfl⟩
    obtain ⟨b, hb⟩ : ∃ b, U.col (s.data.toList.take (clampN at' s.size)) = b := ⟨_, rfl⟩
    obtain ⟨p, q, hp⟩ : ∃ p q, (U.seek s.data.toList y x).getD 0 = p ∧ (U.seek s.data.toList y x).isSome = q := ⟨_, _, rfl, rfl⟩
    obtain ⟨y5, hy5⟩ : ∃ y5, lowZ y 5 = y5 := ⟨_, rfl⟩
    obtain ⟨x9, hx9⟩ : ∃ x9, lowZ x 9 = x9 := ⟨_, rfl⟩
    obtain ⟨u, v, hu⟩ : ∃ p q, (U.seek s.data.toList y5 x9).getD 0 = p ∧ (U.seek s.data.toList y5 x9).isSome = q := ⟨_, _, rfl, rfl⟩
    obtain ⟨n, hn⟩ : ∃ n, U.line s.data.toList = n := ⟨_, rfl⟩
    have HA := Lib.hid ha
    have HB := Lib.hid hb
    have HP := Lib.hid hp
    have HY := Lib.hid hy5
    have HX := Lib.hid hx9
    have HU := Lib.hid hu
    have HN := Lib.hid hn
    clear ha hb hp hy5 hx9 hu hn
    go_enter Try.func3, Try.ntmps3
    go_wp2_with fail
    refine (At_is a b s _ _ hs HA.out HB.out).mono ?_
    rintro e w1 ⟨rfl, b1⟩
    go_wp2_with fail
    refine (refAt_is a b s _ _ hs HA.out HB.out).mono ?_
    rintro e w2 ⟨rfl, b2⟩
    replace b2 := tb2 b1 b2
    clear b1
    go_wp2_with fail
    refine (BackV p q s _ _ _ hs HP.out).mono ?_
    rintro e w3 ⟨rfl, b3⟩
    replace b3 := tb2 b2 b3
    clear b2
    go_wp2_with fail
    refine (refBackV p q s _ _ _ hs HP.out).mono ?_
    rintro e w4 ⟨rfl, b4⟩
    replace b4 := tb2 b3 b4
    clear b3
    go_wp2_with fail
    refine (Low_is y5 _ _ _ (by omega) (by omega) HY.out).mono ?_
    rintro e w' ⟨rfl, rfl⟩
    go_wp2_with fail
    refine (Low_is x9 _ _ _ (by omega) (by omega) HX.out).mono ?_
    rintro e w' ⟨rfl, rfl⟩
    go_wp2_with fail
    refine (BackV u v s _ _ _ hs HU.out).mono ?_
    rintro e w5 ⟨rfl, b5⟩
    replace b5 := tb2 b4 b5
    clear b4
    go_wp2_with fail
    refine (refBackV u v s _ _ _ hs HU.out).mono ?_
    rintro e w6 ⟨rfl, b6⟩
    replace b6 := tb2 b5 b6
    clear b5
    go_wp2_with fail
    refine (LinesV n s _ hs HN.out).mono ?_
    rintro e w' ⟨rfl, rfl⟩
    go_wp2_with fail
    refine (refLinesV n s _ hs HN.out).mono ?_
    rintro e w' ⟨rfl, rfl⟩
    go_wp2_with fail
    refine (awake3_any _).mono ?_
    rintro e w7 ⟨rfl, b7⟩
    go_wp2
    go_ret
    exact ⟨rfl, tb2 b6 b7⟩

end Go.Proofs.Ytoinkeehnoggbaa
