/- The statements on package rows: the walks of RowsTells and RowsParts: for every input the law returns true. Conditions: none beside those that each theorem writes out. -/
import Derived.Test.YtlblamabkjpnaaaLinRefA
namespace Go.Proofs.Ytlblamabkjpnaaa
open Go.RowKit

set_option maxHeartbeats 400000 in
/-- What every program answers that is one. -/
theorem awake7_any (w : World) : Calls Try.prog 7 #[] w fun e w' => e = .returned (.bool true) ∧ Below w.heap.size w w' := by
  go_enter Try.func7, Try.ntmps7
  go_wp2_with fail
  refine (Row_is 2 4 ⟨#[97, 10, 98, 99]⟩ 3 _ (by decide) (by decide +kernel) (by decide +kernel)).mono ?_
  rintro e w1 ⟨rfl, rfl⟩
  go_wp2_with fail
  refine (rowsIn_is 0 3 2 ⟨#[32, 32, 97]⟩ 1 _ (by decide) (by decide +kernel) (by decide +kernel) (by decide +kernel)).mono ?_
  rintro e w1 ⟨rfl, rfl⟩
  go_wp2_with fail
  refine (Col_is 2 3 ⟨#[97, 10, 98, 99]⟩ 3 _ (by decide) (by decide +kernel) (by decide +kernel)).mono ?_
  rintro e w1 ⟨rfl, rfl⟩
  go_wp2_with fail
  refine (rowsKind_is 3 0 5 0 ⟨#[45, 45, 45, 32, 97]⟩ 2 _ (by decide) (by decide +kernel) (by decide +kernel) (by decide +kernel) (by decide +kernel)).mono ?_
  rintro e w1 ⟨rfl, rfl⟩
  go_wp2_with fail
  refine (rowsKind_is 2 0 4 1 ⟨#[32, 35, 32, 98]⟩ 0 _ (by decide) (by decide +kernel) (by decide +kernel) (by decide +kernel) (by decide +kernel)).mono ?_
  rintro e w1 ⟨rfl, rfl⟩
  go_wp2_with fail
  refine (rowsAbove_is 2 5 1 ⟨#[97, 10, 10, 10, 32, 98]⟩ 5 _ (by decide) (by decide +kernel) (by decide +kernel)).mono ?_
  rintro e w1 ⟨rfl, rfl⟩
  go_wp2
  go_ret
  exact ⟨rfl, Below.refl _ _⟩

set_option maxHeartbeats 1600000 in
theorem RowsTells_walk (s : ByteArray) (at' : Int) (w : World) :
    Calls Try.prog 3 #[.string s, .int .i64 at'] w fun e w' => e = .returned (.bool true) ∧ Below w.heap.size w w' := by
  by_cases hl : 120 < s.size
  · go_enter Try.func3, Try.ntmps3
    go_wp2_with fail
    refine (awake7_any _).mono ?_
    rintro e w1 ⟨rfl, b1⟩
    go_wp2
    go_ret
    exact ⟨rfl, b1⟩
  · go_enter Try.func3, Try.ntmps3
    go_wp2
    go_loop [5] (fun v => ∃ p : Int, v = .int .i64 p ∧ -1 ≤ p ∧ p ≤ (s.size : Int) + 2) (fun v => ((s.size : Int) + 2 - intOf v).toNat)
    case atStart => exact ⟨-1, rfl, by omega, by omega⟩
    case round =>
      obtain ⟨p, rfl, hp1, hp2⟩ := hrel
      by_cases hpl : p ≤ (s.size : Int) + 1
      · obtain ⟨q, hq⟩ : ∃ q : Int, (p < 0 ∧ q = at') ∨ (0 ≤ p ∧ q = p) := by
          by_cases h : p < 0
          · exact ⟨_, .inl ⟨h, rfl⟩⟩
          · exact ⟨_, .inr ⟨by omega, rfl⟩⟩
        have hs : s.size ≤ 1099511627776 := by omega
        obtain ⟨c, hc⟩ : ∃ c, clampN q s.size = c := ⟨_, rfl⟩
        obtain ⟨a, hB⟩ := RowB.ex s (clampN q s.size)
        obtain ⟨b, hE⟩ := RowE.ex s (clampN q s.size) (clampN_le _ _)
        have hab : a ≤ b := Nat.le_trans hB.1 hE.1
        obtain ⟨n, hN⟩ := InN.ex s a b hab
        obtain ⟨f, hF⟩ := FirN.ex s a b hab
        obtain ⟨x, hx⟩ : ∃ x, kindN s a b f = x := ⟨_, rfl⟩
        obtain ⟨k, m, hA⟩ := Abv.ex s c
        have C1 := Row_is a b s q w hs hB hE
        have C2 := refRow_is a b s q w hs hB hE
        have C3 := rowsIn_is a b n s q w hs hB hE hN
        have C4 := refIn_is a b n s q w hs hB hE hN
        have C5 := Col_is a c s q w hs hc (by rw [← hc]; exact hB)
        have C6 := refCol_is a c s q w hs hc (by rw [← hc]; exact hB)
        have C7 := rowsKind_is x a b f s q w hs hB hE hF hx
        have C8 := refKind_is x a b f s q w hs hB hE hF hx
        have C9 := rowsAbove_is m c k s q w hs hc hA
        have C10 := refAbove_is m c k s q w hs hc hA
        obtain ⟨y, hy⟩ : ∃ y, (c : Int) - (a : Int) = y := ⟨_, rfl⟩
        rw [hy] at C5 C6
        clear hB hE hN hF hx hA hc hy hab
        rcases hq with ⟨hq, rfl⟩ | ⟨hq, rfl⟩
        all_goals
          go_wp2_with fail
          refine C1.mono ?_
          rintro e w1 ⟨rfl, rfl⟩
          go_wp2_with fail
          refine C2.mono ?_
          rintro e w1 ⟨rfl, rfl⟩
          go_wp2_with fail
          refine C3.mono ?_
          rintro e w1 ⟨rfl, rfl⟩
          go_wp2_with fail
          refine C4.mono ?_
          rintro e w1 ⟨rfl, rfl⟩
          go_wp2_with fail
          refine C5.mono ?_
          rintro e w1 ⟨rfl, rfl⟩
          go_wp2_with fail
          refine C6.mono ?_
          rintro e w1 ⟨rfl, rfl⟩
          go_wp2_with fail
          refine C7.mono ?_
          rintro e w1 ⟨rfl, rfl⟩
          go_wp2_with fail
          refine C8.mono ?_
          rintro e w1 ⟨rfl, rfl⟩
          go_wp2_with fail
          refine C9.mono ?_
          rintro e w1 ⟨rfl, rfl⟩
          go_wp2_with fail
          refine C10.mono ?_
          rintro e w1 ⟨rfl, rfl⟩
          go_wp2
          go_round
          case rel => exact ⟨_, by go_num, by omega, by omega⟩
          case measure => simp [intOf]; omega
      · go_wp2_with fail
        refine (awake7_any _).mono ?_
        rintro e w1 ⟨rfl, b1⟩
        go_wp2
        go_ret
        exact ⟨rfl, b1⟩

set_option maxRecDepth 100000 in
set_option maxHeartbeats 1600000 in
theorem RowsParts_walk (s : ByteArray) (w : World) :
    Calls Try.prog 4 #[.string s] w fun e w' => e = .returned (.bool true) ∧ Below w.heap.size w w' := by
  by_cases hl : 120 < s.size
  · go_enter Try.func4, Try.ntmps4
    go_wp2_with fail
    refine (awake7_any _).mono ?_
    rintro e w1 ⟨rfl, b1⟩
    go_wp2
    go_ret
    exact ⟨rfl, b1⟩
  · have hs : s.size ≤ 1099511627776 := by omega
    go_enter Try.func4, Try.ntmps4
    go_wp2
    go_loop [3] (fun v => ∃ a : Nat, v = .int .i64 (a : Int) ∧ a ≤ s.size ∧ Hid (a = 0 ∨ byt s (a - 1) = 10)) (fun v => s.size + 1 - (intOf v).toNat)
    case atStart => exact ⟨0, rfl, Nat.zero_le _, .inl rfl⟩
    case round =>
      obtain ⟨a, rfl, ha, HS⟩ := hrel
      obtain ⟨b, hE⟩ := RowE.ex s a ha
      have hB : RowB s a a := ⟨Nat.le_refl _, fun j h1 h2 => by omega, HS.out⟩
      have hab := hE.1
      have hbs := hE.2.1
      have C1 := Row_is a b s (a : Int) w hs (by rw [clampN_in _ _ ha]; exact hB) (by rw [clampN_in _ _ ha]; exact hE)
      have C2 : Hid (∀ p : Nat, a ≤ p → p ≤ b → ∀ W, Calls Try.prog 8 #[.string s, .int .i64 (p : Int)] W fun e w' => e = .returned (.tuple #[.int .i64 (a : Int), .int .i64 (b : Int)]) ∧ W = w') := fun p h1 h2 W =>
        Row_is a b s (p : Int) W hs (by rw [clampN_in _ _ (by omega)]; exact hB.within hE h1 h2) (by rw [clampN_in _ _ (by omega)]; exact hE.within hB h1 h2)
      have C3 : Hid (∀ p : Nat, a ≤ p → p ≤ b → ∀ W, Calls Try.prog 12 #[.string s, .int .i64 (p : Int)] W fun e w' => e = .returned (.int .i64 ((p : Int) - (a : Int))) ∧ W = w') := fun p h1 h2 W =>
        Col_is a p s (p : Int) W hs (clampN_in _ _ (by omega)) (hB.within hE h1 h2)
      have hd1 : decide (b < a) = false := by simp; omega
      have hd2 : decide (s.size < b) = false := by simp; omega
      have HE := Lib.hid hE
      have CA := Lib.hid (awake7_any w)
      clear hE hB HS
      by_cases hbl : b < s.size
      · have hb := HE.out.2.2.2.resolve_left (by omega)
        have hix := run_byt s b hbl _ rfl
        rw [hb] at hix
        have HN : Hid (b + 1 = 0 ∨ byt s (b + 1 - 1) = 10) := .inr hb
        clear hb
        go_wp2_with fail
        refine C1.mono ?_
        rintro e w1 ⟨rfl, rfl⟩
        go_wp2
        go_loopw [6] (fun v wr => ∃ p : Nat, v = .int .i64 (p : Int) ∧ a ≤ p ∧ p ≤ b + 1 ∧ wr = w) (fun v _ => b + 1 - (intOf v).toNat)
        case atStart => exact ⟨a, rfl, Nat.le_refl _, by omega, rfl⟩
        case round =>
          obtain ⟨p, rfl, hp1, hp2, rfl⟩ := hrel
          by_cases hpb : p ≤ b
          · by_cases hpl : p < b
            · have hix2 := run_byt s p (by omega) _ rfl
              have hne := HE.out.2.2.1 p hpl hp1
              obtain ⟨x, hx⟩ : ∃ x, x = byt s p := ⟨_, rfl⟩
              rw [← hx] at hix2 hne
              have hxb : ((x : Int) == 10) = false := by simp; omega
              clear hx hne hix
              go_wp2_with fail
              refine (C2.out p hp1 hpb _).mono ?_
              rintro e w1 ⟨rfl, rfl⟩
              go_wp2_with fail
              refine (C3.out p hp1 hpb _).mono ?_
              rintro e w1 ⟨rfl, rfl⟩
              go_wp2
              go_roundw
              case rel => exact ⟨p + 1, by go_num, by omega, by omega, trivial⟩
              case measure => simp [intOf]; omega
            · go_wp2_with fail
              refine (C2.out p hp1 hpb _).mono ?_
              rintro e w1 ⟨rfl, rfl⟩
              go_wp2_with fail
              refine (C3.out p hp1 hpb _).mono ?_
              rintro e w1 ⟨rfl, rfl⟩
              go_wp2
              go_roundw
              case rel => exact ⟨p + 1, by go_num, by omega, by omega, trivial⟩
              case measure => simp [intOf]; omega
          · have hbe : ((b : Int) == (s.size : Int)) = false := by simp; omega
            clear hix C1 C2 C3 CA HE hd1 hd2
            go_wp2
            go_round
            case rel => exact ⟨b + 1, by go_num, by omega, HN⟩
            case measure => simp [intOf]; omega
      · go_wp2_with fail
        refine C1.mono ?_
        rintro e w1 ⟨rfl, rfl⟩
        go_wp2
        go_loopw [6] (fun v wr => ∃ p : Nat, v = .int .i64 (p : Int) ∧ a ≤ p ∧ p ≤ b + 1 ∧ wr = w) (fun v _ => b + 1 - (intOf v).toNat)
        case atStart => exact ⟨a, rfl, Nat.le_refl _, by omega, rfl⟩
        case round =>
          obtain ⟨p, rfl, hp1, hp2, rfl⟩ := hrel
          by_cases hpb : p ≤ b
          · by_cases hpl : p < b
            · have hix2 := run_byt s p (by omega) _ rfl
              have hne := HE.out.2.2.1 p hpl hp1
              obtain ⟨x, hx⟩ : ∃ x, x = byt s p := ⟨_, rfl⟩
              rw [← hx] at hix2 hne
              have hxb : ((x : Int) == 10) = false := by simp; omega
              clear hx hne
              go_wp2_with fail
              refine (C2.out p hp1 hpb _).mono ?_
              rintro e w1 ⟨rfl, rfl⟩
              go_wp2_with fail
              refine (C3.out p hp1 hpb _).mono ?_
              rintro e w1 ⟨rfl, rfl⟩
              go_wp2
              go_roundw
              case rel => exact ⟨p + 1, by go_num, by omega, by omega, trivial⟩
              case measure => simp [intOf]; omega
            · go_wp2_with fail
              refine (C2.out p hp1 hpb _).mono ?_
              rintro e w1 ⟨rfl, rfl⟩
              go_wp2_with fail
              refine (C3.out p hp1 hpb _).mono ?_
              rintro e w1 ⟨rfl, rfl⟩
              go_wp2
              go_roundw
              case rel => exact ⟨p + 1, by go_num, by omega, by omega, trivial⟩
              case measure => simp [intOf]; omega
          · go_wp2_with fail
            refine CA.out.mono ?_
            rintro e w1 ⟨rfl, b1⟩
            go_wp2
            go_ret
            exact ⟨rfl, b1⟩

end Go.Proofs.Ytlblamabkjpnaaa
