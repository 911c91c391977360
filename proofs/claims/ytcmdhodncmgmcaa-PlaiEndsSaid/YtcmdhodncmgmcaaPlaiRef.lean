/- The document's answer on plain scalars: where one may begin, where a part ends. Conditions: those that each theorem writes out (lengths that memory can hold). -/
import Derived.Test.YtcmdhodncmgmcaaPlaiP
import Derived.Test.YtcmdhodncmgmcaaLinRefK
import Derived.Test.YtcmdhodncmgmcaaFoldRef
namespace Go.Proofs.Ytcmdhodncmgmcaa
open Go.RowKit

set_option maxRecDepth 100000 in
set_option maxHeartbeats 800000 in
theorem refBegins_is (q : Bool) (s : ByteArray) (at' : Int) (fl : Bool) (w : World) (hs : s.size ≤ 1099511627776) (h : begB s at' fl = q) :
    Calls Try.prog 19 #[.string s, .int .i64 at', .bool fl] w fun e w' => e = .returned (.bool q) ∧ w = w' := by
  unfold begB at h
  cases he : endsB s at' with
  | true =>
    rw [he] at h
    have hq : q = false := by rw [← h]; rfl
    subst hq
    have HE := Lib.hid he
    clear h he
    by_cases h0 : at' < 0
    · go_enter Try.func19, Try.ntmps19
      go_wp2
      go_ret
      exact ⟨rfl, rfl⟩
    · go_enter Try.func19, Try.ntmps19
      go_wp2_with fail
      refine (refEnds_is true s at' _ hs HE.out).mono ?_
      rintro e w' ⟨rfl, rfl⟩
      go_wp2
      go_ret
      exact ⟨rfl, rfl⟩
  | false =>
    obtain ⟨k, rfl, hk⟩ : ∃ k : Nat, at' = (k : Int) ∧ k < s.size := by
      have : ¬ (at' < 0 ∨ (s.size : Int) ≤ at') := fun hn => by rw [endsB_out s at' hn] at he; cases he
      exact ⟨at'.toNat, by omega, by omega⟩
    rw [he, Int.toNat_natCast] at h
    have hi := run_byt s k hk (k : Int) rfl
    obtain ⟨x, hx⟩ : ∃ x, byt s k = x := ⟨_, rfl⟩
    rw [hx] at h hi
    have HE := Lib.hid he
    clear he hx
    cases hd : U.indic (x : Int) with
    | false =>
      rw [hd] at h
      have hq : q = true := by rw [← h]; rfl
      subst hq
      have HD := Lib.hid hd
      clear h hd
      go_enter Try.func19, Try.ntmps19
      go_wp2_with fail
      refine (refEnds_is false s (k : Int) _ hs HE.out).mono ?_
      rintro e w' ⟨rfl, rfl⟩
      go_wp2_with fail
      refine (refIndicator_is false _ _ HD.out).mono ?_
      rintro e w' ⟨rfl, rfl⟩
      go_wp2
      go_ret
      exact ⟨rfl, rfl⟩
    | true =>
      rw [hd] at h
      have HD := Lib.hid hd
      clear hd
      by_cases hx3 : x = 45 ∨ x = 63 ∨ x = 58
      · rw [decide_eq_true hx3] at h
        replace h : (!(endsB s ((k : Int) + 1)) && !(fl && U.flow (byt s (k + 1) : Int))) = q := h
        cases he2 : endsB s ((k : Int) + 1) with
        | true =>
          rw [he2] at h
          have hq : q = false := by rw [← h]; rfl
          subst hq
          have HE2 := Lib.hid he2
          clear h he2
          rcases hx3 with rfl | rfl | rfl
          all_goals
            go_enter Try.func19, Try.ntmps19
            go_wp2_with fail
            refine (refEnds_is false s (k : Int) _ hs HE.out).mono ?_
            rintro e w' ⟨rfl, rfl⟩
            go_wp2_with fail
            refine (refIndicator_is true _ _ HD.out).mono ?_
            rintro e w' ⟨rfl, rfl⟩
            go_wp2_with fail
            refine (refEnds_is true s ((k : Int) + 1) _ hs HE2.out).mono ?_
            rintro e w' ⟨rfl, rfl⟩
            go_wp2
            go_ret
            exact ⟨rfl, rfl⟩
        | false =>
          rw [he2] at h
          have hk1 : k + 1 < s.size := by
            refine Decidable.byContradiction fun hn => ?_
            rw [endsB_out s ((k : Int) + 1) (.inr (by omega))] at he2
            cases he2
          have HE2 := Lib.hid he2
          clear he2
          cases fl with
          | false =>
            have hq : q = true := by rw [← h]; rfl
            subst hq
            clear h
            rcases hx3 with rfl | rfl | rfl
            all_goals
              go_enter Try.func19, Try.ntmps19
              go_wp2_with fail
              refine (refEnds_is false s (k : Int) _ hs HE.out).mono ?_
              rintro e w' ⟨rfl, rfl⟩
              go_wp2_with fail
              refine (refIndicator_is true _ _ HD.out).mono ?_
              rintro e w' ⟨rfl, rfl⟩
              go_wp2_with fail
              refine (refEnds_is false s ((k : Int) + 1) _ hs HE2.out).mono ?_
              rintro e w' ⟨rfl, rfl⟩
              go_wp2
              go_ret
              exact ⟨rfl, rfl⟩
          | true =>
            have hi2 := run_byt s (k + 1) hk1 ((k : Int) + 1) (by omega)
            obtain ⟨y, hy⟩ : ∃ y, byt s (k + 1) = y := ⟨_, rfl⟩
            rw [hy] at h hi2
            obtain ⟨z, hz⟩ : ∃ z, U.flow (y : Int) = z := ⟨_, rfl⟩
            rw [hz] at h
            have hq : q = !z := by rw [← h]; cases z <;> rfl
            subst hq
            have HZ := Lib.hid hz
            clear h hy hz
            rcases hx3 with rfl | rfl | rfl
            all_goals
              go_enter Try.func19, Try.ntmps19
              go_wp2_with fail
              refine (refEnds_is false s (k : Int) _ hs HE.out).mono ?_
              rintro e w' ⟨rfl, rfl⟩
              go_wp2_with fail
              refine (refIndicator_is true _ _ HD.out).mono ?_
              rintro e w' ⟨rfl, rfl⟩
              go_wp2_with fail
              refine (refEnds_is false s ((k : Int) + 1) _ hs HE2.out).mono ?_
              rintro e w' ⟨rfl, rfl⟩
              go_wp2_with fail
              refine (refFlow_is z _ _ HZ.out).mono ?_
              rintro e w' ⟨rfl, rfl⟩
              go_wp2
              go_ret
              exact ⟨rfl, rfl⟩
      · rw [decide_eq_false hx3] at h
        have hq : q = false := by rw [← h]; rfl
        subst hq
        have a1 : ((x : Int) == 45) = false := by simp; omega
        have a2 : ((x : Int) == 63) = false := by simp; omega
        have a3 : ((x : Int) == 58) = false := by simp; omega
        have b1 : ((x : Int) != 45) = true := by simp; omega
        have b2 : ((x : Int) != 63) = true := by simp; omega
        have b3 : ((x : Int) != 58) = true := by simp; omega
        clear h hx3
        go_enter Try.func19, Try.ntmps19
        go_wp2_with fail
        refine (refEnds_is false s (k : Int) _ hs HE.out).mono ?_
        rintro e w' ⟨rfl, rfl⟩
        go_wp2_with fail
        refine (refIndicator_is true _ _ HD.out).mono ?_
        rintro e w' ⟨rfl, rfl⟩
        go_wp2
        go_ret
        exact ⟨rfl, rfl⟩

set_option maxRecDepth 100000 in
set_option maxHeartbeats 3200000 in
theorem refPart_t (e : Nat) (s : ByteArray) (a : Nat) (w : World) (hs : s.size ≤ 1099511627776) (ha : a < s.size) (h : ParN s true a e) :
    Calls Try.prog 20 #[.string s, .int .i64 (a : Int), .bool true] w fun e' w' => e' = .returned (.int .i64 (e : Int)) ∧ w = w' := by
  obtain ⟨p, hP, hK⟩ := h
  have hp1 := hP.1
  have hp2 := hP.2.1
  have he1 := hK.1
  have he2 := hK.2.1
  have HP := Lib.hid hP
  have HK := Lib.hid hK
  have d1 : decide (s.size ≤ a) = false := decide_eq_false (by omega)
  have d2 : decide ((a : Int) < 0) = false := decide_eq_false (by omega)
  clear hP hK
  go_enter Try.func20, Try.ntmps20
  go_wp2
  go_loop [7] (fun v => ∃ k : Nat, v = .int .i64 (k : Int) ∧ a ≤ k ∧ k ≤ p) (fun v => p - (intOf v).toNat)
  case atStart => exact ⟨a, rfl, Nat.le_refl _, hp1⟩
  case round =>
    obtain ⟨k, rfl, hk1, hk2⟩ := hrel
    by_cases hks : k < s.size
    · have hi := run_byt s k hks (k : Int) rfl
      obtain ⟨x, hx⟩ : ∃ x, byt s k = x := ⟨_, rfl⟩
      rw [hx] at hi
      by_cases hx10 : x = 10
      · have hkp : p = k := by
          refine Decidable.byContradiction fun hn => ?_
          have h3 := HP.out.2.2.1 k (by omega) hk1
          unfold stopB at h3
          rw [hx, decide_eq_true hx10] at h3
          cases h3
        subst hkp
        clear hx
        subst hx10
        go_wp2
        go_loop [7] (fun v => ∃ k : Nat, v = .int .i64 (k : Int) ∧ e ≤ k ∧ k ≤ p) (fun v => (intOf v).toNat - e)
        case atStart => exact ⟨p, rfl, he2, Nat.le_refl _⟩
        case round =>
          obtain ⟨k, rfl, hk1, hk2⟩ := hrel
          by_cases hka : a < k
          · have hi := run_byt s (k - 1) (by omega) ((k : Int) - 1) (by omega)
            obtain ⟨y, hy⟩ : ∃ y, byt s (k - 1) = y := ⟨_, rfl⟩
            rw [hy] at hi
            by_cases hke : k = e
            · have hw : U.white (y : Int) = false := by rw [← hy, hke]; exact HK.out.2.2.2.resolve_left (by omega)
              have HW := Lib.hid hw
              have HKE := Lib.hid hke
              clear hy hw hke
              go_wp2_with fail
              refine (refWhite_is false _ _ HW.out).mono ?_
              rintro e1 w1 ⟨rfl, rfl⟩
              go_wp2
              go_ret
              exact ⟨by show Ending.returned (.int .i64 (k : Int)) = _; rw [HKE.out], rfl⟩
            · have hw : U.white (y : Int) = true := by rw [← hy]; exact HK.out.2.2.1 (k - 1) (by omega) (by omega)
              have HW := Lib.hid hw
              clear hy hw
              go_wp2_with fail
              refine (refWhite_is true _ _ HW.out).mono ?_
              rintro e1 w1 ⟨rfl, rfl⟩
              go_wp2
              go_round
              case rel => exact ⟨k - 1, by go_num, by omega, by omega⟩
              case measure => simp [intOf]; omega
          · obtain rfl : k = e := by omega
            go_wp2
            go_ret
            exact ⟨rfl, rfl⟩
      have a10 : ((x : Int) == 10) = false := by simp; omega
      have b10 : ((x : Int) != 10) = true := by simp; omega
      have hg : 0 < k → ∃ y, byt s (k - 1) = y ∧ ∀ W, (Instr.index 9 (.string s) (.int .i64 ((k : Int) - 1))).run Try.prog W = .ok (.int .u8 (y : Int)) W := fun h0 => ⟨_, rfl, run_byt s (k - 1) (by omega) ((k : Int) - 1) (by omega)⟩
      have hn : endsB s ((k : Int) + 1) = false → ∃ y, byt s (k + 1) = y ∧ ∀ W, (Instr.index 9 (.string s) (.int .i64 ((k : Int) + 1))).run Try.prog W = .ok (.int .u8 (y : Int)) W := fun h0 => by
        have hk1 : k + 1 < s.size := by
          refine Decidable.byContradiction fun hn => ?_
          rw [endsB_out s ((k : Int) + 1) (.inr (by omega))] at h0
          cases h0
        exact ⟨_, rfl, run_byt s (k + 1) hk1 ((k : Int) + 1) (by omega)⟩
      by_cases hkp : k < p
      · have hst := HP.out.2.2.1 k hkp hk1
        unfold stopB at hst
        rw [hx, decide_eq_false hx10, Bool.false_or, Bool.or_eq_false_iff, Bool.or_eq_false_iff] at hst
        obtain ⟨st1, st2, st3⟩ := hst
        clear hx hx10
        by_cases hx35 : x = 35
        · subst hx35
          have F35 := Lib.hid (show U.flow ((35 : Nat) : Int) = false by decide)
          rw [decide_eq_true rfl, Bool.true_and] at st1
          clear st2 st3 hn
          by_cases hk0 : 0 < k
          · obtain ⟨y, hy, hj⟩ := hg hk0
            rw [decide_eq_true hk0, Bool.true_and, hy] at st1
            have HW := Lib.hid st1
            clear st1 hy hg
            go_wp2_with fail
            refine (refWhite_is false _ _ HW.out).mono ?_
            rintro e1 w1 ⟨rfl, rfl⟩
            go_wp2_with fail
            refine (refFlow_is false _ _ F35.out).mono ?_
            rintro e1 w1 ⟨rfl, rfl⟩
            go_wp2
            go_round
            case rel => exact ⟨k + 1, by go_num, by omega, by omega⟩
            case measure => simp [intOf]; omega
          · have d3 : decide (0 < k) = false := decide_eq_false hk0
            have d4 : decide ((0 : Int) < (k : Int)) = false := decide_eq_false (by omega)
            clear st1 hg
            go_wp2_with fail
            refine (refFlow_is false _ _ F35.out).mono ?_
            rintro e1 w1 ⟨rfl, rfl⟩
            go_wp2
            go_round
            case rel => exact ⟨k + 1, by go_num, by omega, by omega⟩
            case measure => simp [intOf]; omega
        have a35 : ((x : Int) == 35) = false := by simp; omega
        clear st1 hg
        by_cases hx58 : x = 58
        · subst hx58
          have F58 := Lib.hid (show U.flow ((58 : Nat) : Int) = false by decide)
          rw [decide_eq_true rfl, Bool.true_and, Bool.or_eq_false_iff] at st3
          obtain ⟨st3, st4⟩ := st3
          obtain ⟨y, hy, hj⟩ := hn st3
          rw [hy] at st4
          have HE := Lib.hid st3
          clear st2 st3 hn hy
          have HF := Lib.hid (show U.flow (y : Int) = false from st4)
          clear st4
          go_wp2_with fail
          refine (refFlow_is false _ _ F58.out).mono ?_
          rintro e1 w1 ⟨rfl, rfl⟩
          go_wp2_with fail
          refine (refEnds_is false s ((k : Int) + 1) _ hs HE.out).mono ?_
          rintro e1 w1 ⟨rfl, rfl⟩
          go_wp2_with fail
          refine (refFlow_is false _ _ HF.out).mono ?_
          rintro e1 w1 ⟨rfl, rfl⟩
          go_wp2
          go_round
          case rel => exact ⟨k + 1, by go_num, by omega, by omega⟩
          case measure => simp [intOf]; omega
        have a58 : ((x : Int) == 58) = false := by simp; omega
        clear st3 hn
        have HF := Lib.hid (show U.flow (x : Int) = false from st2)
        clear st2
        go_wp2_with fail
        refine (refFlow_is false _ _ HF.out).mono ?_
        rintro e1 w1 ⟨rfl, rfl⟩
        go_wp2
        go_round
        case rel => exact ⟨k + 1, by go_num, by omega, by omega⟩
        case measure => simp [intOf]; omega
      obtain rfl : p = k := by omega
      have hst := HP.out.2.2.2.resolve_left (by omega)
      unfold stopB at hst
      rw [hx, decide_eq_false hx10, Bool.false_or, Bool.or_eq_true, Bool.or_eq_true] at hst
      clear hx hx10
      by_cases hx35 : x = 35
      · subst hx35
        have st1 : (decide (0 < p) && U.white (byt s (p - 1) : Int)) = true := by
          rcases hst with h | h | h
          · rw [decide_eq_true (rfl : (35 : Nat) = 35), Bool.true_and] at h; exact h
          · rw [show U.flow ((35 : Nat) : Int) = false by decide, Bool.and_false] at h; cases h
          · rw [decide_eq_false (by omega), Bool.false_and] at h; cases h
        rw [Bool.and_eq_true, decide_eq_true_eq] at st1
        obtain ⟨hk0, st1⟩ := st1
        obtain ⟨y, hy, hj⟩ := hg hk0
        rw [hy] at st1
        have HW := Lib.hid st1
        clear st1 hy hg hn hst
        go_wp2_with fail
        refine (refWhite_is true _ _ HW.out).mono ?_
        rintro e1 w1 ⟨rfl, rfl⟩
        go_wp2
        go_loop [7] (fun v => ∃ k : Nat, v = .int .i64 (k : Int) ∧ e ≤ k ∧ k ≤ p) (fun v => (intOf v).toNat - e)
        case atStart => exact ⟨p, rfl, he2, Nat.le_refl _⟩
        case round =>
          obtain ⟨k, rfl, hk1, hk2⟩ := hrel
          by_cases hka : a < k
          · have hi := run_byt s (k - 1) (by omega) ((k : Int) - 1) (by omega)
            obtain ⟨y, hy⟩ : ∃ y, byt s (k - 1) = y := ⟨_, rfl⟩
            rw [hy] at hi
            by_cases hke : k = e
            · have hw : U.white (y : Int) = false := by rw [← hy, hke]; exact HK.out.2.2.2.resolve_left (by omega)
              have HW := Lib.hid hw
              have HKE := Lib.hid hke
              clear hy hw hke
              go_wp2_with fail
              refine (refWhite_is false _ _ HW.out).mono ?_
              rintro e1 w1 ⟨rfl, rfl⟩
              go_wp2
              go_ret
              exact ⟨by show Ending.returned (.int .i64 (k : Int)) = _; rw [HKE.out], rfl⟩
            · have hw : U.white (y : Int) = true := by rw [← hy]; exact HK.out.2.2.1 (k - 1) (by omega) (by omega)
              have HW := Lib.hid hw
              clear hy hw
              go_wp2_with fail
              refine (refWhite_is true _ _ HW.out).mono ?_
              rintro e1 w1 ⟨rfl, rfl⟩
              go_wp2
              go_round
              case rel => exact ⟨k - 1, by go_num, by omega, by omega⟩
              case measure => simp [intOf]; omega
          · obtain rfl : k = e := by omega
            go_wp2
            go_ret
            exact ⟨rfl, rfl⟩
      have a35 : ((x : Int) == 35) = false := by simp; omega
      rw [decide_eq_false hx35, Bool.false_and] at hst
      replace hst := hst.resolve_left Bool.false_ne_true
      clear hg
      by_cases hx58 : x = 58
      · subst hx58
        have F58 := Lib.hid (show U.flow ((58 : Nat) : Int) = false by decide)
        rw [F58.out, Bool.and_false] at hst
        replace hst := hst.resolve_left Bool.false_ne_true
        rw [decide_eq_true (rfl : (58 : Nat) = 58), Bool.true_and] at hst
        cases he : endsB s ((p : Int) + 1) with
        | true =>
          have HE := Lib.hid he
          clear hst hn he
          go_wp2_with fail
          refine (refFlow_is false _ _ F58.out).mono ?_
          rintro e1 w1 ⟨rfl, rfl⟩
          go_wp2_with fail
          refine (refEnds_is true s ((p : Int) + 1) _ hs HE.out).mono ?_
          rintro e1 w1 ⟨rfl, rfl⟩
          go_wp2
          go_loop [7] (fun v => ∃ k : Nat, v = .int .i64 (k : Int) ∧ e ≤ k ∧ k ≤ p) (fun v => (intOf v).toNat - e)
          case atStart => exact ⟨p, rfl, he2, Nat.le_refl _⟩
          case round =>
            obtain ⟨k, rfl, hk1, hk2⟩ := hrel
            by_cases hka : a < k
            · have hi := run_byt s (k - 1) (by omega) ((k : Int) - 1) (by omega)
              obtain ⟨y, hy⟩ : ∃ y, byt s (k - 1) = y := ⟨_, rfl⟩
              rw [hy] at hi
              by_cases hke : k = e
              · have hw : U.white (y : Int) = false := by rw [← hy, hke]; exact HK.out.2.2.2.resolve_left (by omega)
                have HW := Lib.hid hw
                have HKE := Lib.hid hke
                clear hy hw hke
                go_wp2_with fail
                refine (refWhite_is false _ _ HW.out).mono ?_
                rintro e1 w1 ⟨rfl, rfl⟩
                go_wp2
                go_ret
                exact ⟨by show Ending.returned (.int .i64 (k : Int)) = _; rw [HKE.out], rfl⟩
              · have hw : U.white (y : Int) = true := by rw [← hy]; exact HK.out.2.2.1 (k - 1) (by omega) (by omega)
                have HW := Lib.hid hw
                clear hy hw
                go_wp2_with fail
                refine (refWhite_is true _ _ HW.out).mono ?_
                rintro e1 w1 ⟨rfl, rfl⟩
                go_wp2
                go_round
                case rel => exact ⟨k - 1, by go_num, by omega, by omega⟩
                case measure => simp [intOf]; omega
            · obtain rfl : k = e := by omega
              go_wp2
              go_ret
              exact ⟨rfl, rfl⟩
        | false =>
          rw [he, Bool.false_or, Bool.true_and] at hst
          obtain ⟨y, hy, hj⟩ := hn he
          rw [hy] at hst
          have HE := Lib.hid he
          have HF := Lib.hid hst
          clear hst hn hy he
          go_wp2_with fail
          refine (refFlow_is false _ _ F58.out).mono ?_
          rintro e1 w1 ⟨rfl, rfl⟩
          go_wp2_with fail
          refine (refEnds_is false s ((p : Int) + 1) _ hs HE.out).mono ?_
          rintro e1 w1 ⟨rfl, rfl⟩
          go_wp2_with fail
          refine (refFlow_is true _ _ HF.out).mono ?_
          rintro e1 w1 ⟨rfl, rfl⟩
          go_wp2
          go_loop [7] (fun v => ∃ k : Nat, v = .int .i64 (k : Int) ∧ e ≤ k ∧ k ≤ p) (fun v => (intOf v).toNat - e)
          case atStart => exact ⟨p, rfl, he2, Nat.le_refl _⟩
          case round =>
            obtain ⟨k, rfl, hk1, hk2⟩ := hrel
            by_cases hka : a < k
            · have hi := run_byt s (k - 1) (by omega) ((k : Int) - 1) (by omega)
              obtain ⟨y, hy⟩ : ∃ y, byt s (k - 1) = y := ⟨_, rfl⟩
              rw [hy] at hi
              by_cases hke : k = e
              · have hw : U.white (y : Int) = false := by rw [← hy, hke]; exact HK.out.2.2.2.resolve_left (by omega)
                have HW := Lib.hid hw
                have HKE := Lib.hid hke
                clear hy hw hke
                go_wp2_with fail
                refine (refWhite_is false _ _ HW.out).mono ?_
                rintro e1 w1 ⟨rfl, rfl⟩
                go_wp2
                go_ret
                exact ⟨by show Ending.returned (.int .i64 (k : Int)) = _; rw [HKE.out], rfl⟩
              · have hw : U.white (y : Int) = true := by rw [← hy]; exact HK.out.2.2.1 (k - 1) (by omega) (by omega)
                have HW := Lib.hid hw
                clear hy hw
                go_wp2_with fail
                refine (refWhite_is true _ _ HW.out).mono ?_
                rintro e1 w1 ⟨rfl, rfl⟩
                go_wp2
                go_round
                case rel => exact ⟨k - 1, by go_num, by omega, by omega⟩
                case measure => simp [intOf]; omega
            · obtain rfl : k = e := by omega
              go_wp2
              go_ret
              exact ⟨rfl, rfl⟩
      rw [decide_eq_false hx58, Bool.false_and] at hst
      replace hst := hst.resolve_right Bool.false_ne_true
      rw [Bool.true_and] at hst
      have HF := Lib.hid hst
      clear hst hn
      go_wp2_with fail
      refine (refFlow_is true _ _ HF.out).mono ?_
      rintro e1 w1 ⟨rfl, rfl⟩
      go_wp2
      go_loop [7] (fun v => ∃ k : Nat, v = .int .i64 (k : Int) ∧ e ≤ k ∧ k ≤ p) (fun v => (intOf v).toNat - e)
      case atStart => exact ⟨p, rfl, he2, Nat.le_refl _⟩
      case round =>
        obtain ⟨k, rfl, hk1, hk2⟩ := hrel
        by_cases hka : a < k
        · have hi := run_byt s (k - 1) (by omega) ((k : Int) - 1) (by omega)
          obtain ⟨y, hy⟩ : ∃ y, byt s (k - 1) = y := ⟨_, rfl⟩
          rw [hy] at hi
          by_cases hke : k = e
          · have hw : U.white (y : Int) = false := by rw [← hy, hke]; exact HK.out.2.2.2.resolve_left (by omega)
            have HW := Lib.hid hw
            have HKE := Lib.hid hke
            clear hy hw hke
            go_wp2_with fail
            refine (refWhite_is false _ _ HW.out).mono ?_
            rintro e1 w1 ⟨rfl, rfl⟩
            go_wp2
            go_ret
            exact ⟨by show Ending.returned (.int .i64 (k : Int)) = _; rw [HKE.out], rfl⟩
          · have hw : U.white (y : Int) = true := by rw [← hy]; exact HK.out.2.2.1 (k - 1) (by omega) (by omega)
            have HW := Lib.hid hw
            clear hy hw
            go_wp2_with fail
            refine (refWhite_is true _ _ HW.out).mono ?_
            rintro e1 w1 ⟨rfl, rfl⟩
            go_wp2
            go_round
            case rel => exact ⟨k - 1, by go_num, by omega, by omega⟩
            case measure => simp [intOf]; omega
        · obtain rfl : k = e := by omega
          go_wp2
          go_ret
          exact ⟨rfl, rfl⟩
    · obtain rfl : p = k := by omega
      go_wp2
      go_loop [7] (fun v => ∃ k : Nat, v = .int .i64 (k : Int) ∧ e ≤ k ∧ k ≤ p) (fun v => (intOf v).toNat - e)
      case atStart => exact ⟨p, rfl, he2, Nat.le_refl _⟩
      case round =>
        obtain ⟨k, rfl, hk1, hk2⟩ := hrel
        by_cases hka : a < k
        · have hi := run_byt s (k - 1) (by omega) ((k : Int) - 1) (by omega)
          obtain ⟨y, hy⟩ : ∃ y, byt s (k - 1) = y := ⟨_, rfl⟩
          rw [hy] at hi
          by_cases hke : k = e
          · have hw : U.white (y : Int) = false := by rw [← hy, hke]; exact HK.out.2.2.2.resolve_left (by omega)
            have HW := Lib.hid hw
            have HKE := Lib.hid hke
            clear hy hw hke
            go_wp2_with fail
            refine (refWhite_is false _ _ HW.out).mono ?_
            rintro e1 w1 ⟨rfl, rfl⟩
            go_wp2
            go_ret
            exact ⟨by show Ending.returned (.int .i64 (k : Int)) = _; rw [HKE.out], rfl⟩
          · have hw : U.white (y : Int) = true := by rw [← hy]; exact HK.out.2.2.1 (k - 1) (by omega) (by omega)
            have HW := Lib.hid hw
            clear hy hw
            go_wp2_with fail
            refine (refWhite_is true _ _ HW.out).mono ?_
            rintro e1 w1 ⟨rfl, rfl⟩
            go_wp2
            go_round
            case rel => exact ⟨k - 1, by go_num, by omega, by omega⟩
            case measure => simp [intOf]; omega
        · obtain rfl : k = e := by omega
          go_wp2
          go_ret
          exact ⟨rfl, rfl⟩
set_option maxRecDepth 100000 in
set_option maxHeartbeats 3200000 in
theorem refPart_f (e : Nat) (s : ByteArray) (a : Nat) (w : World) (hs : s.size ≤ 1099511627776) (ha : a < s.size) (h : ParN s false a e) :
    Calls Try.prog 20 #[.string s, .int .i64 (a : Int), .bool false] w fun e' w' => e' = .returned (.int .i64 (e : Int)) ∧ w = w' := by
  obtain ⟨p, hP, hK⟩ := h
  have hp1 := hP.1
  have hp2 := hP.2.1
  have he1 := hK.1
  have he2 := hK.2.1
  have HP := Lib.hid hP
  have HK := Lib.hid hK
  have d1 : decide (s.size ≤ a) = false := decide_eq_false (by omega)
  have d2 : decide ((a : Int) < 0) = false := decide_eq_false (by omega)
  clear hP hK
  go_enter Try.func20, Try.ntmps20
  go_wp2
  go_loop [7] (fun v => ∃ k : Nat, v = .int .i64 (k : Int) ∧ a ≤ k ∧ k ≤ p) (fun v => p - (intOf v).toNat)
  case atStart => exact ⟨a, rfl, Nat.le_refl _, hp1⟩
  case round =>
    obtain ⟨k, rfl, hk1, hk2⟩ := hrel
    by_cases hks : k < s.size
    · have hi := run_byt s k hks (k : Int) rfl
      obtain ⟨x, hx⟩ : ∃ x, byt s k = x := ⟨_, rfl⟩
      rw [hx] at hi
      by_cases hx10 : x = 10
      · have hkp : p = k := by
          refine Decidable.byContradiction fun hn => ?_
          have h3 := HP.out.2.2.1 k (by omega) hk1
          unfold stopB at h3
          rw [hx, decide_eq_true hx10] at h3
          cases h3
        subst hkp
        clear hx
        subst hx10
        go_wp2
        go_loop [7] (fun v => ∃ k : Nat, v = .int .i64 (k : Int) ∧ e ≤ k ∧ k ≤ p) (fun v => (intOf v).toNat - e)
        case atStart => exact ⟨p, rfl, he2, Nat.le_refl _⟩
        case round =>
          obtain ⟨k, rfl, hk1, hk2⟩ := hrel
          by_cases hka : a < k
          · have hi := run_byt s (k - 1) (by omega) ((k : Int) - 1) (by omega)
            obtain ⟨y, hy⟩ : ∃ y, byt s (k - 1) = y := ⟨_, rfl⟩
            rw [hy] at hi
            by_cases hke : k = e
            · have hw : U.white (y : Int) = false := by rw [← hy, hke]; exact HK.out.2.2.2.resolve_left (by omega)
              have HW := Lib.hid hw
              have HKE := Lib.hid hke
              clear hy hw hke
              go_wp2_with fail
              refine (refWhite_is false _ _ HW.out).mono ?_
              rintro e1 w1 ⟨rfl, rfl⟩
              go_wp2
              go_ret
              exact ⟨by show Ending.returned (.int .i64 (k : Int)) = _; rw [HKE.out], rfl⟩
            · have hw : U.white (y : Int) = true := by rw [← hy]; exact HK.out.2.2.1 (k - 1) (by omega) (by omega)
              have HW := Lib.hid hw
              clear hy hw
              go_wp2_with fail
              refine (refWhite_is true _ _ HW.out).mono ?_
              rintro e1 w1 ⟨rfl, rfl⟩
              go_wp2
              go_round
              case rel => exact ⟨k - 1, by go_num, by omega, by omega⟩
              case measure => simp [intOf]; omega
          · obtain rfl : k = e := by omega
            go_wp2
            go_ret
            exact ⟨rfl, rfl⟩
      have a10 : ((x : Int) == 10) = false := by simp; omega
      have b10 : ((x : Int) != 10) = true := by simp; omega
      have hg : 0 < k → ∃ y, byt s (k - 1) = y ∧ ∀ W, (Instr.index 9 (.string s) (.int .i64 ((k : Int) - 1))).run Try.prog W = .ok (.int .u8 (y : Int)) W := fun h0 => ⟨_, rfl, run_byt s (k - 1) (by omega) ((k : Int) - 1) (by omega)⟩
      have hn : endsB s ((k : Int) + 1) = false → ∃ y, byt s (k + 1) = y ∧ ∀ W, (Instr.index 9 (.string s) (.int .i64 ((k : Int) + 1))).run Try.prog W = .ok (.int .u8 (y : Int)) W := fun h0 => by
        have hk1 : k + 1 < s.size := by
          refine Decidable.byContradiction fun hn => ?_
          rw [endsB_out s ((k : Int) + 1) (.inr (by omega))] at h0
          cases h0
        exact ⟨_, rfl, run_byt s (k + 1) hk1 ((k : Int) + 1) (by omega)⟩
      by_cases hkp : k < p
      · have hst := HP.out.2.2.1 k hkp hk1
        unfold stopB at hst
        rw [hx, decide_eq_false hx10, Bool.false_or, Bool.or_eq_false_iff, Bool.or_eq_false_iff] at hst
        obtain ⟨st1, st2, st3⟩ := hst
        clear hx hx10
        by_cases hx35 : x = 35
        · subst hx35
          have F35 := Lib.hid (show U.flow ((35 : Nat) : Int) = false by decide)
          rw [decide_eq_true rfl, Bool.true_and] at st1
          clear st2 st3 hn
          by_cases hk0 : 0 < k
          · obtain ⟨y, hy, hj⟩ := hg hk0
            rw [decide_eq_true hk0, Bool.true_and, hy] at st1
            have HW := Lib.hid st1
            clear st1 hy hg
            go_wp2_with fail
            refine (refWhite_is false _ _ HW.out).mono ?_
            rintro e1 w1 ⟨rfl, rfl⟩
            go_wp2
            go_round
            case rel => exact ⟨k + 1, by go_num, by omega, by omega⟩
            case measure => simp [intOf]; omega
          · have d3 : decide (0 < k) = false := decide_eq_false hk0
            have d4 : decide ((0 : Int) < (k : Int)) = false := decide_eq_false (by omega)
            clear st1 hg
            go_wp2
            go_round
            case rel => exact ⟨k + 1, by go_num, by omega, by omega⟩
            case measure => simp [intOf]; omega
        have a35 : ((x : Int) == 35) = false := by simp; omega
        clear st1 hg
        by_cases hx58 : x = 58
        · subst hx58
          have F58 := Lib.hid (show U.flow ((58 : Nat) : Int) = false by decide)
          rw [decide_eq_true rfl, Bool.true_and, Bool.or_eq_false_iff] at st3
          obtain ⟨st3, st4⟩ := st3
          obtain ⟨y, hy, hj⟩ := hn st3
          rw [hy] at st4
          have HE := Lib.hid st3
          clear st2 st3 hn hy
          clear st4
          go_wp2_with fail
          refine (refEnds_is false s ((k : Int) + 1) _ hs HE.out).mono ?_
          rintro e1 w1 ⟨rfl, rfl⟩
          go_wp2
          go_round
          case rel => exact ⟨k + 1, by go_num, by omega, by omega⟩
          case measure => simp [intOf]; omega
        have a58 : ((x : Int) == 58) = false := by simp; omega
        clear st3 hn
        clear st2
        go_wp2
        go_round
        case rel => exact ⟨k + 1, by go_num, by omega, by omega⟩
        case measure => simp [intOf]; omega
      obtain rfl : p = k := by omega
      have hst := HP.out.2.2.2.resolve_left (by omega)
      unfold stopB at hst
      rw [hx, decide_eq_false hx10, Bool.false_or, Bool.or_eq_true, Bool.or_eq_true] at hst
      clear hx hx10
      by_cases hx35 : x = 35
      · subst hx35
        have st1 : (decide (0 < p) && U.white (byt s (p - 1) : Int)) = true := by
          rcases hst with h | h | h
          · rw [decide_eq_true (rfl : (35 : Nat) = 35), Bool.true_and] at h; exact h
          · rw [show U.flow ((35 : Nat) : Int) = false by decide, Bool.and_false] at h; cases h
          · rw [decide_eq_false (by omega), Bool.false_and] at h; cases h
        rw [Bool.and_eq_true, decide_eq_true_eq] at st1
        obtain ⟨hk0, st1⟩ := st1
        obtain ⟨y, hy, hj⟩ := hg hk0
        rw [hy] at st1
        have HW := Lib.hid st1
        clear st1 hy hg hn hst
        go_wp2_with fail
        refine (refWhite_is true _ _ HW.out).mono ?_
        rintro e1 w1 ⟨rfl, rfl⟩
        go_wp2
        go_loop [7] (fun v => ∃ k : Nat, v = .int .i64 (k : Int) ∧ e ≤ k ∧ k ≤ p) (fun v => (intOf v).toNat - e)
        case atStart => exact ⟨p, rfl, he2, Nat.le_refl _⟩
        case round =>
          obtain ⟨k, rfl, hk1, hk2⟩ := hrel
          by_cases hka : a < k
          · have hi := run_byt s (k - 1) (by omega) ((k : Int) - 1) (by omega)
            obtain ⟨y, hy⟩ : ∃ y, byt s (k - 1) = y := ⟨_, rfl⟩
            rw [hy] at hi
            by_cases hke : k = e
            · have hw : U.white (y : Int) = false := by rw [← hy, hke]; exact HK.out.2.2.2.resolve_left (by omega)
              have HW := Lib.hid hw
              have HKE := Lib.hid hke
              clear hy hw hke
              go_wp2_with fail
              refine (refWhite_is false _ _ HW.out).mono ?_
              rintro e1 w1 ⟨rfl, rfl⟩
              go_wp2
              go_ret
              exact ⟨by show Ending.returned (.int .i64 (k : Int)) = _; rw [HKE.out], rfl⟩
            · have hw : U.white (y : Int) = true := by rw [← hy]; exact HK.out.2.2.1 (k - 1) (by omega) (by omega)
              have HW := Lib.hid hw
              clear hy hw
              go_wp2_with fail
              refine (refWhite_is true _ _ HW.out).mono ?_
              rintro e1 w1 ⟨rfl, rfl⟩
              go_wp2
              go_round
              case rel => exact ⟨k - 1, by go_num, by omega, by omega⟩
              case measure => simp [intOf]; omega
          · obtain rfl : k = e := by omega
            go_wp2
            go_ret
            exact ⟨rfl, rfl⟩
      have a35 : ((x : Int) == 35) = false := by simp; omega
      rw [decide_eq_false hx35, Bool.false_and] at hst
      replace hst := hst.resolve_left Bool.false_ne_true
      clear hg
      by_cases hx58 : x = 58
      · subst hx58
        have F58 := Lib.hid (show U.flow ((58 : Nat) : Int) = false by decide)
        rw [F58.out, Bool.and_false] at hst
        replace hst := hst.resolve_left Bool.false_ne_true
        rw [decide_eq_true (rfl : (58 : Nat) = 58), Bool.true_and] at hst
        cases he : endsB s ((p : Int) + 1) with
        | true =>
          have HE := Lib.hid he
          clear hst hn he
          go_wp2_with fail
          refine (refEnds_is true s ((p : Int) + 1) _ hs HE.out).mono ?_
          rintro e1 w1 ⟨rfl, rfl⟩
          go_wp2
          go_loop [7] (fun v => ∃ k : Nat, v = .int .i64 (k : Int) ∧ e ≤ k ∧ k ≤ p) (fun v => (intOf v).toNat - e)
          case atStart => exact ⟨p, rfl, he2, Nat.le_refl _⟩
          case round =>
            obtain ⟨k, rfl, hk1, hk2⟩ := hrel
            by_cases hka : a < k
            · have hi := run_byt s (k - 1) (by omega) ((k : Int) - 1) (by omega)
              obtain ⟨y, hy⟩ : ∃ y, byt s (k - 1) = y := ⟨_, rfl⟩
              rw [hy] at hi
              by_cases hke : k = e
              · have hw : U.white (y : Int) = false := by rw [← hy, hke]; exact HK.out.2.2.2.resolve_left (by omega)
                have HW := Lib.hid hw
                have HKE := Lib.hid hke
                clear hy hw hke
                go_wp2_with fail
                refine (refWhite_is false _ _ HW.out).mono ?_
                rintro e1 w1 ⟨rfl, rfl⟩
                go_wp2
                go_ret
                exact ⟨by show Ending.returned (.int .i64 (k : Int)) = _; rw [HKE.out], rfl⟩
              · have hw : U.white (y : Int) = true := by rw [← hy]; exact HK.out.2.2.1 (k - 1) (by omega) (by omega)
                have HW := Lib.hid hw
                clear hy hw
                go_wp2_with fail
                refine (refWhite_is true _ _ HW.out).mono ?_
                rintro e1 w1 ⟨rfl, rfl⟩
                go_wp2
                go_round
                case rel => exact ⟨k - 1, by go_num, by omega, by omega⟩
                case measure => simp [intOf]; omega
            · obtain rfl : k = e := by omega
              go_wp2
              go_ret
              exact ⟨rfl, rfl⟩
        | false =>
          rw [he, Bool.false_or, Bool.false_and] at hst
          cases hst
      rw [decide_eq_false hx58, Bool.false_and] at hst
      replace hst := hst.resolve_right Bool.false_ne_true
      cases hst
    · obtain rfl : p = k := by omega
      go_wp2
      go_loop [7] (fun v => ∃ k : Nat, v = .int .i64 (k : Int) ∧ e ≤ k ∧ k ≤ p) (fun v => (intOf v).toNat - e)
      case atStart => exact ⟨p, rfl, he2, Nat.le_refl _⟩
      case round =>
        obtain ⟨k, rfl, hk1, hk2⟩ := hrel
        by_cases hka : a < k
        · have hi := run_byt s (k - 1) (by omega) ((k : Int) - 1) (by omega)
          obtain ⟨y, hy⟩ : ∃ y, byt s (k - 1) = y := ⟨_, rfl⟩
          rw [hy] at hi
          by_cases hke : k = e
          · have hw : U.white (y : Int) = false := by rw [← hy, hke]; exact HK.out.2.2.2.resolve_left (by omega)
            have HW := Lib.hid hw
            have HKE := Lib.hid hke
            clear hy hw hke
            go_wp2_with fail
            refine (refWhite_is false _ _ HW.out).mono ?_
            rintro e1 w1 ⟨rfl, rfl⟩
            go_wp2
            go_ret
            exact ⟨by show Ending.returned (.int .i64 (k : Int)) = _; rw [HKE.out], rfl⟩
          · have hw : U.white (y : Int) = true := by rw [← hy]; exact HK.out.2.2.1 (k - 1) (by omega) (by omega)
            have HW := Lib.hid hw
            clear hy hw
            go_wp2_with fail
            refine (refWhite_is true _ _ HW.out).mono ?_
            rintro e1 w1 ⟨rfl, rfl⟩
            go_wp2
            go_round
            case rel => exact ⟨k - 1, by go_num, by omega, by omega⟩
            case measure => simp [intOf]; omega
        · obtain rfl : k = e := by omega
          go_wp2
          go_ret
          exact ⟨rfl, rfl⟩
theorem refPart_is (e : Nat) (s : ByteArray) (a : Nat) (fl : Bool) (w : World) (hs : s.size ≤ 1099511627776) (ha : a < s.size) (h : ParN s fl a e) :
    Calls Try.prog 20 #[.string s, .int .i64 (a : Int), .bool fl] w fun e' w' => e' = .returned (.int .i64 (e : Int)) ∧ w = w' := by
  cases fl with
  | true => exact refPart_t e s a w hs ha h
  | false => exact refPart_f e s a w hs ha h
theorem refPart_out (s : ByteArray) (at' : Int) (fl : Bool) (w : World) (hs : s.size ≤ 1099511627776) (h : at' < 0 ∨ (s.size : Int) ≤ at') :
    Calls Try.prog 20 #[.string s, .int .i64 at', .bool fl] w fun e' w' => e' = .returned (.int .i64 at') ∧ w = w' := by
  rcases h with h | h
  · go_enter Try.func20, Try.ntmps20
    go_wp2
    go_ret
    exact ⟨rfl, rfl⟩
  · go_enter Try.func20, Try.ntmps20
    go_wp2
    go_ret
    exact ⟨rfl, rfl⟩

end Go.Proofs.Ytcmdhodncmgmcaa
