/- The statements on package quot: what every program answers that is one, and the walk of QuotWrong, over what quot.Read returns (QuotC). Conditions: what three of the library's variables hold (Env). -/
import Derived.Test.YthleebnfbdcobaaDoorQuotX
import Derived.Test.YthleebnfbdcobaaDoorEscaNum
namespace Go.Proofs.YthleebnfbdcobaaDoor
open Go.RowKit

/-- What quot.Read returns. -/
structure QuotC : Prop where
  read : ∀ (T : List UInt8) (E : Int) (O : Bool) (C : Int) (s : ByteArray) (at' n : Int) (w : World), s.size ≤ 100000 → Env w → QuoZ s at' n T E O C →
    Calls Tryd.prog 10 #[.string s, .int .i64 at', .int .i64 n] w fun e w' => e = .returned (.tuple #[.string ⟨T.toArray⟩, .int .i64 E, .bool O, .int .i64 C]) ∧ Below w.heap.size w w'

set_option maxRecDepth 100000 in
set_option maxHeartbeats 1600000 in
theorem awake12_true (K : QuotC) (w : World) (hE : Env w) :
    Calls Tryd.prog 5 #[] w fun e w' => e = .returned (.bool true) ∧ Below w.heap.size w w' := by
  go_enter Tryd.func5, Tryd.ntmps5
  go_wp2_with fail
  refine (K.read _ _ _ _ _ _ _ _ (by decide) hE awakeQ1).mono ?_
  rintro e w1 ⟨rfl, hb1⟩
  go_wp2_with fail
  refine (K.read _ _ _ _ _ _ _ _ (by decide) (hE.below hb1) awakeQ2).mono ?_
  rintro e w2 ⟨rfl, hb2⟩
  go_wp2
  go_ret
  exact ⟨rfl, tb2 hb1 hb2⟩

/-- So many rows of a word in quotes. -/
def wrS (q : UInt8) : Nat → List UInt8
  | 0 => [q, 119]
  | k + 1 => wrS q k ++ [10, 32, 32, 32, 119]
theorem wrS_len (q : UInt8) : ∀ k, (wrS q k).length = 2 + 5 * k
  | 0 => rfl
  | k + 1 => by rw [wrS, List.length_append, wrS_len q k]; show 2 + 5 * k + 5 = _; omega
def wrongOk (q : UInt8) (k : Nat) : Bool :=
  decide (qTry (mkB (wrS q k ++ [10, 32, 32, 119, q])) 2 60 = some ([], 2 + 5 * k + 3, false, 5)) && (decide (qTry (mkB (wrS q k ++ [10, 45, 45, 45, 32, 119, q])) (-1) 60 = some ([], 2 + 5 * k + 1, false, 5)) && (decide (qTry (mkB (wrS q k ++ [10, 46, 46, 46, q, q])) 0 60 = some ([], 2 + 5 * k + 1, false, 5)) && (decide (qTry (mkB (wrS q k ++ [10, 32, 32, 32, 119])) 2 60 = some ([], 2 + 5 * k + 5, false, 5)) && (decide (q = 39) || decide (qTry (mkB (wrS q k ++ [92, 113, q])) 2 60 = some ([], 2 + 5 * k, false, 5))))))
set_option maxRecDepth 100000 in
theorem wrong_fact (q : UInt8) (k : Nat) (hk : k < 4) (hq : q = 39 ∨ q = 34) : qTry (mkB (wrS q k ++ [10, 32, 32, 119, q])) 2 60 = some ([], 2 + 5 * k + 3, false, 5) ∧ qTry (mkB (wrS q k ++ [10, 45, 45, 45, 32, 119, q])) (-1) 60 = some ([], 2 + 5 * k + 1, false, 5) ∧ qTry (mkB (wrS q k ++ [10, 46, 46, 46, q, q])) 0 60 = some ([], 2 + 5 * k + 1, false, 5) ∧ qTry (mkB (wrS q k ++ [10, 32, 32, 32, 119])) 2 60 = some ([], 2 + 5 * k + 5, false, 5) ∧ (q = 39 ∨ qTry (mkB (wrS q k ++ [92, 113, q])) 2 60 = some ([], 2 + 5 * k, false, 5)) := by
  have H : ∀ k : Fin 4, (wrongOk 39 k.val && wrongOk 34 k.val) = true := by decide +kernel
  have h := H ⟨k, hk⟩
  rw [Bool.and_eq_true] at h
  have h2 : wrongOk q k = true := by
    rcases hq with rfl | rfl
    · exact h.1
    · exact h.2
  unfold wrongOk at h2
  simpa only [Bool.and_eq_true, Bool.or_eq_true, decide_eq_true_eq] using h2

set_option maxRecDepth 100000 in
set_option maxHeartbeats 6400000 in
theorem QuotWrong_t (K : QuotC) (which n : Int) (w : World) (hE : Env w) :
    Calls Tryd.prog 4 #[.int .i64 which, .int .i64 n, .bool true] w fun e w' => e = .returned (.bool true) ∧ Below w.heap.size w w' := by
  have hr1 := lowZ_range n 4 (by omega)
  obtain ⟨m, hm⟩ : ∃ m : Nat, lowZ n 4 = (m : Int) := ⟨(lowZ n 4).toNat, by omega⟩
  rw [hm] at hr1
  have hm4 : m < 4 := by omega
  have hr2 := lowZ_range which 5 (by omega)
  obtain ⟨z, hz⟩ : ∃ z, lowZ which 5 = z := ⟨_, rfl⟩
  rw [hz] at hr2
  have HM := Lib.hid hm
  have HZ := Lib.hid hz
  clear hm hz hr1
  have CM := fun W => Low_is (m : Int) n 4 W (by omega) (by omega) HM.out
  have CZ := fun W => Low_is z which 5 W (by omega) (by omega) HZ.out
  go_enter Tryd.func4, Tryd.ntmps4
  go_wp2
  go_loop [8, 9] (fun v8 v9 => ∃ (j : Nat) (S : ByteArray), v9 = .int .i64 (j : Int) ∧ v8 = .string S ∧ j ≤ m ∧ Hid (S = mkB (wrS 39 j))) (fun _ v9 => m - (intOf v9).toNat)
  case atStart => exact ⟨0, _, rfl, rfl, Nat.zero_le _, rfl⟩
  case round =>
    obtain ⟨j, S, rfl, rfl, hj, HS⟩ := hrel
    have hss : S.size = 2 + 5 * j := by rw [HS.out, mkB_size, wrS_len]
    by_cases hjm : j < m
    · go_wp2_with fail
      refine (CM _).mono ?_
      rintro e w1 ⟨rfl, rfl⟩
      go_wp2
      go_round
      case rel => exact ⟨j + 1, _, by go_num, rfl, by omega, by show _ = mkB (wrS 39 j ++ _); rw [← mkB_append, ← HS.out]; rfl⟩
      case measure => simp [intOf]; omega
    · obtain rfl : j = m := by omega
      obtain ⟨f0, f1, f2, f3, f4⟩ := wrong_fact 39 j hm4 (.inl rfl)
      clear f4
      have F0 := Lib.hid f0
      have F1 := Lib.hid f1
      have F2 := Lib.hid f2
      have F3 := Lib.hid f3
      clear f0 f1 f2 f3
      go_wp2_with fail
      refine (CM _).mono ?_
      rintro e w1 ⟨rfl, rfl⟩
      by_cases h0 : z = 0
      · subst h0
        obtain ⟨T1, hT1⟩ : ∃ T1 : ByteArray, S ++ ⟨#[10, 32, 32, 119]⟩ ++ ⟨#[39]⟩ = T1 := ⟨_, rfl⟩
        have hT2 : T1 = mkB (wrS 39 j ++ [10, 32, 32, 119, 39]) := by rw [← hT1, ← mkB_append, ← HS.out, ByteArray.append_assoc]; rfl
        have hTs : T1.size = 2 + 5 * j + 5 := by rw [hT2, mkB_size, List.length_append, wrS_len]; rfl
        have hQ : QuoZ T1 0 2 [] ((S.size : Int) + 1 + 2) false 5 := by
          have := QuoZ.tried F0.out
          rw [← hT2] at this
          have e : ((2 + 5 * j + 3 : Nat) : Int) = (S.size : Int) + 1 + 2 := by omega
          rw [e] at this
          exact this
        have HQ := Lib.hid hQ
        have hsz : T1.size ≤ 100000 := by omega
        clear hQ hT2
        go_wp2_with fail
        refine (CZ _).mono ?_
        rintro e w1 ⟨rfl, rfl⟩
        go_wp2_with fail
        refine (K.read _ _ _ _ _ _ _ _ hsz hE HQ.out).mono ?_
        rintro e w2 ⟨rfl, hb2⟩
        go_wp2_with fail
        refine (awake12_true K _ (hE.below hb2)).mono ?_
        rintro e w3 ⟨rfl, hb3⟩
        go_wp2
        go_ret
        exact ⟨rfl, tb2 hb2 hb3⟩
      have g0 : (z == 0) = false := by simp; omega
      by_cases h1 : z = 1
      · subst h1
        obtain ⟨T1, hT1⟩ : ∃ T1 : ByteArray, S ++ ⟨#[10, 45, 45, 45, 32, 119]⟩ ++ ⟨#[39]⟩ = T1 := ⟨_, rfl⟩
        have hT2 : T1 = mkB (wrS 39 j ++ [10, 45, 45, 45, 32, 119, 39]) := by rw [← hT1, ← mkB_append, ← HS.out, ByteArray.append_assoc]; rfl
        have hTs : T1.size = 2 + 5 * j + 7 := by rw [hT2, mkB_size, List.length_append, wrS_len]; rfl
        have hQ : QuoZ T1 0 (-1) [] ((S.size : Int) + 1) false 5 := by
          have := QuoZ.tried F1.out
          rw [← hT2] at this
          have e : ((2 + 5 * j + 1 : Nat) : Int) = (S.size : Int) + 1 := by omega
          rw [e] at this
          exact this
        have HQ := Lib.hid hQ
        have hsz : T1.size ≤ 100000 := by omega
        clear hQ hT2
        go_wp2_with fail
        refine (CZ _).mono ?_
        rintro e w1 ⟨rfl, rfl⟩
        go_wp2_with fail
        refine (K.read _ _ _ _ _ _ _ _ hsz hE HQ.out).mono ?_
        rintro e w2 ⟨rfl, hb2⟩
        go_wp2_with fail
        refine (awake12_true K _ (hE.below hb2)).mono ?_
        rintro e w3 ⟨rfl, hb3⟩
        go_wp2
        go_ret
        exact ⟨rfl, tb2 hb2 hb3⟩
      have g1 : (z == 1) = false := by simp; omega
      by_cases h2 : z = 2
      · subst h2
        obtain ⟨T1, hT1⟩ : ∃ T1 : ByteArray, S ++ ⟨#[10, 46, 46, 46]⟩ ++ ⟨#[39]⟩ ++ ⟨#[39]⟩ = T1 := ⟨_, rfl⟩
        have hT2 : T1 = mkB (wrS 39 j ++ [10, 46, 46, 46, 39, 39]) := by rw [← hT1, ← mkB_append, ← HS.out, ByteArray.append_assoc, ByteArray.append_assoc]; rfl
        have hTs : T1.size = 2 + 5 * j + 6 := by rw [hT2, mkB_size, List.length_append, wrS_len]; rfl
        have hQ : QuoZ T1 0 0 [] ((S.size : Int) + 1) false 5 := by
          have := QuoZ.tried F2.out
          rw [← hT2] at this
          have e : ((2 + 5 * j + 1 : Nat) : Int) = (S.size : Int) + 1 := by omega
          rw [e] at this
          exact this
        have HQ := Lib.hid hQ
        have hsz : T1.size ≤ 100000 := by omega
        clear hQ hT2
        go_wp2_with fail
        refine (CZ _).mono ?_
        rintro e w1 ⟨rfl, rfl⟩
        go_wp2_with fail
        refine (K.read _ _ _ _ _ _ _ _ hsz hE HQ.out).mono ?_
        rintro e w2 ⟨rfl, hb2⟩
        go_wp2_with fail
        refine (awake12_true K _ (hE.below hb2)).mono ?_
        rintro e w3 ⟨rfl, hb3⟩
        go_wp2
        go_ret
        exact ⟨rfl, tb2 hb2 hb3⟩
      have g2 : (z == 2) = false := by simp; omega
      by_cases h3 : z = 3
      · subst h3
        obtain ⟨T1, hT1⟩ : ∃ T1 : ByteArray, S ++ ⟨#[10, 32, 32, 32, 119]⟩ = T1 := ⟨_, rfl⟩
        have hT2 : T1 = mkB (wrS 39 j ++ [10, 32, 32, 32, 119]) := by rw [← hT1, ← mkB_append, ← HS.out]; rfl
        have hTs : T1.size = 2 + 5 * j + 5 := by rw [hT2, mkB_size, List.length_append, wrS_len]; rfl
        have hQ : QuoZ T1 0 2 [] ((T1.size : Int)) false 5 := by
          have := QuoZ.tried F3.out
          rw [← hT2] at this
          have e : ((2 + 5 * j + 5 : Nat) : Int) = (T1.size : Int) := by omega
          rw [e] at this
          exact this
        have HQ := Lib.hid hQ
        have hsz : T1.size ≤ 100000 := by omega
        clear hQ hT2
        go_wp2_with fail
        refine (CZ _).mono ?_
        rintro e w1 ⟨rfl, rfl⟩
        go_wp2_with fail
        refine (K.read _ _ _ _ _ _ _ _ hsz hE HQ.out).mono ?_
        rintro e w2 ⟨rfl, hb2⟩
        go_wp2_with fail
        refine (awake12_true K _ (hE.below hb2)).mono ?_
        rintro e w3 ⟨rfl, hb3⟩
        go_wp2
        go_ret
        exact ⟨rfl, tb2 hb2 hb3⟩
      have g3 : (z == 3) = false := by simp; omega
      clear h0 h1 h2 h3
      go_wp2_with fail
      refine (CZ _).mono ?_
      rintro e w1 ⟨rfl, rfl⟩
      go_wp2_with fail
      refine (awake12_true K _ hE).mono ?_
      rintro e w3 ⟨rfl, hb3⟩
      go_wp2
      go_ret
      exact ⟨rfl, hb3⟩
set_option maxRecDepth 100000 in
set_option maxHeartbeats 6400000 in
theorem QuotWrong_f (K : QuotC) (which n : Int) (w : World) (hE : Env w) :
    Calls Tryd.prog 4 #[.int .i64 which, .int .i64 n, .bool false] w fun e w' => e = .returned (.bool true) ∧ Below w.heap.size w w' := by
  have hr1 := lowZ_range n 4 (by omega)
  obtain ⟨m, hm⟩ : ∃ m : Nat, lowZ n 4 = (m : Int) := ⟨(lowZ n 4).toNat, by omega⟩
  rw [hm] at hr1
  have hm4 : m < 4 := by omega
  have hr2 := lowZ_range which 5 (by omega)
  obtain ⟨z, hz⟩ : ∃ z, lowZ which 5 = z := ⟨_, rfl⟩
  rw [hz] at hr2
  have HM := Lib.hid hm
  have HZ := Lib.hid hz
  clear hm hz hr1
  have CM := fun W => Low_is (m : Int) n 4 W (by omega) (by omega) HM.out
  have CZ := fun W => Low_is z which 5 W (by omega) (by omega) HZ.out
  go_enter Tryd.func4, Tryd.ntmps4
  go_wp2
  go_loop [8, 9] (fun v8 v9 => ∃ (j : Nat) (S : ByteArray), v9 = .int .i64 (j : Int) ∧ v8 = .string S ∧ j ≤ m ∧ Hid (S = mkB (wrS 34 j))) (fun _ v9 => m - (intOf v9).toNat)
  case atStart => exact ⟨0, _, rfl, rfl, Nat.zero_le _, rfl⟩
  case round =>
    obtain ⟨j, S, rfl, rfl, hj, HS⟩ := hrel
    have hss : S.size = 2 + 5 * j := by rw [HS.out, mkB_size, wrS_len]
    by_cases hjm : j < m
    · go_wp2_with fail
      refine (CM _).mono ?_
      rintro e w1 ⟨rfl, rfl⟩
      go_wp2
      go_round
      case rel => exact ⟨j + 1, _, by go_num, rfl, by omega, by show _ = mkB (wrS 34 j ++ _); rw [← mkB_append, ← HS.out]; rfl⟩
      case measure => simp [intOf]; omega
    · obtain rfl : j = m := by omega
      obtain ⟨f0, f1, f2, f3, f4⟩ := wrong_fact 34 j hm4 (.inr rfl)
      have F4 := Lib.hid (f4.resolve_left (by decide))
      clear f4
      have F0 := Lib.hid f0
      have F1 := Lib.hid f1
      have F2 := Lib.hid f2
      have F3 := Lib.hid f3
      clear f0 f1 f2 f3
      go_wp2_with fail
      refine (CM _).mono ?_
      rintro e w1 ⟨rfl, rfl⟩
      by_cases h0 : z = 0
      · subst h0
        obtain ⟨T1, hT1⟩ : ∃ T1 : ByteArray, S ++ ⟨#[10, 32, 32, 119]⟩ ++ ⟨#[34]⟩ = T1 := ⟨_, rfl⟩
        have hT2 : T1 = mkB (wrS 34 j ++ [10, 32, 32, 119, 34]) := by rw [← hT1, ← mkB_append, ← HS.out, ByteArray.append_assoc]; rfl
        have hTs : T1.size = 2 + 5 * j + 5 := by rw [hT2, mkB_size, List.length_append, wrS_len]; rfl
        have hQ : QuoZ T1 0 2 [] ((S.size : Int) + 1 + 2) false 5 := by
          have := QuoZ.tried F0.out
          rw [← hT2] at this
          have e : ((2 + 5 * j + 3 : Nat) : Int) = (S.size : Int) + 1 + 2 := by omega
          rw [e] at this
          exact this
        have HQ := Lib.hid hQ
        have hsz : T1.size ≤ 100000 := by omega
        clear hQ hT2
        go_wp2_with fail
        refine (CZ _).mono ?_
        rintro e w1 ⟨rfl, rfl⟩
        go_wp2_with fail
        refine (K.read _ _ _ _ _ _ _ _ hsz hE HQ.out).mono ?_
        rintro e w2 ⟨rfl, hb2⟩
        go_wp2_with fail
        refine (awake12_true K _ (hE.below hb2)).mono ?_
        rintro e w3 ⟨rfl, hb3⟩
        go_wp2
        go_ret
        exact ⟨rfl, tb2 hb2 hb3⟩
      have g0 : (z == 0) = false := by simp; omega
      by_cases h1 : z = 1
      · subst h1
        obtain ⟨T1, hT1⟩ : ∃ T1 : ByteArray, S ++ ⟨#[10, 45, 45, 45, 32, 119]⟩ ++ ⟨#[34]⟩ = T1 := ⟨_, rfl⟩
        have hT2 : T1 = mkB (wrS 34 j ++ [10, 45, 45, 45, 32, 119, 34]) := by rw [← hT1, ← mkB_append, ← HS.out, ByteArray.append_assoc]; rfl
        have hTs : T1.size = 2 + 5 * j + 7 := by rw [hT2, mkB_size, List.length_append, wrS_len]; rfl
        have hQ : QuoZ T1 0 (-1) [] ((S.size : Int) + 1) false 5 := by
          have := QuoZ.tried F1.out
          rw [← hT2] at this
          have e : ((2 + 5 * j + 1 : Nat) : Int) = (S.size : Int) + 1 := by omega
          rw [e] at this
          exact this
        have HQ := Lib.hid hQ
        have hsz : T1.size ≤ 100000 := by omega
        clear hQ hT2
        go_wp2_with fail
        refine (CZ _).mono ?_
        rintro e w1 ⟨rfl, rfl⟩
        go_wp2_with fail
        refine (K.read _ _ _ _ _ _ _ _ hsz hE HQ.out).mono ?_
        rintro e w2 ⟨rfl, hb2⟩
        go_wp2_with fail
        refine (awake12_true K _ (hE.below hb2)).mono ?_
        rintro e w3 ⟨rfl, hb3⟩
        go_wp2
        go_ret
        exact ⟨rfl, tb2 hb2 hb3⟩
      have g1 : (z == 1) = false := by simp; omega
      by_cases h2 : z = 2
      · subst h2
        obtain ⟨T1, hT1⟩ : ∃ T1 : ByteArray, S ++ ⟨#[10, 46, 46, 46]⟩ ++ ⟨#[34]⟩ ++ ⟨#[34]⟩ = T1 := ⟨_, rfl⟩
        have hT2 : T1 = mkB (wrS 34 j ++ [10, 46, 46, 46, 34, 34]) := by rw [← hT1, ← mkB_append, ← HS.out, ByteArray.append_assoc, ByteArray.append_assoc]; rfl
        have hTs : T1.size = 2 + 5 * j + 6 := by rw [hT2, mkB_size, List.length_append, wrS_len]; rfl
        have hQ : QuoZ T1 0 0 [] ((S.size : Int) + 1) false 5 := by
          have := QuoZ.tried F2.out
          rw [← hT2] at this
          have e : ((2 + 5 * j + 1 : Nat) : Int) = (S.size : Int) + 1 := by omega
          rw [e] at this
          exact this
        have HQ := Lib.hid hQ
        have hsz : T1.size ≤ 100000 := by omega
        clear hQ hT2
        go_wp2_with fail
        refine (CZ _).mono ?_
        rintro e w1 ⟨rfl, rfl⟩
        go_wp2_with fail
        refine (K.read _ _ _ _ _ _ _ _ hsz hE HQ.out).mono ?_
        rintro e w2 ⟨rfl, hb2⟩
        go_wp2_with fail
        refine (awake12_true K _ (hE.below hb2)).mono ?_
        rintro e w3 ⟨rfl, hb3⟩
        go_wp2
        go_ret
        exact ⟨rfl, tb2 hb2 hb3⟩
      have g2 : (z == 2) = false := by simp; omega
      by_cases h3 : z = 3
      · subst h3
        obtain ⟨T1, hT1⟩ : ∃ T1 : ByteArray, S ++ ⟨#[10, 32, 32, 32, 119]⟩ = T1 := ⟨_, rfl⟩
        have hT2 : T1 = mkB (wrS 34 j ++ [10, 32, 32, 32, 119]) := by rw [← hT1, ← mkB_append, ← HS.out]; rfl
        have hTs : T1.size = 2 + 5 * j + 5 := by rw [hT2, mkB_size, List.length_append, wrS_len]; rfl
        have hQ : QuoZ T1 0 2 [] ((T1.size : Int)) false 5 := by
          have := QuoZ.tried F3.out
          rw [← hT2] at this
          have e : ((2 + 5 * j + 5 : Nat) : Int) = (T1.size : Int) := by omega
          rw [e] at this
          exact this
        have HQ := Lib.hid hQ
        have hsz : T1.size ≤ 100000 := by omega
        clear hQ hT2
        go_wp2_with fail
        refine (CZ _).mono ?_
        rintro e w1 ⟨rfl, rfl⟩
        go_wp2_with fail
        refine (K.read _ _ _ _ _ _ _ _ hsz hE HQ.out).mono ?_
        rintro e w2 ⟨rfl, hb2⟩
        go_wp2_with fail
        refine (awake12_true K _ (hE.below hb2)).mono ?_
        rintro e w3 ⟨rfl, hb3⟩
        go_wp2
        go_ret
        exact ⟨rfl, tb2 hb2 hb3⟩
      have g3 : (z == 3) = false := by simp; omega
      clear h0 h1 h2 h3
      obtain ⟨T1, hT1⟩ : ∃ T1 : ByteArray, S ++ ⟨#[92, 113]⟩ ++ ⟨#[34]⟩ = T1 := ⟨_, rfl⟩
      have hT2 : T1 = mkB (wrS 34 j ++ [92, 113, 34]) := by rw [← hT1, ← mkB_append, ← HS.out, ByteArray.append_assoc]; rfl
      have hTs : T1.size = 2 + 5 * j + 3 := by rw [hT2, mkB_size, List.length_append, wrS_len]; rfl
      have hQ : QuoZ T1 0 2 [] ((S.size : Int)) false 5 := by
        have := QuoZ.tried F4.out
        rw [← hT2] at this
        have e : ((2 + 5 * j : Nat) : Int) = (S.size : Int) := by omega
        rw [e] at this
        exact this
      have HQ := Lib.hid hQ
      have hsz : T1.size ≤ 100000 := by omega
      clear hQ hT2
      go_wp2_with fail
      refine (CZ _).mono ?_
      rintro e w1 ⟨rfl, rfl⟩
      go_wp2_with fail
      refine (K.read _ _ _ _ _ _ _ _ hsz hE HQ.out).mono ?_
      rintro e w2 ⟨rfl, hb2⟩
      go_wp2_with fail
      refine (awake12_true K _ (hE.below hb2)).mono ?_
      rintro e w3 ⟨rfl, hb3⟩
      go_wp2
      go_ret
      exact ⟨rfl, tb2 hb2 hb3⟩
theorem QuotWrong_walk (K : QuotC) (which n : Int) (single : Bool) (w : World) (hE : Env w) :
    Calls Tryd.prog 4 #[.int .i64 which, .int .i64 n, .bool single] w fun e w' => e = .returned (.bool true) ∧ Below w.heap.size w w' := by
  cases single with
  | true => exact QuotWrong_t K which n w hE
  | false => exact QuotWrong_f K which n w hE

end Go.Proofs.YthleebnfbdcobaaDoor
