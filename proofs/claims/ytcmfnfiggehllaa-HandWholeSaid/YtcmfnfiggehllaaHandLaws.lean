/- The statements on package hand: what every program answers that is one, and HandWhole: for every string the law returns true. Conditions: none beside those that each theorem writes out. -/
import Derived.Test.YtcmfnfiggehllaaHand5
namespace Go.Proofs.Ytcmfnfiggehllaa
open Go.RowKit

theorem none_short : ∀ l ∈ ([] : List (List UInt8)), l.length ≤ 1099511627776 := fun l h => by simp at h
theorem below_in {B : Nat} {w w' : World} {v : Value} {ds : List (List UInt8)} (h : IsTexts B w v ds) (hb : Below B w w') (hB : B ≤ w'.heap.size) : IsTexts w'.heap.size w' v ds := (h.below hb).mono hB
def dirE : List UInt8 := [37, 84, 65, 71, 32, 33, 101, 33, 32, 120, 58]

set_option maxRecDepth 100000 in
set_option maxHeartbeats 1600000 in
/-- awake: it answers true. -/
theorem awake9_true (w : World) :
    Calls Try.prog 8 #[] w fun e w' => e = .returned (.bool true) ∧ Below w.heap.size w w' := by
  have F1 : Hid (U.tFull [] (⟨#[33, 33, 115, 116, 114]⟩ : ByteArray).data.toList = ([116, 97, 103, 58, 121, 97, 109, 108, 46, 111, 114, 103, 44, 50, 48, 48, 50, 58, 115, 116, 114], 0)) := by
    show _ = _
    decide +kernel
  have F2 : Hid (U.tFull [dirE] (⟨#[33, 101, 33, 97, 37, 50, 49]⟩ : ByteArray).data.toList = ([120, 58, 97, 33], 0)) := by
    show _ = _
    decide +kernel
  have F3 : Hid (U.tFull [] (⟨#[33, 101, 33, 97]⟩ : ByteArray).data.toList = ([], 8)) := by
    show _ = _
    decide +kernel
  have S1 : Hid (hSize (⟨#[33, 97, 32, 98]⟩ : ByteArray) 0 = 2) := by
    show _ = _
    decide +kernel
  have S2 : Hid (hSize (⟨#[97]⟩ : ByteArray) 0 = 0) := by
    show _ = _
    decide +kernel
  go_enter Try.func8, Try.ntmps8
  go_wp2_with fail
  refine (handFull_is _ 0 _ [] _ _ (by decide) none_short (texts_none _ _) F1.out).mono ?_
  rintro e w1 ⟨rfl, b1⟩
  go_wp2_with fail
  refine (handFull_is _ 0 _ [dirE] _ _ (by decide) (by decide) ((texts_new w1 [dirE] (by decide)).mono (by simp)) F2.out).mono ?_
  rintro e w2 ⟨rfl, b2⟩
  go_wp2_with fail
  refine (handFull_is _ 8 _ [] _ _ (by decide) none_short (texts_none _ _) F3.out).mono ?_
  rintro e w3 ⟨rfl, b3⟩
  go_wp2_with fail
  refine (handLong_is ⟨#[116, 97, 103, 58, 121, 97, 109, 108, 46, 111, 114, 103, 44, 50, 48, 48, 50, 58, 115, 116, 114]⟩ _ _ (by decide) (by decide)).mono ?_
  rintro e w4 ⟨rfl, rfl⟩
  go_wp2_with fail
  refine (handSize_is 2 _ 0 _ (by decide) S1.out).mono ?_
  rintro e w5 ⟨rfl, b5⟩
  go_wp2_with fail
  refine (handSize_is 0 _ 0 _ (by decide) S2.out).mono ?_
  rintro e w6 ⟨rfl, b6⟩
  go_wp2
  go_ret
  have h2 : Below w1.heap.size w1 w2 := ((Below.refl _ w1).alloc (Nat.le_refl _) _).trans (b2.mono (by simp))
  exact ⟨rfl, tb2 (tb2 (tb2 (tb2 b1 h2) b3) b5) b6⟩

set_option maxHeartbeats 1600000 in
/-- HandWhole. -/
theorem HandWhole_walk (s : ByteArray) (w : World) :
    Calls Try.prog 4 #[.string s] w fun e w' => e = .returned (.bool true) ∧ Below w.heap.size w w' := by
  by_cases h60 : s.size ≤ 60
  · obtain ⟨T, hT⟩ : ∃ T : ByteArray, (⟨#[33]⟩ : ByteArray) ++ s = T := ⟨_, rfl⟩
    have hTd : T.data.toList = 33 :: s.data.toList := by rw [← hT, cat_data]; rfl
    have hTs : T.size = s.size + 1 := by rw [Lib.size_eq, hTd, List.length_cons, ← Lib.size_eq]
    obtain ⟨n, hn⟩ : ∃ n, U.tSize (33 :: s.data.toList) = n := ⟨_, rfl⟩
    have hn1 : 1 ≤ n := by
      rw [← hn, U.tSize_cons, if_pos (show (33 : UInt8).toNat = 33 from rfl)]
      have := (U.tHand_le s.data.toList).1
      split <;> omega
    have hn2 : n ≤ T.size := by
      have := U.tSize_le (33 :: s.data.toList)
      rw [hn, List.length_cons, ← Lib.size_eq] at this
      omega
    obtain ⟨V, hV⟩ : ∃ V : ByteArray, T.extract 0 n = V := ⟨_, rfl⟩
    have hVd : V.data.toList = (33 :: s.data.toList).take n := by rw [← hV, handTake, hTd]
    have hVs : V.size = n := by rw [← hV, ByteArray.size_extract]; omega
    obtain ⟨X, hX⟩ : ∃ X : ByteArray, V ++ (⟨#[32, 120]⟩ : ByteArray) = X := ⟨_, rfl⟩
    have hXs : X.size = n + 2 := by rw [← hX, ByteArray.size_append, hVs]; rfl
    obtain ⟨Y, hY⟩ : ∃ Y : ByteArray, (⟨#[120]⟩ : ByteArray) ++ V = Y := ⟨_, rfl⟩
    have hYd : Y.data.toList = 120 :: V.data.toList := by rw [← hY, cat_data]; rfl
    have hYs : Y.size = n + 1 := by rw [Lib.size_eq, hYd, List.length_cons, ← Lib.size_eq, hVs]
    have S0 : Hid (hSize T 0 = n) := by
      show _ = _
      rw [hSize_zero, hTd, hn]
    have S1 : Hid (hSize V 0 = n) := by
      show _ = _
      have := U.tSize_take s.data.toList [] (.inl rfl)
      rw [hn, List.append_nil] at this
      rw [hSize_zero, hVd, this]
    have S2 : Hid (hSize X 0 = n) := by
      show _ = _
      have := U.tSize_take s.data.toList [32, 120] (.inr ⟨[120], rfl, by decide⟩)
      rw [hn] at this
      rw [hSize_zero, ← hX, cat_data, hVd]
      exact this
    have S3 : Hid (hSize Y 1 = n) := by
      show _ = _
      have := hSize_in Y 1
      rw [hYd, List.drop_succ_cons, List.drop_zero, ← hSize_zero, S1.out] at this
      exact this
    have S4 : Hid (hSize Y 0 = 0) := by
      show _ = _
      rw [hSize_zero, hYd]; rfl
    clear hTd hn hVd hYd
    go_enter Try.func4, Try.ntmps4
    go_wp2_with fail
    refine (handSize_is n T 0 _ (by omega) S0.out).mono ?_
    rintro e w1 ⟨rfl, b1⟩
    go_wp2_with fail
    refine (handSize_is n V 0 _ (by omega) S1.out).mono ?_
    rintro e w2 ⟨rfl, b2⟩
    go_wp2_with fail
    refine (handSize_is n X 0 _ (by omega) S2.out).mono ?_
    rintro e w3 ⟨rfl, b3⟩
    go_wp2_with fail
    refine (handSize_is n Y 1 _ (by omega) S3.out).mono ?_
    rintro e w4 ⟨rfl, b4⟩
    go_wp2_with fail
    refine (handSize_is 0 Y 0 _ (by omega) S4.out).mono ?_
    rintro e w5 ⟨rfl, b5⟩
    go_wp2_with fail
    refine (awake9_true _).mono ?_
    rintro e w6 ⟨rfl, b6⟩
    go_wp2
    go_ret
    exact ⟨rfl, tb2 (tb2 (tb2 (tb2 (tb2 b1 b2) b3) b4) b5) b6⟩
  · go_enter Try.func4, Try.ntmps4
    go_wp2_with fail
    refine (awake9_true _).mono ?_
    rintro e w1 ⟨rfl, b1⟩
    go_wp2
    go_ret
    exact ⟨rfl, b1⟩

end Go.Proofs.Ytcmfnfiggehllaa
