/- The statement SpotRows on package spot: the walk: for every input the law returns true. Conditions: none beside those that each theorem writes out. -/
import Derived.Test.YtoinkeehnoggbaaSpotLaws
namespace Go.Proofs.Ytoinkeehnoggbaa
open Go.RowKit

theorem word_lf : ∀ l ∈ wordL, (10 : UInt8) ∉ l ∧ l.length ≤ 3 := by decide +kernel
/-- Rows laid so far: so many, each ended. -/
def Ended (S : List UInt8) (k : Nat) : Prop := U.line S = (k : Int) + 1 ∧ U.row S = []
theorem Ended.nil : Ended [] 0 := ⟨rfl, rfl⟩
theorem Ended.step {S : List UInt8} {k : Nat} (h : Ended S k) {x : List UInt8} (hx : x ∈ wordL) : Ended (S ++ x ++ [10]) (k + 1) := by
  refine ⟨?_, U.row_lf _⟩
  have h1 := h.1
  unfold U.line at h1 ⊢
  rw [List.count_append, List.count_append, List.count_eq_zero_of_not_mem (word_lf x hx).1]
  have : List.count (10 : UInt8) [10] = 1 := rfl
  rw [this]
  push_cast
  omega
theorem Ended.word {S : List UInt8} {k : Nat} (h : Ended S k) {x : List UInt8} (hx : x ∈ wordL) : U.line (S ++ x) = (k : Int) + 1 ∧ U.col (S ++ x) = 1 + ((U.runes x).length : Int) := by
  have h1 := h.1
  unfold U.line at h1 ⊢
  unfold U.col
  rw [List.count_append, List.count_eq_zero_of_not_mem (word_lf x hx).1, U.row_append _ _ (word_lf x hx).1, h.2, List.nil_append]
  exact ⟨by push_cast; omega, by omega⟩

theorem at_end (s : ByteArray) (c : Int) (hc : c = (s.size : Int)) : s.data.toList.take (clampN c s.size) = s.data.toList := by
  rw [hc, clampN_self _ _ (Nat.le_refl _), take_size]

set_option maxHeartbeats 1000000 in
theorem SpotRows_walk (v : Value) (xs : List Int) (y : Int) (w : World) (h1 : IsInts .i64 w.heap.size w v xs) :
    Calls Try.prog 5 #[v, .int .i64 y] w fun e w' => e = .returned (.bool true) ∧ Below w.heap.size w w' := by
  obtain ⟨ao1, cap1, rfl, c1, d1⟩ := h1.slice
  unfold maxLen at d1
  obtain ⟨L, hL⟩ : ∃ L, L = xs.length := ⟨_, rfl⟩
  rw [← hL] at h1 c1 ⊢
  have HL := Lib.hid hL
  clear hL
  by_cases hl : 12 < L
  · go_enter Try.func5, Try.ntmps5
    go_wp2_with (go_at_call 7; refine (awake3_any _).mono ?_; rintro e w1 ⟨rfl, b1⟩)
    go_ret
    exact ⟨rfl, b1⟩
  · go_enter Try.func5, Try.ntmps5
    go_wp2
    go_loopw [5, 6] (fun s i wr => ∃ (k : Nat) (S : List UInt8), i = .int .i64 (k : Int) ∧ s = .string ⟨S.toArray⟩ ∧ k ≤ L ∧ S.length ≤ 4 * k ∧ Below w.heap.size w wr ∧ Hid (Ended S k)) (fun _ i _ => L - (intOf i).toNat)
    case atStart => exact ⟨0, [], rfl, rfl, Nat.zero_le _, Nat.le_refl _, Below.refl _ _, Ended.nil⟩
    case round =>
      obtain ⟨k, S, rfl, rfl, hk, hS, hb, H⟩ := hrel
      by_cases hk2 : k < L
      · obtain ⟨b1, o1, rfl, hlt1, hc1⟩ := IsInts.at h1 HL.out.symm (by omega)
        have g1 := hc1 k hk2
        rw [← hb.cell (p := ⟨b1, o1 + k, none⟩) hlt1] at g1
        obtain ⟨x, hx⟩ : ∃ x, x = xs.getD k 0 := ⟨_, rfl⟩
        rw [← hx] at g1
        obtain ⟨W, hW⟩ : ∃ W, W = word x := ⟨_, rfl⟩
        have hWm : W ∈ wordL := by rw [hW]; exact word_mem x
        have hWl := (word_lf W hWm).2
        have HW := Lib.hid hW.symm
        have HWM := Lib.hid hWm
        clear hc1 hx hW hWm
        go_wp2_with (go_at_call 16; refine (WordOf_is W _ _ HW.out).mono ?_; rintro e w3 ⟨rfl, b3⟩)
        go_roundw
        case rel => exact ⟨k + 1, S ++ W ++ [10], by go_num, by rw [ByteArray.mk_append_mk]; exact congrArg Value.string (ByteArray.mk_append_mk _ [10]), by omega, by simp; omega, tb2 hb b3, H.out.step HWM.out⟩
        case measure => simp [intOf]; omega
      · obtain rfl : k = L := by omega
        obtain ⟨s, hs⟩ : ∃ s : ByteArray, s = ⟨S.toArray⟩ := ⟨_, rfl⟩
        have hsS : s.data.toList = S := by rw [hs]
        have hsz : s.size ≤ 48 := by rw [Lib.size_eq, hsS]; omega
        obtain ⟨W, hW⟩ : ∃ W, W = word y := ⟨_, rfl⟩
        have hWm : W ∈ wordL := by rw [hW]; exact word_mem y
        have hWl := (word_lf W hWm).2
        have HW := Lib.hid hW.symm
        obtain ⟨t, ht⟩ : ∃ t : ByteArray, t = ⟨W.toArray⟩ := ⟨_, rfl⟩
        have htW : t.data.toList = W := by rw [ht]
        have htz : t.size ≤ 3 := by rw [Lib.size_eq, htW]; omega
        obtain ⟨n, hn⟩ : ∃ n, (U.runes t.data.toList).length = n := ⟨_, rfl⟩
        have hnl : n ≤ 3 := by rw [← hn]; have := U.runes_length_le t.data.toList; rw [← Lib.size_eq] at this; omega
        have HNN := Lib.hid hn
        have hst : (s ++ t).data.toList = S ++ W := by rw [ByteArray.data_append, Array.toList_append, hsS, htW]
        have A1 : Hid (U.line (s.data.toList.take (clampN (s.size : Int) s.size)) = (k : Int) + 1) := by show _ = _; rw [at_end s _ rfl, hsS]; exact H.out.1
        have A2 : Hid (U.col (s.data.toList.take (clampN (s.size : Int) s.size)) = 1) := by show _ = _; rw [at_end s _ rfl, hsS]; unfold U.col; rw [H.out.2]; rfl
        have B1 : Hid (U.line ((s ++ t).data.toList.take (clampN ((s.size : Int) + (t.size : Int)) (s ++ t).size)) = (k : Int) + 1) := by show _ = _; rw [at_end (s ++ t) _ (by rw [ByteArray.size_append]; push_cast; rfl), hst]; exact (H.out.word hWm).1
        have B2 : Hid (U.col ((s ++ t).data.toList.take (clampN ((s.size : Int) + (t.size : Int)) (s ++ t).size)) = 1 + (n : Int)) := by show _ = _; rw [at_end (s ++ t) _ (by rw [ByteArray.size_append]; push_cast; rfl), hst, ← hn, htW]; exact (H.out.word hWm).2
        have B3 : Hid (U.line (s ++ t).data.toList = (k : Int) + 1) := by show _ = _; rw [hst]; exact (H.out.word hWm).1
        rw [← hs]
        have HT := Lib.hid ht
        clear hst hWm hn htW hsS hs hW H h1 ht
        go_wp2_with fail
        refine (At_is ((k : Int) + 1) 1 s _ _ (by omega) A1.out A2.out).mono ?_
        rintro e w1 ⟨rfl, b1⟩
        replace b1 := tb2 hb b1
        go_wp2_with fail
        refine (WordOf_is W _ _ HW.out).mono ?_
        rintro e w2 ⟨rfl, b2⟩
        rw [← HT.out]
        replace b2 := tb2 b1 b2
        clear b1
        go_wp2_with fail
        refine (At_is ((k : Int) + 1) (1 + (n : Int)) (s ++ t) _ _ (by rw [ByteArray.size_append]; omega) B1.out B2.out).mono ?_
        rintro e w3 ⟨rfl, b3⟩
        replace b3 := tb2 b2 b3
        clear b2
        go_wp2_with fail
        refine (WordOf_is W _ _ HW.out).mono ?_
        rintro e w4 ⟨rfl, b4⟩
        rw [← HT.out]
        replace b4 := tb2 b3 b4
        clear b3
        go_wp2_with fail
        refine (WidthV n t _ (by unfold maxLen; omega) HNN.out).mono ?_
        rintro e w5 ⟨rfl, b5⟩
        replace b5 := tb2 b4 b5
        clear b4
        go_wp2_with fail
        refine (LinesV ((k : Int) + 1) (s ++ t) _ (by rw [ByteArray.size_append]; omega) B3.out).mono ?_
        rintro e w6 ⟨rfl, rfl⟩
        go_wp2_with fail
        refine (awake3_any _).mono ?_
        rintro e w7 ⟨rfl, b7⟩
        go_wp2
        go_ret
        exact ⟨rfl, tb2 b5 b7⟩

end Go.Proofs.Ytoinkeehnoggbaa
