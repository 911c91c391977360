/- The document's answer of chapter 9, its parts: handles, suffixes, sizes. Conditions: those that each theorem writes out (lengths that memory can hold). -/
import Derived.Test.YtckdhidcbkbeoaaDoorHandRef
namespace Go.Proofs.YtckdhidcbkbeoaaDoor
open Go.RowKit

theorem hand_size {l : List UInt8} {a b c q m : Nat} (hab : U.tHand l = (a, b)) (hc : U.tH l = c) (hq : U.tR U.sfx 0 l = q) (hm : U.tR U.sfx 0 (l.drop (c - 1)) = m) : (if 0 < m then c + m else 1 + q) = a + b := by
  unfold U.tHand at hab
  unfold U.tH at hc
  generalize U.tR U.wordc 0 l = n at hab hc
  by_cases hh : (l.drop n).headD 0 = 33
  · rw [if_pos hh] at hc
    subst hc
    rw [show n + 2 - 1 = n + 1 by omega] at hm
    rw [hm] at hab
    by_cases hm0 : 0 < m
    · rw [if_pos ⟨hh, hm0⟩] at hab
      obtain ⟨rfl, rfl⟩ := Prod.mk.inj hab
      rw [if_pos hm0]
    · rw [if_neg (fun x => hm0 x.2), hq] at hab
      obtain ⟨rfl, rfl⟩ := Prod.mk.inj hab
      rw [if_neg hm0]
  · rw [if_neg hh] at hc
    subst hc
    rw [if_neg (fun x => hh x.1), hq] at hab
    obtain ⟨rfl, rfl⟩ := Prod.mk.inj hab
    rw [Nat.sub_self, List.drop_zero, hq] at hm
    subst hm
    split <;> rfl
set_option maxHeartbeats 800000 in
theorem refHandle_is (m : Nat) (s : ByteArray) (k : Nat) (at' : Int) (w : World) (hs : s.size ≤ 1099511627776) (hat : at' = (k : Int)) (hk : k < s.size) (h : U.tH (s.data.toList.drop (k + 1)) = m) :
    Calls Tryd.prog 53 #[.string s, .int .i64 at'] w fun e w' => e = .returned (.int .i64 (m : Int)) ∧ w = w' := by
  subst hat
  obtain ⟨n, hn⟩ : ∃ n, U.tR U.wordc 0 (s.data.toList.drop (k + 1)) = n := ⟨_, rfl⟩
  unfold U.tH at h
  rw [hn, List.drop_drop] at h
  have HN := Lib.hid hn
  have HM := Lib.hid h
  clear hn h
  go_enter Tryd.func53, Tryd.ntmps53
  go_wp2
  go_loop [5] (fun i => ∃ j : Nat, i = .int .i64 (j : Int) ∧ 1 ≤ j ∧ k + j ≤ s.size ∧ Hid (j + U.tR U.wordc 0 (s.data.toList.drop (k + j)) = n + 1)) (fun i => s.size - k - (intOf i).toNat)
  case atStart => exact ⟨1, rfl, by omega, by omega, by show _ = _; rw [HN.out]; omega⟩
  case round =>
    obtain ⟨j, rfl, hj1, hj, H⟩ := hrel
    by_cases hk2 : k + j < s.size
    · obtain ⟨b, hd, hb⟩ := drop_byte s (k + j) hk2
      have hi := run_byt s (k + j) hk2 ((k : Int) + (j : Int)) (by omega)
      have H2 := H.out
      have h33 := headD_byte hk2 33
      rw [hd, U.tR_word, hb] at H2
      obtain ⟨x, hx⟩ : ∃ x : Nat, x = byt s (k + j) := ⟨_, rfl⟩
      rw [← hx] at hi H2 h33
      clear hx hd hb H HN
      cases hp : U.wordc (x : Int) with
      | true =>
        rw [if_pos hp] at H2
        have F := Lib.hid H2
        have HP := Lib.hid hp
        clear H2 hp h33
        go_wp2_with fail
        refine (refWord_is true _ _ HP.out).mono ?_
        rintro e w1 ⟨rfl, rfl⟩
        go_wp2
        go_round
        case rel => exact ⟨j + 1, by go_num, by omega, by omega, by show _ = _; have := F.out; rw [show k + (j + 1) = k + j + 1 from rfl]; omega⟩
        case measure => simp [intOf]; omega
      | false =>
        rw [if_neg (by simp [hp])] at H2
        have HP := Lib.hid hp
        have hm := HM.out
        rw [show k + 1 + n = k + j by omega] at hm
        have hnj : n + 2 = j + 1 := by omega
        rw [hnj] at hm
        clear H2 hp HM hnj
        by_cases hx33 : x = 33
        · rw [if_pos (h33.2 hx33)] at hm
          subst hm
          subst hx33
          clear h33
          go_wp2_with fail
          refine (refWord_is false _ _ HP.out).mono ?_
          rintro e w1 ⟨rfl, rfl⟩
          go_wp2
          go_ret
          exact ⟨rfl, rfl⟩
        · rw [if_neg (fun hh => hx33 (h33.1 hh))] at hm
          subst hm
          have hxb : ((x : Int) == 33) = false := by simp; omega
          clear h33 hx33
          go_wp2_with fail
          refine (refWord_is false _ _ HP.out).mono ?_
          rintro e w1 ⟨rfl, rfl⟩
          go_wp2
          go_ret
          exact ⟨rfl, rfl⟩
    · have H2 := H.out
      rw [List.drop_eq_nil_of_le (by rw [← Lib.size_eq]; omega), U.tR_nil] at H2
      have hm := HM.out
      rw [show k + 1 + n = k + j by omega, headD_over (by omega), if_neg (by decide)] at hm
      subst hm
      clear H2 H HN HM
      go_wp2
      go_ret
      exact ⟨rfl, rfl⟩

end Go.Proofs.YtckdhidcbkbeoaaDoor
