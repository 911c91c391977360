/- The document's answers of chapter 15: whether a comment begins at a place, and the first tab. Conditions: those that each theorem writes out (lengths that memory can hold). -/
import Derived.Test.YtomdhgbofocbbaaDoorNoteP
import Derived.Test.YtomdhgbofocbbaaDoorBlocRef
import Derived.Test.YtomdhgbofocbbaaDoorLinRefA
namespace Go.Proofs.YtomdhgbofocbbaaDoor
open Go.RowKit

set_option maxHeartbeats 800000 in
theorem refNoteAt_is (q : Bool) (s : ByteArray) (p : Nat) (w : World) (hs : s.size ≤ 1099511627776) (hp : p < s.size) (h : ntB s p = q) :
    Calls Tryd.prog 43 #[.string s, .int .i64 (p : Int)] w fun e w' => e = .returned (.bool q) ∧ w = w' := by
  have hi := run_byt s p hp _ rfl
  unfold ntB at h
  by_cases h35 : byt s p = 35
  · rw [h35] at hi
    by_cases hp0 : p = 0
    · subst hp0
      rw [decide_eq_true (by exact ⟨h35, .inl rfl⟩)] at h
      subst h
      have hi0 := run_byt s 0 hp 0 rfl
      rw [h35] at hi0
      show Calls Tryd.prog 43 #[.string s, .int .i64 0] w _
      clear h35 hi
      go_enter Tryd.func43, Tryd.ntmps43
      go_wp2
      go_ret
      exact ⟨rfl, rfl⟩
    · have hj := run_byt s (p - 1) (by omega) ((p : Int) - 1) (by omega)
      have hp1 : ((p : Int) == 0) = false := by rw [beq_eq_false_iff_ne]; omega
      obtain ⟨b, hb⟩ : ∃ b : Nat, b = byt s (p - 1) := ⟨_, rfl⟩
      rw [← hb] at hj h
      have HW : ∀ W, Calls Tryd.prog 42 #[.int .u8 (b : Int)] W fun e w' => e = .returned (.bool (U.white (b : Int))) ∧ W = w' := fun W => refWhite_is _ _ W rfl
      cases hw : U.white (b : Int) with
      | true =>
        rw [hw] at HW
        rw [decide_eq_true (by exact ⟨h35, .inr (.inl hw)⟩)] at h
        subst h
        clear h35 hp0 hb hw
        go_enter Tryd.func43, Tryd.ntmps43
        go_wp2_with fail
        refine (HW _).mono ?_
        rintro e w' ⟨rfl, rfl⟩
        go_wp2
        go_ret
        exact ⟨rfl, rfl⟩
      | false =>
        rw [hw] at HW
        have hq : ((b : Int) == 10) = q := by
          rw [← h, Bool.eq_iff_iff, decide_eq_true_eq, beq_iff_eq]
          constructor
          · intro e; exact ⟨h35, .inr (.inr (by omega))⟩
          · intro e
            rcases e.2 with k | k | k
            · exact absurd k hp0
            · rw [hw] at k; cases k
            · omega
        clear h35 hp0 hb hw h
        go_enter Tryd.func43, Tryd.ntmps43
        go_wp2_with fail
        refine (HW _).mono ?_
        rintro e w' ⟨rfl, rfl⟩
        go_wp2
        go_ret
        exact ⟨rfl, rfl⟩
  · rw [decide_eq_false (fun e => h35 e.1)] at h
    subst h
    obtain ⟨b, hb⟩ : ∃ b : Nat, b = byt s p := ⟨_, rfl⟩
    rw [← hb] at hi h35
    have hb2 : ((b : Int) == 35) = false := by rw [beq_eq_false_iff_ne]; omega
    clear hb h35
    go_enter Tryd.func43, Tryd.ntmps43
    go_wp2
    go_ret
    exact ⟨rfl, rfl⟩

set_option maxHeartbeats 800000 in
theorem refTabIn_is (x : Int) (s : ByteArray) (p t q : Nat) (w : World) (hs : s.size ≤ 1099511627776) (ht : t ≤ s.size) (hF : FirN s p t q) (h : (∃ k : Nat, x = (k : Int) ∧ TabN s p q k) ∨ (x = -1 ∧ NoTab s p q)) :
    Calls Tryd.prog 39 #[.string s, .int .i64 (p : Int), .int .i64 (t : Int)] w fun e w' => e = .returned (.int .i64 x) ∧ w = w' := by
  have hq1 := hF.1
  have hq2 := hF.2.1
  have HF := Lib.hid hF
  have HH := Lib.hid h
  clear hF h
  go_enter Tryd.func39, Tryd.ntmps39
  go_wp2
  go_loop [7] (fun vi => ∃ j : Nat, vi = .int .i64 (j : Int) ∧ p ≤ j ∧ j ≤ q ∧ Hid (∀ i, i < j → p ≤ i → byt s i ≠ 9)) (fun vi => q - (intOf vi).toNat)
  case atStart => exact ⟨p, rfl, Nat.le_refl _, hq1, Lib.hid (fun i h1 h2 => by omega)⟩
  case round =>
    obtain ⟨j, rfl, hj1, hj2, HJ⟩ := hrel
    by_cases hjq : j < q
    · have hi := run_byt s j (by omega) _ rfl
      have hwh := HF.out.2.2.1 j hjq hj1
      obtain ⟨b, hb⟩ : ∃ b : Nat, b = byt s j := ⟨_, rfl⟩
      rw [← hb] at hi hwh
      have HW := fun W => refWhite_is true (b : Int) W hwh
      have hjt : j < t := by omega
      by_cases h9 : b = 9
      · have hx : Hid (x = (j : Int)) := by
          show _ = _
          rcases HH.out with ⟨k, hk, hT⟩ | ⟨_, hN⟩
          · have : k = j := by
              rcases Nat.lt_trichotomy k j with h | h | h
              · exact absurd hT.2.2.1 (HJ.out k h hT.1)
              · exact h
              · exact absurd (hb.symm.trans h9) (hT.2.2.2 j h hj1)
            rw [hk, this]
          · exact absurd (hb.symm.trans h9) (hN j hjq hj1)
        subst h9
        clear hb hwh
        go_wp2_with fail
        refine (HW _).mono ?_
        rintro e w' ⟨rfl, rfl⟩
        go_wp2
        go_ret
        exact ⟨by rw [hx.out]; rfl, rfl⟩
      · have h9b : ((b : Int) == 9) = false := by rw [beq_eq_false_iff_ne]; omega
        have HJ2 : Hid (∀ i, i < j + 1 → p ≤ i → byt s i ≠ 9) := Lib.hid fun i h1 h2 => by
          by_cases hij : i = j
          · rw [hij, ← hb]; exact h9
          · exact HJ.out i (by omega) h2
        clear hb hwh h9
        go_wp2_with fail
        refine (HW _).mono ?_
        rintro e w' ⟨rfl, rfl⟩
        go_wp2
        go_round
        case rel => exact ⟨j + 1, by go_num, by omega, by omega, HJ2⟩
        case measure => simp [intOf]; omega
    · obtain rfl : j = q := by omega
      have hx : Hid (x = -1) := by
        show _ = _
        rcases HH.out with ⟨k, hk, hT⟩ | ⟨hx, _⟩
        · exact absurd hT.2.2.1 (HJ.out k hT.2.1 hT.1)
        · exact hx
      by_cases hjt : j < t
      · have hi := run_byt s j (by omega) _ rfl
        have hwh := HF.out.2.2.2.resolve_left (by omega)
        obtain ⟨b, hb⟩ : ∃ b : Nat, b = byt s j := ⟨_, rfl⟩
        rw [← hb] at hi hwh
        have HW := fun W => refWhite_is false (b : Int) W hwh
        clear hb hwh
        go_wp2_with fail
        refine (HW _).mono ?_
        rintro e w' ⟨rfl, rfl⟩
        go_wp2
        go_ret
        exact ⟨by rw [hx.out]; rfl, rfl⟩
      · have hjt2 : ¬ ((j : Int) < (t : Int)) := by omega
        go_wp2
        go_ret
        exact ⟨by rw [hx.out]; rfl, rfl⟩
end Go.Proofs.YtomdhgbofocbbaaDoor
