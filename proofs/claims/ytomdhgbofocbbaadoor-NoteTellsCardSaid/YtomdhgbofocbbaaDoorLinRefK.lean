/- The document's answers of chapter 7: the kind of a row, and blank rows above. Conditions: those that each theorem writes out (lengths that memory can hold). -/
import Derived.Test.YtomdhgbofocbbaaDoorLinRef
namespace Go.Proofs.YtomdhgbofocbbaaDoor
open Go.RowKit

theorem three_bytes (s : ByteArray) (a : Nat) (h : a + 3 ≤ s.size) : ∃ x y z : UInt8, (s.extract a (a + 3)).toList = [x, y, z] ∧ x.toNat = byt s a ∧ y.toNat = byt s (a + 1) ∧ z.toNat = byt s (a + 2) := by
  have hl : s.data.toList.length = s.size := (Lib.size_eq s).symm
  refine ⟨s.data.toList.getD a 0, s.data.toList.getD (a + 1) 0, s.data.toList.getD (a + 2) 0, ?_, (byt_list _ _).symm, (byt_list _ _).symm, (byt_list _ _).symm⟩
  rw [Lib.toList_data, Lib.extract_data, show a + 3 - a = 3 from by omega, drop_getD _ 0 a (by omega), drop_getD _ 0 (a + 1) (by omega), drop_getD _ 0 (a + 2) (by omega)]
  rfl
/-- What the document asks of a row: that is the mark. -/
theorem ref_mark (s : ByteArray) (a b : Nat) (ch : UInt8) (hab : a + 3 ≤ b) (hb : b ≤ s.size) (hn : ∀ j, j < b → a ≤ j → byt s j ≠ 10) (he : b = s.size ∨ byt s b = 10) :
    ((s.extract a (a + 3)).toList == [ch, ch, ch] && endsB s ((a : Int) + 3)) = mk3 s a b ch.toNat := by
  obtain ⟨x, y, z, h1, h2, h3, h4⟩ := three_bytes s a (by omega)
  have hE : endsB s ((a : Int) + 3) = decide (a + 3 = b ∨ U.white (byt s (a + 3) : Int) = true) := by
    by_cases h5 : a + 3 = s.size
    · rw [endsB_out _ _ (.inr (by omega))]
      have : a + 3 = b := by omega
      simp [this]
    · rw [show (a : Int) + 3 = ((a + 3 : Nat) : Int) from by omega, endsB_in _ _ (by omega)]
      by_cases h6 : a + 3 = b
      · have h7 := he.resolve_left (by omega)
        rw [h6, h7]
        simp [U.endc]
      · rw [endc_ne (hn _ (by omega) (by omega))]
        simp [h6]
  rw [h1, hE]
  unfold mk3
  rw [← h2, ← h3, ← h4, Bool.eq_iff_iff]
  simp only [Bool.and_eq_true, decide_eq_true_eq, beq_iff_eq, List.cons.injEq, and_true]
  constructor
  · rintro ⟨⟨rfl, rfl, rfl⟩, h8⟩; exact ⟨by omega, rfl, rfl, rfl, h8⟩
  · rintro ⟨_, h5, h6, h7, h8⟩; exact ⟨⟨UInt8.toNat_inj.1 h5, UInt8.toNat_inj.1 h6, UInt8.toNat_inj.1 h7⟩, h8⟩
theorem mk3_short (s : ByteArray) (a b ch : Nat) (h : ¬ a + 3 ≤ b) : mk3 s a b ch = false := decide_eq_false (fun h2 => h h2.1)

set_option maxHeartbeats 800000 in
theorem refKind_is (q : Int) (a b p : Nat) (s : ByteArray) (at' : Int) (w : World) (hs : s.size ≤ 1099511627776) (hB : RowB s (clampN at' s.size) a) (hE : RowE s (clampN at' s.size) b) (hF : FirN s a b p) (hq : kindN s a b p = q) :
    Calls Tryd.prog 38 #[.string s, .int .i64 at'] w fun e w' => e = .returned (.int .i64 q) ∧ w = w' := by
  have h1 := hB.1
  have h2 := hE.1
  have h3 := hE.2.1
  have h4 := hF.1
  have h5 := hF.2.1
  have hn : ∀ j, j < b → a ≤ j → byt s j ≠ 10 := (hB.within hE (by omega) (Nat.le_refl _)).2.1
  have he := hE.2.2.2
  have HB := Lib.hid hB
  have HE := Lib.hid hE
  have HF := Lib.hid hF
  clear hB hE hF
  have CF := First_is a b p s w hs h3 HF.out
  by_cases h33 : a + 3 ≤ b
  · obtain ⟨y, hy⟩ : ∃ y, endsB s ((a : Int) + 3) = y := ⟨_, rfl⟩
    have hx : mk3 s a b 45 = _ := (ref_mark s a b 45 h33 h3 hn he).symm
    have hz : mk3 s a b 46 = _ := (ref_mark s a b 46 h33 h3 hn he).symm
    rw [hy] at hx hz
    have HY := Lib.hid hy
    obtain ⟨x, hx2⟩ : ∃ x, ((s.extract a (a + 3)).toList == [45, 45, 45]) = x := ⟨_, rfl⟩
    rw [hx2] at hx
    clear hy hn he
    cases y with
    | true =>
      unfold kindN at hq
      rw [Bool.and_true] at hx hz
      rw [hx, hz] at hq
      cases x with
      | true =>
        rw [if_pos rfl] at hq
        subst hq
        go_enter Tryd.func38, Tryd.ntmps38
        go_wp2_with fail
        refine (refRow_is a b s at' _ hs HB.out HE.out).mono ?_
        rintro e w' ⟨rfl, rfl⟩
        go_wp2_with fail
        refine (refEnds_is true s ((a : Int) + 3) _ hs HY.out).mono ?_
        rintro e w' ⟨rfl, rfl⟩
        go_wp2
        go_ret
        exact ⟨rfl, rfl⟩
      | false =>
        rw [if_neg (by decide)] at hq
        obtain ⟨z, hz2⟩ : ∃ z, ((s.extract a (a + 3)).toList == [46, 46, 46]) = z := ⟨_, rfl⟩
        rw [hz2] at hq
        cases z with
        | true =>
          rw [if_pos rfl] at hq
          subst hq
          go_enter Tryd.func38, Tryd.ntmps38
          go_wp2_with fail
          refine (refRow_is a b s at' _ hs HB.out HE.out).mono ?_
          rintro e w' ⟨rfl, rfl⟩
          go_wp2_with fail
          refine (refEnds_is true s ((a : Int) + 3) _ hs HY.out).mono ?_
          rintro e w' ⟨rfl, rfl⟩
          go_wp2
          go_ret
          exact ⟨rfl, rfl⟩
        | false =>
          rw [if_neg (by decide)] at hq
          by_cases hpb : p = b
          · rw [if_pos hpb] at hq
            subst hq
            go_enter Tryd.func38, Tryd.ntmps38
            go_wp2_with fail
            refine (refRow_is a b s at' _ hs HB.out HE.out).mono ?_
            rintro e w' ⟨rfl, rfl⟩
            go_wp2_with fail
            refine (refEnds_is true s ((a : Int) + 3) _ hs HY.out).mono ?_
            rintro e w' ⟨rfl, rfl⟩
            go_wp2_with fail
            refine CF.mono ?_
            rintro e w' ⟨rfl, rfl⟩
            go_wp2
            go_ret
            exact ⟨rfl, rfl⟩
          · rw [if_neg hpb] at hq
            have hix := run_byt s p (by omega) _ rfl
            obtain ⟨u, hu⟩ : ∃ u, u = byt s p := ⟨_, rfl⟩
            rw [← hu] at hix hq
            clear hu
            by_cases h35 : u = 35
            · rw [if_pos h35] at hq
              subst hq
              subst h35
              go_enter Tryd.func38, Tryd.ntmps38
              go_wp2_with fail
              refine (refRow_is a b s at' _ hs HB.out HE.out).mono ?_
              rintro e w' ⟨rfl, rfl⟩
              go_wp2_with fail
              refine (refEnds_is true s ((a : Int) + 3) _ hs HY.out).mono ?_
              rintro e w' ⟨rfl, rfl⟩
              go_wp2_with fail
              refine CF.mono ?_
              rintro e w' ⟨rfl, rfl⟩
              go_wp2
              go_ret
              exact ⟨rfl, rfl⟩
            · rw [if_neg h35] at hq
              subst hq
              have hub : ((u : Int) == 35) = false := by simp; omega
              clear h35
              go_enter Tryd.func38, Tryd.ntmps38
              go_wp2_with fail
              refine (refRow_is a b s at' _ hs HB.out HE.out).mono ?_
              rintro e w' ⟨rfl, rfl⟩
              go_wp2_with fail
              refine (refEnds_is true s ((a : Int) + 3) _ hs HY.out).mono ?_
              rintro e w' ⟨rfl, rfl⟩
              go_wp2_with fail
              refine CF.mono ?_
              rintro e w' ⟨rfl, rfl⟩
              go_wp2
              go_ret
              exact ⟨rfl, rfl⟩
    | false =>
      unfold kindN at hq
      rw [Bool.and_false] at hx hz
      rw [hx, hz, if_neg (by decide), if_neg (by decide)] at hq
      clear hx2
      by_cases hpb : p = b
      · rw [if_pos hpb] at hq
        subst hq
        go_enter Tryd.func38, Tryd.ntmps38
        go_wp2_with fail
        refine (refRow_is a b s at' _ hs HB.out HE.out).mono ?_
        rintro e w' ⟨rfl, rfl⟩
        go_wp2_with fail
        refine (refEnds_is false s ((a : Int) + 3) _ hs HY.out).mono ?_
        rintro e w' ⟨rfl, rfl⟩
        go_wp2_with fail
        refine CF.mono ?_
        rintro e w' ⟨rfl, rfl⟩
        go_wp2
        go_ret
        exact ⟨rfl, rfl⟩
      · rw [if_neg hpb] at hq
        have hix := run_byt s p (by omega) _ rfl
        obtain ⟨u, hu⟩ : ∃ u, u = byt s p := ⟨_, rfl⟩
        rw [← hu] at hix hq
        clear hu
        by_cases h35 : u = 35
        · rw [if_pos h35] at hq
          subst hq
          subst h35
          go_enter Tryd.func38, Tryd.ntmps38
          go_wp2_with fail
          refine (refRow_is a b s at' _ hs HB.out HE.out).mono ?_
          rintro e w' ⟨rfl, rfl⟩
          go_wp2_with fail
          refine (refEnds_is false s ((a : Int) + 3) _ hs HY.out).mono ?_
          rintro e w' ⟨rfl, rfl⟩
          go_wp2_with fail
          refine CF.mono ?_
          rintro e w' ⟨rfl, rfl⟩
          go_wp2
          go_ret
          exact ⟨rfl, rfl⟩
        · rw [if_neg h35] at hq
          subst hq
          have hub : ((u : Int) == 35) = false := by simp; omega
          clear h35
          go_enter Tryd.func38, Tryd.ntmps38
          go_wp2_with fail
          refine (refRow_is a b s at' _ hs HB.out HE.out).mono ?_
          rintro e w' ⟨rfl, rfl⟩
          go_wp2_with fail
          refine (refEnds_is false s ((a : Int) + 3) _ hs HY.out).mono ?_
          rintro e w' ⟨rfl, rfl⟩
          go_wp2_with fail
          refine CF.mono ?_
          rintro e w' ⟨rfl, rfl⟩
          go_wp2
          go_ret
          exact ⟨rfl, rfl⟩
  · unfold kindN at hq
    rw [mk3_short s a b 45 h33, mk3_short s a b 46 h33, if_neg (by decide), if_neg (by decide)] at hq
    by_cases hpb : p = b
    · rw [if_pos hpb] at hq
      subst hq
      go_enter Tryd.func38, Tryd.ntmps38
      go_wp2_with fail
      refine (refRow_is a b s at' _ hs HB.out HE.out).mono ?_
      rintro e w' ⟨rfl, rfl⟩
      go_wp2_with fail
      refine CF.mono ?_
      rintro e w' ⟨rfl, rfl⟩
      go_wp2
      go_ret
      exact ⟨rfl, rfl⟩
    · rw [if_neg hpb] at hq
      have hix := run_byt s p (by omega) _ rfl
      obtain ⟨u, hu⟩ : ∃ u, u = byt s p := ⟨_, rfl⟩
      rw [← hu] at hix hq
      clear hu
      by_cases h35 : u = 35
      · rw [if_pos h35] at hq
        subst hq
        subst h35
        go_enter Tryd.func38, Tryd.ntmps38
        go_wp2_with fail
        refine (refRow_is a b s at' _ hs HB.out HE.out).mono ?_
        rintro e w' ⟨rfl, rfl⟩
        go_wp2_with fail
        refine CF.mono ?_
        rintro e w' ⟨rfl, rfl⟩
        go_wp2
        go_ret
        exact ⟨rfl, rfl⟩
      · rw [if_neg h35] at hq
        subst hq
        have hub : ((u : Int) == 35) = false := by simp; omega
        clear h35
        go_enter Tryd.func38, Tryd.ntmps38
        go_wp2_with fail
        refine (refRow_is a b s at' _ hs HB.out HE.out).mono ?_
        rintro e w' ⟨rfl, rfl⟩
        go_wp2_with fail
        refine CF.mono ?_
        rintro e w' ⟨rfl, rfl⟩
        go_wp2
        go_ret
        exact ⟨rfl, rfl⟩

end Go.Proofs.YtomdhgbofocbbaaDoor
