/- The document's answers of chapter 7: blank rows above. Conditions: those that each theorem writes out (lengths that memory can hold). -/
import Derived.Test.YtomdhgbofocbbaaDoorLinRefK
namespace Go.Proofs.YtomdhgbofocbbaaDoor
open Go.RowKit

theorem above_none {s : ByteArray} {c a p k n : Nat} (hB : RowB s c a) (hF : FirN s a c p) (hp : p < c) (h : Abv s c k n) : n = 0 := by
  have hw := hF.2.2.2.resolve_left (by omega)
  have hl := hB.2.1 p hp hF.1
  have hk : ¬ k ≤ p := fun hk => by
    have := h.2.1 p hp hk
    rw [wl_other hl, hw] at this
    cases this
  have h1 := hF.1
  obtain ⟨_, _, hn⟩ := h.2.2.resolve_left (by omega)
  have := lfs_same c h.1 (fun j h2 h3 => hB.2.1 j h2 (by omega))
  omega
theorem above_more {s : ByteArray} {c k n f f' : Nat} (h : Abv s c k n) (hk : k ≤ f) (hf : 0 < f) (hb : byt s (f - 1) = 10) (hB : RowB s (f - 1) f') (hF : FirN s f' (f - 1) (f - 1)) : k ≤ f' ∧ lfs s f = lfs s f' + 1 := by
  constructor
  · rcases Nat.lt_or_ge f' k with h1 | h1
    · exfalso
      obtain ⟨_, hw, _⟩ := h.2.2.resolve_left (by omega)
      by_cases h2 : k = f
      · rw [h2, wl_lf hb] at hw; cases hw
      · have := hF.2.2.1 (k - 1) (by omega) (by omega)
        rw [wl_other (hB.2.1 _ (by omega) (by omega)), this] at hw
        cases hw
    · exact h1
  · rw [show f = f - 1 + 1 from by omega, lfs_lf hb, lfs_same (f - 1) hB.1 hB.2.1]
theorem above_stop {s : ByteArray} {c k n f f' p m : Nat} (h : Abv s c k n) (hk : k ≤ f) (hf : 0 < f) (hb : byt s (f - 1) = 10) (hB : RowB s (f - 1) f') (hF : FirN s f' (f - 1) p) (hfc : f ≤ c) (hp : p ≠ f - 1) (hm : m + lfs s f = lfs s c) : n = m := by
  have h1 := hF.1
  have h2 := hF.2.1
  have hw := hF.2.2.2.resolve_left hp
  have hl := hB.2.1 p (by omega) h1
  have hkp : ¬ k ≤ p := fun hk => by
    have := h.2.1 p (by omega) hk
    rw [wl_other hl, hw] at this
    cases this
  obtain ⟨_, hwk, hn⟩ := h.2.2.resolve_left (by omega)
  have hkf : k ≠ f := fun e => by rw [e, wl_lf hb] at hwk; cases hwk
  have e1 : lfs s (f - 1) = lfs s k := lfs_same (f - 1) (by omega) (fun j h3 h4 => hB.2.1 j h3 (by omega))
  have e2 : lfs s f = lfs s (f - 1) + 1 := by
    conv => lhs; rw [show f = f - 1 + 1 from by omega]
    exact lfs_lf hb
  omega
theorem clampN_in (c n : Nat) (h : c ≤ n) : clampN (c : Int) n = c := clampN_self c n h

set_option maxHeartbeats 800000 in
theorem refAbove_is (n c k : Nat) (s : ByteArray) (at' : Int) (w : World) (hs : s.size ≤ 1099511627776) (hc : clampN at' s.size = c) (h : Abv s c k n) :
    Calls Tryd.prog 45 #[.string s, .int .i64 at'] w fun e w' => e = .returned (.int .i64 (n : Int)) ∧ w = w' := by
  have hcs := clampN_le at' s.size
  rw [hc] at hcs
  have HC := Lib.hid hc
  have hkc := h.1
  have H := Lib.hid h
  obtain ⟨a, hB⟩ := RowB.ex s c
  obtain ⟨b, hE⟩ := RowE.ex s c hcs
  obtain ⟨p, hF⟩ := FirN.ex s a c hB.1
  have hac := hB.1
  have hp1 := hF.2.1
  have CR := refRow_is a b s (c : Int) w hs (by rw [clampN_in c _ hcs]; exact hB) (by rw [clampN_in c _ hcs]; exact hE)
  have CF := First_is a c p s w hs hcs hF
  by_cases hpc : p < c
  · have hn := above_none hB hF hpc h
    subst hn
    clear hc h hB hE hF
    go_enter Tryd.func45, Tryd.ntmps45
    go_wp2_with fail
    refine (held_is c s at' _ hs HC.out).mono ?_
    rintro e w' ⟨rfl, rfl⟩
    go_wp2_with fail
    refine CR.mono ?_
    rintro e w' ⟨rfl, rfl⟩
    go_wp2_with fail
    refine CF.mono ?_
    rintro e w' ⟨rfl, rfl⟩
    go_wp2
    go_ret
    exact ⟨rfl, rfl⟩
  · have hk : k ≤ a := by
      obtain rfl : p = c := by omega
      rcases Nat.lt_or_ge a k with h1 | h1
      · exfalso
        obtain ⟨_, hw, _⟩ := h.2.2.resolve_left (by omega)
        have := hF.2.2.1 (k - 1) (by omega) (by omega)
        rw [wl_other (hB.2.1 _ (by omega) (by omega)), this] at hw
        cases hw
      · exact h1
    have hl : lfs s a = lfs s c := (lfs_same c hB.1 hB.2.1).symm
    have hst := hB.2.2
    have H0 := Lib.hid (show a = 0 ∨ byt s (a - 1) = 10 from hst)
    have H1 := Lib.hid hl
    clear hc h hB hE hF hst hl
    go_enter Tryd.func45, Tryd.ntmps45
    go_wp2_with fail
    refine (held_is c s at' _ hs HC.out).mono ?_
    rintro e w' ⟨rfl, rfl⟩
    go_wp2_with fail
    refine CR.mono ?_
    rintro e w' ⟨rfl, rfl⟩
    go_wp2_with fail
    refine CF.mono ?_
    rintro e w' ⟨rfl, rfl⟩
    go_wp2
    clear CR CF
    go_loop [5, 7] (fun vf vm => ∃ f m : Nat, vf = .int .i64 (f : Int) ∧ vm = .int .i64 (m : Int) ∧ k ≤ f ∧ f ≤ c ∧ f + m ≤ c ∧ Hid (f = 0 ∨ byt s (f - 1) = 10) ∧ Hid (m + lfs s f = lfs s c)) (fun vf _ => (intOf vf).toNat)
    case atStart => exact ⟨a, 0, rfl, rfl, hk, hac, by omega, H0, by show _ = _; rw [Nat.zero_add]; exact H1.out⟩
    case round =>
      obtain ⟨f, m, rfl, rfl, hkf, hfc, hfm, HS, HM⟩ := hrel
      by_cases hf0 : f = 0
      · subst hf0
        have hn : n = m := by
          have h1 := HM.out
          rcases H.out.2.2 with h2 | h2
          · have : lfs s 0 = 0 := rfl
            omega
          · omega
        subst hn
        go_wp2
        go_ret
        exact ⟨rfl, rfl⟩
      · have hf1 : 0 < f := by omega
        have hb := HS.out.resolve_left hf0
        obtain ⟨g, hB⟩ := RowB.ex s (f - 1)
        obtain ⟨p', hF⟩ := FirN.ex s g (f - 1) hB.1
        have hE : RowE s (f - 1) (f - 1) := ⟨Nat.le_refl _, by omega, fun j h1 h2 => by omega, .inr hb⟩
        have hg := hB.1
        have hcast : (f : Int) - 1 = ((f - 1 : Nat) : Int) := by omega
        have CR : ∀ W, Calls Tryd.prog 37 #[.string s, .int .i64 ((f : Int) - 1)] W fun e w' => e = .returned (.tuple #[.int .i64 (g : Int), .int .i64 ((f - 1 : Nat) : Int)]) ∧ W = w' := fun W => by
          rw [hcast]
          exact refRow_is g (f - 1) s _ W hs (by rw [clampN_in _ _ (by omega)]; exact hB) (by rw [clampN_in _ _ (by omega)]; exact hE)
        obtain ⟨q, hq⟩ : ∃ q, kindN s g (f - 1) p' = q := ⟨_, rfl⟩
        have CK : ∀ W, Calls Tryd.prog 38 #[.string s, .int .i64 (g : Int)] W fun e w' => e = .returned (.int .i64 q) ∧ W = w' := fun W =>
          refKind_is q g (f - 1) p' s _ W hs (by rw [clampN_in _ _ (by omega)]; exact hB.within hE (Nat.le_refl _) hB.1) (by rw [clampN_in _ _ (by omega)]; exact hE.within hB (Nat.le_refl _) hB.1) hF hq
        have hbl := kind_blank hF
        rw [hq] at hbl
        by_cases hp : p' = f - 1
        · have hq1 := hbl.2 hp
          subst hp
          have hm := above_more H.out hkf hf1 hb hB hF
          have HN : Hid (m + 1 + lfs s g = lfs s c) := by
            show _ = _
            have := HM.out
            rw [hm.2] at this
            omega
          have HS2 := Lib.hid hB.2.2
          have hm1 := hm.1
          subst hq1
          clear hq hbl hF hB hE hb HM HS hm hcast hf0
          go_wp2_with fail
          refine (CR _).mono ?_
          rintro e w' ⟨rfl, rfl⟩
          go_wp2_with fail
          refine (CK _).mono ?_
          rintro e w' ⟨rfl, rfl⟩
          go_wp2
          go_round
          case rel => exact ⟨g, m + 1, rfl, by go_num, hm1, by omega, by omega, HS2, HN⟩
          case measure => simp [intOf]; omega
        · have hn := above_stop H.out hkf hf1 hb hB hF hfc hp HM.out
          have hq1 : (q == 1) = false := by
            simp only [beq_eq_false_iff_ne]; exact fun e => hp (hbl.1 e)
          subst hn
          clear hq hbl hF hB hE hb HM HS hcast hf0 hp
          go_wp2_with fail
          refine (CR _).mono ?_
          rintro e w' ⟨rfl, rfl⟩
          go_wp2_with fail
          refine (CK _).mono ?_
          rintro e w' ⟨rfl, rfl⟩
          go_wp2
          go_ret
          exact ⟨rfl, rfl⟩

end Go.Proofs.YtomdhgbofocbbaaDoor
