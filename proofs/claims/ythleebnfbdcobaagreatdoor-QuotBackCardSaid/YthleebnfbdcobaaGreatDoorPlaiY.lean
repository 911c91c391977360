/- Plain scalars as the program reads them: code points whose bytes end no part, and what stands behind a part, place by place: plain facts (nothing of the program). Conditions: none beside those that each theorem writes out. -/
import Derived.Test.YthleebnfbdcobaaGreatDoorPlaiP
import Derived.Test.YthleebnfbdcobaaGreatDoorLin
namespace Go.Proofs.YthleebnfbdcobaaGreatDoor
open Go.RowKit

set_option maxRecDepth 100000 in
/-- A code point is a byte of ASCII, or none of its bytes is one. -/
theorem dec_split (s : ByteArray) (k : Nat) (h : k < s.size) : (byt s k < 128 ∧ (Utf8.decode s k).1 = byt s k ∧ (Utf8.decode s k).2 = 1) ∨ (128 ≤ byt s k ∧ 128 ≤ (Utf8.decode s k).1 ∧ ∀ j, j < (Utf8.decode s k).2 → 128 ≤ byt s (k + j)) := by
  have hne := drop_ne h
  have hg : ∀ j, ((s.data.toList.drop k).getD j 0).toNat = byt s (k + j) := fun j => by
    rw [byt_list]; simp [List.getD]
  rw [← Lib.decodeL_drop, Lib.decodeL_N, hg 0, hg 1, hg 2, hg 3, Nat.add_zero]
  rcases Lib.decodeN_shape (s.data.toList.drop k).length (byt s k) (byt s (k + 1)) (byt s (k + 2)) (byt s (k + 3)) with ⟨c, e⟩ | ⟨c1, c2, c3, cv, e⟩ | ⟨c1, c2, c3, c4, cv, cs, e⟩ | ⟨c1, c2, c3, c4, c5, cv, cw, e⟩ | e
  · exact .inl ⟨by omega, by rw [e], by rw [e]⟩
  · rw [e]
    refine .inr ⟨by omega, by dsimp only; omega, fun j hj => ?_⟩
    dsimp only at hj
    rcases (show j = 0 ∨ j = 1 by omega) with rfl | rfl
    · rw [Nat.add_zero]; omega
    · omega
  · rw [e]
    refine .inr ⟨by omega, by dsimp only; omega, fun j hj => ?_⟩
    dsimp only at hj
    rcases (show j = 0 ∨ j = 1 ∨ j = 2 by omega) with rfl | rfl | rfl
    · rw [Nat.add_zero]; omega
    · omega
    · omega
  · rw [e]
    refine .inr ⟨by omega, by dsimp only; omega, fun j hj => ?_⟩
    dsimp only at hj
    rcases (show j = 0 ∨ j = 1 ∨ j = 2 ∨ j = 3 by omega) with rfl | rfl | rfl | rfl
    · rw [Nat.add_zero]; omega
    · omega
    · omega
    · omega
  · by_cases hb : byt s k < 128
    · rw [Lib.decodeN_ascii _ _ _ _ _ hb]
      exact .inl ⟨hb, rfl, rfl⟩
    · rw [e]
      refine .inr ⟨by omega, by dsimp only; omega, fun j hj => ?_⟩
      dsimp only at hj
      obtain rfl : j = 0 := by omega
      rw [Nat.add_zero]; omega

theorem flow_high {b : Nat} (h : 128 ≤ b) : U.flow (b : Int) = false := by
  unfold U.flow; rw [decide_eq_false_iff_not]; omega
theorem white_high {b : Nat} (h : 128 ≤ b) : U.white (b : Int) = false := by
  unfold U.white; rw [decide_eq_false_iff_not]; omega
theorem white_not {b : Nat} (h : U.white (b : Int) = true) : b = 32 ∨ b = 9 := by
  unfold U.white at h; rw [decide_eq_true_eq] at h; omega
theorem stop_high {s : ByteArray} {fl : Bool} {p : Nat} (h : 128 ≤ byt s p) : stopB s fl p = false := by
  unfold stopB
  rw [decide_eq_false (show ¬ byt s p = 10 by omega), decide_eq_false (show ¬ byt s p = 35 by omega), decide_eq_false (show ¬ byt s p = 58 by omega), flow_high h]
  simp
/-- White ends no part. -/
theorem stop_white {s : ByteArray} {fl : Bool} {p : Nat} (h : U.white (byt s p : Int) = true) : stopB s fl p = false := by
  have hb := white_not h
  unfold stopB
  rw [decide_eq_false (show ¬ byt s p = 10 by omega), decide_eq_false (show ¬ byt s p = 35 by omega), decide_eq_false (show ¬ byt s p = 58 by omega)]
  have : U.flow (byt s p : Int) = false := by
    rcases hb with hb | hb
    · rw [hb]; decide
    · rw [hb]; decide
  rw [this]
  simp

/-- What next answers from a place m on, B line feeds behind the first one. -/
inductive NxS (s : ByteArray) (n : Int) : Nat → Int → Nat → Int → Prop
  | fin {m : Nat} {B : Int} : s.size ≤ m → NxS s n m B s.size 0
  | lf {m F : Nat} {B K : Int} : m < s.size → byt s m = 10 → NxS s n (m + 1) (B + 1) F K → NxS s n m B F K
  | wh {m F : Nat} {B K : Int} : m < s.size → U.white (byt s m : Int) = true → NxS s n (m + 1) B F K → NxS s n m B F K
  | early {m : Nat} {B : Int} : m < s.size → byt s m ≠ 10 → U.white (byt s m : Int) = false → B < 0 → NxS s n m B s.size 0
  | no {m a b p i : Nat} {B : Int} : m < s.size → byt s m ≠ 10 → U.white (byt s m : Int) = false → 0 ≤ B → RowB s m a → RowE s m b → FirN s a b p → InN s a b i → (kindN s a b p ≠ 5 ∨ (i : Int) ≤ n) → NxS s n m B s.size 0
  | yes {m a b p i : Nat} {B : Int} : m < s.size → byt s m ≠ 10 → U.white (byt s m : Int) = false → 0 ≤ B → RowB s m a → RowE s m b → FirN s a b p → InN s a b i → kindN s a b p = 5 → n < (i : Int) → NxS s n m B m B
theorem NxS.ex (s : ByteArray) (n : Int) : ∀ (g m : Nat) (B : Int), s.size ≤ m + g → ∃ F K, NxS s n m B F K := by
  intro g
  induction g with
  | zero => intro m B h; exact ⟨_, _, .fin (by omega)⟩
  | succ g ih =>
    intro m B h
    by_cases hm : m < s.size
    · by_cases h10 : byt s m = 10
      · obtain ⟨F, K, hh⟩ := ih (m + 1) (B + 1) (by omega)
        exact ⟨F, K, .lf hm h10 hh⟩
      · cases hw : U.white (byt s m : Int) with
        | true =>
          obtain ⟨F, K, hh⟩ := ih (m + 1) B (by omega)
          exact ⟨F, K, .wh hm hw hh⟩
        | false =>
          by_cases hB : B < 0
          · exact ⟨_, _, .early hm h10 hw hB⟩
          · obtain ⟨a, ha⟩ := RowB.ex s m
            obtain ⟨b, hb⟩ := RowE.ex s m (by omega)
            have hab : a ≤ b := by have := ha.1; have := hb.1; omega
            obtain ⟨p, hp⟩ := FirN.ex s a b hab
            obtain ⟨i, hi⟩ := InN.ex s a b hab
            by_cases hk : kindN s a b p ≠ 5 ∨ (i : Int) ≤ n
            · exact ⟨_, _, .no hm h10 hw (by omega) ha hb hp hi hk⟩
            · exact ⟨_, _, .yes hm h10 hw (by omega) ha hb hp hi (by omega) (by omega)⟩
    · exact ⟨_, _, .fin (by omega)⟩
theorem NxS.le {s : ByteArray} {n : Int} {m F : Nat} {B K : Int} (h : NxS s n m B F K) : m ≤ s.size → F ≤ s.size := by
  induction h with
  | fin _ => intro _; exact Nat.le_refl _
  | lf h _ _ ih => intro _; exact ih (by omega)
  | wh h _ _ ih => intro _; exact ih (by omega)
  | early _ _ _ _ => intro _; exact Nat.le_refl _
  | no _ _ _ _ _ _ _ _ _ => intro _; exact Nat.le_refl _
  | yes h _ _ _ _ _ _ _ _ _ => intro _; omega
theorem NxS.end {s : ByteArray} {n : Int} {m F : Nat} {B K : Int} (h : NxS s n m B F K) (hm : s.size ≤ m) : F = s.size ∧ K = 0 := by
  cases h with
  | fin _ => exact ⟨rfl, rfl⟩
  | lf h => omega
  | wh h => omega
  | early h => omega
  | no h => omega
  | yes h => omega
theorem white10 {b : Nat} (h : U.white (b : Int) = true) : b ≠ 10 := by have := white_not h; omega
theorem NxS.lf_inv {s : ByteArray} {n : Int} {m F : Nat} {B K : Int} (h : NxS s n m B F K) (hm : m < s.size) (h10 : byt s m = 10) : NxS s n (m + 1) (B + 1) F K := by
  cases h with
  | fin h => omega
  | lf _ _ h => exact h
  | wh _ h => exact absurd h10 (white10 h)
  | early _ h => exact absurd h10 h
  | no _ h => exact absurd h10 h
  | yes _ h => exact absurd h10 h
theorem NxS.wh_inv {s : ByteArray} {n : Int} {m F : Nat} {B K : Int} (h : NxS s n m B F K) (hm : m < s.size) (hw : U.white (byt s m : Int) = true) : NxS s n (m + 1) B F K := by
  cases h with
  | fin h => omega
  | lf _ h => exact absurd h (white10 hw)
  | wh _ _ h => exact h
  | early _ _ h => rw [hw] at h; cases h
  | no _ _ h => rw [hw] at h; cases h
  | yes _ _ h => rw [hw] at h; cases h
theorem NxS.early_inv {s : ByteArray} {n : Int} {m F : Nat} {B K : Int} (h : NxS s n m B F K) (h10 : byt s m ≠ 10) (hw : U.white (byt s m : Int) = false) (hB : B < 0) : F = s.size ∧ K = 0 := by
  cases h with
  | fin h => exact ⟨rfl, rfl⟩
  | lf _ h => exact absurd h h10
  | wh _ h => rw [hw] at h; cases h
  | early _ _ h => exact ⟨rfl, rfl⟩
  | no _ _ _ _ => omega
  | yes _ _ _ _ => omega
theorem NxS.in_inv {s : ByteArray} {n : Int} {m F a b p i : Nat} {B K : Int} (h : NxS s n m B F K) (hm : m < s.size) (h10 : byt s m ≠ 10) (hw : U.white (byt s m : Int) = false) (hB : 0 ≤ B) (ha : RowB s m a) (hb : RowE s m b) (hp : FirN s a b p) (hi : InN s a b i) :
    (kindN s a b p = 5 ∧ n < (i : Int) ∧ F = m ∧ K = B) ∨ ((kindN s a b p ≠ 5 ∨ (i : Int) ≤ n) ∧ F = s.size ∧ K = 0) := by
  cases h with
  | fin h => omega
  | lf _ h => exact absurd h h10
  | wh _ h => rw [hw] at h; cases h
  | early _ _ _ h => omega
  | no _ _ _ _ ha' hb' hp' hi' hk =>
    obtain rfl := ha.uniq ha'
    obtain rfl := hb.uniq hb'
    obtain rfl := hp.uniq hp'
    obtain rfl := hi.uniq hi'
    exact .inr ⟨hk, rfl, rfl⟩
  | yes _ _ _ _ ha' hb' hp' hi' hk hn =>
    obtain rfl := ha.uniq ha'
    obtain rfl := hb.uniq hb'
    obtain rfl := hp.uniq hp'
    obtain rfl := hi.uniq hi'
    exact .inl ⟨hk, hn, rfl, rfl⟩
/-- Over White. -/
theorem NxS.over {s : ByteArray} {n : Int} {F : Nat} {B K : Int} : ∀ (d m : Nat), NxS s n m B F K → m + d ≤ s.size → (∀ j, j < m + d → m ≤ j → U.white (byt s j : Int) = true) → NxS s n (m + d) B F K := by
  intro d
  induction d with
  | zero => intro m h _ _; exact h
  | succ d ih =>
    intro m h hd hw
    have := ih (m + 1) (h.wh_inv (by omega) (hw m (by omega) (Nat.le_refl _))) (by omega) (fun j h1 h2 => hw j (by omega) (by omega))
    rwa [show m + 1 + d = m + (d + 1) by omega] at this
/-- Over blank rows. -/
theorem NxS.blank {s : ByteArray} {n : Int} {F a k c : Nat} (h : Blk s a k c) : ∀ {B K : Int}, NxS s n a B F K → (c < s.size ∧ NxS s n c (B + k) F K) ∨ (s.size ≤ c ∧ F = s.size ∧ K = 0) := by
  induction h with
  | over h => intro B K hh; exact .inr ⟨h, hh.end h⟩
  | text ha _ _ _ => intro B K hh; exact .inl ⟨ha, by simpa using hh⟩
  | more ha hb hp hr ih =>
    rename_i a b k c
    intro B K hh
    have hb1 := hb.1
    have hb2 := hb.2.1
    have h1 := NxS.over (b - a) a hh (by omega) (fun j h1 h2 => hp.2.2.1 j (by omega) h2)
    rw [show a + (b - a) = b by omega] at h1
    rcases hb.2.2.2 with h2 | h2
    · obtain ⟨rfl, rfl⟩ := h1.end (by omega)
      obtain ⟨_, rfl⟩ := hr.end (by omega)
      exact .inr ⟨by omega, rfl, rfl⟩
    · by_cases h3 : b < s.size
      · have h4 := ih (h1.lf_inv h3 h2)
        rwa [show B + 1 + (k : Int) = B + ((k + 1 : Nat) : Int) by omega] at h4
      · obtain ⟨rfl, rfl⟩ := h1.end (by omega)
        obtain ⟨_, rfl⟩ := hr.end (by omega)
        exact .inr ⟨by omega, rfl, rfl⟩

theorem StpN.last {s : ByteArray} {fl : Bool} {p : Nat} (h : StpN s fl s.size p) : p = s.size := by
  have := h.1; have := h.2.1; omega
/-- A step of what is read on, as the program takes it. -/
theorem PlaiG.step {s : ByteArray} {n : Int} {fl : Bool} {T : List UInt8} {E : Nat} {O : Bool} {C : Int} {g e : Nat} {R : List (List UInt8)} {one : Bool} (H : PlaiG s n fl T E O C (g + 1) e R one) (he : e ≤ s.size) {F : Nat} {K : Int} (hN : NxS s n e (-1) F K) {E1 : Nat} (hS : StpN s fl F E1) :
    (E1 = F ∧ T = U.flowT R ∧ E = e ∧ O = one ∧ C = 0) ∨
    (F < E1 ∧ e < F ∧ ∃ k : Nat, K = (k : Int) ∧ e + k < F ∧ ((fl = false ∧ E1 < s.size ∧ byt s E1 = 58 ∧ T = [] ∧ E = E1 ∧ O = false ∧ C = 5) ∨
      (¬ (fl = false ∧ E1 < s.size ∧ byt s E1 = 58) ∧ ∃ q, BakN s F E1 q ∧ F < q ∧ PlaiG s n fl T E O C g q (R ++ (U.blanksL k ++ [pieceL s F q])) false))) := by
  obtain ⟨t, ht⟩ := RowE.ex s e he
  obtain ⟨f, hf⟩ := FirN.ex s e t ht.1
  have ht1 := ht.1
  have ht2 := ht.2.1
  have hf1 := hf.1
  have hf2 := hf.2.1
  replace H := H t f ht hf
  have hO := NxS.over (f - e) e hN (by omega) (fun j h1 h2 => hf.2.2.1 j (by omega) h2)
  rw [show e + (f - e) = f by omega] at hO
  have out : F = s.size → E1 = F := fun hF => by subst hF; exact hS.last
  by_cases c1 : f < t ∨ s.size ≤ t
  · rw [if_pos c1] at H
    refine .inl ⟨out ?_, H⟩
    by_cases c2 : f < t
    · exact (hO.early_inv (ht.2.2.1 f c2 hf1) (hf.2.2.2.resolve_left (by omega)) (by omega)).1
    · exact (hO.end (by omega)).1
  rw [if_neg c1] at H
  obtain rfl : f = t := by omega
  have hlf : byt s f = 10 := ht.2.2.2.resolve_left (by omega)
  obtain ⟨k, a, hk⟩ := Blk.ex s (s.size + 1) (f + 1) (by omega)
  replace H := H k a hk
  have hka := hk.ge
  have hbl := NxS.blank hk (hO.lf_inv (by omega) hlf)
  by_cases c2 : s.size ≤ a
  · rw [if_pos c2] at H
    exact .inl ⟨out (hbl.resolve_left (by omega)).2.1, H⟩
  rw [if_neg c2] at H
  have hA := (hbl.resolve_right (by omega)).2
  rw [show (-1 : Int) + 1 + (k : Int) = (k : Int) by omega] at hA
  have hB : RowB s a a := hk.begins (RowB.behindLf hlf) (by omega)
  obtain ⟨b, hb⟩ := RowE.ex s a (by omega)
  have hb1 := hb.1
  have hb2 := hb.2.1
  obtain ⟨i, hi⟩ := InN.ex s a b hb.1
  obtain ⟨p, hp⟩ := FirN.ex s a b hb.1
  have hp1 := hp.1
  have hp2 := hp.2.1
  have hpb : p ≠ b := hk.stops (by omega) hb hp
  have hpw : U.white (byt s p : Int) = false := hp.2.2.2.resolve_left hpb
  have hp10 : byt s p ≠ 10 := hb.2.2.1 p (by omega) hp1
  replace H := H b i p hb hi hp
  have hP := NxS.over (p - a) a hA (by omega) (fun j h1 h2 => hp.2.2.1 j (by omega) h2)
  rw [show a + (p - a) = p by omega] at hP
  have hin := hP.in_inv (by omega) hp10 hpw (by omega) (hB.within hb hp1 hp2) (hb.within hB hp1 hp2) hp hi
  by_cases c3 : kindN s a b p ≠ 5 ∨ (i : Int) ≤ n
  · rw [if_pos c3] at H
    exact .inl ⟨out (hin.resolve_left (by omega)).2.1, H⟩
  rw [if_neg c3] at H
  obtain ⟨_, _, rfl, rfl⟩ := hin.resolve_right (by omega)
  obtain ⟨q, hq⟩ := BakN.ex s F E1 hS.1
  replace H := H q ⟨E1, hS, hq⟩
  have hq1 := hq.1
  have hq2 := hq.2.1
  have hS1 := hS.1
  by_cases c4 : q = F
  · rw [if_pos c4] at H
    refine .inl ⟨?_, H⟩
    refine Decidable.byContradiction fun hn => ?_
    have := hq.2.2.1 F (by omega) (by omega)
    rw [hpw] at this
    cases this
  rw [if_neg c4] at H
  have hEb : E1 ≤ b := by
    refine Decidable.byContradiction fun hn => ?_
    have h3 := hS.2.2.1 b (by omega) (by omega)
    have h4 := hb.2.2.2.resolve_left (by have := hS.2.1; omega)
    unfold stopB at h3
    rw [decide_eq_true h4] at h3
    cases h3
  obtain ⟨c, hc⟩ := FirN.ex s q b (by omega)
  have hc1 := hc.1
  have hc2 := hc.2.1
  replace H := H c hc
  refine .inr ⟨by omega, by omega, k, rfl, by omega, ?_⟩
  -- the first place behind the part that is not White is where the part ends, if a ':' stands at either
  have hcE : E1 ≤ c := by
    refine Decidable.byContradiction fun hn => ?_
    have h1 := hq.2.2.1 c (by omega) hc1
    rcases hc.2.2.2 with h2 | h2
    · omega
    · rw [h1] at h2; cases h2
  by_cases c5 : fl = false ∧ c < b ∧ byt s c = 58 ∧ endsB s ((c : Int) + 1) = true
  · rw [if_pos c5] at H
    obtain ⟨h1, h2, h3, h4⟩ := c5
    subst h1
    have : c = E1 := by
      refine Decidable.byContradiction fun hn => ?_
      have h5 := hc.2.2.1 E1 (by omega) (by omega)
      rcases hS.2.2.2 with h6 | h6
      · omega
      · rw [stop_white h5] at h6; cases h6
    subst this
    obtain ⟨rfl, rfl, rfl, rfl⟩ := H
    exact .inl ⟨rfl, by omega, h3, rfl, rfl, rfl, rfl⟩
  · rw [if_neg c5] at H
    refine .inr ⟨fun ⟨h1, h2, h3⟩ => c5 ?_, q, hq, by omega, H⟩
    subst h1
    have h6 := hS.2.2.2.resolve_left (by omega)
    have hce : c = E1 := by
      refine Decidable.byContradiction fun hn => ?_
      have h7 := hc.2.2.1 E1 (by omega) (by omega)
      rw [stop_white h7] at h6
      cases h6
    subst hce
    unfold stopB at h6
    rw [h3] at h6
    simp at h6
    refine ⟨rfl, ?_, h3, h6⟩
    refine Decidable.byContradiction fun hn => ?_
    obtain rfl : c = b := by omega
    have h8 := hb.2.2.2.resolve_left (by omega)
    omega

end Go.Proofs.YthleebnfbdcobaaGreatDoor
