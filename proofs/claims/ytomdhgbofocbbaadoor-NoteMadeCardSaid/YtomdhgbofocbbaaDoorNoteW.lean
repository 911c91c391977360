/- How note passes space: all of it at once, and behind it a look at the row in which it ends: plain facts (nothing of the program). Conditions: none beside those that each theorem writes out. -/
import Derived.Test.YtomdhgbofocbbaaDoorNoteP
namespace Go.Proofs.YtomdhgbofocbbaaDoor
open Go.RowKit

/-- How all space is passed, from a place on: a where it began, o the comments so far, b: does the first one stand in the row of a. -/
inductive PW (s : ByteArray) (a : Nat) (L : List (List UInt8 × Nat)) (S : Bool) (E : Nat) : Nat → List (List UInt8 × Nat) → Bool → Prop
  | over {p o b} : ¬ p < s.size → L = o → S = b → E = p → PW s a L S E p o b
  | white {p o b} : p < s.size → U.white (byt s p : Int) = true → PW s a L S E (p + 1) o b → PW s a L S E p o b
  | lf {p o b} : p < s.size → byt s p = 10 → PW s a L S E (p + 1) o b → PW s a L S E p o b
  | com {p rb t e k d o b} : p < s.size → ntB s p = true → RowB s p rb → RowE s p t → BakN s (p + 1) t e → Abv s p k d → PW s a L S E t (o ++ [(pieceL s (p + 1) e, d)]) (b || decide (rb < a)) → PW s a L S E p o b
  | stop {p o b} : p < s.size → U.white (byt s p : Int) = false → byt s p ≠ 10 → ntB s p = false → L = o → S = b → E = p → PW s a L S E p o b
/-- What is told of the row in which the space ends (q): it begins at r. -/
def NFin (s : ByteArray) (wi : Bool) (n : Int) (a : Nat) (L0 : List (List UInt8 × Nat)) (S0 : Bool) (q : Nat) (L : List (List UInt8 × Nat)) (S : Bool) (E : Nat) (C : Int) : Prop :=
  ∃ r t f i, RowB s q r ∧ RowE s q t ∧ FirN s r t f ∧ InN s r t i ∧
    ((wi = false ∧ a ≤ r ∧ kindN s r t f = 5 ∧ TabN s r q E ∧ L = [] ∧ S = false ∧ C = 4) ∨
     (wi = true ∧ a < r ∧ (kindN s r t f = 3 ∨ kindN s r t f = 4 ∨ (kindN s r t f = 5 ∧ (i : Int) ≤ n)) ∧ L = [] ∧ S = false ∧ E = q ∧ C = 5) ∨
     ((wi = false → a ≤ r → kindN s r t f = 5 → NoTab s r q) ∧ (wi = true → a < r → kindN s r t f ≠ 3 ∧ kindN s r t f ≠ 4 ∧ (kindN s r t f = 5 → n < (i : Int))) ∧ L = L0 ∧ S = S0 ∧ E = q ∧ C = 0))

theorem kind_3 {s : ByteArray} {a b p : Nat} (h : kindN s a b p = 3) : mk3 s a b 45 = true := by
  unfold kindN at h
  split at h
  · assumption
  · split at h
    · cases h
    · split at h
      · cases h
      · split at h <;> cases h
theorem kind_4 {s : ByteArray} {a b p : Nat} (h : kindN s a b p = 4) : mk3 s a b 46 = true := by
  unfold kindN at h
  split at h
  · cases h
  · split at h
    · assumption
    · split at h
      · cases h
      · split at h <;> cases h
theorem kind_5 {s : ByteArray} {a b p : Nat} (h : kindN s a b p = 5) : p ≠ b ∧ byt s p ≠ 35 := by
  unfold kindN at h
  split at h
  · cases h
  · split at h
    · cases h
    · split at h
      · cases h
      · split at h
        · cases h
        · exact ⟨by assumption, by assumption⟩
theorem kind_note {s : ByteArray} {a b p : Nat} (h3 : kindN s a b p ≠ 3) (h4 : kindN s a b p ≠ 4) (hp : p ≠ b) (h : byt s p = 35) : kindN s a b p = 2 := by
  revert h3 h4
  unfold kindN
  split
  · intro h3; exact absurd rfl h3
  · split
    · intro _ h4; exact absurd rfl h4
    · intro _ _
      first | rfl | rw [if_neg hp, if_pos h]
theorem kind_one {s : ByteArray} {a b p : Nat} (h3 : kindN s a b p ≠ 3) (h4 : kindN s a b p ≠ 4) (hp : p = b) : kindN s a b p = 1 := by
  revert h3 h4
  unfold kindN
  split
  · intro h3; exact absurd rfl h3
  · split
    · intro _ h4; exact absurd rfl h4
    · intro _ _
      first | rfl | rw [if_pos hp]
theorem kind_mark {s : ByteArray} {a b p : Nat} (h : kindN s a b p = 3 ∨ kindN s a b p = 4) : a + 3 ≤ b ∧ (byt s a = 45 ∨ byt s a = 46) := by
  rcases h with h | h
  · have := kind_3 h
    unfold mk3 at this
    rw [decide_eq_true_eq] at this
    exact ⟨this.1, .inl this.2.1⟩
  · have := kind_4 h
    unfold mk3 at this
    rw [decide_eq_true_eq] at this
    exact ⟨this.1, .inr this.2.1⟩
theorem ntB_not {s : ByteArray} {p : Nat} (h : byt s p ≠ 35) : ntB s p = false := by
  unfold ntB
  rw [decide_eq_false_iff_not]
  exact fun hc => h hc.1
/-- A row's White is passed up to its first byte that is none. -/
theorem PW.row {s : ByteArray} {a q t : Nat} {o : List (List UInt8 × Nat)} {b : Bool} (hE : RowE s q t) (hqt : q < t) (hw : U.white (byt s q : Int) = false) (h35 : byt s q ≠ 35) : ∀ (g p : Nat), p + g = q → (∀ j, j < q → p ≤ j → U.white (byt s j : Int) = true) → PW s a o b q p o b := by
  have hq : q < s.size := Nat.lt_of_lt_of_le hqt hE.2.1
  intro g
  induction g with
  | zero =>
    intro p h _
    obtain rfl : p = q := by omega
    exact .stop hq hw (hE.2.2.1 p hqt (Nat.le_refl _)) (ntB_not h35) rfl rfl rfl
  | succ g ih =>
    intro p h hW
    exact .white (by omega) (hW p (by omega) (Nat.le_refl _)) (ih (p + 1) (by omega) fun j h1 h2 => hW j h1 (by omega))
theorem PW.le {s : ByteArray} {a E p : Nat} {L o : List (List UInt8 × Nat)} {S b : Bool} (h : PW s a L S E p o b) : p ≤ s.size → p ≤ E ∧ E ≤ s.size := by
  induction h with
  | over _ _ _ e => intro hp; omega
  | white h1 _ _ ih => intro hp; have := ih (by omega); omega
  | lf h1 _ _ ih => intro hp; have := ih (by omega); omega
  | com h1 hn _ hE _ _ _ ih =>
    intro hp
    have h2 := nt_row hn h1 hE
    have := ih hE.2.1
    omega
  | stop h1 _ _ _ _ _ e => intro hp; omega
/-- What is known of the row that began at rb, where the look goes on at p. -/
def Seen (s : ByteArray) (wi : Bool) (n : Int) (a rb p : Nat) : Prop :=
  ∃ t f i, RowE s p t ∧ FirN s rb t f ∧ InN s rb t i ∧ kindN s rb t f ≠ 3 ∧ kindN s rb t f ≠ 4 ∧ (kindN s rb t f = 5 → wi = false → NoTab s rb f) ∧ (kindN s rb t f = 5 → wi = true → a < rb → n < (i : Int)) ∧ (p ≤ f ∨ (p = t ∧ kindN s rb t f = 2))
theorem NFin.plain {s : ByteArray} {wi : Bool} {n : Int} {a q r : Nat} {L : List (List UInt8 × Nat)} {S : Bool} (hq : q ≤ s.size) (hB : RowB s q r) (h : a ≤ r → ∃ t f i, RowE s q t ∧ FirN s r t f ∧ InN s r t i ∧ kindN s r t f ≠ 3 ∧ kindN s r t f ≠ 4 ∧ (kindN s r t f = 5 → wi = false → NoTab s r q) ∧ (kindN s r t f = 5 → wi = true → a < r → n < (i : Int))) : NFin s wi n a L S q L S q 0 := by
  by_cases har : a ≤ r
  · obtain ⟨t, f, i, h1, h2, h3, h4, h5, h6, h7⟩ := h har
    exact ⟨r, t, f, i, hB, h1, h2, h3, .inr (.inr ⟨fun hw _ hk => h6 hk hw, fun hw ha => ⟨h4, h5, fun hk => h7 hk hw ha⟩, rfl, rfl, rfl, rfl⟩)⟩
  · obtain ⟨t, ht⟩ := RowE.ex s q hq
    have hrt : r ≤ t := Nat.le_trans hB.1 ht.1
    obtain ⟨f, hf⟩ := FirN.ex s r t hrt
    obtain ⟨i, hi⟩ := InN.ex s r t hrt
    exact ⟨r, t, f, i, hB, ht, hf, hi, .inr (.inr ⟨fun _ h => absurd h har, fun _ h => absurd (Nat.le_of_lt h) har, rfl, rfl, rfl, rfl⟩)⟩
theorem NZ.pass {s : ByteArray} {wi : Bool} {n : Int} {a : Nat} {sm : Bool} {L : List (List UInt8 × Nat)} {S : Bool} {E : Nat} {C : Int} {p : Nat} {m f : Bool} {o : List (List UInt8 × Nat)} {b : Bool} (h : NZ s wi n a sm L S E C p m f o b) :
    ∀ rb, p ≤ s.size → a ≤ p → RowB s p rb → (m = true → rb = p) → (sm && f) = decide (rb < a) → (m = false → a ≤ rb → Seen s wi n a rb p) → (o ≠ [] → a ≤ rb ∨ p = s.size ∨ byt s p = 10) → (o = [] → b = false) →
      ∃ L0 S0 q, PW s a L0 S0 q p o b ∧ NFin s wi n a L0 S0 q L S E C := by
  induction h with
  | @over p m f o b h1 h2 h3 h4 h5 =>
    intro rb hp hap hB hm _ hs _ _
    subst h2 h3 h4 h5
    refine ⟨_, _, _, .over h1 rfl rfl rfl, NFin.plain hp hB fun har => ?_⟩
    cases m with
    | true =>
      obtain rfl := hm rfl
      have hE : RowE s rb rb := ⟨Nat.le_refl _, hp, fun j h1 h2 => by omega, .inl (by omega)⟩
      have hk : kindN s rb rb rb = 1 := by
        refine kind_one (fun hk => ?_) (fun hk => ?_) rfl
        · have := (kind_mark (.inl hk)).1; omega
        · have := (kind_mark (.inr hk)).1; omega
      refine ⟨rb, rb, 0, hE, ⟨Nat.le_refl _, Nat.le_refl _, fun j h1 h2 => by omega, .inl rfl⟩, ⟨Nat.le_refl _, fun j h1 => by omega, .inl rfl⟩, by rw [hk]; decide, by rw [hk]; decide, fun h => ?_, fun h => ?_⟩ <;> (rw [hk] at h; cases h)
    | false =>
      obtain ⟨t, f, i, hE, hF, hI, k3, k4, k5, k6, hc⟩ := hs rfl har
      have ht : t = E := by have := hE.1; have := hE.2.1; omega
      have hk : kindN s rb t f ≠ 5 := by
        rcases hc with hc | ⟨_, hc⟩
        · have hf : f = t := by have := hF.2.1; omega
          rw [kind_one k3 k4 hf]; decide
        · rw [hc]; decide
      exact ⟨t, f, i, hE, hF, hI, k3, k4, fun h => absurd h hk, fun h => absurd h hk⟩
  | @mark p t q f o b hp1 hE hF hk hwa h2 h3 h4 h5 =>
    intro rb hp hap hB hm _ _ _ _
    obtain rfl := hm rfl
    subst h2 h3 h4 h5
    obtain ⟨hk1, hk2⟩ := kind_mark hk
    obtain ⟨i, hi⟩ := InN.ex s E t hE.1
    refine ⟨_, _, _, .stop hp1 ?_ ?_ (ntB_not ?_) rfl rfl rfl, E, t, q, i, hB, hE, hF, hi, .inr (.inr ⟨fun _ _ h5 => ?_, fun hw ha => ?_, rfl, rfl, rfl, rfl⟩)⟩
    · rcases hk2 with e | e <;> rw [e] <;> decide
    · omega
    · omega
    · rcases hk with e | e <;> rw [e] at h5 <;> cases h5
    · rcases hwa with e | e
      · rw [e] at hw; cases hw
      · omega
  | @markX p t q f o b hp1 hE hF hk hw hpa h2 h3 h4 h5 =>
    intro rb hp hap hB hm _ _ _ _
    obtain rfl := hm rfl
    subst h2 h3 h4 h5
    obtain ⟨hk1, hk2⟩ := kind_mark hk
    obtain ⟨i, hi⟩ := InN.ex s E t hE.1
    refine ⟨_, _, _, .stop hp1 ?_ ?_ (ntB_not ?_) rfl rfl rfl, E, t, q, i, hB, hE, hF, hi, .inr (.inl ⟨hw, by omega, ?_, rfl, rfl, rfl, rfl⟩)⟩
    · rcases hk2 with e | e <;> rw [e] <;> decide
    · omega
    · omega
    · rcases hk with e | e
      · exact .inl e
      · exact .inr (.inl e)
  | @tab p t q x f o b hp1 hE hF hk hw hT h2 h3 h4 h5 =>
    intro rb hp hap hB hm _ _ _ _
    obtain rfl := hm rfl
    subst h2 h3 h4 h5
    obtain ⟨k1, k2⟩ := kind_5 hk
    have hqt : q < t := by have := hF.2.1; omega
    have hEq : RowE s q t := hE.within (hB) hF.1 hF.2.1
    obtain ⟨i, hi⟩ := InN.ex s rb t hE.1
    have hBq : RowB s q rb := hB.within hE hF.1 hF.2.1
    exact ⟨_, _, _, PW.row hEq hqt (hF.2.2.2.resolve_left k1) k2 (q - rb) rb (by have := hF.1; omega) (fun j h1 h2 => hF.2.2.1 j h1 h2), rb, t, q, i, hBq, hEq, hF, hi, .inl ⟨hw, hap, hk, hT, rfl, rfl, rfl⟩⟩
  | @far p t q i f o b hp1 hE hF hk hw hpa hI hin h2 h3 h4 h5 =>
    intro rb hp hap hB hm _ _ _ _
    obtain rfl := hm rfl
    subst h2 h3 h4 h5
    obtain ⟨k1, k2⟩ := kind_5 hk
    have hqt : E < t := by have := hF.2.1; omega
    have hEq : RowE s E t := hE.within (hB) hF.1 hF.2.1
    have hBq : RowB s E rb := hB.within hE hF.1 hF.2.1
    exact ⟨_, _, _, PW.row hEq hqt (hF.2.2.2.resolve_left k1) k2 (E - rb) rb (by have := hF.1; omega) (fun j h1 h2 => hF.2.2.1 j h1 h2), rb, t, E, i, hBq, hEq, hF, hI, .inr (.inl ⟨hw, by omega, .inr (.inr ⟨hk, hin⟩), rfl, rfl, rfl, rfl⟩)⟩
  | @met p t q i f o b hp1 hE hF hI k3 k4 k5 k6 _ ih =>
    intro rb hp hap hB hm hsm _ ho hob
    obtain rfl := hm rfl
    exact ih rb hp hap hB (fun h => by cases h) hsm (fun _ har => ⟨t, q, i, hE, hF, hI, k3, k4, k5, fun e1 e2 e3 => k6 e1 e2 (by omega), .inl hF.1⟩) ho hob
  | @white p f o b hp1 hw _ ih =>
    intro rb hp hap hB hm hsm hs ho hob
    have h10 : byt s p ≠ 10 := fun e => by rw [e] at hw; cases hw
    suffices H : (false = false → a ≤ rb → Seen s wi n a rb (p + 1)) ∧ (o ≠ [] → a ≤ rb ∨ p + 1 = s.size ∨ byt s (p + 1) = 10) by
      obtain ⟨L0, S0, q, h1, h2⟩ := ih rb (by omega) (by omega) (hB.step h10) (fun h => by cases h) hsm H.1 H.2 hob
      exact ⟨L0, S0, q, .white hp1 hw h1, h2⟩
    refine ⟨fun _ har => ?_, fun h => ?_⟩
    · obtain ⟨t, g, i, hE, hF, hI, k3, k4, k5, k6, hc⟩ := hs rfl har
      have hpt : p ≠ t := fun e => by
        rcases hE.2.2.2 with e2 | e2
        · omega
        · rw [← e] at e2; exact h10 e2
      have hpt2 := hE.1
      refine ⟨t, g, i, ⟨by omega, hE.2.1, fun j h1 h2 => hE.2.2.1 j h1 (by omega), hE.2.2.2⟩, hF, hI, k3, k4, k5, k6, .inl ?_⟩
      rcases hc with hc | ⟨hc, _⟩
      · have : p ≠ g := fun e => by
          rcases hF.2.2.2 with e2 | e2
          · omega
          · rw [← e, hw] at e2; cases e2
        omega
      · exact absurd hc hpt
    · rcases ho h with h | h | h
      · exact .inl h
      · omega
      · exact absurd h h10
  | @lf p f o b hp1 h10 _ ih =>
    intro rb hp hap hB hm hsm hs ho hob
    obtain ⟨L0, S0, q, h1, h2⟩ := ih (p + 1) (by omega) (by omega) (RowB.lf h10) (fun _ => rfl) (by rw [Bool.and_false]; exact (decide_eq_false (by omega)).symm) (fun h => by cases h) (fun _ => .inl (by omega)) hob
    exact ⟨L0, S0, q, .lf hp1 h10 h1, h2⟩
  | @com p t e k d f o b hp1 hn hE hK hA _ ih =>
    intro rb hp hap hB hm hsm hs ho hob
    have h35 := ntB_byte hn
    have hpt := nt_row hn hp1 hE
    have hb2 : (if o = [] then (sm && f) else b) = (b || decide (rb < a)) := by
      split
      · rename_i h
        rw [hob h, hsm, Bool.false_or]
      · rename_i h
        have har : a ≤ rb := by
          rcases ho h with h | h | h
          · exact h
          · omega
          · omega
        rw [decide_eq_false (by omega), Bool.or_false]
    have hBt : RowB s t rb := hB.within hE (by have := hB.1; omega) (Nat.le_refl t)
    suffices H : false = false → a ≤ rb → Seen s wi n a rb t by
      obtain ⟨L0, S0, q, h1, h2⟩ := ih rb hE.2.1 (by omega) hBt (fun h => by cases h) hsm H (fun _ => .inr hE.2.2.2) (fun h => by simp at h)
      rw [hb2] at h1
      exact ⟨L0, S0, q, .com hp1 hn hB hE hK hA h1, h2⟩
    intro _ har
    · obtain ⟨t2, g, i, hE2, hF, hI, k3, k4, k5, k6, hc⟩ := hs rfl har
      obtain rfl := hE.uniq hE2
      refine ⟨t, g, i, ⟨Nat.le_refl _, hE.2.1, fun j h1 h2 => by omega, hE.2.2.2⟩, hF, hI, k3, k4, k5, k6, .inr ⟨rfl, ?_⟩⟩
      rcases hc with hc | ⟨hc, _⟩
      · have hpg : p = g := by
          by_cases h : p = g
          · exact h
          · have := hF.2.2.1 p (by omega) hB.1
            rw [h35] at this; cases this
        subst hpg
        exact kind_note k3 k4 (by omega) h35
      · omega
  | @stop p f o b hp1 hw h10 hn h2 h3 h4 h5 =>
    intro rb hp hap hB hm hsm hs ho hob
    subst h2 h3 h4 h5
    refine ⟨_, _, _, .stop hp1 hw h10 hn rfl rfl rfl, NFin.plain hp hB fun har => ?_⟩
    obtain ⟨t, g, i, hE, hF, hI, k3, k4, k5, k6, hc⟩ := hs rfl har
    have hpt : E ≠ t := fun e => by
      rcases hE.2.2.2 with e2 | e2
      · omega
      · rw [← e] at e2; exact h10 e2
    have hpg : E = g := by
      rcases hc with hc | ⟨hc, _⟩
      · by_cases h : E = g
        · exact h
        · have := hF.2.2.1 E (by omega) hB.1
          rw [hw] at this; cases this
      · exact absurd hc hpt
    subst hpg
    exact ⟨t, E, i, hE, hF, hI, k3, k4, k5, k6⟩
/-- What Skip and Within answer, as the program finds it. -/
theorem NoteZ.pass {s : ByteArray} {wi : Bool} {n at' : Int} {L : List (List UInt8 × Nat)} {S : Bool} {E C : Int} (h : NoteZ s wi n at' L S E C) :
    ∃ L0 S0 q E', E = ((E' : Nat) : Int) ∧ PW s (clampN at' s.size) L0 S0 q (clampN at' s.size) [] false ∧ NFin s wi n (clampN at' s.size) L0 S0 q L S E' C := by
  obtain ⟨r0, E', hB, hE, hN⟩ := h
  suffices H : (!(decide (clampN at' s.size = r0)) && true) = decide (r0 < clampN at' s.size) ∧ (decide (clampN at' s.size = r0) = false → clampN at' s.size ≤ r0 → Seen s wi n (clampN at' s.size) r0 (clampN at' s.size)) by
    obtain ⟨L0, S0, q, h1, h2⟩ := hN.pass r0 (clampN_le at' s.size) (Nat.le_refl _) hB (fun h => by rw [decide_eq_true_eq] at h; exact h.symm) H.1 H.2 (fun h => absurd rfl h) (fun _ => rfl)
    exact ⟨L0, S0, q, E', hE, h1, h2⟩
  refine ⟨?_, fun h har => ?_⟩
  · rw [Bool.and_true, Bool.eq_iff_iff, Bool.not_eq_true', decide_eq_false_iff_not, decide_eq_true_eq]
    have := hB.1
    omega
  · rw [decide_eq_false_iff_not] at h
    have := hB.1
    omega
end Go.Proofs.YtomdhgbofocbbaaDoor
