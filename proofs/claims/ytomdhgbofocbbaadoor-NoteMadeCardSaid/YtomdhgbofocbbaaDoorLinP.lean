/- Rows of a text by their places: plain facts (nothing of the program). Conditions: none beside those that each theorem writes out. -/
import Derived.Test.YtomdhgbofocbbaaDoorSign
namespace Go.Proofs.YtomdhgbofocbbaaDoor
open Go.RowKit

/-- Where a run of places that fit ends. -/
theorem run_ex (P : Nat → Prop) [DecidablePred P] : ∀ n a b : Nat, b - a ≤ n → a ≤ b → ∃ p, a ≤ p ∧ p ≤ b ∧ (∀ j, j < p → a ≤ j → P j) ∧ (p = b ∨ ¬ P p)
  | 0, a, b, h, h2 => ⟨a, Nat.le_refl _, h2, fun j h3 h4 => by omega, .inl (by omega)⟩
  | n + 1, a, b, h, h2 => by
    by_cases hab : a = b
    · exact ⟨a, Nat.le_refl _, h2, fun j h3 h4 => by omega, .inl hab⟩
    · by_cases hP : P a
      · obtain ⟨p, h3, h4, h5, h6⟩ := run_ex P n (a + 1) b (by omega) (by omega)
        refine ⟨p, by omega, h4, fun j h7 h8 => ?_, h6⟩
        by_cases hj : j = a
        · subst hj; exact hP
        · exact h5 j h7 (by omega)
      · exact ⟨a, Nat.le_refl _, h2, fun j h3 h4 => by omega, .inr hP⟩
/-- Where a run of places that fit begins. -/
theorem run_back (P : Nat → Prop) [DecidablePred P] : ∀ c : Nat, ∃ a, a ≤ c ∧ (∀ j, j < c → a ≤ j → P j) ∧ (a = 0 ∨ (0 < a ∧ ¬ P (a - 1)))
  | 0 => ⟨0, Nat.le_refl _, fun j h => by omega, .inl rfl⟩
  | c + 1 => by
    by_cases h : P c
    · obtain ⟨a, h1, h2, h3⟩ := run_back P c
      refine ⟨a, by omega, fun j h4 h5 => ?_, h3⟩
      by_cases h6 : j = c
      · subst h6; exact h
      · exact h2 j (by omega) h5
    · exact ⟨c + 1, Nat.le_refl _, fun j h1 h2 => by omega, .inr ⟨by omega, by simpa using h⟩⟩

/-- The row of the place c begins at a. -/
def RowB (s : ByteArray) (c a : Nat) : Prop := a ≤ c ∧ (∀ j, j < c → a ≤ j → byt s j ≠ 10) ∧ (a = 0 ∨ byt s (a - 1) = 10)
/-- The row of the place c ends at b. -/
def RowE (s : ByteArray) (c b : Nat) : Prop := c ≤ b ∧ b ≤ s.size ∧ (∀ j, j < b → c ≤ j → byt s j ≠ 10) ∧ (b = s.size ∨ byt s b = 10)
/-- So many blanks stand from a on, within b. -/
def InN (s : ByteArray) (a b n : Nat) : Prop := a + n ≤ b ∧ (∀ j, j < n → byt s (a + j) = 32) ∧ (a + n = b ∨ byt s (a + n) ≠ 32)
/-- The first place from a on, up to b, that is not White. -/
def FirN (s : ByteArray) (a b p : Nat) : Prop := a ≤ p ∧ p ≤ b ∧ (∀ j, j < p → a ≤ j → U.white (byt s j : Int) = true) ∧ (p = b ∨ U.white (byt s p : Int) = false)
instance (s : ByteArray) (c a : Nat) : Decidable (RowB s c a) := by unfold RowB; infer_instance
instance (s : ByteArray) (c a : Nat) : Decidable (RowE s c a) := by unfold RowE; infer_instance
instance (s : ByteArray) (a b n : Nat) : Decidable (InN s a b n) := by unfold InN; infer_instance
instance (s : ByteArray) (a b p : Nat) : Decidable (FirN s a b p) := by unfold FirN; infer_instance

theorem RowB.ex (s : ByteArray) (c : Nat) : ∃ a, RowB s c a := by
  obtain ⟨a, h1, h2, h3⟩ := run_back (fun j => byt s j ≠ 10) c
  refine ⟨a, h1, h2, ?_⟩
  rcases h3 with h3 | h3
  · exact .inl h3
  · exact .inr (by have := h3.2; simpa using this)
theorem RowE.ex (s : ByteArray) (c : Nat) (h : c ≤ s.size) : ∃ b, RowE s c b := by
  obtain ⟨b, h1, h2, h3, h4⟩ := run_ex (fun j => byt s j ≠ 10) _ c s.size (Nat.le_refl _) h
  refine ⟨b, h1, h2, h3, ?_⟩
  rcases h4 with h4 | h4
  · exact .inl h4
  · exact .inr (by simpa using h4)
theorem InN.ex (s : ByteArray) (a b : Nat) (h : a ≤ b) : ∃ n, InN s a b n := by
  obtain ⟨p, h1, h2, h3, h4⟩ := run_ex (fun j => byt s j = 32) _ a b (Nat.le_refl _) h
  refine ⟨p - a, by omega, fun j hj => h3 _ (by omega) (by omega), ?_⟩
  rw [show a + (p - a) = p from by omega]
  exact h4
theorem FirN.ex (s : ByteArray) (a b : Nat) (h : a ≤ b) : ∃ p, FirN s a b p := by
  obtain ⟨p, h1, h2, h3, h4⟩ := run_ex (fun j => U.white (byt s j : Int) = true) _ a b (Nat.le_refl _) h
  exact ⟨p, h1, h2, h3, by simpa using h4⟩
theorem RowB.uniq {s : ByteArray} {c a a' : Nat} (h : RowB s c a) (h' : RowB s c a') : a = a' := by
  obtain ⟨h1, h2, h3⟩ := h
  obtain ⟨k1, k2, k3⟩ := h'
  rcases Nat.lt_trichotomy a a' with h | h | h
  · rcases k3 with k3 | k3
    · omega
    · exact absurd k3 (h2 (a' - 1) (by omega) (by omega))
  · exact h
  · rcases h3 with h3 | h3
    · omega
    · exact absurd h3 (k2 (a - 1) (by omega) (by omega))
theorem RowE.uniq {s : ByteArray} {c b b' : Nat} (h : RowE s c b) (h' : RowE s c b') : b = b' := by
  obtain ⟨h1, h2, h3, h4⟩ := h
  obtain ⟨k1, k2, k3, k4⟩ := h'
  rcases Nat.lt_trichotomy b b' with h | h | h
  · rcases h4 with h4 | h4
    · omega
    · exact absurd h4 (k3 b (by omega) (by omega))
  · exact h
  · rcases k4 with k4 | k4
    · omega
    · exact absurd k4 (h3 b' (by omega) (by omega))
theorem FirN.uniq {s : ByteArray} {a b p p' : Nat} (h : FirN s a b p) (h' : FirN s a b p') : p = p' := by
  obtain ⟨h1, h2, h3, h4⟩ := h
  obtain ⟨k1, k2, k3, k4⟩ := h'
  rcases Nat.lt_trichotomy p p' with h | h | h
  · rcases h4 with h4 | h4
    · omega
    · have := k3 p (by omega) (by omega); rw [h4] at this; cases this
  · exact h
  · rcases k4 with k4 | k4
    · omega
    · have := h3 p' (by omega) (by omega); rw [k4] at this; cases this
/-- Each place of a row is in it. -/
theorem RowB.within {s : ByteArray} {c a b p : Nat} (h : RowB s c a) (h' : RowE s c b) (h1 : a ≤ p) (h2 : p ≤ b) : RowB s p a := by
  refine ⟨h1, fun j hj ha => ?_, h.2.2⟩
  by_cases hjc : j < c
  · exact h.2.1 j hjc ha
  · exact h'.2.2.1 j (by omega) (by omega)
theorem RowE.within {s : ByteArray} {c a b p : Nat} (h : RowE s c b) (h' : RowB s c a) (h1 : a ≤ p) (h2 : p ≤ b) : RowE s p b := by
  refine ⟨h2, h.2.1, fun j hj ha => ?_, h.2.2.2⟩
  by_cases hjc : j < c
  · exact h'.2.1 j hjc (by omega)
  · exact h.2.2.1 j hj (by omega)

/-- Three bytes of one kind begin a row, and end there, or White stands behind. -/
def mk3 (s : ByteArray) (a b ch : Nat) : Bool := decide (a + 3 ≤ b ∧ byt s a = ch ∧ byt s (a + 1) = ch ∧ byt s (a + 2) = ch ∧ (a + 3 = b ∨ U.white (byt s (a + 3) : Int) = true))
/-- The kind of a row from a to b, whose first place that is not White is p. -/
def kindN (s : ByteArray) (a b p : Nat) : Int := if mk3 s a b 45 = true then 3 else if mk3 s a b 46 = true then 4 else if p = b then 1 else if byt s p = 35 then 2 else 5
theorem white_45 : U.white ((45 : Nat) : Int) = false := by decide
theorem white_46 : U.white ((46 : Nat) : Int) = false := by decide
/-- A row is blank just if all of it is White. -/
theorem kind_blank {s : ByteArray} {a b p : Nat} (h : FirN s a b p) : kindN s a b p = 1 ↔ p = b := by
  have hm : ∀ ch : Nat, U.white (ch : Int) = false → mk3 s a b ch = true → p ≠ b := fun ch hw hk e => by
    unfold mk3 at hk
    rw [decide_eq_true_eq] at hk
    have := h.2.2.1 a (by omega) (Nat.le_refl _)
    rw [hk.2.1, hw] at this
    cases this
  unfold kindN
  by_cases h1 : mk3 s a b 45 = true
  · rw [if_pos h1]
    exact ⟨fun e => by omega, fun e => absurd e (hm 45 white_45 h1)⟩
  · rw [if_neg h1]
    by_cases h2 : mk3 s a b 46 = true
    · rw [if_pos h2]
      exact ⟨fun e => by omega, fun e => absurd e (hm 46 white_46 h2)⟩
    · rw [if_neg h2]
      by_cases h3 : p = b
      · rw [if_pos h3]; exact ⟨fun _ => h3, fun _ => rfl⟩
      · rw [if_neg h3]
        refine ⟨fun e => ?_, fun e => absurd e h3⟩
        split at e <;> omega

/-- How many LF are ahead of a place. -/
def lfs (s : ByteArray) : Nat → Nat
  | 0 => 0
  | c + 1 => lfs s c + (if byt s c = 10 then 1 else 0)
theorem lfs_lf {s : ByteArray} {c : Nat} (h : byt s c = 10) : lfs s (c + 1) = lfs s c + 1 := by rw [lfs, if_pos h]
theorem lfs_other {s : ByteArray} {c : Nat} (h : byt s c ≠ 10) : lfs s (c + 1) = lfs s c := by rw [lfs, if_neg h, Nat.add_zero]
theorem lfs_le (s : ByteArray) : ∀ c, lfs s c ≤ c
  | 0 => Nat.le_refl _
  | c + 1 => by have := lfs_le s c; rw [lfs]; split <;> omega
theorem lfs_same {s : ByteArray} {a : Nat} : ∀ c, a ≤ c → (∀ j, j < c → a ≤ j → byt s j ≠ 10) → lfs s c = lfs s a
  | 0, h, _ => by rw [show a = 0 from by omega]
  | c + 1, h, hn => by
    by_cases e : a = c + 1
    · rw [e]
    · rw [lfs_other (hn c (by omega) (by omega)), lfs_same c (by omega) (fun j h1 h2 => hn j (by omega) h2)]
theorem lfs_mono {s : ByteArray} {a : Nat} : ∀ c, a ≤ c → lfs s a ≤ lfs s c
  | 0, h => by rw [show a = 0 from by omega]; exact Nat.le_refl _
  | c + 1, h => by
    by_cases e : a = c + 1
    · rw [e]; exact Nat.le_refl _
    · have := lfs_mono (s := s) c (show a ≤ c by omega)
      rw [lfs]; omega
/-- White, or LF. -/
def wl (b : Nat) : Bool := decide (b = 10) || U.white (b : Int)
/-- So many blank rows stand right above the place c; all from k on is White or LF. -/
def Abv (s : ByteArray) (c k n : Nat) : Prop := k ≤ c ∧ (∀ j, j < c → k ≤ j → wl (byt s j) = true) ∧ ((k = 0 ∧ n = lfs s c) ∨ (0 < k ∧ wl (byt s (k - 1)) = false ∧ n = lfs s c - lfs s k - 1))
instance (s : ByteArray) (c k n : Nat) : Decidable (Abv s c k n) := by unfold Abv; infer_instance
theorem Abv.ex (s : ByteArray) (c : Nat) : ∃ k n, Abv s c k n := by
  obtain ⟨k, h1, h2, h3⟩ := run_back (fun j => wl (byt s j) = true) c
  rcases h3 with h3 | ⟨h3, h4⟩
  · exact ⟨k, _, h1, h2, .inl ⟨h3, rfl⟩⟩
  · exact ⟨k, _, h1, h2, .inr ⟨h3, by simpa using h4, rfl⟩⟩
theorem Abv.le {s : ByteArray} {c k n : Nat} (h : Abv s c k n) : n ≤ c := by
  have h1 := lfs_le s c
  obtain ⟨_, _, h2 | h2⟩ := h
  · omega
  · omega

end Go.Proofs.YtomdhgbofocbbaaDoor
