/- Comments and the space between tokens, by their places: plain facts (nothing of the program). Conditions: none beside those that each theorem writes out. -/
import Derived.Test.YtomdhgbofocbbaaDoorPlaiP
import Derived.Test.YtomdhgbofocbbaaDoorSpot
namespace Go.Proofs.YtomdhgbofocbbaaDoor
open Go.RowKit

/-- Does a comment begin at a place? -/
def ntB (s : ByteArray) (p : Nat) : Bool := decide (byt s p = 35 ∧ (p = 0 ∨ U.white (byt s (p - 1) : Int) = true ∨ byt s (p - 1) = 10))
/-- The first tab from a place on, ahead of another one; there is none. -/
def TabN (s : ByteArray) (a b x : Nat) : Prop := a ≤ x ∧ x < b ∧ byt s x = 9 ∧ ∀ j, j < x → a ≤ j → byt s j ≠ 9
def NoTab (s : ByteArray) (a b : Nat) : Prop := ∀ j, j < b → a ≤ j → byt s j ≠ 9
theorem tab_ex (s : ByteArray) (a b : Nat) (h : a ≤ b) : (∃ x, TabN s a b x) ∨ NoTab s a b := by
  obtain ⟨x, h1, h2, h3, h4⟩ := run_ex (fun j => byt s j ≠ 9) _ a b (Nat.le_refl _) h
  by_cases hx : x = b
  · right
    rw [hx] at h3
    exact h3
  · left
    exact ⟨x, h1, by omega, by rcases h4 with h4 | h4; exact absurd h4 hx; simpa using h4, h3⟩
/-- How space is passed, from a place on: wi within brackets, n the column around, a where it began, sm: does that not begin a row; m: does a row begin here that is not looked at yet, f: no row has ended so far, o the comments so far, b: does the first one stand in the row. -/
inductive NZ (s : ByteArray) (wi : Bool) (n : Int) (a : Nat) (sm : Bool) (L : List (List UInt8 × Nat)) (S : Bool) (E : Nat) (C : Int) : Nat → Bool → Bool → List (List UInt8 × Nat) → Bool → Prop
  | over {p m f o b} : ¬ p < s.size → L = o → S = b → E = p → C = 0 → NZ s wi n a sm L S E C p m f o b
  | mark {p t q f o b} : p < s.size → RowE s p t → FirN s p t q → (kindN s p t q = 3 ∨ kindN s p t q = 4) → (wi = false ∨ p = a) → L = o → S = b → E = p → C = 0 → NZ s wi n a sm L S E C p true f o b
  | markX {p t q f o b} : p < s.size → RowE s p t → FirN s p t q → (kindN s p t q = 3 ∨ kindN s p t q = 4) → wi = true → p ≠ a → L = [] → S = false → E = p → C = 5 → NZ s wi n a sm L S E C p true f o b
  | tab {p t q x f o b} : p < s.size → RowE s p t → FirN s p t q → kindN s p t q = 5 → wi = false → TabN s p q x → L = [] → S = false → E = x → C = 4 → NZ s wi n a sm L S E C p true f o b
  | far {p t q i f o b} : p < s.size → RowE s p t → FirN s p t q → kindN s p t q = 5 → wi = true → p ≠ a → InN s p t i → (i : Int) ≤ n → L = [] → S = false → E = q → C = 5 → NZ s wi n a sm L S E C p true f o b
  | met {p t q i f o b} : p < s.size → RowE s p t → FirN s p t q → InN s p t i → kindN s p t q ≠ 3 → kindN s p t q ≠ 4 → (kindN s p t q = 5 → wi = false → NoTab s p q) → (kindN s p t q = 5 → wi = true → p ≠ a → n < (i : Int)) → NZ s wi n a sm L S E C p false f o b → NZ s wi n a sm L S E C p true f o b
  | white {p f o b} : p < s.size → U.white (byt s p : Int) = true → NZ s wi n a sm L S E C (p + 1) false f o b → NZ s wi n a sm L S E C p false f o b
  | lf {p f o b} : p < s.size → byt s p = 10 → NZ s wi n a sm L S E C (p + 1) true false o b → NZ s wi n a sm L S E C p false f o b
  | com {p t e k d f o b} : p < s.size → ntB s p = true → RowE s p t → BakN s (p + 1) t e → Abv s p k d → NZ s wi n a sm L S E C t false f (o ++ [(pieceL s (p + 1) e, d)]) (if o = [] then (sm && f) else b) → NZ s wi n a sm L S E C p false f o b
  | stop {p f o b} : p < s.size → U.white (byt s p : Int) = false → byt s p ≠ 10 → ntB s p = false → L = o → S = b → E = p → C = 0 → NZ s wi n a sm L S E C p false f o b
/-- What Skip and Within answer at a place. -/
def NoteZ (s : ByteArray) (wi : Bool) (n : Int) (at' : Int) (L : List (List UInt8 × Nat)) (S : Bool) (E : Int) (C : Int) : Prop :=
  ∃ r0 E', RowB s (clampN at' s.size) r0 ∧ E = ((E' : Nat) : Int) ∧ NZ s wi n (clampN at' s.size) (!(decide (clampN at' s.size = r0))) L S E' C (clampN at' s.size) (decide (clampN at' s.size = r0)) true [] false

/-! ### What follows -/
theorem ntB_byte {s : ByteArray} {p : Nat} (h : ntB s p = true) : byt s p = 35 := by
  unfold ntB at h
  rw [decide_eq_true_eq] at h
  exact h.1
theorem nt_row {s : ByteArray} {p t : Nat} (h : ntB s p = true) (hp : p < s.size) (ht : RowE s p t) : p + 1 ≤ t := by
  have h1 := ht.1
  have h35 := ntB_byte h
  refine Decidable.byContradiction fun hc => ?_
  have : t = p := by omega
  rcases ht.2.2.2 with e | e
  · omega
  · rw [this, h35] at e; exact absurd e (by decide)
theorem RowB.step {s : ByteArray} {p rb : Nat} (h : RowB s p rb) (hb : byt s p ≠ 10) : RowB s (p + 1) rb :=
  ⟨Nat.le_succ_of_le h.1, fun j h1 h2 => by
    by_cases hj : j = p
    · rw [hj]; exact hb
    · exact h.2.1 j (by omega) h2, h.2.2⟩
theorem RowB.lf {s : ByteArray} {p : Nat} (hb : byt s p = 10) : RowB s (p + 1) (p + 1) := ⟨Nat.le_refl _, fun j h1 h2 => by omega, .inr (by rw [Nat.add_sub_cancel]; exact hb)⟩
theorem NZ.ex (s : ByteArray) (wi : Bool) (n : Int) (a : Nat) (sm : Bool) : ∀ (g p : Nat) (m f : Bool) (o : List (List UInt8 × Nat)) (b : Bool), s.size ≤ p + g → ∃ L S E C, NZ s wi n a sm L S E C p m f o b := by
  intro g
  induction g with
  | zero => intro p m f o b h; exact ⟨_, _, _, _, .over (by omega) rfl rfl rfl rfl⟩
  | succ g ih =>
    have hF : ∀ (p : Nat) (f : Bool) (o : List (List UInt8 × Nat)) (b : Bool), s.size ≤ p + (g + 1) → ∃ L S E C, NZ s wi n a sm L S E C p false f o b := by
      intro p f o b h
      by_cases hp : p < s.size
      · cases hw : U.white (byt s p : Int) with
        | true =>
          obtain ⟨L, S, E, C, h1⟩ := ih (p + 1) false f o b (by omega)
          exact ⟨L, S, E, C, .white hp hw h1⟩
        | false =>
          by_cases h10 : byt s p = 10
          · obtain ⟨L, S, E, C, h1⟩ := ih (p + 1) true false o b (by omega)
            exact ⟨L, S, E, C, .lf hp h10 h1⟩
          · cases hn : ntB s p with
            | true =>
              obtain ⟨t, ht⟩ := RowE.ex s p (by omega)
              have htp := nt_row hn hp ht
              obtain ⟨e, he⟩ := BakN.ex s (p + 1) t htp
              obtain ⟨k, d, hk⟩ := Abv.ex s p
              obtain ⟨L, S, E, C, h1⟩ := ih t false f (o ++ [(pieceL s (p + 1) e, d)]) (if o = [] then (sm && f) else b) (by omega)
              exact ⟨L, S, E, C, .com hp hn ht he hk h1⟩
            | false => exact ⟨_, _, _, _, .stop hp hw h10 hn rfl rfl rfl rfl⟩
      · exact ⟨_, _, _, _, .over hp rfl rfl rfl rfl⟩
    intro p m f o b h
    cases m with
    | false => exact hF p f o b h
    | true =>
      by_cases hp : p < s.size
      · obtain ⟨t, ht⟩ := RowE.ex s p (by omega)
        obtain ⟨q, hq⟩ := FirN.ex s p t ht.1
        obtain ⟨i, hi⟩ := InN.ex s p t ht.1
        have go : kindN s p t q ≠ 3 → kindN s p t q ≠ 4 → (kindN s p t q = 5 → wi = false → NoTab s p q) → (kindN s p t q = 5 → wi = true → p ≠ a → n < (i : Int)) → ∃ L S E C, NZ s wi n a sm L S E C p true f o b := fun k1 k2 k3 k4 => by
          obtain ⟨L, S, E, C, h1⟩ := hF p f o b h
          exact ⟨L, S, E, C, .met hp ht hq hi k1 k2 k3 k4 h1⟩
        by_cases hk : kindN s p t q = 3 ∨ kindN s p t q = 4
        · by_cases hw : wi = false ∨ p = a
          · exact ⟨_, _, _, _, .mark hp ht hq hk hw rfl rfl rfl rfl⟩
          · exact ⟨_, _, _, _, .markX hp ht hq hk (by cases wi with | true => rfl | false => exact absurd (.inl rfl) hw) (fun e => hw (.inr e)) rfl rfl rfl rfl⟩
        · have k3 : kindN s p t q ≠ 3 := fun e => hk (.inl e)
          have k4 : kindN s p t q ≠ 4 := fun e => hk (.inr e)
          by_cases h5 : kindN s p t q = 5
          · cases wi with
            | false =>
              rcases tab_ex s p q hq.1 with ⟨x, hx⟩ | hx
              · exact ⟨_, _, _, _, .tab hp ht hq h5 rfl hx rfl rfl rfl rfl⟩
              · exact go k3 k4 (fun _ _ => hx) (fun _ h => by cases h)
            | true =>
              by_cases hfar : p ≠ a ∧ (i : Int) ≤ n
              · exact ⟨_, _, _, _, .far hp ht hq h5 rfl hfar.1 hi hfar.2 rfl rfl rfl rfl⟩
              · exact go k3 k4 (fun _ h => by cases h) (fun _ _ hpa => by
                  have : ¬ (i : Int) ≤ n := fun e => hfar ⟨hpa, e⟩
                  omega)
          · exact go k3 k4 (fun e => absurd e h5) (fun e => absurd e h5)
      · exact ⟨_, _, _, _, .over hp rfl rfl rfl rfl⟩
theorem NoteZ.ex (s : ByteArray) (wi : Bool) (n : Int) (at' : Int) : ∃ L S E C, NoteZ s wi n at' L S E C := by
  obtain ⟨r0, hr⟩ := RowB.ex s (clampN at' s.size)
  obtain ⟨L, S, E, C, h⟩ := NZ.ex s wi n (clampN at' s.size) (!(decide (clampN at' s.size = r0))) s.size (clampN at' s.size) (decide (clampN at' s.size = r0)) true [] false (by omega)
  exact ⟨L, S, E, C, r0, E, hr, rfl, h⟩
end Go.Proofs.YtomdhgbofocbbaaDoor
