/- Quoted scalars by their places: how one is read, step by step: plain facts (nothing of the program). Conditions: none beside those that each theorem writes out. -/
import Derived.Test.YtomdhgbofocbbaaDoorLinP
import Derived.Test.YtomdhgbofocbbaaDoorFoldP
import Derived.Test.YtomdhgbofocbbaaDoorEscaP
namespace Go.Proofs.YtomdhgbofocbbaaDoor
open Go.RowKit

/-- Rows of a quoted scalar behind the first one: each with the word whether a '\' ends it. -/
def qGo : Nat → Bool → List (List UInt8 × Bool) → List UInt8
  | _, _, [] => []
  | n, e, (r, x) :: t => if r = [] ∧ x = false ∧ t ≠ [] then qGo (n + 1) e t else (if e = true then U.feeds n else U.sep n) ++ r ++ qGo 0 x t
def qT : List (List UInt8 × Bool) → List UInt8
  | [] => []
  | (r, x) :: t => r ++ qGo 0 x t
theorem qGo_blank (n : Nat) (e : Bool) {t : List (List UInt8 × Bool)} (h : t ≠ []) : qGo n e (([], false) :: t) = qGo (n + 1) e t := by
  rw [qGo, if_pos ⟨rfl, rfl, h⟩]
theorem qGo_row (n : Nat) (e : Bool) {r : List UInt8} (x : Bool) (t : List (List UInt8 × Bool)) (h : ¬ (r = [] ∧ x = false ∧ t ≠ [])) : qGo n e ((r, x) :: t) = (if e = true then U.feeds n else U.sep n) ++ r ++ qGo 0 x t := by
  rw [qGo, if_neg h]

/-- A byte of the text, as a list's. -/
def bq (s : ByteArray) (p : Nat) : UInt8 := s.data.toList.getD p 0
/-- How the rest of a quoted scalar is read: q the quote, n the column; from the place p on, at a row's beginning (m) or within one; R the rows behind, t the row's text so far but for the White w at its end. What is read: T, up to E, in one row O, the fault C. -/
inductive QZ (s : ByteArray) (q : Nat) (n : Int) (T : List UInt8) (E : Nat) (O : Bool) (C : Int) : Nat → Bool → List (List UInt8 × Bool) → List UInt8 → List UInt8 → Prop
  | over {p R t w} : s.size ≤ p → T = [] → E = s.size → O = false → C = 5 → QZ s q n T E O C p false R t w
  | done {p R t w} : p < s.size → byt s p = q → ¬ (q = 39 ∧ p + 1 < s.size ∧ byt s (p + 1) = 39) → T = qT (R ++ [(t ++ w, false)]) → E = p + 1 → O = R.isEmpty → C = 0 → QZ s q n T E O C p false R t w
  | twice {p R t w} : q = 39 → p < s.size → byt s p = 39 → p + 1 < s.size → byt s (p + 1) = 39 → QZ s q n T E O C (p + 2) false R (t ++ w ++ [39]) [] → QZ s q n T E O C p false R t w
  | goes {p R t w} : q = 34 → p < s.size → byt s p = 92 → p + 1 < s.size → byt s (p + 1) = 10 → QZ s q n T E O C (p + 2) true (R ++ [(t ++ w, true)]) [] [] → QZ s q n T E O C p false R t w
  | esc {p R t w c k} : q = 34 → p < s.size → byt s p = 92 → ¬ (p + 1 < s.size ∧ byt s (p + 1) = 10) → U.esc (s.data.toList.drop p) = some (c, k) → QZ s q n T E O C (p + k) false R (t ++ w ++ Lib.encodeRune (c : Int)) [] → QZ s q n T E O C p false R t w
  | bad {p R t w} : q = 34 → p < s.size → byt s p = 92 → ¬ (p + 1 < s.size ∧ byt s (p + 1) = 10) → U.esc (s.data.toList.drop p) = none → T = [] → E = p → O = false → C = 5 → QZ s q n T E O C p false R t w
  | lf {p R t w} : p < s.size → byt s p = 10 → QZ s q n T E O C (p + 1) true (R ++ [(t, false)]) [] [] → QZ s q n T E O C p false R t w
  | white {p R t w} : p < s.size → U.white (byt s p : Int) = true → QZ s q n T E O C (p + 1) false R t (w ++ [bq s p]) → QZ s q n T E O C p false R t w
  | lit {p R t w} : p < s.size → byt s p ≠ q → byt s p ≠ 10 → U.white (byt s p : Int) = false → ¬ (q = 34 ∧ byt s p = 92) → QZ s q n T E O C (p + 1) false R (t ++ w ++ [bq s p]) [] → QZ s q n T E O C p false R t w
  | mark {a b f R t w} : RowE s a b → FirN s a b f → (kindN s a b f = 3 ∨ kindN s a b f = 4) → T = [] → E = a → O = false → C = 5 → QZ s q n T E O C a true R t w
  | near {a b f i R t w} : RowE s a b → FirN s a b f → InN s a b i → kindN s a b f ≠ 3 → kindN s a b f ≠ 4 → kindN s a b f ≠ 1 → (i : Int) ≤ n → T = [] → E = f → O = false → C = 5 → QZ s q n T E O C a true R t w
  | row {a b f i R t w} : RowE s a b → FirN s a b f → InN s a b i → kindN s a b f ≠ 3 → kindN s a b f ≠ 4 → (kindN s a b f = 1 ∨ n < (i : Int)) → QZ s q n T E O C f false R [] [] → QZ s q n T E O C a true R t w

/-- What Read answers at a place. -/
def QuoZ (s : ByteArray) (at' n : Int) (T : List UInt8) (E : Int) (O : Bool) (C : Int) : Prop :=
  if 0 ≤ at' ∧ at'.toNat < s.size ∧ (byt s at'.toNat = 39 ∨ byt s at'.toNat = 34) then ∃ E' : Nat, E = (E' : Int) ∧ QZ s (byt s at'.toNat) n T E' O C (at'.toNat + 1) false [] [] [] else T = [] ∧ E = at' ∧ O = false ∧ C = 5

/-! ### Reading by trial -/
def fndQ (n : Nat) (P : Nat → Bool) : Nat := ((List.range (n + 1)).find? P).getD 0
/-- What is read, so many steps far; none if they don't do. -/
def qF (s : ByteArray) (q : Nat) (n : Int) : Nat → Nat → Bool → List (List UInt8 × Bool) → List UInt8 → List UInt8 → Option (List UInt8 × Nat × Bool × Int)
  | 0, _, _, _, _, _ => none
  | g + 1, a, true, R, _, _ =>
    let b := fndQ s.size (fun b => decide (RowE s a b))
    let f := fndQ s.size (fun f => decide (FirN s a b f))
    let i := fndQ s.size (fun i => decide (InN s a b i))
    if RowE s a b ∧ FirN s a b f ∧ InN s a b i then
      if kindN s a b f = 3 ∨ kindN s a b f = 4 then some ([], a, false, 5)
      else if kindN s a b f = 1 ∨ n < (i : Int) then qF s q n g f false R [] [] else some ([], f, false, 5)
    else none
  | g + 1, p, false, R, t, w =>
    if s.size ≤ p then some ([], s.size, false, 5)
    else if byt s p = q then
      if q = 39 ∧ p + 1 < s.size ∧ byt s (p + 1) = 39 then qF s q n g (p + 2) false R (t ++ w ++ [39]) [] else some (qT (R ++ [(t ++ w, false)]), p + 1, R.isEmpty, 0)
    else if q = 34 ∧ byt s p = 92 then
      if p + 1 < s.size ∧ byt s (p + 1) = 10 then qF s q n g (p + 2) true (R ++ [(t ++ w, true)]) [] []
      else match U.esc (s.data.toList.drop p) with
        | some (c, k) => qF s q n g (p + k) false R (t ++ w ++ Lib.encodeRune (c : Int)) []
        | none => some ([], p, false, 5)
    else if byt s p = 10 then qF s q n g (p + 1) true (R ++ [(t, false)]) [] []
    else if U.white (byt s p : Int) = true then qF s q n g (p + 1) false R t (w ++ [bq s p])
    else qF s q n g (p + 1) false R (t ++ w ++ [bq s p]) []
theorem qF_sound (s : ByteArray) (q : Nat) (n : Int) (T : List UInt8) (E : Nat) (O : Bool) (C : Int) : ∀ (g p : Nat) (m : Bool) (R : List (List UInt8 × Bool)) (t w : List UInt8), qF s q n g p m R t w = some (T, E, O, C) → QZ s q n T E O C p m R t w := by
  intro g
  induction g with
  | zero => intro p m R t w h; rw [qF] at h; cases h
  | succ g ih =>
    intro p m R t w h
    cases m with
    | true =>
      rw [qF] at h
      split at h
      · rename_i h1
        obtain ⟨h1, h2, h3⟩ := h1
        split at h
        · rename_i h4
          cases h
          exact .mark h1 h2 h4 rfl rfl rfl rfl
        · rename_i h4
          split at h
          · rename_i h5
            exact .row h1 h2 h3 (fun e => h4 (.inl e)) (fun e => h4 (.inr e)) h5 (ih _ _ _ _ _ h)
          · rename_i h5
            cases h
            exact .near h1 h2 h3 (fun e => h4 (.inl e)) (fun e => h4 (.inr e)) (fun e => h5 (.inl e)) (by omega) rfl rfl rfl rfl
      · cases h
    | false =>
      rw [qF] at h
      split at h
      · rename_i h1
        cases h
        exact .over h1 rfl rfl rfl rfl
      · rename_i h1
        split at h
        · rename_i h2
          split at h
          · rename_i h3
            exact .twice h3.1 (by omega) (by rw [h2, h3.1]) h3.2.1 h3.2.2 (ih _ _ _ _ _ h)
          · rename_i h3
            cases h
            exact .done (by omega) h2 h3 rfl rfl rfl rfl
        · rename_i h2
          split at h
          · rename_i h3
            split at h
            · rename_i h4
              exact .goes h3.1 (by omega) h3.2 h4.1 h4.2 (ih _ _ _ _ _ h)
            · rename_i h4
              split at h
              · rename_i c k h5
                exact .esc h3.1 (by omega) h3.2 h4 h5 (ih _ _ _ _ _ h)
              · rename_i h5
                cases h
                exact .bad h3.1 (by omega) h3.2 h4 h5 rfl rfl rfl rfl
          · rename_i h3
            split at h
            · rename_i h4
              exact .lf (by omega) h4 (ih _ _ _ _ _ h)
            · rename_i h4
              split at h
              · rename_i h5
                exact .white (by omega) h5 (ih _ _ _ _ _ h)
              · rename_i h5
                exact .lit (by omega) h2 h4 (by simpa using h5) h3 (ih _ _ _ _ _ h)
/-- What is found by trial is read. -/
theorem QuoZ.of {s : ByteArray} {k : Nat} {n : Int} {T : List UInt8} {E : Nat} {O : Bool} {C : Int} (hk : k < s.size) (hq : byt s k = 39 ∨ byt s k = 34) (h : QZ s (byt s k) n T E O C (k + 1) false [] [] []) : QuoZ s (k : Int) n T (E : Int) O C := by
  unfold QuoZ
  rw [Int.toNat_natCast, if_pos ⟨by omega, hk, hq⟩]
  exact ⟨E, rfl, h⟩
/-- Reading at the beginning, by trial. -/
def qTry (s : ByteArray) (n : Int) (g : Nat) : Option (List UInt8 × Nat × Bool × Int) :=
  if 0 < s.size ∧ (byt s 0 = 39 ∨ byt s 0 = 34) then qF s (byt s 0) n g 1 false [] [] [] else none
theorem QuoZ.tried {s : ByteArray} {n : Int} {g : Nat} {T : List UInt8} {E : Nat} {O : Bool} {C : Int} (h : qTry s n g = some (T, E, O, C)) : QuoZ s 0 n T (E : Int) O C := by
  unfold qTry at h
  split at h
  · rename_i h1
    exact QuoZ.of (k := 0) h1.1 h1.2 (qF_sound _ _ _ _ _ _ _ _ _ _ _ _ _ h)
  · cases h
/-- The two texts of 'awake'. -/
theorem awakeQ1 : QuoZ ⟨#[39, 97, 39, 39, 98, 39]⟩ 0 (-1) [97, 39, 98] 6 true 0 := QuoZ.tried (g := 10) (by decide +kernel)
theorem awakeQ2 : QuoZ ⟨#[34, 97, 32, 92, 10, 32, 98, 34]⟩ 0 (-1) [97, 32, 98] 8 false 0 := QuoZ.tried (g := 10) (by decide +kernel)

end Go.Proofs.YtomdhgbofocbbaaDoor
