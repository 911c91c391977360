/- Block scalars by their places: the header, the width, the rows: plain facts (nothing of the program). Conditions: none beside those that each theorem writes out. -/
import Derived.Test.YtomdhgbofocbbaaDoorPlaiP
namespace Go.Proofs.YtomdhgbofocbbaaDoor
open Go.RowKit

/-- A step of a header: the place, the digit, the sign. -/
def hStep (s : ByteArray) (x : Nat × Nat × Nat) : Nat × Nat × Nat :=
  if x.1 < s.size then
    if x.2.1 = 0 ∧ 49 ≤ byt s x.1 ∧ byt s x.1 ≤ 57 then (x.1 + 1, byt s x.1 - 48, x.2.2)
    else if x.2.2 = 0 ∧ (byt s x.1 = 43 ∨ byt s x.1 = 45) then (x.1 + 1, x.2.1, byt s x.1) else x
  else x
/-- Where what a header says of digit and sign ends; the digit (0: none), the sign (0: none). -/
def hdr (s : ByteArray) (a : Nat) : Nat × Nat × Nat := hStep s (hStep s (a + 1, 0, 0))
/-- A row's text, the first w bytes left out. -/
def rowT (s : ByteArray) (p b w : Nat) : List UInt8 := if w < b - p then pieceL s (p + w) b else []
/-- A block scalar's text: R its rows, of which the first L count, m LF behind; c the sign. -/
def bTxt (c : Nat) (fo : Bool) (R : List (List UInt8)) (L m : Nat) : List UInt8 := U.blockT fo (R.take L) ++ U.feeds (if c = 45 then 0 else if c = 43 then m else if L = 0 then 0 else min m 1)
/-- How wide what is left out of each row is, without a digit: from a row's beginning on. -/
inductive WZ (s : ByteArray) (n : Int) (w : Nat) : Nat → Prop
  | over {p} : s.size ≤ p → w = s.size + 1 → WZ s n w p
  | blank {p b i} : p < s.size → RowE s p b → InN s p b i → p + i = b → WZ s n w (b + 1) → WZ s n w p
  | text {p b i q} : p < s.size → RowE s p b → InN s p b i → FirN s p b q → p + i ≠ b → w = (if n < (i : Int) ∧ kindN s p b q ≠ 3 ∧ kindN s p b q ≠ 4 then i else s.size + 1) → WZ s n w p
/-- How the rows are read, from a row's beginning on: R the rows so far, of which the first L count, h where the last of these ends; f: all so far are blank. -/
inductive BZ (s : ByteArray) (d c w : Nat) (fo : Bool) (T : List UInt8) (E : Nat) (C : Int) : Nat → List (List UInt8) → Nat → Nat → Bool → Prop
  | over {p R L h f} : s.size ≤ p → T = bTxt c fo R L (lfs s s.size - lfs s h) → E = s.size → C = 0 → BZ s d c w fo T E C p R L h f
  | stop {p b i q R L h f} : p < s.size → RowE s p b → InN s p b i → FirN s p b q → p + i ≠ b → (i < w ∨ kindN s p b q = 3 ∨ kindN s p b q = 4) → T = bTxt c fo R L (lfs s p - lfs s h) → E = p → C = 0 → BZ s d c w fo T E C p R L h f
  | far {p b i R L h} : p < s.size → RowE s p b → InN s p b i → p + i = b → d = 0 → w ≤ s.size → w < i → T = [] → E = p + w → C = 5 → BZ s d c w fo T E C p R L h true
  | row {p b i q R L h f} : p < s.size → RowE s p b → InN s p b i → FirN s p b q → ((p + i = b ∧ ¬ (f = true ∧ d = 0 ∧ w ≤ s.size ∧ w < i)) ∨ (p + i ≠ b ∧ w ≤ i ∧ kindN s p b q ≠ 3 ∧ kindN s p b q ≠ 4)) →
      BZ s d c w fo T E C (b + 1) (R ++ [rowT s p b w]) (if w < b - p then R.length + 1 else L) (if w < b - p then b else h) (f && decide (p + i = b)) → BZ s d c w fo T E C p R L h f
/-- What stands behind the header's digit and sign: nothing, or a comment. -/
def NotZ (s : ByteArray) (p t q : Nat) (h : Bool) (note : List UInt8) : Prop := (q = t ∧ h = false ∧ note = []) ∨ (q < t ∧ byt s q = 35 ∧ p < q ∧ h = true ∧ ∃ e, BakN s (q + 1) t e ∧ note = pieceL s (q + 1) e)
/-- What Read answers at the place a of a header's first byte: the style, the text, the comment, where it ends, the code. -/
def BlocI (s : ByteArray) (a : Nat) (n : Int) (st : Int) (T : List UInt8) (h : Bool) (note : List UInt8) (E : Int) (C : Int) : Prop :=
  ∃ t q p d c, hdr s a = (p, d, c) ∧ RowE s a t ∧ FirN s p t q ∧
    ((q < t ∧ ¬ (byt s q = 35 ∧ p < q) ∧ E = (q : Int) ∧ C = 5) ∨
     (NotZ s p t q h note ∧ st = (if byt s a = 62 then 5 else 4) ∧ ∃ w E', E = ((E' : Nat) : Int) ∧ (if d = 0 then WZ s n w (min (t + 1) s.size) else w = d + min (max n 0).toNat (s.size + 1)) ∧
       BZ s d c w (decide (byt s a = 62)) T E' C (min (t + 1) s.size) [] 0 (min (t + 1) s.size) true))
/-- Does a block scalar begin at a place? -/
def blocB (s : ByteArray) (at' : Int) : Bool := decide (0 ≤ at' ∧ at'.toNat < s.size ∧ (byt s at'.toNat = 124 ∨ byt s at'.toNat = 62))
/-- What Read answers at a place. -/
def BlocZ (s : ByteArray) (at' n : Int) (st : Int) (T : List UInt8) (h : Bool) (note : List UInt8) (E : Int) (C : Int) : Prop :=
  (blocB s at' = true ∧ BlocI s at'.toNat n st T h note E C) ∨ (blocB s at' = false ∧ E = at' ∧ C = 5)

theorem hStep_le {s : ByteArray} {x : Nat × Nat × Nat} {t : Nat} (ht : RowE s x.1 t) : (hStep s x).1 ≤ t := by
  unfold hStep
  have h1 := ht.1
  have key : ∀ v : Nat, byt s x.1 = v → v ≠ 10 → x.1 < s.size → x.1 + 1 ≤ t := fun v hv hn hs => by
    refine Decidable.byContradiction fun hc => ?_
    have : t = x.1 := by omega
    rcases ht.2.2.2 with h | h
    · omega
    · rw [this, hv] at h
      exact hn h
  split
  · rename_i hs
    split
    · rename_i h
      exact key _ rfl (by omega) hs
    · split
      · rename_i h
        exact key _ rfl (by omega) hs
      · exact h1
  · exact h1
theorem hStep_ge (s : ByteArray) (x : Nat × Nat × Nat) : x.1 ≤ (hStep s x).1 := by
  unfold hStep
  split
  · split
    · exact Nat.le_succ _
    · split
      · exact Nat.le_succ _
      · exact Nat.le_refl _
  · exact Nat.le_refl _
theorem RowE.from {s : ByteArray} {a b p : Nat} (h : RowE s a b) (h1 : a ≤ p) (h2 : p ≤ b) : RowE s p b := ⟨h2, h.2.1, fun j hj hp => h.2.2.1 j hj (by omega), h.2.2.2⟩
/-- The header ends within its row. -/
theorem hdr_le {s : ByteArray} {a t : Nat} (ha : a < s.size) (h10 : byt s a ≠ 10) (ht : RowE s a t) : a + 1 ≤ (hdr s a).1 ∧ (hdr s a).1 ≤ t := by
  have h1 : a + 1 ≤ t := by
    refine Decidable.byContradiction fun hc => ?_
    have h := ht.1
    have e : t = a := by omega
    rcases ht.2.2.2 with h | h
    · omega
    · rw [e] at h; exact h10 h
  have r1 := ht.from (p := a + 1) (by omega) h1
  have g1 := hStep_ge s (a + 1, 0, 0)
  have l1 := hStep_le (x := (a + 1, 0, 0)) r1
  have r2 := r1.from (p := (hStep s (a + 1, 0, 0)).1) g1 l1
  exact ⟨Nat.le_trans g1 (hStep_ge s _), hStep_le r2⟩
theorem WZ.ex (s : ByteArray) (n : Int) : ∀ (g p : Nat), s.size ≤ p + g → ∃ w, WZ s n w p := by
  intro g
  induction g with
  | zero => intro p h; exact ⟨_, .over (by omega) rfl⟩
  | succ g ih =>
    intro p h
    by_cases hp : p < s.size
    · obtain ⟨b, hb⟩ := RowE.ex s p (by omega)
      obtain ⟨i, hi⟩ := InN.ex s p b hb.1
      obtain ⟨q, hq⟩ := FirN.ex s p b hb.1
      by_cases hib : p + i = b
      · obtain ⟨w, hw⟩ := ih (b + 1) (by have := hb.1; omega)
        exact ⟨w, .blank hp hb hi hib hw⟩
      · exact ⟨_, .text hp hb hi hq hib rfl⟩
    · exact ⟨_, .over (by omega) rfl⟩
theorem BZ.ex (s : ByteArray) (d c w : Nat) (fo : Bool) : ∀ (g p : Nat) (R : List (List UInt8)) (L h : Nat) (f : Bool), s.size ≤ p + g → ∃ T E C, BZ s d c w fo T E C p R L h f := by
  intro g
  induction g with
  | zero => intro p R L h f hg; exact ⟨_, _, _, .over (by omega) rfl rfl rfl⟩
  | succ g ih =>
    intro p R L h f hg
    by_cases hp : p < s.size
    · obtain ⟨b, hb⟩ := RowE.ex s p (by omega)
      obtain ⟨i, hi⟩ := InN.ex s p b hb.1
      obtain ⟨q, hq⟩ := FirN.ex s p b hb.1
      obtain ⟨T, E, C, hn⟩ := ih (b + 1) (R ++ [rowT s p b w]) (if w < b - p then R.length + 1 else L) (if w < b - p then b else h) (f && decide (p + i = b)) (by have := hb.1; omega)
      by_cases hib : p + i = b
      · by_cases hf : f = true ∧ d = 0 ∧ w ≤ s.size ∧ w < i
        · obtain ⟨rfl, h2, h3, h4⟩ := hf
          exact ⟨_, _, _, .far hp hb hi hib h2 h3 h4 rfl rfl rfl⟩
        · exact ⟨T, E, C, .row hp hb hi hq (.inl ⟨hib, hf⟩) hn⟩
      · by_cases hk : i < w ∨ kindN s p b q = 3 ∨ kindN s p b q = 4
        · exact ⟨_, _, _, .stop hp hb hi hq hib hk rfl rfl rfl⟩
        · exact ⟨T, E, C, .row hp hb hi hq (.inr ⟨hib, by omega, fun e => hk (.inr (.inl e)), fun e => hk (.inr (.inr e))⟩) hn⟩
    · exact ⟨_, _, _, .over (by omega) rfl rfl rfl⟩
theorem BlocI.ex (s : ByteArray) (a : Nat) (n : Int) (ha : a < s.size) (h10 : byt s a ≠ 10) : ∃ st T h note E C, BlocI s a n st T h note E C := by
  obtain ⟨t, ht⟩ := RowE.ex s a (by omega)
  obtain ⟨g1, g2⟩ := hdr_le ha h10 ht
  obtain ⟨⟨p, d, c⟩, hx⟩ : ∃ x, hdr s a = x := ⟨_, rfl⟩
  rw [hx] at g1 g2
  dsimp only at g1 g2
  obtain ⟨q, hq⟩ := FirN.ex s p t g2
  have hq2 := hq.2.1
  obtain ⟨w, hw⟩ : ∃ w, if d = 0 then WZ s n w (min (t + 1) s.size) else w = d + min (max n 0).toNat (s.size + 1) := by
    by_cases hd : d = 0
    · obtain ⟨w, hw⟩ := WZ.ex s n s.size (min (t + 1) s.size) (by omega)
      exact ⟨w, by rw [if_pos hd]; exact hw⟩
    · exact ⟨_, by rw [if_neg hd]⟩
  obtain ⟨T, E, C, hB⟩ := BZ.ex s d c w (decide (byt s a = 62)) s.size (min (t + 1) s.size) [] 0 (min (t + 1) s.size) true (by omega)
  by_cases hqt : q = t
  · exact ⟨_, T, false, [], E, C, t, q, p, d, c, hx, ht, hq, .inr ⟨.inl ⟨hqt, rfl, rfl⟩, rfl, w, E, rfl, hw, hB⟩⟩
  · by_cases h35 : byt s q = 35 ∧ p < q
    · obtain ⟨e, he⟩ := BakN.ex s (q + 1) t (by omega)
      exact ⟨_, T, true, _, E, C, t, q, p, d, c, hx, ht, hq, .inr ⟨.inr ⟨by omega, h35.1, h35.2, rfl, e, he, rfl⟩, rfl, w, E, rfl, hw, hB⟩⟩
    · exact ⟨0, [], false, [], q, 5, t, q, p, d, c, hx, ht, hq, .inl ⟨by omega, h35, rfl, rfl⟩⟩
theorem BlocZ.ex (s : ByteArray) (at' n : Int) : ∃ st T h note E C, BlocZ s at' n st T h note E C := by
  cases h0 : blocB s at' with
  | true =>
    have h1 := h0
    unfold blocB at h1
    rw [decide_eq_true_eq] at h1
    obtain ⟨st, T, h, note, E, C, hI⟩ := BlocI.ex s at'.toNat n h1.2.1 (by omega)
    exact ⟨st, T, h, note, E, C, .inl ⟨h0, hI⟩⟩
  | false => exact ⟨0, [], false, [], at', 5, .inr ⟨h0, rfl, rfl⟩⟩

/-! ### Reading by trial -/
def fndB (n : Nat) (P : Nat → Bool) : Nat := ((List.range (n + 1)).find? P).getD 0
/-- The width, so many steps far (none if they don't do). -/
def wF (s : ByteArray) (n : Int) : Nat → Nat → Option Nat
  | 0, _ => none
  | g + 1, p =>
    if s.size ≤ p then some (s.size + 1)
    else
      let b := fndB s.size (fun b => decide (RowE s p b))
      let i := fndB s.size (fun i => decide (InN s p b i))
      let q := fndB s.size (fun q => decide (FirN s p b q))
      if RowE s p b ∧ InN s p b i ∧ FirN s p b q then
        if p + i = b then wF s n g (b + 1) else some (if n < (i : Int) ∧ kindN s p b q ≠ 3 ∧ kindN s p b q ≠ 4 then i else s.size + 1)
      else none
/-- The rows, so many steps far. -/
def bF (s : ByteArray) (d c w : Nat) (fo : Bool) : Nat → Nat → List (List UInt8) → Nat → Nat → Bool → Option (List UInt8 × Nat × Int)
  | 0, _, _, _, _, _ => none
  | g + 1, p, R, L, h, f =>
    if s.size ≤ p then some (bTxt c fo R L (lfs s s.size - lfs s h), s.size, 0)
    else
      let b := fndB s.size (fun b => decide (RowE s p b))
      let i := fndB s.size (fun i => decide (InN s p b i))
      let q := fndB s.size (fun q => decide (FirN s p b q))
      if RowE s p b ∧ InN s p b i ∧ FirN s p b q then
        if p + i = b then
          if f = true ∧ d = 0 ∧ w ≤ s.size ∧ w < i then some ([], p + w, 5)
          else bF s d c w fo g (b + 1) (R ++ [rowT s p b w]) (if w < b - p then R.length + 1 else L) (if w < b - p then b else h) (f && decide (p + i = b))
        else if i < w ∨ kindN s p b q = 3 ∨ kindN s p b q = 4 then some (bTxt c fo R L (lfs s p - lfs s h), p, 0)
        else bF s d c w fo g (b + 1) (R ++ [rowT s p b w]) (if w < b - p then R.length + 1 else L) (if w < b - p then b else h) (f && decide (p + i = b))
      else none
theorem wF_sound (s : ByteArray) (n : Int) (w : Nat) : ∀ (g p : Nat), wF s n g p = some w → WZ s n w p := by
  intro g
  induction g with
  | zero => intro p h; rw [wF] at h; cases h
  | succ g ih =>
    intro p h
    rw [wF] at h
    split at h
    · rename_i h1
      cases h
      exact .over h1 rfl
    · rename_i h1
      dsimp only at h
      split at h
      · rename_i h2
        split at h
        · rename_i h3
          exact .blank (by omega) h2.1 h2.2.1 h3 (ih _ h)
        · rename_i h3
          have e := Option.some.inj h
          exact .text (by omega) h2.1 h2.2.1 h2.2.2 h3 e.symm
      · cases h
theorem bF_sound (s : ByteArray) (d c w : Nat) (fo : Bool) (T : List UInt8) (E : Nat) (C : Int) : ∀ (g p : Nat) (R : List (List UInt8)) (L h : Nat) (f : Bool), bF s d c w fo g p R L h f = some (T, E, C) → BZ s d c w fo T E C p R L h f := by
  intro g
  induction g with
  | zero => intro p R L h f hh; rw [bF] at hh; cases hh
  | succ g ih =>
    intro p R L h f hh
    rw [bF] at hh
    split at hh
    · rename_i h1
      cases hh
      exact .over h1 rfl rfl rfl
    · rename_i h1
      dsimp only at hh
      split at hh
      · rename_i h2
        split at hh
        · rename_i h3
          split at hh
          · rename_i h4
            obtain ⟨rfl, k2, k3, k4⟩ := h4
            cases hh
            exact .far (by omega) h2.1 h2.2.1 h3 k2 k3 k4 rfl rfl rfl
          · rename_i h4
            exact .row (by omega) h2.1 h2.2.1 h2.2.2 (.inl ⟨h3, h4⟩) (ih _ _ _ _ _ hh)
        · rename_i h3
          split at hh
          · rename_i h4
            cases hh
            exact .stop (by omega) h2.1 h2.2.1 h2.2.2 h3 h4 rfl rfl rfl
          · rename_i h4
            exact .row (by omega) h2.1 h2.2.1 h2.2.2 (.inr ⟨h3, by omega, fun e => h4 (.inr (.inl e)), fun e => h4 (.inr (.inr e))⟩) (ih _ _ _ _ _ hh)
      · cases hh
/-- Read at the beginning, by trial: the style, the text, the comment, where it ends, the code. -/
def bTry (s : ByteArray) (n : Int) (g : Nat) : Option (Int × List UInt8 × Bool × List UInt8 × Nat × Int) :=
  if 0 < s.size ∧ (byt s 0 = 124 ∨ byt s 0 = 62) then
    let t := fndB s.size (fun t => decide (RowE s 0 t))
    let p := (hdr s 0).1
    let d := (hdr s 0).2.1
    let c := (hdr s 0).2.2
    let q := fndB s.size (fun q => decide (FirN s p t q))
    let e := fndB s.size (fun e => decide (BakN s (q + 1) t e))
    if RowE s 0 t ∧ FirN s p t q then
      if q < t ∧ ¬ (byt s q = 35 ∧ p < q) then some (0, [], false, [], q, 5)
      else if q = t ∨ BakN s (q + 1) t e then
        match (if d = 0 then wF s n g (min (t + 1) s.size) else some (d + min (max n 0).toNat (s.size + 1))) with
        | none => none
        | some w => match bF s d c w (decide (byt s 0 = 62)) g (min (t + 1) s.size) [] 0 (min (t + 1) s.size) true with
          | none => none
          | some (T, E, C) => some ((if byt s 0 = 62 then 5 else 4), T, decide (q < t), (if q < t then pieceL s (q + 1) e else []), E, C)
      else none
    else none
  else none

end Go.Proofs.YtomdhgbofocbbaaDoor
