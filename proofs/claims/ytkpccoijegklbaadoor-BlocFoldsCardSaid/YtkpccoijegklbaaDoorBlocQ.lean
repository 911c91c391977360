/- Block scalars as the program goes through them: the width first, then the rows: plain facts (nothing of the program). Conditions: none beside those that each theorem writes out. -/
import Derived.Test.YtkpccoijegklbaaDoorBlocP
namespace Go.Proofs.YtkpccoijegklbaaDoor
open Go.RowKit

/-- The first place from p on that is neither a blank nor a line feed. -/
def FilN (s : ByteArray) (p q : Nat) : Prop := p ≤ q ∧ q ≤ s.size ∧ (∀ j, j < q → p ≤ j → byt s j = 32 ∨ byt s j = 10) ∧ (q = s.size ∨ (byt s q ≠ 32 ∧ byt s q ≠ 10))
theorem FilN.ex (s : ByteArray) (p : Nat) (h : p ≤ s.size) : ∃ q, FilN s p q := by
  obtain ⟨q, h1, h2, h3, h4⟩ := run_ex (fun j => byt s j = 32 ∨ byt s j = 10) _ p s.size (Nat.le_refl _) h
  refine ⟨q, h1, h2, h3, ?_⟩
  rcases h4 with h4 | h4
  · exact .inl h4
  · exact .inr ⟨fun e => h4 (.inl e), fun e => h4 (.inr e)⟩
/-- What the row of that place is. -/
def FilR (s : ByteArray) (n : Int) (w p q : Nat) : Prop :=
  (q = s.size ∧ w = s.size + 1) ∨ (q < s.size ∧ ∃ a b f i, p ≤ a ∧ RowB s a a ∧ RowB s q a ∧ RowE s a b ∧ RowE s q b ∧ InN s a b i ∧ FirN s a b f ∧ a + i = q ∧ q < b ∧ w = if n < (i : Int) ∧ kindN s a b f ≠ 3 ∧ kindN s a b f ≠ 4 then i else s.size + 1)
theorem RowB.next {s : ByteArray} {p b : Nat} (hb : RowE s p b) (h : b < s.size) : RowB s (b + 1) (b + 1) :=
  ⟨Nat.le_refl _, fun j h1 h2 => by omega, .inr (by rw [Nat.add_sub_cancel]; exact hb.2.2.2.resolve_left (by omega))⟩
theorem WZ.fil {s : ByteArray} {n : Int} {w p : Nat} (h : WZ s n w p) : (p < s.size → RowB s p p) → p ≤ s.size → ∀ q, FilN s p q → FilR s n w p q := by
  induction h with
  | over h1 h2 =>
    intro _ hp q hq
    have := hq.1
    have := hq.2.1
    exact .inl ⟨by omega, h2⟩
  | @blank p b i h1 hb hi hib hw ih =>
    intro hB hp q hq
    have hb1 := hb.1
    have hb2 := hb.2.1
    have hin : ∀ j, j < b → p ≤ j → byt s j = 32 := fun j g1 g2 => by
      have := hi.2.1 (j - p) (by omega)
      rwa [show p + (j - p) = j by omega] at this
    have hqb : b ≤ q := by
      refine Decidable.byContradiction fun hc => ?_
      have h3 := hin q (by omega) hq.1
      rcases hq.2.2.2 with h4 | h4
      · omega
      · exact h4.1 h3
    by_cases hbs : b < s.size
    · have h10 := hb.2.2.2.resolve_left (by omega)
      have hq2 : FilN s (b + 1) q := by
        refine ⟨?_, hq.2.1, fun j g1 g2 => hq.2.2.1 j g1 (by omega), hq.2.2.2⟩
        refine Decidable.byContradiction fun hc => ?_
        have e : q = b := by omega
        rcases hq.2.2.2 with h4 | h4
        · omega
        · exact h4.2 (by rw [e]; exact h10)
      rcases ih (fun _ => RowB.next hb hbs) (by omega) q hq2 with h3 | ⟨h3, a, b', f, i', g1, g⟩
      · exact .inl h3
      · exact .inr ⟨h3, a, b', f, i', by omega, g⟩
    · have hq1 := hq.2.1
      refine .inl ⟨by omega, ?_⟩
      cases hw with
      | over _ e => exact e
      | blank h3 => omega
      | text h3 => omega
  | @text p b i f h1 hb hi hf hib hw =>
    intro hB hp q hq
    have hb1 := hb.1
    have hb2 := hb.2.1
    have hi1 := hi.1
    have h32 := hi.2.2.resolve_left hib
    have h10 := hb.2.2.1 (p + i) (by omega) (by omega)
    have e : q = p + i := by
      by_cases g1 : q < p + i
      · have h3 := hi.2.1 (q - p) (by have := hq.1; omega)
        rw [show p + (q - p) = q by have := hq.1; omega] at h3
        rcases hq.2.2.2 with h4 | h4
        · omega
        · exact absurd h3 h4.1
      · by_cases g2 : p + i < q
        · rcases hq.2.2.1 (p + i) g2 (by omega) with h3 | h3
          · exact absurd h3 h32
          · exact absurd h3 h10
        · omega
    have hBp := hB h1
    refine .inr ⟨by omega, p, b, f, i, Nat.le_refl _, hBp, ⟨by omega, fun j g1 g2 => hb.2.2.1 j (by omega) g2, hBp.2.2⟩, hb, hb.from (by omega) (by omega), hi, hf, e.symm, by omega, hw⟩

/-- The first row from p on, ahead of the place a, that has more than w bytes: the byte w of it. -/
inductive FarZ (s : ByteArray) (w a : Nat) : Nat → Option Nat → Prop
  | over {p} : a ≤ p → FarZ s w a p none
  | far {p b} : p < a → RowE s p b → w < b - p → FarZ s w a p (some (p + w))
  | next {p b x} : p < a → RowE s p b → b - p ≤ w → FarZ s w a (b + 1) x → FarZ s w a p x
/-- How the rows are read where none of them is wrong. -/
inductive GZ (s : ByteArray) (w : Nat) (R' : List (List UInt8)) (L' h' E : Nat) : Nat → List (List UInt8) → Nat → Nat → Prop
  | over {p R L h} : s.size ≤ p → R' = R → L' = L → h' = h → E = s.size → GZ s w R' L' h' E p R L h
  | stop {p b i q R L h} : p < s.size → RowE s p b → InN s p b i → FirN s p b q → p + i ≠ b → (i < w ∨ kindN s p b q = 3 ∨ kindN s p b q = 4) → R' = R → L' = L → h' = h → E = p → GZ s w R' L' h' E p R L h
  | row {p b i q R L h} : p < s.size → RowE s p b → InN s p b i → FirN s p b q → (p + i = b ∨ (p + i ≠ b ∧ w ≤ i ∧ kindN s p b q ≠ 3 ∧ kindN s p b q ≠ 4)) →
      GZ s w R' L' h' E (b + 1) (R ++ [rowT s p b w]) (if w < b - p then R.length + 1 else L) (if w < b - p then b else h) → GZ s w R' L' h' E p R L h
theorem BZ.gz {s : ByteArray} {d c w : Nat} {fo : Bool} {T : List UInt8} {E : Nat} {C : Int} {p L h : Nat} {R : List (List UInt8)} {f : Bool} (H : BZ s d c w fo T E C p R L h f) :
    (f = false ∨ d ≠ 0 ∨ s.size < w) → C = 0 ∧ ∃ R' L' h', GZ s w R' L' h' E p R L h ∧ T = bTxt c fo R' L' (lfs s E - lfs s h') := by
  induction H with
  | over h1 h2 h3 h4 => intro _; exact ⟨h4, _, _, _, .over h1 rfl rfl rfl h3, by rw [h3]; exact h2⟩
  | stop h1 h2 h3 h4 h5 h6 h7 h8 h9 => intro _; exact ⟨h9, _, _, _, .stop h1 h2 h3 h4 h5 h6 rfl rfl rfl h8, by rw [h8]; exact h7⟩
  | far h1 h2 h3 h4 h5 h6 h7 => intro hf; rcases hf with hf | hf | hf; exact absurd hf (by decide); exact absurd h5 hf; omega
  | row h1 h2 h3 h4 h5 h6 ih =>
    intro hf
    obtain ⟨g1, R', L', h', g2, g3⟩ := ih (hf.imp_left (fun e => by rw [e]; rfl))
    refine ⟨g1, R', L', h', .row h1 h2 h3 h4 ?_ g2, g3⟩
    rcases h5 with h5 | h5
    · exact .inl h5.1
    · exact .inr h5
/-- Where no digit is told: a row too far in, or all rows. -/
theorem BZ.split {s : ByteArray} {d c w : Nat} {fo : Bool} {T : List UInt8} {E : Nat} {C : Int} {p L h : Nat} {R : List (List UInt8)} {f : Bool} (H : BZ s d c w fo T E C p R L h f) :
    ∀ a b i, f = true → d = 0 → w ≤ s.size → p ≤ a → a < s.size → RowB s a a → RowE s a b → InN s a b i → a + i ≠ b → (∀ j, j < a → p ≤ j → byt s j = 32 ∨ byt s j = 10) →
      (∃ x, FarZ s w a p (some x) ∧ E = x ∧ C = 5) ∨ (FarZ s w a p none ∧ C = 0 ∧ ∃ R' L' h', GZ s w R' L' h' E p R L h ∧ T = bTxt c fo R' L' (lfs s E - lfs s h')) := by
  have blank : ∀ {p b i a : Nat}, RowE s p b → InN s p b i → p < a → a < s.size → RowB s a a → (∀ j, j < a → p ≤ j → byt s j = 32 ∨ byt s j = 10) → b < a ∧ p + i = b := by
    intro p b i a hb hi hpa has ha hall
    have hba : b < a := by
      refine Decidable.byContradiction fun hc => ?_
      rcases ha.2.2 with h0 | h0
      · omega
      · exact hb.2.2.1 (a - 1) (by omega) (by omega) h0
    refine ⟨hba, Decidable.byContradiction fun hc => ?_⟩
    have hi1 := hi.1
    rcases hall (p + i) (by omega) (by omega) with h3 | h3
    · exact absurd h3 (hi.2.2.resolve_left hc)
    · exact hb.2.2.1 (p + i) (by omega) (by omega) h3
  induction H with
  | over h1 h2 h3 h4 => intro a b i _ _ _ hpa has; omega
  | @stop p b' i' q R L h f h1 h2 h3 h4 h5 h6 h7 h8 h9 =>
    intro a b i hf hd hw hpa has ha hb hi hib hall
    have hap : a ≤ p := by
      refine Decidable.byContradiction fun hc => h5 (blank h2 h3 (by omega) has ha hall).2
    exact .inr ⟨.over hap, h9, _, _, _, .stop h1 h2 h3 h4 h5 h6 rfl rfl rfl h8, by rw [h8]; exact h7⟩
  | @far p b' i' R L h h1 h2 h3 h4 h5 h6 h7 h8 h9 h10 =>
    intro a b i hf hd hw hpa has ha hb hi hib hall
    have hpa2 : p < a := by
      refine Decidable.byContradiction fun hc => ?_
      obtain rfl : p = a := by omega
      obtain rfl := hb.uniq h2
      obtain rfl := hi.uniq h3
      exact hib h4
    exact .inl ⟨p + w, .far hpa2 h2 (by omega), h9, h10⟩
  | @row p b' i' q R L h f h1 h2 h3 h4 h5 h6 ih =>
    intro a b i hf hd hw hpa has ha hb hi hib hall
    by_cases hpa2 : p < a
    · obtain ⟨g1, g2⟩ := blank h2 h3 hpa2 has ha hall
      have h5' : ¬ (f = true ∧ d = 0 ∧ w ≤ s.size ∧ w < i') := by
        rcases h5 with h5 | h5
        · exact h5.2
        · exact absurd g2 h5.1
      have hwi : b' - p ≤ w := by
        refine Decidable.byContradiction fun hc => h5' ⟨hf, hd, hw, by omega⟩
      have hff : (f && decide (p + i' = b')) = true := by rw [hf, decide_eq_true g2]; rfl
      rcases ih a b i hff hd hw (by omega) has ha hb hi hib (fun j k1 k2 => hall j k1 (by have := h2.1; omega)) with ⟨x, k1, k2⟩ | ⟨k1, k2, R', L', h', k3, k4⟩
      · exact .inl ⟨x, .next hpa2 h2 hwi k1, k2⟩
      · exact .inr ⟨.next hpa2 h2 hwi k1, k2, R', L', h', .row h1 h2 h3 h4 (.inl g2) k3, k4⟩
    · obtain rfl : p = a := by omega
      obtain rfl := hb.uniq h2
      obtain rfl := hi.uniq h3
      have h5' := h5.resolve_left (fun e => hib e.1)
      have hff : (f && decide (p + i = b)) = false := by rw [decide_eq_false hib, Bool.and_false]
      obtain ⟨g1, R', L', h', g2, g3⟩ := h6.gz (.inl hff)
      exact .inr ⟨.over (Nat.le_refl _), g1, R', L', h', .row h1 h2 h3 h4 (.inr h5') g2, g3⟩
theorem rowT_nil {s : ByteArray} {p b w : Nat} (h : ¬ w < b - p) : rowT s p b w = [] := by unfold rowT; rw [if_neg h]
theorem rowT_ne {s : ByteArray} {p b w : Nat} (h : w < b - p) (hb : b ≤ s.size) : rowT s p b w ≠ [] := by
  unfold rowT
  rw [if_pos h]
  intro e
  have := piece_len (s := s) (p := p + w) (q := b) hb
  rw [e, List.length_nil] at this
  omega
theorem rowT_len {s : ByteArray} {p b w : Nat} (hb : b ≤ s.size) : (rowT s p b w).length ≤ b - p := by
  unfold rowT
  split
  · rw [piece_len hb]; omega
  · exact Nat.zero_le _
/-- A width that no row has is as good as any other one. -/
theorem GZ.clip {s : ByteArray} {R' : List (List UInt8)} {L' h' E p L h : Nat} {R : List (List UInt8)} (H : GZ s (s.size + 1) R' L' h' E p R L h) : 1 ≤ p → GZ s s.size R' L' h' E p R L h := by
  induction H with
  | over h1 h2 h3 h4 h5 => intro _; exact .over h1 h2 h3 h4 h5
  | stop h1 h2 h3 h4 h5 h6 h7 h8 h9 h10 =>
    intro hp
    have := h2.2.1
    have := h3.1
    exact .stop h1 h2 h3 h4 h5 (.inl (by omega)) h7 h8 h9 h10
  | row h1 h2 h3 h4 h5 h6 ih =>
    intro hp
    have k1 := h2.2.1
    have k2 := h2.1
    have k3 := ih (by omega)
    rw [rowT_nil (by omega), if_neg (by omega), if_neg (by omega)] at k3
    refine .row h1 h2 h3 h4 (h5.imp_right fun e => ?_) ?_
    · have := h3.1
      omega
    · rw [rowT_nil (by omega), if_neg (by omega), if_neg (by omega)]
      exact k3
/-- How many rows there are up to the last one that is not empty. -/
def CntN (R : List (List UInt8)) (k L : Nat) : Prop := L ≤ k ∧ (∀ j, L ≤ j → j < k → R.getD j [] = []) ∧ (L = 0 ∨ R.getD (L - 1) [] ≠ [])
theorem CntN.uniq {R : List (List UInt8)} {k L M : Nat} (h1 : CntN R k L) (h2 : CntN R k M) : L = M := by
  obtain ⟨a1, a2, a3⟩ := h1
  obtain ⟨b1, b2, b3⟩ := h2
  by_cases g1 : L < M
  · exact absurd (a2 (M - 1) (by omega) (by omega)) (b3.resolve_left (by omega))
  · by_cases g2 : M < L
    · exact absurd (b2 (L - 1) (by omega) (by omega)) (a3.resolve_left (by omega))
    · omega
theorem CntN.step {R : List (List UInt8)} {k L : Nat} (h : CntN R k L) : CntN R (k + 1) (if R.getD k [] = [] then L else k + 1) := by
  obtain ⟨a1, a2, a3⟩ := h
  split
  · rename_i h
    refine ⟨by omega, fun j g1 g2 => ?_, a3⟩
    by_cases e : j = k
    · rw [e]; exact h
    · exact a2 j g1 (by omega)
  · rename_i h
    exact ⟨Nat.le_refl _, fun j g1 g2 => by omega, .inr h⟩
theorem getD_snoc (R : List (List UInt8)) (r : List UInt8) (j : Nat) : (R ++ [r]).getD j [] = if j < R.length then R.getD j [] else if j = R.length then r else [] := by
  split
  · rename_i h
    simp [List.getD, List.getElem?_append_left h]
  · rename_i h
    split
    · rename_i h2
      subst h2
      simp [List.getD]
    · rename_i h2
      simp only [List.getD]
      rw [List.getElem?_eq_none (by rw [List.length_append]; simp; omega)]
      rfl
/-- What is so all along. -/
structure GI (s : ByteArray) (a p : Nat) (R : List (List UInt8)) (L h : Nat) : Prop where
  le : p ≤ s.size + 1
  tot : a + U.tot R ≤ p
  cnt : CntN R R.length L
  lf : p ≤ s.size → lfs s p = lfs s a + R.length
  hd : (L = 0 ∧ h = a) ∨ (0 < L ∧ lfs s h = lfs s a + (L - 1))
  hp : a ≤ h ∧ h ≤ p ∧ h ≤ s.size
theorem GI.begin {s : ByteArray} {a : Nat} (h : a ≤ s.size) : GI s a a [] 0 a :=
  ⟨by omega, Nat.le_refl _, ⟨Nat.le_refl _, fun j _ h => absurd h (Nat.not_lt_zero _), .inl rfl⟩, fun _ => rfl, .inl ⟨rfl, rfl⟩, ⟨Nat.le_refl _, Nat.le_refl _, h⟩⟩
theorem GI.next {s : ByteArray} {a p b w : Nat} {R : List (List UInt8)} {L h : Nat} (H : GI s a p R L h) (hp : p < s.size) (hb : RowE s p b) :
    GI s a (b + 1) (R ++ [rowT s p b w]) (if w < b - p then R.length + 1 else L) (if w < b - p then b else h) := by
  have hb1 := hb.1
  have hb2 := hb.2.1
  have hl := rowT_len (s := s) (p := p) (w := w) hb2
  have ht := H.tot
  have hlb : lfs s b = lfs s a + R.length := by rw [lfs_same b hb1 hb.2.2.1]; exact H.lf (by omega)
  have hh := H.hp
  refine ⟨by omega, ?_, ?_, fun hbs => ?_, ?_, ?_⟩
  · rw [U.tot_append]
    simp only [U.tot]
    omega
  · rw [List.length_append, List.length_singleton]
    have hc := H.cnt
    by_cases hw : w < b - p
    · rw [if_pos hw]
      refine ⟨Nat.le_refl _, fun j g1 g2 => by omega, .inr ?_⟩
      rw [Nat.add_sub_cancel, getD_snoc, if_neg (Nat.lt_irrefl _), if_pos rfl]
      exact rowT_ne hw hb2
    · rw [if_neg hw]
      refine ⟨by have := hc.1; omega, fun j g1 g2 => ?_, hc.2.2.imp_right fun e => ?_⟩
      · rw [getD_snoc, rowT_nil hw]
        split
        · exact hc.2.1 j g1 (by assumption)
        · split <;> rfl
      · rw [getD_snoc]
        by_cases h0 : L = 0
        · subst h0
          split
          · exact e
          · rename_i h1
            simp only [Nat.zero_sub] at e h1
            exfalso
            refine e ?_
            simp only [List.getD]
            rw [List.getElem?_eq_none (by omega)]
            rfl
        · rw [if_pos (by have := hc.1; omega)]
          exact e
  · have h10 := hb.2.2.2.resolve_left (by omega)
    rw [lfs_lf h10, hlb, List.length_append, List.length_singleton, Nat.add_assoc]
  · by_cases hw : w < b - p
    · rw [if_pos hw, if_pos hw]
      exact .inr ⟨by omega, by rw [hlb, Nat.add_sub_cancel]⟩
    · rw [if_neg hw, if_neg hw]
      exact H.hd
  · by_cases hw : w < b - p
    · rw [if_pos hw]
      omega
    · rw [if_neg hw]
      omega
theorem GZ.facts {s : ByteArray} {w : Nat} {R' : List (List UInt8)} {L' h' E p L h a : Nat} {R : List (List UInt8)} (H : GZ s w R' L' h' E p R L h) : GI s a p R L h →
    (p ≤ E ∨ s.size < p) ∧ E ≤ s.size ∧ a ≤ E ∧ U.tot R' ≤ s.size + 1 ∧ CntN R' R'.length L' ∧ ((L' = 0 ∧ h' = a) ∨ (0 < L' ∧ lfs s h' = lfs s a + (L' - 1))) ∧ a ≤ h' ∧ h' ≤ E := by
  induction H with
  | over h1 h2 h3 h4 h5 =>
    intro g
    subst h2 h3 h4 h5
    have := g.hp
    have := g.tot
    have := g.le
    exact ⟨by omega, Nat.le_refl _, by omega, by omega, g.cnt, g.hd, by omega, by omega⟩
  | stop h1 h2 h3 h4 h5 h6 h7 h8 h9 h10 =>
    intro g
    subst h7 h8 h9 h10
    have := g.hp
    have := g.tot
    exact ⟨.inl (Nat.le_refl _), by omega, by omega, by omega, g.cnt, g.hd, by omega, by omega⟩
  | row h1 h2 h3 h4 h5 h6 ih =>
    intro g
    have k := ih (g.next h1 h2)
    have k1 := h2.1
    have k2 := h2.2.1
    refine ⟨?_, k.2⟩
    rcases k.1 with k3 | k3
    · exact .inl (by omega)
    · refine .inl ?_
      cases h6 with
      | over _ _ _ _ e => omega
      | stop e => omega
      | row e => omega
end Go.Proofs.YtkpccoijegklbaaDoor
