/- Plain scalars by their places: where they may begin, where their parts end, what is read: plain facts (nothing of the program). Conditions: none beside those that each theorem writes out. -/
import Derived.Test.YtomdhgbofocbbaaDoorLinP
import Derived.Test.YtomdhgbofocbbaaDoorFoldP
namespace Go.Proofs.YtomdhgbofocbbaaDoor
open Go.RowKit

/-- May a plain scalar begin at a place? -/
def begB (s : ByteArray) (at' : Int) (fl : Bool) : Bool :=
  !(endsB s at') && (!(U.indic (byt s at'.toNat : Int)) || (decide (byt s at'.toNat = 45 ∨ byt s at'.toNat = 63 ∨ byt s at'.toNat = 58) && (!(endsB s (at' + 1)) && !(fl && U.flow (byt s (at'.toNat + 1) : Int)))))
/-- Does a part end at a place, by what stands there? -/
def stopB (s : ByteArray) (fl : Bool) (p : Nat) : Bool :=
  decide (byt s p = 10) || ((decide (byt s p = 35) && (decide (0 < p) && U.white (byt s (p - 1) : Int))) || ((fl && U.flow (byt s p : Int)) || (decide (byt s p = 58) && (endsB s ((p : Int) + 1) || (fl && U.flow (byt s (p + 1) : Int))))))
/-- The first place from a on at which a part ends. -/
def StpN (s : ByteArray) (fl : Bool) (a p : Nat) : Prop := a ≤ p ∧ p ≤ s.size ∧ (∀ j, j < p → a ≤ j → stopB s fl j = false) ∧ (p = s.size ∨ stopB s fl p = true)
/-- The last place from a on, up to p, ahead of which no White stands. -/
def BakN (s : ByteArray) (a p e : Nat) : Prop := a ≤ e ∧ e ≤ p ∧ (∀ j, j < p → e ≤ j → U.white (byt s j : Int) = true) ∧ (e = a ∨ U.white (byt s (e - 1) : Int) = false)
/-- The part that begins at a ends at e. -/
def ParN (s : ByteArray) (fl : Bool) (a e : Nat) : Prop := ∃ p, StpN s fl a p ∧ BakN s a p e
instance (s : ByteArray) (fl : Bool) (a p : Nat) : Decidable (StpN s fl a p) := by unfold StpN; infer_instance
instance (s : ByteArray) (a p e : Nat) : Decidable (BakN s a p e) := by unfold BakN; infer_instance

theorem StpN.ex (s : ByteArray) (fl : Bool) (a : Nat) (h : a ≤ s.size) : ∃ p, StpN s fl a p := by
  obtain ⟨p, h1, h2, h3, h4⟩ := run_ex (fun j => stopB s fl j = false) _ a s.size (Nat.le_refl _) h
  exact ⟨p, h1, h2, h3, by simpa using h4⟩
theorem StpN.uniq {s : ByteArray} {fl : Bool} {a p p' : Nat} (h : StpN s fl a p) (h' : StpN s fl a p') : p = p' := by
  obtain ⟨h1, h2, h3, h4⟩ := h
  obtain ⟨k1, k2, k3, k4⟩ := h'
  rcases Nat.lt_trichotomy p p' with h | h | h
  · rcases h4 with h4 | h4
    · omega
    · have := k3 p (by omega) (by omega); rw [h4] at this; cases this
  · exact h
  · rcases k4 with k4 | k4
    · omega
    · have := h3 p' (by omega) (by omega); rw [k4] at this; cases this
theorem BakN.ex (s : ByteArray) (a p : Nat) (h : a ≤ p) : ∃ e, BakN s a p e := by
  obtain ⟨e, h1, h2, h3⟩ := run_back (fun j => a ≤ j ∧ U.white (byt s j : Int) = true) p
  have hae : a ≤ e := by
    by_cases he : e = p
    · omega
    · exact (h2 e (by omega) (Nat.le_refl _)).1
  refine ⟨e, hae, h1, fun j h4 h5 => (h2 j h4 h5).2, ?_⟩
  rcases h3 with h3 | ⟨h3, h4⟩
  · exact .inl (by omega)
  · by_cases hea : e = a
    · exact .inl hea
    · refine .inr ?_
      cases hw : U.white (byt s (e - 1) : Int) with
      | false => rfl
      | true => exact absurd ⟨by omega, hw⟩ h4
theorem BakN.uniq {s : ByteArray} {a p e e' : Nat} (h : BakN s a p e) (h' : BakN s a p e') : e = e' := by
  obtain ⟨h1, h2, h3, h4⟩ := h
  obtain ⟨k1, k2, k3, k4⟩ := h'
  rcases Nat.lt_trichotomy e e' with h | h | h
  · rcases k4 with k4 | k4
    · omega
    · have := h3 (e' - 1) (by omega) (by omega); rw [k4] at this; cases this
  · exact h
  · rcases h4 with h4 | h4
    · omega
    · have := k3 (e - 1) (by omega) (by omega); rw [h4] at this; cases this
theorem ParN.ex (s : ByteArray) (fl : Bool) (a : Nat) (h : a ≤ s.size) : ∃ e, ParN s fl a e := by
  obtain ⟨p, hp⟩ := StpN.ex s fl a h
  obtain ⟨e, he⟩ := BakN.ex s a p hp.1
  exact ⟨e, p, hp, he⟩
theorem ParN.uniq {s : ByteArray} {fl : Bool} {a e e' : Nat} (h : ParN s fl a e) (h' : ParN s fl a e') : e = e' := by
  obtain ⟨p, hp, he⟩ := h
  obtain ⟨p', hp', he'⟩ := h'
  obtain rfl := hp.uniq hp'
  exact he.uniq he'
theorem ParN.ge {s : ByteArray} {fl : Bool} {a e : Nat} (h : ParN s fl a e) : a ≤ e := by
  obtain ⟨p, hp, he⟩ := h
  exact he.1
theorem ParN.le {s : ByteArray} {fl : Bool} {a e : Nat} (h : ParN s fl a e) : e ≤ s.size := by
  obtain ⟨p, hp, he⟩ := h
  have := he.2.1
  have := hp.2.1
  omega
/-- A part stays in its row. -/
theorem ParN.row {s : ByteArray} {fl : Bool} {a b e : Nat} (h : ParN s fl a e) (hE : RowE s a b) : e ≤ b := by
  obtain ⟨p, hp, he⟩ := h
  have h1 := he.2.1
  have h2 : p ≤ b := by
    refine Decidable.byContradiction fun hn => ?_
    have h3 := hp.2.2.1 b (by omega) hE.1
    rcases hE.2.2.2 with h4 | h4
    · have := hp.2.1; omega
    · unfold stopB at h3
      rw [decide_eq_true h4] at h3
      cases h3
  omega

theorem InN.uniq {s : ByteArray} {a b n n' : Nat} (h : InN s a b n) (h' : InN s a b n') : n = n' := by
  obtain ⟨h1, h2, h3⟩ := h
  obtain ⟨k1, k2, k3⟩ := h'
  rcases Nat.lt_trichotomy n n' with h | h | h
  · rcases h3 with h3 | h3
    · omega
    · exact absurd (k2 n h) h3
  · exact h
  · rcases k3 with k3 | k3
    · omega
    · exact absurd (h2 n' h) k3

/-- From a row's beginning a on so many blank rows stand; the row behind them begins at c. -/
inductive Blk (s : ByteArray) : Nat → Nat → Nat → Prop
  | over {a : Nat} : s.size ≤ a → Blk s a 0 a
  | text {a b p : Nat} : a < s.size → RowE s a b → FirN s a b p → p ≠ b → Blk s a 0 a
  | more {a b k c : Nat} : a < s.size → RowE s a b → FirN s a b b → Blk s (b + 1) k c → Blk s a (k + 1) c
theorem Blk.ex (s : ByteArray) : ∀ (n a : Nat), s.size < a + n → ∃ k c, Blk s a k c := by
  intro n
  induction n with
  | zero => intro a h; exact ⟨0, a, .over (by omega)⟩
  | succ n ih =>
    intro a h
    by_cases ha : a < s.size
    · obtain ⟨b, hb⟩ := RowE.ex s a (by omega)
      obtain ⟨p, hp⟩ := FirN.ex s a b hb.1
      by_cases hpb : p = b
      · subst hpb
        obtain ⟨k, c, hk⟩ := ih (p + 1) (by have := hb.1; omega)
        exact ⟨k + 1, c, .more ha hb hp hk⟩
      · exact ⟨0, a, .text ha hb hp hpb⟩
    · exact ⟨0, a, .over (by omega)⟩
theorem Blk.inv {s : ByteArray} {a b p k c : Nat} (h : Blk s a k c) (ha : a < s.size) (hb : RowE s a b) (hp : FirN s a b p) :
    (p ≠ b ∧ k = 0 ∧ c = a) ∨ (p = b ∧ ∃ k', k = k' + 1 ∧ Blk s (b + 1) k' c) := by
  cases h with
  | over h => omega
  | text _ hb' hp' hn =>
    obtain rfl := hb.uniq hb'
    obtain rfl := hp.uniq hp'
    exact .inl ⟨hn, rfl, rfl⟩
  | more _ hb' hp' hr =>
    obtain rfl := hb.uniq hb'
    obtain rfl := hp.uniq hp'
    exact .inr ⟨rfl, _, rfl, hr⟩
theorem Blk.end {s : ByteArray} {a k c : Nat} (h : Blk s a k c) (ha : s.size ≤ a) : k = 0 ∧ c = a := by
  cases h with
  | over h => exact ⟨rfl, rfl⟩
  | text h _ _ _ => omega
  | more h _ _ _ => omega
theorem Blk.uniq {s : ByteArray} {a k c : Nat} (h : Blk s a k c) : ∀ {k' c'}, Blk s a k' c' → k = k' ∧ c = c' := by
  induction h with
  | over h => intro k' c' h'; obtain ⟨rfl, rfl⟩ := h'.end h; exact ⟨rfl, rfl⟩
  | text ha hb hp hn =>
    intro k' c' h'
    rcases h'.inv ha hb hp with ⟨_, rfl, rfl⟩ | ⟨h, _⟩
    · exact ⟨rfl, rfl⟩
    · exact absurd h hn
  | more ha hb hp _ ih =>
    intro k' c' h'
    rcases h'.inv ha hb hp with ⟨h, _⟩ | ⟨_, m, rfl, hr⟩
    · exact absurd rfl h
    · obtain ⟨rfl, rfl⟩ := ih hr
      exact ⟨rfl, rfl⟩
theorem Blk.ge {s : ByteArray} {a k c : Nat} (h : Blk s a k c) : a + k ≤ c := by
  induction h with
  | over h => omega
  | text _ _ _ _ => omega
  | more _ hb _ _ ih => have := hb.1; omega
/-- A row begins behind an LF. -/
theorem RowB.behindLf {s : ByteArray} {t : Nat} (h : byt s t = 10) : RowB s (t + 1) (t + 1) := ⟨Nat.le_refl _, fun j h1 h2 => by omega, .inr h⟩
theorem Blk.begins {s : ByteArray} {a k c : Nat} (h : Blk s a k c) : RowB s a a → c < s.size → RowB s c c := by
  induction h with
  | over h => intro h1 _; exact h1
  | text _ _ _ _ => intro h1 _; exact h1
  | more _ hb _ hr ih =>
    intro _ hc
    refine ih (RowB.behindLf ?_) hc
    rcases hb.2.2.2 with h | h
    · have := hr.ge; omega
    · exact h
/-- Where a row is not blank all behind blank ones. -/
theorem Blk.stops {s : ByteArray} {a k c b p : Nat} (h : Blk s a k c) : c < s.size → RowE s c b → FirN s c b p → p ≠ b := by
  induction h with
  | over h => intro h1; omega
  | text _ hb' hp' hn => intro _ hb hp; obtain rfl := hb.uniq hb'; obtain rfl := hp.uniq hp'; exact hn
  | more _ _ _ _ ih => exact ih

/-- The bytes from p to q. -/
def pieceL (s : ByteArray) (p q : Nat) : List UInt8 := (s.data.toList.drop p).take (q - p)
theorem piece_ext (s : ByteArray) (p q : Nat) : s.extract p q = ⟨(pieceL s p q).toArray⟩ := by
  apply ByteArray.ext
  rw [← Array.toList_inj, Lib.extract_data]
  rfl
theorem piece_len {s : ByteArray} {p q : Nat} (hq : q ≤ s.size) : (pieceL s p q).length = q - p := by
  unfold pieceL
  rw [List.length_take, List.length_drop, ← Lib.size_eq]
  omega

/-- What is read of a plain scalar, the last part of which ends at e, behind the rows R (by at most so many rows more). -/
def PlaiG (s : ByteArray) (n : Int) (fl : Bool) (T : List UInt8) (E : Nat) (O : Bool) (C : Int) : Nat → Nat → List (List UInt8) → Bool → Prop
  | 0, _, _, _ => True
  | g + 1, e, R, one => ∀ t f, RowE s e t → FirN s e t f →
    if f < t ∨ s.size ≤ t then T = U.flowT R ∧ E = e ∧ O = one ∧ C = 0 else
    ∀ k a, Blk s (t + 1) k a →
    if s.size ≤ a then T = U.flowT R ∧ E = e ∧ O = one ∧ C = 0 else
    ∀ b i p, RowE s a b → InN s a b i → FirN s a b p →
    if kindN s a b p ≠ 5 ∨ (i : Int) ≤ n then T = U.flowT R ∧ E = e ∧ O = one ∧ C = 0 else
    ∀ q, ParN s fl p q →
    if q = p then T = U.flowT R ∧ E = e ∧ O = one ∧ C = 0 else
    ∀ c, FirN s q b c →
    if fl = false ∧ c < b ∧ byt s c = 58 ∧ endsB s ((c : Int) + 1) = true then T = [] ∧ E = c ∧ O = false ∧ C = 5 else
    PlaiG s n fl T E O C g q (R ++ (U.blanksL k ++ [pieceL s p q])) false
theorem PlaiG.ex (s : ByteArray) (n : Int) (fl : Bool) : ∀ (g e : Nat) (R : List (List UInt8)) (one : Bool), e ≤ s.size → ∃ T E O C, PlaiG s n fl T E O C g e R one := by
  intro g
  induction g with
  | zero => intro e R one _; exact ⟨[], 0, false, 0, trivial⟩
  | succ g ih =>
    intro e R one he
    obtain ⟨t, ht⟩ := RowE.ex s e he
    obtain ⟨f, hf⟩ := FirN.ex s e t ht.1
    by_cases h1 : f < t ∨ s.size ≤ t
    · refine ⟨U.flowT R, e, one, 0, fun t' f' ht' hf' => ?_⟩
      obtain rfl := ht.uniq ht'
      obtain rfl := hf.uniq hf'
      rw [if_pos h1]
      exact ⟨rfl, rfl, rfl, rfl⟩
    obtain ⟨k, a, hk⟩ := Blk.ex s (s.size + 1) (t + 1) (by omega)
    by_cases h2 : s.size ≤ a
    · refine ⟨U.flowT R, e, one, 0, fun t' f' ht' hf' => ?_⟩
      obtain rfl := ht.uniq ht'
      obtain rfl := hf.uniq hf'
      rw [if_neg h1]
      intro k' a' hk'
      obtain ⟨rfl, rfl⟩ := hk.uniq hk'
      rw [if_pos h2]
      exact ⟨rfl, rfl, rfl, rfl⟩
    obtain ⟨b, hb⟩ := RowE.ex s a (by omega)
    obtain ⟨i, hi⟩ := InN.ex s a b hb.1
    obtain ⟨p, hp⟩ := FirN.ex s a b hb.1
    by_cases h3 : kindN s a b p ≠ 5 ∨ (i : Int) ≤ n
    · refine ⟨U.flowT R, e, one, 0, fun t' f' ht' hf' => ?_⟩
      obtain rfl := ht.uniq ht'
      obtain rfl := hf.uniq hf'
      rw [if_neg h1]
      intro k' a' hk'
      obtain ⟨rfl, rfl⟩ := hk.uniq hk'
      rw [if_neg h2]
      intro b' i' p' hb' hi' hp'
      obtain rfl := hb.uniq hb'
      obtain rfl := hi.uniq hi'
      obtain rfl := hp.uniq hp'
      rw [if_pos h3]
      exact ⟨rfl, rfl, rfl, rfl⟩
    obtain ⟨q, hq⟩ := ParN.ex s fl p (by have := hp.2.1; have := hb.2.1; omega)
    have hqb : q ≤ b := hq.row (hb.within (Blk.begins hk (RowB.behindLf (by rcases ht.2.2.2 with h | h; · omega
                                                                            · exact h)) (by omega)) hp.1 hp.2.1)
    by_cases h4 : q = p
    · refine ⟨U.flowT R, e, one, 0, fun t' f' ht' hf' => ?_⟩
      obtain rfl := ht.uniq ht'
      obtain rfl := hf.uniq hf'
      rw [if_neg h1]
      intro k' a' hk'
      obtain ⟨rfl, rfl⟩ := hk.uniq hk'
      rw [if_neg h2]
      intro b' i' p' hb' hi' hp'
      obtain rfl := hb.uniq hb'
      obtain rfl := hi.uniq hi'
      obtain rfl := hp.uniq hp'
      rw [if_neg h3]
      intro q' hq'
      obtain rfl := hq.uniq hq'
      rw [if_pos h4]
      exact ⟨rfl, rfl, rfl, rfl⟩
    obtain ⟨c, hc⟩ := FirN.ex s q b hqb
    by_cases h5 : fl = false ∧ c < b ∧ byt s c = 58 ∧ endsB s ((c : Int) + 1) = true
    · refine ⟨[], c, false, 5, fun t' f' ht' hf' => ?_⟩
      obtain rfl := ht.uniq ht'
      obtain rfl := hf.uniq hf'
      rw [if_neg h1]
      intro k' a' hk'
      obtain ⟨rfl, rfl⟩ := hk.uniq hk'
      rw [if_neg h2]
      intro b' i' p' hb' hi' hp'
      obtain rfl := hb.uniq hb'
      obtain rfl := hi.uniq hi'
      obtain rfl := hp.uniq hp'
      rw [if_neg h3]
      intro q' hq'
      obtain rfl := hq.uniq hq'
      rw [if_neg h4]
      intro c' hc'
      obtain rfl := hc.uniq hc'
      rw [if_pos h5]
      exact ⟨rfl, rfl, rfl, rfl⟩
    · obtain ⟨T, E, O, C, h⟩ := ih q (R ++ (U.blanksL k ++ [pieceL s p q])) false (hq.le)
      refine ⟨T, E, O, C, fun t' f' ht' hf' => ?_⟩
      obtain rfl := ht.uniq ht'
      obtain rfl := hf.uniq hf'
      rw [if_neg h1]
      intro k' a' hk'
      obtain ⟨rfl, rfl⟩ := hk.uniq hk'
      rw [if_neg h2]
      intro b' i' p' hb' hi' hp'
      obtain rfl := hb.uniq hb'
      obtain rfl := hi.uniq hi'
      obtain rfl := hp.uniq hp'
      rw [if_neg h3]
      intro q' hq'
      obtain rfl := hq.uniq hq'
      rw [if_neg h4]
      intro c' hc'
      obtain rfl := hc.uniq hc'
      rw [if_neg h5]
      exact h
/-- What Read answers at a place: the text, where it ends, whether it has one part, the code. -/
def PlaiZ (s : ByteArray) (at' n : Int) (fl : Bool) (T : List UInt8) (E : Int) (O : Bool) (C : Int) : Prop :=
  if begB s at' fl = false then T = [] ∧ E = at' ∧ O = false ∧ C = 5 else
  ∃ E' : Nat, E = (E' : Int) ∧ ∀ e, ParN s fl at'.toNat e → PlaiG s n fl T E' O C (s.size + 1) e [pieceL s at'.toNat e] true
theorem beg_in {s : ByteArray} {at' : Int} {fl : Bool} (h : begB s at' fl = true) : 0 ≤ at' ∧ at'.toNat < s.size := by
  unfold begB at h
  rw [Bool.and_eq_true] at h
  have h1 := h.1
  refine Decidable.byContradiction fun hn => ?_
  rw [endsB_out s at' (by omega)] at h1
  cases h1
theorem PlaiZ.ex (s : ByteArray) (at' n : Int) (fl : Bool) : ∃ T E O C, PlaiZ s at' n fl T E O C := by
  unfold PlaiZ
  cases h : begB s at' fl with
  | false => exact ⟨[], at', false, 5, by rw [if_pos rfl]; exact ⟨rfl, rfl, rfl, rfl⟩⟩
  | true =>
    obtain ⟨h0, h1⟩ := beg_in h
    obtain ⟨e, he⟩ := ParN.ex s fl at'.toNat (by omega)
    obtain ⟨T, E, O, C, hG⟩ := PlaiG.ex s n fl (s.size + 1) e [pieceL s at'.toNat e] true he.le
    refine ⟨T, (E : Int), O, C, ?_⟩
    rw [if_neg (by decide)]
    refine ⟨E, rfl, fun e' he' => ?_⟩
    obtain rfl := he.uniq he'
    exact hG

end Go.Proofs.YtomdhgbofocbbaaDoor
