/- The properties of a node, and aliases, by their places: plain facts (nothing of the program). Conditions: none beside those that each theorem writes out. -/
import Derived.Test.YtjpfkddkghfdiaaHandP
import Derived.Test.YtjpfkddkghfdiaaPlaiP
namespace Go.Proofs.Ytjpfkddkghfdiaa
open Go.RowKit

/-- How long the name is that stands at a place; the tag; the White. -/
def nmN (s : ByteArray) (k : Nat) : Nat := U.nameL (s.data.toList.drop k)
def tgN (s : ByteArray) (k : Nat) : Nat := U.tSize (s.data.toList.drop k)
def whN (s : ByteArray) (k : Nat) : Nat := ((s.data.toList.drop k).takeWhile fun b => U.white (b.toNat : Int)).length
/-- May a property end at a place? -/
def fitB (s : ByteArray) (fl : Bool) (q : Nat) : Bool := endsB s (q : Int) || (fl && U.flow (byt s q : Int))
/-- How properties are read, from a place on: e where the last one ended, a and t the anchor and the tag so far. -/
inductive PZ (s : ByteArray) (fl : Bool) (A T : List UInt8) (E : Nat) (C : Int) : Nat → Nat → List UInt8 → List UInt8 → Prop
  | none {p e a t} : ¬ (p < s.size ∧ (byt s p = 38 ∨ byt s p = 33)) → A = a → T = t → E = e → C = 0 → PZ s fl A T E C p e a t
  | anchor0 {p e a t} : p < s.size → byt s p = 38 → (nmN s (p + 1) = 0 ∨ a ≠ []) → A = [] → T = [] → E = p → C = 5 → PZ s fl A T E C p e a t
  | tag0 {p e a t} : p < s.size → byt s p = 33 → t ≠ [] → A = [] → T = [] → E = p → C = 5 → PZ s fl A T E C p e a t
  | anchorX {p e a t q} : p < s.size → byt s p = 38 → 0 < nmN s (p + 1) → a = [] → q = p + 1 + nmN s (p + 1) → fitB s fl q = false → A = [] → T = [] → E = q → C = 5 → PZ s fl A T E C p e a t
  | tagX {p e a t q} : p < s.size → byt s p = 33 → t = [] → q = p + tgN s p → fitB s fl q = false → A = [] → T = [] → E = q → C = 5 → PZ s fl A T E C p e a t
  | anchorL {p e a t q} : p < s.size → byt s p = 38 → 0 < nmN s (p + 1) → a = [] → q = p + 1 + nmN s (p + 1) → fitB s fl q = true → whN s q = 0 → A = pieceL s (p + 1) q → T = t → E = q → C = 0 → PZ s fl A T E C p e a t
  | tagL {p e a t q} : p < s.size → byt s p = 33 → t = [] → q = p + tgN s p → fitB s fl q = true → whN s q = 0 → A = a → T = pieceL s p q → E = q → C = 0 → PZ s fl A T E C p e a t
  | anchor {p e a t q} : p < s.size → byt s p = 38 → 0 < nmN s (p + 1) → a = [] → q = p + 1 + nmN s (p + 1) → fitB s fl q = true → 0 < whN s q → PZ s fl A T E C (q + whN s q) q (pieceL s (p + 1) q) t → PZ s fl A T E C p e a t
  | tag {p e a t q} : p < s.size → byt s p = 33 → t = [] → q = p + tgN s p → fitB s fl q = true → 0 < whN s q → PZ s fl A T E C (q + whN s q) q a (pieceL s p q) → PZ s fl A T E C p e a t
/-- What Read answers at a place. -/
def PropZ (s : ByteArray) (at' : Int) (fl : Bool) (A T : List UInt8) (E C : Int) : Prop :=
  (0 ≤ at' ∧ ∃ E', E = ((E' : Nat) : Int) ∧ PZ s fl A T E' C at'.toNat at'.toNat [] []) ∨ (at' < 0 ∧ A = [] ∧ T = [] ∧ E = at' ∧ C = 0)
/-- Does an alias begin at a place? -/
def aliB (s : ByteArray) (at' : Int) : Bool := decide (0 ≤ at' ∧ at'.toNat < s.size ∧ byt s at'.toNat = 42 ∧ 0 < nmN s (at'.toNat + 1))
/-- What Alias answers at a place. -/
def AliZ (s : ByteArray) (at' : Int) (A : List UInt8) (E C : Int) : Prop :=
  (aliB s at' = true ∧ A = pieceL s (at'.toNat + 1) (at'.toNat + 1 + nmN s (at'.toNat + 1)) ∧ E = at' + 1 + (nmN s (at'.toNat + 1) : Int) ∧ C = 0) ∨ (aliB s at' = false ∧ A = [] ∧ E = at' ∧ C = 5)

/-! ### What follows -/
theorem drop_len (s : ByteArray) (k : Nat) : (s.data.toList.drop k).length = s.size - k := by rw [List.length_drop, ← Lib.size_eq]
theorem nm_le {s : ByteArray} {k : Nat} (h : k ≤ s.size) : k + nmN s k ≤ s.size := by
  have := U.nameL_le (s.data.toList.drop k)
  rw [drop_len] at this
  unfold nmN
  omega
theorem tg_le {s : ByteArray} {k : Nat} (h : k ≤ s.size) : k + tgN s k ≤ s.size := by
  have := U.tSize_le (s.data.toList.drop k)
  rw [drop_len] at this
  unfold tgN
  omega
theorem wh_le {s : ByteArray} {k : Nat} (h : k ≤ s.size) : k + whN s k ≤ s.size := by
  have h1 : ((s.data.toList.drop k).takeWhile fun b => U.white (b.toNat : Int)).length ≤ (s.data.toList.drop k).length := (List.takeWhile_sublist _).length_le
  rw [drop_len] at h1
  unfold whN
  omega
theorem tg_pos {s : ByteArray} {k : Nat} (h : k < s.size) (hb : byt s k = 33) : 0 < tgN s k := by
  obtain ⟨b, h1, h2⟩ := drop_byte s k h
  unfold tgN
  rw [h1, U.tSize_cons, if_pos (h2.trans hb)]
  split
  · assumption
  · have : 0 < (U.tHand (s.data.toList.drop (k + 1))).1 := by
      unfold U.tHand
      split
      · exact Nat.succ_pos _
      · exact Nat.succ_pos _
    omega
/-- The White at a place: all of it, and what stands behind. -/
theorem wh_spec (s : ByteArray) : ∀ (g k : Nat), s.size ≤ k + g → (∀ j, j < k + whN s k → k ≤ j → U.white (byt s j : Int) = true) ∧ (s.size ≤ k + whN s k ∨ U.white (byt s (k + whN s k) : Int) = false) := by
  intro g
  induction g with
  | zero =>
    intro k h
    have h0 : s.data.toList.drop k = [] := List.eq_nil_of_length_eq_zero (by rw [drop_len]; omega)
    have : whN s k = 0 := by unfold whN; rw [h0]; rfl
    rw [this]
    exact ⟨fun j h1 h2 => by omega, .inl (by omega)⟩
  | succ g ih =>
    intro k h
    by_cases hk : k < s.size
    · obtain ⟨b, h1, h2⟩ := drop_byte s k hk
      cases hw : U.white (byt s k : Int) with
      | true =>
        have e : whN s k = whN s (k + 1) + 1 := by
          unfold whN
          rw [h1, List.takeWhile_cons, if_pos (by rw [h2]; exact hw), List.length_cons]
        obtain ⟨i1, i2⟩ := ih (k + 1) (by omega)
        rw [e]
        refine ⟨fun j j1 j2 => ?_, ?_⟩
        · by_cases hj : j = k
          · rw [hj]; exact hw
          · exact i1 j (by omega) (by omega)
        · rw [show k + (whN s (k + 1) + 1) = k + 1 + whN s (k + 1) by omega]
          exact i2
      | false =>
        have e : whN s k = 0 := by
          unfold whN
          rw [h1, List.takeWhile_cons, if_neg (by rw [h2, hw]; decide)]
          rfl
        rw [e]
        exact ⟨fun j h1 h2 => by omega, .inr hw⟩
    · have h0 : s.data.toList.drop k = [] := List.eq_nil_of_length_eq_zero (by rw [drop_len]; omega)
      have : whN s k = 0 := by unfold whN; rw [h0]; rfl
      rw [this]
      exact ⟨fun j h1 h2 => by omega, .inl (by omega)⟩
theorem wh_fir {s : ByteArray} {q r : Nat} (hr : RowE s q r) : FirN s q r (q + whN s q) := by
  obtain ⟨h1, h2⟩ := wh_spec s s.size q (by omega)
  have hl := wh_le (s := s) (k := q) (by have := hr.1; have := hr.2.1; omega)
  have hle : q + whN s q ≤ r := by
    refine Decidable.byContradiction fun hc => ?_
    have hw := h1 r (by omega) hr.1
    rcases hr.2.2.2 with e | e
    · omega
    · rw [e] at hw; cases hw
  refine ⟨by omega, hle, h1, ?_⟩
  rcases h2 with e | e
  · exact .inl (by have := hr.2.1; omega)
  · exact .inr e
theorem pieceL_ne {s : ByteArray} {p q : Nat} (h : p < q) (hq : q ≤ s.size) : pieceL s p q ≠ [] := by
  intro e
  have := piece_len (s := s) (p := p) hq
  rw [e] at this
  simp at this
  omega
theorem PZ.ex (s : ByteArray) (fl : Bool) : ∀ (g p e : Nat) (a t : List UInt8), s.size ≤ p + g → ∃ A T E C, PZ s fl A T E C p e a t := by
  intro g
  induction g with
  | zero => intro p e a t h; exact ⟨_, _, _, _, .none (by omega) rfl rfl rfl rfl⟩
  | succ g ih =>
    intro p e a t h
    by_cases hp : p < s.size ∧ (byt s p = 38 ∨ byt s p = 33)
    · obtain ⟨hp, h38 | h33⟩ := hp
      · by_cases h0 : nmN s (p + 1) = 0 ∨ a ≠ []
        · exact ⟨_, _, _, _, .anchor0 hp h38 h0 rfl rfl rfl rfl⟩
        · have hn : 0 < nmN s (p + 1) := by omega
          have ha : a = [] := Decidable.byContradiction fun hc => h0 (.inr hc)
          cases hf : fitB s fl (p + 1 + nmN s (p + 1)) with
          | false => exact ⟨_, _, _, _, .anchorX hp h38 hn ha rfl hf rfl rfl rfl rfl⟩
          | true =>
            by_cases hw : whN s (p + 1 + nmN s (p + 1)) = 0
            · exact ⟨_, _, _, _, .anchorL hp h38 hn ha rfl hf hw rfl rfl rfl rfl⟩
            · obtain ⟨A, T, E, C, hn'⟩ := ih (p + 1 + nmN s (p + 1) + whN s (p + 1 + nmN s (p + 1))) (p + 1 + nmN s (p + 1)) (pieceL s (p + 1) (p + 1 + nmN s (p + 1))) t (by omega)
              exact ⟨A, T, E, C, .anchor hp h38 hn ha rfl hf (by omega) hn'⟩
      · by_cases h0 : t = []
        · have hn := tg_pos hp h33
          cases hf : fitB s fl (p + tgN s p) with
          | false => exact ⟨_, _, _, _, .tagX hp h33 h0 rfl hf rfl rfl rfl rfl⟩
          | true =>
            by_cases hw : whN s (p + tgN s p) = 0
            · exact ⟨_, _, _, _, .tagL hp h33 h0 rfl hf hw rfl rfl rfl rfl⟩
            · obtain ⟨A, T, E, C, hn'⟩ := ih (p + tgN s p + whN s (p + tgN s p)) (p + tgN s p) a (pieceL s p (p + tgN s p)) (by omega)
              exact ⟨A, T, E, C, .tag hp h33 h0 rfl hf (by omega) hn'⟩
        · exact ⟨_, _, _, _, .tag0 hp h33 h0 rfl rfl rfl rfl⟩
    · exact ⟨_, _, _, _, .none hp rfl rfl rfl rfl⟩
theorem PropZ.ex (s : ByteArray) (at' : Int) (fl : Bool) : ∃ A T E C, PropZ s at' fl A T E C := by
  by_cases h : 0 ≤ at'
  · obtain ⟨A, T, E, C, hZ⟩ := PZ.ex s fl s.size at'.toNat at'.toNat [] [] (by omega)
    exact ⟨A, T, E, C, .inl ⟨h, E, rfl, hZ⟩⟩
  · exact ⟨_, _, _, _, .inr ⟨by omega, rfl, rfl, rfl, rfl⟩⟩
theorem AliZ.ex (s : ByteArray) (at' : Int) : ∃ A E C, AliZ s at' A E C := by
  cases h : aliB s at' with
  | true => exact ⟨_, _, _, .inl ⟨h, rfl, rfl, rfl⟩⟩
  | false => exact ⟨_, _, _, .inr ⟨h, rfl, rfl, rfl⟩⟩

/-! ### By trial -/
def pF (s : ByteArray) (fl : Bool) : Nat → Nat → Nat → List UInt8 → List UInt8 → Option (List UInt8 × List UInt8 × Nat × Int)
  | 0, _, _, _, _ => Option.none
  | g + 1, p, e, a, t =>
    if p < s.size ∧ byt s p = 38 then
      (if nmN s (p + 1) = 0 ∨ a ≠ [] then some ([], [], p, 5)
       else if fitB s fl (p + 1 + nmN s (p + 1)) = false then some ([], [], p + 1 + nmN s (p + 1), 5)
       else if whN s (p + 1 + nmN s (p + 1)) = 0 then some (pieceL s (p + 1) (p + 1 + nmN s (p + 1)), t, p + 1 + nmN s (p + 1), 0)
       else pF s fl g (p + 1 + nmN s (p + 1) + whN s (p + 1 + nmN s (p + 1))) (p + 1 + nmN s (p + 1)) (pieceL s (p + 1) (p + 1 + nmN s (p + 1))) t)
    else if p < s.size ∧ byt s p = 33 then
      (if t ≠ [] then some ([], [], p, 5)
       else if fitB s fl (p + tgN s p) = false then some ([], [], p + tgN s p, 5)
       else if whN s (p + tgN s p) = 0 then some (a, pieceL s p (p + tgN s p), p + tgN s p, 0)
       else pF s fl g (p + tgN s p + whN s (p + tgN s p)) (p + tgN s p) a (pieceL s p (p + tgN s p)))
    else some (a, t, e, 0)
theorem pF_sound (s : ByteArray) (fl : Bool) (A T : List UInt8) (E : Nat) (C : Int) : ∀ (g p e : Nat) (a t : List UInt8), pF s fl g p e a t = some (A, T, E, C) → PZ s fl A T E C p e a t := by
  intro g
  induction g with
  | zero => intro p e a t h; cases h
  | succ g ih =>
    intro p e a t h
    unfold pF at h
    split at h
    · rename_i h38
      split at h
      · rename_i h0
        cases h
        exact .anchor0 h38.1 h38.2 h0 rfl rfl rfl rfl
      · rename_i h0
        have hn : 0 < nmN s (p + 1) := by omega
        have ha : a = [] := Decidable.byContradiction fun hc => h0 (.inr hc)
        split at h
        · rename_i hf
          cases h
          exact .anchorX h38.1 h38.2 hn ha rfl hf rfl rfl rfl rfl
        · rename_i hf
          rw [Bool.not_eq_false] at hf
          split at h
          · rename_i hw
            cases h
            exact .anchorL h38.1 h38.2 hn ha rfl hf hw rfl rfl rfl rfl
          · exact .anchor h38.1 h38.2 hn ha rfl hf (by omega) (ih _ _ _ _ h)
    · rename_i h38
      split at h
      · rename_i h33
        split at h
        · rename_i h0
          cases h
          exact .tag0 h33.1 h33.2 h0 rfl rfl rfl rfl
        · rename_i h0
          have h0 : t = [] := Decidable.byContradiction fun hc => h0 hc
          split at h
          · rename_i hf
            cases h
            exact .tagX h33.1 h33.2 h0 rfl hf rfl rfl rfl rfl
          · rename_i hf
            rw [Bool.not_eq_false] at hf
            split at h
            · rename_i hw
              cases h
              exact .tagL h33.1 h33.2 h0 rfl hf hw rfl rfl rfl rfl
            · exact .tag h33.1 h33.2 h0 rfl hf (by omega) (ih _ _ _ _ h)
      · rename_i h33
        cases h
        exact .none (fun hc => by rcases hc with ⟨k1, k2 | k2⟩; exact h38 ⟨k1, k2⟩; exact h33 ⟨k1, k2⟩) rfl rfl rfl rfl
theorem PropZ.tried {s : ByteArray} {fl : Bool} {A T : List UInt8} {E : Nat} {C : Int} (h : pF s fl 4 0 0 [] [] = some (A, T, E, C)) : PropZ s 0 fl A T (E : Int) C := .inl ⟨by decide, E, rfl, pF_sound s fl A T E C 4 0 0 [] [] h⟩
end Go.Proofs.Ytjpfkddkghfdiaa
