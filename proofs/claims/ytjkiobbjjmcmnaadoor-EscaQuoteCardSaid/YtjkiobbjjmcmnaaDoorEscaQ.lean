/- More plain facts on quoted texts: how they go on (nothing of the program). Conditions: none beside those that each theorem writes out. -/
import Derived.Test.YtjkiobbjjmcmnaaDoorEscaP
namespace Go.Proofs.YtjkiobbjjmcmnaaDoor.U
open Go.Lib

/-- What is left of a text in double quotes: bytes of a code point, code points told, the quote. -/
def QD (D : List UInt8) : Prop := ∃ (m : List UInt8) (rs : List Int), D = m ++ (showL rs ++ [34]) ∧ ∀ b ∈ m, 128 ≤ b.toNat
/-- What is left of a text in single quotes. -/
def QS (D : List UInt8) : Prop := ∃ l : List UInt8, D = dbl l ++ [39]
theorem QD.pos {D : List UInt8} (h : QD D) : 1 ≤ D.length := by
  obtain ⟨m, rs, e, _⟩ := h
  rw [e]
  simp
  omega
theorem QS.pos {D : List UInt8} (h : QS D) : 1 ≤ D.length := by
  obtain ⟨l, e⟩ := h
  rw [e]
  simp
theorem QD.step {D : List UInt8} (h : QD D) (hl : 2 ≤ D.length) :
    (∃ b D', D = b :: D' ∧ b.toNat ≠ 92 ∧ b.toNat ≠ 34 ∧ QD D') ∨ (∃ c n D', D = 92 :: D' ∧ esc D = some (c, n) ∧ QD (D.drop n)) := by
  obtain ⟨m, rs, e, hm⟩ := h
  cases m with
  | cons b m =>
    left
    have hb := hm b (by simp)
    exact ⟨b, m ++ (showL rs ++ [34]), by rw [e]; rfl, by omega, by omega, m, rs, rfl, fun x hx => hm x (by simp [hx])⟩
  | nil =>
    rw [List.nil_append] at e
    cases rs with
    | nil => rw [e] at hl; simp [showL_nil] at hl
    | cons r rs =>
      rw [showL_cons, List.append_assoc] at e
      have hsc := fix_scalar r
      have hsr := scalar_range hsc
      rcases shc_cases hsc with ⟨t, e1, _, _, hes⟩ | ⟨e1, hp, hn⟩
      · right
        have e2 : shw r = 92 :: t := e1
        refine ⟨_, _, t ++ (showL rs ++ [34]), by rw [e, e2]; rfl, by rw [e]; exact hes _, ?_⟩
        refine ⟨[], rs, ?_, fun b hb => by cases hb⟩
        rw [e]
        show List.drop (shw r).length (shw r ++ (showL rs ++ [34])) = _
        simp
      · left
        have e2 : shw r = encodeRune (fix r) := e1
        have hl2 := lett_none hn
        by_cases hlow : fix r ≤ 127
        · rw [encode_low hsr.1 hlow] at e2
          have hb := toNat_byte (fix r) hsr.1 (by omega)
          refine ⟨(fix r).toNat.toUInt8, showL rs ++ [34], by rw [e, e2]; rfl, by omega, by omega, [], rs, rfl, fun b hb => by cases hb⟩
        · have hh := encode_high (r := fix r) (by omega)
          have hne := encode_ne (fix r)
          rw [← e2] at hh hne
          cases hsw : shw r with
          | nil => exact absurd hsw hne
          | cons b m =>
            rw [hsw] at hh e
            have hb := hh b (by simp)
            exact ⟨b, m ++ (showL rs ++ [34]), by rw [e]; rfl, by omega, by omega, m, rs, rfl, fun x hx => hh x (by simp [hx])⟩
theorem QS.step {D : List UInt8} (h : QS D) (hl : 2 ≤ D.length) :
    (∃ b D', D = b :: D' ∧ b.toNat ≠ 39 ∧ QS D') ∨ (∃ D', D = 39 :: 39 :: D' ∧ QS D') := by
  obtain ⟨l, e⟩ := h
  cases l with
  | nil => rw [e] at hl; simp [dbl] at hl
  | cons b l =>
    rw [dbl] at e
    by_cases h39 : b = 39
    · right
      rw [if_pos h39] at e
      exact ⟨dbl l ++ [39], by rw [e]; rfl, l, rfl⟩
    · left
      rw [if_neg h39] at e
      refine ⟨b, dbl l ++ [39], by rw [e]; rfl, ?_, l, rfl⟩
      intro hb
      exact h39 (UInt8.toNat_inj.1 hb)
theorem quo_single {l : List UInt8} (single : Bool) (h : (single && sing l) = true) : ∃ M, quo single l = 39 :: M ∧ QS M ∧ M = dbl l ++ [39] := by
  unfold quo
  rw [if_pos h]
  exact ⟨_, rfl, ⟨l, rfl⟩, rfl⟩
theorem quo_double {l : List UInt8} (single : Bool) (h : (single && sing l) = false) : ∃ M, quo single l = 34 :: M ∧ QD M ∧ M = showL (runes l) ++ [34] := by
  unfold quo
  rw [if_neg (by rw [h]; simp)]
  exact ⟨_, rfl, ⟨[], runes l, rfl, fun b hb => by cases hb⟩, rfl⟩

end Go.Proofs.YtjkiobbjjmcmnaaDoor.U
