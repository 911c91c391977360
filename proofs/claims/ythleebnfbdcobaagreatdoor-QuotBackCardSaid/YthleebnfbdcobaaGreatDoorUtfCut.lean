/- Plain facts on an encoding that is cut, or a byte of which is another one (nothing of the program). Conditions: none beside those that each theorem writes out. -/
import Derived.Test.YthleebnfbdcobaaGreatDoorUtf
namespace Go.Proofs.YthleebnfbdcobaaGreatDoor.U
open Go.Lib

theorem bad_of (l : List UInt8) (h : decodeL l = (65533, 1)) : bad l = true := by unfold bad; rw [h]; rfl
theorem len_bad (b : UInt8) (t : List UInt8) (h : decodeL (b :: t) = (65533, 1)) : (runes (b :: t)).length = 1 + (runes t).length := by
  rw [runes_step _ (by simp), h]
  simp; omega
theorem place_bad (b : UInt8) (t : List UInt8) (p : Nat) (h : decodeL (b :: t) = (65533, 1)) : placeAt (b :: t) p = (p : Int) := by
  rw [placeAt_step _ _ (by simp), if_pos (bad_of _ h)]
/-- A byte that goes on, or ff. -/
theorem dec_cont (b : UInt8) (t : List UInt8) (h : (128 ≤ b.toNat ∧ b.toNat < 194) ∨ 245 ≤ b.toNat) : decodeL (b :: t) = (65533, 1) := by
  rw [decodeL_N]
  have e : ((b :: t).getD 0 0) = b := rfl
  have k0 := b.toNat_lt
  rw [e]
  rcases decodeN_shape (b :: t).length b.toNat ((b :: t).getD 1 0).toNat ((b :: t).getD 2 0).toNat ((b :: t).getD 3 0).toNat with ⟨c, e⟩ | ⟨c1, c2, c3, cv, e⟩ | ⟨c1, c2, c3, c4, cv, cs, e⟩ | ⟨c1, c2, c3, c4, c5, cv, cw, e⟩ | e
  · omega
  · omega
  · omega
  · omega
  · exact e
theorem dec_lead (n : Nat) (l : List UInt8) (h : (n = 2 ∧ 192 ≤ (l.getD 0 0).toNat ∧ (l.getD 0 0).toNat < 224) ∨ (n = 3 ∧ 224 ≤ (l.getD 0 0).toNat ∧ (l.getD 0 0).toNat < 240) ∨ (n = 4 ∧ 240 ≤ (l.getD 0 0).toNat ∧ (l.getD 0 0).toNat < 248))
    (hb : ∃ k, 1 ≤ k ∧ k < n ∧ (l.length ≤ k ∨ (l.getD k 0).toNat / 64 ≠ 2)) : decodeL l = (65533, 1) := by
  obtain ⟨k, hk1, hk2, hk⟩ := hb
  rw [decodeL_N]
  have hk3 : k = 1 ∨ k = 2 ∨ k = 3 := by omega
  rcases decodeN_shape l.length (l.getD 0 0).toNat (l.getD 1 0).toNat (l.getD 2 0).toNat (l.getD 3 0).toNat with ⟨c, e⟩ | ⟨c1, c2, c3, cv, e⟩ | ⟨c1, c2, c3, c4, cv, cs, e⟩ | ⟨c1, c2, c3, c4, c5, cv, cw, e⟩ | e
  · omega
  · rcases hk3 with rfl | rfl | rfl <;> omega
  · rcases hk3 with rfl | rfl | rfl <;> omega
  · rcases hk3 with rfl | rfl | rfl <;> omega
  · exact e

/-- What an encoding of more than one byte is made of. -/
theorem enc_shape (r : Int) (h : scalar r = true) (h1 : 128 ≤ r) :
    (∃ a b : UInt8, encodeRune r = [a, b] ∧ (192 ≤ a.toNat ∧ a.toNat < 224) ∧ (128 ≤ b.toNat ∧ b.toNat < 192)) ∨
    (∃ a b c : UInt8, encodeRune r = [a, b, c] ∧ (224 ≤ a.toNat ∧ a.toNat < 240) ∧ (128 ≤ b.toNat ∧ b.toNat < 192) ∧ (128 ≤ c.toNat ∧ c.toNat < 192)) ∨
    (∃ a b c d : UInt8, encodeRune r = [a, b, c, d] ∧ (240 ≤ a.toNat ∧ a.toNat < 248) ∧ (128 ≤ b.toNat ∧ b.toNat < 192) ∧ (128 ≤ c.toNat ∧ c.toNat < 192) ∧ (128 ≤ d.toNat ∧ d.toNat < 192)) := by
  unfold scalar at h
  rw [decide_eq_true_eq] at h
  have B := toNat_byte
  unfold encodeRune
  by_cases h2 : r ≤ 2047
  · left
    rw [encodeRuneZ_two h1 h2]
    have b0 := B (192 + r / 64) (by omega) (by omega)
    have b1 := B (128 + r % 64) (by omega) (by omega)
    exact ⟨(192 + r / 64).toNat.toUInt8, (128 + r % 64).toNat.toUInt8, rfl, by omega, by omega⟩
  · by_cases h3 : (2048 ≤ r ∧ r < 55296) ∨ (57343 < r ∧ r ≤ 65535)
    · right; left
      rw [encodeRuneZ_three h3]
      have b0 := B (224 + r / 4096) (by omega) (by omega)
      have b1 := B (128 + r / 64 % 64) (by omega) (by omega)
      have b2 := B (128 + r % 64) (by omega) (by omega)
      exact ⟨(224 + r / 4096).toNat.toUInt8, (128 + r / 64 % 64).toNat.toUInt8, (128 + r % 64).toNat.toUInt8, rfl, by omega, by omega, by omega⟩
    · right; right
      rw [encodeRuneZ_four (by omega) (by omega)]
      have b0 := B (240 + r / 262144) (by omega) (by omega)
      have b1 := B (128 + r / 4096 % 64) (by omega) (by omega)
      have b2 := B (128 + r / 64 % 64) (by omega) (by omega)
      have b3 := B (128 + r % 64) (by omega) (by omega)
      exact ⟨(240 + r / 262144).toNat.toUInt8, (128 + r / 4096 % 64).toNat.toUInt8, (128 + r / 64 % 64).toNat.toUInt8, (128 + r % 64).toNat.toUInt8, rfl, by omega, by omega, by omega, by omega⟩

/-- All that is asked of an encoding cut behind k bytes, and with ff in the place of byte k. -/
def CutFacts (l : List UInt8) (k : Nat) : Prop :=
  place (l.take k) = 0 ∧ (runes (l.take k)).length = k ∧ place (97 :: l.drop k) = 1 ∧ place (l.take k ++ (255 :: l.drop (k + 1))) = 0 ∧ (runes (l.take k ++ (255 :: l.drop (k + 1)))).length = l.length

theorem ff : (255 : UInt8).toNat = 255 := rfl
theorem dec_ascii (b : UInt8) (t : List UInt8) (h : b.toNat < 128) : decodeL (b :: t) = (b.toNat, 1) := by
  rw [decodeL_N]
  unfold decodeN
  rw [if_pos (by exact h)]
  rfl
theorem place_a (t : List UInt8) (b : UInt8) (h : decodeL (b :: t) = (65533, 1)) : place (97 :: b :: t) = 1 := by
  have e : decodeL (97 :: b :: t) = (97, 1) := dec_ascii 97 _ (by decide)
  rw [← placeAt_zero, placeAt_step _ _ (by simp), e]
  have hb : bad (97 :: b :: t) = false := by unfold bad; rw [e]; rfl
  rw [if_neg (by simp [hb])]
  exact place_bad b t 1 h

theorem cut_facts (r : Int) (h : scalar r = true) (h1 : 128 ≤ r) (k : Nat) (hk1 : 1 ≤ k) (hk2 : k < (encodeRune r).length) : CutFacts (encodeRune r) k := by
  have g0 := ff
  unfold CutFacts
  rcases enc_shape r h h1 with ⟨a, b, e, ha, hb⟩ | ⟨a, b, c, e, ha, hb, hc⟩ | ⟨a, b, c, d, e, ha, hb, hc, hd⟩
  · rw [e] at hk2 ⊢
    have hk : k = 1 := by simp at hk2; omega
    subst hk
    have d1 : decodeL [a] = (65533, 1) := dec_lead 2 _ (.inl ⟨rfl, ha⟩) ⟨1, by omega, by omega, .inl (by simp)⟩
    have d2 : decodeL [a, 255] = (65533, 1) := dec_lead 2 _ (.inl ⟨rfl, ha⟩) ⟨1, by omega, by omega, .inr (by simp)⟩
    have d3 : decodeL [255] = (65533, 1) := dec_cont _ _ (by omega)
    have d4 : decodeL [b] = (65533, 1) := dec_cont _ _ (by omega)
    refine ⟨place_bad _ _ 0 d1, ?_, place_a _ _ d4, place_bad _ _ 0 d2, ?_⟩
    · show (runes [a]).length = 1
      rw [len_bad _ _ d1]; rfl
    · show (runes [a, 255]).length = 2
      rw [len_bad _ _ d2, len_bad _ _ d3]; rfl
  · rw [e] at hk2 ⊢
    have cc : ∀ t, decodeL (c :: t) = (65533, 1) := fun t => dec_cont _ _ (by omega)
    have cb : ∀ t, decodeL (b :: t) = (65533, 1) := fun t => dec_cont _ _ (by omega)
    have cf : ∀ t, decodeL (255 :: t) = (65533, 1) := fun t => dec_cont _ _ (by omega)
    have hk : k = 1 ∨ k = 2 := by simp at hk2; omega
    rcases hk with rfl | rfl
    · have d1 : decodeL [a] = (65533, 1) := dec_lead 3 _ (.inr (.inl ⟨rfl, ha⟩)) ⟨1, by omega, by omega, .inl (by simp)⟩
      have d2 : decodeL [a, 255, c] = (65533, 1) := dec_lead 3 _ (.inr (.inl ⟨rfl, ha⟩)) ⟨1, by omega, by omega, .inr (by simp)⟩
      refine ⟨place_bad _ _ 0 d1, ?_, place_a _ _ (cb _), place_bad _ _ 0 d2, ?_⟩
      · show (runes [a]).length = 1
        rw [len_bad _ _ d1]; rfl
      · show (runes [a, 255, c]).length = 3
        rw [len_bad _ _ d2, len_bad _ _ (cf _), len_bad _ _ (cc _)]; rfl
    · have d1 : decodeL [a, b] = (65533, 1) := dec_lead 3 _ (.inr (.inl ⟨rfl, ha⟩)) ⟨2, by omega, by omega, .inl (by simp)⟩
      have d2 : decodeL [a, b, 255] = (65533, 1) := dec_lead 3 _ (.inr (.inl ⟨rfl, ha⟩)) ⟨2, by omega, by omega, .inr (by simp)⟩
      refine ⟨place_bad _ _ 0 d1, ?_, place_a _ _ (cc _), place_bad _ _ 0 d2, ?_⟩
      · show (runes [a, b]).length = 2
        rw [len_bad _ _ d1, len_bad _ _ (cb _)]; rfl
      · show (runes [a, b, 255]).length = 3
        rw [len_bad _ _ d2, len_bad _ _ (cb _), len_bad _ _ (cf _)]; rfl
  · rw [e] at hk2 ⊢
    have cd : ∀ t, decodeL (d :: t) = (65533, 1) := fun t => dec_cont _ _ (by omega)
    have cc : ∀ t, decodeL (c :: t) = (65533, 1) := fun t => dec_cont _ _ (by omega)
    have cb : ∀ t, decodeL (b :: t) = (65533, 1) := fun t => dec_cont _ _ (by omega)
    have cf : ∀ t, decodeL (255 :: t) = (65533, 1) := fun t => dec_cont _ _ (by omega)
    have hk : k = 1 ∨ k = 2 ∨ k = 3 := by simp at hk2; omega
    rcases hk with rfl | rfl | rfl
    · have d1 : decodeL [a] = (65533, 1) := dec_lead 4 _ (.inr (.inr ⟨rfl, ha⟩)) ⟨1, by omega, by omega, .inl (by simp)⟩
      have d2 : decodeL [a, 255, c, d] = (65533, 1) := dec_lead 4 _ (.inr (.inr ⟨rfl, ha⟩)) ⟨1, by omega, by omega, .inr (by simp)⟩
      refine ⟨place_bad _ _ 0 d1, ?_, place_a _ _ (cb _), place_bad _ _ 0 d2, ?_⟩
      · show (runes [a]).length = 1
        rw [len_bad _ _ d1]; rfl
      · show (runes [a, 255, c, d]).length = 4
        rw [len_bad _ _ d2, len_bad _ _ (cf _), len_bad _ _ (cc _), len_bad _ _ (cd _)]; rfl
    · have d1 : decodeL [a, b] = (65533, 1) := dec_lead 4 _ (.inr (.inr ⟨rfl, ha⟩)) ⟨2, by omega, by omega, .inl (by simp)⟩
      have d2 : decodeL [a, b, 255, d] = (65533, 1) := dec_lead 4 _ (.inr (.inr ⟨rfl, ha⟩)) ⟨2, by omega, by omega, .inr (by simp)⟩
      refine ⟨place_bad _ _ 0 d1, ?_, place_a _ _ (cc _), place_bad _ _ 0 d2, ?_⟩
      · show (runes [a, b]).length = 2
        rw [len_bad _ _ d1, len_bad _ _ (cb _)]; rfl
      · show (runes [a, b, 255, d]).length = 4
        rw [len_bad _ _ d2, len_bad _ _ (cb _), len_bad _ _ (cf _), len_bad _ _ (cd _)]; rfl
    · have d1 : decodeL [a, b, c] = (65533, 1) := dec_lead 4 _ (.inr (.inr ⟨rfl, ha⟩)) ⟨3, by omega, by omega, .inl (by simp)⟩
      have d2 : decodeL [a, b, c, 255] = (65533, 1) := dec_lead 4 _ (.inr (.inr ⟨rfl, ha⟩)) ⟨3, by omega, by omega, .inr (by simp)⟩
      refine ⟨place_bad _ _ 0 d1, ?_, place_a _ _ (cd _), place_bad _ _ 0 d2, ?_⟩
      · show (runes [a, b, c]).length = 3
        rw [len_bad _ _ d1, len_bad _ _ (cb _), len_bad _ _ (cc _)]; rfl
      · show (runes [a, b, c, 255]).length = 4
        rw [len_bad _ _ d2, len_bad _ _ (cb _), len_bad _ _ (cc _), len_bad _ _ (cf _)]; rfl

end Go.Proofs.YthleebnfbdcobaaGreatDoor.U
