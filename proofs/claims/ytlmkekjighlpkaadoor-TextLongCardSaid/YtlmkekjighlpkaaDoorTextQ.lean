/- More plain facts on texts that are clean (nothing of the program). Conditions: none beside those that each theorem writes out. -/
import Derived.Test.YtlmkekjighlpkaaDoorTextP
namespace Go.Proofs.YtlmkekjighlpkaaDoor.U
open Go.Lib

/-! ### what is clean is clean again -/
theorem fine_parts {l : List UInt8} (h : fine l = true) : bad l = false ∧ (prn ((decodeL l).1 : Int) = true ∨ (decodeL l).1 = 13) := by
  unfold fine at h
  rw [Bool.and_eq_true, Bool.or_eq_true, beq_iff_eq] at h
  exact ⟨by simpa using h.1, h.2⟩
theorem take_encode {l : List UInt8} (hne : l ≠ []) (hb : bad l = false) : encodeRune ((decodeL l).1 : Int) = l.take (decodeL l).2 :=
  encode_decode l hne (fun x => by rw [(bad_iff _).2 x] at hb; cases hb)
theorem decode_13 {l : List UInt8} (hne : l ≠ []) (hb : bad l = false) (h : (decodeL l).1 = 13) : (decodeL l).2 = 1 ∧ ∃ t, l = 13 :: t := by
  have he := take_encode hne hb
  have hw := decodeL_width l
  have hle := decodeL_le l hne
  rw [h] at he
  have e13 : encodeRune ((13 : Nat) : Int) = [13] := by decide
  rw [e13] at he
  have hlen := congrArg List.length he
  rw [List.length_take] at hlen
  simp at hlen
  have h1 : (decodeL l).2 = 1 := by omega
  refine ⟨h1, ?_⟩
  cases l with
  | nil => exact absurd rfl hne
  | cons c t =>
    rw [h1] at he
    simp at he
    exact ⟨t, by rw [← he]⟩
theorem ends_step {l : List UInt8} (hne : l ≠ []) (hb : bad l = false) (h : (decodeL l).1 ≠ 13) : ends l = l.take (decodeL l).2 ++ ends (l.drop (decodeL l).2) := by
  conv => lhs; rw [← List.take_append_drop (decodeL l).2 l]
  refine ends_append _ _ ?_
  rw [← take_encode hne hb]
  exact encode_no13 _ (by omega)
theorem wrongAt_low (c : UInt8) (hc : c.toNat < 128) (hq : prn (c.toNat : Int) = true ∨ c.toNat = 13) (l : List UInt8) (p : Nat) : wrongAt (c :: l) p = wrongAt l (p + 1) := by
  have hd : decodeL (c :: l) = (c.toNat, 1) := by
    rw [decodeL_N]
    unfold decodeN
    rw [List.getD_cons_zero, if_pos hc]
  have hf : fine (c :: l) = true := by
    unfold fine bad
    rw [hd]
    rcases hq with h | h
    · simp [h]; omega
    · simp [h]
  rw [wrongAt_step _ _ (by simp), if_pos hf, hd]
  rfl
theorem wrongAt_rune (r : Int) (hs : scalar r = true) (hq : prn r = true) (l : List UInt8) (p : Nat) : wrongAt (encodeRune r ++ l) p = wrongAt l (p + (encodeRune r).length) := by
  have hd := decodeL_encode r l
  have hfx : fix r = r := by unfold fix; rw [if_pos hs]
  rw [hfx] at hd
  have h0 : 0 ≤ r := by
    unfold scalar at hs; rw [decide_eq_true_eq] at hs; omega
  have hf : fine (encodeRune r ++ l) = true := by
    unfold fine
    rw [bad_encode, hd]
    simp [Int.toNat_of_nonneg h0, hq]
  rw [wrongAt_step _ _ (by simp [encode_ne]), if_pos hf, hd]
  dsimp only
  rw [drop_encode]
/-- What is read is read as it is when its rows' ends are made LF. -/
theorem wrong_ends : ∀ (n : Nat) (l : List UInt8) (p q : Nat), l.length ≤ n → wrongAt l p = -1 → wrongAt (ends l) q = -1
  | 0, l, p, q, hn, _ => by
    have : l = [] := List.eq_nil_of_length_eq_zero (by omega)
    subst this
    rfl
  | n + 1, l, p, q, hn, hw => by
    by_cases hne : l = []
    · subst hne; rfl
    · have hwd := decodeL_width l
      have hl : 0 < l.length := List.length_pos_iff.2 hne
      rw [wrongAt_step l p hne] at hw
      by_cases hf : fine l = true
      · rw [if_pos hf] at hw
        obtain ⟨hb, hq⟩ := fine_parts hf
        by_cases h13 : (decodeL l).1 = 13
        · obtain ⟨h1, t, rfl⟩ := decode_13 hne hb h13
          rw [h1, List.drop_succ_cons, List.drop_zero] at hw
          have hlen : t.length ≤ n := by simp at hn; omega
          by_cases h10 : t.head? = some 10
          · cases t with
            | nil => simp at h10
            | cons d u =>
              have hd : d = 10 := by simpa using h10
              subst hd
              rw [wrongAt_low 10 (by decide) (.inl (by decide))] at hw
              rw [ends_crlf, wrongAt_low 10 (by decide) (.inl (by decide))]
              exact wrong_ends n u _ _ (by simp at hlen; omega) hw
          · rw [ends_cr t h10, wrongAt_low 10 (by decide) (.inl (by decide))]
            exact wrong_ends n t _ _ hlen hw
        · rw [ends_step hne hb h13, ← take_encode hne hb]
          have hs := decodeL_scalar l
          rw [wrongAt_rune _ hs (by
            rcases hq with h | h
            · exact h
            · exact absurd h h13)]
          exact wrong_ends n _ _ _ (by rw [List.length_drop]; omega) hw
      · rw [if_neg hf] at hw; omega
theorem bom_zero (l : List UInt8) (p : Nat) (h : wrongAt l p = -1) : bom l = 0 := by
  unfold bom
  rw [if_neg]
  intro hp
  obtain ⟨t, rfl⟩ := List.isPrefixOf_iff_prefix.1 hp
  have e : [239, 187, 191] ++ t = encodeRune 65279 ++ t := by rfl
  rw [wrongAt_step _ _ (by simp), e] at h
  have hf : fine (encodeRune 65279 ++ t) = false := by
    unfold fine
    rw [decodeL_encode]
    have : fix 65279 = 65279 := by decide
    rw [this]
    have hq : prn 65279 = false := by decide
    simp [hq]
  rw [hf] at h
  simp at h
theorem clean_of_ok (l t : List UInt8) (hl : l.length ≤ 65536) (hw : wrongAt l 0 = -1) (he : ends l = t) : clean l = (t, 0, 0) := by
  have hb := bom_zero l 0 hw
  rw [clean_ok l hl (by rw [hb, List.drop_zero]; exact hw), hb, List.drop_zero, he]
theorem clean_again (l : List UInt8) (hl : l.length ≤ 65536) (p : Nat) (hw : wrongAt l p = -1) : clean (ends l) = (ends l, 0, 0) :=
  clean_of_ok (ends l) (ends l) (Nat.le_trans (ends_length l) hl) (wrong_ends l.length l p 0 (Nat.le_refl _) hw) (ends_same _ (ends_no l))

/-! ### many bytes of one kind -/
theorem wrongAt_a : ∀ (k : Nat) (r : List UInt8) (p : Nat), wrongAt (List.replicate k 97 ++ r) p = wrongAt r (p + k)
  | 0, _, _ => rfl
  | k + 1, r, p => by
    rw [List.replicate_succ, List.cons_append, wrongAt_low 97 (by decide) (.inl (by decide)), wrongAt_a k r (p + 1)]
    congr 1
    omega
theorem clean_a (k : Nat) (h : k ≤ 65536) : clean (List.replicate k 97) = (List.replicate k 97, 0, 0) := by
  refine clean_of_ok _ _ (by rw [List.length_replicate]; exact h) ?_ (ends_same _ fun hm => ?_)
  · have := wrongAt_a k [] 0
    rw [List.append_nil] at this
    rw [this]; rfl
  · have := List.eq_of_mem_replicate hm
    exact absurd this (by decide)
theorem clean_a1 (k : Nat) (h : k + 4 ≤ 65536) (r : List UInt8) (hr : r.length = 2) : clean (List.replicate (k + 1) 97 ++ 1 :: r) = ([], ((k + 1 : Nat) : Int), 3) := by
  have hb : bom (List.replicate (k + 1) 97 ++ 1 :: r) = 0 := by
    unfold bom
    rw [if_neg]
    rw [List.replicate_succ, List.cons_append]
    simp [List.isPrefixOf]
  have hd : decodeL (1 :: r) = (1, 1) := by
    rw [decodeL_N]
    unfold decodeN
    rw [List.getD_cons_zero, if_pos (by decide)]
    rfl
  have hf : fine (1 :: r) = false := by
    unfold fine
    rw [hd]
    have hq : prn 1 = false := by decide
    simp [hq]
  have hw : wrongAt (List.replicate (k + 1) 97 ++ 1 :: r) 0 = ((k + 1 : Nat) : Int) := by
    rw [wrongAt_a, wrongAt_step _ _ (by simp), hf, Nat.zero_add]
    rfl
  rw [clean_bad _ (by simp [hr]; omega) (by rw [hb, List.drop_zero, hw]; omega), hb, List.drop_zero, hw]

end Go.Proofs.YtlmkekjighlpkaaDoor.U
