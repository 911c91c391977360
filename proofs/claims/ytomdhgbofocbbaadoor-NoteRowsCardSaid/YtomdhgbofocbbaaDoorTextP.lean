/- Plain facts on which code points a text may have, and on the ends of its rows (nothing of the program). Conditions: none beside those that each theorem writes out. -/
import Derived.Test.YtomdhgbofocbbaaDoorUtf
import Derived.Lib.Replace
import Derived.Lib.CountLaws
namespace Go.Proofs.YtomdhgbofocbbaaDoor.U
open Go.Lib

/-- May a number be told as it is? -/
def prn (r : Int) : Bool := decide (r = 9 ∨ r = 10 ∨ r = 133 ∨ (32 ≤ r ∧ r ≤ 126) ∨ (160 ≤ r ∧ r ≤ 55295) ∨ ((57344 ≤ r ∧ r ≤ 65533) ∧ r ≠ 65279) ∨ (65536 ≤ r ∧ r ≤ 1114111))
/-- May what stands in front be read? -/
def fine (l : List UInt8) : Bool := !bad l && (prn ((decodeL l).1 : Int) || (decodeL l).1 == 13)
def wrongF : Nat → List UInt8 → Nat → Int
  | 0, _, _ => -1
  | f + 1, l, p => if l = [] then -1 else if fine l = true then wrongF f (l.drop (decodeL l).2) (p + (decodeL l).2) else (p : Int)
/-- Where the first of what may not be read begins, from a place on. -/
def wrongAt (l : List UInt8) (p : Nat) : Int := wrongF l.length l p
def wrong (l : List UInt8) : Int := wrongAt l 0

theorem wrongF_fuel : ∀ (n m : Nat) (l : List UInt8) (p : Nat), l.length ≤ n → l.length ≤ m → wrongF n l p = wrongF m l p
  | 0, 0, _, _, _, _ => rfl
  | 0, m + 1, l, p, hn, _ => by
    have : l = [] := List.eq_nil_of_length_eq_zero (by omega)
    subst this
    simp [wrongF]
  | n + 1, 0, l, p, _, hm => by
    have : l = [] := List.eq_nil_of_length_eq_zero (by omega)
    subst this
    simp [wrongF]
  | n + 1, m + 1, l, p, hn, hm => by
    by_cases hne : l = []
    · subst hne; simp [wrongF]
    · have hw := decodeL_width l
      have hl : 0 < l.length := List.length_pos_iff.2 hne
      simp only [wrongF, if_neg hne]
      rw [wrongF_fuel n m _ _ (by rw [List.length_drop]; omega) (by rw [List.length_drop]; omega)]
theorem wrongAt_nil (p : Nat) : wrongAt [] p = -1 := rfl
theorem wrongAt_step (l : List UInt8) (p : Nat) (hne : l ≠ []) : wrongAt l p = if fine l = true then wrongAt (l.drop (decodeL l).2) (p + (decodeL l).2) else (p : Int) := by
  have hw := decodeL_width l
  have hl : 0 < l.length := List.length_pos_iff.2 hne
  unfold wrongAt
  obtain ⟨n, hn⟩ : ∃ n, l.length = n + 1 := ⟨l.length - 1, by omega⟩
  rw [hn]
  simp only [wrongF, if_neg hne]
  rw [wrongF_fuel n _ _ _ (by rw [List.length_drop]; omega) (Nat.le_refl _)]
theorem wrongAt_ge : ∀ (l : List UInt8) (p : Nat), wrongAt l p = -1 ∨ ((p : Int) ≤ wrongAt l p ∧ wrongAt l p < p + l.length) := by
  intro l
  induction l using along with
  | h0 => intro p; left; rfl
  | h1 l hne ih =>
    intro p
    have hw := decodeL_width l
    have hle := decodeL_le l hne
    have hl : 0 < l.length := List.length_pos_iff.2 hne
    rw [wrongAt_step l _ hne]
    by_cases hb : fine l = true
    · rw [if_pos hb]
      rcases ih (p + (decodeL l).2) with h | h
      · left; exact h
      · right; rw [List.length_drop] at h; omega
    · rw [if_neg hb]; right; omega
theorem wrongAt_shift : ∀ (l : List UInt8) (p q : Nat), wrongAt l (p + q) = if wrongAt l p = -1 then -1 else wrongAt l p + (q : Int) := by
  intro l
  induction l using along with
  | h0 => intro p q; simp [wrongAt_nil]
  | h1 l hne ih =>
    intro p q
    rw [wrongAt_step l _ hne, wrongAt_step l p hne]
    by_cases hb : fine l = true
    · rw [if_pos hb, if_pos hb, show p + q + (decodeL l).2 = (p + (decodeL l).2) + q from by omega, ih]
    · rw [if_neg hb, if_neg hb, if_neg (by omega)]
      omega
/-- A text whose code points may all be read, ahead of any other. -/
theorem wrongAt_append : ∀ (a b : List UInt8) (p : Nat), wrongAt a p = -1 → wrongAt (a ++ b) p = wrongAt b (p + a.length) := by
  intro a b
  induction a using along with
  | h0 => intro p _; rfl
  | h1 a hne ih =>
    intro p hp
    rw [wrongAt_step a p hne] at hp
    by_cases hf : fine a = true
    · rw [if_pos hf] at hp
      have hb : bad a = false := by
        unfold fine at hf
        cases hb : bad a with
        | false => rfl
        | true => rw [hb] at hf; simp at hf
      have hle := decodeL_le a hne
      have hf2 : fine (a ++ b) = true := by
        unfold fine at hf ⊢
        rw [bad_append a b hne hb, decodeL_append a b hne hb, ← hb]; exact hf
      rw [wrongAt_step (a ++ b) p (by simp [hne]), if_pos hf2, decodeL_append a b hne hb, List.drop_append_of_le_length hle, ih _ hp, List.length_drop]
      congr 1
      omega
    · rw [if_neg hf] at hp; omega

/-! ### the ends of rows -/
/-- Each CR LF, and each other CR, made LF. -/
def ends : List UInt8 → List UInt8
  | [] => []
  | [c] => [if c = 13 then 10 else c]
  | c :: d :: l => if c = 13 then (if d = 10 then 10 :: ends l else 10 :: ends (d :: l)) else c :: ends (d :: l)
theorem ends_crlf (l : List UInt8) : ends (13 :: 10 :: l) = 10 :: ends l := by
  rw [ends]; simp
theorem ends_cr (l : List UInt8) (h : l.head? ≠ some 10) : ends (13 :: l) = 10 :: ends l := by
  cases l with
  | nil => simp [ends]
  | cons d l =>
    have hd : d ≠ 10 := by simpa using h
    rw [ends]; simp [hd]
theorem ends_other (c : UInt8) (l : List UInt8) (h : c ≠ 13) : ends (c :: l) = c :: ends l := by
  cases l with
  | nil => simp [ends, h]
  | cons d l => rw [ends]; simp [h]
theorem ends_length : ∀ l : List UInt8, (ends l).length ≤ l.length
  | [] => by simp [ends]
  | [c] => by simp [ends]
  | c :: d :: l => by
    have h1 := ends_length l
    have h2 := ends_length (d :: l)
    rw [ends]
    split
    · split
      · simp; omega
      · simp at h2 ⊢; omega
    · simp at h2 ⊢; omega
theorem ends_no : ∀ l : List UInt8, (13 : UInt8) ∉ ends l
  | [] => by simp [ends]
  | [c] => by
    simp only [ends]
    split
    · simp
    · rename_i h
      simp only [List.mem_singleton]
      exact fun e => h e.symm
  | c :: d :: l => by
    have h1 := ends_no l
    have h2 := ends_no (d :: l)
    rw [ends]
    split
    · split
      · simp [h1]
      · simp [h2]
    · rename_i h
      simp only [List.mem_cons, not_or]
      exact ⟨fun e => h e.symm, h2⟩
theorem ends_same : ∀ l : List UInt8, (13 : UInt8) ∉ l → ends l = l
  | [], _ => rfl
  | c :: l, h => by
    simp only [List.mem_cons, not_or] at h
    rw [ends_other c l (fun e => h.1 e.symm), ends_same l h.2]
/-- Bytes without CR, ahead of any others. -/
theorem ends_append : ∀ a b : List UInt8, (13 : UInt8) ∉ a → ends (a ++ b) = a ++ ends b
  | [], _, _ => rfl
  | c :: a, b, h => by
    simp only [List.mem_cons, not_or] at h
    rw [List.cons_append, ends_other c _ (fun e => h.1 e.symm), ends_append a b h.2, List.cons_append]

/-! ### ReplaceAll, byte by byte -/
theorem index_hit0 (old l : List UInt8) (h : old.isPrefixOf l = true) : index l old = ((0 : Nat) : Int) := by
  cases l with
  | nil =>
    cases old with
    | nil => rfl
    | cons a t => simp at h
  | cons b l => rw [index, if_pos h]; rfl
theorem index_next (old : List UInt8) (b : UInt8) (l : List UInt8) (h : old.isPrefixOf (b :: l) = false) : index (b :: l) old = if index l old == -1 then -1 else index l old + 1 := by
  rw [index, if_neg (by simp [h])]
theorem ne_nil {old : List UInt8} (h1 : 1 ≤ old.length) : old ≠ [] := by intro e; subst e; simp at h1
theorem count_next (old : List UInt8) (b : UInt8) (l : List UInt8) (h1 : 1 ≤ old.length) (h : old.isPrefixOf (b :: l) = false) : count (b :: l) old = count l old := by
  have hix := index_next old b l h
  by_cases hm : index l old = -1
  · rw [count_miss hm, count_miss (by rw [hix, if_pos (beq_iff_eq.2 hm)])]
  · have hge := index_ge l old
    obtain ⟨j, hj⟩ : ∃ j : Nat, index l old = j := ⟨(index l old).toNat, by omega⟩
    have hix' : index (b :: l) old = ((j + 1 : Nat) : Int) := by rw [hix, if_neg (fun e => hm (beq_iff_eq.1 e)), hj]; omega
    rw [count_hit (ne_nil h1) hj, count_hit (ne_nil h1) hix']
    rw [show j + 1 + old.length = (j + old.length) + 1 from by omega, List.drop_succ_cons]
theorem replaceAll_k (l old new : List UInt8) (hne : old ≠ new) : replaceAll l old new = replaceK old new (count l old) l := by
  unfold replaceAll replace replaceNum
  rw [if_neg (by simpa using hne), if_pos (.inl (by omega))]
theorem replaceAll_nil (old new : List UInt8) (h1 : 1 ≤ old.length) (hne : old ≠ new) : replaceAll [] old new = [] := by
  rw [replaceAll_k _ _ _ hne, count_miss, replaceK]
  cases old with
  | nil => simp at h1
  | cons a t => rfl
theorem replaceAll_hit (old new l : List UInt8) (h1 : 1 ≤ old.length) (hne : old ≠ new) (h : old.isPrefixOf l = true) : replaceAll l old new = new ++ replaceAll (l.drop old.length) old new := by
  have hix := index_hit0 old l h
  rw [replaceAll_k _ _ _ hne, replaceAll_k _ _ _ hne, count_hit (ne_nil h1) hix, Nat.add_comm 1, replaceK_hit _ _ _ _ _ hix]
  simp
theorem replaceAll_next (old new : List UInt8) (b : UInt8) (l : List UInt8) (h1 : 1 ≤ old.length) (hne : old ≠ new) (h : old.isPrefixOf (b :: l) = false) : replaceAll (b :: l) old new = b :: replaceAll l old new := by
  have hix := index_next old b l h
  rw [replaceAll_k _ _ _ hne, replaceAll_k _ _ _ hne, count_next old b l h1 h]
  by_cases hm : index l old = -1
  · rw [count_miss hm]; rfl
  · have hge := index_ge l old
    obtain ⟨j, hj⟩ : ∃ j : Nat, index l old = j := ⟨(index l old).toNat, by omega⟩
    have hix' : index (b :: l) old = ((j + 1 : Nat) : Int) := by rw [hix, if_neg (fun e => hm (beq_iff_eq.1 e)), hj]; omega
    rw [count_hit (ne_nil h1) hj, Nat.add_comm 1, replaceK_hit _ _ _ _ _ hj, replaceK_hit _ _ _ _ _ hix']
    rw [show j + 1 + old.length = (j + old.length) + 1 from by omega, List.drop_succ_cons, List.take_succ_cons]
    rfl
/-- The pairs first, and then what is left: the ends of rows. -/
theorem ends_replace : ∀ l : List UInt8, replaceAll (replaceAll l [13, 10] [10]) [13] [10] = ends l
  | [] => by rw [replaceAll_nil _ _ (by decide) (by decide), replaceAll_nil _ _ (by decide) (by decide)]; rfl
  | [c] => by
    rw [replaceAll_next _ _ _ _ (by decide) (by decide) (by simp [List.isPrefixOf]), replaceAll_nil _ _ (by decide) (by decide)]
    by_cases h : c = 13
    · subst h
      rw [replaceAll_hit _ _ _ (by decide) (by decide) (by rfl)]
      simp [ends, replaceAll_nil]
    · rw [replaceAll_next _ _ _ _ (by decide) (by decide) (by simp [List.isPrefixOf, Ne.symm h]), replaceAll_nil _ _ (by decide) (by decide)]
      simp [ends, h]
  | c :: d :: l => by
    have ih1 := ends_replace l
    have ih2 := ends_replace (d :: l)
    by_cases h : c = 13
    · subst h
      by_cases hd : d = 10
      · subst hd
        rw [replaceAll_hit [13, 10] _ _ (by decide) (by decide) (by simp [List.isPrefixOf]), ends_crlf, ← ih1]
        simp only [List.length_cons, List.length_nil, List.drop_succ_cons, List.drop_zero, List.cons_append, List.nil_append]
        rw [replaceAll_next _ _ _ _ (by decide) (by decide) (by simp [List.isPrefixOf])]
      · rw [replaceAll_next [13, 10] _ _ _ (by decide) (by decide) (by simp [List.isPrefixOf, Ne.symm hd]), ends_cr _ (by simp [hd]), ← ih2]
        rw [replaceAll_hit [13] _ _ (by decide) (by decide) (by simp [List.isPrefixOf])]
        rfl
    · rw [replaceAll_next [13, 10] _ _ _ (by decide) (by decide) (by simp [List.isPrefixOf, Ne.symm h]), ends_other _ _ h, ← ih2]
      rw [replaceAll_next [13] _ _ _ (by decide) (by decide) (by simp [List.isPrefixOf, Ne.symm h])]
theorem replaceK_length (old new : List UInt8) (h1 : 1 ≤ old.length) (hn : new.length ≤ old.length) : ∀ (k : Nat) (l : List UInt8), (replaceK old new k l).length ≤ l.length
  | 0, l => by simp [replaceK]
  | k + 1, l => by
    rw [replaceK]
    split
    · exact Nat.le_refl _
    · rename_i hm
      have hge := index_ge l old
      have h0 : 0 ≤ index l old := by
        have : index l old ≠ -1 := fun e => hm (beq_iff_eq.2 e)
        omega
      have hr := index_room l old h0
      have ih := replaceK_length old new h1 hn k (l.drop ((index l old).toNat + old.length))
      rw [List.length_drop] at ih
      simp only [List.length_append, List.length_take]
      omega
theorem replaceAll_length (old new : List UInt8) (h1 : 1 ≤ old.length) (hn : new.length ≤ old.length) (hne : old ≠ new) (l : List UInt8) : (replaceAll l old new).length ≤ l.length := by
  rw [replaceAll_k _ _ _ hne]
  exact replaceK_length old new h1 hn _ l
theorem count_le (old : ByteArray) (h1 : 1 ≤ old.size) (l : List UInt8) : count l old.data.toList ≤ l.length := by
  have := countB_le old h1 l.length ⟨l.toArray⟩ (by simp [ByteArray.size])
  simpa [countB, ByteArray.size] using this

/-- No code point but CR has a byte CR. -/
theorem encode_no13 (r : Int) (h : r ≠ 13) : (13 : UInt8) ∉ encodeRune r := by
  have B := toNat_byte
  unfold encodeRune
  rw [List.mem_map]
  rintro ⟨z, hz, e⟩
  have hb := encodeRuneZ_byte r z hz
  have hz13 : z = 13 := by
    have := B z hb.1 hb.2
    rw [e] at this
    simpa using this.symm
  subst hz13
  by_cases h1 : 0 ≤ r ∧ r ≤ 127
  · rw [encodeRuneZ_one h1.1 h1.2] at hz
    simp at hz
    omega
  · by_cases h2 : 128 ≤ r ∧ r ≤ 2047
    · rw [encodeRuneZ_two h2.1 h2.2] at hz
      simp at hz
      omega
    · by_cases h3 : (2048 ≤ r ∧ r < 55296) ∨ (57343 < r ∧ r ≤ 65535)
      · rw [encodeRuneZ_three h3] at hz
        simp at hz
        omega
      · by_cases h4 : 65536 ≤ r ∧ r ≤ 1114111
        · rw [encodeRuneZ_four h4.1 h4.2] at hz
          simp at hz
          omega
        · rw [encodeRuneZ_bad (by omega)] at hz
          simp at hz
/-- How long the mark at the beginning is. -/
def bom (l : List UInt8) : Nat := if [239, 187, 191].isPrefixOf l = true then 3 else 0
theorem bom_le (l : List UInt8) : bom l ≤ l.length := by
  unfold bom
  split
  · rename_i h
    have := (List.isPrefixOf_iff_prefix.1 h).length_le
    simpa using this
  · omega
theorem trim_bom (l : List UInt8) : trimPrefix l [239, 187, 191] = l.drop (bom l) := by
  unfold trimPrefix hasPrefix bom
  by_cases h : [239, 187, 191].isPrefixOf l = true
  · rw [if_pos h, if_pos h]; rfl
  · rw [if_neg h, if_neg h]; rfl
/-- What is read of bytes: the text, the place, the code. -/
def clean (l : List UInt8) : List UInt8 × Int × Int :=
  if 65536 < l.length then ([], 0, 2) else if wrongAt (l.drop (bom l)) (bom l) = -1 then (ends (l.drop (bom l)), 0, 0) else ([], wrongAt (l.drop (bom l)) (bom l), 3)
theorem clean_long (l : List UInt8) (h : 65536 < l.length) : clean l = ([], 0, 2) := by unfold clean; rw [if_pos h]
theorem clean_ok (l : List UInt8) (h : l.length ≤ 65536) (hw : wrongAt (l.drop (bom l)) (bom l) = -1) : clean l = (ends (l.drop (bom l)), 0, 0) := by
  unfold clean; rw [if_neg (by omega), if_pos hw]
theorem clean_bad (l : List UInt8) (h : l.length ≤ 65536) (hw : wrongAt (l.drop (bom l)) (bom l) ≠ -1) : clean l = ([], wrongAt (l.drop (bom l)) (bom l), 3) := by
  unfold clean; rw [if_neg (by omega), if_neg hw]
theorem clean_length (l : List UInt8) : (clean l).1.length ≤ l.length := by
  unfold clean
  split
  · simp
  · split
    · have := ends_length (l.drop (bom l))
      rw [List.length_drop] at this
      dsimp only
      omega
    · simp

end Go.Proofs.YtomdhgbofocbbaaDoor.U
