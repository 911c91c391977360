/- Plain facts on code points and their encodings (nothing of the program). Conditions: none beside those that each theorem writes out. -/
import Derived.Lib.MapLaws
import Derived.Laws.Cover4
namespace Go.Proofs.YtomdhgbofocbbaaDoor.U
open Go.Lib

/-- The byte in front is part of no encoded code point. -/
def bad (l : List UInt8) : Bool := (decodeL l).1 == 65533 && (decodeL l).2 == 1
def placeF : Nat → List UInt8 → Nat → Int
  | 0, _, _ => -1
  | f + 1, l, p => if l = [] then -1 else if bad l = true then (p : Int) else placeF f (l.drop (decodeL l).2) (p + (decodeL l).2)
def place (l : List UInt8) : Int := placeF l.length l 0
def runesF : Nat → List UInt8 → List Int
  | 0, _ => []
  | f + 1, l => if l = [] then [] else ((decodeL l).1 : Int) :: runesF f (l.drop (decodeL l).2)
def runes (l : List UInt8) : List Int := runesF l.length l
def text (rs : List Int) : List UInt8 := rs.flatMap encodeRune
/-- Is a number a code point? -/
def scalar (r : Int) : Bool := decide ((0 ≤ r ∧ r < 55296) ∨ (57343 < r ∧ r ≤ 1114111))
def fix (r : Int) : Int := if scalar r = true then r else 65533

theorem bad_iff (l : List UInt8) : bad l = true ↔ (decodeL l).1 = 65533 ∧ (decodeL l).2 = 1 := by simp [bad]

theorem placeF_fuel : ∀ (n m : Nat) (l : List UInt8) (p : Nat), l.length ≤ n → l.length ≤ m → placeF n l p = placeF m l p
  | 0, 0, _, _, _, _ => rfl
  | 0, m + 1, l, p, hn, _ => by
    have : l = [] := List.eq_nil_of_length_eq_zero (by omega)
    subst this
    simp [placeF]
  | n + 1, 0, l, p, _, hm => by
    have : l = [] := List.eq_nil_of_length_eq_zero (by omega)
    subst this
    simp [placeF]
  | n + 1, m + 1, l, p, hn, hm => by
    by_cases hne : l = []
    · subst hne; simp [placeF]
    · have hw := decodeL_width l
      have hl : 0 < l.length := List.length_pos_iff.2 hne
      simp only [placeF, if_neg hne]
      rw [placeF_fuel n m _ _ (by rw [List.length_drop]; omega) (by rw [List.length_drop]; omega)]
theorem runesF_fuel : ∀ (n m : Nat) (l : List UInt8), l.length ≤ n → l.length ≤ m → runesF n l = runesF m l
  | 0, 0, _, _, _ => rfl
  | 0, m + 1, l, hn, _ => by
    have : l = [] := List.eq_nil_of_length_eq_zero (by omega)
    subst this
    simp [runesF]
  | n + 1, 0, l, _, hm => by
    have : l = [] := List.eq_nil_of_length_eq_zero (by omega)
    subst this
    simp [runesF]
  | n + 1, m + 1, l, hn, hm => by
    by_cases hne : l = []
    · subst hne; simp [runesF]
    · have hw := decodeL_width l
      have hl : 0 < l.length := List.length_pos_iff.2 hne
      simp only [runesF, if_neg hne]
      rw [runesF_fuel n m _ (by rw [List.length_drop]; omega) (by rw [List.length_drop]; omega)]

theorem runes_nil : runes [] = [] := rfl
theorem place_nil : place [] = -1 := rfl
theorem runes_step (l : List UInt8) (hne : l ≠ []) : runes l = ((decodeL l).1 : Int) :: runes (l.drop (decodeL l).2) := by
  have hw := decodeL_width l
  have hl : 0 < l.length := List.length_pos_iff.2 hne
  unfold runes
  obtain ⟨n, hn⟩ : ∃ n, l.length = n + 1 := ⟨l.length - 1, by omega⟩
  rw [hn]
  simp only [runesF, if_neg hne]
  rw [runesF_fuel n _ _ (by rw [List.length_drop]; omega) (Nat.le_refl _)]
/-- From a place on. -/
def placeAt (l : List UInt8) (p : Nat) : Int := placeF l.length l p
theorem placeAt_nil (p : Nat) : placeAt [] p = -1 := rfl
theorem placeAt_zero (l : List UInt8) : placeAt l 0 = place l := rfl
theorem placeAt_step (l : List UInt8) (p : Nat) (hne : l ≠ []) : placeAt l p = if bad l = true then (p : Int) else placeAt (l.drop (decodeL l).2) (p + (decodeL l).2) := by
  have hw := decodeL_width l
  have hl : 0 < l.length := List.length_pos_iff.2 hne
  unfold placeAt
  obtain ⟨n, hn⟩ : ∃ n, l.length = n + 1 := ⟨l.length - 1, by omega⟩
  rw [hn]
  simp only [placeF, if_neg hne]
  rw [placeF_fuel n _ _ _ (by rw [List.length_drop]; omega) (Nat.le_refl _)]

/-- Induction along the code points. -/
theorem along {P : List UInt8 → Prop} (h0 : P []) (h1 : ∀ l, l ≠ [] → P (l.drop (decodeL l).2) → P l) : ∀ l, P l := by
  intro l
  generalize hn : l.length = n
  induction n using Nat.strongRecOn generalizing l with
  | _ n ih =>
    by_cases hne : l = []
    · subst hne; exact h0
    · have hw := decodeL_width l
      have hl : 0 < l.length := List.length_pos_iff.2 hne
      exact h1 l hne (ih _ (by rw [List.length_drop]; omega) _ rfl)

theorem placeAt_shift : ∀ (l : List UInt8) (p q : Nat), placeAt l (p + q) = if placeAt l p = -1 then -1 else placeAt l p + (q : Int) := by
  intro l
  induction l using along with
  | h0 => intro p q; simp [placeAt_nil]
  | h1 l hne ih =>
    intro p q
    rw [placeAt_step l _ hne, placeAt_step l p hne]
    by_cases hb : bad l = true
    · rw [if_pos hb, if_pos hb, if_neg (by omega)]
      omega
    · rw [if_neg hb, if_neg hb, show p + q + (decodeL l).2 = (p + (decodeL l).2) + q from by omega, ih]
theorem placeAt_ge : ∀ (l : List UInt8) (p : Nat), placeAt l p = -1 ∨ ((p : Int) ≤ placeAt l p ∧ placeAt l p < p + l.length) := by
  intro l
  induction l using along with
  | h0 => intro p; left; rfl
  | h1 l hne ih =>
    intro p
    have hw := decodeL_width l
    have hle := decodeL_le l hne
    have hl : 0 < l.length := List.length_pos_iff.2 hne
    rw [placeAt_step l _ hne]
    by_cases hb : bad l = true
    · rw [if_pos hb]; right; omega
    · rw [if_neg hb]
      rcases ih (p + (decodeL l).2) with h | h
      · left; exact h
      · right; rw [List.length_drop] at h; omega
theorem place_range (l : List UInt8) : -1 ≤ place l ∧ place l < l.length := by
  have := placeAt_ge l 0
  rw [placeAt_zero] at this
  omega
theorem runes_length_le : ∀ l : List UInt8, (runes l).length ≤ l.length := by
  intro l
  induction l using along with
  | h0 => simp [runes_nil]
  | h1 l hne ih =>
    have hw := decodeL_width l
    have hl : 0 < l.length := List.length_pos_iff.2 hne
    rw [runes_step l hne]
    rw [List.length_drop] at ih
    simp only [List.length_cons]
    omega

/-- What stands behind does not matter where a code point begins. -/
theorem decodeL_append (l m : List UInt8) (hne : l ≠ []) (hg : bad l = false) : decodeL (l ++ m) = decodeL l := by
  have hl : 0 < l.length := List.length_pos_iff.2 hne
  have hb : ¬ ((decodeL l).1 = 65533 ∧ (decodeL l).2 = 1) := by rw [← bad_iff]; simp [hg]
  have g : ∀ i, i < l.length → (l ++ m).getD i 0 = l.getD i 0 := fun i hi => by
    simp [List.getD, List.getElem?_append_left hi]
  rw [decodeL_N] at hb
  rw [decodeL_N, decodeL_N l]
  have k1 := (l.getD 1 0).toNat_lt
  have k2 := (l.getD 2 0).toNat_lt
  have k3 := (l.getD 3 0).toNat_lt
  rw [g 0 hl]
  have hlen : (l ++ m).length = l.length + m.length := by simp
  rcases decodeN_shape l.length (l.getD 0 0).toNat (l.getD 1 0).toNat (l.getD 2 0).toNat (l.getD 3 0).toNat with ⟨c, e⟩ | ⟨c1, c2, c3, cv, e⟩ | ⟨c1, c2, c3, c4, cv, cs, e⟩ | ⟨c1, c2, c3, c4, c5, cv, cw, e⟩ | e
  · rw [e]; unfold decodeN; rw [if_pos c]
  · rw [e, g 1 (by omega)]
    unfold decodeN
    rw [if_neg (by omega), if_pos ⟨by omega, by omega, by omega⟩, if_pos (by omega)]
  · rw [e, g 1 (by omega), g 2 (by omega)]
    unfold decodeN
    rw [if_neg (by omega), if_neg (by omega), if_pos ⟨by omega, ⟨by omega, by omega⟩, by omega, by omega⟩, if_pos ⟨by omega, by omega⟩]
  · rw [e, g 1 (by omega), g 2 (by omega), g 3 (by omega)]
    unfold decodeN
    rw [if_neg (by omega), if_neg (by omega), if_neg (by omega), if_pos ⟨by omega, ⟨by omega, by omega⟩, ⟨by omega, by omega⟩, by omega, by omega⟩, if_pos ⟨by omega, by omega⟩]
  · rw [e] at hb; exact absurd ⟨rfl, rfl⟩ hb

theorem bad_append (l m : List UInt8) (hne : l ≠ []) (hg : bad l = false) : bad (l ++ m) = false := by
  unfold bad at *
  rw [decodeL_append l m hne hg]
  exact hg

/-- The code point that was decoded is one. -/
theorem decodeL_scalar (l : List UInt8) : scalar ((decodeL l).1 : Int) = true := by
  rw [decodeL_N]
  have k0 := (l.getD 0 0).toNat_lt
  have k1 := (l.getD 1 0).toNat_lt
  have k2 := (l.getD 2 0).toNat_lt
  have k3 := (l.getD 3 0).toNat_lt
  unfold scalar
  rw [decide_eq_true_eq]
  rcases decodeN_shape l.length (l.getD 0 0).toNat (l.getD 1 0).toNat (l.getD 2 0).toNat (l.getD 3 0).toNat with ⟨c, e⟩ | ⟨c1, c2, c3, cv, e⟩ | ⟨c1, c2, c3, c4, cv, cs, e⟩ | ⟨c1, c2, c3, c4, c5, cv, cw, e⟩ | e
  all_goals (rw [e]; dsimp only; omega)

theorem toNat_byte (z : Int) (h0 : 0 ≤ z) (h1 : z < 256) : ((z.toNat.toUInt8).toNat : Int) = z := by
  have : z.toNat.toUInt8.toNat = z.toNat % 256 := by simp
  omega

/-- An encoding is read as what it is of. -/
theorem decodeL_encode (r : Int) (m : List UInt8) : decodeL (encodeRune r ++ m) = ((fix r).toNat, (encodeRune r).length) := by
  have B := toNat_byte
  have hm : 0 ≤ m.length := Nat.zero_le _
  rw [decodeL_N]
  unfold encodeRune fix scalar
  simp only [decide_eq_true_eq]
  by_cases h1 : 0 ≤ r ∧ r ≤ 127
  · rw [if_pos (by omega), encodeRuneZ_one h1.1 h1.2]
    simp only [List.map_cons, List.map_nil, List.cons_append, List.nil_append, List.getD_cons_zero, List.length_cons, List.length_nil]
    have b0 := B r (by omega) (by omega)
    unfold decodeN
    rw [if_pos (by omega)]
    rw [Prod.mk.injEq]; exact ⟨by omega, rfl⟩
  · by_cases h2 : 128 ≤ r ∧ r ≤ 2047
    · rw [if_pos (by omega), encodeRuneZ_two h2.1 h2.2]
      simp only [List.map_cons, List.map_nil, List.cons_append, List.nil_append, List.getD_cons_zero, List.getD_cons_succ, List.length_cons, List.length_nil]
      have b0 := B (192 + r / 64) (by omega) (by omega)
      have b1 := B (128 + r % 64) (by omega) (by omega)
      unfold decodeN
      rw [if_neg (by omega), if_pos (by omega), if_pos (by omega)]
      rw [Prod.mk.injEq]; exact ⟨by omega, rfl⟩
    · by_cases h3 : (2048 ≤ r ∧ r < 55296) ∨ (57343 < r ∧ r ≤ 65535)
      · rw [if_pos (by omega), encodeRuneZ_three h3]
        simp only [List.map_cons, List.map_nil, List.cons_append, List.nil_append, List.getD_cons_zero, List.getD_cons_succ, List.length_cons, List.length_nil]
        have b0 := B (224 + r / 4096) (by omega) (by omega)
        have b1 := B (128 + r / 64 % 64) (by omega) (by omega)
        have b2 := B (128 + r % 64) (by omega) (by omega)
        unfold decodeN
        rw [if_neg (by omega), if_neg (by omega), if_pos (by omega), if_pos (by omega)]
        rw [Prod.mk.injEq]; exact ⟨by omega, rfl⟩
      · by_cases h4 : 65536 ≤ r ∧ r ≤ 1114111
        · rw [if_pos (by omega), encodeRuneZ_four h4.1 h4.2]
          simp only [List.map_cons, List.map_nil, List.cons_append, List.nil_append, List.getD_cons_zero, List.getD_cons_succ, List.length_cons, List.length_nil]
          have b0 := B (240 + r / 262144) (by omega) (by omega)
          have b1 := B (128 + r / 4096 % 64) (by omega) (by omega)
          have b2 := B (128 + r / 64 % 64) (by omega) (by omega)
          have b3 := B (128 + r % 64) (by omega) (by omega)
          unfold decodeN
          rw [if_neg (by omega), if_neg (by omega), if_neg (by omega), if_pos (by omega), if_pos (by omega)]
          rw [Prod.mk.injEq]; exact ⟨by omega, rfl⟩
        · rw [if_neg (by omega), encodeRuneZ_bad (by omega)]
          simp only [List.map_cons, List.map_nil, List.cons_append, List.nil_append, List.getD_cons_zero, List.getD_cons_succ, List.length_cons, List.length_nil]
          have b0 := B 239 (by omega) (by omega)
          have b1 := B 191 (by omega) (by omega)
          have b2 := B 189 (by omega) (by omega)
          have n0 : (Int.toNat 239).toUInt8.toNat = 239 := by decide
          have n1 : (Int.toNat 191).toUInt8.toNat = 191 := by decide
          have n2 : (Int.toNat 189).toUInt8.toNat = 189 := by decide
          rw [n0, n1, n2]
          have hl : 2 < m.length + 1 + 1 + 1 := by omega
          unfold decodeN
          rw [if_neg (by omega), if_neg (by omega), if_pos ⟨by omega, ⟨by omega, by omega⟩, hl, by omega⟩, if_pos (by omega)]
          rfl

theorem encode_length (r : Int) : 1 ≤ (encodeRune r).length ∧ (encodeRune r).length ≤ 4 := by
  rw [← runeCells_length]; exact runeCells_le r
theorem encode_ne (r : Int) : encodeRune r ≠ [] := by
  have := encode_length r
  intro h; rw [h] at this; simp at this

/-- No encoding is bad. -/
theorem bad_encode (r : Int) (m : List UInt8) : bad (encodeRune r ++ m) = false := by
  unfold bad
  rw [decodeL_encode]
  dsimp only
  by_cases h : (encodeRune r).length = 1
  · unfold encodeRune at h
    have : 0 ≤ r ∧ r ≤ 127 := by
      by_cases h1 : 0 ≤ r ∧ r ≤ 127
      · exact h1
      · exfalso
        by_cases h2 : 128 ≤ r ∧ r ≤ 2047
        · rw [encodeRuneZ_two h2.1 h2.2] at h; simp at h
        · by_cases h3 : (2048 ≤ r ∧ r < 55296) ∨ (57343 < r ∧ r ≤ 65535)
          · rw [encodeRuneZ_three h3] at h; simp at h
          · by_cases h4 : 65536 ≤ r ∧ r ≤ 1114111
            · rw [encodeRuneZ_four h4.1 h4.2] at h; simp at h
            · rw [encodeRuneZ_bad (by omega)] at h; simp at h
    have e : fix r = r := by unfold fix scalar; rw [if_pos (by rw [decide_eq_true_eq]; omega)]
    rw [e]
    have : ¬ r.toNat = 65533 := by omega
    simp [this]
  · simp [h]

theorem text_cons (r : Int) (rs : List Int) : text (r :: rs) = encodeRune r ++ text rs := rfl
theorem drop_encode (r : Int) (m : List UInt8) : (encodeRune r ++ m).drop (encodeRune r).length = m := by simp

theorem place_text : ∀ (rs : List Int) (p : Nat), placeAt (text rs) p = -1
  | [], _ => rfl
  | r :: rs, p => by
    rw [text_cons, placeAt_step _ _ (by simp [encode_ne]), if_neg (by simp [bad_encode]), decodeL_encode]
    dsimp only
    rw [drop_encode]
    exact place_text rs _

theorem fix_nonneg (r : Int) : 0 ≤ fix r := by
  unfold fix scalar
  split
  · rename_i h; rw [decide_eq_true_eq] at h; omega
  · omega
theorem fix_le (r : Int) : fix r ≤ 1114111 := by
  unfold fix scalar
  split
  · rename_i h; rw [decide_eq_true_eq] at h; omega
  · omega
theorem runes_text : ∀ rs : List Int, runes (text rs) = rs.map fix
  | [] => rfl
  | r :: rs => by
    rw [text_cons, runes_step _ (by simp [encode_ne]), decodeL_encode]
    dsimp only
    rw [drop_encode, runes_text rs]
    have := fix_nonneg r
    simp [Int.toNat_of_nonneg this]

/-- What is whole comes back. -/
theorem text_runes : ∀ (l : List UInt8) (p : Nat), placeAt l p = -1 → text (runes l) = l := by
  intro l
  induction l using along with
  | h0 => intro _ _; rfl
  | h1 l hne ih =>
    intro p hp
    rw [placeAt_step l p hne] at hp
    by_cases hb : bad l = true
    · rw [if_pos hb] at hp; omega
    · rw [if_neg hb] at hp
      rw [runes_step l hne, text_cons, ih _ hp, encode_decode l hne (by rw [← bad_iff]; exact hb), List.take_append_drop]
theorem whole_iff (l : List UInt8) : text (runes l) = l ↔ place l = -1 := by
  constructor
  · intro h
    have := place_text (runes l) 0
    rw [h, placeAt_zero] at this
    exact this
  · intro h; exact text_runes l 0 h

theorem runes_append : ∀ (a b : List UInt8) (p : Nat), placeAt a p = -1 → runes (a ++ b) = runes a ++ runes b := by
  intro a b
  induction a using along with
  | h0 => intro _ _; rfl
  | h1 a hne ih =>
    intro p hp
    rw [placeAt_step a p hne] at hp
    by_cases hb : bad a = true
    · rw [if_pos hb] at hp; omega
    · rw [if_neg hb] at hp
      have hb' : bad a = false := by simpa using hb
      have hle := decodeL_le a hne
      rw [runes_step (a ++ b) (by simp [hne]), decodeL_append a b hne hb', List.drop_append_of_le_length hle, ih _ hp, runes_step a hne]
      rfl
theorem place_append : ∀ (a b : List UInt8) (p : Nat), placeAt a p = -1 → placeAt (a ++ b) p = placeAt b (p + a.length) := by
  intro a b
  induction a using along with
  | h0 => intro _ _; rfl
  | h1 a hne ih =>
    intro p hp
    rw [placeAt_step a p hne] at hp
    by_cases hb : bad a = true
    · rw [if_pos hb] at hp; omega
    · rw [if_neg hb] at hp
      have hb' : bad a = false := by simpa using hb
      have hle := decodeL_le a hne
      rw [placeAt_step (a ++ b) p (by simp [hne]), if_neg (by rw [bad_append a b hne hb']; simp), decodeL_append a b hne hb', List.drop_append_of_le_length hle, ih _ hp, List.length_drop]
      congr 1
      omega

/-! ### The model's own forms -/
theorem encode_eq (r : Int) : (Utf8.encode r).data.toList = encodeRune r := by
  have hv : Utf8.valid r = true ↔ ((0 ≤ r ∧ r < 55296) ∨ (57343 < r ∧ r ≤ 1114111)) := by
    simp only [Utf8.valid, Bool.or_eq_true, Bool.and_eq_true, decide_eq_true_eq]
    omega
  have T : ∀ (z : Int) (n : Nat), z = (n : Int) → z.toNat.toUInt8 = UInt8.ofNat n := by
    intro z n h
    subst h
    simp
  unfold Utf8.encode encodeRune Utf8.runeError
  dsimp only
  by_cases h1 : 0 ≤ r ∧ r ≤ 127
  · rw [if_pos (hv.2 (by omega)), if_pos (by omega), encodeRuneZ_one h1.1 h1.2]
    simp only [List.map_cons, List.map_nil]
  · by_cases h2 : 128 ≤ r ∧ r ≤ 2047
    · rw [if_pos (hv.2 (by omega)), if_neg (by omega), if_pos (by omega), encodeRuneZ_two h2.1 h2.2]
      simp only [List.map_cons, List.map_nil]
      rw [T (192 + r / 64) (192 + r.toNat / 64) (by omega), T (128 + r % 64) (128 + r.toNat % 64) (by omega)]
    · by_cases h3 : (2048 ≤ r ∧ r < 55296) ∨ (57343 < r ∧ r ≤ 65535)
      · rw [if_pos (hv.2 (by omega)), if_neg (by omega), if_neg (by omega), if_pos (by omega), encodeRuneZ_three h3]
        simp only [List.map_cons, List.map_nil]
        rw [T (224 + r / 4096) (224 + r.toNat / 4096) (by omega), T (128 + r / 64 % 64) (128 + r.toNat / 64 % 64) (by omega), T (128 + r % 64) (128 + r.toNat % 64) (by omega)]
      · by_cases h4 : 65536 ≤ r ∧ r ≤ 1114111
        · rw [if_pos (hv.2 (by omega)), if_neg (by omega), if_neg (by omega), if_neg (by omega), encodeRuneZ_four h4.1 h4.2]
          simp only [List.map_cons, List.map_nil]
          rw [T (240 + r / 262144) (240 + r.toNat / 262144) (by omega), T (128 + r / 4096 % 64) (128 + r.toNat / 4096 % 64) (by omega), T (128 + r / 64 % 64) (128 + r.toNat / 64 % 64) (by omega), T (128 + r % 64) (128 + r.toNat % 64) (by omega)]
        · have hn : ¬ Utf8.valid r = true := by rw [hv]; omega
          rw [if_neg hn, if_neg (by omega), if_neg (by omega), if_pos (by omega), encodeRuneZ_bad (by omega)]
          rfl

theorem foldl_encode : ∀ (rs : List Int) (s : ByteArray), (rs.foldl (fun r n => r ++ Utf8.encode n) s).data.toList = s.data.toList ++ text rs
  | [], s => by simp [text]
  | r :: rs, s => by
    rw [List.foldl_cons, foldl_encode rs, ByteArray.data_append, Array.toList_append, encode_eq, text_cons, List.append_assoc]
theorem runesBytes_eq (rs : List Int) : runesBytes rs = ⟨(text rs).toArray⟩ := by
  have h := foldl_encode rs ByteArray.empty
  have e0 : ByteArray.empty.data.toList = [] := rfl
  rw [e0, List.nil_append] at h
  unfold runesBytes
  generalize (rs.foldl (fun r n => r ++ Utf8.encode n) ByteArray.empty) = x at *
  obtain ⟨⟨l⟩⟩ := x
  simp at h
  rw [h]

/-- Where U+FFFD was decoded, it stands there just if its three bytes do. -/
theorem fffd_bytes (l : List UInt8) (hne : l ≠ []) (h : (decodeL l).1 = 65533) : bad l = true ↔ ¬ (3 ≤ l.length ∧ l.take 3 = [239, 191, 189]) := by
  rw [bad_iff]
  constructor
  · rintro ⟨_, h1⟩ ⟨h2, h3⟩
    have e : l = encodeRune 65533 ++ l.drop 3 := by
      have := List.take_append_drop 3 l
      rw [h3] at this
      rw [← this]
      rfl
    rw [e, decodeL_encode] at h1
    exact absurd h1 (by decide)
  · intro hn
    refine ⟨h, ?_⟩
    apply Classical.byContradiction
    intro h1
    have hb : ¬ ((decodeL l).1 = 65533 ∧ (decodeL l).2 = 1) := fun x => h1 x.2
    have he := encode_decode l hne hb
    rw [h] at he
    have e3 : encodeRune ((65533 : Nat) : Int) = [239, 191, 189] := by decide
    rw [e3] at he
    have hle := decodeL_le l hne
    have h3 : (decodeL l).2 = 3 := by
      have := congrArg List.length he
      rw [List.length_take] at this
      simp at this
      omega
    rw [h3] at he hle
    exact hn ⟨hle, he.symm⟩

end Go.Proofs.YtomdhgbofocbbaaDoor.U
