/- Plain facts on lines and columns of places in a text (nothing of the program). Conditions: none beside those that each theorem writes out. -/
import Derived.Test.YtomdhgbofocbbaaDoorUtf
namespace Go.Proofs.YtomdhgbofocbbaaDoor.U
open Go.Lib

/-! ### Decoding what is cut behind a code point -/
theorem dec_take (l : List UInt8) (m : Nat) (hne : l ≠ []) (h : (decodeL l).2 ≤ m) : decodeL (l.take m) = decodeL l := by
  have hw := decodeL_width l
  have hl : 0 < l.length := List.length_pos_iff.2 hne
  have hn2 : l.take m ≠ [] := by
    intro h0
    have := congrArg List.length h0
    rw [List.length_take, List.length_nil] at this
    omega
  cases hb : bad (l.take m) with
  | false =>
    have := decodeL_append (l.take m) (l.drop m) hn2 hb
    rw [List.take_append_drop] at this
    exact this.symm
  | true =>
    have hb2 := (bad_iff _).1 hb
    cases hc : bad l with
    | true =>
      have hc2 := (bad_iff _).1 hc
      exact Prod.ext (hb2.1.trans hc2.1.symm) (hb2.2.trans hc2.2.symm)
    | false =>
      exfalso
      have he := encode_decode l hne (by rw [← bad_iff]; simp [hc])
      have e : l.take m = encodeRune ((decodeL l).1 : Int) ++ (l.take m).drop (decodeL l).2 := by
        rw [he]
        have e1 : l.take (decodeL l).2 = (l.take m).take (decodeL l).2 := by rw [List.take_take, Nat.min_eq_left h]
        rw [e1, List.take_append_drop]
      rw [e, bad_encode] at hb
      exact Bool.noConfusion hb

/-- Does a byte go on within a code point? -/
def goes (b : UInt8) : Bool := b.toNat / 64 == 2

/-- What a decoded code point is made of: the bytes behind the first one go on; LF is one byte, and stands in no other one. -/
theorem dec_bytes (l : List UInt8) (hne : l ≠ []) :
    (∀ i, 1 ≤ i → i < (decodeL l).2 → goes (l.getD i 0) = true) ∧ (bad l = false → goes (l.getD 0 0) = false) ∧ ((decodeL l).1 = 10 → (decodeL l).2 = 1 ∧ (l.getD 0 0).toNat = 10) ∧ ((decodeL l).1 ≠ 10 → (l.getD 0 0).toNat ≠ 10) := by
  have hl : 0 < l.length := List.length_pos_iff.2 hne
  unfold goes bad
  rw [decodeL_N]
  have k0 := (l.getD 0 0).toNat_lt
  have d0 : (l.getD 0 0).toNat = 10 → decodeN l.length (l.getD 0 0).toNat (l.getD 1 0).toNat (l.getD 2 0).toNat (l.getD 3 0).toNat = (10, 1) := by
    intro h; unfold decodeN; rw [if_pos (by omega), h]
  rcases decodeN_shape l.length (l.getD 0 0).toNat (l.getD 1 0).toNat (l.getD 2 0).toNat (l.getD 3 0).toNat with ⟨c, e⟩ | ⟨c1, c2, c3, cv, e⟩ | ⟨c1, c2, c3, c4, cv, cs, e⟩ | ⟨c1, c2, c3, c4, c5, cv, cw, e⟩ | e
  · rw [e]
    refine ⟨fun i h1 h2 => by dsimp only at h2; omega, fun _ => beq_eq_false_iff_ne.2 (by omega), fun h => ⟨rfl, h⟩, fun h => h⟩
  · rw [e]
    refine ⟨fun i h1 h2 => ?_, fun _ => beq_eq_false_iff_ne.2 (by omega), fun h => by dsimp only at h; omega, fun _ => by omega⟩
    dsimp only at h2
    obtain rfl : i = 1 := by omega
    simpa using c3
  · rw [e]
    refine ⟨fun i h1 h2 => ?_, fun _ => beq_eq_false_iff_ne.2 (by omega), fun h => by dsimp only at h; omega, fun _ => by omega⟩
    dsimp only at h2
    rcases (show i = 1 ∨ i = 2 from by omega) with rfl | rfl
    · simpa using c3
    · simpa using c4
  · rw [e]
    refine ⟨fun i h1 h2 => ?_, fun _ => beq_eq_false_iff_ne.2 (by omega), fun h => by dsimp only at h; omega, fun _ => by omega⟩
    dsimp only at h2
    rcases (show i = 1 ∨ i = 2 ∨ i = 3 from by omega) with rfl | rfl | rfl
    · simpa using c3
    · simpa using c4
    · simpa using c5
  · refine ⟨fun i h1 h2 => ?_, fun h => ?_, fun h => ?_, fun h h2 => ?_⟩
    · rw [e] at h2; dsimp only at h2; omega
    · rw [e] at h; simp at h
    · rw [e] at h; simp at h
    · rw [d0 h2] at h; exact h rfl
/-- LF stands in no code point but its own. -/
theorem dec_lf (l : List UInt8) (hne : l ≠ []) : ((decodeL l).1 = 10 → (decodeL l).2 = 1 ∧ ∃ t, l = 10 :: t) ∧ ((decodeL l).1 ≠ 10 → (10 : UInt8) ∉ l.take (decodeL l).2) := by
  obtain ⟨h1, _, h3, h4⟩ := dec_bytes l hne
  refine ⟨fun h => ⟨(h3 h).1, ?_⟩, fun h hm => ?_⟩
  · cases l with
    | nil => exact absurd rfl hne
    | cons b t =>
      refine ⟨t, ?_⟩
      have := (h3 h).2
      have e : b = 10 := by
        have h5 : b.toNat = (10 : UInt8).toNat := this
        exact UInt8.toNat_inj.1 h5
      rw [e]
  · obtain ⟨i, hi, he⟩ := List.getElem_of_mem hm
    rw [List.length_take] at hi
    rw [List.getElem_take] at he
    have hg : l.getD i 0 = 10 := by
      simp only [List.getD, List.getElem?_eq_getElem (show i < l.length by omega), Option.getD_some]; exact he
    by_cases h0 : i = 0
    · subst h0
      exact h4 h (by rw [hg]; rfl)
    · have := h1 i (by omega) (by omega)
      rw [hg] at this
      exact absurd this (by decide)

/-! ### Lines and rows -/
/-- What stands behind the last LF. -/
def row (l : List UInt8) : List UInt8 := (l.reverse.takeWhile (fun b => b != 10)).reverse
theorem row_nil : row [] = [] := rfl
theorem row_append (l m : List UInt8) (h : (10 : UInt8) ∉ m) : row (l ++ m) = row l ++ m := by
  unfold row
  rw [List.reverse_append, List.takeWhile_append_of_pos, List.reverse_append, List.reverse_reverse]
  intro a ha
  have ha2 : a ∈ m := by simpa using ha
  simp only [bne_iff_ne, ne_eq]
  intro h0
  subst h0
  exact h ha2
theorem row_self (m : List UInt8) (h : (10 : UInt8) ∉ m) : row m = m := by
  have := row_append [] m h
  simpa [row_nil] using this
theorem row_lf (l : List UInt8) : row (l ++ [10]) = [] := by
  unfold row
  simp
theorem row_behind (l m : List UInt8) (h : (10 : UInt8) ∉ m) : row (l ++ 10 :: m) = m := by
  have : l ++ 10 :: m = (l ++ [10]) ++ m := by simp
  rw [this, row_append _ _ h, row_lf, List.nil_append]
/-- A text is what ends in its last LF, and what stands behind. -/
theorem row_split : ∀ l : List UInt8, (10 : UInt8) ∉ l ∨ ∃ a m, l = a ++ 10 :: m ∧ (10 : UInt8) ∉ m
  | [] => .inl (by simp)
  | b :: t => by
    rcases row_split t with h | ⟨a, m, rfl, h⟩
    · by_cases hb : b = 10
      · subst hb; exact .inr ⟨[], t, rfl, h⟩
      · exact .inl (by simp [h]; exact fun e => hb e.symm)
    · exact .inr ⟨b :: a, m, rfl, h⟩
theorem row_cons (b : UInt8) (t : List UInt8) (h : (10 : UInt8) ∈ t) : row (b :: t) = row t := by
  rcases row_split t with h0 | ⟨a, m, rfl, h0⟩
  · exact absurd h h0
  · rw [row_behind a m h0, ← List.cons_append, row_behind (b :: a) m h0]
theorem row_front : ∀ (a t : List UInt8), (10 : UInt8) ∈ t → row (a ++ t) = row t
  | [], _, _ => rfl
  | b :: a, t, h => by
    rw [List.cons_append, row_cons _ _ (by simp [h]), row_front a t h]
theorem row_length_le (l : List UInt8) : (row l).length ≤ l.length := by
  rcases row_split l with h0 | ⟨a, m, rfl, h0⟩
  · rw [row_self l h0]; exact Nat.le_refl _
  · rw [row_behind a m h0]; simp; omega
theorem row_drop (l : List UInt8) : l.drop (l.length - (row l).length) = row l := by
  rcases row_split l with h0 | ⟨a, m, rfl, h0⟩
  · rw [row_self l h0]; simp
  · rw [row_behind a m h0]
    have : (a ++ 10 :: m).length - m.length = (a ++ [10]).length := by simp; omega
    rw [this]
    have e : a ++ 10 :: m = (a ++ [10]) ++ m := by simp
    rw [e, List.drop_left]
def line (l : List UInt8) : Int := (l.count 10 : Int) + 1
def col (l : List UInt8) : Int := ((runes (row l)).length : Int) + 1

/-- The next line and column. -/
def nextL (c : Nat) (a : Int) : Int := if c = 10 then a + 1 else a
def nextC (c : Nat) (b : Int) : Int := if c = 10 then 1 else b + 1
theorem nextL_lf (a : Int) : nextL 10 a = a + 1 := rfl
theorem nextC_lf (b : Int) : nextC 10 b = 1 := rfl
theorem nextL_other {c : Nat} (h : c ≠ 10) (a : Int) : nextL c a = a := if_neg h
theorem nextC_other {c : Nat} (h : c ≠ 10) (b : Int) : nextC c b = b + 1 := if_neg h

/-- From a line and a column at the front, k bytes on a code point begins (or the text ends), at such a line and column. -/
inductive Goes : List UInt8 → Int → Int → Nat → Int → Int → Prop
  | zero (l : List UInt8) (a b : Int) : Goes l a b 0 a b
  | step (l : List UInt8) (a b : Int) (k : Nat) (a' b' : Int) (hne : l ≠ []) (h : Goes (l.drop (decodeL l).2) (nextL (decodeL l).1 a) (nextC (decodeL l).1 b) k a' b') : Goes l a b ((decodeL l).2 + k) a' b'

theorem Goes.le {l : List UInt8} {a b : Int} {k : Nat} {a' b' : Int} (h : Goes l a b k a' b') : k ≤ l.length := by
  induction h with
  | zero => exact Nat.zero_le _
  | step l a b k a' b' hne _ ih =>
    have := decodeL_le l hne
    rw [List.length_drop] at ih
    omega
theorem Goes.snoc {l : List UInt8} {a b : Int} {k : Nat} {a' b' : Int} (h : Goes l a b k a' b') (hk : k < l.length) :
    Goes l a b (k + (decodeL (l.drop k)).2) (nextL (decodeL (l.drop k)).1 a') (nextC (decodeL (l.drop k)).1 b') := by
  induction h with
  | zero l a b =>
    rw [List.drop_zero, Nat.zero_add]
    have := Goes.step l a b 0 _ _ (List.length_pos_iff.1 hk) (Goes.zero _ _ _)
    rwa [Nat.add_zero] at this
  | step l a b k a' b' hne h ih =>
    have ih2 := ih (by rw [List.length_drop]; omega)
    rw [List.drop_drop] at ih2
    have := Goes.step l a b _ _ _ hne ih2
    rwa [← Nat.add_assoc] at this
/-- Places do not go back. -/
theorem Goes.up {l : List UInt8} {a b : Int} {k : Nat} {a' b' : Int} (h : Goes l a b k a' b') : a < a' ∨ (a = a' ∧ b ≤ b') := by
  induction h with
  | zero => exact .inr ⟨rfl, Int.le_refl _⟩
  | step l a b k a' b' hne _ ih =>
    unfold nextL nextC at ih
    split at ih <;> omega
theorem Goes.one {l : List UInt8} {a b : Int} {k : Nat} {a' b' : Int} (h : Goes l a b k a' b') (ha : 1 ≤ a) (hb : 1 ≤ b) : 1 ≤ a' ∧ 1 ≤ b' ∧ a' ≤ a + k ∧ b' ≤ b + k := by
  induction h with
  | zero => omega
  | step l a b k a' b' hne _ ih =>
    have hw := decodeL_width l
    unfold nextL nextC at ih
    split at ih
    · have := ih (by omega) (by omega); omega
    · have := ih (by omega) (by omega); omega

/-- What line and column that is. -/
theorem Goes.is {l : List UInt8} {a b : Int} {k : Nat} {a' b' : Int} (h : Goes l a b k a' b') :
    a' = a + ((l.take k).count 10 : Int) ∧ (((10 : UInt8) ∈ l.take k ∧ b' = ((runes (row (l.take k))).length : Int) + 1) ∨ ((10 : UInt8) ∉ l.take k ∧ b' = b + ((runes (l.take k)).length : Int))) := by
  induction h with
  | zero => simp [runes_nil]
  | step l a b k a' b' hne _ ih =>
    have hle := decodeL_le l hne
    have hw := decodeL_width l
    have hs : l.take ((decodeL l).2 + k) = l.take (decodeL l).2 ++ (l.drop (decodeL l).2).take k := by
      rw [List.take_add]
    obtain ⟨d1, d2⟩ := dec_lf l hne
    obtain ⟨i1, i2⟩ := ih
    by_cases hc : (decodeL l).1 = 10
    · obtain ⟨hn, t, rfl⟩ := d1 hc
      rw [hc, nextL_lf] at i1
      rw [hc, nextC_lf] at i2
      rw [hs]
      rw [hn] at i1 i2 ⊢
      have e1 : (10 :: t).drop 1 = t := rfl
      have e2 : (10 :: t).take 1 = [10] := rfl
      rw [e1] at i1 i2
      rw [e1, e2]
      refine ⟨?_, .inl ⟨by simp, ?_⟩⟩
      · rw [List.count_append]
        have : List.count (10 : UInt8) [10] = 1 := rfl
        rw [this, i1]; push_cast; omega
      · rcases i2 with ⟨m, e⟩ | ⟨m, e⟩
        · rw [row_front _ _ m]; exact e
        · rw [List.singleton_append]
          have := row_behind [] (t.take k) m
          rw [List.nil_append] at this
          rw [this, e]; omega
    · have hm := d2 hc
      rw [nextL_other hc] at i1
      rw [nextC_other hc] at i2
      have hru : runes (l.take ((decodeL l).2 + k)) = ((decodeL l).1 : Int) :: runes ((l.drop (decodeL l).2).take k) := by
        have hne2 : l.take ((decodeL l).2 + k) ≠ [] := by
          intro h0
          have := congrArg List.length h0
          rw [List.length_take, List.length_nil] at this
          omega
        rw [runes_step _ hne2, dec_take l _ hne (by omega), List.drop_take, Nat.add_sub_cancel_left]
      rcases i2 with ⟨m, e⟩ | ⟨m, e⟩
      · rw [hs]
        refine ⟨?_, .inl ⟨by simp [m], ?_⟩⟩
        · rw [List.count_append, List.count_eq_zero_of_not_mem hm, i1]; push_cast; omega
        · rw [row_front _ _ m]; exact e
      · refine ⟨?_, .inr ⟨by rw [hs]; simp [m, hm], ?_⟩⟩
        · rw [hs, List.count_append, List.count_eq_zero_of_not_mem hm, i1]; push_cast; omega
        · rw [hru, e, List.length_cons]; push_cast; omega
/-- From the front of a text. -/
theorem Goes.at {l : List UInt8} {k : Nat} {a b : Int} (h : Goes l 1 1 k a b) : a = line (l.take k) ∧ b = col (l.take k) := by
  obtain ⟨h1, h2⟩ := h.is
  unfold line col
  refine ⟨by omega, ?_⟩
  rcases h2 with ⟨_, e⟩ | ⟨m, e⟩
  · exact e
  · rw [row_self _ m]; omega

/-! ### Places found -/
def seekF : Nat → List UInt8 → Nat → Int → Int → Int → Int → Option Nat
  | 0, _, p, a, b, y, x => if a = y ∧ b = x then some p else none
  | f + 1, l, p, a, b, y, x => if a = y ∧ b = x then some p else if l = [] then none else seekF f (l.drop (decodeL l).2) (p + (decodeL l).2) (nextL (decodeL l).1 a) (nextC (decodeL l).1 b) y x
/-- The first place that is at such a line and column, from a place on that is at a and b. -/
def seekAt (l : List UInt8) (p : Nat) (a b y x : Int) : Option Nat := seekF l.length l p a b y x
def seek (l : List UInt8) (y x : Int) : Option Nat := seekAt l 0 1 1 y x
theorem seekF_fuel : ∀ (n m : Nat) (l : List UInt8) (p : Nat) (a b y x : Int), l.length ≤ n → l.length ≤ m → seekF n l p a b y x = seekF m l p a b y x
  | 0, 0, _, _, _, _, _, _, _, _ => rfl
  | 0, m + 1, l, p, a, b, y, x, hn, _ => by
    have : l = [] := List.eq_nil_of_length_eq_zero (by omega)
    subst this
    simp [seekF]
  | n + 1, 0, l, p, a, b, y, x, _, hm => by
    have : l = [] := List.eq_nil_of_length_eq_zero (by omega)
    subst this
    simp [seekF]
  | n + 1, m + 1, l, p, a, b, y, x, hn, hm => by
    by_cases hne : l = []
    · subst hne; simp [seekF]
    · have hw := decodeL_width l
      have hl : 0 < l.length := List.length_pos_iff.2 hne
      simp only [seekF, if_neg hne]
      rw [seekF_fuel n m _ _ _ _ _ _ (by rw [List.length_drop]; omega) (by rw [List.length_drop]; omega)]
theorem seekAt_nil (p : Nat) (a b y x : Int) : seekAt [] p a b y x = if a = y ∧ b = x then some p else none := rfl
theorem seekAt_step (l : List UInt8) (p : Nat) (a b y x : Int) (hne : l ≠ []) :
    seekAt l p a b y x = if a = y ∧ b = x then some p else seekAt (l.drop (decodeL l).2) (p + (decodeL l).2) (nextL (decodeL l).1 a) (nextC (decodeL l).1 b) y x := by
  have hw := decodeL_width l
  have hl : 0 < l.length := List.length_pos_iff.2 hne
  unfold seekAt
  obtain ⟨n, hn⟩ : ∃ n, l.length = n + 1 := ⟨l.length - 1, by omega⟩
  rw [hn]
  simp only [seekF, if_neg hne]
  rw [seekF_fuel n _ _ _ _ _ _ _ (by rw [List.length_drop]; omega) (Nat.le_refl _)]
theorem seekAt_here (l : List UInt8) (p : Nat) (a b y x : Int) (h : a = y ∧ b = x) : seekAt l p a b y x = some p := by
  by_cases hne : l = []
  · subst hne; rw [seekAt_nil, if_pos h]
  · rw [seekAt_step _ _ _ _ _ _ hne, if_pos h]
theorem seekAt_le : ∀ (l : List UInt8) (p : Nat) (a b y x : Int) (q : Nat), seekAt l p a b y x = some q → p ≤ q ∧ q ≤ p + l.length := by
  intro l
  induction l using along with
  | h0 => intro p a b y x q h; rw [seekAt_nil] at h; split at h <;> simp at h; omega
  | h1 l hne ih =>
    intro p a b y x q h
    have hw := decodeL_width l
    have hle := decodeL_le l hne
    rw [seekAt_step _ _ _ _ _ _ hne] at h
    split at h
    · simp at h; omega
    · have := ih _ _ _ _ _ _ h
      rw [List.length_drop] at this
      omega
/-- Each place at which a code point begins, and the end, is found by its line and column. -/
theorem Goes.seek {l : List UInt8} {a b : Int} {k : Nat} {a' b' : Int} (h : Goes l a b k a' b') : ∀ p, seekAt l p a b a' b' = some (p + k) := by
  induction h with
  | zero => intro p; exact seekAt_here _ _ _ _ _ _ ⟨rfl, rfl⟩
  | step l a b k a' b' hne h ih =>
    intro p
    have hu := h.up
    have hn : ¬ (a = a' ∧ b = b') := by
      unfold nextL nextC at hu
      split at hu <;> omega
    rw [seekAt_step _ _ _ _ _ _ hne, if_neg hn, ih, Nat.add_assoc]

/-! ### In a text of code points -/
theorem Goes.whole {l : List UInt8} {a b : Int} {k : Nat} {a' b' : Int} (h : Goes l a b k a' b') : ∀ p, placeAt l p = -1 → placeAt (l.drop k) (p + k) = -1 := by
  induction h with
  | zero => intro p hp; exact hp
  | step l a b k a' b' hne _ ih =>
    intro p hp
    rw [placeAt_step l p hne] at hp
    by_cases hb : bad l = true
    · rw [if_pos hb] at hp; omega
    · rw [if_neg hb] at hp
      have := ih _ hp
      rw [List.drop_drop] at this
      rw [← Nat.add_assoc]; exact this
theorem whole_good (l : List UInt8) (p : Nat) (hne : l ≠ []) (h : placeAt l p = -1) : bad l = false := by
  rw [placeAt_step l p hne] at h
  cases hb : bad l with
  | false => rfl
  | true => rw [if_pos hb] at h; omega
/-- A place whose byte does not go on is one at which a code point begins. -/
theorem begins : ∀ (l : List UInt8) (p : Nat) (a b : Int) (k : Nat), placeAt l p = -1 → k ≤ l.length → (k < l.length → goes (l.getD k 0) = false) → ∃ a' b', Goes l a b k a' b' := by
  intro l
  induction l using along with
  | h0 =>
    intro p a b k _ hk _
    obtain rfl : k = 0 := by simpa using hk
    exact ⟨a, b, .zero _ _ _⟩
  | h1 l hne ih =>
    intro p a b k hp hk hg
    by_cases h0 : k = 0
    · subst h0; exact ⟨a, b, .zero _ _ _⟩
    · have hle := decodeL_le l hne
      have hn : (decodeL l).2 ≤ k := by
        apply Classical.byContradiction
        intro hlt
        have h1 := (dec_bytes l hne).1 k (by omega) (by omega)
        rw [hg (by omega)] at h1
        exact Bool.noConfusion h1
      have hb := whole_good l p hne hp
      rw [placeAt_step l p hne, if_neg (by simp [hb])] at hp
      obtain ⟨j, rfl⟩ : ∃ j, k = (decodeL l).2 + j := ⟨k - (decodeL l).2, by omega⟩
      obtain ⟨a', b', h⟩ := ih _ (nextL (decodeL l).1 a) (nextC (decodeL l).1 b) j hp (by rw [List.length_drop]; omega) (by
        intro hj
        rw [List.length_drop] at hj
        have := hg (by omega)
        rw [getD_dropU]; exact this)
      exact ⟨a', b', .step _ _ _ _ _ _ hne h⟩

end Go.Proofs.YtomdhgbofocbbaaDoor.U
