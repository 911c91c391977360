/- Plain facts on tags (nothing of the program). Conditions: none beside those that each theorem writes out. -/
import Derived.Test.YtjpfkddkghfdiaaCoreP
import Derived.Test.YtjpfkddkghfdiaaSign
namespace Go.Proofs.Ytjpfkddkghfdiaa.U

/-! ### What tags are -/
/-- May a byte stand within a suffix? -/
def sfx (c : Int) : Bool := uri c && !(decide (c = 33)) && !(flow c)
/-- Is a byte a hexadecimal digit? -/
def hx (b : UInt8) : Bool := decide (0 ≤ cHexV b.toNat)
/-- How many bytes of a % and its digits stand ahead, where so many digits are awaited. -/
def pend (a : Nat) : Nat := if a = 0 then 0 else 3 - a
/-- How many bytes of a class a text begins with, in which each % has its two digits; so many digits are awaited. -/
def tR (p : Int → Bool) : Nat → List UInt8 → Nat
  | _, [] => 0
  | 0, b :: l => if p (b.toNat : Int) = true then (if b.toNat = 37 then tR p 2 l else tR p 0 l + 1) else 0
  | 1, b :: l => if hx b = true then tR p 0 l + 3 else 0
  | n + 2, b :: l => if hx b = true then tR p (n + 1) l else 0
/-- The handle's bytes and the suffix's, of what stands behind the ! that begins a tag. -/
def tHand (l : List UInt8) : Nat × Nat :=
  if (l.drop (tR wordc 0 l)).headD 0 = 33 ∧ 0 < tR sfx 0 (l.drop (tR wordc 0 l + 1)) then (tR wordc 0 l + 2, tR sfx 0 (l.drop (tR wordc 0 l + 1))) else (1, tR sfx 0 l)
/-- How long a tag in < and > is, of what stands behind its !; 0: there is none. -/
def tBrac : List UInt8 → Nat
  | [] => 0
  | b :: m => if b.toNat = 60 ∧ 0 < tR uri 0 m ∧ (m.drop (tR uri 0 m)).headD 0 = 62 then tR uri 0 m + 3 else 0
/-- How long the tag is that a text begins with. -/
def tSize : List UInt8 → Nat
  | [] => 0
  | b :: l => if b.toNat = 33 then (if 0 < tBrac l then tBrac l else (tHand l).1 + (tHand l).2) else 0
/-- A suffix, with the bytes that it tells; so many digits are awaited, of a number so far. -/
def tDs : Nat → Nat → List UInt8 → List UInt8
  | _, _, [] => []
  | 0, _, b :: l => if b.toNat = 37 then tDs 2 0 l else b :: tDs 0 0 l
  | 1, v, b :: l => UInt8.ofNat (v * 16 + (cHexV b.toNat).toNat) :: tDs 0 0 l
  | n + 2, v, b :: l => tDs (n + 1) (v * 16 + (cHexV b.toNat).toNat) l
def tagL : List UInt8 := [116, 97, 103, 58, 121, 97, 109, 108, 46, 111, 114, 103, 44, 50, 48, 48, 50, 58]
/-- What a directive of a handle begins with. -/
def tKey (h : List UInt8) : List UInt8 := [37, 84, 65, 71, 32] ++ h ++ [32]
/-- The prefix of a handle, and whether it has one. -/
def tPre : List (List UInt8) → List UInt8 → List UInt8 × Bool
  | [], h => if h = [33] then ([33], true) else if h = [33, 33] then (tagL, true) else ([], false)
  | d :: r, h => if Lib.hasPrefix d (tKey h) = true then (d.drop (tKey h).length, true) else tPre r h
/-- A tag's full form, and the code. -/
def tFull (dirs : List (List UInt8)) (t : List UInt8) : List UInt8 × Int :=
  if t = [] ∨ tSize t ≠ t.length then ([], 8)
  else if t = [33] then ([33], 0)
  else if (t.drop 1).headD 0 = 60 then ((t.drop 2).take (t.length - 3), 0)
  else if (tPre dirs (t.take (tHand (t.drop 1)).1)).2 = true ∧ place (tDs 0 0 (t.drop (tHand (t.drop 1)).1)) = -1 then
    ((tPre dirs (t.take (tHand (t.drop 1)).1)).1 ++ tDs 0 0 (t.drop (tHand (t.drop 1)).1), 0) else ([], 8)

/-! ### What follows -/
theorem tR_nil (p : Int → Bool) (a : Nat) : tR p a [] = 0 := by cases a <;> rfl
theorem tR_zero (p : Int → Bool) (b : UInt8) (l : List UInt8) : tR p 0 (b :: l) = if p (b.toNat : Int) = true then (if b.toNat = 37 then tR p 2 l else tR p 0 l + 1) else 0 := rfl
theorem tR_one (p : Int → Bool) (b : UInt8) (l : List UInt8) : tR p 1 (b :: l) = if hx b = true then tR p 0 l + 3 else 0 := rfl
theorem tR_two (p : Int → Bool) (b : UInt8) (l : List UInt8) : tR p 2 (b :: l) = if hx b = true then tR p 1 l else 0 := rfl
theorem tDs_nil (a v : Nat) : tDs a v [] = [] := by cases a <;> rfl
theorem tDs_zero (v : Nat) (b : UInt8) (l : List UInt8) : tDs 0 v (b :: l) = if b.toNat = 37 then tDs 2 0 l else b :: tDs 0 0 l := rfl
theorem tDs_one (v : Nat) (b : UInt8) (l : List UInt8) : tDs 1 v (b :: l) = UInt8.ofNat (v * 16 + (cHexV b.toNat).toNat) :: tDs 0 0 l := rfl
theorem tDs_two (v : Nat) (b : UInt8) (l : List UInt8) : tDs 2 v (b :: l) = tDs 1 (v * 16 + (cHexV b.toNat).toNat) l := rfl
theorem pend0 : pend 0 = 0 := rfl
theorem pend1 : pend 1 = 2 := rfl
theorem pend2 : pend 2 = 1 := rfl
theorem three_of (a : Nat) (h : a ≤ 2) : a = 0 ∨ a = 1 ∨ a = 2 := by omega

theorem tR_le (p : Int → Bool) : ∀ (l : List UInt8) (a : Nat), a ≤ 2 → tR p a l ≤ l.length + pend a := by
  intro l
  induction l with
  | nil => intro a _; rw [tR_nil]; omega
  | cons b l ih =>
    intro a ha
    have h0 := ih 0 (by omega)
    have h1 := ih 1 (by omega)
    have h2 := ih 2 (by omega)
    rw [pend0] at h0
    rw [pend1] at h1
    rw [pend2] at h2
    rcases three_of a ha with rfl | rfl | rfl
    · rw [tR_zero, pend0, List.length_cons]
      split
      · split <;> omega
      · omega
    · rw [tR_one, pend1, List.length_cons]; split <;> omega
    · rw [tR_two, pend2, List.length_cons]; split <;> omega
theorem tR_le0 (p : Int → Bool) (l : List UInt8) : tR p 0 l ≤ l.length := tR_le p l 0 (by omega)

/-- Does a text end a run? -/
def stops (p : Int → Bool) (r : List UInt8) : Prop := ∀ b r', r = b :: r' → p (b.toNat : Int) = false
theorem tR_stop (p : Int → Bool) (r : List UInt8) (h : stops p r) : tR p 0 r = 0 := by
  cases r with
  | nil => rfl
  | cons b r => rw [tR_zero, if_neg (by simp [h b r rfl])]
/-- What a run has taken is a run as long, also ahead of what ends it. -/
theorem tR_take (p : Int → Bool) (r : List UInt8) (hr : stops p r) : ∀ (l : List UInt8) (a : Nat), a ≤ 2 → (a = 0 ∨ tR p a l ≠ 0) → tR p a (l.take (tR p a l - pend a) ++ r) = tR p a l := by
  intro l
  induction l with
  | nil =>
    intro a ha h
    rcases h with rfl | h
    · simpa [tR_nil] using tR_stop p r hr
    · exact absurd (tR_nil p a) h
  | cons b l ih =>
    intro a ha h
    have h0 := ih 0 (by omega) (.inl rfl)
    rw [pend0, Nat.sub_zero] at h0
    have h1 := ih 1 (by omega)
    have h2 := ih 2 (by omega)
    rw [pend1] at h1
    rw [pend2] at h2
    rcases three_of a ha with rfl | rfl | rfl
    · rw [pend0, Nat.sub_zero]
      by_cases hp : p (b.toNat : Int) = true
      · by_cases hb : b.toNat = 37
        · have e : tR p 0 (b :: l) = tR p 2 l := by rw [tR_zero, if_pos hp, if_pos hb]
          rw [e]
          by_cases hz : tR p 2 l = 0
          · rw [hz]; simpa using tR_stop p r hr
          · obtain ⟨m, hm⟩ : ∃ m, tR p 2 l = m + 1 := ⟨tR p 2 l - 1, by omega⟩
            have h2 := h2 (.inr hz)
            rw [hm, Nat.add_sub_cancel] at h2
            rw [hm, List.take_succ_cons, List.cons_append, tR_zero, if_pos hp, if_pos hb, h2]
        · have e : tR p 0 (b :: l) = tR p 0 l + 1 := by rw [tR_zero, if_pos hp, if_neg hb]
          rw [e, List.take_succ_cons, List.cons_append, tR_zero, if_pos hp, if_neg hb, h0]
      · have e : tR p 0 (b :: l) = 0 := by rw [tR_zero, if_neg hp]
        rw [e]; simpa using tR_stop p r hr
    · rcases h with h | h
      · omega
      · by_cases hb : hx b = true
        · have e : tR p 1 (b :: l) = tR p 0 l + 3 := by rw [tR_one, if_pos hb]
          rw [e, pend1, show tR p 0 l + 3 - 2 = tR p 0 l + 1 by omega, List.take_succ_cons, List.cons_append, tR_one, if_pos hb, h0]
        · exact absurd (by rw [tR_one, if_neg hb]) h
    · rcases h with h | h
      · omega
      · by_cases hb : hx b = true
        · have e : tR p 2 (b :: l) = tR p 1 l := by rw [tR_two, if_pos hb]
          rw [e] at h ⊢
          have h1 := h1 (.inr h)
          have h3 : 3 ≤ tR p 1 l := by
            cases l with
            | nil => exact absurd (tR_nil p 1) h
            | cons c l => rw [tR_one] at h ⊢; split at h <;> simp_all
          rw [pend2, show tR p 1 l - 1 = tR p 1 l - 2 + 1 by omega, List.take_succ_cons, List.cons_append, tR_two, if_pos hb, h1]
        · exact absurd (by rw [tR_two, if_neg hb]) h
theorem tR_take0 (p : Int → Bool) (l r : List UInt8) (hr : stops p r) : tR p 0 (l.take (tR p 0 l) ++ r) = tR p 0 l := by
  have := tR_take p r hr l 0 (by omega) (.inl rfl)
  rwa [pend0, Nat.sub_zero] at this

theorem hx_iff (b : UInt8) : hx b = true ↔ 0 ≤ cHexV b.toNat := by unfold hx; simp
theorem hx_range {b : UInt8} (h : hx b = true) : (48 ≤ b.toNat ∧ b.toNat ≤ 57) ∨ (97 ≤ b.toNat ∧ b.toNat ≤ 102) ∨ (65 ≤ b.toNat ∧ b.toNat ≤ 70) := by
  rw [hx_iff] at h
  unfold cHexV at h
  split at h
  · omega
  · split at h
    · omega
    · split at h <;> omega
theorem hexV_le (c : Nat) : -1 ≤ cHexV c ∧ cHexV c ≤ 15 := by
  unfold cHexV
  split
  · omega
  · split
    · omega
    · split <;> omega
theorem hexV_great (c : Nat) (h : 128 ≤ c) : cHexV c = -1 := by
  unfold cHexV
  rw [if_neg (by omega), if_neg (by omega), if_neg (by omega)]
theorem sfx_parts {c : Int} (h : sfx c = true) : uri c = true ∧ c ≠ 33 ∧ flow c = false := by
  unfold sfx at h
  simp at h
  exact ⟨h.1.1, h.1.2, h.2⟩
theorem uri_ascii {c : Int} (h : uri c = true) : 32 < c ∧ c < 128 := by
  unfold uri at h
  simp only [decide_eq_true_eq] at h
  unfold wordc at h
  simp only [decide_eq_true_eq] at h
  omega
theorem wordc_ascii {c : Int} (h : wordc c = true) : 32 < c ∧ c < 128 ∧ c ≠ 37 := by
  unfold wordc at h
  simp only [decide_eq_true_eq] at h
  omega
theorem sfx_ascii {c : Int} (h : sfx c = true) : 32 < c ∧ c < 128 := uri_ascii (sfx_parts h).1
/-- No ! is taken by a suffix. -/
theorem sfx_no33 : ∀ (l : List UInt8) (a : Nat), a ≤ 2 → ∀ b ∈ l.take (tR sfx a l - pend a), b ≠ 33 := by
  intro l
  induction l with
  | nil => intro a ha b hb; simp at hb
  | cons c l ih =>
    intro a ha b hb
    have h0 := ih 0 (by omega)
    have h1 := ih 1 (by omega)
    have h2 := ih 2 (by omega)
    rw [pend0, Nat.sub_zero] at h0
    rw [pend1] at h1
    rw [pend2] at h2
    have key : ∀ m, b ∈ (c :: l).take m → c ≠ 33 → (b ∈ l.take (m - 1) → b ≠ 33) → b ≠ 33 := by
      intro m hm hc hi
      cases m with
      | zero => simp at hm
      | succ m =>
        rw [List.take_succ_cons, List.mem_cons] at hm
        rcases hm with rfl | hm
        · exact hc
        · exact hi (by simpa using hm)
    rcases three_of a ha with rfl | rfl | rfl
    · rw [tR_zero, pend0, Nat.sub_zero] at hb
      by_cases hp : sfx (c.toNat : Int) = true
      · have hc : c ≠ 33 := by rintro rfl; exact absurd hp (by decide)
        rw [if_pos hp] at hb
        split at hb
        · exact key _ hb hc (h2 b)
        · exact key _ hb hc (h0 b)
      · rw [if_neg hp] at hb; simp at hb
    · rw [tR_one, pend1] at hb
      by_cases hp : hx c = true
      · have hc : c ≠ 33 := by rintro rfl; exact absurd hp (by decide)
        rw [if_pos hp] at hb
        exact key _ hb hc (by simpa using h0 b)
      · rw [if_neg hp] at hb; simp at hb
    · rw [tR_two, pend2] at hb
      by_cases hp : hx c = true
      · have hc : c ≠ 33 := by rintro rfl; exact absurd hp (by decide)
        rw [if_pos hp] at hb
        exact key _ hb hc (by rw [Nat.sub_sub]; exact h1 b)
      · rw [if_neg hp] at hb; simp at hb

theorem tHand_le (l : List UInt8) : 1 ≤ (tHand l).1 ∧ (tHand l).1 + (tHand l).2 ≤ l.length + 1 := by
  unfold tHand
  split
  · rename_i h
    have h1 := tR_le0 sfx (l.drop (tR wordc 0 l + 1))
    have h2 := tR_le0 wordc l
    rw [List.length_drop] at h1
    refine ⟨by omega, ?_⟩
    show tR wordc 0 l + 2 + tR sfx 0 (l.drop (tR wordc 0 l + 1)) ≤ _
    omega
  · have := tR_le0 sfx l
    refine ⟨Nat.le_refl _, ?_⟩
    show 1 + tR sfx 0 l ≤ _
    omega
theorem headD_pos {l : List UInt8} {k : Nat} {c : UInt8} (hc : c ≠ 0) (h : (l.drop k).headD 0 = c) : k < l.length ∧ l.drop k = c :: l.drop (k + 1) := by
  by_cases hk : k < l.length
  · refine ⟨hk, ?_⟩
    have e := List.drop_eq_getElem_cons hk
    rw [e] at h
    rw [e]
    have h2 : l[k] = c := h
    rw [h2]
  · rw [List.drop_eq_nil_of_le (by omega)] at h
    exact absurd h.symm hc
theorem tBrac_cons (b : UInt8) (m : List UInt8) : tBrac (b :: m) = if b.toNat = 60 ∧ 0 < tR uri 0 m ∧ (m.drop (tR uri 0 m)).headD 0 = 62 then tR uri 0 m + 3 else 0 := rfl
theorem tBrac_le (l : List UInt8) : tBrac l ≤ l.length + 1 := by
  cases l with
  | nil => simp [tBrac]
  | cons b m =>
    rw [tBrac_cons]
    split
    · rename_i h
      have := (headD_pos (by decide) h.2.2).1
      simp only [List.length_cons]; omega
    · omega
theorem tSize_cons (b : UInt8) (l : List UInt8) : tSize (b :: l) = if b.toNat = 33 then (if 0 < tBrac l then tBrac l else (tHand l).1 + (tHand l).2) else 0 := rfl
theorem tSize_le (l : List UInt8) : tSize l ≤ l.length := by
  cases l with
  | nil => exact Nat.le_refl _
  | cons b l =>
    rw [tSize_cons]
    have h1 := tBrac_le l
    have h2 := (tHand_le l).2
    rw [List.length_cons]
    split
    · split <;> omega
    · omega
theorem tHand_other (l : List UInt8) (h : (l.headD 0) = 60) : tHand l = (1, 0) := by
  cases l with
  | nil => simp at h
  | cons b m =>
    have hb : b = 60 := h
    subst hb
    have hw : tR wordc 0 (60 :: m) = 0 := by rw [tR_zero, if_neg (by decide)]
    have hs : tR sfx 0 (60 :: m) = 0 := by rw [tR_zero, if_neg (by decide)]
    unfold tHand
    rw [hw, hs, List.drop_zero, if_neg (by intro h; exact absurd h.1 (by simp))]
theorem tBrac_head {l : List UInt8} (h : 0 < tBrac l) : l.headD 0 = 60 := by
  cases l with
  | nil => simp [tBrac] at h
  | cons b m =>
    rw [tBrac_cons] at h
    split at h
    · rename_i h2
      exact UInt8.toNat_inj.1 h2.1
    · omega

/-- A tag that is whole, told by a handle: its suffix is one. -/
theorem whole_suffix {t : List UInt8} (hn : t ≠ []) (hs : tSize t = t.length) (h60 : (t.drop 1).headD 0 ≠ 60) : (tHand (t.drop 1)).1 ≤ t.length ∧ (t.drop (tHand (t.drop 1)).1).length = (tHand (t.drop 1)).2 ∧ tR sfx 0 (t.drop (tHand (t.drop 1)).1) = (t.drop (tHand (t.drop 1)).1).length := by
  cases t with
  | nil => exact absurd rfl hn
  | cons b l =>
    rw [List.drop_succ_cons, List.drop_zero] at h60 ⊢
    rw [tSize_cons] at hs
    rw [List.length_cons] at hs
    have hb : ¬ 0 < tBrac l := fun h => h60 (tBrac_head h)
    rw [if_neg hb] at hs
    split at hs
    · have e : (tHand l).2 = tR sfx 0 ((b :: l).drop (tHand l).1) := by
        unfold tHand
        split
        · rfl
        · rfl
      have h1 := (tHand_le l).1
      refine ⟨by rw [List.length_cons]; omega, ?_, ?_⟩
      · rw [List.length_drop, List.length_cons]; omega
      · rw [← e, List.length_drop, List.length_cons]; omega
    · omega
/-- A tag that is whole, in < and >. -/
theorem whole_brac {t : List UInt8} (hn : t ≠ []) (hs : tSize t = t.length) (h60 : (t.drop 1).headD 0 = 60) : 4 ≤ t.length := by
  cases t with
  | nil => exact absurd rfl hn
  | cons b l =>
    rw [List.drop_succ_cons, List.drop_zero] at h60
    rw [tSize_cons, tHand_other l h60, List.length_cons] at hs
    cases l with
    | nil => simp at h60
    | cons c m =>
      rw [tBrac_cons] at hs
      rw [List.length_cons] at hs ⊢
      rw [List.length_cons]
      by_cases hb : b.toNat = 33
      · rw [if_pos hb] at hs
        by_cases hc : c.toNat = 60 ∧ 0 < tR uri 0 m ∧ (m.drop (tR uri 0 m)).headD 0 = 62
        · rw [if_pos hc, if_pos (by omega)] at hs
          omega
        · rw [if_neg hc, if_neg (by omega)] at hs
          have hs2 : 1 + 0 = m.length + 1 + 1 := hs
          omega
      · rw [if_neg hb] at hs; omega
theorem whole_first {t : List UInt8} (hn : t ≠ []) (hs : tSize t = t.length) : ∃ l, t = 33 :: l := by
  cases t with
  | nil => exact absurd rfl hn
  | cons b l =>
    rw [tSize_cons, List.length_cons] at hs
    split at hs
    · rename_i h
      exact ⟨l, by rw [show b = 33 from UInt8.toNat_inj.1 h]⟩
    · omega

/-- What a tag's size tells is a tag, whole, also ahead of what is no part of one. -/
theorem tSize_take (l r : List UInt8) (hr : r = [] ∨ ∃ r', r = 32 :: r' ∧ ∀ b ∈ r', b ≠ 33) : tSize ((33 :: l).take (tSize (33 :: l)) ++ r) = tSize (33 :: l) := by
  have hst : ∀ p : Int → Bool, p 32 = false → stops p r := by
    intro p hp b r' e
    rcases hr with rfl | ⟨r2, rfl, _⟩
    · exact absurd e (by simp)
    · obtain ⟨rfl, _⟩ := List.cons.inj e
      exact hp
  have hr33 : ∀ b ∈ r, b ≠ 33 := by
    rcases hr with rfl | ⟨r2, rfl, h⟩
    · intro b hb; simp at hb
    · intro b hb
      rcases List.mem_cons.1 hb with rfl | hb
      · decide
      · exact h b hb
  have hr60 : tBrac r = 0 := by
    rcases hr with rfl | ⟨r2, rfl, h⟩
    · rfl
    · rw [tBrac_cons, if_neg (by intro h; exact absurd h.1 (by decide))]
  have e33 : (33 : UInt8).toNat = 33 := rfl
  rw [tSize_cons, if_pos e33]
  by_cases hb : 0 < tBrac l
  · rw [if_pos hb]
    cases l with
    | nil => simp [tBrac] at hb
    | cons b m =>
      rw [tBrac_cons] at hb ⊢
      split at hb
      · rename_i h
        rw [if_pos h]
        obtain ⟨k, hk⟩ : ∃ k, k = tR uri 0 m := ⟨_, rfl⟩
        obtain ⟨hk2, hd⟩ := headD_pos (by decide) h.2.2
        rw [← hk] at h hk2 hd ⊢
        have e : (33 :: b :: m).take (k + 3) = 33 :: b :: (m.take k ++ [62]) := by
          rw [List.take_succ_cons, List.take_succ_cons]
          congr 2
          rw [List.take_add, hd]
          rfl
        rw [e]
        have e2 : (33 :: b :: (m.take k ++ [62])) ++ r = 33 :: b :: (m.take k ++ 62 :: r) := by simp
        rw [e2, tSize_cons, if_pos e33, tBrac_cons]
        have e3 : tR uri 0 (m.take k ++ 62 :: r) = k := by
          have := tR_take0 uri m (62 :: r) (by intro b r' e; obtain ⟨rfl, _⟩ := List.cons.inj e; rfl)
          rwa [← hk] at this
        have e4 : (m.take k ++ 62 :: r).drop k = 62 :: r := by
          rw [List.drop_append_of_le_length (by rw [List.length_take]; omega), List.drop_of_length_le (by rw [List.length_take]; omega)]
          rfl
        rw [e3, e4]
        have e6 : (if b.toNat = 60 ∧ 0 < k ∧ (62 :: r).headD 0 = 62 then k + 3 else 0) = k + 3 := if_pos ⟨h.1, h.2.1, rfl⟩
        rw [e6, if_pos (by omega)]
      · omega
  · rw [if_neg hb]
    by_cases h60 : l.headD 0 = 60
    · rw [tHand_other l h60]
      show tSize ((33 :: l).take 1 ++ r) = 1
      have e : (33 :: l).take 1 ++ r = 33 :: r := by simp
      rw [e, tSize_cons, if_pos e33, hr60, if_neg (by omega)]
      unfold tHand
      have hw : tR wordc 0 r = 0 := tR_stop _ _ (hst _ (by decide))
      have hneg : ¬ (r.headD 0 = 33 ∧ 0 < tR sfx 0 (r.drop (0 + 1))) := by
        intro h
        cases r with
        | nil => simp at h
        | cons b r => exact hr33 b (List.mem_cons_self) h.1
      rw [hw, List.drop_zero, if_neg hneg, tR_stop _ _ (hst _ (by decide))]
      rfl
    · have hs32 : stops sfx r := hst _ (by decide)
      obtain ⟨n, hn⟩ : ∃ n, n = (tHand l).1 + (tHand l).2 := ⟨_, rfl⟩
      have hn1 := (tHand_le l)
      rw [← hn]
      have e : (33 :: l).take n ++ r = 33 :: (l.take (n - 1) ++ r) := by
        obtain ⟨m, rfl⟩ : ∃ m, n = m + 1 := ⟨n - 1, by omega⟩
        rw [List.take_succ_cons]
        rfl
      rw [e, tSize_cons, if_pos e33]
      have hb2 : ¬ 0 < tBrac (l.take (n - 1) ++ r) := by
        intro h
        have h2 := tBrac_head h
        cases hl : l.take (n - 1) with
        | nil => rw [hl, List.nil_append] at h; omega
        | cons b m =>
          rw [hl] at h2
          cases l with
          | nil => simp at hl
          | cons c l2 =>
            obtain ⟨m2, hm2⟩ : ∃ m2, n - 1 = m2 + 1 := ⟨n - 2, by
              cases hh : n - 1 with
              | zero => rw [hh] at hl; simp at hl
              | succ m2 => omega⟩
            rw [hm2, List.take_succ_cons] at hl
            obtain ⟨rfl, _⟩ := List.cons.inj hl
            exact h60 h2
      rw [if_neg hb2]
      suffices hh : tHand (l.take (n - 1) ++ r) = tHand l by rw [hh, hn]
      by_cases hc : (l.drop (tR wordc 0 l)).headD 0 = 33 ∧ 0 < tR sfx 0 (l.drop (tR wordc 0 l + 1))
      · obtain ⟨k, hk⟩ : ∃ k, k = tR wordc 0 l := ⟨_, rfl⟩
        have eh : tHand l = (tR wordc 0 l + 2, tR sfx 0 (l.drop (tR wordc 0 l + 1))) := by unfold tHand; rw [if_pos hc]
        rw [eh]
        rw [eh] at hn
        rw [← hk] at hc eh hn ⊢
        obtain ⟨m, hm⟩ : ∃ m, m = tR sfx 0 (l.drop (k + 1)) := ⟨_, rfl⟩
        rw [← hm] at hc eh hn ⊢
        obtain ⟨hk2, hd⟩ := headD_pos (by decide) hc.1
        have hn2 : n - 1 = k + (m + 1) := by rw [hn]; show k + 2 + m - 1 = _; omega
        have e2 : l.take (n - 1) ++ r = l.take k ++ 33 :: ((l.drop (k + 1)).take m ++ r) := by
          rw [hn2, List.take_add, hd, List.take_succ_cons, List.append_assoc, List.cons_append]
        rw [e2]
        have e3 : tR wordc 0 (l.take k ++ 33 :: ((l.drop (k + 1)).take m ++ r)) = k := by
          have := tR_take0 wordc l (33 :: ((l.drop (k + 1)).take m ++ r)) (by intro b r' e; obtain ⟨rfl, _⟩ := List.cons.inj e; rfl)
          rwa [← hk] at this
        have e4 : (l.take k ++ 33 :: ((l.drop (k + 1)).take m ++ r)).drop k = 33 :: ((l.drop (k + 1)).take m ++ r) := by
          rw [List.drop_append_of_le_length (by rw [List.length_take]; omega), List.drop_of_length_le (by rw [List.length_take]; omega)]
          rfl
        have e5 : (l.take k ++ 33 :: ((l.drop (k + 1)).take m ++ r)).drop (k + 1) = (l.drop (k + 1)).take m ++ r := by
          rw [← List.drop_drop, e4]; rfl
        have e6 : tR sfx 0 ((l.drop (k + 1)).take m ++ r) = m := by
          have := tR_take0 sfx (l.drop (k + 1)) r hs32
          rwa [← hm] at this
        unfold tHand
        rw [e3, e4, e5, e6, if_pos ⟨rfl, hc.2⟩]
      · have eh : tHand l = (1, tR sfx 0 l) := by unfold tHand; rw [if_neg hc]
        rw [eh]
        rw [eh] at hn
        have hn2 : n - 1 = tR sfx 0 l := by rw [hn]; show 1 + tR sfx 0 l - 1 = _; omega
        rw [hn2]
        have h33 : ∀ b ∈ l.take (tR sfx 0 l) ++ r, b ≠ 33 := by
          intro b hb
          rcases List.mem_append.1 hb with hb | hb
          · exact sfx_no33 l 0 (by omega) b (by rw [pend0, Nat.sub_zero]; exact hb)
          · exact hr33 b hb
        have hneg : ∀ k m, ¬ (((l.take (tR sfx 0 l) ++ r).drop k).headD 0 = 33 ∧ 0 < m) := by
          intro k m h
          obtain ⟨_, hd⟩ := headD_pos (by decide) h.1
          have hmem : (33 : UInt8) ∈ (l.take (tR sfx 0 l) ++ r).drop k := by rw [hd]; exact List.mem_cons_self
          exact h33 33 (List.mem_of_mem_drop hmem) rfl
        unfold tHand
        rw [if_neg (hneg _ _), tR_take0 sfx l r hs32]

end Go.Proofs.Ytjpfkddkghfdiaa.U
