/- How a quoted scalar is read, taken apart place by place: plain facts (nothing of the program). Conditions: none beside those that each theorem writes out. -/
import Derived.Test.YthleebnfbdcobaaDoorQuotG
namespace Go.Proofs.YthleebnfbdcobaaDoor
open Go.RowKit

section
variable {s : ByteArray} {q : Nat} {n : Int} {T : List UInt8} {E : Nat} {O : Bool} {C : Int} {p : Nat} {R : List (List UInt8 × Bool)} {t w : List UInt8}
theorem white_no {b : Nat} (h : b ≠ 32 ∧ b ≠ 9) : U.white (b : Int) = false := by
  cases hw : U.white (b : Int) with
  | false => rfl
  | true => have := white_not hw; omega
theorem QZ.end_inv (h : QZ s q n T E O C p false R t w) (hp : s.size ≤ p) : T = [] ∧ E = s.size ∧ O = false ∧ C = 5 := by
  cases h
  all_goals first
    | exact ⟨by assumption, by assumption, by assumption, by assumption⟩
    | (exfalso; omega)
theorem QZ.lf_inv (h : QZ s q n T E O C p false R t w) (hq : q = 39 ∨ q = 34) (hp : p < s.size) (hb : byt s p = 10) : QZ s q n T E O C (p + 1) true (R ++ [(t, false)]) [] [] := by
  have hw := white_no (b := byt s p) (by omega)
  cases h
  all_goals first
    | assumption
    | (exfalso; omega)
    | (rename_i h2 _; rw [hw] at h2; cases h2)
theorem QZ.twice_inv (h : QZ s 39 n T E O C p false R t w) (hb : byt s p = 39) (hp2 : p + 1 < s.size) (hb2 : byt s (p + 1) = 39) : QZ s 39 n T E O C (p + 2) false R (t ++ w ++ [39]) [] := by
  have hw := white_no (b := byt s p) (by omega)
  cases h
  all_goals first
    | assumption
    | (exfalso; omega)
    | (rename_i h2 _; rw [hw] at h2; cases h2)
theorem QZ.done_inv (h : QZ s q n T E O C p false R t w) (hq : q = 39 ∨ q = 34) (hp : p < s.size) (hb : byt s p = q) (hn : ¬ (q = 39 ∧ p + 1 < s.size ∧ byt s (p + 1) = 39)) : T = qT (R ++ [(t ++ w, false)]) ∧ E = p + 1 ∧ O = R.isEmpty ∧ C = 0 := by
  have hw := white_no (b := byt s p) (by omega)
  cases h
  all_goals first
    | exact ⟨by assumption, by assumption, by assumption, by assumption⟩
    | (exfalso; omega)
    | (rename_i h2 _; rw [hw] at h2; cases h2)
theorem QZ.goes_inv (h : QZ s 34 n T E O C p false R t w) (hb : byt s p = 92) (hp2 : p + 1 < s.size) (hb2 : byt s (p + 1) = 10) : QZ s 34 n T E O C (p + 2) true (R ++ [(t ++ w, true)]) [] [] := by
  have hw := white_no (b := byt s p) (by omega)
  cases h
  all_goals first
    | assumption
    | (exfalso; omega)
    | (rename_i h2 _; rw [hw] at h2; cases h2)
theorem QZ.esc_inv (h : QZ s 34 n T E O C p false R t w) (hp : p < s.size) (hb : byt s p = 92) (hn : ¬ (p + 1 < s.size ∧ byt s (p + 1) = 10)) {c k : Nat} (he : U.esc (s.data.toList.drop p) = some (c, k)) : QZ s 34 n T E O C (p + k) false R (t ++ w ++ Lib.encodeRune (c : Int)) [] := by
  have hw := white_no (b := byt s p) (by omega)
  cases h
  case esc c2 k2 _ _ _ _ h5 h6 =>
    rw [he] at h5
    injection h5 with h5
    injection h5 with h7 h8
    subst h7 h8
    exact h6
  all_goals first
    | (exfalso; omega)
    | (rename_i h2 _; rw [hw] at h2; cases h2)
    | (exfalso; simp_all)
theorem QZ.bad_inv (h : QZ s 34 n T E O C p false R t w) (hp : p < s.size) (hb : byt s p = 92) (hn : ¬ (p + 1 < s.size ∧ byt s (p + 1) = 10)) (he : U.esc (s.data.toList.drop p) = none) : T = [] ∧ E = p ∧ O = false ∧ C = 5 := by
  have hw := white_no (b := byt s p) (by omega)
  cases h
  all_goals first
    | exact ⟨by assumption, by assumption, by assumption, by assumption⟩
    | (exfalso; omega)
    | (rename_i h2 _; rw [hw] at h2; cases h2)
    | (rename_i h2 _; rw [he] at h2; cases h2)
theorem QZ.white_inv (h : QZ s q n T E O C p false R t w) (hq : q = 39 ∨ q = 34) (hp : p < s.size) (hw : U.white (byt s p : Int) = true) : QZ s q n T E O C (p + 1) false R t (w ++ [bq s p]) := by
  have hb := white_not hw
  cases h
  all_goals first
    | assumption
    | (exfalso; omega)
    | (rename_i h2 _ _; rw [hw] at h2; cases h2)
theorem QZ.lit_inv (h : QZ s q n T E O C p false R t w) (hp : p < s.size) (h1 : byt s p ≠ q) (h2 : byt s p ≠ 10) (hw : U.white (byt s p : Int) = false) (h3 : ¬ (q = 34 ∧ byt s p = 92)) : QZ s q n T E O C (p + 1) false R (t ++ w ++ [bq s p]) [] := by
  cases h
  all_goals first
    | assumption
    | (exfalso; omega)
    | (rename_i h2 _; rw [hw] at h2; cases h2)
/-- Over the bytes of a code point that is no ASCII. -/
theorem QZ.highs_inv (hq : q = 39 ∨ q = 34) {k : Nat} {out : List UInt8} : ∀ (d p : Nat) (t w : List UInt8), QZ s q n T E O C p false R t w → RowS s k p out t w → p + d + 1 ≤ s.size → (∀ j, j < d + 1 → 128 ≤ byt s (p + j)) → ∃ t', QZ s q n T E O C (p + (d + 1)) false R t' [] ∧ RowS s k (p + (d + 1)) out t' []
  | 0, p, t, w, h, hr, hs, hb => by
    have h0 := hb 0 (by omega)
    rw [Nat.add_zero] at h0
    exact ⟨_, h.lit_inv (by omega) (by omega) (by omega) (white_high h0) (by omega), hr.lit (by omega) (white_high h0)⟩
  | d + 1, p, t, w, h, hr, hs, hb => by
    have h0 := hb 0 (by omega)
    rw [Nat.add_zero] at h0
    obtain ⟨t', h1, h2⟩ := QZ.highs_inv hq d (p + 1) _ _ (h.lit_inv (by omega) (by omega) (by omega) (white_high h0) (by omega)) (hr.lit (by omega) (white_high h0)) (by omega) (fun j hj => by
      have := hb (j + 1) (by omega)
      rw [show p + 1 + j = p + (j + 1) by omega]
      exact this)
    rw [show p + 1 + (d + 1) = p + (d + 1 + 1) by omega] at h1 h2
    exact ⟨t', h1, h2⟩
end
/-! ### The bytes of an escape are ASCII -/
theorem hexs_ascii : ∀ (l : List UInt8) (acc v : Nat), U.hexs acc l = some v → ∀ b ∈ l, b.toNat < 128
  | [], _, _, _, b, hb => by simp at hb
  | c :: l, acc, v, h, b, hb => by
    cases hc : U.hexv c.toNat with
    | none => rw [U.hexs_none l acc hc] at h; cases h
    | some d =>
      rw [U.hexs_some l acc hc] at h
      rcases List.mem_cons.1 hb with e | e
      · subst e
        unfold U.hexv at hc
        split at hc
        · omega
        · split at hc
          · omega
          · split at hc
            · omega
            · cases hc
      · exact hexs_ascii l _ v h b e
theorem nm_ascii {c v : Nat} (h : U.nm c = some v) : c < 128 := by
  have hm := U.look_mem _ _ _ h
  exact (show ∀ p ∈ U.nmT, p.1 < 128 by decide) _ hm
theorem num_ascii {n v : Nat} {l : List UInt8} (h : U.num n l = some v) : ∀ b ∈ l.take n, b.toNat < 128 := by
  unfold U.num at h
  split at h
  · cases hh : U.hexs 0 (l.take n) with
    | none => rw [hh] at h; cases h
    | some u => exact hexs_ascii _ _ _ hh
  · cases h
theorem esc_ascii {l : List UInt8} {v k : Nat} (h : U.esc l = some (v, k)) : ∀ b ∈ l.take k, b.toNat < 128 := by
  cases l with
  | nil => cases h
  | cons c l =>
    rw [U.esc_cons] at h
    split at h
    · rename_i h92
      cases l with
      | nil => cases h
      | cons d l =>
        rw [U.fol_cons] at h
        by_cases hd : U.digs d.toNat = 0
        · rw [if_pos hd] at h
          cases hn : U.nm d.toNat with
          | none => rw [hn] at h; cases h
          | some u =>
            rw [hn] at h
            have hk : k = 2 := by simp at h; omega
            subst hk
            have := nm_ascii hn
            intro b hb
            simp at hb
            rcases hb with rfl | rfl <;> omega
        · rw [if_neg hd] at h
          cases hn : U.num (U.digs d.toNat) l with
          | none => rw [hn] at h; cases h
          | some u =>
            rw [hn] at h
            have hk : k = U.digs d.toNat + 2 := by simp at h; omega
            subst hk
            have h3 := num_ascii hn
            have hdd : d.toNat < 128 := by
              unfold U.digs at hd
              split at hd
              · omega
              · split at hd
                · omega
                · split at hd
                  · omega
                  · exact absurd rfl hd
            intro b hb
            rw [List.take_succ_cons, List.take_succ_cons] at hb
            rcases List.mem_cons.1 hb with e | hb
            · subst e; omega
            rcases List.mem_cons.1 hb with e | hb
            · subst e; omega
            exact h3 b hb
    · cases h
theorem esc_bytes {s : ByteArray} {p v k : Nat} (h : U.esc (s.data.toList.drop p) = some (v, k)) : ∀ j, j < p + k → p ≤ j → byt s j < 128 := by
  intro j hj hp
  have hl := (U.esc_len h).2.2.1
  rw [List.length_drop, ← Lib.size_eq] at hl
  obtain ⟨b, hd, hb⟩ := drop_byte s j (by omega)
  rw [← hb]
  refine esc_ascii h b ?_
  rw [List.mem_take_iff_getElem]
  refine ⟨j - p, by rw [List.length_drop, ← Lib.size_eq]; omega, ?_⟩
  have h2 : (s.data.toList.drop j)[0]? = some b := by rw [hd]; rfl
  rw [List.getElem?_drop, Nat.add_zero] at h2
  rw [List.getElem_drop]
  have h3 : (s.data.toList)[p + (j - p)]? = some b := by rw [show p + (j - p) = j by omega]; exact h2
  exact (List.getElem?_eq_some_iff.1 h3).2
end Go.Proofs.YthleebnfbdcobaaDoor
