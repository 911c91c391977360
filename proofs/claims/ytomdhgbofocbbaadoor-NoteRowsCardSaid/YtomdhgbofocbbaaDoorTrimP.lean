/- White cut off a piece of a text, at its beginning and at its end; blanks and line feeds cut off ahead: plain facts (nothing of the program). Conditions: none beside those that each theorem writes out. -/
import Derived.Test.YtomdhgbofocbbaaDoorPlaiP
import Derived.Test.YtomdhgbofocbbaaDoorLin
import Derived.Lib.SlTrimSet
namespace Go.Proofs.YtomdhgbofocbbaaDoor
open Go.RowKit

theorem white_in (b : UInt8) : ([32, 9] : List UInt8).contains b = U.white (b.toNat : Int) := by
  have H : ∀ k : Fin 256, ([32, 9] : List UInt8).contains k.val.toUInt8 = U.white (k.val.toUInt8.toNat : Int) := by decide +kernel
  have h := H ⟨b.toNat, b.toNat_lt⟩
  have e : b.toNat.toUInt8 = b := UInt8.toNat_inj.1 (by simp)
  rw [← e]
  exact h
theorem piece_get (s : ByteArray) (a b j : Nat) (x : UInt8) (h : (pieceL s a b)[j]? = some x) : j < b - a ∧ byt s (a + j) = x.toNat := by
  unfold pieceL at h
  rw [List.getElem?_take] at h
  split at h
  · rename_i hj
    rw [List.getElem?_drop] at h
    refine ⟨hj, ?_⟩
    rw [byt_list]
    simp [List.getD, h]
  · cases h
/-- A row without the White ahead. -/
theorem trim_piece {s : ByteArray} {a b f : Nat} (hb : b ≤ s.size) (hF : FirN s a b f) : Lib.trimLeftS (pieceL s a b) [32, 9] = pieceL s f b := by
  obtain ⟨h1, h2, h3, h4⟩ := hF
  rw [Lib.trimLeftS_drop (pieceL s a b) [32, 9] (f - a) (by rw [piece_len hb]; omega) (fun j x hj hx => ?_) (fun x hx => ?_)]
  · unfold pieceL
    rw [List.drop_take, List.drop_drop, show a + (f - a) = f by omega, show b - a - (f - a) = b - f by omega]
  · obtain ⟨_, h5⟩ := piece_get s a b j x hx
    rw [white_in, ← h5]
    exact h3 (a + j) (by omega) (by omega)
  · obtain ⟨h6, h5⟩ := piece_get s a b (f - a) x hx
    rw [white_in, ← h5, show a + (f - a) = f by omega]
    rcases h4 with h4 | h4
    · omega
    · exact h4

theorem trim_tail {s : ByteArray} {a b e : Nat} (hb : b ≤ s.size) (hE : BakN s a b e) : Lib.trimRightS (pieceL s a b) [32, 9] = pieceL s a e := by
  obtain ⟨h1, h2, h3, h4⟩ := hE
  rw [Lib.trimRightS_take (pieceL s a b) [32, 9] (e - a) (by rw [piece_len hb]; omega) (fun j x hj hx => ?_) (fun x h0 hx => ?_)]
  · unfold pieceL
    rw [List.take_take, Nat.min_eq_left (by omega)]
  · obtain ⟨h6, h5⟩ := piece_get s a b j x hx
    rw [white_in, ← h5]
    exact h3 (a + j) (by omega) (by omega)
  · obtain ⟨h6, h5⟩ := piece_get s a b (e - a - 1) x hx
    rw [white_in, ← h5, show a + (e - a - 1) = e - 1 by omega]
    exact h4.resolve_left (by omega)
theorem fill_in (b : UInt8) : ([32, 10] : List UInt8).contains b = decide (b.toNat = 32 ∨ b.toNat = 10) := by
  have H : ∀ k : Fin 256, ([32, 10] : List UInt8).contains k.val.toUInt8 = decide (k.val.toUInt8.toNat = 32 ∨ k.val.toUInt8.toNat = 10) := by decide +kernel
  have h := H ⟨b.toNat, b.toNat_lt⟩
  have e : b.toNat.toUInt8 = b := UInt8.toNat_inj.1 (by simp)
  rw [← e]
  exact h
/-- Blanks and line feeds cut off ahead. -/
theorem fill_piece {s : ByteArray} {a q : Nat} (h1 : a ≤ q) (h2 : q ≤ s.size) (h3 : ∀ j, j < q → a ≤ j → byt s j = 32 ∨ byt s j = 10) (h4 : q = s.size ∨ (byt s q ≠ 32 ∧ byt s q ≠ 10)) : Lib.trimLeftS (pieceL s a s.size) [32, 10] = pieceL s q s.size := by
  rw [Lib.trimLeftS_drop (pieceL s a s.size) [32, 10] (q - a) (by rw [piece_len (Nat.le_refl _)]; omega) (fun j x hj hx => ?_) (fun x hx => ?_)]
  · unfold pieceL
    rw [List.drop_take, List.drop_drop, show a + (q - a) = q by omega, show s.size - a - (q - a) = s.size - q by omega]
  · obtain ⟨_, h5⟩ := piece_get s a s.size j x hx
    rw [fill_in, ← h5, decide_eq_true_eq]
    exact h3 (a + j) (by omega) (by omega)
  · obtain ⟨h6, h5⟩ := piece_get s a s.size (q - a) x hx
    rw [fill_in, ← h5, show a + (q - a) = q by omega, decide_eq_false_iff_not]
    rcases h4 with h4 | h4
    · omega
    · rintro (h | h)
      · exact h4.1 h
      · exact h4.2 h
/-- How many line feeds stand between two places. -/
theorem lfs_count {s : ByteArray} {a : Nat} : ∀ E, a ≤ E → E ≤ s.size → List.count (10 : UInt8) (pieceL s a E) = lfs s E - lfs s a
  | 0, h1, h2 => by
    obtain rfl : a = 0 := by omega
    rfl
  | E + 1, h1, h2 => by
    by_cases e : a = E + 1
    · subst e
      unfold pieceL
      rw [Nat.sub_self, List.take_zero, Nat.sub_self]
      rfl
    · have ih := lfs_count (s := s) (a := a) E (by omega) (by omega)
      have hm := lfs_mono (s := s) (a := a) E (by omega)
      have hg : (s.data.toList.drop a)[E - a]? = some (s.data[E]!) := by
        rw [List.getElem?_drop, show a + (E - a) = E by omega]
        have hE : E < s.data.toList.length := by rw [← Lib.size_eq]; omega
        rw [List.getElem?_eq_getElem hE, getElem!_pos s.data E (by simpa using hE)]
        rfl
      have e2 : pieceL s a (E + 1) = pieceL s a E ++ [s.data[E]!] := by
        unfold pieceL
        rw [show E + 1 - a = (E - a) + 1 by omega, List.take_add_one, hg]
        rfl
      rw [e2, List.count_append, ih, lfs]
      have hb := byt_bang s E (by omega)
      by_cases h10 : byt s E = 10
      · rw [if_pos h10]
        have : s.data[E]! = 10 := UInt8.toNat_inj.1 (by rw [hb, h10]; rfl)
        rw [this]
        simp
        omega
      · rw [if_neg h10]
        have : s.data[E]! ≠ 10 := fun e => h10 (by rw [← hb, e]; rfl)
        simp [this]
end Go.Proofs.YtomdhgbofocbbaaDoor
