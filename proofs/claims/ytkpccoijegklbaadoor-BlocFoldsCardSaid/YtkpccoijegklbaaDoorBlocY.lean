/- Block scalars put together: headers by their bytes, literal and folded texts: plain facts (nothing of the program). Conditions: none beside those that each theorem writes out. -/
import Derived.Test.YtkpccoijegklbaaDoorBlocX
namespace Go.Proofs.YtkpccoijegklbaaDoor
open Go.RowKit

theorem BakN.app {S Z : ByteArray} {a p e : Nat} (h : BakN S a p e) (hp : p ≤ S.size) : BakN (S ++ Z) a p e := by
  obtain ⟨h1, h2, h3, h4⟩ := h
  refine ⟨h1, h2, fun j k1 k2 => by rw [byt_app (by omega)]; exact h3 j k1 k2, ?_⟩
  by_cases h0 : e = a
  · exact .inl h0
  · rcases h4 with k | k
    · exact .inl k
    · exact .inr (by rw [byt_app (by omega)]; exact k)
theorem piece_app (S Z : ByteArray) {p e : Nat} (he : e ≤ S.size) : pieceL (S ++ Z) p e = pieceL S p e := by
  by_cases hpe : p ≤ e
  · unfold pieceL
    rw [ByteArray.data_append, Array.toList_append, List.drop_append_of_le_length (by rw [← Lib.size_eq]; omega), List.take_append_of_le_length (by rw [List.length_drop, ← Lib.size_eq]; omega)]
  · unfold pieceL
    rw [show e - p = 0 by omega]
    rfl
/-- What a header's bytes say. -/
def hdrOk (H : ByteArray) (t q p d c e : Nat) (hh : Bool) (note : List UInt8) : Prop :=
  1 < H.size ∧ (byt H 0 = 124 ∨ byt H 0 = 62) ∧ H.size = t + 1 ∧ RowE H 0 t ∧ (hStep H (1, 0, 0)).1 < H.size ∧ hdr H 0 = (p, d, c) ∧ FirN H p t q ∧ ((q = t ∧ hh = false ∧ note = []) ∨ (q < t ∧ byt H q = 35 ∧ p < q ∧ hh = true ∧ BakN H (q + 1) t e ∧ e ≤ t ∧ note = pieceL H (q + 1) e))
instance (H : ByteArray) (t q p d c e : Nat) (hh : Bool) (note : List UInt8) : Decidable (hdrOk H t q p d c e hh note) := by unfold hdrOk; infer_instance
theorem KB0.mk {H : ByteArray} {t q p d c e : Nat} {hh : Bool} {note : List UInt8} (h : hdrOk H t q p d c e hh note) (n : Int) : KB0 (decide (byt H 0 = 62)) n (if byt H 0 = 62 then 5 else 4) hh note d c H := by
  obtain ⟨h1, h2, h3, h4, h5, h6, h7, h8⟩ := h
  refine KB0.of H n _ hh note t q p d c e _ h1 h2 h3 h4 (.inr ⟨_, rfl, h5, h6⟩) h7 ?_ rfl rfl
  rcases h8 with k | ⟨k1, k2, k3, k4, k5, k6, k7⟩
  · exact .inl k
  · exact .inr ⟨k1, k2, k3, k4, k5, k7, fun Z => ⟨k5.app (by omega), by rw [piece_app H Z (by omega)]; exact k7.symm⟩⟩

/-! ### Literal texts -/
/-- The text so far is T0, but for the m line feeds behind. -/
def KJ (n st : Int) (hh : Bool) (note : List UInt8) (d c w : Nat) (S : ByteArray) (T0 : List UInt8) (m : Nat) : Prop :=
  ∃ R0 : List (List UInt8), R0 ≠ [] ∧ U.joinT R0 = T0 ∧ 1 ≤ m ∧ KB false n st hh note d c w S (R0 ++ U.blanksL (m - 1)) R0.length m false
theorem feeds_add (a b : Nat) : U.feeds (a + b) = U.feeds a ++ U.feeds b := by unfold U.feeds; rw [List.replicate_append_replicate]
theorem KJ.first {n st : Int} {hh : Bool} {note : List UInt8} {c : Nat} {S : ByteArray} (h : KB0 false n st hh note 0 c S) (x : Nat) (wd : List UInt8) (hx : n < (x : Int)) (hx0 : 0 < x) (hne : wd ≠ []) (h10 : ∀ b ∈ wd, b ≠ 10) (hw : U.white ((wd.headD 0).toNat : Int) = false) : KJ n st hh note 0 c x (S ++ mkB (blanksB x ++ wd ++ [10])) wd 1 := by
  have := KB0.first h x wd hx hx0 hne h10 hw
  rw [Nat.add_zero] at this
  refine ⟨[wd], by simp, by simp [U.joinT, U.joinGo], Nat.le_refl _, ?_⟩
  exact this
theorem KJ.digit {n st : Int} {hh : Bool} {note : List UInt8} {d c : Nat} {S : ByteArray} (h : KB0 false n st hh note d c S) (hd : d ≠ 0) (w : Nat) (hw : w = d + (max n 0).toNat) (hn : (max n 0).toNat ≤ S.size) (k : Nat) (wd : List UInt8) (hne : wd ≠ []) (h10 : ∀ b ∈ wd, b ≠ 10) (hwh : U.white ((wd.headD 0).toNat : Int) = false) : KJ n st hh note d c w (S ++ mkB (blanksB (w + k) ++ wd ++ [10])) (blanksB k ++ wd) 1 := by
  have := (KB0.digit h hd w hw hn).text k wd (by omega) hne h10 hwh
  refine ⟨[blanksB k ++ wd], by simp, by simp [U.joinT, U.joinGo], Nat.le_refl _, ?_⟩
  exact this
theorem KJ.text {n st : Int} {hh : Bool} {note : List UInt8} {d c w : Nat} {S : ByteArray} {T0 : List UInt8} {m : Nat} (h : KJ n st hh note d c w S T0 m) (k : Nat) (wd : List UInt8) (hw0 : 0 < w) (hne : wd ≠ []) (h10 : ∀ b ∈ wd, b ≠ 10) (hw : U.white ((wd.headD 0).toNat : Int) = false) : KJ n st hh note d c w (S ++ mkB (blanksB (w + k) ++ wd ++ [10])) (T0 ++ U.feeds m ++ (blanksB k ++ wd)) 1 := by
  obtain ⟨R0, h1, h2, h3, H⟩ := h
  have := H.text k wd hw0 hne h10 hw
  refine ⟨R0 ++ U.blanksL (m - 1) ++ [blanksB k ++ wd], by simp, ?_, Nat.le_refl _, ?_⟩
  · have hne2 : R0 ++ U.blanksL (m - 1) ≠ [] := fun e => h1 (List.append_eq_nil_iff.1 e).1
    rw [U.joinT_append _ hne2, U.joinT_append _ h1, U.joinGo_blanks, h2]
    obtain ⟨m, rfl⟩ : ∃ m', m = m' + 1 := ⟨m - 1, by omega⟩
    rw [Nat.add_sub_cancel, U.feeds_succ]
    simp [U.joinGo]
  · have e : (R0 ++ U.blanksL (m - 1) ++ [blanksB k ++ wd]).length = (R0 ++ U.blanksL (m - 1)).length + 1 := List.length_append
    rw [e]
    have e2 : U.blanksL (1 - 1) = [] := rfl
    rw [e2, List.append_nil]
    exact this
theorem KJ.blank {n st : Int} {hh : Bool} {note : List UInt8} {d c w : Nat} {S : ByteArray} {T0 : List UInt8} {m : Nat} (h : KJ n st hh note d c w S T0 m) : KJ n st hh note d c w (S ++ mkB [10]) T0 (m + 1) := by
  obtain ⟨R0, h1, h2, h3, H⟩ := h
  refine ⟨R0, h1, h2, by omega, ?_⟩
  have e : R0 ++ U.blanksL (m + 1 - 1) = R0 ++ U.blanksL (m - 1) ++ [[]] := by
    obtain ⟨m, rfl⟩ : ∃ m', m = m' + 1 := ⟨m - 1, by omega⟩
    rw [Nat.add_sub_cancel, Nat.add_sub_cancel, List.append_assoc]
    congr 1
    unfold U.blanksL
    rw [List.replicate_succ']
  rw [e]
  exact H.blank
theorem KJ.blanks {n st : Int} {hh : Bool} {note : List UInt8} {d c w : Nat} {T0 : List UInt8} : ∀ (g : Nat) {S : ByteArray} {m : Nat}, KJ n st hh note d c w S T0 m → KJ n st hh note d c w (S ++ mkB (U.feeds g)) T0 (m + g)
  | 0, S, m, h => by
    rw [show S ++ mkB (U.feeds 0) = S from ByteArray.append_empty]
    exact h
  | g + 1, S, m, h => by
    have := (KJ.blanks g h).blank
    rw [ByteArray.append_assoc, mkB_append, ← U.feeds_succ, Nat.add_assoc] at this
    exact this
theorem KJ.txt {n st : Int} {hh : Bool} {note : List UInt8} {d c w : Nat} {S : ByteArray} {T0 : List UInt8} {m : Nat} (h : KJ n st hh note d c w S T0 m) : ∃ R L, KB false n st hh note d c w S R L m false ∧ bTxt c false R L m = T0 ++ U.feeds (if c = 45 then 0 else if c = 43 then m else 1) := by
  obtain ⟨R0, h1, h2, h3, H⟩ := h
  refine ⟨_, _, H, ?_⟩
  have hL : R0.length ≠ 0 := fun e => h1 (List.eq_nil_of_length_eq_zero e)
  unfold bTxt U.blockT
  rw [if_neg (by decide), List.take_left, h2, if_neg hL, show min m 1 = 1 by omega]
theorem KJ.over {n st : Int} {hh : Bool} {note : List UInt8} {d c w : Nat} {S : ByteArray} {T0 : List UInt8} {m : Nat} (h : KJ n st hh note d c w S T0 m) : BlocZ S 0 n st (T0 ++ U.feeds (if c = 45 then 0 else if c = 43 then m else 1)) hh note (S.size : Int) 0 := by
  obtain ⟨R, L, H, e⟩ := h.txt
  rw [← e]
  exact H.over
theorem KJ.stop {n st : Int} {hh : Bool} {note : List UInt8} {d c w : Nat} {S : ByteArray} {T0 : List UInt8} {m : Nat} (h : KJ n st hh note d c w S T0 m) (j : Nat) (wd : List UInt8) (hj : j < w) (hne : wd ≠ []) (h10 : ∀ b ∈ wd, b ≠ 10) (hw : U.white ((wd.headD 0).toNat : Int) = false) : BlocZ (S ++ mkB (blanksB j ++ wd ++ [10])) 0 n st (T0 ++ U.feeds (if c = 45 then 0 else if c = 43 then m else 1)) hh note (S.size : Int) 0 := by
  obtain ⟨R, L, H, e⟩ := h.txt
  rw [← e]
  exact H.stop j wd hj hne h10 hw

/-! ### Folded texts -/
theorem KF.over {n st : Int} {hh : Bool} {note : List UInt8} {d c w : Nat} {S : ByteArray} {R : List (List UInt8)} (h : KB true n st hh note d c w S R R.length 1 false) (hR : R ≠ []) (hc : c ≠ 43) : BlocZ S 0 n st (U.blkT R ++ U.feeds (if c = 45 then 0 else 1)) hh note (S.size : Int) 0 := by
  have := h.over
  have hL : R.length ≠ 0 := fun e => hR (List.eq_nil_of_length_eq_zero e)
  unfold bTxt U.blockT at this
  rw [if_pos rfl, List.take_length, if_neg hc, if_neg hL] at this
  exact this
end Go.Proofs.YtkpccoijegklbaaDoor
