/- Comments on rows put together, and how they are passed: plain facts (nothing of the program). Conditions: none beside those that each theorem writes out. -/
import Derived.Test.YtomdhgbofocbbaaDoorNoteT
import Derived.Test.YtomdhgbofocbbaaDoorQuotX
import Derived.Test.YtomdhgbofocbbaaDoorWord
namespace Go.Proofs.YtomdhgbofocbbaaDoor
open Go.RowKit

theorem lfs_lfs {s : ByteArray} {x : Nat} : ∀ n : Nat, (∀ j, j < n → byt s (x + j) = 10) → lfs s (x + n) = lfs s x + n
  | 0, _ => rfl
  | n + 1, h => by
    show lfs s (x + n + 1) = _
    rw [lfs_lf (h n (by omega)), lfs_lfs n (fun j hj => h j (by omega))]
    omega
/-- Blank rows are passed. -/
theorem NZ.rows {s : ByteArray} {wi : Bool} {n : Int} {a : Nat} {sm : Bool} {L : List (List UInt8 × Nat)} {S : Bool} {E : Nat} {C : Int} {o : List (List UInt8 × Nat)} {b : Bool} : ∀ (g p : Nat), (∀ j, j < g → byt s (p + j) = 10) → p + g ≤ s.size → NZ s wi n a sm L S E C (p + g) true false o b → NZ s wi n a sm L S E C p true false o b
  | 0, p, _, _, h => h
  | g + 1, p, hb, hs, h => by
    have h10 : byt s p = 10 := hb 0 (by omega)
    have hk : kindN s p p p = 1 := by
      unfold kindN mk3
      rw [decide_eq_false (by omega), decide_eq_false (by omega), if_neg (by decide), if_neg (by decide), if_pos rfl]
    refine .met (i := 0) (by omega) ⟨Nat.le_refl _, by omega, fun j h1 h2 => by omega, .inr h10⟩ ⟨Nat.le_refl _, Nat.le_refl _, fun j h1 h2 => by omega, .inl rfl⟩ ⟨Nat.le_refl _, fun j hj => by omega, .inl rfl⟩ (by rw [hk]; decide) (by rw [hk]; decide) (fun e => by rw [hk] at e; cases e) (fun e => by rw [hk] at e; cases e) (.lf (by omega) h10 ?_)
    refine NZ.rows g (p + 1) (fun j hj => ?_) (by omega) ?_
    · have := hb (j + 1) (by omega)
      rwa [show p + (j + 1) = p + 1 + j by omega] at this
    · rwa [show p + (g + 1) = p + 1 + g by omega] at h
/-- White is passed. -/
theorem NZ.whites {s : ByteArray} {wi : Bool} {n : Int} {a : Nat} {sm : Bool} {L : List (List UInt8 × Nat)} {S : Bool} {E : Nat} {C : Int} {o : List (List UInt8 × Nat)} {f b : Bool} : ∀ (i p : Nat), (∀ j, j < i → U.white (byt s (p + j) : Int) = true) → p + i ≤ s.size → NZ s wi n a sm L S E C (p + i) false f o b → NZ s wi n a sm L S E C p false f o b
  | 0, p, _, _, h => h
  | i + 1, p, hb, hs, h => by
    refine .white (by omega) (hb 0 (by omega)) (NZ.whites i (p + 1) (fun j hj => ?_) (by omega) ?_)
    · have := hb (j + 1) (by omega)
      rwa [show p + (j + 1) = p + 1 + j by omega] at this
    · rwa [show p + (i + 1) = p + 1 + i by omega] at h
theorem word_ok (wd : List UInt8) (h : wd ∈ wordL) : wd ≠ [] ∧ (∀ x ∈ wd, x ≠ 10 ∧ U.white (x.toNat : Int) = false) ∧ wd.length ≤ 3 := by
  revert wd
  decide +kernel
/-- A byte of a list behind a text. -/
theorem byt_mk (S : ByteArray) (m : List UInt8) (j : Nat) (h : j < m.length) : byt (S ++ mkB m) (S.size + j) = (m.getD j 0).toNat := by
  have := mkB_next S ByteArray.empty m j h
  rwa [ByteArray.append_empty] at this
theorem getD_left (a b : List UInt8) (j : Nat) (h : j < a.length) : (a ++ b).getD j 0 = a.getD j 0 := by
  simp only [List.getD]
  rw [List.getElem?_append_left h]
theorem getD_right (a b : List UInt8) (j : Nat) (h : a.length ≤ j) : (a ++ b).getD j 0 = b.getD (j - a.length) 0 := by
  simp only [List.getD]
  rw [List.getElem?_append_right h]
theorem getD_rep (n : Nat) (x : UInt8) (j : Nat) (h : j < n) : (List.replicate n x).getD j 0 = x := by simp [List.getD, h]
/-- A row of a comment. -/
def rowP (g i : Nat) (wd : List UInt8) : List UInt8 := [10] ++ List.replicate g 10 ++ blanksB i ++ [35] ++ wd ++ [32, 32]
theorem rowP_len (g i : Nat) (wd : List UInt8) : (rowP g i wd).length = 1 + g + i + 1 + wd.length + 2 := by
  unfold rowP blanksB
  simp only [List.length_append, List.length_replicate]
  rfl
/-- The bytes of such a row. -/
theorem rowP_at (g i : Nat) (wd Z : List UInt8) : (∀ j, j < 1 + g → (rowP g i wd ++ Z).getD j 0 = 10) ∧ (∀ j, j < i → (rowP g i wd ++ Z).getD (1 + g + j) 0 = 32) ∧ (rowP g i wd ++ Z).getD (1 + g + i) 0 = 35 ∧ (∀ j, j < wd.length → (rowP g i wd ++ Z).getD (1 + g + i + 1 + j) 0 = wd.getD j 0) ∧ (∀ j, j < 2 → (rowP g i wd ++ Z).getD (1 + g + i + 1 + wd.length + j) 0 = 32) ∧ (∀ j, (rowP g i wd ++ Z).getD (1 + g + i + 1 + wd.length + 2 + j) 0 = Z.getD j 0) := by
  have e1 : rowP g i wd ++ Z = List.replicate (1 + g) 10 ++ (blanksB i ++ ([35] ++ (wd ++ ([32, 32] ++ Z)))) := by
    unfold rowP
    rw [Nat.add_comm 1 g, List.replicate_succ]
    simp
  rw [e1]
  have l1 : (List.replicate (1 + g) (10 : UInt8)).length = 1 + g := List.length_replicate
  have l2 : (blanksB i).length = i := blanks_len i
  refine ⟨fun j hj => ?_, fun j hj => ?_, ?_, fun j hj => ?_, fun j hj => ?_, fun j => ?_⟩
  · rw [getD_left _ _ _ (by omega)]; exact getD_rep _ _ _ hj
  · rw [getD_right _ _ _ (by omega), l1, getD_left _ _ _ (by omega)]
    exact getD_rep _ _ _ (by omega)
  · rw [getD_right _ _ _ (by omega), l1, getD_right _ _ _ (by omega), l2, show 1 + g + i - (1 + g) - i = 0 by omega]
    rfl
  · rw [getD_right _ _ _ (by omega), l1, getD_right _ _ _ (by omega), l2, getD_right _ _ _ (by show 1 ≤ _; omega), show 1 + g + i + 1 + j - (1 + g) - i - ([35] : List UInt8).length = j by show _ - 1 = j; omega, getD_left _ _ _ hj]
  · rw [getD_right _ _ _ (by omega), l1, getD_right _ _ _ (by omega), l2, getD_right _ _ _ (by show 1 ≤ _; omega), show 1 + g + i + 1 + wd.length + j - (1 + g) - i - ([35] : List UInt8).length = wd.length + j by show _ - 1 = _; omega, getD_right _ _ _ (by omega), Nat.add_sub_cancel_left, getD_left _ _ _ hj]
    match j, hj with
    | 0, _ => rfl
    | 1, _ => rfl
  · rw [getD_right _ _ _ (by omega), l1, getD_right _ _ _ (by omega), l2, getD_right _ _ _ (by show 1 ≤ _; omega), show 1 + g + i + 1 + wd.length + 2 + j - (1 + g) - i - ([35] : List UInt8).length = wd.length + 2 + j by show _ - 1 = _; omega, getD_right _ _ _ (by omega), show wd.length + 2 + j - wd.length = 2 + j by omega, getD_right _ _ _ (by show 2 ≤ _; omega), show 2 + j - ([32, 32] : List UInt8).length = j by show 2 + j - 2 = j; omega]
/-- The bytes of such a row behind a text. -/
structure RowF (s : ByteArray) (P g i : Nat) (wd : List UInt8) : Prop where
  sz : P + (1 + g + i + 1 + wd.length + 2) < s.size
  f1 : ∀ j, j < 1 + g → byt s (P + j) = 10
  f2 : ∀ j, j < i → byt s (P + (1 + g + j)) = 32
  f3 : byt s (P + (1 + g + i)) = 35
  f4 : ∀ j, j < wd.length → byt s (P + (1 + g + i + 1 + j)) = (wd.getD j 0).toNat
  f5 : ∀ j, j < 2 → byt s (P + (1 + g + i + 1 + wd.length + j)) = 32
  f6 : byt s (P + (1 + g + i + 1 + wd.length + 2)) = 10
theorem RowF.of (S : ByteArray) (g i : Nat) (wd Z : List UInt8) : RowF (S ++ mkB (rowP g i wd ++ 10 :: Z)) S.size g i wd := by
  obtain ⟨h1, h2, h3, h4, h5, h6⟩ := rowP_at g i wd (10 :: Z)
  have hl : (rowP g i wd ++ 10 :: Z).length = 1 + g + i + 1 + wd.length + 2 + (Z.length + 1) := by rw [List.length_append, rowP_len]; rfl
  have B := fun j (hj : j < (rowP g i wd ++ 10 :: Z).length) => byt_mk S (rowP g i wd ++ 10 :: Z) j hj
  refine ⟨by rw [ByteArray.size_append, mkB_size, hl]; omega, fun j hj => ?_, fun j hj => ?_, ?_, fun j hj => ?_, fun j hj => ?_, ?_⟩
  · rw [B j (by omega), h1 j hj]; rfl
  · rw [B _ (by omega), h2 j hj]; rfl
  · rw [B _ (by omega), h3]; rfl
  · rw [B _ (by omega), h4 j hj]
  · rw [B _ (by omega), h5 j hj]; rfl
  · rw [B _ (by omega)]
    have := h6 0
    rw [Nat.add_zero] at this
    rw [this]; rfl
theorem word_at {wd : List UInt8} (h : wd ∈ wordL) (j : Nat) (hj : j < wd.length) : (wd.getD j 0).toNat ≠ 10 ∧ U.white ((wd.getD j 0).toNat : Int) = false := by
  have hm : wd.getD j 0 ∈ wd := by
    simp only [List.getD]
    rw [List.getElem?_eq_getElem hj, Option.getD_some]
    exact List.getElem_mem _
  obtain ⟨h1, h2⟩ := (word_ok wd h).2.1 _ hm
  exact ⟨fun e => h1 (UInt8.toNat_inj.1 (by rw [e]; rfl)), h2⟩
theorem RowF.noLF {s : ByteArray} {P g i : Nat} {wd : List UInt8} (h : RowF s P g i wd) (hw : wd ∈ wordL) (j : Nat) (h1 : P + (1 + g) ≤ j) (h2 : j < P + (1 + g + i + 1 + wd.length + 2)) : byt s j ≠ 10 := by
  by_cases c1 : j < P + (1 + g + i)
  · have := h.f2 (j - P - (1 + g)) (by omega)
    rw [show P + (1 + g + (j - P - (1 + g))) = j by omega] at this
    rw [this]; decide
  · by_cases c2 : j = P + (1 + g + i)
    · rw [c2, h.f3]; decide
    · by_cases c3 : j < P + (1 + g + i + 1 + wd.length)
      · have := h.f4 (j - P - (1 + g + i + 1)) (by omega)
        rw [show P + (1 + g + i + 1 + (j - P - (1 + g + i + 1))) = j by omega] at this
        rw [this]
        exact (word_at hw _ (by omega)).1
      · have := h.f5 (j - P - (1 + g + i + 1 + wd.length)) (by omega)
        rw [show P + (1 + g + i + 1 + wd.length + (j - P - (1 + g + i + 1 + wd.length))) = j by omega] at this
        rw [this]; decide
/-- Such a row is passed. -/
theorem RowF.pass {s : ByteArray} {P g i : Nat} {wd : List UInt8} (h : RowF s P g i wd) (hw : wd ∈ wordL) {wi : Bool} {n : Int} {a : Nat} {sm : Bool} {L : List (List UInt8 × Nat)} {S : Bool} {E : Nat} {C : Int} {o : List (List UInt8 × Nat)} {f b : Bool} {k : Nat}
    (hk0 : 0 < k) (hkP : k ≤ P) (hk1 : wl (byt s (k - 1)) = false) (hk2 : ∀ j, j < P → k ≤ j → U.white (byt s j : Int) = true)
    (hp : pieceL s (P + (1 + g + i) + 1) (P + (1 + g + i) + 1 + wd.length) = wd)
    (H : NZ s wi n a sm L S E C (P + (1 + g + i + 1 + wd.length + 2)) false false (o ++ [(wd, g)]) (if o = [] then false else b)) : NZ s wi n a sm L S E C P false f o b := by
  have hsz := h.sz
  have hl := List.length_pos_iff.2 (word_ok wd hw).1
  have hE : RowE s (P + 1 + g) (P + (1 + g + i + 1 + wd.length + 2)) := ⟨by omega, by omega, fun j h1 h2 => h.noLF hw j (by omega) (by omega), .inr h.f6⟩
  have w32 : U.white ((32 : Nat) : Int) = true := by decide
  have hF : FirN s (P + 1 + g) (P + (1 + g + i + 1 + wd.length + 2)) (P + (1 + g + i)) := ⟨by omega, by omega, fun j h1 h2 => by
    have := h.f2 (j - P - (1 + g)) (by omega)
    rw [show P + (1 + g + (j - P - (1 + g))) = j by omega] at this
    rw [this]; exact w32, .inr (by rw [h.f3]; decide)⟩
  have hI : InN s (P + 1 + g) (P + (1 + g + i + 1 + wd.length + 2)) i := ⟨by omega, fun j hj => by
    have := h.f2 j hj
    rwa [show P + (1 + g + j) = P + 1 + g + j by omega] at this, .inr (by rw [show P + 1 + g + i = P + (1 + g + i) by omega, h.f3]; decide)⟩
  have hb0 : byt s (P + 1 + g) = 32 ∨ byt s (P + 1 + g) = 35 := by
    by_cases hi0 : i = 0
    · right
      have := h.f3
      rwa [hi0, show P + (1 + g + 0) = P + 1 + g by omega] at this
    · left
      have := h.f2 0 (by omega)
      rwa [show P + (1 + g + 0) = P + 1 + g by omega] at this
  have hm : ∀ ch : Nat, ch ≠ 32 → ch ≠ 35 → mk3 s (P + 1 + g) (P + (1 + g + i + 1 + wd.length + 2)) ch = false := fun ch c1 c2 => by
    unfold mk3
    rw [decide_eq_false_iff_not]
    intro e
    rcases hb0 with hb | hb
    · exact c1 (e.2.1.symm.trans hb)
    · exact c2 (e.2.1.symm.trans hb)
  have hk : kindN s (P + 1 + g) (P + (1 + g + i + 1 + wd.length + 2)) (P + (1 + g + i)) = 2 := by
    unfold kindN
    rw [hm 45 (by decide) (by decide), hm 46 (by decide) (by decide), if_neg (by decide), if_neg (by decide), if_neg (by omega), if_pos h.f3]
  have hnt : ntB s (P + (1 + g + i)) = true := by
    unfold ntB
    rw [decide_eq_true_eq]
    refine ⟨h.f3, .inr ?_⟩
    by_cases hi0 : i = 0
    · right
      have := h.f1 g (by omega)
      rwa [show P + g = P + (1 + g + i) - 1 by omega] at this
    · left
      have := h.f2 (i - 1) (by omega)
      rw [show P + (1 + g + (i - 1)) = P + (1 + g + i) - 1 by omega] at this
      rw [this]; exact w32
  have hBk : BakN s (P + (1 + g + i) + 1) (P + (1 + g + i + 1 + wd.length + 2)) (P + (1 + g + i) + 1 + wd.length) := ⟨by omega, by omega, fun j h1 h2 => by
    have := h.f5 (j - P - (1 + g + i + 1 + wd.length)) (by omega)
    rw [show P + (1 + g + i + 1 + wd.length + (j - P - (1 + g + i + 1 + wd.length))) = j by omega] at this
    rw [this]; exact w32, .inr (by
    have := h.f4 (wd.length - 1) (by omega)
    rw [show P + (1 + g + i + 1 + (wd.length - 1)) = P + (1 + g + i) + 1 + wd.length - 1 by omega] at this
    rw [this]
    exact (word_at hw _ (by omega)).2)⟩
  have hnw : ∀ x : Nat, U.white (x : Int) = true → x ≠ 10 := fun x hx e => by rw [e] at hx; cases hx
  have hA : Abv s (P + (1 + g + i)) k g := by
    refine ⟨by omega, fun j h1 h2 => ?_, .inr ⟨hk0, hk1, ?_⟩⟩
    · unfold wl
      by_cases c1 : j < P
      · rw [hk2 j c1 h2, Bool.or_true]
      · by_cases c2 : j < P + (1 + g)
        · have := h.f1 (j - P) (by omega)
          rw [show P + (j - P) = j by omega] at this
          rw [this]; rfl
        · have := h.f2 (j - P - (1 + g)) (by omega)
          rw [show P + (1 + g + (j - P - (1 + g))) = j by omega] at this
          rw [this]; rfl
    · have l1 : lfs s P = lfs s k := lfs_same P hkP fun j h1 h2 => hnw _ (hk2 j h1 h2)
      have l2 : lfs s (P + (1 + g)) = lfs s P + (1 + g) := lfs_lfs (1 + g) h.f1
      have l3 : lfs s (P + (1 + g + i)) = lfs s (P + (1 + g)) := lfs_same _ (by omega) fun j h1 h2 => h.noLF hw j (by omega) (by omega)
      omega
  refine .lf (by omega) (h.f1 0 (by omega)) (NZ.rows g (P + 1) (fun j hj => ?_) (by omega) ?_)
  · have := h.f1 (j + 1) (by omega)
    rwa [show P + (j + 1) = P + 1 + j by omega] at this
  · refine .met (by omega) hE hF hI (by rw [hk]; decide) (by rw [hk]; decide) (fun e => by rw [hk] at e; cases e) (fun e => by rw [hk] at e; cases e) (NZ.whites i (P + 1 + g) (fun j hj => ?_) (by omega) ?_)
    · have := h.f2 j hj
      rw [show P + (1 + g + j) = P + 1 + g + j by omega] at this
      rw [this]; exact w32
    · rw [show P + 1 + g + i = P + (1 + g + i) by omega]
      refine .com (by omega) hnt ⟨by omega, by omega, fun j h1 h2 => h.noLF hw j (by omega) h1, .inr h.f6⟩ hBk hA ?_
      rw [hp, Bool.and_false]
      exact H
/-- The text so far, behind its first byte; what comes next begins a row. -/
structure KN (wi : Bool) (n : Int) (S : ByteArray) (o : List (List UInt8 × Nat)) (f b : Bool) : Prop where
  pos : 1 ≤ S.size
  first : byt S 0 ≠ 10
  tail : ∃ k, 0 < k ∧ k ≤ S.size ∧ wl (byt S (k - 1)) = false ∧ ∀ j, j < S.size → k ≤ j → U.white (byt S j : Int) = true
  go : ∀ (Z : List UInt8) (L : List (List UInt8 × Nat)) (S' : Bool) (E : Nat) (C : Int), NZ (S ++ mkB (10 :: Z)) wi n 1 true L S' E C S.size false f o b → NZ (S ++ mkB (10 :: Z)) wi n 1 true L S' E C 1 false true [] false
theorem KN.base (wi : Bool) (n : Int) : KN wi n ⟨#[119]⟩ [] true false :=
  ⟨by decide, by decide, ⟨1, by decide, by decide, by decide, fun j h1 h2 => by have : (⟨#[119]⟩ : ByteArray).size = 1 := rfl; omega⟩, fun Z L S' E C h => h⟩
theorem list_mkB (m : List UInt8) : (mkB m).data.toList = m := by simp [mkB]
theorem row_piece (S : ByteArray) (g i : Nat) (wd Z : List UInt8) : pieceL (S ++ mkB (rowP g i wd ++ Z)) (S.size + (1 + g + i) + 1) (S.size + (1 + g + i) + 1 + wd.length) = wd := by
  have e1 : rowP g i wd ++ Z = ([10] ++ List.replicate g 10 ++ blanksB i ++ [35]) ++ (wd ++ ([32, 32] ++ Z)) := by unfold rowP; simp
  have l1 : ([10] ++ List.replicate g 10 ++ blanksB i ++ [35] : List UInt8).length = 1 + g + i + 1 := by
    rw [List.length_append, List.length_append, List.length_append, List.length_replicate, blanks_len]; rfl
  have l2 : S.data.toList.length = S.size := (Lib.size_eq S).symm
  unfold pieceL
  rw [ByteArray.data_append, Array.toList_append, list_mkB, e1, Nat.add_sub_cancel_left, show S.size + (1 + g + i) + 1 = S.data.toList.length + (1 + g + i + 1) by omega, ← List.drop_drop, List.drop_left, ← l1, List.drop_left, List.take_left]
theorem wl_word {x : Nat} (h1 : x ≠ 10) (h2 : U.white (x : Int) = false) : wl x = false := by
  unfold wl
  rw [decide_eq_false h1, h2]
  rfl
theorem KN.row {wi : Bool} {n : Int} {S : ByteArray} {o : List (List UInt8 × Nat)} {f b : Bool} (h : KN wi n S o f b) (g i : Nat) (wd : List UInt8) (hw : wd ∈ wordL) : KN wi n (S ++ mkB (rowP g i wd)) (o ++ [(wd, g)]) false (if o = [] then false else b) := by
  obtain ⟨k, hk0, hkS, hk1, hk2⟩ := h.tail
  have hl := rowP_len g i wd
  have hwl := List.length_pos_iff.2 (word_ok wd hw).1
  have hsz : (S ++ mkB (rowP g i wd)).size = S.size + (1 + g + i + 1 + wd.length + 2) := by rw [ByteArray.size_append, mkB_size, hl]
  have hpos := h.pos
  have R0 := RowF.of S g i wd []
  have e0 : S ++ mkB (rowP g i wd ++ 10 :: []) = (S ++ mkB (rowP g i wd)) ++ mkB [10] := by rw [← mkB_append, ByteArray.append_assoc]
  rw [e0] at R0
  have B0 : ∀ j, j < (S ++ mkB (rowP g i wd)).size → byt (S ++ mkB (rowP g i wd) ++ mkB [10]) j = byt (S ++ mkB (rowP g i wd)) j := fun j hj => byt_app hj
  refine ⟨by omega, by rw [byt_app (by omega)]; exact h.first, ⟨S.size + (1 + g + i + 1 + wd.length), by omega, by omega, ?_, fun j h1 h2 => ?_⟩, fun Z L S' E C H => ?_⟩
  · rw [← B0 _ (by omega)]
    have := R0.f4 (wd.length - 1) (by omega)
    rw [show S.size + (1 + g + i + 1 + (wd.length - 1)) = S.size + (1 + g + i + 1 + wd.length) - 1 by omega] at this
    rw [this]
    exact wl_word (word_at hw _ (by omega)).1 (word_at hw _ (by omega)).2
  · rw [← B0 _ h1]
    have := R0.f5 (j - S.size - (1 + g + i + 1 + wd.length)) (by omega)
    rw [show S.size + (1 + g + i + 1 + wd.length + (j - S.size - (1 + g + i + 1 + wd.length))) = j by omega] at this
    rw [this]; decide
  · have e : S ++ mkB (rowP g i wd) ++ mkB (10 :: Z) = S ++ mkB (rowP g i wd ++ 10 :: Z) := by rw [ByteArray.append_assoc, mkB_append]
    have R := RowF.of S g i wd Z
    have hp := row_piece S g i wd (10 :: Z)
    rw [e, hsz] at H
    rw [e]
    have hB : ∀ j, j < S.size → byt (S ++ mkB (rowP g i wd ++ 10 :: Z)) j = byt S j := fun j hj => byt_app hj
    have HH := R.pass hw (wi := wi) (n := n) (a := 1) (sm := true) (L := L) (S := S') (E := E) (C := C) (o := o) (f := f) (b := b) hk0 hkS (by rw [hB _ (by omega)]; exact hk1) (fun j h1 h2 => by rw [hB j h1]; exact hk2 j h1 h2) hp H
    exact h.go ((rowP g i wd).tail ++ 10 :: Z) L S' E C HH
/-- A comment in the row of what stands ahead. -/
theorem KN.beside (wi : Bool) (n : Int) (wd : List UInt8) (hw : wd ∈ wordL) : KN wi n (⟨#[119]⟩ ++ mkB ([32, 35] ++ wd)) [(wd, 0)] true true := by
  have hwl := List.length_pos_iff.2 (word_ok wd hw).1
  have h1s : (⟨#[119]⟩ : ByteArray).size = 1 := rfl
  have hsz : ((⟨#[119]⟩ : ByteArray) ++ mkB ([32, 35] ++ wd)).size = 3 + wd.length := by rw [ByteArray.size_append, mkB_size, List.length_append, h1s]; show 1 + (2 + _) = _; omega
  have F : ∀ Z : List UInt8, byt ((⟨#[119]⟩ : ByteArray) ++ mkB ([32, 35] ++ wd) ++ mkB Z) 0 = 119 ∧ byt ((⟨#[119]⟩ : ByteArray) ++ mkB ([32, 35] ++ wd) ++ mkB Z) 1 = 32 ∧ byt ((⟨#[119]⟩ : ByteArray) ++ mkB ([32, 35] ++ wd) ++ mkB Z) 2 = 35 ∧ ∀ j, j < wd.length → byt ((⟨#[119]⟩ : ByteArray) ++ mkB ([32, 35] ++ wd) ++ mkB Z) (3 + j) = (wd.getD j 0).toNat := fun Z => by
    have B := fun j (hj : j < ([32, 35] ++ wd).length) => mkB_next (⟨#[119]⟩ : ByteArray) (mkB Z) ([32, 35] ++ wd) j hj
    have hl : ([32, 35] ++ wd : List UInt8).length = 2 + wd.length := List.length_append
    refine ⟨by rw [byt_app (by omega), byt_app (by decide)]; decide, B 0 (by omega), B 1 (by omega), fun j hj => ?_⟩
    have := B (2 + j) (by omega)
    rw [h1s, show 1 + (2 + j) = 3 + j by omega, getD_right _ _ _ (by show 2 ≤ _; omega), show 2 + j - ([32, 35] : List UInt8).length = j by show 2 + j - 2 = j; omega] at this
    exact this
  obtain ⟨g0, g1, g2, g3⟩ := F []
  rw [show mkB ([] : List UInt8) = ByteArray.empty from rfl, ByteArray.append_empty] at g0 g1 g2 g3
  refine ⟨by omega, by rw [g0]; decide, ⟨3 + wd.length, by omega, by omega, ?_, fun j h1 h2 => by omega⟩, fun Z L S' E C H => ?_⟩
  · have := g3 (wd.length - 1) (by omega)
    rw [show 3 + (wd.length - 1) = 3 + wd.length - 1 by omega] at this
    rw [this]
    exact wl_word (word_at hw _ (by omega)).1 (word_at hw _ (by omega)).2
  · obtain ⟨f0, f1, f2, f3⟩ := F (10 :: Z)
    have f4 : byt ((⟨#[119]⟩ : ByteArray) ++ mkB ([32, 35] ++ wd) ++ mkB (10 :: Z)) (3 + wd.length) = 10 := by
      have := byt_mk ((⟨#[119]⟩ : ByteArray) ++ mkB ([32, 35] ++ wd)) (10 :: Z) 0 (by simp)
      rw [hsz, Nat.add_zero] at this
      exact this
    have hp : pieceL ((⟨#[119]⟩ : ByteArray) ++ mkB ([32, 35] ++ wd) ++ mkB (10 :: Z)) (2 + 1) (3 + wd.length) = wd := by
      unfold pieceL
      rw [ByteArray.data_append, ByteArray.data_append, Array.toList_append, Array.toList_append, list_mkB, list_mkB, show 3 + wd.length - (2 + 1) = wd.length by omega]
      show (wd ++ 10 :: Z).take wd.length = wd
      exact List.take_left
    have hss : ((⟨#[119]⟩ : ByteArray) ++ mkB ([32, 35] ++ wd) ++ mkB (10 :: Z)).size = 3 + wd.length + (Z.length + 1) := by rw [ByteArray.size_append, hsz, mkB_size]; rfl
    rw [hsz] at H
    generalize ((⟨#[119]⟩ : ByteArray) ++ mkB ([32, 35] ++ wd) ++ mkB (10 :: Z)) = s at *
    have w32 : U.white ((32 : Nat) : Int) = true := by decide
    have hno : ∀ j, 2 ≤ j → j < 3 + wd.length → byt s j ≠ 10 := fun j j1 j2 => by
      by_cases c : j = 2
      · rw [c, f2]; decide
      · have := f3 (j - 3) (by omega)
        rw [show 3 + (j - 3) = j by omega] at this
        rw [this]
        exact (word_at hw _ (by omega)).1
    refine .white (by omega) (by rw [f1]; exact w32) (.com (t := 3 + wd.length) (e := 3 + wd.length) (k := 1) (d := 0) (by omega) ?_ ⟨by omega, by omega, fun j j1 j2 => hno j j2 j1, .inr f4⟩ ⟨by omega, Nat.le_refl _, fun j j1 j2 => by omega, .inr ?_⟩ ⟨by omega, fun j j1 j2 => ?_, .inr ⟨by decide, ?_, ?_⟩⟩ ?_)
    · unfold ntB
      rw [decide_eq_true_eq]
      exact ⟨f2, .inr (.inl (by show U.white (byt s 1 : Int) = true; rw [f1]; exact w32))⟩
    · have := f3 (wd.length - 1) (by omega)
      rw [show 3 + (wd.length - 1) = 3 + wd.length - 1 by omega] at this
      rw [this]
      exact (word_at hw _ (by omega)).2
    · obtain rfl : j = 1 := by omega
      rw [f1]; decide
    · show wl (byt s 0) = false
      rw [f0]; decide
    · have : lfs s 2 = lfs s 1 := lfs_other (by rw [f1]; decide)
      show 0 = lfs s (1 + 1) - lfs s 1 - 1
      rw [show (1 + 1 : Nat) = 2 from rfl, this]
      omega
    · show NZ s wi n 1 true L S' E C (3 + wd.length) false true ([] ++ [(pieceL s (2 + 1) (3 + wd.length), 0)]) true
      rw [hp]
      exact H
theorem KN.start {wi : Bool} {n : Int} {S : ByteArray} {o : List (List UInt8 × Nat)} {f b : Bool} (h : KN wi n S o f b) (nx : List UInt8) {L : List (List UInt8 × Nat)} {S' : Bool} {E : Nat} {C : Int} (H : NZ (S ++ mkB (10 :: nx)) wi n 1 true L S' E C S.size false f o b) : NoteZ (S ++ mkB (10 :: nx)) wi n 1 L S' (E : Int) C := by
  have hpos := h.pos
  have hc : clampN (1 : Int) (S ++ mkB (10 :: nx)).size = 1 := clampN_self 1 _ (by rw [ByteArray.size_append]; omega)
  refine ⟨0, E, ?_, rfl, ?_⟩
  · rw [hc]
    refine ⟨by decide, fun j h1 h2 => ?_, .inl rfl⟩
    obtain rfl : j = 0 := by omega
    rw [byt_app (by omega)]
    exact h.first
  · rw [hc]
    exact h.go nx L S' E C H
/-- What comes next. -/
def nxL : List (List UInt8) := [[122], [45, 45, 45, 32, 122], [46, 46, 46], []]
theorem KN.ends {wi : Bool} {n : Int} {S : ByteArray} {o : List (List UInt8 × Nat)} {f b : Bool} (h : KN wi n S o f b) (hn : n < 0 ∨ wi = false) (k : Nat) (hk : k < 4) :
    ((k = 0 ∨ k = 3 ∨ wi = false) → NoteZ (S ++ mkB (10 :: nxL.getD k [])) wi n 1 o b ((S.size : Int) + 1) 0) ∧ ((k = 1 ∨ k = 2) → wi = true → NoteZ (S ++ mkB (10 :: nxL.getD k [])) wi n 1 [] false ((S.size : Int) + 1) 5) := by
  have eE : ((S.size + 1 : Nat) : Int) = (S.size : Int) + 1 := by omega
  have hpos := h.pos
  match k, hk with
  | 0, _ =>
    have B := byt_mk S (10 :: [122])
    have b0 : byt (S ++ mkB (10 :: [122])) S.size = 10 := B 0 (by decide)
    have b1 : byt (S ++ mkB (10 :: [122])) (S.size + 1) = 122 := B 1 (by decide)
    have hs : (S ++ mkB (10 :: [122])).size = S.size + 2 := by rw [ByteArray.size_append, mkB_size]; rfl
    refine ⟨fun _ => ?_, fun e => by omega⟩
    rw [← eE]
    refine h.start [122] ?_
    generalize S ++ mkB (10 :: [122]) = s at b0 b1 hs ⊢
    have hkk : kindN s (S.size + 1) (S.size + 2) (S.size + 1) = 5 := by
      unfold kindN mk3
      rw [decide_eq_false (by omega), decide_eq_false (by omega), if_neg (by decide), if_neg (by decide), if_neg (by omega), if_neg (by omega)]
    refine .lf (by omega) b0 (.met (t := S.size + 2) (q := S.size + 1) (i := 0) (by omega) ⟨by omega, by omega, fun j h1 h2 => ?_, .inl hs.symm⟩ ⟨Nat.le_refl _, by omega, fun j h1 h2 => by omega, .inr (by rw [b1]; decide)⟩ ⟨by omega, fun j hj => by omega, .inr (by rw [Nat.add_zero, b1]; decide)⟩ (by rw [hkk]; decide) (by rw [hkk]; decide) (fun _ _ j h1 h2 => by omega) (fun _ hw _ => ?_) (.stop (by omega) (by rw [b1]; decide) (by rw [b1]; decide) ?_ rfl rfl rfl rfl))
    · obtain rfl : j = S.size + 1 := by omega
      rw [b1]; decide
    · rcases hn with hn | hn
      · exact hn
      · rw [hn] at hw; cases hw
    · unfold ntB
      rw [decide_eq_false_iff_not]
      intro e
      have := e.1
      rw [b1] at this
      exact absurd this (by decide)
  | 1, _ =>
    have B := byt_mk S (10 :: [45, 45, 45, 32, 122])
    have b0 : byt (S ++ mkB (10 :: [45, 45, 45, 32, 122])) S.size = 10 := B 0 (by decide)
    have b1 : byt (S ++ mkB (10 :: [45, 45, 45, 32, 122])) (S.size + 1) = 45 := B 1 (by decide)
    have b2 : byt (S ++ mkB (10 :: [45, 45, 45, 32, 122])) (S.size + 2) = 45 := B 2 (by decide)
    have b3 : byt (S ++ mkB (10 :: [45, 45, 45, 32, 122])) (S.size + 3) = 45 := B 3 (by decide)
    have b4 : byt (S ++ mkB (10 :: [45, 45, 45, 32, 122])) (S.size + 4) = 32 := B 4 (by decide)
    have b5 : byt (S ++ mkB (10 :: [45, 45, 45, 32, 122])) (S.size + 5) = 122 := B 5 (by decide)
    have hs : (S ++ mkB (10 :: [45, 45, 45, 32, 122])).size = S.size + 6 := by rw [ByteArray.size_append, mkB_size]; rfl
    have key : ∀ (L : List (List UInt8 × Nat)) (S' : Bool) (C : Int), (wi = false ∧ L = o ∧ S' = b ∧ C = 0 ∨ wi = true ∧ L = [] ∧ S' = false ∧ C = 5) → NoteZ (S ++ mkB (10 :: [45, 45, 45, 32, 122])) wi n 1 L S' ((S.size + 1 : Nat) : Int) C := fun L S' C hc => by
      refine h.start _ ?_
      generalize S ++ mkB (10 :: [45, 45, 45, 32, 122]) = s at b0 b1 b2 b3 b4 b5 hs ⊢
      have hkk : kindN s (S.size + 1) (S.size + 6) (S.size + 1) = 3 := by
        unfold kindN mk3
        rw [if_pos (by rw [decide_eq_true_eq]; exact ⟨by omega, b1, b2, b3, .inr (by rw [show S.size + 1 + 3 = S.size + 4 by omega, b4]; decide)⟩)]
      have hE : RowE s (S.size + 1) (S.size + 6) := ⟨by omega, by omega, fun j h1 h2 => by
        have : j = S.size + 1 ∨ j = S.size + 2 ∨ j = S.size + 3 ∨ j = S.size + 4 ∨ j = S.size + 5 := by omega
        rcases this with rfl | rfl | rfl | rfl | rfl
        · rw [b1]; decide
        · rw [b2]; decide
        · rw [b3]; decide
        · rw [b4]; decide
        · rw [b5]; decide, .inl hs.symm⟩
      have hF : FirN s (S.size + 1) (S.size + 6) (S.size + 1) := ⟨Nat.le_refl _, by omega, fun j h1 h2 => by omega, .inr (by rw [b1]; decide)⟩
      rcases hc with ⟨hw, rfl, rfl, rfl⟩ | ⟨hw, rfl, rfl, rfl⟩
      · exact .lf (by omega) b0 (.mark (by omega) hE hF (.inl hkk) (.inl hw) rfl rfl rfl rfl)
      · exact .lf (by omega) b0 (.markX (by omega) hE hF (.inl hkk) hw (by omega) rfl rfl rfl rfl)
    rw [← eE]
    exact ⟨fun hw => key _ _ _ (.inl ⟨hw.resolve_left (by decide) |>.resolve_left (by decide), rfl, rfl, rfl⟩), fun _ hw => key _ _ _ (.inr ⟨hw, rfl, rfl, rfl⟩)⟩
  | 2, _ =>
    have B := byt_mk S (10 :: [46, 46, 46])
    have b0 : byt (S ++ mkB (10 :: [46, 46, 46])) S.size = 10 := B 0 (by decide)
    have b1 : byt (S ++ mkB (10 :: [46, 46, 46])) (S.size + 1) = 46 := B 1 (by decide)
    have b2 : byt (S ++ mkB (10 :: [46, 46, 46])) (S.size + 2) = 46 := B 2 (by decide)
    have b3 : byt (S ++ mkB (10 :: [46, 46, 46])) (S.size + 3) = 46 := B 3 (by decide)
    have hs : (S ++ mkB (10 :: [46, 46, 46])).size = S.size + 4 := by rw [ByteArray.size_append, mkB_size]; rfl
    have key : ∀ (L : List (List UInt8 × Nat)) (S' : Bool) (C : Int), (wi = false ∧ L = o ∧ S' = b ∧ C = 0 ∨ wi = true ∧ L = [] ∧ S' = false ∧ C = 5) → NoteZ (S ++ mkB (10 :: [46, 46, 46])) wi n 1 L S' ((S.size + 1 : Nat) : Int) C := fun L S' C hc => by
      refine h.start _ ?_
      generalize S ++ mkB (10 :: [46, 46, 46]) = s at b0 b1 b2 b3 hs ⊢
      have hkk : kindN s (S.size + 1) (S.size + 4) (S.size + 1) = 4 := by
        unfold kindN mk3
        rw [if_neg (by rw [decide_eq_true_eq]; intro e; have := e.2.1; omega), if_pos (by rw [decide_eq_true_eq]; exact ⟨by omega, b1, b2, b3, .inl (by omega)⟩)]
      have hE : RowE s (S.size + 1) (S.size + 4) := ⟨by omega, by omega, fun j h1 h2 => by
        have : j = S.size + 1 ∨ j = S.size + 2 ∨ j = S.size + 3 := by omega
        rcases this with rfl | rfl | rfl
        · rw [b1]; decide
        · rw [b2]; decide
        · rw [b3]; decide, .inl hs.symm⟩
      have hF : FirN s (S.size + 1) (S.size + 4) (S.size + 1) := ⟨Nat.le_refl _, by omega, fun j h1 h2 => by omega, .inr (by rw [b1]; decide)⟩
      rcases hc with ⟨hw, rfl, rfl, rfl⟩ | ⟨hw, rfl, rfl, rfl⟩
      · exact .lf (by omega) b0 (.mark (by omega) hE hF (.inr hkk) (.inl hw) rfl rfl rfl rfl)
      · exact .lf (by omega) b0 (.markX (by omega) hE hF (.inr hkk) hw (by omega) rfl rfl rfl rfl)
    rw [← eE]
    exact ⟨fun hw => key _ _ _ (.inl ⟨hw.resolve_left (by decide) |>.resolve_left (by decide), rfl, rfl, rfl⟩), fun _ hw => key _ _ _ (.inr ⟨hw, rfl, rfl, rfl⟩)⟩
  | 3, _ =>
    have b0 : byt (S ++ mkB (10 :: [])) S.size = 10 := byt_mk S (10 :: []) 0 (by decide)
    have hs : (S ++ mkB (10 :: [])).size = S.size + 1 := by rw [ByteArray.size_append, mkB_size]; rfl
    refine ⟨fun _ => ?_, fun e => by omega⟩
    rw [← eE]
    refine h.start [] ?_
    generalize S ++ mkB (10 :: []) = s at b0 hs ⊢
    exact .lf (by omega) b0 (.over (by omega) rfl rfl rfl rfl)
end Go.Proofs.YtomdhgbofocbbaaDoor
