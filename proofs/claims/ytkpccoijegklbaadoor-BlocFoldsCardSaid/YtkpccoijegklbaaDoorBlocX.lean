/- A block scalar put together row by row, and how it is read: plain facts (nothing of the program). Conditions: none beside those that each theorem writes out. -/
import Derived.Test.YtkpccoijegklbaaDoorBlocT
import Derived.Test.YtkpccoijegklbaaDoorQuotX
namespace Go.Proofs.YtkpccoijegklbaaDoor
open Go.RowKit

/-- A piece of a middle text. -/
theorem piece_behind (S F Z : ByteArray) {p q : Nat} (hp : p ≤ q) (hq : q ≤ F.size) : pieceL (S ++ F ++ Z) (S.size + p) (S.size + q) = (F.data.toList.drop p).take (q - p) := by
  unfold pieceL
  rw [show S.size + q - (S.size + p) = q - p by omega, ByteArray.data_append, ByteArray.data_append, Array.toList_append, Array.toList_append, List.append_assoc, ← List.drop_drop]
  have h1 : S.data.toList.length = S.size := (Lib.size_eq S).symm
  rw [← h1, List.drop_left, List.drop_append_of_le_length (by rw [← Lib.size_eq]; omega), List.take_append_of_le_length (by rw [List.length_drop, ← Lib.size_eq]; omega)]
theorem lfs_app {S Z : ByteArray} : ∀ x : Nat, x ≤ S.size → lfs (S ++ Z) x = lfs S x
  | 0, _ => rfl
  | x + 1, h => by
    have h1 : byt (S ++ Z) x = byt S x := byt_app (by omega)
    rw [lfs, lfs, lfs_app x (by omega), h1]
theorem RowE.app {S Z : ByteArray} {c b : Nat} (h : RowE S c b) (hb : b < S.size) : RowE (S ++ Z) c b := by
  refine ⟨h.1, by rw [ByteArray.size_append]; omega, fun j h1 h2 => by rw [byt_app (by omega)]; exact h.2.2.1 j h1 h2, .inr ?_⟩
  rw [byt_app hb]
  rcases h.2.2.2 with e | e
  · omega
  · exact e
theorem FirN.app {S Z : ByteArray} {a b p : Nat} (h : FirN S a b p) (hb : b < S.size) : FirN (S ++ Z) a b p := by
  have h2 := h.2.1
  refine ⟨h.1, h2, fun j h1 h2 => by rw [byt_app (by omega)]; exact h.2.2.1 j h1 h2, ?_⟩
  rcases h.2.2.2 with e | e
  · exact .inl e
  · exact .inr (by rw [byt_app (by omega)]; exact e)
theorem hStep_app {S Z : ByteArray} {x : Nat × Nat × Nat} (h : x.1 < S.size) : hStep (S ++ Z) x = hStep S x := by
  have hs : x.1 < (S ++ Z).size := by rw [ByteArray.size_append]; omega
  unfold hStep
  rw [if_pos hs, if_pos h, byt_app h]

/-- The text so far; the rows R behind the header, of which the first L count; m line feeds behind the last of these; f: all so far are blank. d, c: the header's digit and sign; w: how far in. -/
def KB (fo : Bool) (n st : Int) (hh : Bool) (note : List UInt8) (d c w : Nat) (S : ByteArray) (R : List (List UInt8)) (L m : Nat) (f : Bool) : Prop :=
  ∃ h, h ≤ S.size ∧ lfs S S.size = lfs S h + m ∧ ∀ (Z : ByteArray) (T : List UInt8) (E : Nat) (C : Int), BZ (S ++ Z) d c w fo T E C S.size R L h f → BlocZ (S ++ Z) 0 n st T hh note (E : Int) C
/-- The header alone. -/
def KB0 (fo : Bool) (n st : Int) (hh : Bool) (note : List UInt8) (d c : Nat) (S : ByteArray) : Prop :=
  ∀ (Z : ByteArray) (w : Nat) (T : List UInt8) (E : Nat) (C : Int), (if d = 0 then WZ (S ++ Z) n w S.size else w = d + min (max n 0).toNat ((S ++ Z).size + 1)) → BZ (S ++ Z) d c w fo T E C S.size [] 0 S.size true → BlocZ (S ++ Z) 0 n st T hh note (E : Int) C
/-- A row of blanks and a text behind. -/
structure RowK (s : ByteArray) (a j l : Nat) : Prop where
  e : RowE s a (a + j + l)
  i : InN s a (a + j + l) j
  f : FirN s a (a + j + l) (a + j)
  k : 0 < j → kindN s a (a + j + l) (a + j) ≠ 3 ∧ kindN s a (a + j + l) (a + j) ≠ 4
theorem row_k (S Z : ByteArray) (j : Nat) (wd : List UInt8) (hne : wd ≠ []) (h10 : ∀ b ∈ wd, b ≠ 10) (hw : U.white ((wd.headD 0).toNat : Int) = false) : RowK (S ++ mkB (blanksB j ++ wd ++ [10]) ++ Z) S.size j wd.length := by
  have hl : (blanksB j ++ wd ++ [10]).length = j + wd.length + 1 := by rw [List.length_append, List.length_append, blanks_len]; rfl
  have hp : 0 < wd.length := List.length_pos_iff.2 hne
  have hsz : (S ++ mkB (blanksB j ++ wd ++ [10]) ++ Z).size = S.size + (j + wd.length + 1) + Z.size := by rw [size_next, mkB_size, hl]
  have hB : ∀ x, x < j + wd.length + 1 → byt (S ++ mkB (blanksB j ++ wd ++ [10]) ++ Z) (S.size + x) = ((blanksB j ++ wd ++ [10]).getD x 0).toNat := fun x hx => mkB_next S Z _ x (by rw [hl]; exact hx)
  have g1 : ∀ x, x < j → byt (S ++ mkB (blanksB j ++ wd ++ [10]) ++ Z) (S.size + x) = 32 := fun x hx => by
    rw [hB x (by omega)]
    have : (blanksB j ++ wd ++ [10]).getD x 0 = 32 := by
      rw [List.append_assoc]
      simp only [List.getD]
      rw [List.getElem?_append_left (by rw [blanks_len]; exact hx)]
      simp [blanksB, hx]
    rw [this]; rfl
  have g2 : ∀ x, x < wd.length → byt (S ++ mkB (blanksB j ++ wd ++ [10]) ++ Z) (S.size + (j + x)) = (wd.getD x 0).toNat := fun x hx => by
    rw [hB (j + x) (by omega)]
    congr 1
    simp only [List.getD]
    rw [List.append_assoc, List.getElem?_append_right (by rw [blanks_len]; omega), blanks_len, Nat.add_sub_cancel_left, List.getElem?_append_left hx]
  have g3 : byt (S ++ mkB (blanksB j ++ wd ++ [10]) ++ Z) (S.size + (j + wd.length)) = 10 := by
    rw [hB (j + wd.length) (by omega)]
    have : (blanksB j ++ wd ++ [10]).getD (j + wd.length) 0 = 10 := by
      simp only [List.getD]
      rw [List.getElem?_append_right (by rw [List.length_append, blanks_len]; exact Nat.le_refl _), List.length_append, blanks_len, Nat.sub_self]
      rfl
    rw [this]; rfl
  have h0 : wd.getD 0 0 = wd.headD 0 := by cases wd <;> rfl
  have gw : U.white (byt (S ++ mkB (blanksB j ++ wd ++ [10]) ++ Z) (S.size + j) : Int) = false := by
    have := g2 0 hp
    rw [Nat.add_zero, h0] at this
    rw [this]; exact hw
  have gn : ∀ x, x < j + wd.length → byt (S ++ mkB (blanksB j ++ wd ++ [10]) ++ Z) (S.size + x) ≠ 10 := fun x hx => by
    by_cases hxj : x < j
    · rw [g1 x hxj]; decide
    · have := g2 (x - j) (by omega)
      rw [show j + (x - j) = x by omega] at this
      rw [this]
      have hm : wd.getD (x - j) 0 ∈ wd := by
        simp only [List.getD]
        rw [List.getElem?_eq_getElem (by omega), Option.getD_some]
        exact List.getElem_mem _
      intro e
      exact h10 _ hm (UInt8.toNat_inj.1 (by rw [e]; rfl))
  generalize (S ++ mkB (blanksB j ++ wd ++ [10]) ++ Z) = s at *
  refine ⟨⟨by omega, by omega, fun x h1 h2 => ?_, .inr (by rw [Nat.add_assoc]; exact g3)⟩, ⟨by omega, fun x hx => g1 x hx, .inr fun e => ?_⟩, ⟨by omega, by omega, fun x h1 h2 => ?_, .inr gw⟩, fun hj => ?_⟩
  · have := gn (x - S.size) (by omega)
    rwa [show S.size + (x - S.size) = x by omega] at this
  · rw [e] at gw; cases gw
  · have := g1 (x - S.size) (by omega)
    rw [show S.size + (x - S.size) = x by omega] at this
    rw [this]; rfl
  · have h32 := g1 0 hj
    rw [Nat.add_zero] at h32
    have hm : ∀ ch : Nat, ch ≠ 32 → mk3 s S.size (S.size + j + wd.length) ch = false := fun ch hc => by
      unfold mk3
      rw [decide_eq_false_iff_not]
      exact fun e => hc (by rw [← e.2.1, h32])
    unfold kindN
    rw [hm 45 (by decide), hm 46 (by decide)]
    constructor <;> (simp; split <;> (try split) <;> omega)
theorem row_text (S Z : ByteArray) (w k : Nat) (wd : List UInt8) (hne : wd ≠ []) : rowT (S ++ mkB (blanksB (w + k) ++ wd ++ [10]) ++ Z) S.size (S.size + (w + k) + wd.length) w = blanksB k ++ wd := by
  have hp : 0 < wd.length := List.length_pos_iff.2 hne
  unfold rowT
  rw [if_pos (by omega), show S.size + (w + k) + wd.length = S.size + (w + k + wd.length) by omega, piece_behind S _ Z (by omega) (by rw [mkB_size, List.length_append, List.length_append, blanks_len]; omega)]
  show ((blanksB (w + k) ++ wd ++ [10]).drop w).take (w + k + wd.length - w) = _
  have e : blanksB (w + k) = blanksB w ++ blanksB k := by unfold blanksB; rw [List.replicate_append_replicate]
  have hw : (blanksB w).length = w := blanks_len w
  rw [e, List.append_assoc, List.append_assoc]
  generalize blanksB w = bw at hw ⊢
  subst hw
  rw [List.drop_left, ← List.append_assoc, show bw.length + k + wd.length - bw.length = (blanksB k ++ wd).length by rw [List.length_append, blanks_len]; omega, List.take_left]
/-- A row of words, not less far in. -/
theorem KB.text {fo : Bool} {n st : Int} {hh : Bool} {note : List UInt8} {d c w : Nat} {S : ByteArray} {R : List (List UInt8)} {L m : Nat} {f : Bool} (h : KB fo n st hh note d c w S R L m f) (k : Nat) (wd : List UInt8) (hw0 : 0 < w) (hne : wd ≠ []) (h10 : ∀ b ∈ wd, b ≠ 10) (hw : U.white ((wd.headD 0).toNat : Int) = false) :
    KB fo n st hh note d c w (S ++ mkB (blanksB (w + k) ++ wd ++ [10])) (R ++ [blanksB k ++ wd]) (R.length + 1) 1 false := by
  obtain ⟨h0, hs, hl, H⟩ := h
  have hp : 0 < wd.length := List.length_pos_iff.2 hne
  have hsz : (S ++ mkB (blanksB (w + k) ++ wd ++ [10])).size = S.size + (w + k) + wd.length + 1 := by rw [ByteArray.size_append, mkB_size, List.length_append, List.length_append, blanks_len]; show _ + (_ + 1) = _; omega
  have hr := fun Z => row_k S Z (w + k) wd hne h10 hw
  refine ⟨S.size + (w + k) + wd.length, by omega, ?_, fun Z T E C hB => ?_⟩
  · have h1 := hr ByteArray.empty
    rw [ByteArray.append_empty] at h1
    have h10' : byt (S ++ mkB (blanksB (w + k) ++ wd ++ [10])) (S.size + (w + k) + wd.length) = 10 := by
      rcases h1.e.2.2.2 with e | e
      · omega
      · exact e
    rw [hsz, lfs_lf h10']
  · have hr1 := hr Z
    rw [ByteArray.append_assoc] at hB hr1 ⊢
    refine H _ T E C (.row (b := S.size + (w + k) + wd.length) (i := w + k) (q := S.size + (w + k)) ?_ hr1.e hr1.i hr1.f (.inr ⟨by omega, by omega, hr1.k (by omega)⟩) ?_)
    · have := hr1.e.2.1
      omega
    · have ht := row_text S Z w k wd hne
      rw [ByteArray.append_assoc] at ht
      rw [ht, if_pos (by omega), if_pos (by omega), decide_eq_false (by omega), Bool.and_false]
      rw [hsz] at hB
      exact hB
/-- A row of nothing. -/
theorem KB.blank {fo : Bool} {n st : Int} {hh : Bool} {note : List UInt8} {d c w : Nat} {S : ByteArray} {R : List (List UInt8)} {L m : Nat} {f : Bool} (h : KB fo n st hh note d c w S R L m f) : KB fo n st hh note d c w (S ++ mkB [10]) (R ++ [[]]) L (m + 1) f := by
  obtain ⟨h0, hs, hl, H⟩ := h
  have hsz : (S ++ mkB [10]).size = S.size + 1 := by rw [ByteArray.size_append, mkB_size]; rfl
  have hb : ∀ Z, byt (S ++ (mkB [10] ++ Z)) S.size = 10 := fun Z => by
    have := mkB_next S Z [10] 0 (by decide)
    rw [Nat.add_zero, ByteArray.append_assoc] at this
    exact this
  refine ⟨h0, by omega, ?_, fun Z T E C hB => ?_⟩
  · have h1 := hb ByteArray.empty
    rw [ByteArray.append_empty] at h1
    rw [hsz, lfs_lf h1, lfs_app _ (Nat.le_refl _), lfs_app _ hs, hl]
    omega
  · rw [ByteArray.append_assoc] at hB ⊢
    have hsz2 : S.size < (S ++ (mkB [10] ++ Z)).size := by rw [ByteArray.size_append, ByteArray.size_append, mkB_size]; show _ < _ + (1 + _); omega
    refine H _ T E C (.row (b := S.size) (i := 0) (q := S.size) hsz2 ⟨Nat.le_refl _, by omega, fun j h1 h2 => by omega, .inr (hb Z)⟩ ⟨Nat.le_refl _, fun j hj => by omega, .inl rfl⟩ ⟨Nat.le_refl _, Nat.le_refl _, fun j h1 h2 => by omega, .inl rfl⟩ (.inl ⟨rfl, fun e => by omega⟩) ?_)
    have ht : rowT (S ++ (mkB [10] ++ Z)) S.size S.size w = [] := by unfold rowT; rw [if_neg (by omega)]
    rw [ht, if_neg (by omega), if_neg (by omega), Nat.add_zero, show decide (S.size + 0 = S.size) = true from decide_eq_true rfl, Bool.and_true]
    rw [hsz] at hB
    exact hB
/-- The end. -/
theorem KB.over {fo : Bool} {n st : Int} {hh : Bool} {note : List UInt8} {d c w : Nat} {S : ByteArray} {R : List (List UInt8)} {L m : Nat} {f : Bool} (h : KB fo n st hh note d c w S R L m f) : BlocZ S 0 n st (bTxt c fo R L m) hh note (S.size : Int) 0 := by
  obtain ⟨h0, hs, hl, H⟩ := h
  have := H ByteArray.empty (bTxt c fo R L m) S.size 0
  rw [ByteArray.append_empty] at this
  exact this (.over (Nat.le_refl _) (by rw [show lfs S S.size - lfs S h0 = m by omega]) rfl rfl)
/-- A row that is less far in. -/
theorem KB.stop {fo : Bool} {n st : Int} {hh : Bool} {note : List UInt8} {d c w : Nat} {S : ByteArray} {R : List (List UInt8)} {L m : Nat} {f : Bool} (h : KB fo n st hh note d c w S R L m f) (j : Nat) (wd : List UInt8) (hj : j < w) (hne : wd ≠ []) (h10 : ∀ b ∈ wd, b ≠ 10) (hw : U.white ((wd.headD 0).toNat : Int) = false) :
    BlocZ (S ++ mkB (blanksB j ++ wd ++ [10])) 0 n st (bTxt c fo R L m) hh note (S.size : Int) 0 := by
  obtain ⟨h0, hs, hl, H⟩ := h
  have hp : 0 < wd.length := List.length_pos_iff.2 hne
  have hr := row_k S ByteArray.empty j wd hne h10 hw
  rw [ByteArray.append_empty] at hr
  have h1 := hr.e.2.1
  refine H _ _ _ _ (.stop (by omega) hr.e hr.i hr.f (by omega) (.inl hj) ?_ rfl rfl)
  rw [lfs_app _ (Nat.le_refl _), lfs_app _ hs, show lfs S S.size - lfs S h0 = m by omega]
/-- The first row, where no digit says how far rows are in. -/
theorem KB0.first {fo : Bool} {n st : Int} {hh : Bool} {note : List UInt8} {c : Nat} {S : ByteArray} (h : KB0 fo n st hh note 0 c S) (x : Nat) (wd : List UInt8) (hx : n < (x : Int)) (hx0 : 0 < x) (hne : wd ≠ []) (h10 : ∀ b ∈ wd, b ≠ 10) (hw : U.white ((wd.headD 0).toNat : Int) = false) :
    KB fo n st hh note 0 c x (S ++ mkB (blanksB (x + 0) ++ wd ++ [10])) [blanksB 0 ++ wd] 1 1 false := by
  have hp : 0 < wd.length := List.length_pos_iff.2 hne
  have hsz : (S ++ mkB (blanksB (x + 0) ++ wd ++ [10])).size = S.size + (x + 0) + wd.length + 1 := by rw [ByteArray.size_append, mkB_size, List.length_append, List.length_append, blanks_len]; show _ + (_ + 1) = _; omega
  have hr := fun Z => row_k S Z (x + 0) wd hne h10 hw
  refine ⟨S.size + (x + 0) + wd.length, by omega, ?_, fun Z T E C hB => ?_⟩
  · have h1 := hr ByteArray.empty
    rw [ByteArray.append_empty] at h1
    have h10' : byt (S ++ mkB (blanksB (x + 0) ++ wd ++ [10])) (S.size + (x + 0) + wd.length) = 10 := by
      rcases h1.e.2.2.2 with e | e
      · omega
      · exact e
    rw [hsz, lfs_lf h10']
  · have hr1 := hr Z
    rw [ByteArray.append_assoc] at hB hr1 ⊢
    have hlt : S.size < (S ++ (mkB (blanksB (x + 0) ++ wd ++ [10]) ++ Z)).size := by
      have := hr1.e.2.1
      omega
    refine h _ x T E C ?_ (.row (b := S.size + (x + 0) + wd.length) (i := x + 0) (q := S.size + (x + 0)) hlt hr1.e hr1.i hr1.f (.inr ⟨by omega, by omega, hr1.k (by omega)⟩) ?_)
    · rw [if_pos rfl]
      refine .text hlt hr1.e hr1.i hr1.f (by omega) ?_
      rw [if_pos ⟨by omega, hr1.k (by omega)⟩, Nat.add_zero]
    · have ht := row_text S Z x 0 wd hne
      rw [ByteArray.append_assoc] at ht
      rw [ht, if_pos (by omega), if_pos (by omega), decide_eq_false (by omega), Bool.and_false]
      rw [hsz] at hB
      exact hB
/-- Where a digit says it. -/
theorem KB0.digit {fo : Bool} {n st : Int} {hh : Bool} {note : List UInt8} {d c : Nat} {S : ByteArray} (h : KB0 fo n st hh note d c S) (hd : d ≠ 0) (w : Nat) (hw : w = d + (max n 0).toNat) (hn : (max n 0).toNat ≤ S.size) : KB fo n st hh note d c w S [] 0 0 true := by
  refine ⟨S.size, Nat.le_refl _, rfl, fun Z T E C hB => h Z w T E C ?_ hB⟩
  rw [if_neg hd, hw, ByteArray.size_append]
  omega
/-- A header, by its own bytes. -/
theorem KB0.of (S : ByteArray) (n st : Int) (hh : Bool) (note : List UInt8) (t q p d c e : Nat) (fo : Bool) (h1 : 1 < S.size) (hb : byt S 0 = 124 ∨ byt S 0 = 62) (hS : S.size = t + 1) (hE : RowE S 0 t) (hx : hStep S (1, 0, 0) = (p, d, c) ∧ p < S.size ∧ hStep S (p, d, c) = (p, d, c) ∨ (∃ y, hStep S (1, 0, 0) = y ∧ y.1 < S.size ∧ hStep S y = (p, d, c))) (hF : FirN S p t q) (hN : (q = t ∧ hh = false ∧ note = []) ∨ (q < t ∧ byt S q = 35 ∧ p < q ∧ hh = true ∧ BakN S (q + 1) t e ∧ note = pieceL S (q + 1) e ∧ ∀ Z, BakN (S ++ Z) (q + 1) t e ∧ pieceL (S ++ Z) (q + 1) e = note)) (hst : st = if byt S 0 = 62 then 5 else 4) (hfo : fo = decide (byt S 0 = 62)) : KB0 fo n st hh note d c S := by
  intro Z w T E C hw hB
  have hb0 : byt (S ++ Z) 0 = byt S 0 := byt_app (by omega)
  have hm : min (t + 1) (S ++ Z).size = S.size := by rw [ByteArray.size_append, hS]; omega
  have hh1 : hdr (S ++ Z) 0 = (p, d, c) := by
    have h0 : hStep (S ++ Z) (0 + 1, 0, 0) = hStep S (1, 0, 0) := hStep_app (S := S) (x := (1, 0, 0)) h1
    unfold hdr
    rw [h0]
    rcases hx with ⟨k1, k2, k3⟩ | ⟨y, k1, k2, k3⟩
    · rw [k1, hStep_app k2, k3]
    · rw [k1, hStep_app k2, k3]
  refine .inl ⟨?_, ?_⟩
  · unfold blocB
    rw [decide_eq_true_eq]
    refine ⟨by omega, by rw [ByteArray.size_append]; show 0 < _; omega, ?_⟩
    show byt (S ++ Z) 0 = 124 ∨ byt (S ++ Z) 0 = 62
    rw [hb0]; exact hb
  · show BlocI (S ++ Z) 0 n st T hh note (E : Int) C
    refine ⟨t, q, p, d, c, hh1, hE.app (by omega), hF.app (by omega), .inr ⟨?_, by rw [hb0]; exact hst, w, E, rfl, by rw [hm]; exact hw, by rw [hm, hb0, ← hfo]; exact hB⟩⟩
    rcases hN with k | ⟨k1, k2, k3, k4, k5, k6, k7⟩
    · exact .inl k
    · exact .inr ⟨k1, by rw [byt_app (by omega)]; exact k2, k3, k4, e, (k7 Z).1, (k7 Z).2.symm⟩
end Go.Proofs.YtkpccoijegklbaaDoor
