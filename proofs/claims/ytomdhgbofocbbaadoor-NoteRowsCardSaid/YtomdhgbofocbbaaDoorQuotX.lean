/- A quoted text put together piece by piece, and how it is read: plain facts (nothing of the program). Conditions: none beside those that each theorem writes out. -/
import Derived.Test.YtomdhgbofocbbaaDoorQuotP
import Derived.Test.YtomdhgbofocbbaaDoorMid
import Derived.Test.YtomdhgbofocbbaaDoorFoldW
namespace Go.Proofs.YtomdhgbofocbbaaDoor
open Go.RowKit

/-- The text so far, in double quotes, with the column q: at its end the rows R are behind, t and White w of the row (m: at a row's beginning). -/
def KQ (q : Nat) (n : Int) (S : ByteArray) (m : Bool) (R : List (List UInt8 × Bool)) (t w : List UInt8) : Prop :=
  ∀ (Z : ByteArray) (T : List UInt8) (E : Nat) (O : Bool) (C : Int), QZ (S ++ Z) q n T E O C S.size m R t w → QuoZ (S ++ Z) 0 n T (E : Int) O C
/-- The same, if something that is no White stands behind. -/
def KW (q : Nat) (n : Int) (S : ByteArray) (R : List (List UInt8 × Bool)) : Prop :=
  ∀ (Z : ByteArray) (T : List UInt8) (E : Nat) (O : Bool) (C : Int), 0 < Z.size → U.white (byt Z 0 : Int) = false → byt Z 0 ≠ 10 → QZ (S ++ Z) q n T E O C S.size false R [] [] → QuoZ (S ++ Z) 0 n T (E : Int) O C
theorem KQ.lead {q : Nat} {n : Int} {S : ByteArray} {R : List (List UInt8 × Bool)} (h : KQ q n S false R [] []) : KW q n S R :=
  fun Z T E O C _ _ _ H => h Z T E O C H
theorem KQ.first (q : Nat) (n : Int) (hq : q = 39 ∨ q = 34) : KQ q n ⟨#[q.toUInt8]⟩ false [] [] [] := by
  intro Z T E O C H
  have hb : byt ((⟨#[q.toUInt8]⟩ : ByteArray) ++ Z) 0 = q := by
    rw [byt_app (by show 0 < 1; omega)]
    rcases hq with rfl | rfl <;> rfl
  refine QuoZ.of (k := 0) (by rw [ByteArray.size_append]; show 0 < 1 + _; omega) (by rw [hb]; exact hq) ?_
  rw [hb]
  exact H
/-- A byte behind a text. -/
theorem byt_next (S M Z : ByteArray) (j : Nat) (h : j < M.size) : byt (S ++ M ++ Z) (S.size + j) = byt M j := by
  rw [ByteArray.append_assoc, byt_behind, byt_app h]
theorem size_next (S M Z : ByteArray) : (S ++ M ++ Z).size = S.size + M.size + Z.size := by
  rw [ByteArray.size_append, ByteArray.size_append]
theorem bq_byt (s : ByteArray) (p : Nat) : (bq s p).toNat = byt s p := (byt_list s p).symm
theorem bq_of {s : ByteArray} {p : Nat} {b : UInt8} (h : byt s p = b.toNat) : bq s p = b := UInt8.toNat_inj.1 ((bq_byt s p).trans h)
/-- A byte that may stand in a quoted text as it is, and is no White. -/
def litB (q : Nat) (b : UInt8) : Bool := decide (b.toNat ≠ q ∧ b.toNat ≠ 10 ∧ ¬ (q = 34 ∧ b.toNat = 92)) && !(U.white (b.toNat : Int))
theorem litB_iff (q : Nat) (b : UInt8) : litB q b = true ↔ b.toNat ≠ q ∧ b.toNat ≠ 10 ∧ ¬ (q = 34 ∧ b.toNat = 92) ∧ U.white (b.toNat : Int) = false := by
  unfold litB
  rw [Bool.and_eq_true, decide_eq_true_eq, Bool.not_eq_true']
  constructor
  · rintro ⟨⟨h1, h2, h3⟩, h4⟩; exact ⟨h1, h2, h3, h4⟩
  · rintro ⟨h1, h2, h3, h4⟩; exact ⟨⟨h1, h2, h3⟩, h4⟩
/-- Over such bytes. -/
theorem QZ.lits {s : ByteArray} {q : Nat} {n : Int} {T : List UInt8} {E : Nat} {O : Bool} {C : Int} {R : List (List UInt8 × Bool)} : ∀ (m : List UInt8) (p : Nat) (t w : List UInt8), m ≠ [] → (∀ b ∈ m, litB q b = true) → (∀ j, j < m.length → byt s (p + j) = (m.getD j 0).toNat) → p + m.length ≤ s.size → QZ s q n T E O C (p + m.length) false R (t ++ w ++ m) [] → QZ s q n T E O C p false R t w := by
  intro m
  induction m with
  | nil => intro p t w h; exact absurd rfl h
  | cons b m ih =>
    intro p t w _ hl hb hs H
    obtain ⟨h1, h2, h3, h4⟩ := (litB_iff q b).1 (hl b (by simp))
    have hb0 : byt s p = b.toNat := by have := hb 0 (by simp); rw [Nat.add_zero] at this; simpa using this
    rw [List.length_cons] at hs H
    refine .lit (by omega) (by rw [hb0]; exact h1) (by rw [hb0]; exact h2) (by rw [hb0]; exact h4) (by rw [hb0]; exact h3) ?_
    rw [bq_of hb0]
    by_cases hm : m = []
    · subst hm
      exact H
    · refine ih (p + 1) _ _ hm (fun x hx => hl x (by simp [hx])) (fun j hj => ?_) (by omega) ?_
      · have := hb (j + 1) (by simp; omega)
        rw [show p + 1 + j = p + (j + 1) by omega]
        simpa using this
      · rw [show p + 1 + m.length = p + (m.length + 1) by omega]
        simpa [List.append_assoc] using H
/-- Over White. -/
theorem QZ.whites {s : ByteArray} {q : Nat} {n : Int} {T : List UInt8} {E : Nat} {O : Bool} {C : Int} {R : List (List UInt8 × Bool)} : ∀ (m : List UInt8) (p : Nat) (t w : List UInt8), (∀ b ∈ m, U.white (b.toNat : Int) = true) → (∀ j, j < m.length → byt s (p + j) = (m.getD j 0).toNat) → p + m.length ≤ s.size → QZ s q n T E O C (p + m.length) false R t (w ++ m) → QZ s q n T E O C p false R t w := by
  intro m
  induction m with
  | nil => intro p t w _ _ _ H; simpa using H
  | cons b m ih =>
    intro p t w hl hb hs H
    have hb0 : byt s p = b.toNat := by have := hb 0 (by simp); rw [Nat.add_zero] at this; simpa using this
    rw [List.length_cons] at hs H
    refine .white (by omega) (by rw [hb0]; exact hl b (by simp)) ?_
    rw [bq_of hb0]
    refine ih (p + 1) _ _ (fun x hx => hl x (by simp [hx])) (fun j hj => ?_) (by omega) ?_
    · have := hb (j + 1) (by simp; omega)
      rw [show p + 1 + j = p + (j + 1) by omega]
      simpa using this
    · rw [show p + 1 + m.length = p + (m.length + 1) by omega]
      simpa [List.append_assoc] using H
theorem mkB_size (m : List UInt8) : (mkB m).size = m.length := by simp [mkB, ByteArray.size]
theorem mkB_append (a b : List UInt8) : mkB a ++ mkB b = mkB (a ++ b) := by unfold mkB; rw [ByteArray.mk_append_mk]
theorem mkB_byt (m : List UInt8) (j : Nat) : byt (mkB m) j = (m.getD j 0).toNat := by rw [byt_list]; rfl
theorem mkB_next (S Z : ByteArray) (m : List UInt8) (j : Nat) (h : j < m.length) : byt (S ++ mkB m ++ Z) (S.size + j) = (m.getD j 0).toNat := by
  rw [byt_next S (mkB m) Z j (by rw [mkB_size]; exact h), mkB_byt]
theorem KQ.word {q : Nat} {n : Int} {S : ByteArray} {R : List (List UInt8 × Bool)} {t w : List UInt8} (h : KQ q n S false R t w) (m : List UInt8) (hm : m ≠ []) (hl : ∀ b ∈ m, litB q b = true) : KQ q n (S ++ mkB m) false R (t ++ w ++ m) [] := by
  intro Z T E O C H
  rw [ByteArray.append_assoc] at H ⊢
  refine h _ T E O C (QZ.lits m _ t w hm hl (fun j hj => ?_) ?_ ?_)
  · rw [← ByteArray.append_assoc]; exact mkB_next S Z m j hj
  · rw [ByteArray.size_append, ByteArray.size_append, mkB_size]; omega
  · rw [ByteArray.size_append, mkB_size] at H; exact H
theorem KW.word {q : Nat} {n : Int} {S : ByteArray} {R : List (List UInt8 × Bool)} (h : KW q n S R) (m : List UInt8) (hm : m ≠ []) (hl : ∀ b ∈ m, litB q b = true) : KQ q n (S ++ mkB m) false R m [] := by
  intro Z T E O C H
  cases m with
  | nil => exact absurd rfl hm
  | cons b m =>
    obtain ⟨h1, h2, h3, h4⟩ := (litB_iff q b).1 (hl b (by simp))
    have hb : byt (mkB (b :: m) ++ Z) 0 = b.toNat := by
      rw [byt_app (by rw [mkB_size]; simp), mkB_byt]; rfl
    rw [ByteArray.append_assoc] at H ⊢
    refine h _ T E O C (by rw [ByteArray.size_append, mkB_size]; simp; omega) (by rw [hb]; exact h4) (by rw [hb]; exact h2) (QZ.lits (b :: m) _ [] [] hm hl (fun j hj => ?_) ?_ ?_)
    · rw [← ByteArray.append_assoc]; exact mkB_next S Z (b :: m) j hj
    · rw [ByteArray.size_append, ByteArray.size_append, mkB_size]; omega
    · rw [ByteArray.size_append, mkB_size] at H; exact H
theorem KQ.whites {q : Nat} {n : Int} {S : ByteArray} {R : List (List UInt8 × Bool)} {t w : List UInt8} (h : KQ q n S false R t w) (m : List UInt8) (hl : ∀ b ∈ m, U.white (b.toNat : Int) = true) : KQ q n (S ++ mkB m) false R t (w ++ m) := by
  intro Z T E O C H
  rw [ByteArray.append_assoc] at H ⊢
  refine h _ T E O C (QZ.whites m _ t w hl (fun j hj => ?_) ?_ ?_)
  · rw [← ByteArray.append_assoc]; exact mkB_next S Z m j hj
  · rw [ByteArray.size_append, ByteArray.size_append, mkB_size]; omega
  · rw [ByteArray.size_append, mkB_size] at H; exact H
theorem KQ.lf {q : Nat} {n : Int} {S : ByteArray} {R : List (List UInt8 × Bool)} {t w : List UInt8} (h : KQ q n S false R t w) : KQ q n (S ++ ⟨#[10]⟩) true (R ++ [(t, false)]) [] [] := by
  intro Z T E O C H
  rw [ByteArray.append_assoc] at H ⊢
  refine h _ T E O C (.lf ?_ ?_ ?_)
  · rw [ByteArray.size_append, ByteArray.size_append]; show S.size < S.size + (1 + _); omega
  · have := byt_next S ⟨#[10]⟩ Z 0 (by show 0 < 1; omega)
    rw [Nat.add_zero, ByteArray.append_assoc] at this
    rw [this]; rfl
  · rw [ByteArray.size_append] at H; exact H
theorem KQ.goes {n : Int} {S : ByteArray} {R : List (List UInt8 × Bool)} {t w : List UInt8} (h : KQ 34 n S false R t w) : KQ 34 n (S ++ ⟨#[92]⟩ ++ ⟨#[10]⟩) true (R ++ [(t ++ w, true)]) [] [] := by
  intro Z T E O C H
  have e : S ++ ⟨#[92]⟩ ++ ⟨#[10]⟩ = S ++ ⟨#[92, 10]⟩ := by rw [ByteArray.append_assoc]; rfl
  rw [e] at H ⊢
  have h0 := byt_next S ⟨#[92, 10]⟩ Z 0 (by show 0 < 2; omega)
  have h1 := byt_next S ⟨#[92, 10]⟩ Z 1 (by show 1 < 2; omega)
  rw [Nat.add_zero] at h0
  rw [ByteArray.append_assoc] at H h0 h1 ⊢
  refine h _ T E O C (.goes rfl ?_ (by rw [h0]; rfl) ?_ (by rw [h1]; rfl) ?_)
  · rw [ByteArray.size_append, ByteArray.size_append]; show S.size < S.size + (2 + _); omega
  · rw [ByteArray.size_append, ByteArray.size_append]; show S.size + 1 < S.size + (2 + _); omega
  · rw [ByteArray.size_append] at H; exact H
theorem blanks_len (k : Nat) : (blanksB k).length = k := List.length_replicate
theorem blanks_get (k j : Nat) (h : j < k) : (blanksB k).getD j 0 = 32 := by
  unfold blanksB
  simp [List.getD, h]
/-- A row of blanks alone. -/
theorem KQ.blank {q : Nat} {n : Int} {S : ByteArray} {R : List (List UInt8 × Bool)} {t w : List UInt8} (h : KQ q n S true R t w) (k : Nat) : KQ q n (S ++ mkB (blanksB k) ++ ⟨#[10]⟩) true (R ++ [([], false)]) [] [] := by
  intro Z T E O C H
  have e : S ++ mkB (blanksB k) ++ ⟨#[10]⟩ = S ++ mkB (blanksB k ++ [10]) := by
    rw [ByteArray.append_assoc]; exact congrArg (S ++ ·) (mkB_append _ [10])
  rw [e] at H ⊢
  have hl : (blanksB k ++ [10]).length = k + 1 := by rw [List.length_append, blanks_len]; rfl
  have hb : ∀ j, j < k → byt (S ++ mkB (blanksB k ++ [10]) ++ Z) (S.size + j) = 32 := fun j hj => by
    rw [mkB_next S Z _ j (by omega)]
    simp [List.getD, List.getElem?_append_left, blanks_len, hj]
    simp [blanksB]
  have hk : byt (S ++ mkB (blanksB k ++ [10]) ++ Z) (S.size + k) = 10 := by
    rw [mkB_next S Z _ k (by omega)]
    simp [List.getD, blanks_len]
  have hsz : (S ++ mkB (blanksB k ++ [10]) ++ Z).size = S.size + (k + 1) + Z.size := by rw [size_next, mkB_size, hl]
  rw [ByteArray.append_assoc] at H hb hk hsz ⊢
  obtain ⟨i, hi⟩ := InN.ex (S ++ (mkB (blanksB k ++ [10]) ++ Z)) S.size (S.size + k) (by omega)
  have hF : FirN (S ++ (mkB (blanksB k ++ [10]) ++ Z)) S.size (S.size + k) (S.size + k) := ⟨by omega, Nat.le_refl _, fun j h1 h2 => by
    have := hb (j - S.size) (by omega)
    rw [show S.size + (j - S.size) = j by omega] at this
    rw [this]; rfl, .inl rfl⟩
  have hk1 := (kind_blank hF).2 rfl
  refine h _ T E O C (.row (b := S.size + k) (f := S.size + k) (i := i) ⟨by omega, by omega, fun j h1 h2 => ?_, .inr hk⟩ hF hi (by rw [hk1]; decide) (by rw [hk1]; decide) (.inl hk1) (.lf (by omega) hk ?_))
  · have := hb (j - S.size) (by omega)
    rw [show S.size + (j - S.size) = j by omega] at this
    rw [this]; decide
  · rw [ByteArray.size_append, mkB_size, hl] at H
    exact H
/-- Into a row by a blank or more, and by more White. -/
theorem KQ.into {q : Nat} {n : Int} {S : ByteArray} {R : List (List UInt8 × Bool)} {t w : List UInt8} (h : KQ q n S true R t w) (hn : n ≤ 0) (k : Nat) (hk : 0 < k) (v : List UInt8) (hv : ∀ b ∈ v, U.white (b.toNat : Int) = true) : KW q n (S ++ mkB (blanksB k ++ v)) R := by
  intro Z T E O C hZ1 hZ2 hZ3 H
  have hl : (blanksB k ++ v).length = k + v.length := by rw [List.length_append, blanks_len]
  have hb : ∀ j, j < k + v.length → U.white (byt (S ++ mkB (blanksB k ++ v) ++ Z) (S.size + j) : Int) = true := fun j hj => by
    rw [mkB_next S Z _ j (by omega)]
    by_cases hjk : j < k
    · rw [show (blanksB k ++ v).getD j 0 = 32 by simp [List.getD, List.getElem?_append_left, blanks_len, hjk]; simp [blanksB]]
      rfl
    · refine hv _ ?_
      have hj2 : j - k < v.length := by omega
      have e : (blanksB k ++ v).getD j 0 = v[j - k] := by
        simp only [List.getD]
        rw [List.getElem?_append_right (by rw [blanks_len]; omega), blanks_len, List.getElem?_eq_getElem hj2]
        rfl
      rw [e]
      exact List.getElem_mem _
  have h0 : byt (S ++ mkB (blanksB k ++ v) ++ Z) S.size = 32 := by
    have := mkB_next S Z (blanksB k ++ v) 0 (by omega)
    rw [Nat.add_zero] at this
    rw [this]
    simp [List.getD, List.getElem?_append_left, blanks_len, hk]
    simp [blanksB]
  have hz : byt (S ++ mkB (blanksB k ++ v) ++ Z) (S.size + (k + v.length)) = byt Z 0 := by
    have := byt_behind (S ++ mkB (blanksB k ++ v)) Z 0
    rw [Nat.add_zero, ByteArray.size_append, mkB_size, hl] at this
    exact this
  have hsz : (S ++ mkB (blanksB k ++ v) ++ Z).size = S.size + (k + v.length) + Z.size := by rw [size_next, mkB_size, hl]
  rw [ByteArray.size_append, mkB_size, hl] at H
  rw [ByteArray.append_assoc] at H hb h0 hz hsz ⊢
  obtain ⟨b, hE⟩ := RowE.ex (S ++ (mkB (blanksB k ++ v) ++ Z)) S.size (by omega)
  have hin : S.size + (k + v.length) < b := by
    refine Decidable.byContradiction fun hn => ?_
    have hEb := hE.1
    rcases hE.2.2.2 with e | e
    · omega
    · by_cases hb2 : b = S.size + (k + v.length)
      · rw [hb2, hz] at e
        exact hZ3 e
      · have := hb (b - S.size) (by omega)
        rw [show S.size + (b - S.size) = b by omega, e] at this
        exact absurd this (by decide)
  have hF : FirN (S ++ (mkB (blanksB k ++ v) ++ Z)) S.size b (S.size + (k + v.length)) := ⟨by omega, by omega, fun j h1 h2 => by
    have := hb (j - S.size) (by omega)
    rw [show S.size + (j - S.size) = j by omega] at this
    exact this, .inr (by rw [hz]; exact hZ2)⟩
  obtain ⟨i, hi⟩ := InN.ex (S ++ (mkB (blanksB k ++ v) ++ Z)) S.size b (by omega)
  have hi1 : 0 < i := by
    refine Decidable.byContradiction fun hn => ?_
    obtain rfl : i = 0 := by omega
    rcases hi.2.2 with e | e
    · omega
    · rw [Nat.add_zero, h0] at e
      exact e rfl
  have hm : ∀ ch : Nat, ch ≠ 32 → mk3 (S ++ (mkB (blanksB k ++ v) ++ Z)) S.size b ch = false := fun ch hc => by
    unfold mk3
    rw [decide_eq_false_iff_not]
    rintro ⟨_, e, _⟩
    rw [h0] at e
    exact hc e.symm
  have hk3 : kindN (S ++ (mkB (blanksB k ++ v) ++ Z)) S.size b (S.size + (k + v.length)) ≠ 3 ∧ kindN (S ++ (mkB (blanksB k ++ v) ++ Z)) S.size b (S.size + (k + v.length)) ≠ 4 := by
    unfold kindN
    rw [hm 45 (by decide), hm 46 (by decide), if_neg (by decide), if_neg (by decide)]
    split
    · exact ⟨by decide, by decide⟩
    · split
      · exact ⟨by decide, by decide⟩
      · exact ⟨by decide, by decide⟩
  exact h _ T E O C (.row hE hF hi hk3.1 hk3.2 (.inr (by omega)) H)
/-- The end. -/
theorem KQ.stop {q : Nat} {n : Int} {S : ByteArray} {R : List (List UInt8 × Bool)} {t w : List UInt8} (h : KQ q n S false R t w) (Y : ByteArray) (hq : q = 39 ∨ q = 34) (hY : q = 39 → ¬ (0 < Y.size ∧ byt Y 0 = 39)) : QuoZ (S ++ (⟨#[q.toUInt8]⟩ ++ Y)) 0 n (qT (R ++ [(t ++ w, false)])) ((S.size + 1 : Nat) : Int) R.isEmpty 0 := by
  have h0 := byt_next S ⟨#[q.toUInt8]⟩ Y 0 (by show 0 < 1; omega)
  have h1 := byt_behind (S ++ ⟨#[q.toUInt8]⟩) Y 0
  have hs1 : (S ++ (⟨#[q.toUInt8]⟩ : ByteArray)).size = S.size + 1 := by rw [ByteArray.size_append]; rfl
  rw [Nat.add_zero] at h0
  rw [Nat.add_zero, hs1] at h1
  rw [ByteArray.append_assoc] at h0 h1
  have hsz : (S ++ (⟨#[q.toUInt8]⟩ ++ Y)).size = S.size + 1 + Y.size := by rw [← ByteArray.append_assoc, ByteArray.size_append, hs1]
  refine h _ _ _ _ _ (.done (by omega) ?_ (fun ⟨e1, e2, e3⟩ => hY e1 ⟨by omega, by rw [← h1]; exact e3⟩) rfl rfl rfl rfl)
  rw [h0]
  rcases hq with rfl | rfl <;> rfl

/-! ### What rows of words are -/
/-- Rows laid so far: what they are ahead of a row that is something. -/
def QW (R : List (List UInt8 × Bool)) (T : List UInt8) : Prop := ∀ (r : List UInt8) (x : Bool) (t : List (List UInt8 × Bool)), r ≠ [] → qT (R ++ (r, x) :: t) = T ++ r ++ qGo 0 x t
theorem QW.nil : QW [] [] := fun _ _ _ _ => rfl
def blanksQ (g : Nat) : List (List UInt8 × Bool) := List.replicate g ([], false)
theorem blanksQ_succ (g : Nat) : blanksQ (g + 1) = blanksQ g ++ [([], false)] := List.replicate_succ'
theorem qGo_blanks : ∀ (g m : Nat) (e : Bool) (t : List (List UInt8 × Bool)), t ≠ [] → qGo m e (blanksQ g ++ t) = qGo (m + g) e t
  | 0, m, e, t, _ => rfl
  | g + 1, m, e, t, h => by
    show qGo m e (([], false) :: (blanksQ g ++ t)) = _
    rw [qGo_blank m e (by simp [h]), qGo_blanks g (m + 1) e t h, Nat.add_assoc, Nat.add_comm 1 g]
theorem QW.step {R : List (List UInt8 × Bool)} {T : List UInt8} (h : QW R T) {r : List UInt8} (hr : r ≠ []) (x : Bool) (g : Nat) : QW (R ++ [(r, x)] ++ blanksQ g) (T ++ r ++ if x = true then U.feeds g else U.sep g) := by
  intro r' x' t hr'
  have e : R ++ [(r, x)] ++ blanksQ g ++ (r', x') :: t = R ++ (r, x) :: (blanksQ g ++ (r', x') :: t) := by simp
  rw [e, h r x _ hr, qGo_blanks g 0 x _ (by simp), Nat.zero_add, qGo_row g x x' t (by simp [hr'])]
  simp [List.append_assoc]
theorem QW.last {R : List (List UInt8 × Bool)} {T : List UInt8} (h : QW R T) {r : List UInt8} (hr : r ≠ []) : qT (R ++ [(r, false)]) = T ++ r := by
  rw [h r false [] hr, qGo, List.append_nil]
theorem word_lit : ∀ m ∈ wordL, m ≠ [] ∧ m.length ≤ 3 ∧ ∀ b ∈ m, litB 34 b = true ∧ litB 39 b = true := by decide +kernel

end Go.Proofs.YtomdhgbofocbbaaDoor
