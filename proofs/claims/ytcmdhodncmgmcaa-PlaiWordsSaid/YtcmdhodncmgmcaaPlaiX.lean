/- Words on rows, read as a plain scalar: plain facts (nothing of the program). Conditions: none beside those that each theorem writes out. -/
import Derived.Test.YtcmdhodncmgmcaaPlaiLaws3
import Derived.Test.YtcmdhodncmgmcaaFoldW
namespace Go.Proofs.Ytcmdhodncmgmcaa
open Go.RowKit

/-! ### A text within another one -/
/-- From the place o on the text is M; behind M it ends, or has an LF. -/
def Mid (s : ByteArray) (o : Nat) (M : ByteArray) : Prop := o + M.size ≤ s.size ∧ (∀ j, j < M.size → byt s (o + j) = byt M j) ∧ (o + M.size = s.size ∨ byt s (o + M.size) = 10)
theorem Mid.rowE {s M : ByteArray} {o a b : Nat} (h : Mid s o M) (hE : RowE M a b) : RowE s (o + a) (o + b) := by
  obtain ⟨h1, h2, h3⟩ := h
  obtain ⟨k1, k2, k3, k4⟩ := hE
  refine ⟨by omega, by omega, fun j hj ha => ?_, ?_⟩
  · have := h2 (j - o) (by omega)
    rw [show o + (j - o) = j by omega] at this
    rw [this]
    exact k3 _ (by omega) (by omega)
  · by_cases hb : b = M.size
    · subst hb; exact h3
    · right
      rw [h2 b (by omega)]
      exact k4.resolve_left hb
theorem Mid.inN {s M : ByteArray} {o a b n : Nat} (h : Mid s o M) (hb : b ≤ M.size) (hN : InN M a b n) : InN s (o + a) (o + b) n := by
  obtain ⟨k1, k2, k3⟩ := hN
  refine ⟨by omega, fun j hj => ?_, ?_⟩
  · rw [Nat.add_assoc, h.2.1 (a + j) (by omega)]
    exact k2 j hj
  · by_cases e : a + n = b
    · left; omega
    · right
      rw [Nat.add_assoc, h.2.1 (a + n) (by omega)]
      exact k3.resolve_left e
theorem Mid.firN {s M : ByteArray} {o a b p : Nat} (h : Mid s o M) (hb : b ≤ M.size) (hF : FirN M a b p) : FirN s (o + a) (o + b) (o + p) := by
  obtain ⟨k1, k2, k3, k4⟩ := hF
  refine ⟨by omega, by omega, fun j hj ha => ?_, ?_⟩
  · have := h.2.1 (j - o) (by omega)
    rw [show o + (j - o) = j by omega] at this
    rw [this]
    exact k3 _ (by omega) (by omega)
  · by_cases e : p = b
    · left; omega
    · right
      rw [h.2.1 p (by omega)]
      exact k4.resolve_left e
theorem Mid.mk3 {s M : ByteArray} {o a b : Nat} (h : Mid s o M) (hb : b ≤ M.size) (ch : Nat) : mk3 s (o + a) (o + b) ch = mk3 M a b ch := by
  unfold Go.Proofs.Ytcmdhodncmgmcaa.mk3
  rw [decide_eq_decide]
  constructor
  · rintro ⟨k1, k2, k3, k4, k5⟩
    have e0 := h.2.1 a (by omega)
    have e1 := h.2.1 (a + 1) (by omega)
    have e2 := h.2.1 (a + 2) (by omega)
    refine ⟨by omega, by rw [← e0]; exact k2, by rw [← e1]; exact k3, by rw [← e2]; exact k4, ?_⟩
    rcases k5 with k5 | k5
    · left; omega
    · by_cases e : a + 3 = b
      · exact .inl e
      · right
        rw [← h.2.1 (a + 3) (by omega)]
        exact k5
  · rintro ⟨k1, k2, k3, k4, k5⟩
    have e0 := h.2.1 a (by omega)
    have e1 := h.2.1 (a + 1) (by omega)
    have e2 := h.2.1 (a + 2) (by omega)
    refine ⟨by omega, by rw [e0]; exact k2, by rw [Nat.add_assoc, e1]; exact k3, by rw [Nat.add_assoc, e2]; exact k4, ?_⟩
    rcases k5 with k5 | k5
    · left; omega
    · by_cases e : a + 3 = b
      · left; omega
      · right
        rw [Nat.add_assoc, h.2.1 (a + 3) (by omega)]
        exact k5
theorem Mid.kind {s M : ByteArray} {o a b p : Nat} (h : Mid s o M) (hb : b ≤ M.size) (hp : p < b) : kindN s (o + a) (o + b) (o + p) = kindN M a b p := by
  unfold kindN
  rw [h.mk3 hb, h.mk3 hb, h.2.1 p (by omega), if_neg (show ¬ o + p = o + b by omega), if_neg (show ¬ p = b by omega)]
theorem Mid.stop {s M : ByteArray} {o q : Nat} {fl : Bool} (h : Mid s o M) (h0 : 0 < q) (hq : q < M.size) (h2 : q + 1 < M.size ∨ byt M q ≠ 58) : stopB s fl (o + q) = stopB M fl q := by
  unfold stopB
  rw [h.2.1 q hq, show o + q - 1 = o + (q - 1) by omega, h.2.1 (q - 1) (by omega), decide_eq_true (show 0 < o + q by omega), decide_eq_true h0]
  rcases h2 with h2 | h2
  · have h1 := h.1
    rw [show (((o + q : Nat) : Int) + 1) = ((o + (q + 1) : Nat) : Int) by omega, endsB_in s _ (by omega), show ((q : Int) + 1) = ((q + 1 : Nat) : Int) by omega, endsB_in M _ h2, Nat.add_assoc, h.2.1 (q + 1) h2]
  · rw [decide_eq_false h2, Bool.false_and, Bool.false_and]
theorem Mid.stpN {s M : ByteArray} {o a : Nat} {fl : Bool} (h : Mid s o M) (h0 : 0 < a) (hl : byt M (M.size - 1) ≠ 58) (hS : StpN M fl a M.size) : StpN s fl (o + a) (o + M.size) := by
  obtain ⟨k1, k2, k3, k4⟩ := hS
  refine ⟨by omega, h.1, fun j hj ha => ?_, ?_⟩
  · obtain ⟨i, rfl⟩ : ∃ i, j = o + i := ⟨j - o, by omega⟩
    rw [h.stop (by omega) (by omega) ?_]
    · exact k3 i (by omega) (by omega)
    · by_cases e : i + 1 < M.size
      · exact .inl e
      · rw [show i = M.size - 1 by omega]
        exact .inr hl
  · rcases h.2.2 with e | e
    · exact .inl e
    · right
      unfold stopB
      rw [decide_eq_true e, Bool.true_or]
theorem Mid.bakN {s M : ByteArray} {o a p e : Nat} (h : Mid s o M) (hp : p ≤ M.size) (hB : BakN M a p e) : BakN s (o + a) (o + p) (o + e) := by
  obtain ⟨k1, k2, k3, k4⟩ := hB
  refine ⟨by omega, by omega, fun j hj ha => ?_, ?_⟩
  · obtain ⟨i, rfl⟩ : ∃ i, j = o + i := ⟨j - o, by omega⟩
    rw [h.2.1 i (by omega)]
    exact k3 i (by omega) (by omega)
  · by_cases e2 : e = a
    · left; omega
    · right
      rw [show o + e - 1 = o + (e - 1) by omega, h.2.1 (e - 1) (by omega)]
      exact k4.resolve_left e2
theorem Mid.blk {s M : ByteArray} {o g b p : Nat} (h : Mid s o M) (hg : ∀ j, j < g → byt M (1 + j) = 10) (hgs : 1 + g < M.size) (hE : RowE M (1 + g) b) (hF : FirN M (1 + g) b p) (hb : b ≤ M.size) (hp : p ≠ b) :
    ∀ d, d ≤ g → Blk s (o + 1 + (g - d)) d (o + 1 + g) := by
  intro d
  have h1 := h.1
  induction d with
  | zero =>
    intro _
    rw [Nat.sub_zero, Nat.add_assoc]
    exact .text (by omega) (h.rowE hE) (h.firN hb hF) (by omega)
  | succ d ih =>
    intro hd
    have e := h.2.1 (1 + (g - (d + 1))) (by omega)
    rw [← Nat.add_assoc, hg _ (by omega)] at e
    refine .more (b := o + 1 + (g - (d + 1))) (by omega) ⟨Nat.le_refl _, by omega, fun j h1 h2 => by omega, .inr e⟩ ⟨Nat.le_refl _, Nat.le_refl _, fun j h1 h2 => by omega, .inl rfl⟩ ?_
    rw [show o + 1 + (g - (d + 1)) + 1 = o + 1 + (g - d) by omega]
    exact ih (by omega)
theorem byt_behind (S M : ByteArray) (j : Nat) : byt (S ++ M) (S.size + j) = byt M j := by
  rw [byt_list, byt_list, ByteArray.data_append, Array.toList_append, List.getD, List.getD, List.getElem?_append_right (by rw [Lib.size_eq]; omega), Lib.size_eq, Nat.add_sub_cancel_left]
/-- Nothing, or an LF at its beginning. -/
def LfB (Z : ByteArray) : Prop := Z.size = 0 ∨ (0 < Z.size ∧ byt Z 0 = 10)
theorem Mid.of (S F Z : ByteArray) (hZ : LfB Z) : Mid (S ++ (F ++ Z)) S.size F := by
  refine ⟨by rw [ByteArray.size_append, ByteArray.size_append]; omega, fun j hj => by rw [byt_behind, byt_app hj], ?_⟩
  rcases hZ with h | ⟨h0, h⟩
  · left
    rw [ByteArray.size_append, ByteArray.size_append]
    omega
  · right
    rw [byt_behind]
    have := byt_behind F Z 0
    rw [Nat.add_zero] at this
    rw [this, h]
theorem piece_mid (S F Z : ByteArray) {p q : Nat} (hp : p ≤ q) (hq : q ≤ F.size) : pieceL (S ++ (F ++ Z)) (S.size + p) (S.size + q) = pieceL F p q := by
  unfold pieceL
  rw [ByteArray.data_append, Array.toList_append, ByteArray.data_append, Array.toList_append, Lib.size_eq S, ← List.drop_drop, List.drop_left, Nat.add_sub_add_left, List.drop_append_of_le_length (by rw [← Lib.size_eq]; omega), List.take_append_of_le_length (by rw [List.length_drop, ← Lib.size_eq]; omega)]

/-! ### Rows of words -/
def blanksB (i : Nat) : List UInt8 := List.replicate i 32
/-- A row's end, blank rows, blanks, a word. -/
def rowF (g i : Nat) (m : List UInt8) : ByteArray := ⟨#[10]⟩ ++ (mkB (U.feeds g) ++ (mkB (blanksB i) ++ mkB m))
def rowOk (g i : Nat) (m : List UInt8) (F : ByteArray) (fl : Bool) : Prop :=
  byt F 0 = 10 ∧ (∀ j, j < g → byt F (1 + j) = 10) ∧ RowE F (1 + g) F.size ∧ InN F (1 + g) F.size i ∧ FirN F (1 + g) F.size (1 + g + i) ∧ kindN F (1 + g) F.size (1 + g + i) = 5 ∧ StpN F fl (1 + g + i) F.size ∧ BakN F (1 + g + i) F.size F.size ∧ byt F (F.size - 1) ≠ 58 ∧ 1 + g + i < F.size ∧ pieceL F (1 + g + i) F.size = m
instance (g i : Nat) (m : List UInt8) (F : ByteArray) (fl : Bool) : Decidable (rowOk g i m F fl) := by unfold rowOk; infer_instance
set_option maxRecDepth 100000 in
theorem row_fact (m : List UInt8) (g i : Nat) (fl : Bool) (hm : m ∈ wordL) (hg : g < 3) (hi : i < 4) (h0 : i ≠ 0) : rowOk g i m (rowF g i m) fl := by
  have H : ∀ m ∈ wordL, ∀ g : Fin 3, ∀ i : Fin 4, i.val ≠ 0 → rowOk g.val i.val m (rowF g.val i.val m) true ∧ rowOk g.val i.val m (rowF g.val i.val m) false := by decide +kernel
  obtain ⟨h1, h2⟩ := H m hm ⟨g, hg⟩ ⟨i, hi⟩ h0
  cases fl with
  | true => exact h1
  | false => exact h2
/-- A row that is not further in, and another one. -/
def lastF (g : Nat) (m : List UInt8) : ByteArray := rowF g 0 m ++ ⟨#[10, 32, 32, 32, 122]⟩
def lastOk (g : Nat) (m : List UInt8) (F : ByteArray) : Prop :=
  byt F 0 = 10 ∧ (∀ j, j < g → byt F (1 + j) = 10) ∧ RowE F (1 + g) (1 + g + m.length) ∧ InN F (1 + g) (1 + g + m.length) 0 ∧ FirN F (1 + g) (1 + g + m.length) (1 + g) ∧ 1 + g + m.length < F.size ∧ 0 < m.length
instance (g : Nat) (m : List UInt8) (F : ByteArray) : Decidable (lastOk g m F) := by unfold lastOk; infer_instance
set_option maxRecDepth 100000 in
theorem last_fact (m : List UInt8) (g : Nat) (hm : m ∈ wordL) (hg : g < 3) : lastOk g m (lastF g m) := by
  have H : ∀ m ∈ wordL, ∀ g : Fin 3, lastOk g.val m (lastF g.val m) := by decide +kernel
  exact H m hm ⟨g, hg⟩
set_option maxRecDepth 100000 in
theorem first_fact (m : List UInt8) (fl : Bool) (hm : m ∈ wordL) : endsB (mkB m) ((0 : Nat) : Int) = false ∧ U.indic (byt (mkB m) 0 : Int) = false ∧ StpN (mkB m) fl 0 (mkB m).size ∧ BakN (mkB m) 0 (mkB m).size (mkB m).size ∧ byt (mkB m) ((mkB m).size - 1) ≠ 58 ∧ 0 < (mkB m).size ∧ pieceL (mkB m) 0 (mkB m).size = m := by
  have H : ∀ m ∈ wordL, ∀ fl : Bool, endsB (mkB m) ((0 : Nat) : Int) = false ∧ U.indic (byt (mkB m) 0 : Int) = false ∧ StpN (mkB m) fl 0 (mkB m).size ∧ BakN (mkB m) 0 (mkB m).size (mkB m).size ∧ byt (mkB m) ((mkB m).size - 1) ≠ 58 ∧ 0 < (mkB m).size ∧ pieceL (mkB m) 0 (mkB m).size = m := by decide +kernel
  exact H m hm fl
/-- The text so far is read as V, and goes on at its end. -/
def Kont (S : ByteArray) (V : List UInt8) (fl one : Bool) : Prop :=
  ∃ (xs : List (List UInt8)) (T0 r : List UInt8), Worded xs T0 ∧ r ≠ [] ∧ U.whiteL r = false ∧ V = T0 ++ r ∧
    ∀ (Z : ByteArray) (T : List UInt8) (E : Nat) (O : Bool) (C : Int), LfB Z → (∀ g, PlaiG (S ++ Z) 0 fl T E O C g S.size (xs ++ [r]) one) → PlaiZ (S ++ Z) 0 0 fl T (E : Int) O C
theorem Kont.first (m : List UInt8) (fl : Bool) (hm : m ∈ wordL) : Kont (mkB m) m fl true := by
  obtain ⟨f1, f2, f3, f4, f5, f6, f7⟩ := first_fact m fl hm
  obtain ⟨w1, w2, _, _⟩ := word_row m hm
  refine ⟨[], [], m, Worded.nil, w1, w2, rfl, fun Z T E O C hZ H => ?_⟩
  refine PlaiZ.of (k := 0) (e := (mkB m).size) ?_ ⟨(mkB m).size, ⟨Nat.zero_le _, by rw [ByteArray.size_append]; omega, fun j hj ha => ?_, ?_⟩, ⟨Nat.zero_le _, Nat.le_refl _, fun j h1 h2 => by omega, ?_⟩⟩ ?_
  · unfold begB
    rw [ends_app f6, f1, Int.toNat_natCast, byt_app f6, f2]
    rfl
  · rw [stop_app hj ?_]
    · exact f3.2.2.1 j hj ha
    · by_cases e : j + 1 < (mkB m).size
      · exact .inl e
      · rw [show j = (mkB m).size - 1 by omega]
        exact .inr f5
  · rcases hZ with h | ⟨h0, h⟩
    · left
      rw [ByteArray.size_append, h, Nat.add_zero]
    · right
      have := byt_behind (mkB m) Z 0
      rw [Nat.add_zero, h] at this
      unfold stopB
      rw [decide_eq_true this, Bool.true_or]
  · rw [byt_app (by omega)]
    exact f4.2.2.2
  · have e := piece_mid ByteArray.empty (mkB m) Z (Nat.zero_le _) (Nat.le_refl _)
    rw [f7] at e
    have e2 : pieceL (mkB m ++ Z) 0 (mkB m).size = m := by
      rw [ByteArray.empty_append] at e
      simpa using e
    rw [e2]
    exact H _
theorem Kont.next {S : ByteArray} {V : List UInt8} {fl one : Bool} (h : Kont S V fl one) (m : List UInt8) (g i : Nat) (hm : m ∈ wordL) (hg : g < 3) (hi : i < 4) (h0 : i ≠ 0) : Kont (S ++ rowF g i m) (V ++ U.sep g ++ m) fl false := by
  obtain ⟨xs, T0, r, k1, k2, k3, rfl, k4⟩ := h
  obtain ⟨f1, f2, f3, f4, f5, f6, f7, f8, f9, f10, f11⟩ := row_fact m g i fl hm hg hi h0
  obtain ⟨w1, w2, _, _⟩ := word_row m hm
  obtain ⟨F, hF⟩ : ∃ F, rowF g i m = F := ⟨_, rfl⟩
  rw [hF] at f1 f2 f3 f4 f5 f6 f7 f8 f9 f10 f11 ⊢
  refine ⟨xs ++ [r] ++ U.blanksL g, T0 ++ r ++ U.sep g, m, k1.step k2 k3 g, w1, w2, rfl, fun Z T E O C hZ H => ?_⟩
  rw [ByteArray.append_assoc] at H ⊢
  refine k4 (F ++ Z) T E O C (.inr ⟨by rw [ByteArray.size_append]; omega, by rw [byt_app (by omega)]; exact f1⟩) (fun gg => ?_)
  cases gg with
  | zero => trivial
  | succ gg =>
    have hM := Mid.of S F Z hZ
    have hl : byt (S ++ (F ++ Z)) S.size = 10 := by have := hM.2.1 0 (by omega); rw [Nat.add_zero] at this; rw [this]; exact f1
    have hsz := hM.1
    have hblk := hM.blk f2 (by omega) f3 f5 (Nat.le_refl _) (by omega) g (Nat.le_refl _)
    rw [Nat.sub_self, Nat.add_zero, Nat.add_assoc] at hblk
    refine PlaiG.more (t := S.size) (k := g) (a := S.size + (1 + g)) (b := S.size + F.size) (i := i) (p := S.size + (1 + g + i)) (q := S.size + F.size) (c := S.size + F.size)
      ⟨Nat.le_refl _, by omega, fun j h1 h2 => by omega, .inr hl⟩ ⟨Nat.le_refl _, Nat.le_refl _, fun j h1 h2 => by omega, .inl rfl⟩ (by omega) hblk (by omega)
      (hM.rowE f3) (hM.inN (Nat.le_refl _) f4) (hM.firN (Nat.le_refl _) f5) ?_ (by omega) ⟨_, hM.stpN (by omega) f9 f7, hM.bakN (Nat.le_refl _) f8⟩ (by omega) ⟨Nat.le_refl _, Nat.le_refl _, fun j h1 h2 => by omega, .inl rfl⟩ (fun h => by omega) ?_
    · rw [hM.kind (Nat.le_refl _) f10]
      exact f6
    · rw [piece_mid S F Z (by omega) (Nat.le_refl _), f11]
      have := H gg
      rw [ByteArray.size_append] at this
      rw [← List.append_assoc]
      exact this
theorem Kont.stop {S : ByteArray} {V : List UInt8} {fl one : Bool} (h : Kont S V fl one) : PlaiZ S 0 0 fl V (S.size : Int) one 0 := by
  obtain ⟨xs, T0, r, k1, k2, k3, rfl, k4⟩ := h
  have := k4 ByteArray.empty (T0 ++ r) S.size one 0 (.inl rfl) (fun g => by
    cases g with
    | zero => trivial
    | succ g =>
      rw [← (k1.last k2 k3).1, ByteArray.append_empty]
      exact PlaiG.stop (t := S.size) (f := S.size) ⟨Nat.le_refl _, Nat.le_refl _, fun j h1 h2 => by omega, .inl rfl⟩ ⟨Nat.le_refl _, Nat.le_refl _, fun j h1 h2 => by omega, .inl rfl⟩ (.inr (Nat.le_refl _)))
  rw [ByteArray.append_empty] at this
  exact this
theorem Kont.less {S : ByteArray} {V : List UInt8} {fl one : Bool} (h : Kont S V fl one) (m : List UInt8) (g : Nat) (hm : m ∈ wordL) (hg : g < 3) : PlaiZ (S ++ lastF g m) 0 0 fl V (S.size : Int) one 0 := by
  obtain ⟨xs, T0, r, k1, k2, k3, rfl, k4⟩ := h
  obtain ⟨f1, f2, f3, f4, f5, f6, f7⟩ := last_fact m g hm hg
  obtain ⟨F, hF⟩ : ∃ F, lastF g m = F := ⟨_, rfl⟩
  rw [hF] at f1 f2 f3 f4 f5 f6 ⊢
  refine k4 F (T0 ++ r) S.size one 0 (.inr ⟨by omega, f1⟩) (fun gg => ?_)
  cases gg with
  | zero => trivial
  | succ gg =>
    have hM := Mid.of S F ByteArray.empty (.inl rfl)
    rw [ByteArray.append_empty] at hM
    have hl : byt (S ++ F) S.size = 10 := by have := hM.2.1 0 (by omega); rw [Nat.add_zero] at this; rw [this]; exact f1
    have hsz := hM.1
    have hblk := hM.blk f2 (by omega) f3 f5 (by omega) (by omega) g (Nat.le_refl _)
    rw [Nat.sub_self, Nat.add_zero, Nat.add_assoc] at hblk
    rw [← (k1.last k2 k3).1]
    exact PlaiG.less (t := S.size) (k := g) (a := S.size + (1 + g)) (b := S.size + (1 + g + m.length)) (i := 0) (p := S.size + (1 + g))
      ⟨Nat.le_refl _, by omega, fun j h1 h2 => by omega, .inr hl⟩ ⟨Nat.le_refl _, Nat.le_refl _, fun j h1 h2 => by omega, .inl rfl⟩ (by omega) hblk (by omega)
      (hM.rowE f3) (hM.inN (by omega) f4) (hM.firN (by omega) f5) (.inr (by decide))

end Go.Proofs.Ytcmdhodncmgmcaa
