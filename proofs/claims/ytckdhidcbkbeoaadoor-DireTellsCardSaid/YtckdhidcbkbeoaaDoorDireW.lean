/- Plain facts on directives that are told again, with White between their words (nothing of the program). Conditions: none beside those that each theorem writes out. -/
import Derived.Test.YtckdhidcbkbeoaaDoorDireQ
namespace Go.Proofs.YtckdhidcbkbeoaaDoor.U

theorem tWord_head : ∀ (l : List UInt8), (tWord l).1 = [] ∨ (tWord l).1.headD 0 ≠ 35 := by
  intro l
  induction l with
  | nil => exact .inl rfl
  | cons b l ih =>
    rw [tWord_cons]
    split
    · exact ih
    · split
      · exact .inl rfl
      · next h => exact .inr h
/-- No word of a row begins a comment. -/
theorem words_head : ∀ (n : Nat) (l : List UInt8), l.length ≤ n → ∀ w ∈ tWords (tNote true l).1, w.headD 0 ≠ 35 := by
  intro n
  induction n with
  | zero =>
    intro l h w hw
    obtain rfl : l = [] := List.eq_nil_of_length_eq_zero (by omega)
    cases hw
  | succ n ih =>
    intro l h w hw
    obtain ⟨f, r, hfr⟩ : ∃ f r, tWord l = (f, r) := ⟨_, _, rfl⟩
    obtain ⟨h1, h2⟩ := split_step _ _ _ hfr
    have hh := tWord_head l
    rw [hfr] at hh
    by_cases hf : f = []
    · rw [(h1 hf).1] at hw
      cases hw
    · obtain ⟨e1, _, e3⟩ := h2 hf
      rw [e1] at hw
      rcases List.mem_cons.1 hw with rfl | hw
      · rcases hh with hh | hh
        · exact absurd hh hf
        · exact hh
      · exact ih r (by omega) w hw
/-- White, at least one byte. -/
def isGap (e : List UInt8) : Prop := e ≠ [] ∧ ∀ b ∈ e, wh b = true
theorem gap_edge {e : List UInt8} (h : isGap e) (m : List UInt8) : Edge (e ++ m) := by
  obtain ⟨h1, h2⟩ := h
  cases e with
  | nil => exact absurd rfl h1
  | cons b e =>
    intro c r hc
    obtain ⟨rfl, _⟩ := List.cons.inj hc
    exact h2 _ List.mem_cons_self
theorem note_white : ∀ (e : List UInt8), (∀ b ∈ e, wh b = true) → ∀ m, tNote true (e ++ m) = (e ++ (tNote true m).1, (tNote true m).2) := by
  intro e
  induction e with
  | nil => intro _ m; rfl
  | cons b e ih =>
    intro h m
    have hb := h b List.mem_cons_self
    rw [List.cons_append, tNote_cons, if_neg (fun hh => wh_ne35 hb hh.1), hb, ih (fun c hc => h c (List.mem_cons_of_mem _ hc))]
    rfl
theorem words_white : ∀ (e : List UInt8), (∀ b ∈ e, wh b = true) → ∀ m, wordsC [] (e ++ m) = wordsC [] m := by
  intro e
  induction e with
  | nil => intro _ m; rfl
  | cons b e ih =>
    intro h m
    rw [List.cons_append, wordsC_cons, if_pos (h b List.mem_cons_self), if_pos rfl, ih (fun c hc => h c (List.mem_cons_of_mem _ hc))]
theorem note_word {x m : List UInt8} (hx : isWord x) (h35 : x.headD 0 ≠ 35) (hm : Edge m) : tNote true (x ++ m) = (x ++ (tNote true m).1, (tNote true m).2) := by
  cases x with
  | nil => exact absurd rfl hx.1
  | cons b x =>
    have hb := hx.2 b List.mem_cons_self
    have h35 : b ≠ 35 := h35
    rw [List.cons_append, tNote_cons, if_neg (fun hh => h35 hh.1), hb, note_run _ (fun c hc => hx.2 c (List.mem_cons_of_mem _ hc)), note_edge hm false true]
    rfl
theorem words_word1 {x m : List UInt8} (hx : isWord x) (hm : Edge m) : wordsC [] (x ++ m) = x :: wordsC [] m := by
  rw [wordsC_run _ _ hx.2, List.nil_append, wordsC_end hx.1 hm]
theorem tail_cons (sep x : List UInt8) (r : List (List UInt8)) : Lib.joinTail sep (x :: r) = sep ++ (x ++ Lib.joinTail sep r) := by simp [Lib.joinTail, List.append_assoc]
theorem tail_edge {sep : List UInt8} (hs : isGap sep) (r : List (List UInt8)) {m : List UInt8} (hm : Edge m) : Edge (Lib.joinTail sep r ++ m) := by
  cases r with
  | nil => exact hm
  | cons x r => rw [tail_cons, List.append_assoc]; exact gap_edge hs _
theorem tail_note {sep : List UInt8} (hs : isGap sep) {m : List UInt8} (hm : Edge m) : ∀ (r : List (List UInt8)), (∀ x ∈ r, isWord x ∧ x.headD 0 ≠ 35) →
    tNote true (Lib.joinTail sep r ++ m) = (Lib.joinTail sep r ++ (tNote true m).1, (tNote true m).2) := by
  intro r
  induction r with
  | nil => intro _; rfl
  | cons x r ih =>
    intro h
    have hx := h x List.mem_cons_self
    rw [tail_cons, List.append_assoc, List.append_assoc, note_white sep hs.2, note_word hx.1 hx.2 (tail_edge hs r hm), ih (fun y hy => h y (List.mem_cons_of_mem _ hy))]
    simp only [List.append_assoc]
theorem tail_words {sep : List UInt8} (hs : isGap sep) {m : List UInt8} (hm : Edge m) : ∀ (r : List (List UInt8)), (∀ x ∈ r, isWord x ∧ x.headD 0 ≠ 35) →
    wordsC [] (Lib.joinTail sep r ++ m) = r ++ wordsC [] m := by
  intro r
  induction r with
  | nil => intro _; rfl
  | cons x r ih =>
    intro h
    have hx := h x List.mem_cons_self
    rw [tail_cons, List.append_assoc, List.append_assoc, words_white sep hs.2, words_word1 hx.1 (tail_edge hs r hm), ih (fun y hy => h y (List.mem_cons_of_mem _ hy))]
    rfl
/-- Words with White between: the row's words and comment. -/
theorem join_read {sep : List UInt8} (hs : isGap sep) {m : List UInt8} (hm : Edge m) {x : List UInt8} {r : List (List UInt8)} (h : ∀ y ∈ x :: r, isWord y ∧ y.headD 0 ≠ 35) :
    tWords (tNote true (Lib.join (x :: r) sep ++ m)).1 = (x :: r) ++ tWords (tNote true m).1 ∧ (tNote true (Lib.join (x :: r) sep ++ m)).2 = (tNote true m).2 := by
  have hx := h x List.mem_cons_self
  have hr := fun y hy => h y (List.mem_cons_of_mem _ hy)
  have e : tNote true (Lib.join (x :: r) sep ++ m) = (x ++ (Lib.joinTail sep r ++ (tNote true m).1), (tNote true m).2) := by
    rw [Lib.join_cons, List.append_assoc, note_word hx.1 hx.2 (tail_edge hs r hm), tail_note hs hm r hr]
  rw [e]
  refine ⟨?_, rfl⟩
  show wordsC [] _ = _
  rw [words_word1 hx.1 (tail_edge hs r (note_edge1 hm true)), tail_words hs (note_edge1 hm true) r hr]
  rfl

/-! ### More White -/
/-- A text with more ahead of each blank. -/
def spr (e l : List UInt8) : List UInt8 := l.flatMap fun b => if b = 32 then e ++ [32] else [b]
theorem spr_nil (e : List UInt8) : spr e [] = [] := rfl
theorem spr_append (e a b : List UInt8) : spr e (a ++ b) = spr e a ++ spr e b := List.flatMap_append
theorem spr_one (e : List UInt8) (b : UInt8) : spr e [b] = if b = 32 then e ++ [32] else [b] := by unfold spr; rw [List.flatMap_cons, List.flatMap_nil, List.append_nil]
theorem spr_word (e : List UInt8) : ∀ (x : List UInt8), (∀ b ∈ x, wh b = false) → spr e x = x := by
  intro x
  induction x with
  | nil => intro _; rfl
  | cons b x ih =>
    intro h
    have hb : b ≠ 32 := by
      rintro rfl
      exact absurd (h 32 List.mem_cons_self) (by decide)
    rw [show b :: x = [b] ++ x from rfl, spr_append, spr_one, if_neg hb, ih (fun c hc => h c (List.mem_cons_of_mem _ hc))]
theorem spr_len (e : List UInt8) : ∀ (l : List UInt8), (spr e l).length ≤ (e.length + 1) * l.length := by
  intro l
  induction l with
  | nil => exact Nat.zero_le _
  | cons b l ih =>
    rw [show b :: l = [b] ++ l from rfl, spr_append, List.length_append, spr_one, List.length_append, Nat.mul_add]
    have : (if b = 32 then e ++ [32] else [b]).length ≤ (e.length + 1) * [b].length := by
      split <;> simp
    omega
theorem spr_tail (e : List UInt8) : ∀ (r : List (List UInt8)), (∀ x ∈ r, isWord x) → spr e (Lib.joinTail [32] r) = Lib.joinTail (e ++ [32]) r := by
  intro r
  induction r with
  | nil => intro _; rfl
  | cons x r ih =>
    intro h
    rw [tail_cons, tail_cons, spr_append, spr_append, spr_one, if_pos rfl, spr_word e x (h x List.mem_cons_self).2, ih (fun y hy => h y (List.mem_cons_of_mem _ hy))]
theorem spr_join (e : List UInt8) {x : List UInt8} {r : List (List UInt8)} (h : ∀ y ∈ x :: r, isWord y) : spr e (Lib.join (x :: r) [32]) = Lib.join (x :: r) (e ++ [32]) := by
  rw [Lib.join_cons, Lib.join_cons, spr_append, spr_word e x (h x List.mem_cons_self).2, spr_tail e r (fun y hy => h y (List.mem_cons_of_mem _ hy))]

/-- A directive that is told is read as it is, whatever White stands between its words, and behind, and with a comment. -/
theorem read_again {l D T e : List UInt8} {q : Bool} (h : tRead l = (D, T, q, 0)) (he : isGap e) :
    tRead (spr e D ++ e) = (D, [], false, 0) ∧ tRead (spr e D ++ (e ++ (35 :: 113 :: e))) = (D, [113], true, 0) := by
  unfold tRead at h
  split at h
  · next hc =>
    obtain ⟨h37, hf⟩ := hc
    simp only [Prod.mk.injEq] at h
    obtain ⟨rfl, _⟩ := h
    obtain ⟨w0, r, hw⟩ := words_ne h37
    have hall : ∀ y ∈ (37 :: w0) :: r, isWord y ∧ y.headD 0 ≠ 35 := by
      intro y hy
      rw [← hw] at hy
      exact ⟨words_word _ y hy, words_head _ l (Nat.le_refl _) y hy⟩
    rw [hw] at hf ⊢
    rw [spr_join e (fun y hy => (hall y hy).1)]
    have hsep : isGap (e ++ [32]) := ⟨by simp, fun b hb => by
      rcases List.mem_append.1 hb with hb | hb
      · exact he.2 b hb
      · rw [List.mem_singleton] at hb; subst hb; decide⟩
    have hhd : ∀ m, (Lib.join ((37 :: w0) :: r) (e ++ [32]) ++ m).headD 0 = 37 := by
      intro m; rw [Lib.join_cons]; rfl
    have n1 : tNote true e = (e, []) := by
      have := note_white e he.2 []
      rwa [List.append_nil, tNote_nil, List.append_nil] at this
    have n2 : tNote true (e ++ (35 :: 113 :: e)) = (e, 35 :: 113 :: e) := by
      rw [note_white e he.2, tNote_cons, if_pos ⟨rfl, rfl⟩, List.append_nil]
    have we : tWords e = [] := by
      have := words_white e he.2 []
      rwa [List.append_nil] at this
    have E1 : Edge e := by have := gap_edge he []; rwa [List.append_nil] at this
    obtain ⟨a1, a2⟩ := join_read hsep E1 hall
    obtain ⟨b1, b2⟩ := join_read hsep (gap_edge he (35 :: 113 :: e)) hall
    rw [n1] at a1 a2
    rw [n2] at b1 b2
    rw [we, List.append_nil] at a1 b1
    have hcut : tCut (113 :: e) = [113] := by
      refine cut_take _ 1 (by simp) (fun j b hj hb => ?_) (fun b _ hb => ?_)
      · obtain ⟨k, rfl⟩ : ∃ k, j = k + 1 := ⟨j - 1, by omega⟩
        rw [List.getElem?_cons_succ] at hb
        exact he.2 b (List.mem_of_getElem? hb)
      · have : b = 113 := by simpa using hb.symm
        subst this
        decide
    constructor
    · unfold tRead
      rw [a1, a2, if_pos ⟨hhd _, hf⟩]
      rfl
    · unfold tRead
      rw [b1, b2, if_pos ⟨hhd _, hf⟩]
      show (_, tCut (113 :: e), true, (0 : Int)) = _
      rw [hcut]
  · simp at h

end Go.Proofs.YtckdhidcbkbeoaaDoor.U
