/- Plain facts on words of rows, their comments, and White at their ends (nothing of the program). Conditions: none beside those that each theorem writes out. -/
import Derived.Test.YtckdhidcbkbeoaaDoorSign
import Derived.Lib.SlTrimSet
import Derived.Lib.Join
namespace Go.Proofs.YtckdhidcbkbeoaaDoor.U

/-- Is a byte White? -/
def wh (b : UInt8) : Bool := white (b.toNat : Int)
def nw (b : UInt8) : Bool := !wh b
/-- The words of a text, of the first of which c is read already. -/
def wordsC : List UInt8 → List UInt8 → List (List UInt8)
  | c, [] => if c = [] then [] else [c]
  | c, b :: l => if wh b = true then (if c = [] then wordsC [] l else c :: wordsC [] l) else wordsC (c ++ [b]) l
def tWords (l : List UInt8) : List (List UInt8) := wordsC [] l
/-- What stands ahead of a row's comment, and the comment; does White, or nothing, stand ahead of the row? -/
def tNote : Bool → List UInt8 → List UInt8 × List UInt8
  | _, [] => ([], [])
  | p, b :: l => if b = 35 ∧ p = true then ([], b :: l) else (b :: (tNote (wh b) l).1, (tNote (wh b) l).2)
/-- The first word, and what stands behind it; a comment is none. -/
def tWord : List UInt8 → List UInt8 × List UInt8
  | [] => ([], [])
  | b :: l => if wh b = true then tWord l else if b = 35 then ([], b :: l) else (b :: l.takeWhile nw, l.dropWhile nw)
/-- A text without White at its end. -/
def tCut (l : List UInt8) : List UInt8 := Lib.trimRightS l [32, 9]
/-- Does nothing stand there, or White? -/
def Edge (r : List UInt8) : Prop := ∀ b r', r = b :: r' → wh b = true

theorem wordsC_nil (c : List UInt8) : wordsC c [] = if c = [] then [] else [c] := rfl
theorem wordsC_cons (c : List UInt8) (b : UInt8) (l : List UInt8) : wordsC c (b :: l) = if wh b = true then (if c = [] then wordsC [] l else c :: wordsC [] l) else wordsC (c ++ [b]) l := rfl
theorem tNote_nil (p : Bool) : tNote p [] = ([], []) := rfl
theorem tNote_cons (p : Bool) (b : UInt8) (l : List UInt8) : tNote p (b :: l) = if b = 35 ∧ p = true then ([], b :: l) else (b :: (tNote (wh b) l).1, (tNote (wh b) l).2) := rfl
theorem tWord_cons (b : UInt8) (l : List UInt8) : tWord (b :: l) = if wh b = true then tWord l else if b = 35 then ([], b :: l) else (b :: l.takeWhile nw, l.dropWhile nw) := rfl
theorem wh_iff (b : UInt8) : wh b = true ↔ b = 32 ∨ b = 9 := by
  unfold wh white
  rw [decide_eq_true_eq]
  constructor
  · rintro (h | h)
    · exact .inl (UInt8.toNat_inj.1 (by simpa using (by omega : b.toNat = 32)))
    · exact .inr (UInt8.toNat_inj.1 (by simpa using (by omega : b.toNat = 9)))
  · rintro (rfl | rfl)
    · exact .inl rfl
    · exact .inr rfl
theorem wh_ne35 {b : UInt8} (h : wh b = true) : b ≠ 35 := by
  rcases (wh_iff b).1 h with rfl | rfl <;> decide
theorem wh_high {b : UInt8} (h : 128 ≤ b.toNat) : wh b = false := by
  cases hb : wh b with
  | false => rfl
  | true => rcases (wh_iff b).1 hb with rfl | rfl <;> exact absurd h (by decide)
theorem nw_iff (b : UInt8) : nw b = true ↔ wh b = false := by unfold nw; cases wh b <;> decide
theorem edge_nil : Edge [] := fun b r e => absurd e (by simp)
theorem edge_drop (l : List UInt8) : Edge (l.dropWhile nw) := by
  intro b r e
  induction l with
  | nil => exact absurd e (by simp)
  | cons c l ih =>
    rw [List.dropWhile_cons] at e
    split at e
    · exact ih e
    · next h =>
      obtain ⟨rfl, _⟩ := List.cons.inj e
      unfold nw at h
      cases hc : wh c with
      | true => rfl
      | false => rw [hc] at h; exact absurd rfl h
theorem run_take (l : List UInt8) : ∀ b ∈ l.takeWhile nw, wh b = false := by
  induction l with
  | nil => intro b hb; simp at hb
  | cons c l ih =>
    intro b hb
    rw [List.takeWhile_cons] at hb
    split at hb
    · next h =>
      rcases List.mem_cons.1 hb with rfl | hb
      · exact (nw_iff b).1 h
      · exact ih b hb
    · simp at hb

theorem wordsC_run : ∀ (t c : List UInt8), (∀ b ∈ t, wh b = false) → ∀ r, wordsC c (t ++ r) = wordsC (c ++ t) r := by
  intro t
  induction t with
  | nil => intro c _ r; simp
  | cons b t ih =>
    intro c h r
    rw [List.cons_append, wordsC_cons, if_neg (by rw [h b List.mem_cons_self]; decide), ih _ (fun x hx => h x (List.mem_cons_of_mem _ hx)), List.append_assoc]
    rfl
theorem wordsC_end {c r : List UInt8} (hc : c ≠ []) (hr : Edge r) : wordsC c r = c :: wordsC [] r := by
  cases r with
  | nil => rw [wordsC_nil, if_neg hc, wordsC_nil, if_pos rfl]
  | cons b r =>
    have hb := hr b r rfl
    rw [wordsC_cons, if_pos hb, if_neg hc, wordsC_cons, if_pos hb, if_pos rfl]
theorem note_run : ∀ (t : List UInt8), (∀ b ∈ t, wh b = false) → ∀ r, tNote false (t ++ r) = (t ++ (tNote false r).1, (tNote false r).2) := by
  intro t
  induction t with
  | nil => intro _ r; rfl
  | cons b t ih =>
    intro h r
    rw [List.cons_append, tNote_cons, if_neg (by simp), h b List.mem_cons_self, ih (fun x hx => h x (List.mem_cons_of_mem _ hx))]
    rfl
theorem note_edge {r : List UInt8} (hr : Edge r) (p q : Bool) : tNote p r = tNote q r := by
  cases r with
  | nil => rfl
  | cons b r =>
    have hb := wh_ne35 (hr b r rfl)
    rw [tNote_cons, tNote_cons, if_neg (fun h => hb h.1), if_neg (fun h => hb h.1)]
theorem note_edge1 {r : List UInt8} (hr : Edge r) (p : Bool) : Edge (tNote p r).1 := by
  cases r with
  | nil => exact edge_nil
  | cons b r =>
    have hb := hr b r rfl
    rw [tNote_cons, if_neg (fun h => wh_ne35 hb h.1)]
    intro c r' e
    obtain ⟨rfl, _⟩ := List.cons.inj e
    exact hb
theorem note_cat : ∀ (l : List UInt8) (p : Bool), (tNote p l).1 ++ (tNote p l).2 = l := by
  intro l
  induction l with
  | nil => intro p; rfl
  | cons b l ih =>
    intro p
    rw [tNote_cons]
    split
    · rfl
    · rw [List.cons_append, ih]
theorem note_head : ∀ (l : List UInt8) (p : Bool), (tNote p l).2 = [] ∨ ∃ r, (tNote p l).2 = 35 :: r := by
  intro l
  induction l with
  | nil => intro p; exact .inl rfl
  | cons b l ih =>
    intro p
    rw [tNote_cons]
    split
    · next h => exact .inr ⟨l, by rw [h.1]⟩
    · exact ih _
/-- A row's first word, and the words and the comment that stand behind. -/
theorem split_step : ∀ (l f r : List UInt8), tWord l = (f, r) →
    (f = [] → tWords (tNote true l).1 = [] ∧ (tNote true l).2 = r) ∧
    (f ≠ [] → tWords (tNote true l).1 = f :: tWords (tNote true r).1 ∧ (tNote true l).2 = (tNote true r).2 ∧ r.length < l.length) := by
  intro l
  induction l with
  | nil =>
    intro f r h
    obtain ⟨rfl, rfl⟩ := Prod.mk.inj h
    exact ⟨fun _ => ⟨rfl, rfl⟩, fun h => absurd rfl h⟩
  | cons b l ih =>
    intro f r h
    rw [tWord_cons] at h
    by_cases hw : wh b = true
    · rw [if_pos hw] at h
      obtain ⟨h1, h2⟩ := ih f r h
      have e : tNote true (b :: l) = (b :: (tNote true l).1, (tNote true l).2) := by
        rw [tNote_cons, if_neg (fun h => wh_ne35 hw h.1), hw]
      have e2 : tWords (tNote true (b :: l)).1 = tWords (tNote true l).1 := by
        rw [e]
        show wordsC [] (b :: _) = _
        rw [wordsC_cons, if_pos hw, if_pos rfl]
        rfl
      rw [e2, e]
      exact ⟨h1, fun hf => ⟨(h2 hf).1, (h2 hf).2.1, by have := (h2 hf).2.2; simp only [List.length_cons]; omega⟩⟩
    · rw [if_neg hw] at h
      by_cases hs : b = 35
      · rw [if_pos hs] at h
        obtain ⟨rfl, rfl⟩ := Prod.mk.inj h
        subst hs
        exact ⟨fun _ => ⟨rfl, rfl⟩, fun h => absurd rfl h⟩
      · rw [if_neg hs] at h
        obtain ⟨rfl, rfl⟩ := Prod.mk.inj h
        refine ⟨fun h => absurd h (by simp), fun _ => ?_⟩
        have hw0 : wh b = false := by simpa using hw
        have hE := edge_drop l
        have hl : l = l.takeWhile nw ++ l.dropWhile nw := (List.takeWhile_append_dropWhile).symm
        have e : tNote true (b :: l) = (b :: (l.takeWhile nw ++ (tNote true (l.dropWhile nw)).1), (tNote true (l.dropWhile nw)).2) := by
          rw [tNote_cons, if_neg (fun h => hs h.1), hw0]
          conv => lhs; rw [hl]
          rw [note_run _ (run_take l), note_edge hE false true]
        rw [e]
        refine ⟨?_, rfl, ?_⟩
        · show wordsC [] (b :: _) = _
          rw [wordsC_cons, if_neg hw, wordsC_run _ _ (run_take l), wordsC_end (by simp) (note_edge1 hE true)]
          rfl
        · have := congrArg List.length hl
          rw [List.length_append] at this
          rw [List.length_cons]
          omega
theorem tWord_le : ∀ (l : List UInt8), (tWord l).1.length + (tWord l).2.length ≤ l.length := by
  intro l
  induction l with
  | nil => exact Nat.le_refl _
  | cons b l ih =>
    rw [tWord_cons]
    split
    · rw [List.length_cons]; omega
    · split
      · simp
      · have := congrArg List.length (List.takeWhile_append_dropWhile (p := nw) (l := l))
        rw [List.length_append] at this
        simp only [List.length_cons]
        omega
/-- Words are something, and have no White. -/
def isWord (w : List UInt8) : Prop := w ≠ [] ∧ ∀ b ∈ w, wh b = false
theorem words_are : ∀ (l c : List UInt8), (∀ b ∈ c, wh b = false) → ∀ w ∈ wordsC c l, isWord w := by
  intro l
  induction l with
  | nil =>
    intro c hc w hw
    rw [wordsC_nil] at hw
    split at hw
    · simp at hw
    · next h =>
      rw [List.mem_singleton] at hw
      subst hw
      exact ⟨h, hc⟩
  | cons b l ih =>
    intro c hc w hw
    rw [wordsC_cons] at hw
    split at hw
    · split at hw
      · exact ih [] (by simp) w hw
      · next h =>
        rcases List.mem_cons.1 hw with rfl | hw
        · exact ⟨h, hc⟩
        · exact ih [] (by simp) w hw
    · next h =>
      refine ih _ ?_ w hw
      intro x hx
      rcases List.mem_append.1 hx with hx | hx
      · exact hc x hx
      · rw [List.mem_singleton] at hx
        subst hx
        simpa using h
theorem words_word (l : List UInt8) : ∀ w ∈ tWords l, isWord w := words_are l [] (by simp)
/-- How many bytes words have, a place each. -/
theorem words_len : ∀ (l c : List UInt8), (Lib.join (wordsC c l) [32]).length ≤ c.length + l.length := by
  intro l
  induction l with
  | nil =>
    intro c
    rw [wordsC_nil]
    split
    · simp [Lib.join_nil]
    · rw [Lib.join_one]; simp
  | cons b l ih =>
    intro c
    rw [wordsC_cons]
    split
    · split
      · have := ih []
        simp only [List.length_nil, List.length_cons] at this ⊢
        omega
      · have := ih []
        cases hW : wordsC [] l with
        | nil => rw [Lib.join_one]; simp
        | cons x r =>
          rw [hW, Lib.join_cons] at this
          rw [Lib.join_cons]
          simp only [List.length_append, List.length_nil, List.length_cons, Lib.joinTail, List.map_cons, List.flatten_cons] at this ⊢
          omega
    · have := ih (c ++ [b])
      simp only [List.length_append, List.length_cons, List.length_nil] at this ⊢
      omega
theorem words_count : ∀ (l c : List UInt8), (wordsC c l).length ≤ c.length + l.length := by
  intro l
  induction l with
  | nil =>
    intro c
    rw [wordsC_nil]
    split
    · simp
    · next h =>
      have := List.length_pos_iff.2 h
      simp
      omega
  | cons b l ih =>
    intro c
    rw [wordsC_cons]
    split
    · split
      · have := ih []
        simp only [List.length_nil, List.length_cons] at this ⊢
        omega
      · next h =>
        have := ih []
        have h2 := List.length_pos_iff.2 h
        simp only [List.length_nil, List.length_cons] at this ⊢
        omega
    · have := ih (c ++ [b])
      simp only [List.length_append, List.length_cons, List.length_nil] at this ⊢
      omega

/-! ### White at the end -/
theorem cut_take (l : List UInt8) (k : Nat) (hk : k ≤ l.length) (h1 : ∀ (j : Nat) b, k ≤ j → l[j]? = some b → wh b = true) (h2 : ∀ b, 0 < k → l[k - 1]? = some b → wh b = false) : tCut l = l.take k := by
  have hc : ∀ b : UInt8, ([32, 9] : List UInt8).contains b = wh b := by
    intro b
    rw [Bool.eq_iff_iff, wh_iff, List.contains_iff_mem]
    simp
  refine Lib.trimRightS_take l [32, 9] k hk (fun j b hj hb => ?_) (fun b h0 hb => ?_)
  · rw [hc]; exact h1 j b hj hb
  · rw [hc]; exact h2 b h0 hb
theorem cut_len (l : List UInt8) : (tCut l).length ≤ l.length := by
  unfold tCut Lib.trimRightS
  rw [List.length_reverse]
  refine Nat.le_trans (List.dropWhile_sublist _).length_le ?_
  simp

/-! ### First words, whatever they begin with -/
/-- A text without White at its beginning. -/
def tLeft (l : List UInt8) : List UInt8 := l.dropWhile wh
/-- The first word, and what stands behind it. -/
def tFst (l : List UInt8) : List UInt8 × List UInt8 := ((tLeft l).takeWhile nw, (tLeft l).dropWhile nw)
theorem left_white {b : UInt8} (l : List UInt8) (h : wh b = true) : tLeft (b :: l) = tLeft l := by
  unfold tLeft
  rw [List.dropWhile_cons, if_pos h]
theorem left_here {b : UInt8} (l : List UInt8) (h : wh b = false) : tLeft (b :: l) = b :: l := by
  unfold tLeft
  rw [List.dropWhile_cons, if_neg (by rw [h]; decide)]
theorem left_head : ∀ l : List UInt8, tLeft l = [] ∨ ∃ b r, tLeft l = b :: r ∧ wh b = false := by
  intro l
  induction l with
  | nil => exact .inl rfl
  | cons b l ih =>
    cases h : wh b with
    | true => rw [left_white l h]; exact ih
    | false => exact .inr ⟨b, l, left_here l h, h⟩
theorem left_left (l : List UInt8) : tLeft (tLeft l) = tLeft l := by
  rcases left_head l with h | ⟨b, r, h, hb⟩
  · rw [h]; rfl
  · rw [h, left_here r hb]
theorem left_len (l : List UInt8) : (tLeft l).length ≤ l.length := (List.dropWhile_sublist _).length_le
theorem fst_left (l : List UInt8) : tFst (tLeft l) = tFst l := by
  unfold tFst
  rw [left_left]
theorem fst_none {l : List UInt8} (h : tLeft l = []) : tFst l = ([], []) := by
  unfold tFst
  rw [h]
  rfl
theorem fst_some {l : List UInt8} {b : UInt8} {r : List UInt8} (h : tLeft l = b :: r) (hb : wh b = false) : tFst l = (b :: r.takeWhile nw, r.dropWhile nw) := by
  unfold tFst
  rw [h, List.takeWhile_cons, if_pos ((nw_iff b).2 hb), List.dropWhile_cons, if_pos ((nw_iff b).2 hb)]
theorem fst_le (l : List UInt8) : (tFst l).1.length + (tFst l).2.length ≤ l.length := by
  have h1 := congrArg List.length (List.takeWhile_append_dropWhile (p := nw) (l := tLeft l))
  rw [List.length_append] at h1
  have h2 := left_len l
  show ((tLeft l).takeWhile nw).length + ((tLeft l).dropWhile nw).length ≤ _
  omega
theorem word_note : ∀ (l : List UInt8), (tLeft l = [] ∨ (tLeft l).headD 0 = 35) → tWord l = ([], tLeft l) := by
  intro l
  induction l with
  | nil => intro _; rfl
  | cons b l ih =>
    intro h
    rw [tWord_cons]
    cases hb : wh b with
    | true =>
      rw [left_white l hb] at h ⊢
      rw [if_pos rfl]
      exact ih h
    | false =>
      rw [left_here l hb] at h ⊢
      rw [if_neg (by decide), if_pos (show b = 35 from h.resolve_left (by simp))]
theorem word_fst : ∀ (l : List UInt8), tLeft l ≠ [] → (tLeft l).headD 0 ≠ 35 → tWord l = tFst l := by
  intro l
  induction l with
  | nil => intro h; exact absurd rfl h
  | cons b l ih =>
    intro h h2
    rw [tWord_cons]
    cases hb : wh b with
    | true =>
      rw [left_white l hb] at h h2
      rw [if_pos rfl, ih h h2]
      unfold tFst
      rw [left_white l hb]
    | false =>
      rw [left_here l hb] at h2
      rw [if_neg (by decide), if_neg (show ¬ b = 35 from h2), fst_some (left_here l hb) hb]
theorem words_left : ∀ l : List UInt8, tWords l = tWords (tLeft l) := by
  intro l
  induction l with
  | nil => rfl
  | cons b l ih =>
    cases hb : wh b with
    | true =>
      rw [left_white l hb, ← ih]
      show wordsC [] (b :: l) = _
      rw [wordsC_cons, if_pos hb, if_pos rfl]
      rfl
    | false => rw [left_here l hb]
/-- A text's words are its first one, and those of what stands behind. -/
theorem words_fst (l : List UInt8) : tWords l = if (tFst l).1 = [] then [] else (tFst l).1 :: tWords (tFst l).2 := by
  rw [words_left]
  rcases left_head l with h | ⟨b, r, h, hb⟩
  · rw [fst_none h, if_pos rfl, h]
    rfl
  · rw [fst_some h hb, if_neg (by simp), h]
    show wordsC [] (b :: r) = _
    rw [wordsC_cons, if_neg (by rw [hb]; decide)]
    conv => lhs; rw [(List.takeWhile_append_dropWhile (p := nw) (l := r)).symm]
    rw [wordsC_run _ _ (run_take r), wordsC_end (by simp) (edge_drop r)]
    rfl
/-- The first word and the second one, and whether there are such. -/
theorem words_get (l : List UInt8) : (tWords l).getD 0 [] = (tFst l).1 ∧ (tWords l).getD 1 [] = (tFst (tFst l).2).1 ∧ (0 < (tWords l).length ↔ (tFst l).1 ≠ []) ∧ (1 < (tWords l).length ↔ (tFst (tFst l).2).1 ≠ []) := by
  rw [words_fst l]
  by_cases h : (tFst l).1 = []
  · have h2 : (tFst l).2 = [] := by
      rcases left_head l with g | ⟨b, r, g, hb⟩
      · rw [fst_none g]
      · rw [fst_some g hb] at h
        exact absurd h (by simp)
    rw [if_pos h, h, h2]
    refine ⟨rfl, rfl, by simp, ?_⟩
    rw [fst_none (show tLeft [] = [] from rfl)]
    simp
  · rw [if_neg h, words_fst (tFst l).2]
    by_cases h2 : (tFst (tFst l).2).1 = []
    · rw [if_pos h2, h2]
      refine ⟨rfl, rfl, ?_, by simp⟩
      simp [h]
    · rw [if_neg h2]
      refine ⟨rfl, rfl, ?_, ?_⟩
      · simp [h]
      · simp [h2]

end Go.Proofs.YtckdhidcbkbeoaaDoor.U
