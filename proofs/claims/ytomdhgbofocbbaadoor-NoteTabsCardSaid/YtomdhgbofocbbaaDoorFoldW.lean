/- Words on rows, folded: plain facts (nothing of the program). Conditions: none. -/
import Derived.Test.YtomdhgbofocbbaaDoorFoldP
import Derived.Test.YtomdhgbofocbbaaDoorWord
namespace Go.Proofs.YtomdhgbofocbbaaDoor
open Go.RowKit

theorem word_row : ∀ l ∈ wordL, l ≠ [] ∧ U.whiteL l = false ∧ (10 : UInt8) ∉ l ∧ l.length ≤ 3 := by decide +kernel

/-- Rows laid so far, with blank ones behind the last: what they are ahead of a row that is something. -/
def Worded (xs : List (List UInt8)) (T : List UInt8) : Prop :=
  ∀ (r : List UInt8) (t : List (List UInt8)), r ≠ [] → U.whiteL r = false → U.flowT (xs ++ r :: t) = T ++ r ++ U.flowGo 0 t ∧ U.blkT (xs ++ r :: t) = T ++ r ++ U.blkGo r 0 t
theorem Worded.nil : Worded [] [] := by
  intro r t hr _
  refine ⟨rfl, ?_⟩
  show U.blkGo [] 0 (r :: t) = _
  rw [U.blkGo_row _ _ _ hr]; rfl
theorem Worded.step {xs : List (List UInt8)} {T : List UInt8} (h : Worded xs T) {r : List UInt8} (hr : r ≠ []) (hw : U.whiteL r = false) (n : Nat) : Worded (xs ++ [r] ++ U.blanksL n) (T ++ r ++ U.sep n) := by
  intro r' t hr' hw'
  have e : xs ++ [r] ++ U.blanksL n ++ r' :: t = xs ++ r :: (U.blanksL n ++ r' :: t) := by simp
  have hb : U.bsep r r' n = U.sep n := by unfold U.bsep; rw [if_neg hr, hw, hw', if_neg (by decide)]
  rw [e]
  obtain ⟨h1, h2⟩ := h r (U.blanksL n ++ r' :: t) hr hw
  rw [h1, h2, U.flowGo_blanks n 0 _ (by simp), U.blkGo_blanks n r 0, Nat.zero_add, U.flowGo_row n (by simp [hr']), U.blkGo_row r n t hr', hb]
  simp [List.append_assoc]
theorem Worded.last {xs : List (List UInt8)} {T : List UInt8} (h : Worded xs T) {r : List UInt8} (hr : r ≠ []) (hw : U.whiteL r = false) : U.flowT (xs ++ [r]) = T ++ r ∧ U.blkT (xs ++ [r]) = T ++ r := by
  obtain ⟨h1, h2⟩ := h r [] hr hw
  rw [h1, h2, U.flowGo_nil, U.blkGo_nil, if_neg hr]
  simp [U.feeds]

/-- One row with blank ones ahead and behind. -/
theorem one_blk (m n : Nat) {s : List UInt8} (hs : s ≠ []) : U.blkT (U.blanksL m ++ [s] ++ U.blanksL n) = U.feeds m ++ s ++ U.feeds n := by
  have e : U.blanksL m ++ [s] ++ U.blanksL n = U.blanksL m ++ s :: (U.blanksL n ++ []) := by simp
  rw [e]
  unfold U.blkT
  rw [U.blkGo_blanks m [] 0, Nat.zero_add, U.blkGo_row _ _ _ hs, U.blkGo_blanks n s 0, Nat.zero_add, U.blkGo_nil, if_neg hs]
  rfl
theorem joinT_cons_blanks : ∀ (m : Nat) (s : List UInt8) (t : List (List UInt8)), U.joinT (U.blanksL m ++ s :: t) = U.feeds m ++ s ++ U.joinGo t
  | 0, s, t => rfl
  | m + 1, s, t => by
    show [] ++ U.joinGo (U.blanksL m ++ s :: t) = _
    rw [U.joinGo_append, U.joinGo_blanks, U.feeds_succ]
    simp [U.joinGo]
theorem one_join (m n : Nat) (s : List UInt8) : U.joinT (U.blanksL m ++ [s] ++ U.blanksL n) = U.feeds m ++ s ++ U.feeds n := by
  have e : U.blanksL m ++ [s] ++ U.blanksL n = U.blanksL m ++ s :: U.blanksL n := by simp
  rw [e, joinT_cons_blanks, U.joinGo_blanks]
theorem tot_blanks : ∀ n : Nat, U.tot (U.blanksL n) = n
  | 0 => rfl
  | n + 1 => by show 0 + 1 + U.tot (U.blanksL n) = _; rw [tot_blanks n]; omega
theorem blanks_succ (n : Nat) : U.blanksL (n + 1) = U.blanksL n ++ [[]] := List.replicate_succ'
theorem blanks_length (n : Nat) : (U.blanksL n).length = n := List.length_replicate

/-- Rows without blank ones: what they are ahead of others. -/
def Kept (xs : List (List UInt8)) (T last : List UInt8) : Prop := ∀ t : List (List UInt8), U.blkT (xs ++ t) = T ++ U.blkGo last 0 t
theorem Kept.nil : Kept [] [] [] := fun _ => rfl
theorem Kept.step {xs : List (List UInt8)} {T last : List UInt8} (h : Kept xs T last) {r : List UInt8} (hr : r ≠ []) : Kept (xs ++ [r]) (T ++ U.bsep last r 0 ++ r) r := by
  intro t
  rw [List.append_assoc, h ([r] ++ t)]
  show T ++ U.blkGo last 0 (r :: t) = _
  rw [U.blkGo_row _ _ _ hr]
  simp [List.append_assoc]
theorem Kept.all {xs : List (List UInt8)} {T last : List UInt8} (h : Kept xs T last) (hl : last ≠ []) : U.blkT xs = T := by
  have := h []
  rw [List.append_nil, U.blkGo_nil, if_neg hl] at this
  rw [this]; simp [U.feeds]
theorem bsep_first (r : List UInt8) : U.bsep [] r 0 = [] := rfl
theorem bsep_white {last r : List UInt8} (hl : last ≠ []) (h : (U.whiteL last || U.whiteL r) = true) : U.bsep last r 0 = [10] := by
  unfold U.bsep; rw [if_neg hl, if_pos h]; rfl
theorem bsep_plain {last r : List UInt8} (hl : last ≠ []) (h : (U.whiteL last || U.whiteL r) = false) : U.bsep last r 0 = [32] := by
  unfold U.bsep; rw [if_neg hl, if_neg (by rw [h]; decide)]; rfl
theorem count_join : ∀ (xs : List (List UInt8)), (∀ r ∈ xs, (10 : UInt8) ∉ r) → (U.joinGo xs).count 10 = xs.length
  | [], _ => rfl
  | r :: t, h => by
    have h1 := count_join t (fun x hx => h x (by simp [hx]))
    have h2 : r.count 10 = 0 := List.count_eq_zero_of_not_mem (h r (by simp))
    show (10 :: (r ++ U.joinGo t)).count 10 = _
    rw [List.count_cons, List.count_append, h1, h2]; simp
theorem count_joinT (xs : List (List UInt8)) (h : ∀ r ∈ xs, (10 : UInt8) ∉ r) : (U.joinT xs).count 10 = xs.length - 1 := by
  cases xs with
  | nil => rfl
  | cons r t =>
    have h1 := count_join t (fun x hx => h x (by simp [hx]))
    have h2 : r.count 10 = 0 := List.count_eq_zero_of_not_mem (h r (by simp))
    show (r ++ U.joinGo t).count 10 = _
    rw [List.count_append, h1, h2]; simp
theorem length_join : ∀ xs : List (List UInt8), (U.joinGo xs).length = U.tot xs
  | [] => rfl
  | r :: t => by
    show (10 :: (r ++ U.joinGo t)).length = _
    rw [List.length_cons, List.length_append, length_join t, U.tot]; omega
theorem length_joinT (xs : List (List UInt8)) : (U.joinT xs).length ≤ U.tot xs := by
  cases xs with
  | nil => simp [U.joinT]
  | cons r t => show (r ++ U.joinGo t).length ≤ _; rw [List.length_append, length_join, U.tot]; omega

/-- As many rows as bytes and rows, at most. -/
theorem tot_len : ∀ l : List (List UInt8), l.length ≤ U.tot l
  | [] => Nat.le_refl _
  | r :: t => by have := tot_len t; rw [U.tot, List.length_cons]; omega

end Go.Proofs.YtomdhgbofocbbaaDoor
