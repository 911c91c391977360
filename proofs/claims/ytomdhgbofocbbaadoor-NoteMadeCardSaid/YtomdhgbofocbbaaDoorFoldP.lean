/- What folded rows are: plain facts on lists of bytes (nothing of the program). Conditions: none. -/
import Derived.Test.YtomdhgbofocbbaaDoorSign
namespace Go.Proofs.YtomdhgbofocbbaaDoor.U

/-- So many LF. -/
def feeds (n : Nat) : List UInt8 := List.replicate n 10
theorem feeds_zero : feeds 0 = [] := rfl
theorem feeds_succ (n : Nat) : feeds (n + 1) = feeds n ++ [10] := List.replicate_succ'
theorem feeds_length (n : Nat) : (feeds n).length = n := List.length_replicate
/-- What stands between two rows. -/
def sep (n : Nat) : List UInt8 := if n = 0 then [32] else feeds n
theorem sep_zero : sep 0 = [32] := rfl
theorem sep_pos {n : Nat} (h : n ≠ 0) : sep n = feeds n := if_neg h
theorem sep_length (n : Nat) : (sep n).length ≤ n + 1 := by
  unfold sep
  split
  · simp
  · rw [feeds_length]; omega
/-- How many bytes rows have, and one each. -/
def tot : List (List UInt8) → Nat
  | [] => 0
  | r :: t => r.length + 1 + tot t
theorem tot_append : ∀ a b : List (List UInt8), tot (a ++ b) = tot a + tot b
  | [], b => by simp [tot]
  | r :: a, b => by rw [List.cons_append, tot, tot, tot_append a b]; omega

/-- Rows of a plain or quoted scalar, behind the first one. -/
def flowGo : Nat → List (List UInt8) → List UInt8
  | _, [] => []
  | n, r :: t => if r = [] ∧ t ≠ [] then flowGo (n + 1) t else sep n ++ r ++ flowGo 0 t
def flowT : List (List UInt8) → List UInt8
  | [] => []
  | r :: t => r ++ flowGo 0 t
theorem flowGo_nil (n : Nat) : flowGo n [] = [] := by rw [flowGo]
theorem flowGo_blank (n : Nat) {t : List (List UInt8)} (h : t ≠ []) : flowGo n ([] :: t) = flowGo (n + 1) t := by
  rw [flowGo, if_pos ⟨rfl, h⟩]
theorem flowGo_row (n : Nat) {r : List UInt8} {t : List (List UInt8)} (h : ¬ (r = [] ∧ t ≠ [])) : flowGo n (r :: t) = sep n ++ r ++ flowGo 0 t := by
  rw [flowGo, if_neg h]

/-- Rows of a block scalar that isn't folded. -/
def joinGo : List (List UInt8) → List UInt8
  | [] => []
  | r :: t => 10 :: (r ++ joinGo t)
def joinT : List (List UInt8) → List UInt8
  | [] => []
  | r :: t => r ++ joinGo t

/-- Does a row begin with White? -/
def whiteL : List UInt8 → Bool
  | [] => false
  | b :: _ => white (b.toNat : Int)
/-- What stands ahead of a row of a folded block. -/
def bsep (last r : List UInt8) (n : Nat) : List UInt8 := if last = [] then feeds n else if (whiteL last || whiteL r) = true then feeds (n + 1) else sep n
theorem bsep_length (last r : List UInt8) (n : Nat) : (bsep last r n).length ≤ n + 1 := by
  unfold bsep
  split
  · rw [feeds_length]; omega
  · split
    · rw [feeds_length]; omega
    · exact sep_length n
/-- Rows of a folded block, behind a last one. -/
def blkGo : List UInt8 → Nat → List (List UInt8) → List UInt8
  | last, n, [] => feeds (if last = [] then n - 1 else n)
  | last, n, r :: t => if r = [] then blkGo last (n + 1) t else bsep last r n ++ r ++ blkGo r 0 t
def blkT (l : List (List UInt8)) : List UInt8 := blkGo [] 0 l
theorem blkGo_nil (last : List UInt8) (n : Nat) : blkGo last n [] = feeds (if last = [] then n - 1 else n) := by rw [blkGo]
theorem blkGo_blank (last : List UInt8) (n : Nat) (t : List (List UInt8)) : blkGo last n ([] :: t) = blkGo last (n + 1) t := by
  rw [blkGo, if_pos rfl]
theorem blkGo_row (last : List UInt8) (n : Nat) {r : List UInt8} (t : List (List UInt8)) (h : r ≠ []) : blkGo last n (r :: t) = bsep last r n ++ r ++ blkGo r 0 t := by
  rw [blkGo, if_neg h]
/-- A block's rows, folded or not. -/
def blockT (folded : Bool) (l : List (List UInt8)) : List UInt8 := if folded = true then blkT l else joinT l

/-! ### Blank rows one behind the other -/
def blanksL (n : Nat) : List (List UInt8) := List.replicate n []
theorem flowGo_blanks : ∀ (n m : Nat) (t : List (List UInt8)), t ≠ [] → flowGo m (blanksL n ++ t) = flowGo (m + n) t
  | 0, m, t, _ => rfl
  | n + 1, m, t, h => by
    show flowGo m ([] :: (blanksL n ++ t)) = _
    rw [flowGo_blank m (by simp [h]), flowGo_blanks n (m + 1) t h, Nat.add_assoc, Nat.add_comm 1 n]
theorem blkGo_blanks : ∀ (n : Nat) (last : List UInt8) (m : Nat) (t : List (List UInt8)), blkGo last m (blanksL n ++ t) = blkGo last (m + n) t
  | 0, last, m, t => rfl
  | n + 1, last, m, t => by
    show blkGo last m ([] :: (blanksL n ++ t)) = _
    rw [blkGo_blank, blkGo_blanks n last (m + 1) t, Nat.add_assoc, Nat.add_comm 1 n]
theorem joinGo_append : ∀ a b : List (List UInt8), joinGo (a ++ b) = joinGo a ++ joinGo b
  | [], b => rfl
  | r :: a, b => by
    show 10 :: (r ++ joinGo (a ++ b)) = 10 :: (r ++ joinGo a) ++ joinGo b
    rw [joinGo_append a b]; simp
theorem joinT_append {a : List (List UInt8)} (b : List (List UInt8)) (h : a ≠ []) : joinT (a ++ b) = joinT a ++ joinGo b := by
  cases a with
  | nil => exact absurd rfl h
  | cons r a => show r ++ joinGo (a ++ b) = r ++ joinGo a ++ joinGo b; rw [joinGo_append, List.append_assoc]
theorem joinGo_blanks : ∀ n : Nat, joinGo (blanksL n) = feeds n
  | 0 => rfl
  | n + 1 => by
    show 10 :: ([] ++ joinGo (blanksL n)) = _
    rw [joinGo_blanks n]; rfl

end Go.Proofs.YtomdhgbofocbbaaDoor.U
