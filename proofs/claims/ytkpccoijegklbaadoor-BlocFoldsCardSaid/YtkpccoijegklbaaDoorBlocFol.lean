/- Folded block scalars put together as BlocFolds does: plain facts (nothing of the program). Conditions: none beside those that each theorem writes out. -/
import Derived.Test.YtkpccoijegklbaaDoorBlocY
import Derived.Test.YtkpccoijegklbaaDoorWord
namespace Go.Proofs.YtkpccoijegklbaaDoor
open Go.RowKit

/-- The headers: with - or none, with a comment of a word or none. -/
def folH (strip : Bool) (c : Nat) : List UInt8 := [62] ++ (if strip = true then [45] else []) ++ (if c < 10 then [32, 32, 35] ++ wordL.getD c [] ++ [32] else []) ++ [10]
def folP (strip : Bool) : Nat := if strip = true then 2 else 1
def folOk (strip : Bool) (c : Nat) : Bool := decide (hdrOk (mkB (folH strip c)) ((folH strip c).length - 1) (if c < 10 then folP strip + 2 else (folH strip c).length - 1) (folP strip) 0 (if strip = true then 45 else 0) (if c < 10 then (folH strip c).length - 2 else 0) (decide (c < 10)) (if c < 10 then wordL.getD c [] else [])) && decide (byt (mkB (folH strip c)) 0 = 62)
theorem fol_fact (strip : Bool) (c : Nat) (hc : c < 11) (n : Int) : KB0 true n 5 (decide (c < 10)) (if c < 10 then wordL.getD c [] else []) 0 (if strip = true then 45 else 0) (mkB (folH strip c)) := by
  have H : ∀ c : Fin 11, folOk true c.val = true ∧ folOk false c.val = true := by decide +kernel
  have h : folOk strip c = true := by
    cases strip with
    | true => exact (H ⟨c, hc⟩).1
    | false => exact (H ⟨c, hc⟩).2
  unfold folOk at h
  rw [Bool.and_eq_true, decide_eq_true_eq, decide_eq_true_eq] at h
  have := KB0.mk h.1 n
  rw [h.2] at this
  exact this
theorem fol_word (wd : List UInt8) (h : wd ∈ wordL) : wd ≠ [] ∧ (∀ b ∈ wd, b ≠ 10) ∧ U.white ((wd.headD 0).toNat : Int) = false ∧ wd.length ≤ 3 := by
  revert wd
  decide +kernel
theorem fol_len (strip : Bool) (c : Nat) (hc : c < 11) : (folH strip c).length ≤ 12 := by
  have H : ∀ c : Fin 11, (folH true c.val).length ≤ 12 ∧ (folH false c.val).length ≤ 12 := by decide +kernel
  cases strip with
  | true => exact (H ⟨c, hc⟩).1
  | false => exact (H ⟨c, hc⟩).2
/-- The state of BlocFolds' loop: the rows so far, and the text. -/
def KFo (strip : Bool) (c : Nat) (k : Nat) (S : ByteArray) (R : List (List UInt8)) : Prop :=
  (k = 0 ∧ R = [] ∧ S = mkB (folH strip c)) ∨ (0 < k ∧ R ≠ [] ∧ KB true 2 5 (decide (c < 10)) (if c < 10 then wordL.getD c [] else []) 0 (if strip = true then 45 else 0) 3 S R R.length 1 false)
theorem KFo.step {strip : Bool} {c k : Nat} {S : ByteArray} {R : List (List UInt8)} (h : KFo strip c k S R) (hc : c < 11) (wd : List UInt8) (hw : wd ∈ wordL) (j : Nat) (hj : k = 0 → j = 0) : KFo strip c (k + 1) (S ++ mkB (blanksB (3 + j) ++ wd ++ [10])) (R ++ [blanksB j ++ wd]) := by
  obtain ⟨h1, h2, h3, _⟩ := fol_word wd hw
  refine .inr ⟨by omega, by simp, ?_⟩
  rcases h with ⟨k0, rfl, rfl⟩ | ⟨k0, hR, hB⟩
  · obtain rfl := hj k0
    exact KB0.first (fol_fact strip c hc 2) 3 wd (by decide) (by decide) h1 h2 h3
  · have := hB.text j wd (by decide) h1 h2 h3
    have e : (R ++ [blanksB j ++ wd]).length = R.length + 1 := List.length_append
    rw [e]
    exact this
theorem KFo.done {strip : Bool} {c k : Nat} {S : ByteArray} {R : List (List UInt8)} (h : KFo strip c k S R) (hk : 0 < k) : BlocZ S 0 2 5 (U.blkT R ++ U.feeds (if strip = true then 0 else 1)) (decide (c < 10)) (if c < 10 then wordL.getD c [] else []) (S.size : Int) 0 := by
  rcases h with ⟨k0, _⟩ | ⟨k0, hR, hB⟩
  · omega
  · have := KF.over hB hR (by cases strip <;> decide)
    have e : (if (if strip = true then 45 else 0) = 45 then 0 else 1) = (if strip = true then 0 else 1) := by cases strip <;> rfl
    rw [e] at this
    exact this
end Go.Proofs.YtkpccoijegklbaaDoor
