/- Literal block scalars put together as BlocBack does: plain facts (nothing of the program). Conditions: none beside those that each theorem writes out. -/
import Derived.Test.YtkpccoijegklbaaDoorBlocFol
namespace Go.Proofs.YtkpccoijegklbaaDoor
open Go.RowKit

/-- The headers: alone, with -, with +. -/
def bkH (k : Nat) : List UInt8 := [124] ++ (if k = 0 then [] else if k = 1 then [45] else [43]) ++ [10]
def bkC (k : Nat) : Nat := if k = 0 then 0 else if k = 1 then 45 else 43
theorem bk_fact (k : Nat) (hk : k < 3) : KB0 false 0 4 false [] 0 (bkC k) (mkB (bkH k)) := by
  have H : ∀ j : Fin 3, (decide (hdrOk (mkB (bkH j.val)) ((bkH j.val).length - 1) ((bkH j.val).length - 1) ((bkH j.val).length - 1) 0 (bkC j.val) 0 false []) && decide (byt (mkB (bkH j.val)) 0 = 124)) = true := by decide +kernel
  have h := H ⟨k, hk⟩
  rw [Bool.and_eq_true, decide_eq_true_eq, decide_eq_true_eq] at h
  have := KB0.mk h.1 0
  rw [h.2] at this
  exact this
/-- The line feeds at the end that count. -/
def bkM (k m : Nat) : Nat := if k = 0 then 1 else if k = 1 then 0 else m
/-- The state of BlocBack's loop: the text so far, and what is read of it: T0, and m line feeds behind. -/
def KBk (k x i : Nat) (S : ByteArray) (T0 : List UInt8) (m : Nat) : Prop :=
  (i = 0 ∧ S = mkB (bkH k) ∧ T0 = [] ∧ m = 0) ∨ (0 < i ∧ KJ 0 4 false [] 0 (bkC k) x S T0 m)
theorem KBk.step {k x i : Nat} {S : ByteArray} {T0 : List UInt8} {m : Nat} (h : KBk k x i S T0 m) (hk : k < 3) (hx : 0 < x) (j g : Nat) (hj : i = 0 → j = 0) (wd : List UInt8) (hw : wd ∈ wordL) :
    KBk k x (i + 1) (S ++ mkB (blanksB (x + j) ++ wd ++ [10]) ++ mkB (U.feeds g)) (T0 ++ U.feeds m ++ (blanksB j ++ wd)) (1 + g) := by
  obtain ⟨h1, h2, h3, _⟩ := fol_word wd hw
  refine .inr ⟨by omega, KJ.blanks g ?_⟩
  rcases h with ⟨i0, rfl, rfl, rfl⟩ | ⟨i0, hB⟩
  · obtain rfl := hj i0
    exact KJ.first (bk_fact k hk) x wd (by omega) hx h1 h2 h3
  · exact hB.text j wd hx h1 h2 h3
theorem bk_m (k m : Nat) (hk : k < 3) : (if bkC k = 45 then 0 else if bkC k = 43 then m else 1) = bkM k m := by
  match k, hk with
  | 0, _ => rfl
  | 1, _ => rfl
  | 2, _ => rfl
theorem KBk.done {k x i : Nat} {S : ByteArray} {T0 : List UInt8} {m : Nat} (h : KBk k x i S T0 m) (hk : k < 3) (hi : 0 < i) (hx : 0 < x) : BlocZ S 0 0 4 (T0 ++ U.feeds (bkM k m)) false [] (S.size : Int) 0 ∧ BlocZ (S ++ (⟨#[122, 10]⟩ : ByteArray)) 0 0 4 (T0 ++ U.feeds (bkM k m)) false [] (S.size : Int) 0 := by
  rcases h with ⟨i0, _⟩ | ⟨i0, hB⟩
  · omega
  · have h1 := hB.over
    have h2 := hB.stop 0 [122] hx (by decide) (by decide) (by decide)
    rw [bk_m k m hk] at h1 h2
    exact ⟨h1, h2⟩
/-- The table of the headers. -/
def bkT : Array Value := #[.string ⟨#[124]⟩, .string ⟨#[124, 45]⟩, .string ⟨#[124, 43]⟩]
theorem bk_tab (k : Nat) (hk : k < 3) : ∃ H : ByteArray, bkT[k]? = some (.string H) ∧ H ++ ⟨#[10]⟩ = mkB (bkH k) ∧ H.size ≤ 2 := by
  match k, hk with
  | 0, _ => exact ⟨_, rfl, rfl, Nat.le_of_ble_eq_true rfl⟩
  | 1, _ => exact ⟨_, rfl, rfl, Nat.le_of_ble_eq_true rfl⟩
  | 2, _ => exact ⟨_, rfl, rfl, Nat.le_of_ble_eq_true rfl⟩
end Go.Proofs.YtkpccoijegklbaaDoor
