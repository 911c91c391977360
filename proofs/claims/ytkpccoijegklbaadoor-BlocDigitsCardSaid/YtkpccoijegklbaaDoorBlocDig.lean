/- The statements on package bloc: the walk of BlocDigits, over what bloc.Read returns (BlocC). Conditions: those that each theorem writes out. -/
import Derived.Test.YtkpccoijegklbaaDoorBlocLaws
import Derived.Test.YtkpccoijegklbaaDoorBlanks
import Derived.Deep.DrawnRows
namespace Go.Proofs.YtkpccoijegklbaaDoor
open Go.RowKit
attribute [local go_sem ↓] Go.wp_at_zero Go.wp_at_succ

/-- A digit. -/
def dgB (d : Nat) : UInt8 := (48 + d).toUInt8
set_option maxHeartbeats 400000 in
theorem lawDigit_is (d : Nat) (D : ByteArray) (hd : d < 10) (hD : (⟨#[dgB d]⟩ : ByteArray) = D) (w : World) :
    Calls Tryd.prog 17 #[.int .i64 (d : Int)] w fun e w' => e = .returned (.string D) ∧ w = w' := by
  have hx : (⟨#[48, 49, 50, 51, 52, 53, 54, 55, 56, 57]⟩ : ByteArray).extract d (d + 1) = D := by
    rw [← hD]
    have H : ∀ j : Fin 10, (⟨#[48, 49, 50, 51, 52, 53, 54, 55, 56, 57]⟩ : ByteArray).extract j.val (j.val + 1) = ⟨#[dgB j.val]⟩ := by decide +kernel
    exact H ⟨d, hd⟩
  have hm : max (d : Int) 0 = (d : Int) := by omega
  go_enter Tryd.func17, Tryd.ntmps17
  go_wp2
  go_ret
  exact ⟨rfl, rfl⟩
theorem lawBlanksB (j : Nat) (B : ByteArray) (hB : mkB (blanksB j) = B) (hj : j ≤ 1000000) (w : World) :
    Calls Tryd.prog 12 #[.int .i64 (j : Int)] w fun e w' => e = .returned (.string B) ∧ w = w' := by
  subst hB
  exact lawBlanks_is j _ w rfl (by omega)
/-- The headers: the digit, ahead of it a +, or behind it. -/
def digH (d k : Nat) : ByteArray := if k = 0 then ⟨#[124, dgB d, 10]⟩ else if k = 1 then ⟨#[124, 43, dgB d, 10]⟩ else ⟨#[124, dgB d, 43, 10]⟩
def digOk (d k : Nat) : Bool := decide (hdrOk (digH d k) (if k = 0 then 2 else 3) (if k = 0 then 2 else 3) (if k = 0 then 2 else 3) d (if k = 0 then 0 else 43) 0 false []) && decide (byt (digH d k) 0 = 124)
theorem dig_fact (d k : Nat) (h1 : 1 ≤ d) (h9 : d ≤ 9) (hk : k < 3) (n : Int) : KB0 false n 4 false [] d (if k = 0 then 0 else 43) (digH d k) := by
  have H : ∀ d : Fin 9, ∀ k : Fin 3, digOk (d.val + 1) k.val = true := by decide +kernel
  have h := H ⟨d - 1, by omega⟩ ⟨k, hk⟩
  rw [show (⟨d - 1, by omega⟩ : Fin 9).val + 1 = d by show d - 1 + 1 = d; omega] at h
  unfold digOk at h
  rw [Bool.and_eq_true, decide_eq_true_eq, decide_eq_true_eq] at h
  have := KB0.mk h.1 n
  rw [h.2] at this
  exact this
/-- The whole text, and what is read of it. -/
theorem dig_read (d k m : Nat) (c : Int) (w : Nat) (h1 : 1 ≤ d) (h9 : d ≤ 9) (hk : k < 3) (hc1 : -1 ≤ c) (hc2 : c ≤ 2) (hw : w = d + (max c 0).toNat) : ∃ S, S = digH d k ++ mkB (blanksB (w + m) ++ [97] ++ [10]) ++ mkB (blanksB (w + 0) ++ [98] ++ [10]) ∧ BlocZ (S ++ mkB (blanksB (w - 1) ++ [99] ++ [10])) 0 c 4 (blanksB m ++ [97, 10, 98, 10]) false [] (S.size : Int) 0 := by
  have h0 := dig_fact d k h1 h9 hk c
  have hs : (max c 0).toNat ≤ (digH d k).size := by
    have : 3 ≤ (digH d k).size := by
      unfold digH
      split
      · exact Nat.le_refl _
      · split <;> exact Nat.le_succ _
    omega
  have j1 := KJ.digit h0 (by omega) w hw hs m [97] (by decide) (by decide) (by decide)
  have j2 := j1.text 0 [98] (by omega) (by decide) (by decide) (by decide)
  refine ⟨_, rfl, ?_⟩
  have j3 := j2.stop (w - 1) [99] (by omega) (by decide) (by decide) (by decide)
  have e : (blanksB m ++ [97] ++ U.feeds 1 ++ (blanksB 0 ++ [98]) ++ U.feeds (if (if k = 0 then 0 else 43) = 45 then 0 else if (if k = 0 then 0 else 43) = 43 then 1 else 1)) = blanksB m ++ [97, 10, 98, 10] := by
    have e1 : (if (if k = 0 then 0 else 43) = 45 then 0 else if (if k = 0 then 0 else 43) = 43 then 1 else 1) = 1 := by
      by_cases hk0 : k = 0 <;> simp [hk0]
    rw [e1]
    show blanksB m ++ [97] ++ [10] ++ [98] ++ [10] = _
    simp
  rw [e] at j3
  exact j3
/-- The table of the headers. -/
def digT (D : ByteArray) : Array Value := #[.string (⟨#[124]⟩ ++ D), .string (⟨#[124, 43]⟩ ++ D), .string (⟨#[124]⟩ ++ D ++ ⟨#[43]⟩)]
theorem dig_tab (d k : Nat) (hk : k < 3) (D : ByteArray) (hD : (⟨#[dgB d]⟩ : ByteArray) = D) : ∃ H : ByteArray, (digT D)[k]? = some (.string H) ∧ H ++ ⟨#[10]⟩ = digH d k ∧ H.size ≤ 3 := by
  subst hD
  match k, hk with
  | 0, _ => exact ⟨_, rfl, rfl, Nat.le_of_ble_eq_true rfl⟩
  | 1, _ => exact ⟨_, rfl, rfl, Nat.le_of_ble_eq_true rfl⟩
  | 2, _ => exact ⟨_, rfl, rfl, Nat.le_of_ble_eq_true rfl⟩
end Go.Proofs.YtkpccoijegklbaaDoor
