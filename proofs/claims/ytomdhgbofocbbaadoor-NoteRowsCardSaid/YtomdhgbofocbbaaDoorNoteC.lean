/- bosketlaw0.Comments of two slices of the same comments. Conditions: those that each theorem writes out. -/
import Derived.Test.YtomdhgbofocbbaaDoorComs
import Derived.BigQuiet
import Derived.Deep.DrawnRows
namespace Go.Proofs.YtomdhgbofocbbaaDoor
open Go.RowKit
attribute [local go_sem ↓] Go.wp_at_zero Go.wp_at_succ

set_option maxRecDepth 100000 in
set_option maxHeartbeats 1600000 in
theorem Comments_is (cs : List (List UInt8 × Nat)) (v1 v2 : Value) (w : World) (h1 : IsComs w.heap.size w v1 cs) (h2 : IsComs w.heap.size w v2 cs) :
    Calls Tryd.prog 15 #[v1, v2] w fun e w' => e = .returned (.bool true) ∧ Below w.heap.size w w' := by
  obtain ⟨ao1, cap1, rfl, k1, l1, c1⟩ := h1
  obtain ⟨ao2, cap2, rfl, k2, l2, c2⟩ := h2
  unfold maxLen at l1 l2
  obtain ⟨n, hN⟩ : ∃ n, cs.length = n := ⟨_, rfl⟩
  rw [hN] at k1 k2 c1 c2 ⊢
  have C1 := Lib.hid c1
  have C2 := Lib.hid c2
  clear c1 c2
  go_enter Tryd.func15, Tryd.ntmps15
  go_wp2
  go_loopw [5] (fun vi wr => ∃ k : Nat, vi = .int .i64 (k : Int) ∧ k ≤ n ∧ Below w.heap.size w wr) (fun vi _ => n - (intOf vi).toNat)
  case atStart => exact ⟨0, rfl, Nat.zero_le _, Below.refl _ _⟩
  case round =>
    obtain ⟨k, rfl, hk, hb⟩ := hrel
    by_cases hkn : k < n
    · obtain ⟨b1, rfl, hlt1, hc1⟩ := C1.out (by omega)
      obtain ⟨b2, rfl, hlt2, hc2⟩ := C2.out (by omega)
      obtain ⟨f1, f2⟩ := hc1 k hkn
      obtain ⟨g1, g2⟩ := hc2 k hkn
      rw [← hb.cell (p := ⟨b1, k * 2, none⟩) hlt1] at f1
      rw [← hb.cell (p := ⟨b1, k * 2 + 1, none⟩) hlt1] at f2
      rw [← hb.cell (p := ⟨b2, k * 2, none⟩) hlt2] at g1
      rw [← hb.cell (p := ⟨b2, k * 2 + 1, none⟩) hlt2] at g2
      obtain ⟨X, hX⟩ : ∃ X : ByteArray, (⟨(comT cs k).toArray⟩ : ByteArray) = X := ⟨_, rfl⟩
      obtain ⟨z, hz⟩ : ∃ z : Int, (comN cs k : Int) = z := ⟨_, rfl⟩
      rw [hX] at f1 g1
      rw [hz] at f2 g2
      have hk0 : (0 : Int) ≤ (k : Int) := by omega
      have hk1 : (k : Int) < (n : Int) := by omega
      clear hX hz hc1 hc2 C1 C2
      go_wp2_with fail
      go_quiet (fail)
      have hbd := below_drewN hb nq
      go_wp2
      go_roundw
      case rel => exact ⟨k + 1, by go_num, by omega, hbd⟩
      case measure => simp [intOf]; omega
    · have hkn2 : ¬ ((k : Int) < (n : Int)) := by omega
      go_wp2
      go_ret
      exact ⟨rfl, hb⟩
end Go.Proofs.YtomdhgbofocbbaaDoor
