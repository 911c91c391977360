/- The statements on package text: the walks of TextTells, TextPrints and TextOnce: for every input the law returns true. -/
import Derived.Test.YtlmkekjighlpkaaDoorRefClean
import Derived.Test.YtlmkekjighlpkaaDoorLaw0
import Derived.Lib.SlBytesConst
namespace Go.Proofs.YtlmkekjighlpkaaDoor
open Go.RowKit

/-- One step more. -/
theorem tbt {a b c : World} (h : Below a.heap.size a b) (k : Below b.heap.size b c) : Below a.heap.size a c := h.trans (k.mono h.size)
theorem IsBytes_new (w : World) (l : List UInt8) (fr : Nat × Nat) (h : l.length ≤ maxLen) : IsBytes (w.alloc (.cells (cells8 l).toArray 5 fr)).heap.size (w.alloc (.cells (cells8 l).toArray 5 fr)) (.slice (some ⟨w.heap.size, 0, none⟩) l.length l.length) l := by
  refine ⟨_, l.length, by rw [List.length_map], by simp, h, (fun h => by cases h), fun hp => ⟨_, _, rfl, by simp, fun j hj => ?_⟩⟩
  rw [List.length_map] at hj
  rw [Nat.zero_add, World.cell?_alloc_mark]
  simp [cells8, List.getD, hj]

set_option maxRecDepth 100000 in
set_option maxHeartbeats 1000000 in
/-- What every program answers that is one. -/
theorem awake2_any (w : World) (hm : MaxIs w) : Calls Tryd.prog 8 #[] w fun e w' => e = .returned (.bool true) ∧ Below w.heap.size w w' := by
  have p1 : U.clean [97, 13, 10, 98, 13] = ([97, 10, 98, 10], 0, 0) := by decide +kernel
  have p2 : U.clean [13, 1] = ([], 1, 3) := by decide +kernel
  have p3 : U.prn 97 = true := by decide +kernel
  have p4 : U.prn 65279 = false := by decide +kernel
  have P1 := Lib.hid p1
  have P2 := Lib.hid p2
  clear p1 p2
  have kc := fun (w : World) (C : Array Value) (n c : Nat) => Lib.run_convert_bytes_const (P := Tryd.prog) w 22 5 C n c Tryd.underlying22 Tryd.underlying5
  go_enter Tryd.func8, Tryd.ntmps8
  go_wp2_with fail
  refine (Clean_is [97, 10, 98, 10] 0 0 [97, 13, 10, 98, 13] _ _ (IsBytes_new w [97, 13, 10, 98, 13] (5, 6) (by decide)) (hm.below ((Below.refl _ _).alloc (Nat.le_refl _) _)) P1.out).mono ?_
  rintro e w1 ⟨rfl, b1⟩
  have b1' := tbt ((Below.refl w.heap.size w).alloc (Nat.le_refl _) _) b1
  go_wp2_with fail
  refine (Clean_is [] 1 3 [13, 1] _ _ (IsBytes_new w1 [13, 1] (2, 3) (by decide)) ((hm.below b1').below ((Below.refl _ _).alloc (Nat.le_refl _) _)) P2.out).mono ?_
  rintro e w2 ⟨rfl, b2⟩
  have b2' := tbt (tbt b1' ((Below.refl w1.heap.size w1).alloc (Nat.le_refl _) _)) b2
  go_wp2_with fail
  refine (Printable_any _ _).mono ?_
  rintro e w' ⟨rfl, rfl⟩
  go_wp2_with fail
  refine (Printable_any _ _).mono ?_
  rintro e w' ⟨rfl, rfl⟩
  go_wp2
  go_ret
  exact ⟨rfl, b2'⟩

set_option maxHeartbeats 1000000 in
theorem TextTells_walk (l : List UInt8) (v : Value) (w : World) (hv : IsBytes w.heap.size w v l) (hm : MaxIs w) :
    Calls Tryd.prog 3 #[v] w fun e w' => e = .returned (.bool true) ∧ Below w.heap.size w w' := by
  have hv0 := hv
  obtain ⟨ao, cap, rfl, h1, h2⟩ := hv0.shape
  clear hv0
  unfold maxLen at h2
  obtain ⟨L, hL⟩ : ∃ L, L = l.length := ⟨_, rfl⟩
  rw [← hL] at hv h1 ⊢
  have HL := Lib.hid hL
  clear hL
  by_cases h : 400 < L
  · go_enter Tryd.func3, Tryd.ntmps3
    go_wp2_with (go_at_call 8; refine (awake2_any _ hm).mono ?_; rintro e w1 ⟨rfl, b1⟩)
    go_ret
    exact ⟨rfl, b1⟩
  · obtain ⟨t, p, c, hx⟩ : ∃ t p c, U.clean l = (t, p, c) := ⟨_, _, _, rfl⟩
    have HX := Lib.hid hx
    clear hx
    go_enter Tryd.func3, Tryd.ntmps3
    go_wp2_with fail
    refine (Clean_is t p c l _ _ hv hm HX.out).mono ?_
    rintro e w1 ⟨rfl, b1⟩
    go_wp2_with fail
    refine (refClean_is t p c l _ _ ((hv.below b1).mono b1.size) HX.out).mono ?_
    rintro e w2 ⟨rfl, b2⟩
    have b2' := tbt b1 b2
    go_wp2_with fail
    refine (awake2_any _ (hm.below b2')).mono ?_
    rintro e w3 ⟨rfl, b3⟩
    go_wp2
    go_ret
    exact ⟨rfl, tbt b2' b3⟩

end Go.Proofs.YtlmkekjighlpkaaDoor
