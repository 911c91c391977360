/- The statements on package bloc: the walk of BlocMade, over what bloc.Read returns (BlocC). Conditions: those that each theorem writes out. -/
import Derived.Test.YtkpccoijegklbaaDoorBlocLaws
namespace Go.Proofs.YtkpccoijegklbaaDoor
open Go.RowKit

theorem madeH (z : Nat) (hz : z < 8) : ∃ H : ByteArray, (#[.string ⟨#[124]⟩, .string ⟨#[62]⟩, .string ⟨#[124, 45]⟩, .string ⟨#[62, 45]⟩, .string ⟨#[124, 43]⟩, .string ⟨#[62, 43]⟩, .string ⟨#[124, 49]⟩, .string ⟨#[62, 50, 43]⟩] : Array Value)[z]? = some (.string H) ∧ H.size ≤ 3 := by
  have key : ∀ j : Fin 8, ∃ H : ByteArray, (#[.string ⟨#[124]⟩, .string ⟨#[62]⟩, .string ⟨#[124, 45]⟩, .string ⟨#[62, 45]⟩, .string ⟨#[124, 43]⟩, .string ⟨#[62, 43]⟩, .string ⟨#[124, 49]⟩, .string ⟨#[62, 50, 43]⟩] : Array Value)[j.val]? = some (.string H) ∧ H.size ≤ 3 := by
    intro j
    match j with
    | ⟨0, _⟩ | ⟨1, _⟩ | ⟨2, _⟩ | ⟨3, _⟩ | ⟨4, _⟩ | ⟨5, _⟩ | ⟨6, _⟩ | ⟨7, _⟩ => exact ⟨_, rfl, by decide⟩
    | ⟨i + 8, hi⟩ => exact absurd hi (by omega)
  exact key ⟨z, hz⟩
theorem madeP (z : Nat) (hz : z < 16) : ∃ H : ByteArray, (#[.string ⟨#[97]⟩, .string ⟨#[98, 32, 99]⟩, .string ⟨#[32]⟩, .string ⟨#[32, 32]⟩, .string ⟨#[10]⟩, .string ⟨#[10]⟩, .string ⟨#[10, 32]⟩, .string ⟨#[10, 32, 32]⟩, .string ⟨#[10, 32, 32, 32]⟩, .string ⟨#[10, 35, 32, 100]⟩, .string ⟨#[9]⟩, .string ⟨#[10, 10, 32, 32]⟩, .string ⟨#[10, 45, 45, 45]⟩, .string ⟨#[10, 46, 46, 46]⟩, .string ⟨#[195, 169]⟩, .string ⟨#[10, 32, 32, 32, 32]⟩] : Array Value)[z]? = some (.string H) ∧ H.size ≤ 5 := by
  have key : ∀ j : Fin 16, ∃ H : ByteArray, (#[.string ⟨#[97]⟩, .string ⟨#[98, 32, 99]⟩, .string ⟨#[32]⟩, .string ⟨#[32, 32]⟩, .string ⟨#[10]⟩, .string ⟨#[10]⟩, .string ⟨#[10, 32]⟩, .string ⟨#[10, 32, 32]⟩, .string ⟨#[10, 32, 32, 32]⟩, .string ⟨#[10, 35, 32, 100]⟩, .string ⟨#[9]⟩, .string ⟨#[10, 10, 32, 32]⟩, .string ⟨#[10, 45, 45, 45]⟩, .string ⟨#[10, 46, 46, 46]⟩, .string ⟨#[195, 169]⟩, .string ⟨#[10, 32, 32, 32, 32]⟩] : Array Value)[j.val]? = some (.string H) ∧ H.size ≤ 5 := by
    intro j
    match j with
    | ⟨0, _⟩ | ⟨1, _⟩ | ⟨2, _⟩ | ⟨3, _⟩ | ⟨4, _⟩ | ⟨5, _⟩ | ⟨6, _⟩ | ⟨7, _⟩ | ⟨8, _⟩ | ⟨9, _⟩ | ⟨10, _⟩ | ⟨11, _⟩ | ⟨12, _⟩ | ⟨13, _⟩ | ⟨14, _⟩ | ⟨15, _⟩ => exact ⟨_, rfl, by decide⟩
    | ⟨i + 16, hi⟩ => exact absurd hi (by omega)
  exact key ⟨z, hz⟩
set_option maxRecDepth 100000 in
set_option maxHeartbeats 3200000 in
theorem BlocMade_walk (K : BlocC) (v1 : Value) (ks : List Int) (n which : Int) (w : World) (h1 : IsInts .i64 w.heap.size w v1 ks) :
    Calls Tryd.prog 4 #[v1, .int .i64 n, .int .i64 which] w fun e w' => e = .returned (.bool true) ∧ Below w.heap.size w w' := by
  obtain ⟨ao3, cap3, rfl, c3, d3⟩ := h1.slice
  unfold maxLen at d3
  obtain ⟨L, hL⟩ : ∃ L, L = ks.length := ⟨_, rfl⟩
  have HL := Lib.hid hL
  rw [← hL] at h1 c3 ⊢
  clear hL
  by_cases hl : 24 < L
  · clear h1
    go_enter Tryd.func4, Tryd.ntmps4
    go_wp2_with fail
    refine (awake13_true K _).mono ?_
    rintro e w1 ⟨rfl, b1⟩
    go_wp2
    go_ret
    exact ⟨rfl, b1⟩
  obtain ⟨m, hm⟩ : ∃ m, lowZ n 4 = m := ⟨_, rfl⟩
  have hmr := lowZ_range n 4 (by omega)
  rw [hm] at hmr
  have HM := Lib.hid hm
  have hr2 := lowZ_range which 8 (by omega)
  obtain ⟨z, hz⟩ : ∃ z : Nat, lowZ which 8 = (z : Int) := ⟨(lowZ which 8).toNat, by omega⟩
  rw [hz] at hr2
  have HZ := Lib.hid hz
  obtain ⟨H, hH, hHs⟩ := madeH z (by omega)
  have hcell : (w.alloc (.cells #[.string ⟨#[124]⟩, .string ⟨#[62]⟩, .string ⟨#[124, 45]⟩, .string ⟨#[62, 45]⟩, .string ⟨#[124, 43]⟩, .string ⟨#[62, 43]⟩, .string ⟨#[124, 49]⟩, .string ⟨#[62, 50, 43]⟩] 9)).cell? ⟨w.heap.size, z, none⟩ = some (.string H) := by rw [World.cell?_alloc_mark]; exact hH
  have hbA : Below w.heap.size w (w.alloc (.cells #[.string ⟨#[124]⟩, .string ⟨#[62]⟩, .string ⟨#[124, 45]⟩, .string ⟨#[62, 45]⟩, .string ⟨#[124, 43]⟩, .string ⟨#[62, 43]⟩, .string ⟨#[124, 49]⟩, .string ⟨#[62, 50, 43]⟩] 9)) := (Below.refl _ _).alloc (Nat.le_refl _) _
  clear hm hz hH
  go_enter Tryd.func4, Tryd.ntmps4
  go_wp2_with fail
  refine (Low_is (z : Int) which 8 _ (by omega) (by omega) HZ.out).mono ?_
  rintro e w1 ⟨rfl, rfl⟩
  go_wp2
  obtain ⟨W, hW⟩ : ∃ W, W = w.alloc (.cells #[.string ⟨#[124]⟩, .string ⟨#[62]⟩, .string ⟨#[124, 45]⟩, .string ⟨#[62, 45]⟩, .string ⟨#[124, 43]⟩, .string ⟨#[62, 43]⟩, .string ⟨#[124, 49]⟩, .string ⟨#[62, 50, 43]⟩] 9) := ⟨_, rfl⟩
  rw [← hW] at hbA ⊢
  clear hW hcell
  go_loopw [8, 9] (fun vt vi wr => ∃ (T : ByteArray) (k : Nat), vt = .string T ∧ vi = .int .i64 (k : Int) ∧ k ≤ L ∧ T.size ≤ 4 + 5 * k ∧ Below w.heap.size w wr) (fun _ vi _ => L - (intOf vi).toNat)
  case atStart => exact ⟨_, 0, rfl, rfl, Nat.zero_le _, by rw [ByteArray.size_append]; show _ + 1 ≤ _; omega, hbA⟩
  case round =>
    obtain ⟨T, k, rfl, rfl, hk, hT, hb⟩ := hrel
    by_cases hk2 : k < L
    · obtain ⟨bb, oo, rfl, hlt, hcc⟩ := IsInts.at h1 HL.out.symm (by omega)
      have g1 := hcc k hk2
      rw [← hb.cell (p := ⟨bb, oo + k, none⟩) hlt] at g1
      obtain ⟨x, hx⟩ : ∃ x, x = ks.getD k 0 := ⟨_, rfl⟩
      rw [← hx] at g1
      have hyr := lowZ_range x 16 (by omega)
      obtain ⟨y, hy⟩ : ∃ y : Nat, lowZ x 16 = (y : Int) := ⟨(lowZ x 16).toNat, by omega⟩
      rw [hy] at hyr
      have HY := Lib.hid hy
      obtain ⟨X, hX, hXs⟩ := madeP y (by omega)
      have htab : (wr.alloc (.cells #[.string ⟨#[97]⟩, .string ⟨#[98, 32, 99]⟩, .string ⟨#[32]⟩, .string ⟨#[32, 32]⟩, .string ⟨#[10]⟩, .string ⟨#[10]⟩, .string ⟨#[10, 32]⟩, .string ⟨#[10, 32, 32]⟩, .string ⟨#[10, 32, 32, 32]⟩, .string ⟨#[10, 35, 32, 100]⟩, .string ⟨#[9]⟩, .string ⟨#[10, 10, 32, 32]⟩, .string ⟨#[10, 45, 45, 45]⟩, .string ⟨#[10, 46, 46, 46]⟩, .string ⟨#[195, 169]⟩, .string ⟨#[10, 32, 32, 32, 32]⟩] 9)).cell? ⟨wr.heap.size, y, none⟩ = some (.string X) := by rw [World.cell?_alloc_mark]; exact hX
      clear hy hcc hx hX
      go_wp2_with fail
      refine (Low_is (y : Int) x 16 _ (by omega) (by omega) HY.out).mono ?_
      rintro e w1 ⟨rfl, rfl⟩
      go_wp2
      go_roundw
      case rel => exact ⟨_, k + 1, rfl, by go_num, by omega, by rw [ByteArray.size_append]; omega, hb.alloc hb.size _⟩
      case measure => simp [intOf]; omega
    · have hT2 : T.size ≤ 100000 := by omega
      obtain ⟨T1, hT1⟩ : ∃ T1 : ByteArray, T ++ (⟨#[10]⟩ : ByteArray) = T1 := ⟨_, rfl⟩
      have hz1 : T1.size ≤ 100000 := by rw [← hT1, ByteArray.size_append]; show _ + 1 ≤ _; omega
      clear h1 hT
      go_wp2_with fail
      refine (Low_is m n 4 _ (by omega) (by omega) HM.out).mono ?_
      rintro e w1 ⟨rfl, rfl⟩
      go_wp2_with fail
      refine (same13_true K T 0 (m - 1) _ hT2).mono ?_
      rintro e w2 ⟨rfl, hb2⟩
      have hb2' := hb.trans (hb2.mono hb.size)
      go_wp2_with fail
      refine (Low_is m n 4 _ (by omega) (by omega) HM.out).mono ?_
      rintro e w3 ⟨rfl, rfl⟩
      go_wp2_with fail
      refine (same13_true K T1 0 (m - 1) _ hz1).mono ?_
      rintro e w4 ⟨rfl, hb4⟩
      have hb4' := hb2'.trans (hb4.mono hb2'.size)
      go_wp2_with fail
      refine (awake13_true K _).mono ?_
      rintro e w5 ⟨rfl, b5⟩
      go_wp2
      go_ret
      exact ⟨rfl, hb4'.trans (b5.mono hb4'.size)⟩
end Go.Proofs.YtkpccoijegklbaaDoor
