/- The statements on package bloc: the walk of BlocWrong, over what bloc.Read returns (BlocC). Conditions: those that each theorem writes out. -/
import Derived.Test.YtkpccoijegklbaaDoorBlocLaws
import Derived.Test.YtkpccoijegklbaaDoorBlanks
namespace Go.Proofs.YtkpccoijegklbaaDoor
open Go.RowKit

def wrH : List (List UInt8) := [[124, 48], [124, 45, 45], [124, 49, 50], [124, 43, 45], [62, 97], [124, 32, 97], [124, 49, 43, 50], [124, 35], [124, 43, 32, 45]]
def wrA : List Nat := [1, 2, 2, 2, 1, 2, 3, 1, 3]
def wrOk (j : Nat) : Bool := decide (bTry (mkB (wrH.getD j []) ++ ⟨#[10, 32, 97, 10]⟩) 0 20 = some (0, [], false, [], wrA.getD j 0, 5))
def wrFar (j : Nat) : Bool := decide (bTry (⟨#[124, 10, 10]⟩ ++ mkB (blanksB (3 + j)) ++ ⟨#[10, 32, 32, 97, 10]⟩) 0 20 = some (4, [], false, [], 5, 5))
theorem wr_fact (z : Nat) (hz : z < 9) : ∃ (H : ByteArray) (A : Nat), (#[.string ⟨#[124, 48]⟩, .string ⟨#[124, 45, 45]⟩, .string ⟨#[124, 49, 50]⟩, .string ⟨#[124, 43, 45]⟩, .string ⟨#[62, 97]⟩, .string ⟨#[124, 32, 97]⟩, .string ⟨#[124, 49, 43, 50]⟩, .string ⟨#[124, 35]⟩, .string ⟨#[124, 43, 32, 45]⟩] : Array Value)[z]? = some (.string H) ∧ (#[.int .i64 1, .int .i64 2, .int .i64 2, .int .i64 2, .int .i64 1, .int .i64 2, .int .i64 3, .int .i64 1, .int .i64 3] : Array Value)[z]? = some (.int .i64 (A : Int)) ∧ H.size ≤ 4 ∧ BlocZ (H ++ ⟨#[10, 32, 97, 10]⟩) 0 0 0 [] false [] (A : Int) 5 := by
  have key : ∀ j : Fin 9, wrOk j.val = true := by decide +kernel
  have hB := BlocZ.tried (of_decide_eq_true (key ⟨z, hz⟩))
  have h1 : ∀ j : Fin 9, (#[.string ⟨#[124, 48]⟩, .string ⟨#[124, 45, 45]⟩, .string ⟨#[124, 49, 50]⟩, .string ⟨#[124, 43, 45]⟩, .string ⟨#[62, 97]⟩, .string ⟨#[124, 32, 97]⟩, .string ⟨#[124, 49, 43, 50]⟩, .string ⟨#[124, 35]⟩, .string ⟨#[124, 43, 32, 45]⟩] : Array Value)[j.val]? = some (.string (mkB (wrH.getD j.val []))) ∧ (#[.int .i64 1, .int .i64 2, .int .i64 2, .int .i64 2, .int .i64 1, .int .i64 2, .int .i64 3, .int .i64 1, .int .i64 3] : Array Value)[j.val]? = some (.int .i64 ((wrA.getD j.val 0 : Nat) : Int)) ∧ (mkB (wrH.getD j.val [])).size ≤ 4 := by
    intro j
    match j with
    | ⟨0, _⟩ | ⟨1, _⟩ | ⟨2, _⟩ | ⟨3, _⟩ | ⟨4, _⟩ | ⟨5, _⟩ | ⟨6, _⟩ | ⟨7, _⟩ | ⟨8, _⟩ => exact ⟨rfl, rfl, Nat.le_of_ble_eq_true rfl⟩
    | ⟨i + 9, hi⟩ => exact absurd hi (by omega)
  obtain ⟨k1, k2, k3⟩ := h1 ⟨z, hz⟩
  exact ⟨_, _, k1, k2, k3, hB⟩
theorem wr_far (r : Nat) (hr : r < 3) : BlocZ (⟨#[124, 10, 10]⟩ ++ mkB (blanksB (3 + r)) ++ ⟨#[10, 32, 32, 97, 10]⟩) 0 0 0 [] false [] 5 5 ∨ BlocZ (⟨#[124, 10, 10]⟩ ++ mkB (blanksB (3 + r)) ++ ⟨#[10, 32, 32, 97, 10]⟩) 0 0 4 [] false [] 5 5 := by
  have key : ∀ j : Fin 3, wrFar j.val = true := by decide +kernel
  exact .inr (BlocZ.tried (of_decide_eq_true (key ⟨r, hr⟩)))
theorem wr_ok : BlocZ ⟨#[124, 10, 10, 32, 32, 10, 32, 32, 97, 10]⟩ 0 0 4 [10, 10, 97, 10] false [] 10 0 := BlocZ.tried (g := 20) (by decide +kernel)
set_option maxRecDepth 100000 in
set_option maxHeartbeats 3200000 in
theorem BlocWrong_walk (K : BlocC) (which more : Int) (w : World) :
    Calls Tryd.prog 8 #[.int .i64 which, .int .i64 more] w fun e w' => e = .returned (.bool true) ∧ Below w.heap.size w w' := by
  have hr1 := lowZ_range which 9 (by omega)
  obtain ⟨z, hz⟩ : ∃ z : Nat, lowZ which 9 = (z : Int) := ⟨(lowZ which 9).toNat, by omega⟩
  have hr2 := lowZ_range more 3 (by omega)
  obtain ⟨r, hr⟩ : ∃ r : Nat, lowZ more 3 = (r : Int) := ⟨(lowZ more 3).toNat, by omega⟩
  rw [hz] at hr1
  rw [hr] at hr2
  have hz9 : z < 9 := by omega
  have hr3 : r < 3 := by omega
  have CZ := fun W => Low_is (z : Int) which 9 W (by omega) (by omega) hz
  have CR := fun W => Low_is (r : Int) more 3 W (by omega) (by omega) hr
  clear hz hr
  obtain ⟨H, A, hH, hA, hHs, hB⟩ := wr_fact z hz9
  obtain ⟨T1, hT1⟩ : ∃ T1 : ByteArray, H ++ (⟨#[10, 32, 97, 10]⟩ : ByteArray) = T1 := ⟨_, rfl⟩
  have hz1 : T1.size ≤ 100000 := by rw [← hT1, ByteArray.size_append]; show _ + 4 ≤ _; omega
  rw [hT1] at hB
  obtain ⟨BL, hBL⟩ : ∃ BL : ByteArray, BL = mkB (blanksB (3 + r)) := ⟨_, rfl⟩
  have hBLs : BL.size = 3 + r := by rw [hBL, mkB_size, blanks_len]
  obtain ⟨T2, hT2⟩ : ∃ T2 : ByteArray, (⟨#[124, 10, 10]⟩ : ByteArray) ++ BL ++ (⟨#[10, 32, 32, 97, 10]⟩ : ByteArray) = T2 := ⟨_, rfl⟩
  have hz2 : T2.size ≤ 100000 := by rw [← hT2, ByteArray.size_append, ByteArray.size_append]; show 3 + _ + 5 ≤ _; omega
  have CK1 := fun W => K.read 0 [] false [] (A : Int) 5 T1 0 0 W hz1 hB
  have CK2 : ∀ W, Calls Tryd.prog 15 #[.string T2, .int .i64 0, .int .i64 0] W fun e w' => e = .returned (.tuple #[.agg (nodeL 0 0 0 ⟨#[]⟩ false ⟨#[]⟩), .int .i64 5, .int .i64 5]) ∧ Below W.heap.size W w' := fun W => by
    have := wr_far r hr3
    rw [← hBL, hT2] at this
    rcases this with h | h
    · exact K.read 0 [] false [] 5 5 T2 0 0 W hz2 h
    · exact K.read 4 [] false [] 5 5 T2 0 0 W hz2 h
  have CK3 := fun W => K.read 4 [10, 10, 97, 10] false [] 10 0 ⟨#[124, 10, 10, 32, 32, 10, 32, 32, 97, 10]⟩ 0 0 W (by decide) wr_ok
  have e1 : nodeK 5 0 0 [] false [] = nodeL 0 0 0 ⟨#[]⟩ false ⟨#[]⟩ := rfl
  have e3 : nodeK 0 4 0 [10, 10, 97, 10] false [] = nodeL 1 4 0 ⟨#[10, 10, 97, 10]⟩ false ⟨#[]⟩ := rfl
  rw [e1] at CK1
  rw [e3] at CK3
  unfold nodeL at CK1 CK2 CK3
  have CB : ∀ W, Calls Tryd.prog 12 #[.int .i64 (2 + (1 + (r : Int)))] W fun e w' => e = .returned (.string BL) ∧ W = w' := fun W => by
    rw [hBL]
    exact lawBlanks_is (3 + r) _ W (by omega) (by omega)
  have hc1 : ((w.alloc (.cells #[.string ⟨#[124, 48]⟩, .string ⟨#[124, 45, 45]⟩, .string ⟨#[124, 49, 50]⟩, .string ⟨#[124, 43, 45]⟩, .string ⟨#[62, 97]⟩, .string ⟨#[124, 32, 97]⟩, .string ⟨#[124, 49, 43, 50]⟩, .string ⟨#[124, 35]⟩, .string ⟨#[124, 43, 32, 45]⟩] 9)).alloc (.cells #[.int .i64 1, .int .i64 2, .int .i64 2, .int .i64 2, .int .i64 1, .int .i64 2, .int .i64 3, .int .i64 1, .int .i64 3] 3)).cell? ⟨w.heap.size, z, none⟩ = some (.string H) := by
    rw [((Below.refl _ (w.alloc (.cells #[.string ⟨#[124, 48]⟩, .string ⟨#[124, 45, 45]⟩, .string ⟨#[124, 49, 50]⟩, .string ⟨#[124, 43, 45]⟩, .string ⟨#[62, 97]⟩, .string ⟨#[124, 32, 97]⟩, .string ⟨#[124, 49, 43, 50]⟩, .string ⟨#[124, 35]⟩, .string ⟨#[124, 43, 32, 45]⟩] 9))).alloc (Nat.le_refl _) _).cell (p := ⟨w.heap.size, z, none⟩) (by simp), World.cell?_alloc_mark]
    exact hH
  have hc2 : ((w.alloc (.cells #[.string ⟨#[124, 48]⟩, .string ⟨#[124, 45, 45]⟩, .string ⟨#[124, 49, 50]⟩, .string ⟨#[124, 43, 45]⟩, .string ⟨#[62, 97]⟩, .string ⟨#[124, 32, 97]⟩, .string ⟨#[124, 49, 43, 50]⟩, .string ⟨#[124, 35]⟩, .string ⟨#[124, 43, 32, 45]⟩] 9)).alloc (.cells #[.int .i64 1, .int .i64 2, .int .i64 2, .int .i64 2, .int .i64 1, .int .i64 2, .int .i64 3, .int .i64 1, .int .i64 3] 3)).cell? ⟨w.heap.size + 1, z, none⟩ = some (.int .i64 (A : Int)) := by
    have : (w.alloc (.cells #[.string ⟨#[124, 48]⟩, .string ⟨#[124, 45, 45]⟩, .string ⟨#[124, 49, 50]⟩, .string ⟨#[124, 43, 45]⟩, .string ⟨#[62, 97]⟩, .string ⟨#[124, 32, 97]⟩, .string ⟨#[124, 49, 43, 50]⟩, .string ⟨#[124, 35]⟩, .string ⟨#[124, 43, 32, 45]⟩] 9)).heap.size = w.heap.size + 1 := by simp
    rw [← this, World.cell?_alloc_mark]
    exact hA
  have hbW : Below w.heap.size w ((w.alloc (.cells #[.string ⟨#[124, 48]⟩, .string ⟨#[124, 45, 45]⟩, .string ⟨#[124, 49, 50]⟩, .string ⟨#[124, 43, 45]⟩, .string ⟨#[62, 97]⟩, .string ⟨#[124, 32, 97]⟩, .string ⟨#[124, 49, 43, 50]⟩, .string ⟨#[124, 35]⟩, .string ⟨#[124, 43, 32, 45]⟩] 9)).alloc (.cells #[.int .i64 1, .int .i64 2, .int .i64 2, .int .i64 2, .int .i64 1, .int .i64 2, .int .i64 3, .int .i64 1, .int .i64 3] 3)) := ((Below.refl _ _).alloc (Nat.le_refl _) _).alloc (by simp) _
  have hsW : ((w.alloc (.cells #[.string ⟨#[124, 48]⟩, .string ⟨#[124, 45, 45]⟩, .string ⟨#[124, 49, 50]⟩, .string ⟨#[124, 43, 45]⟩, .string ⟨#[62, 97]⟩, .string ⟨#[124, 32, 97]⟩, .string ⟨#[124, 49, 43, 50]⟩, .string ⟨#[124, 35]⟩, .string ⟨#[124, 43, 32, 45]⟩] 9)).alloc (.cells #[.int .i64 1, .int .i64 2, .int .i64 2, .int .i64 2, .int .i64 1, .int .i64 2, .int .i64 3, .int .i64 1, .int .i64 3] 3)).heap.size = w.heap.size + 2 := by simp
  clear hH hA hB hBL e1 e3
  go_enter Tryd.func8, Tryd.ntmps8
  go_wp2_with fail
  obtain ⟨W, hW⟩ : ∃ W, W = (w.alloc (.cells #[.string ⟨#[124, 48]⟩, .string ⟨#[124, 45, 45]⟩, .string ⟨#[124, 49, 50]⟩, .string ⟨#[124, 43, 45]⟩, .string ⟨#[62, 97]⟩, .string ⟨#[124, 32, 97]⟩, .string ⟨#[124, 49, 43, 50]⟩, .string ⟨#[124, 35]⟩, .string ⟨#[124, 43, 32, 45]⟩] 9)).alloc (.cells #[.int .i64 1, .int .i64 2, .int .i64 2, .int .i64 2, .int .i64 1, .int .i64 2, .int .i64 3, .int .i64 1, .int .i64 3] 3) := ⟨_, rfl⟩
  rw [← hW] at hc1 hc2 hbW hsW ⊢
  clear hW
  refine (CZ _).mono ?_
  rintro e w1 ⟨rfl, rfl⟩
  go_wp2_with fail
  refine (CK1 _).mono ?_
  rintro e w1 ⟨rfl, hb1⟩
  have hb1' := hbW.trans (hb1.mono hbW.size)
  have hq1 := hb1
  go_wp2_with fail
  refine (CR _).mono ?_
  rintro e w2 ⟨rfl, rfl⟩
  go_wp2_with fail
  refine (CB _).mono ?_
  rintro e w2 ⟨rfl, rfl⟩
  go_wp2_with fail
  refine (CK2 _).mono ?_
  rintro e w3 ⟨rfl, hb3⟩
  have hq3 := (hq1.alloc hq1.size _).trans (hb3.mono (by have := hq1.size; simp; omega))
  go_wp2_with fail
  refine (CK3 _).mono ?_
  rintro e w4 ⟨rfl, hb4⟩
  have hq4 := (hq3.alloc hq3.size _).trans (hb4.mono (by have := hq3.size; simp; omega))
  have hq5 := fun o => (hq4.alloc hq4.size o).cell (p := ⟨w.heap.size + 1, z, none⟩) (by show w.heap.size + 1 < W.heap.size; omega)
  have hc5 : ∀ o, (w4.alloc o).cell? ⟨w.heap.size + 1, z, none⟩ = some (.int .i64 (A : Int)) := fun o => (hq5 o).trans hc2
  have hbf : Below w.heap.size w w4 := hbW.trans (hq4.mono hbW.size)
  have hbs := hbf.size
  clear hq5 hq1 hq3 hc1 hc2 hb1 hb3 hb4 CK1 CK2 CK3 CZ CR CB
  go_wp2_with fail
  refine (awake13_true K _).mono ?_
  rintro e w6 ⟨rfl, hb6⟩
  go_wp2
  go_ret
  exact ⟨rfl, (hbf.alloc hbf.size _).trans (hb6.mono (by simp; omega))⟩
end Go.Proofs.YtkpccoijegklbaaDoor
