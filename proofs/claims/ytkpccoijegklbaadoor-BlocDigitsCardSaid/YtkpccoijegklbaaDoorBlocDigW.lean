/- The statements on package bloc: the walk of BlocDigits, over what bloc.Read returns (BlocC). Conditions: those that each theorem writes out. -/
import Derived.Test.YtkpccoijegklbaaDoorBlocLaws
import Derived.Test.YtkpccoijegklbaaDoorBlocDig
import Derived.Test.YtkpccoijegklbaaDoorBlanks
import Derived.Deep.DrawnRows
import Derived.Deep.RegionHeld3
namespace Go.Proofs.YtkpccoijegklbaaDoor
open Go.RowKit
attribute [local go_sem ↓] Go.wp_at_zero Go.wp_at_succ
set_option maxRecDepth 100000 in
set_option maxHeartbeats 25600000 in
theorem BlocDigits_walk (K : BlocC) (digit n more sign : Int) (w : World) :
    Calls Tryd.prog 7 #[.int .i64 digit, .int .i64 n, .int .i64 more, .int .i64 sign] w fun e w' => e = .returned (.bool true) ∧ Below w.heap.size w w' := by
  have hr1 := lowZ_range digit 9 (by omega)
  obtain ⟨z1, hz1⟩ : ∃ z : Nat, lowZ digit 9 = (z : Int) := ⟨(lowZ digit 9).toNat, by omega⟩
  rw [hz1] at hr1
  have hr2 := lowZ_range n 4 (by omega)
  obtain ⟨z2, hz2⟩ : ∃ z : Nat, lowZ n 4 = (z : Int) := ⟨(lowZ n 4).toNat, by omega⟩
  rw [hz2] at hr2
  have hr3 := lowZ_range more 4 (by omega)
  obtain ⟨m, hz3⟩ : ∃ z : Nat, lowZ more 4 = (z : Int) := ⟨(lowZ more 4).toNat, by omega⟩
  rw [hz3] at hr3
  have hr4 := lowZ_range sign 3 (by omega)
  obtain ⟨k, hz4⟩ : ∃ z : Nat, lowZ sign 3 = (z : Int) := ⟨(lowZ sign 3).toNat, by omega⟩
  rw [hz4] at hr4
  have C1 := fun W => Low_is (z1 : Int) digit 9 W (by omega) (by omega) hz1
  have C2 := fun W => Low_is (z2 : Int) n 4 W (by omega) (by omega) hz2
  have C3 := fun W => Low_is (m : Int) more 4 W (by omega) (by omega) hz3
  have C4 := fun W => Low_is (k : Int) sign 3 W (by omega) (by omega) hz4
  clear hz1 hz2 hz3 hz4
  obtain ⟨d, hd⟩ : ∃ d : Nat, d = 1 + z1 := ⟨_, rfl⟩
  have e1 : (1 : Int) + (z1 : Int) = (d : Int) := by omega
  obtain ⟨c, hc⟩ : ∃ c : Int, (z2 : Int) - 1 = c := ⟨_, rfl⟩
  obtain ⟨wN, hwN⟩ : ∃ wN : Nat, wN = d + (max c 0).toNat := ⟨_, rfl⟩
  have e4 : (d : Int) + max c 0 = (wN : Int) := by omega
  obtain ⟨wm, hwm⟩ : ∃ wm : Nat, wm = wN + m := ⟨_, rfl⟩
  have e5 : (wN : Int) + (m : Int) = (wm : Int) := by omega
  obtain ⟨w1, hw1⟩ : ∃ w1 : Nat, w1 = wN - 1 := ⟨_, rfl⟩
  have e6 : (wN : Int) - 1 = (w1 : Int) := by omega
  have hwN9 : wN ≤ 11 := by omega
  have hwm14 : wm ≤ 14 := by omega
  obtain ⟨D, hD⟩ : ∃ D : ByteArray, (⟨#[dgB d]⟩ : ByteArray) = D := ⟨_, rfl⟩
  have hDs : D.size = 1 := by rw [← hD]; rfl
  have CD := fun W => lawDigit_is d D (by omega) hD W
  obtain ⟨H, hH, hHh, hHs⟩ := dig_tab d k (by omega) D hD
  obtain ⟨S, hS, hB⟩ := dig_read d k m c wN (by omega) (by omega) (by omega) (by omega) (by omega) hwN
  obtain ⟨B1, hB1⟩ : ∃ B, mkB (blanksB wm) = B := ⟨_, rfl⟩
  obtain ⟨B2, hB2⟩ : ∃ B, mkB (blanksB wN) = B := ⟨_, rfl⟩
  obtain ⟨B3, hB3⟩ : ∃ B, mkB (blanksB w1) = B := ⟨_, rfl⟩
  obtain ⟨B4, hB4⟩ : ∃ B, mkB (blanksB m) = B := ⟨_, rfl⟩
  have hs1 : B1.size = wm := by rw [← hB1, mkB_size, blanks_len]
  have hs2 : B2.size = wN := by rw [← hB2, mkB_size, blanks_len]
  have hs3 : B3.size = w1 := by rw [← hB3, mkB_size, blanks_len]
  have hs4 : B4.size = m := by rw [← hB4, mkB_size, blanks_len]
  have CB1 := fun W => lawBlanksB wm B1 hB1 (by omega) W
  have CB2 := fun W => lawBlanksB wN B2 hB2 (by omega) W
  have CB3 := fun W => lawBlanksB w1 B3 hB3 (by omega) W
  have CB4 := fun W => lawBlanksB m B4 hB4 (by omega) W
  have hSe : H ++ (⟨#[10]⟩ : ByteArray) ++ B1 ++ (⟨#[97, 10]⟩ : ByteArray) ++ B2 ++ (⟨#[98, 10]⟩ : ByteArray) = S := by
    rw [hS, hHh, ← hB1, ← hB2, hwm, Nat.add_zero, List.append_assoc, List.append_assoc, ← mkB_append, ← mkB_append, ByteArray.append_assoc, ByteArray.append_assoc, ByteArray.append_assoc, ByteArray.append_assoc, ByteArray.append_assoc]
    rfl
  obtain ⟨TT, hTT⟩ : ∃ TT : ByteArray, S ++ B3 ++ (⟨#[99, 10]⟩ : ByteArray) = TT := ⟨_, rfl⟩
  have hTT2 : S ++ mkB (blanksB (wN - 1) ++ [99] ++ [10]) = TT := by
    rw [← hTT, ← hB3, hw1, List.append_assoc, ← mkB_append, ByteArray.append_assoc]
    rfl
  rw [hTT2] at hB
  have hSs : S.size = H.size + 1 + wm + 2 + wN + 2 := by
    rw [← hSe, ByteArray.size_append, ByteArray.size_append, ByteArray.size_append, ByteArray.size_append, ByteArray.size_append, hs1, hs2]
    rfl
  have hTs : TT.size = S.size + w1 + 2 := by
    rw [← hTT, ByteArray.size_append, ByteArray.size_append, hs3]
    rfl
  obtain ⟨TX, hTX⟩ : ∃ TX : ByteArray, B4 ++ (⟨#[97, 10, 98, 10]⟩ : ByteArray) = TX := ⟨_, rfl⟩
  have hTX2 : (⟨(blanksB m ++ [97, 10, 98, 10]).toArray⟩ : ByteArray) = TX := by
    rw [← hTX, ← hB4]
    exact (mkB_append _ [97, 10, 98, 10]).symm
  have CK := fun W => K.read 4 (blanksB m ++ [97, 10, 98, 10]) false [] (S.size : Int) 0 TT 0 c W (by omega) hB
  have eK : nodeK 0 4 0 (blanksB m ++ [97, 10, 98, 10]) false [] = nodeL 1 4 0 TX false ⟨#[]⟩ := by rw [← hTX2]; rfl
  rw [eK] at CK
  have hlx : ∀ W : World, (W.alloc (.cells (nodeL 1 4 0 TX false ⟨#[]⟩) 33)).cell? ⟨W.heap.size, 6, none⟩ = some (.string TX) := fun W => by rw [World.cell?_alloc_mark]; rfl
  have hcell : (w.alloc (.cells (digT D) 9)).cell? ⟨w.heap.size, k, none⟩ = some (.string H) := by rw [World.cell?_alloc_mark]; exact hH
  have hbA : Below w.heap.size w (w.alloc (.cells (digT D) 9)) := (Below.refl _ _).alloc (Nat.le_refl _) _
  unfold digT at hcell hbA
  unfold nodeL at CK hlx
  have hk3 : (k : Int) < 3 := by omega
  have hSb : S.size ≤ 60 := by omega
  have hTb : TT.size ≤ 100 := by omega
  have hnl1 : ¬ (9223372036854775807 < m + 4) := by omega
  clear hSs hTs
  clear hd hwN hwm hw1 hD hH hHh hS hB hB1 hB2 hB3 hB4 hTT2 hTX2 eK hr1 hr2 hr3 hr4
  go_enter Tryd.func7, Tryd.ntmps7
  go_wp2_with fail
  refine (C1 _).mono ?_
  rintro e w9 ⟨rfl, rfl⟩
  go_wp2_with fail
  refine (C2 _).mono ?_
  rintro e w9 ⟨rfl, rfl⟩
  go_wp2_with fail
  refine (C3 _).mono ?_
  rintro e w9 ⟨rfl, rfl⟩
  go_wp2_with fail
  refine (CD _).mono ?_
  rintro e w9 ⟨rfl, rfl⟩
  go_wp2_with fail
  refine (CD _).mono ?_
  rintro e w9 ⟨rfl, rfl⟩
  go_wp2_with fail
  refine (CD _).mono ?_
  rintro e w9 ⟨rfl, rfl⟩
  go_wp2_with fail
  refine (C4 _).mono ?_
  rintro e w9 ⟨rfl, rfl⟩
  go_wp2_with fail
  obtain ⟨WA, hWA⟩ : ∃ W, W = w.alloc (.cells #[.string (⟨#[124]⟩ ++ D), .string (⟨#[124, 43]⟩ ++ D), .string (⟨#[124]⟩ ++ D ++ ⟨#[43]⟩)] 9) := ⟨_, rfl⟩
  rw [← hWA] at hbA ⊢
  clear hWA hcell
  refine (CB1 _).mono ?_
  rintro e w9 ⟨rfl, rfl⟩
  go_wp2_with fail
  refine (CB2 _).mono ?_
  rintro e w9 ⟨rfl, rfl⟩
  go_wp2_with fail
  refine (CB3 _).mono ?_
  rintro e w9 ⟨rfl, rfl⟩
  go_wp2_with fail
  refine (CK _).mono ?_
  rintro e w2 ⟨rfl, hb2⟩
  have hb3 := hbA.trans (hb2.mono hbA.size)
  have hlx2 := hlx w2
  go_wp2_with fail
  have hb4 := hb3.alloc hb3.size (.cells (nodeL 1 4 0 TX false ⟨#[]⟩) 33)
  unfold nodeL at hb4
  obtain ⟨WB, hWB⟩ : ∃ W, W = w2.alloc (.cells #[.int .i64 1, .int .i64 4, .int .i64 0, .int .i64 0, .string ⟨#[]⟩, .string ⟨#[]⟩, .string TX, .slice none 0 0, .slice none 0 0, .slice none 0 0, .bool false, .string ⟨#[]⟩] 33) := ⟨_, rfl⟩
  rw [← hWB] at hb4 hlx2 ⊢
  have hwz : w2.heap.size < WB.heap.size := by rw [hWB]; simp
  clear hWB hlx hb2 hb3
  have hAW := fun W (hS : W.cell? ⟨w2.heap.size, 6, none⟩ = some (.string TX) ∧ w2.heap.size < W.heap.size ∧ Below w.heap.size w W) => (awake13_true K W).mono (R' := fun e w' => e = .returned (.bool true) ∧ (w'.cell? ⟨w2.heap.size, 6, none⟩ = some (.string TX) ∧ w2.heap.size < w'.heap.size ∧ Below w.heap.size w w')) (fun e w' h => ⟨h.1, (h.2.cell (p := ⟨w2.heap.size, 6, none⟩) hS.2.1).trans hS.1, Nat.lt_of_lt_of_le hS.2.1 h.2.size, hS.2.2.trans (h.2.mono hS.2.2.size)⟩)
  have hs0 : WB.drew.cell? ⟨w2.heap.size, 6, none⟩ = some (.string TX) ∧ w2.heap.size < WB.drew.heap.size ∧ Below w.heap.size w WB.drew := ⟨by simpa using hlx2, by simpa using hwz, below_drewN hb4 1⟩
  go_region_held3 (fun w' => w'.cell? ⟨w2.heap.size, 6, none⟩ = some (.string TX) ∧ w2.heap.size < w'.heap.size ∧ Below w.heap.size w w') (first | assumption | exact hs0 | exact hS6)
    (first
      | (go_at_call 12; refine (CB4 _).mono ?_; rintro e w9 ⟨rfl, rfl⟩)
      | (go_at_call 9; refine (hAW _ (by assumption)).mono ?_; rintro e w6 ⟨rfl, hS6⟩))
  go_wp2
  go_ret
  exact ⟨rfl, hS6.2.2⟩
end Go.Proofs.YtkpccoijegklbaaDoor
