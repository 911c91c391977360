/- The statements on package core: CoreBases: for every input the law returns true. Conditions: none beside those that each theorem writes out. -/
import Derived.Test.YtlaljfdohpoclaaCoreLaws2
namespace Go.Proofs.Ytlaljfdohpoclaa
open Go.RowKit

theorem core_lowA (x n : Int) (w : World) (h1 : 1 ≤ n) (h2 : n ≤ 9223372036854775807) :
    Calls Try.prog 8 #[.int .i64 x, .int .i64 n] w fun e w' => e = .returned (.int .i64 (lowZ x n)) ∧ w' = w := core_low _ x n w h1 h2 rfl

set_option maxHeartbeats 800000 in
theorem coreLaid_is (k : Nat) (s t R : ByteArray) (at' : Int) (w : World) (hs : s.size ≤ 1000) (ht : t.size ≤ 1000) (hk : lowZ at' ((s.size : Int) + 1) = (k : Int)) (hR : s.extract 0 k ++ t ++ s.extract k s.size = R) :
    Calls Try.prog 13 #[.string s, .int .i64 at', .string t] w fun e w' => e = .returned (.string R) ∧ ∃ n, w' = w.drewN n := by
  have hr := lowZ_range at' ((s.size : Int) + 1) (by omega)
  rw [hk] at hr
  have hks : k ≤ s.size := by omega
  have HK := Lib.hid hk
  have HR := Lib.hid hR
  have z1 : (s.extract 0 k).size ≤ 1000 := by rw [ByteArray.size_extract]; omega
  have z2 : (s.extract 0 k ++ t).size ≤ 2000 := by rw [ByteArray.size_append]; omega
  have z3 : (s.extract k s.size).size ≤ 1000 := by rw [ByteArray.size_extract]; omega
  clear hk hR hr
  go_enter Try.func13, Try.ntmps13
  go_wp2_with fail
  refine (Low_is (k : Int) at' ((s.size : Int) + 1) _ (by omega) (by omega) HK.out).mono ?_
  rintro e w1 ⟨rfl, rfl⟩
  go_wp2
  go_quiet (fail)
  go_wp2
  go_ret
  exact ⟨by rw [← HR.out]; rfl, _, rfl⟩

theorem core_oct (O : ByteArray) (y : Nat) (hy : y < 8) (h : ∀ b ∈ O.data.toList, U.cOct (b.toNat : Int) = true) : (O ++ (⟨#[48, 49, 50, 51, 52, 53, 54, 55]⟩ : ByteArray).extract y (y + 1)).size = O.size + 1 ∧ ∀ b ∈ (O ++ (⟨#[48, 49, 50, 51, 52, 53, 54, 55]⟩ : ByteArray).extract y (y + 1)).data.toList, U.cOct (b.toNat : Int) = true := by
  have H : ∀ k : Fin 8, ((⟨#[48, 49, 50, 51, 52, 53, 54, 55]⟩ : ByteArray).extract k.val (k.val + 1)).size = 1 ∧ ((⟨#[48, 49, 50, 51, 52, 53, 54, 55]⟩ : ByteArray).extract k.val (k.val + 1)).data.toList.all (fun b => U.cOct (b.toNat : Int)) = true := by decide +kernel
  obtain ⟨e1, e2⟩ := H ⟨y, hy⟩
  refine ⟨by rw [ByteArray.size_append]; exact congrArg (O.size + ·) e1, fun b hb => ?_⟩
  rw [data_app] at hb
  rcases List.mem_append.1 hb with hb | hb
  · exact h b hb
  · exact List.all_eq_true.1 e2 b hb
theorem core_hex (O : ByteArray) (y : Nat) (hy : y < 22) (h : ∀ b ∈ O.data.toList, U.cHex (b.toNat : Int) = true) : (O ++ (⟨#[48, 49, 50, 51, 52, 53, 54, 55, 56, 57, 97, 98, 99, 100, 101, 102, 65, 66, 67, 68, 69, 70]⟩ : ByteArray).extract y (y + 1)).size = O.size + 1 ∧ ∀ b ∈ (O ++ (⟨#[48, 49, 50, 51, 52, 53, 54, 55, 56, 57, 97, 98, 99, 100, 101, 102, 65, 66, 67, 68, 69, 70]⟩ : ByteArray).extract y (y + 1)).data.toList, U.cHex (b.toNat : Int) = true := by
  have H : ∀ k : Fin 22, ((⟨#[48, 49, 50, 51, 52, 53, 54, 55, 56, 57, 97, 98, 99, 100, 101, 102, 65, 66, 67, 68, 69, 70]⟩ : ByteArray).extract k.val (k.val + 1)).size = 1 ∧ ((⟨#[48, 49, 50, 51, 52, 53, 54, 55, 56, 57, 97, 98, 99, 100, 101, 102, 65, 66, 67, 68, 69, 70]⟩ : ByteArray).extract k.val (k.val + 1)).data.toList.all (fun b => U.cHex (b.toNat : Int)) = true := by decide +kernel
  obtain ⟨e1, e2⟩ := H ⟨y, hy⟩
  refine ⟨by rw [ByteArray.size_append]; exact congrArg (O.size + ·) e1, fun b hb => ?_⟩
  rw [data_app] at hb
  rcases List.mem_append.1 hb with hb | hb
  · exact h b hb
  · exact List.all_eq_true.1 e2 b hb
/-- A text laid in: its bytes. -/
theorem laid_data (s : ByteArray) (c : UInt8) (k : Nat) (R : ByteArray) (h : s.extract 0 k ++ (⟨#[c]⟩ : ByteArray) ++ s.extract k s.size = R) : R.data.toList = s.data.toList.take k ++ c :: s.data.toList.drop k := by
  rw [← h, data_app, data_app, drop_ext, Lib.extract_data, List.drop_zero, Nat.sub_zero]
  show s.data.toList.take k ++ [c] ++ s.data.toList.drop k = _
  rw [List.append_assoc]
  rfl
theorem laid_size (s : ByteArray) (c : UInt8) (k : Nat) (R : ByteArray) (h : s.extract 0 k ++ (⟨#[c]⟩ : ByteArray) ++ s.extract k s.size = R) (hk : k ≤ s.size) : R.size = s.size + 1 := by
  rw [← h, ByteArray.size_append, ByteArray.size_append, ByteArray.size_extract, ByteArray.size_extract]
  have : (⟨#[c]⟩ : ByteArray).size = 1 := rfl
  omega

set_option maxHeartbeats 4000000 in
theorem CoreBases_walk (v : Value) (ds : List Int) (at' : Int) (w : World) (hv : IsInts .i64 w.heap.size w v ds) :
    Calls Try.prog 5 #[v, .int .i64 at'] w fun e w' => e = .returned (.bool true) ∧ Below w.heap.size w w' := by
  obtain ⟨ao, cap, rfl, c1, d1⟩ := hv.slice
  unfold maxLen at d1
  obtain ⟨L, hL⟩ : ∃ L, L = ds.length := ⟨_, rfl⟩
  rw [← hL] at hv c1 ⊢
  have HL := Lib.hid hL
  clear hL
  by_cases hl1 : L < 1
  · obtain rfl : L = 0 := by omega
    go_enter Try.func5, Try.ntmps5
    go_wp2_with fail
    refine (awake8_any _).mono ?_
    rintro e w1 ⟨rfl, rfl⟩
    go_wp2
    go_ret
    exact ⟨rfl, Below.refl _ _⟩
  by_cases hl2 : 10 < L
  · go_enter Try.func5, Try.ntmps5
    go_wp2_with fail
    refine (awake8_any _).mono ?_
    rintro e w1 ⟨rfl, rfl⟩
    go_wp2
    go_ret
    exact ⟨rfl, Below.refl _ _⟩
  have hl3 : 1 ≤ L := by omega
  have hl4 : L ≤ 10 := by omega
  clear hl1 hl2
  go_enter Try.func5, Try.ntmps5
  go_wp2
  go_loopw [5, 6, 7] (fun vo vx vi wr => ∃ (O X : ByteArray) (k : Nat), vo = .string O ∧ vx = .string X ∧ vi = .int .i64 (k : Int) ∧ k ≤ L ∧ O.size = k ∧ X.size = k ∧ Hid (∀ b ∈ O.data.toList, U.cOct (b.toNat : Int) = true) ∧ Hid (∀ b ∈ X.data.toList, U.cHex (b.toNat : Int) = true) ∧ Below w.heap.size w wr) (fun _ _ vi _ => L - (intOf vi).toNat)
  case atStart => exact ⟨⟨#[]⟩, ⟨#[]⟩, 0, rfl, rfl, rfl, Nat.zero_le _, rfl, rfl, Lib.hid (fun b hb => by simp at hb), Lib.hid (fun b hb => by simp at hb), Below.refl _ _⟩
  case round =>
    obtain ⟨O, X, k, rfl, rfl, rfl, hk, hO, hX, HO, HX, hb⟩ := hrel
    by_cases hk2 : k < L
    · obtain ⟨bb, oo, rfl, hlt, hcc⟩ := IsInts.at hv HL.out.symm (by omega)
      have g1 := hcc k hk2
      rw [← hb.cell (p := ⟨bb, oo + k, none⟩) hlt] at g1
      obtain ⟨x, hx⟩ : ∃ x, x = ds.getD k 0 := ⟨_, rfl⟩
      rw [← hx] at g1
      have hyr := lowZ_range x 8 (by omega)
      have hzr := lowZ_range x 22 (by omega)
      obtain ⟨y, hy⟩ : ∃ y : Nat, lowZ x 8 = (y : Int) := ⟨(lowZ x 8).toNat, by omega⟩
      obtain ⟨z, hz⟩ : ∃ z : Nat, lowZ x 22 = (z : Int) := ⟨(lowZ x 22).toNat, by omega⟩
      rw [hy] at hyr
      rw [hz] at hzr
      have hy8 : y < 8 := by omega
      have hz22 : z < 22 := by omega
      have hO10 : O.size ≤ 10 := by omega
      have hX10 : X.size ≤ 10 := by omega
      obtain ⟨o1, o2⟩ := core_oct O y hy8 HO.out
      obtain ⟨x1, x2⟩ := core_hex X z hz22 HX.out
      have OO := Lib.hid o2
      have XX := Lib.hid x2
      have HO1 := Lib.hid hO
      have HX1 := Lib.hid hX
      have O1 := Lib.hid o1
      have X1 := Lib.hid x1
      clear hyr hzr hcc hx o1 o2 x1 x2 hO hX
      go_wp2_with fail
      go_quiet (first | exact (core_lowA x _ _ (by decide) (by decide)).mono (by rintro e w' ⟨rfl, rfl⟩; exact ⟨rfl, _, rfl⟩))
      go_wp2
      go_roundw
      case rel => exact ⟨_, _, k + 1, rfl, rfl, by go_num, by omega, by rw [O1.out, HO1.out], by rw [X1.out, HX1.out], OO.out, XX.out, below_drewN hb _⟩
      case measure => simp [intOf]; omega
    · have hp : k = L := by omega
      have hO10 : O.size ≤ 10 := by omega
      have hX10 : X.size ≤ 10 := by omega
      have hO0 : O.data.toList ≠ [] := by
        intro e
        have : O.size = 0 := by rw [Lib.size_eq, e]; rfl
        omega
      have hX0 : X.data.toList ≠ [] := by
        intro e
        have : X.size = 0 := by rw [Lib.size_eq, e]; rfl
        omega
      obtain ⟨p, hpp⟩ : ∃ p : Nat, lowZ at' ((O.size : Int) + 1) = (p : Int) := ⟨(lowZ at' ((O.size : Int) + 1)).toNat, by have := lowZ_range at' ((O.size : Int) + 1) (by omega); omega⟩
      obtain ⟨q, hqq⟩ : ∃ q : Nat, lowZ at' ((X.size : Int) + 1) = (q : Int) := ⟨(lowZ at' ((X.size : Int) + 1)).toNat, by have := lowZ_range at' ((X.size : Int) + 1) (by omega); omega⟩
      have hp1 : p ≤ O.size := by have := lowZ_range at' ((O.size : Int) + 1) (by omega); omega
      have hq1 : q ≤ X.size := by have := lowZ_range at' ((X.size : Int) + 1) (by omega); omega
      obtain ⟨R, hR⟩ : ∃ R, O.extract 0 p ++ (⟨#[56]⟩ : ByteArray) ++ O.extract p O.size = R := ⟨_, rfl⟩
      obtain ⟨S, hS⟩ : ∃ S, X.extract 0 q ++ (⟨#[103]⟩ : ByteArray) ++ X.extract q X.size = S := ⟨_, rfl⟩
      have hRd := laid_data O 56 p R hR
      have hSd := laid_data X 103 q S hS
      have hRs := laid_size O 56 p R hR hp1
      have hSs := laid_size X 103 q S hS hq1
      obtain ⟨b1, b2, b3, b4, b5, b6, b7⟩ := U.bases hO0 hX0 HO.out HX.out p q
      rw [← hRd] at b5
      rw [← hSd] at b6
      have CR := fun W => coreLaid_is p O ⟨#[56]⟩ R at' W (by omega) (by decide) hpp hR
      have CS := fun W => coreLaid_is q X ⟨#[103]⟩ S at' W (by omega) (by decide) hqq hS
      obtain ⟨T1, hT1⟩ : ∃ T : ByteArray, (⟨#[48, 111]⟩ : ByteArray) ++ O = T := ⟨_, rfl⟩
      have sT1 : T1.size ≤ 20 := by
        have e : (⟨#[48, 111]⟩ : ByteArray).size = 2 := rfl
        rw [← hT1, ByteArray.size_append]
        omega
      have NT1 : Hid (U.cTag T1.data.toList = 2) := by
        show _ = _
        rw [← hT1, data_app]
        exact b1
      obtain ⟨T2, hT2⟩ : ∃ T : ByteArray, (⟨#[48, 120]⟩ : ByteArray) ++ X = T := ⟨_, rfl⟩
      have sT2 : T2.size ≤ 20 := by
        have e : (⟨#[48, 120]⟩ : ByteArray).size = 2 := rfl
        rw [← hT2, ByteArray.size_append]
        omega
      have NT2 : Hid (U.cTag T2.data.toList = 2) := by
        show _ = _
        rw [← hT2, data_app]
        exact b2
      obtain ⟨T3, hT3⟩ : ∃ T : ByteArray, (⟨#[45, 48, 111]⟩ : ByteArray) ++ O = T := ⟨_, rfl⟩
      have sT3 : T3.size ≤ 20 := by
        have e : (⟨#[45, 48, 111]⟩ : ByteArray).size = 3 := rfl
        rw [← hT3, ByteArray.size_append]
        omega
      have NT3 : Hid (U.cTag T3.data.toList = 4) := by
        show _ = _
        rw [← hT3, data_app]
        exact b3
      obtain ⟨T4, hT4⟩ : ∃ T : ByteArray, (⟨#[43, 48, 120]⟩ : ByteArray) ++ X = T := ⟨_, rfl⟩
      have sT4 : T4.size ≤ 20 := by
        have e : (⟨#[43, 48, 120]⟩ : ByteArray).size = 3 := rfl
        rw [← hT4, ByteArray.size_append]
        omega
      have NT4 : Hid (U.cTag T4.data.toList = 4) := by
        show _ = _
        rw [← hT4, data_app]
        exact b4
      obtain ⟨T5, hT5⟩ : ∃ T : ByteArray, (⟨#[48, 111]⟩ : ByteArray) ++ R = T := ⟨_, rfl⟩
      have sT5 : T5.size ≤ 20 := by
        have e : (⟨#[48, 111]⟩ : ByteArray).size = 2 := rfl
        rw [← hT5, ByteArray.size_append]
        omega
      have NT5 : Hid (U.cTag T5.data.toList = 4) := by
        show _ = _
        rw [← hT5, data_app]
        exact b5
      obtain ⟨T6, hT6⟩ : ∃ T : ByteArray, (⟨#[48, 120]⟩ : ByteArray) ++ S = T := ⟨_, rfl⟩
      have sT6 : T6.size ≤ 20 := by
        have e : (⟨#[48, 120]⟩ : ByteArray).size = 2 := rfl
        rw [← hT6, ByteArray.size_append]
        omega
      have NT6 : Hid (U.cTag T6.data.toList = 4) := by
        show _ = _
        rw [← hT6, data_app]
        exact b6
      obtain ⟨T7, hT7⟩ : ∃ T : ByteArray, (⟨#[48, 88]⟩ : ByteArray) ++ X = T := ⟨_, rfl⟩
      have sT7 : T7.size ≤ 20 := by
        have e : (⟨#[48, 88]⟩ : ByteArray).size = 2 := rfl
        rw [← hT7, ByteArray.size_append]
        omega
      have NT7 : Hid (U.cTag T7.data.toList = 4) := by
        show _ = _
        rw [← hT7, data_app]
        exact b7
      clear b1 b2 b3 b4 b5 b6 b7 hRd hSd hR hS hpp hqq hO0 hX0 hp hp1 hq1
      go_wp2_with fail
      refine (coreTag_is 2 T1 _ (by omega) NT1.out).mono ?_
      rintro e w1 ⟨rfl, rfl⟩
      go_wp2_with fail
      refine (coreLong_is (tagS 2) _ _ (cWord_size 2) rfl).mono ?_
      rintro e w1 ⟨rfl, rfl⟩
      go_wp2_with fail
      refine (coreTag_is 2 T2 _ (by omega) NT2.out).mono ?_
      rintro e w1 ⟨rfl, rfl⟩
      go_wp2_with fail
      refine (coreLong_is (tagS 2) _ _ (cWord_size 2) rfl).mono ?_
      rintro e w1 ⟨rfl, rfl⟩
      go_wp2_with fail
      refine (coreTag_is 4 T3 _ (by omega) NT3.out).mono ?_
      rintro e w1 ⟨rfl, rfl⟩
      go_wp2_with fail
      refine (coreLong_is (tagS 4) _ _ (cWord_size 4) rfl).mono ?_
      rintro e w1 ⟨rfl, rfl⟩
      go_wp2_with fail
      refine (coreTag_is 4 T4 _ (by omega) NT4.out).mono ?_
      rintro e w1 ⟨rfl, rfl⟩
      go_wp2_with fail
      refine (coreLong_is (tagS 4) _ _ (cWord_size 4) rfl).mono ?_
      rintro e w1 ⟨rfl, rfl⟩
      go_wp2_with fail
      refine (CR _).mono ?_
      rintro e w1 ⟨rfl, n1, rfl⟩
      go_wp2_with fail
      refine (coreTag_is 4 T5 _ (by omega) NT5.out).mono ?_
      rintro e w1 ⟨rfl, rfl⟩
      go_wp2_with fail
      refine (coreLong_is (tagS 4) _ _ (cWord_size 4) rfl).mono ?_
      rintro e w1 ⟨rfl, rfl⟩
      go_wp2_with fail
      refine (CS _).mono ?_
      rintro e w1 ⟨rfl, n2, rfl⟩
      go_wp2_with fail
      refine (coreTag_is 4 T6 _ (by omega) NT6.out).mono ?_
      rintro e w1 ⟨rfl, rfl⟩
      go_wp2_with fail
      refine (coreLong_is (tagS 4) _ _ (cWord_size 4) rfl).mono ?_
      rintro e w1 ⟨rfl, rfl⟩
      go_wp2_with fail
      refine (coreTag_is 4 T7 _ (by omega) NT7.out).mono ?_
      rintro e w1 ⟨rfl, rfl⟩
      go_wp2_with fail
      refine (coreLong_is (tagS 4) _ _ (cWord_size 4) rfl).mono ?_
      rintro e w1 ⟨rfl, rfl⟩
      go_wp2_with fail
      refine (coreTag_is 4 ⟨#[48, 111]⟩ _ (by decide) (by decide +kernel)).mono ?_
      rintro e w1 ⟨rfl, rfl⟩
      go_wp2_with fail
      refine (coreLong_is (tagS 4) _ _ (cWord_size 4) rfl).mono ?_
      rintro e w1 ⟨rfl, rfl⟩
      go_wp2_with fail
      refine (awake8_any _).mono ?_
      rintro e w1 ⟨rfl, rfl⟩
      go_wp2
      go_ret
      exact ⟨rfl, below_drewN hb _⟩

end Go.Proofs.Ytlaljfdohpoclaa
