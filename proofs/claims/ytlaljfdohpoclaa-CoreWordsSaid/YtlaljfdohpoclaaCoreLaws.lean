/- The statements on package core: the document's Core whole, what every program answers that is one, and CoreTells: for every input the law returns true. Conditions: none beside those that each theorem writes out. -/
import Derived.Test.YtlaljfdohpoclaaCoreRefC
import Derived.Test.YtlaljfdohpoclaaWord
namespace Go.Proofs.Ytlaljfdohpoclaa
open Go.RowKit

theorem base_two (s : ByteArray) (y : UInt8) (h : ((s.extract 0 2).toList == [48, y]) = true) : ∃ r, s.data.toList = 48 :: y :: r := by
  rw [beq_iff_eq, Lib.toList_data, Lib.extract_data, List.drop_zero] at h
  match e : s.data.toList, h with
  | [], h => simp at h
  | [a], h => simp at h
  | a :: b :: r, h =>
    simp at h
    exact ⟨r, by rw [h.1, h.2]⟩
theorem base_two_facts (s : ByteArray) (y : UInt8) (r : List UInt8) (z0 : 2 < s.size) (e : s.data.toList = 48 :: y :: r) :
    (byt s 0 : Int) = 48 ∧ (s.toList == [46, 105, 110, 102]) = false ∧ (s.toList == [46, 73, 110, 102]) = false ∧ (s.toList == [46, 73, 78, 70]) = false ∧ U.cTail (U.cUns s.data.toList) = if U.cNum s.data.toList = 1 then 2 else if U.cNum s.data.toList = 2 then 3 else 4 := by
  obtain ⟨b, hd, hb⟩ := cons_ext s (by omega)
  have hb2 : b = 48 := by rw [e] at hd; exact ((List.cons.injEq _ _ _ _).mp hd).1.symm
  subst hb2
  refine ⟨by rw [← hb]; rfl, ?_, ?_, ?_, ?_⟩
  · rw [Lib.toList_data, e]; simp
  · rw [Lib.toList_data, e]; simp
  · rw [Lib.toList_data, e]; simp
  · have hu : U.cUns s.data.toList = s.data.toList := by rw [e]; rfl
    rw [hu]
    refine cTail_num _ ?_
    rw [e]
    exact U.cIn_head (U.heads (p := fun c => decide (c = 48)) rfl (by decide))

theorem coreRefCore_is (k : Nat) (s : ByteArray) (w : World) (hs : s.size ≤ 1099511627776) (h : U.cTag s.data.toList = k) :
    Calls Try.prog 10 #[.string s] w fun e w' => e = .returned (.string (tagS k)) ∧ w = w' := by
  rw [U.cTag_ref, cNulls_or, cBools_or, cNans_or] at h
  cases g0 : s.toList.isEmpty with
  | true =>
    have hk : k = 0 := by rw [← h, g0]; rfl
    subst hk
    exact coreRefCore_w0 s w g0
  | false =>
    cases g1 : (s.toList == [110, 117, 108, 108]) with
    | true =>
      have hk : k = 0 := by rw [← h, g0, g1]; rfl
      subst hk
      exact coreRefCore_w1 s w g0 g1
    | false =>
      cases g2 : (s.toList == [78, 117, 108, 108]) with
      | true =>
        have hk : k = 0 := by rw [← h, g0, g1, g2]; rfl
        subst hk
        exact coreRefCore_w2 s w g0 g1 g2
      | false =>
        cases g3 : (s.toList == [78, 85, 76, 76]) with
        | true =>
          have hk : k = 0 := by rw [← h, g0, g1, g2, g3]; rfl
          subst hk
          exact coreRefCore_w3 s w g0 g1 g2 g3
        | false =>
          cases g4 : (s.toList == [126]) with
          | true =>
            have hk : k = 0 := by rw [← h, g0, g1, g2, g3, g4]; rfl
            subst hk
            exact coreRefCore_w4 s w g0 g1 g2 g3 g4
          | false =>
            cases g5 : (s.toList == [116, 114, 117, 101]) with
            | true =>
              have hk : k = 1 := by rw [← h, g0, g1, g2, g3, g4, g5]; rfl
              subst hk
              exact coreRefCore_w5 s w g0 g1 g2 g3 g4 g5
            | false =>
              cases g6 : (s.toList == [84, 114, 117, 101]) with
              | true =>
                have hk : k = 1 := by rw [← h, g0, g1, g2, g3, g4, g5, g6]; rfl
                subst hk
                exact coreRefCore_w6 s w g0 g1 g2 g3 g4 g5 g6
              | false =>
                cases g7 : (s.toList == [84, 82, 85, 69]) with
                | true =>
                  have hk : k = 1 := by rw [← h, g0, g1, g2, g3, g4, g5, g6, g7]; rfl
                  subst hk
                  exact coreRefCore_w7 s w g0 g1 g2 g3 g4 g5 g6 g7
                | false =>
                  cases g8 : (s.toList == [102, 97, 108, 115, 101]) with
                  | true =>
                    have hk : k = 1 := by rw [← h, g0, g1, g2, g3, g4, g5, g6, g7, g8]; rfl
                    subst hk
                    exact coreRefCore_w8 s w g0 g1 g2 g3 g4 g5 g6 g7 g8
                  | false =>
                    cases g9 : (s.toList == [70, 97, 108, 115, 101]) with
                    | true =>
                      have hk : k = 1 := by rw [← h, g0, g1, g2, g3, g4, g5, g6, g7, g8, g9]; rfl
                      subst hk
                      exact coreRefCore_w9 s w g0 g1 g2 g3 g4 g5 g6 g7 g8 g9
                    | false =>
                      cases g10 : (s.toList == [70, 65, 76, 83, 69]) with
                      | true =>
                        have hk : k = 1 := by rw [← h, g0, g1, g2, g3, g4, g5, g6, g7, g8, g9, g10]; rfl
                        subst hk
                        exact coreRefCore_w10 s w g0 g1 g2 g3 g4 g5 g6 g7 g8 g9 g10
                      | false =>
                        cases g11 : (s.toList == [46, 110, 97, 110]) with
                        | true =>
                          have hk : k = 3 := by rw [← h, g0, g1, g2, g3, g4, g5, g6, g7, g8, g9, g10, g11]; rfl
                          subst hk
                          exact coreRefCore_w11 s w g0 g1 g2 g3 g4 g5 g6 g7 g8 g9 g10 g11
                        | false =>
                          cases g12 : (s.toList == [46, 78, 97, 78]) with
                          | true =>
                            have hk : k = 3 := by rw [← h, g0, g1, g2, g3, g4, g5, g6, g7, g8, g9, g10, g11, g12]; rfl
                            subst hk
                            exact coreRefCore_w12 s w g0 g1 g2 g3 g4 g5 g6 g7 g8 g9 g10 g11 g12
                          | false =>
                            cases g13 : (s.toList == [46, 78, 65, 78]) with
                            | true =>
                              have hk : k = 3 := by rw [← h, g0, g1, g2, g3, g4, g5, g6, g7, g8, g9, g10, g11, g12, g13]; rfl
                              subst hk
                              exact coreRefCore_w13 s w g0 g1 g2 g3 g4 g5 g6 g7 g8 g9 g10 g11 g12 g13
                            | false =>
                              rw [g0, g1, g2, g3, g4, g5, g6, g7, g8, g9, g10, g11, g12, g13] at h
                              have h2 : (if U.cBase s.data.toList = true then 2 else U.cTail (U.cUns s.data.toList)) = k := h
                              clear h
                              by_cases z0 : s.size ≤ 2
                              · have hb : U.cBase s.data.toList = false := by
                                  unfold U.cBase
                                  rw [List.drop_eq_nil_of_le (by rw [← Lib.size_eq]; exact z0)]
                                  simp [U.cAll]
                                rw [hb, if_neg (by decide)] at h2
                                exact coreRefCore_short k s w hs g0 g1 g2 g3 g4 g5 g6 g7 g8 g9 g10 g11 g12 g13 z0 h2
                              · have z0 : 2 < s.size := by omega
                                rw [base_long s _ rfl, drop_ext] at h2
                                cases z1 : ((s.extract 0 2).toList == [48, 111]) with
                                | true =>
                                  obtain ⟨r, hr⟩ := base_two s _ z1
                                  obtain ⟨f1, f2, f3, f4, f5⟩ := base_two_facts s _ r z0 hr
                                  have z2 : ((s.extract 0 2).toList == [48, 120]) = false := by rw [beq_iff_eq] at z1; rw [z1]; rfl
                                  cases z3 : U.cAll U.cOct (s.data.toList.drop 2) with
                                  | true =>
                                    have hk : k = 2 := by rw [← h2, z1, z3]; rfl
                                    subst hk
                                    exact coreRefCore_oYes s w hs g0 g1 g2 g3 g4 g5 g6 g7 g8 g9 g10 g11 g12 g13 z0 z1 z3
                                  | false =>
                                    rw [z1, z2, z3, f5] at h2
                                    exact coreRefCore_oNo k s w hs g0 g1 g2 g3 g4 g5 g6 g7 g8 g9 g10 g11 g12 g13 z0 z1 z2 z3 f1 f2 f3 f4 h2
                                | false =>
                                  cases z2 : ((s.extract 0 2).toList == [48, 120]) with
                                  | true =>
                                    obtain ⟨r, hr⟩ := base_two s _ z2
                                    obtain ⟨f1, f2, f3, f4, f5⟩ := base_two_facts s _ r z0 hr
                                    cases z3 : U.cAll U.cHex (s.data.toList.drop 2) with
                                    | true =>
                                      have hk : k = 2 := by rw [← h2, z1, z2, z3]; rfl
                                      subst hk
                                      exact coreRefCore_xYes s w hs g0 g1 g2 g3 g4 g5 g6 g7 g8 g9 g10 g11 g12 g13 z0 z1 z2 z3
                                    | false =>
                                      rw [z1, z2, z3, f5] at h2
                                      exact coreRefCore_xNo k s w hs g0 g1 g2 g3 g4 g5 g6 g7 g8 g9 g10 g11 g12 g13 z0 z1 z2 z3 f1 f2 f3 f4 h2
                                  | false =>
                                    rw [z1, z2] at h2
                                    exact coreRefCore_none k s w hs g0 g1 g2 g3 g4 g5 g6 g7 g8 g9 g10 g11 g12 g13 z0 z1 z2 h2

set_option maxHeartbeats 800000 in
/-- What every program answers that is one. -/
theorem awake8_any (w : World) : Calls Try.prog 7 #[] w fun e w' => e = .returned (.bool true) ∧ w = w' := by
  go_enter Try.func7, Try.ntmps7
  go_wp2_with fail
  refine (coreLong_is ⟨#[116, 97, 103, 58, 121, 97, 109, 108, 46, 111, 114, 103, 44, 50, 48, 48, 50, 58, 120]⟩ ⟨#[120]⟩ _ (by decide) (by decide +kernel)).mono ?_
  rintro e w1 ⟨rfl, rfl⟩
  go_wp2_with fail
  refine (coreTag_is 2 ⟨#[48, 120, 49, 70]⟩ _ (by decide) (by decide +kernel)).mono ?_
  rintro e w1 ⟨rfl, rfl⟩
  go_wp2_with fail
  refine (coreLong_is (tagS 2) _ _ (cWord_size 2) rfl).mono ?_
  rintro e w1 ⟨rfl, rfl⟩
  go_wp2_with fail
  refine (coreTag_is 3 ⟨#[49, 46]⟩ _ (by decide) (by decide +kernel)).mono ?_
  rintro e w1 ⟨rfl, rfl⟩
  go_wp2_with fail
  refine (coreLong_is (tagS 3) _ _ (cWord_size 3) rfl).mono ?_
  rintro e w1 ⟨rfl, rfl⟩
  go_wp2_with fail
  refine (coreTag_is 4 ⟨#[43, 48, 120, 49]⟩ _ (by decide) (by decide +kernel)).mono ?_
  rintro e w1 ⟨rfl, rfl⟩
  go_wp2_with fail
  refine (coreLong_is (tagS 4) _ _ (cWord_size 4) rfl).mono ?_
  rintro e w1 ⟨rfl, rfl⟩
  go_wp2_with fail
  refine (coreTag_is 0 ⟨#[]⟩ _ (by decide) (by decide +kernel)).mono ?_
  rintro e w1 ⟨rfl, rfl⟩
  go_wp2_with fail
  refine (coreLong_is (tagS 0) _ _ (cWord_size 0) rfl).mono ?_
  rintro e w1 ⟨rfl, rfl⟩
  go_wp2
  go_ret
  exact ⟨rfl, rfl⟩

theorem core_low (y : Int) (x n : Int) (w : World) (h1 : 1 ≤ n) (h2 : n ≤ 9223372036854775807) (hy : lowZ x n = y) :
    Calls Try.prog 8 #[.int .i64 x, .int .i64 n] w fun e w' => e = .returned (.int .i64 y) ∧ w' = w := by
  refine (Low_is y x n w h1 h2 hy).mono ?_
  rintro e w' ⟨rfl, rfl⟩
  exact ⟨rfl, rfl⟩
theorem core_ext (S X : ByteArray) (y : Nat) : (S ++ X.extract y (y + 1)).size ≤ S.size + 1 := by
  rw [ByteArray.size_append, ByteArray.size_extract]
  omega

set_option maxHeartbeats 1600000 in
theorem CoreTells_walk (s : ByteArray) (v : Value) (ks : List Int) (w : World) (hv : IsInts .i64 w.heap.size w v ks) :
    Calls Try.prog 3 #[.string s, v] w fun e w' => e = .returned (.bool true) ∧ Below w.heap.size w w' := by
  obtain ⟨ao, cap, rfl, c1, d1⟩ := hv.slice
  unfold maxLen at d1
  obtain ⟨L, hL⟩ : ∃ L, L = ks.length := ⟨_, rfl⟩
  rw [← hL] at hv c1 ⊢
  have HL := Lib.hid hL
  clear hL
  by_cases hl : 40 < s.size
  · go_enter Try.func3, Try.ntmps3
    go_wp2_with fail
    refine (awake8_any _).mono ?_
    rintro e w1 ⟨rfl, rfl⟩
    go_wp2
    go_ret
    exact ⟨rfl, Below.refl _ _⟩
  by_cases hl2 : 12 < L
  · go_enter Try.func3, Try.ntmps3
    go_wp2_with fail
    refine (awake8_any _).mono ?_
    rintro e w1 ⟨rfl, rfl⟩
    go_wp2
    go_ret
    exact ⟨rfl, Below.refl _ _⟩
  go_enter Try.func3, Try.ntmps3
  go_wp2
  go_loopw [5, 6] (fun vt vi wr => ∃ (T : ByteArray) (k : Nat), vt = .string T ∧ vi = .int .i64 (k : Int) ∧ k ≤ L ∧ T.size ≤ k ∧ Below w.heap.size w wr) (fun _ vi _ => L - (intOf vi).toNat)
  case atStart => exact ⟨_, 0, rfl, rfl, Nat.zero_le _, Nat.le_refl _, Below.refl _ _⟩
  case round =>
    obtain ⟨T, k, rfl, rfl, hk, hT, hb⟩ := hrel
    by_cases hk2 : k < L
    · obtain ⟨bb, oo, rfl, hlt, hcc⟩ := IsInts.at hv HL.out.symm (by omega)
      have g1 := hcc k hk2
      rw [← hb.cell (p := ⟨bb, oo + k, none⟩) hlt] at g1
      obtain ⟨x, hx⟩ : ∃ x, x = ks.getD k 0 := ⟨_, rfl⟩
      rw [← hx] at g1
      have hyr := lowZ_range x 29 (by omega)
      obtain ⟨y, hy⟩ : ∃ y : Nat, lowZ x 29 = (y : Int) := ⟨(lowZ x 29).toNat, by omega⟩
      rw [hy] at hyr
      have hy29 : y < 29 := by omega
      have HY := Lib.hid hy
      clear hy hyr hcc hx
      go_wp2_with fail
      go_quiet (first | exact (core_low (y : Int) x 29 _ (by omega) (by omega) HY.out).mono (by rintro e w' ⟨rfl, rfl⟩; exact ⟨rfl, _, rfl⟩))
      go_wp2
      go_roundw
      case rel => exact ⟨_, k + 1, rfl, by go_num, by omega, Nat.le_trans (core_ext _ _ _) (by omega), below_drewN hb _⟩
      case measure => simp [intOf]; omega
    · obtain ⟨a, ha⟩ : ∃ a, U.cTag s.data.toList = a := ⟨_, rfl⟩
      obtain ⟨b, hb2⟩ : ∃ b, U.cTag T.data.toList = b := ⟨_, rfl⟩
      have HA := Lib.hid ha
      have HB := Lib.hid hb2
      have hs1 : s.size ≤ 1099511627776 := by omega
      have hT1 : T.size ≤ 1099511627776 := by omega
      clear ha hb2
      go_wp2_with fail
      refine (coreTag_is a s _ hs1 HA.out).mono ?_
      rintro e w1 ⟨rfl, rfl⟩
      go_wp2_with fail
      refine (coreRefCore_is a s _ hs1 HA.out).mono ?_
      rintro e w1 ⟨rfl, rfl⟩
      go_wp2_with fail
      refine (coreTag_is b T _ hT1 HB.out).mono ?_
      rintro e w1 ⟨rfl, rfl⟩
      go_wp2_with fail
      refine (coreRefCore_is b T _ hT1 HB.out).mono ?_
      rintro e w1 ⟨rfl, rfl⟩
      go_wp2_with fail
      refine (coreLong_is _ s _ hs1 rfl).mono ?_
      rintro e w1 ⟨rfl, rfl⟩
      go_wp2_with fail
      refine (awake8_any _).mono ?_
      rintro e w1 ⟨rfl, rfl⟩
      go_wp2
      go_ret
      exact ⟨rfl, hb⟩

end Go.Proofs.Ytlaljfdohpoclaa
