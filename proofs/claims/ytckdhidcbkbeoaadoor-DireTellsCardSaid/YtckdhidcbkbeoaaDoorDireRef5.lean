/- The document's answer of chapter 10: Directive. Conditions: those that each theorem writes out (lengths that memory can hold). -/
import Derived.Test.YtckdhidcbkbeoaaDoorDireRef4
namespace Go.Proofs.YtckdhidcbkbeoaaDoor
open Go.RowKit

set_option maxRecDepth 100000 in
set_option maxHeartbeats 6400000 in
theorem refDirective_yes (W : List (List UInt8)) (N0 : List UInt8 × List UInt8) (N D T : List UInt8) (q : Bool) (s : ByteArray) (w : World) (hs : s.size ≤ 100000) (h37 : s.data.toList.headD 0 = 37) (hWN : U.tNote true s.data.toList = N0) (hW : U.tWords N0.1 = W) (hN : N0.2 = N) (hF : U.tForm W = true) (hD : Lib.join W [32] = D) (hT : U.tCut (N.drop 1) = T) (hq : (!N.isEmpty) = q) :
    Calls Tryd.prog 22 #[.string s] w fun e w' => e = retRead D T q 0 ∧ Below w.heap.size w w' := by
  have hpos : 0 < W.length ∧ (∀ x ∈ W, x ≠ []) ∧ ∀ x ∈ W, x.length ≤ 1000000000 := by
    obtain ⟨w0, ws, hws⟩ := U.words_ne h37
    rw [hWN, hW] at hws
    refine ⟨by rw [hws]; simp, fun x hx => (U.words_word N0.1 x (by rw [hW]; exact hx)).1, fun x hx => ?_⟩
    have h1 := U.words_each N0.1 x (by rw [hW]; exact hx)
    have h2 := congrArg List.length (U.note_cat s.data.toList true)
    rw [List.length_append, hWN, ← Lib.size_eq] at h2
    omega
  have hdl : D.length ≤ 100000 := by
    have h1 := U.words_len N0.1 []
    rw [show U.wordsC [] N0.1 = W from hW, hD] at h1
    have h2 := congrArg List.length (U.note_cat s.data.toList true)
    rw [List.length_append, hWN, ← Lib.size_eq] at h2
    simp only [List.length_nil] at h1
    omega
  have HDL := Lib.hid hdl
  have HD := Lib.hid hD
  have HT := Lib.hid (And.intro hT (And.intro hq hN))
  clear hdl hD hT hq hN
  have HP := Lib.hid hpos
  have HF := Lib.hid hF
  have HW := Lib.hid hW
  have hst := note_start h37
  rw [hWN] at hst
  have h1s : 1 ≤ s.size := by
    rw [Lib.size_eq]
    cases hl : s.data.toList with
    | nil => rw [hl] at h37; exact absurd h37 (by decide)
    | cons b r => simp
  have hx0 := run_byt s 0 (by omega) 0 rfl
  have hb37 : byt s 0 = 37 := by
    obtain ⟨c, hc, hcb⟩ := drop_byte s 0 (by omega)
    rw [List.drop_zero] at hc
    rw [← hcb, show c = 37 by rw [hc] at h37; exact h37]
    rfl
  rw [hb37] at hx0
  have hem : s.toList.isEmpty = false := by
    rw [Lib.toList_data]
    cases hl : s.data.toList with
    | nil => rw [hl] at h37; exact absurd h37 (by decide)
    | cons c r => rfl
  have HS := Lib.hid hst
  clear hpos hF hW hst h37 hWN hb37
  go_enter Tryd.func22, Tryd.ntmps22
  go_wp2
  go_loop [6, 7, 8, 9] (fun vn vd vb vi => ∃ i : Nat, vn = .string ⟨#[]⟩ ∧ vd = .bool false ∧ vb = .string s ∧ vi = .int .i64 (i : Int) ∧ 1 ≤ i ∧ i ≤ s.size ∧ Hid (N0 = (s.data.toList.take i ++ (U.tNote (U.wh (s.data.toList.getD (i - 1) 0)) (s.data.toList.drop i)).1, (U.tNote (U.wh (s.data.toList.getD (i - 1) 0)) (s.data.toList.drop i)).2))) (fun _ _ _ vi => s.size - (intOf vi).toNat)
  case atStart => exact ⟨1, rfl, rfl, rfl, rfl, Nat.le_refl _, h1s, HS.out⟩
  case round =>
    obtain ⟨i, rfl, rfl, rfl, rfl, hi1, hi, H⟩ := hrel
    by_cases hi2 : i < s.size
    · have hxi := run_byt s i hi2 _ rfl
      have hxj := run_byt s (i - 1) (by omega) ((i : Int) - 1) (by omega)
      obtain ⟨b, hd, hb⟩ := drop_byte s i hi2
      have hwp : U.wh (s.data.toList.getD (i - 1) 0) = U.white (byt s (i - 1) : Int) := by unfold U.wh; rw [getD_byt s (i - 1) (by omega)]
      obtain ⟨x, hx⟩ : ∃ x : Nat, x = byt s i := ⟨_, rfl⟩
      obtain ⟨y, hy⟩ : ∃ y : Nat, y = byt s (i - 1) := ⟨_, rfl⟩
      rw [← hx] at hxi hb
      rw [← hy] at hxj hwp
      have hb35 : b = 35 ↔ x = 35 := by
        rw [← hb]
        exact ⟨fun e => by rw [e]; rfl, fun e => UInt8.toNat_inj.1 e⟩
      clear hx hy hb
      by_cases h35 : x = 35
      · cases hw : U.white (y : Int) with
        | true =>
          have hN0 := note_hit hd ⟨hb35.2 h35, hwp.trans hw⟩ H.out
          have HWt := Lib.hid hw
          subst h35
          obtain ⟨s2, hs2⟩ : ∃ s2, s.extract (i + 1) s.size = s2 := ⟨_, rfl⟩
          obtain ⟨B, hB⟩ : ∃ B, s.extract 0 i = B := ⟨_, rfl⟩
          have hd2 : s2.data.toList = s.data.toList.drop (i + 1) := by rw [← hs2, ext_drop]
          have hdB : B.data.toList = s.data.toList.take i := by rw [← hB, ext_mk, List.drop_zero, Nat.sub_zero]
          have HB : Hid (U.tWords B.data.toList = W) := Lib.hid (by rw [hdB, ← HW.out, hN0])
          have HBS : Hid (B.size ≤ 1000000000) := Lib.hid (by rw [Lib.size_eq, hdB, List.length_take, ← Lib.size_eq]; omega)
          have HS2 : Hid (s2.size ≤ 1099511627776) := Lib.hid (by rw [Lib.size_eq, hd2, List.length_drop, ← Lib.size_eq]; omega)
          have hsl1 : ∀ W, (Instr.slice 9 (.string s) (some (.int .i64 ((i : Int) + 1))) none none).run Tryd.prog W = .ok (.string s2) W := fun W => by
            rw [run_slice_string_from_if W 9 s .i64 ((i : Int) + 1) Tryd.underlying9, if_pos (by omega), show ((i : Int) + 1).toNat = i + 1 by omega, hs2]
          have hsl2 : ∀ W, (Instr.slice 9 (.string s) none (some (.int .i64 (i : Int))) none).run Tryd.prog W = .ok (.string B) W := fun W => by
            rw [run_slice_string_to_if W 9 s .i64 (i : Int) Tryd.underlying9, if_pos (by omega), Int.toNat_natCast, hB]
          obtain ⟨hT, hq, hN⟩ := HT.out
          have hN2 : N = 35 :: s.data.toList.drop (i + 1) := by rw [← hN, hN0]
          have HT2 : Hid (U.tCut s2.data.toList = T) := Lib.hid (by rw [hd2, ← hT, hN2]; rfl)
          have hqt : q = true := by rw [← hq, hN2]; rfl
          subst hqt
          clear hT hq hN hN2
          clear hw hN0 hd2 hdB hs2 hB hd hwp hb35 H HS
          go_wp2_with fail
          refine (refWhite_is true _ _ HWt.out).mono ?_
          rintro e w1 ⟨rfl, rfl⟩
          go_wp2_with fail
          go_quiet (first | exact (refCut_is T s2 _ HS2.out HT2.out).mono (by rintro e w' ⟨rfl, rfl⟩; exact ⟨rfl, _, rfl⟩))
          have hbd : Below w.heap.size w (w.drewN nq) := below_dr (Below.refl _ _) _
          go_wp2_with fail
          refine (refWords_is W B _ HBS.out HB.out).mono ?_
          rintro e w2 ⟨v, rfl, ho, hb2⟩
          have hbz := hbd.trans (hb2.mono hbd.size)
          obtain ⟨ao, cap, rfl, k1, m1⟩ := ho.is.slice
          unfold maxLen at m1
          obtain ⟨bb, oo, rfl, hlt, hc⟩ := IsTexts.at ho.is rfl HP.out.1
          have g0 := hc 0 HP.out.1
          rw [Nat.add_zero] at g0
          obtain ⟨L, hL⟩ : ∃ L, L = W.length := ⟨_, rfl⟩
          have e1 : 1 < L → ∃ x, x = W.getD 1 [] ∧ w2.cell? ⟨bb, oo + 1, none⟩ = some (.string ⟨x.toArray⟩) ∧ x.length ≤ 1000000000 ∧ x ≠ [] := fun hl => ⟨_, rfl, hc 1 (by omega), getD_len HP.out.2.2 (by omega), getD_ne HP.out.2.1 (by omega)⟩
          have e2 : 2 < L → ∃ x, x = W.getD 2 [] ∧ w2.cell? ⟨bb, oo + 2, none⟩ = some (.string ⟨x.toArray⟩) ∧ x.length ≤ 1000000000 ∧ x ≠ [] := fun hl => ⟨_, rfl, hc 2 (by omega), getD_len HP.out.2.2 (by omega), getD_ne HP.out.2.1 (by omega)⟩
          have h0 : 0 < L := by rw [hL]; exact HP.out.1
          have hF := HF.out
          have hF2 : U.tForm W = if W.getD 0 [] = [37] then false
              else if W.getD 0 [] = U.yamlL then decide (L = 2) && U.tVer (W.getD 1 [])
              else if W.getD 0 [] = U.tagD then decide (L = 3) && (U.tHan (W.getD 1 []) && U.tPfx (W.getD 2 []))
              else true := by rw [hL]; rfl
          rw [hF2] at hF
          clear hF2
          obtain ⟨A, hA⟩ : ∃ A, A = W.getD 0 [] := ⟨_, rfl⟩
          rw [← hA] at hF g0
          have HJ0 : Hid (A ++ Lib.joinTail [32] (W.drop 1) = D) := Lib.hid (by
            have hw := drop_getD W [] 0 HP.out.1
            rw [List.drop_zero, ← hA] at hw
            rw [← HD.out]
            conv => rhs; rw [hw, Lib.join_cons])
          rw [← hL] at k1 hc ⊢
          have HC := Lib.hid hc
          have HLN := Lib.hid hL
          clear hc hL hA
          by_cases a1 : A = [37]
          · rw [if_pos a1] at hF
            exact absurd hF (by decide)
          rw [if_neg a1] at hF
          have b1 : (A == [37]) = false := by simpa using a1
          by_cases a2 : A = U.yamlL
          · rw [if_pos a2] at hF
            replace a2 : A = [37, 89, 65, 77, 76] := a2
            subst a2
            clear a1 b1
            rw [Bool.and_eq_true, decide_eq_true_eq] at hF
            obtain ⟨hl, hF⟩ := hF
            obtain ⟨x, rfl, g1, x1, x2⟩ := e1 (by omega)
            obtain ⟨X, hX⟩ : ∃ X, W.getD 1 [] = X := ⟨_, rfl⟩
            rw [hX] at hF g1 x1
            have HQ : Hid (U.tVer (⟨X.toArray⟩ : ByteArray).data.toList = true) := Lib.hid (by rw [mk_data, hF])
            subst hl
            clear hF e1 e2 hX x2
            go_wp2_with fail
            refine (refVersion_is _ ⟨X.toArray⟩ _ (by rw [mk_size]; omega) HQ.out).mono ?_
            rintro e w3 ⟨rfl, rfl⟩
            go_wp2
            go_loop [11, 12] (fun vs vi => ∃ (i : Nat) (J : List UInt8), vs = .string ⟨J.toArray⟩ ∧ vi = .int .i64 (i : Int) ∧ 1 ≤ i ∧ i ≤ 2 ∧ Hid (J ++ Lib.joinTail [32] (W.drop i) = D)) (fun _ vi => 2 - (intOf vi).toNat)
            case atStart => exact ⟨1, _, rfl, rfl, Nat.le_refl _, by omega, HJ0.out⟩
            case round =>
              obtain ⟨i, J, rfl, rfl, hi1, hi, H⟩ := hrel
              by_cases hi2 : i < 2
              · have gi := HC.out i hi2
                obtain ⟨x, hx⟩ : ∃ x, x = W.getD i [] := ⟨_, rfl⟩
                have H2 : Hid ((J ++ [32] ++ x) ++ Lib.joinTail [32] (W.drop (i + 1)) = D) := Lib.hid (by
                  have h := H.out
                  rw [drop_getD W [] i (by rw [← HLN.out]; exact hi2), ← hx] at h
                  rw [← h]
                  simp [Lib.joinTail, List.append_assoc])
                rw [← hx] at gi
                have hJl : J.length + 1 + x.length ≤ 100000 := by
                  have h := congrArg List.length H2.out
                  have h2 := HDL.out
                  simp only [List.length_append, List.length_cons, List.length_nil] at h
                  omega
                have hs1 := mk_size J
                have hs2 := mk_size x
                clear hx H
                go_wp2
                go_round
                case rel => exact ⟨i + 1, J ++ [32] ++ x, by rw [ByteArray.mk_append_mk, ByteArray.mk_append_mk], by go_num, by omega, by omega, H2.out⟩
                case measure => simp [intOf]; omega
              · have hJD : Hid (J = D) := Lib.hid (by
                  have h := H.out
                  rw [List.drop_eq_nil_of_le (by rw [← HLN.out]; omega)] at h
                  rw [← h]
                  simp [Lib.joinTail])
                go_wp2
                refine bodyPost_ret (results_tmp4 rfl _ _ _) rfl ?_
                exact ⟨by rw [← hJD.out]; rfl, hbz⟩
          rw [if_neg a2] at hF
          have b2 : (A == [37, 89, 65, 77, 76]) = false := by simpa [U.yamlL] using a2
          by_cases a3 : A = U.tagD
          · rw [if_pos a3] at hF
            replace a3 : A = [37, 84, 65, 71] := a3
            subst a3
            clear a1 a2 b1 b2
            rw [Bool.and_eq_true, Bool.and_eq_true, decide_eq_true_eq] at hF
            obtain ⟨hl, hF1, hF2⟩ := hF
            obtain ⟨x, rfl, g1, x1, x2⟩ := e1 (by omega)
            obtain ⟨y, rfl, g2, y1, y2⟩ := e2 (by omega)
            obtain ⟨X, hX⟩ : ∃ X, W.getD 1 [] = X := ⟨_, rfl⟩
            obtain ⟨Y, hY⟩ : ∃ Y, W.getD 2 [] = Y := ⟨_, rfl⟩
            rw [hX] at hF1 g1 x1
            rw [hY] at hF2 g2 y1 y2
            have HY := Lib.hid y2
            have HH : Hid (U.tHan (⟨X.toArray⟩ : ByteArray).data.toList = true) := Lib.hid (by rw [mk_data, hF1])
            have HQ : Hid (U.tPfx (⟨Y.toArray⟩ : ByteArray).data.toList = true) := Lib.hid (by rw [mk_data, hF2])
            subst hl
            clear e1 e2 hX x2 hY y2 hF1 hF2
            go_wp2_with fail
            refine (refHandled_is _ ⟨X.toArray⟩ _ (by rw [mk_size]; omega) HH.out).mono ?_
            rintro e w3 ⟨rfl, rfl⟩
            go_wp2_with fail
            refine (refUris_is _ ⟨Y.toArray⟩ _ (by rw [mk_size]; omega) (by rw [mk_data]; exact HY.out) HQ.out).mono ?_
            rintro e w3 ⟨rfl, rfl⟩
            go_wp2
            go_loop [11, 12] (fun vs vi => ∃ (i : Nat) (J : List UInt8), vs = .string ⟨J.toArray⟩ ∧ vi = .int .i64 (i : Int) ∧ 1 ≤ i ∧ i ≤ 3 ∧ Hid (J ++ Lib.joinTail [32] (W.drop i) = D)) (fun _ vi => 3 - (intOf vi).toNat)
            case atStart => exact ⟨1, _, rfl, rfl, Nat.le_refl _, by omega, HJ0.out⟩
            case round =>
              obtain ⟨i, J, rfl, rfl, hi1, hi, H⟩ := hrel
              by_cases hi2 : i < 3
              · have gi := HC.out i hi2
                obtain ⟨x, hx⟩ : ∃ x, x = W.getD i [] := ⟨_, rfl⟩
                have H2 : Hid ((J ++ [32] ++ x) ++ Lib.joinTail [32] (W.drop (i + 1)) = D) := Lib.hid (by
                  have h := H.out
                  rw [drop_getD W [] i (by rw [← HLN.out]; exact hi2), ← hx] at h
                  rw [← h]
                  simp [Lib.joinTail, List.append_assoc])
                rw [← hx] at gi
                have hJl : J.length + 1 + x.length ≤ 100000 := by
                  have h := congrArg List.length H2.out
                  have h2 := HDL.out
                  simp only [List.length_append, List.length_cons, List.length_nil] at h
                  omega
                have hs1 := mk_size J
                have hs2 := mk_size x
                clear hx H
                go_wp2
                go_round
                case rel => exact ⟨i + 1, J ++ [32] ++ x, by rw [ByteArray.mk_append_mk, ByteArray.mk_append_mk], by go_num, by omega, by omega, H2.out⟩
                case measure => simp [intOf]; omega
              · have hJD : Hid (J = D) := Lib.hid (by
                  have h := H.out
                  rw [List.drop_eq_nil_of_le (by rw [← HLN.out]; omega)] at h
                  rw [← h]
                  simp [Lib.joinTail])
                go_wp2
                refine bodyPost_ret (results_tmp4 rfl _ _ _) rfl ?_
                exact ⟨by rw [← hJD.out]; rfl, hbz⟩
          have b3 : (A == [37, 84, 65, 71]) = false := by simpa [U.tagD] using a3
          clear hF e1 e2 a1 a2 a3
          go_wp2
          go_loop [11, 12] (fun vs vi => ∃ (i : Nat) (J : List UInt8), vs = .string ⟨J.toArray⟩ ∧ vi = .int .i64 (i : Int) ∧ 1 ≤ i ∧ i ≤ L ∧ Hid (J ++ Lib.joinTail [32] (W.drop i) = D)) (fun _ vi => L - (intOf vi).toNat)
          case atStart => exact ⟨1, _, rfl, rfl, Nat.le_refl _, by omega, HJ0.out⟩
          case round =>
            obtain ⟨i, J, rfl, rfl, hi1, hi, H⟩ := hrel
            by_cases hi2 : i < L
            · have gi := HC.out i hi2
              obtain ⟨x, hx⟩ : ∃ x, x = W.getD i [] := ⟨_, rfl⟩
              have H2 : Hid ((J ++ [32] ++ x) ++ Lib.joinTail [32] (W.drop (i + 1)) = D) := Lib.hid (by
                have h := H.out
                rw [drop_getD W [] i (by rw [← HLN.out]; exact hi2), ← hx] at h
                rw [← h]
                simp [Lib.joinTail, List.append_assoc])
              rw [← hx] at gi
              have hJl : J.length + 1 + x.length ≤ 100000 := by
                have h := congrArg List.length H2.out
                have h2 := HDL.out
                simp only [List.length_append, List.length_cons, List.length_nil] at h
                omega
              have hs1 := mk_size J
              have hs2 := mk_size x
              clear hx H
              go_wp2
              go_round
              case rel => exact ⟨i + 1, J ++ [32] ++ x, by rw [ByteArray.mk_append_mk, ByteArray.mk_append_mk], by go_num, by omega, by omega, H2.out⟩
              case measure => simp [intOf]; omega
            · have hJD : Hid (J = D) := Lib.hid (by
                have h := H.out
                rw [List.drop_eq_nil_of_le (by rw [← HLN.out]; omega)] at h
                rw [← h]
                simp [Lib.joinTail])
              go_wp2
              refine bodyPost_ret (results_tmp4 rfl _ _ _) rfl ?_
              exact ⟨by rw [← hJD.out]; rfl, hbz⟩
        | false =>
          have HN : Hid _ := Lib.hid (note_miss hi1 hd (fun hh => by rw [hwp, hw] at hh; exact absurd hh.2 (by decide)) H.out)
          have HWt := Lib.hid hw
          subst h35
          clear hw hd hwp hb35 H HS
          go_wp2_with fail
          refine (refWhite_is false _ _ HWt.out).mono ?_
          rintro e w1 ⟨rfl, rfl⟩
          go_wp2
          go_round
          case rel => exact ⟨i + 1, rfl, rfl, rfl, by go_num, by omega, by omega, HN.out⟩
          case measure => simp [intOf]; omega
      · have HN : Hid _ := Lib.hid (note_miss hi1 hd (fun hh => h35 (hb35.1 hh.1)) H.out)
        have hxz : ((x : Int) == 35) = false := by simp; omega
        clear hd hwp hb35 H HS h35
        go_wp2
        go_round
        case rel => exact ⟨i + 1, rfl, rfl, rfl, by go_num, by omega, by omega, HN.out⟩
        case measure => simp [intOf]; omega
    · have hN0 := note_end (by rw [← Lib.size_eq]; omega) H.out
      have HB : Hid (U.tWords s.data.toList = W) := Lib.hid (by rw [← HW.out, hN0])
      have HBS : Hid (s.size ≤ 1000000000) := Lib.hid (by omega)
      obtain ⟨hT, hq, hN⟩ := HT.out
      have hN2 : N = [] := by rw [← hN, hN0]
      have hTe : T = [] := by rw [← hT, hN2]; rfl
      have hqt : q = false := by rw [← hq, hN2]; rfl
      subst hqt hTe
      clear hT hq hN hN2
      clear hN0 H HS
      have hbd : Below w.heap.size w w := Below.refl _ _
      go_wp2_with fail
      refine (refWords_is W s _ HBS.out HB.out).mono ?_
      rintro e w2 ⟨v, rfl, ho, hb2⟩
      have hbz := hbd.trans (hb2.mono hbd.size)
      obtain ⟨ao, cap, rfl, k1, m1⟩ := ho.is.slice
      unfold maxLen at m1
      obtain ⟨bb, oo, rfl, hlt, hc⟩ := IsTexts.at ho.is rfl HP.out.1
      have g0 := hc 0 HP.out.1
      rw [Nat.add_zero] at g0
      obtain ⟨L, hL⟩ : ∃ L, L = W.length := ⟨_, rfl⟩
      have e1 : 1 < L → ∃ x, x = W.getD 1 [] ∧ w2.cell? ⟨bb, oo + 1, none⟩ = some (.string ⟨x.toArray⟩) ∧ x.length ≤ 1000000000 ∧ x ≠ [] := fun hl => ⟨_, rfl, hc 1 (by omega), getD_len HP.out.2.2 (by omega), getD_ne HP.out.2.1 (by omega)⟩
      have e2 : 2 < L → ∃ x, x = W.getD 2 [] ∧ w2.cell? ⟨bb, oo + 2, none⟩ = some (.string ⟨x.toArray⟩) ∧ x.length ≤ 1000000000 ∧ x ≠ [] := fun hl => ⟨_, rfl, hc 2 (by omega), getD_len HP.out.2.2 (by omega), getD_ne HP.out.2.1 (by omega)⟩
      have h0 : 0 < L := by rw [hL]; exact HP.out.1
      have hF := HF.out
      have hF2 : U.tForm W = if W.getD 0 [] = [37] then false
          else if W.getD 0 [] = U.yamlL then decide (L = 2) && U.tVer (W.getD 1 [])
          else if W.getD 0 [] = U.tagD then decide (L = 3) && (U.tHan (W.getD 1 []) && U.tPfx (W.getD 2 []))
          else true := by rw [hL]; rfl
      rw [hF2] at hF
      clear hF2
      obtain ⟨A, hA⟩ : ∃ A, A = W.getD 0 [] := ⟨_, rfl⟩
      rw [← hA] at hF g0
      have HJ0 : Hid (A ++ Lib.joinTail [32] (W.drop 1) = D) := Lib.hid (by
        have hw := drop_getD W [] 0 HP.out.1
        rw [List.drop_zero, ← hA] at hw
        rw [← HD.out]
        conv => rhs; rw [hw, Lib.join_cons])
      rw [← hL] at k1 hc ⊢
      have HC := Lib.hid hc
      have HLN := Lib.hid hL
      clear hc hL hA
      by_cases a1 : A = [37]
      · rw [if_pos a1] at hF
        exact absurd hF (by decide)
      rw [if_neg a1] at hF
      have b1 : (A == [37]) = false := by simpa using a1
      by_cases a2 : A = U.yamlL
      · rw [if_pos a2] at hF
        replace a2 : A = [37, 89, 65, 77, 76] := a2
        subst a2
        clear a1 b1
        rw [Bool.and_eq_true, decide_eq_true_eq] at hF
        obtain ⟨hl, hF⟩ := hF
        obtain ⟨x, rfl, g1, x1, x2⟩ := e1 (by omega)
        obtain ⟨X, hX⟩ : ∃ X, W.getD 1 [] = X := ⟨_, rfl⟩
        rw [hX] at hF g1 x1
        have HQ : Hid (U.tVer (⟨X.toArray⟩ : ByteArray).data.toList = true) := Lib.hid (by rw [mk_data, hF])
        subst hl
        clear hF e1 e2 hX x2
        go_wp2_with fail
        refine (refVersion_is _ ⟨X.toArray⟩ _ (by rw [mk_size]; omega) HQ.out).mono ?_
        rintro e w3 ⟨rfl, rfl⟩
        go_wp2
        go_loop [11, 12] (fun vs vi => ∃ (i : Nat) (J : List UInt8), vs = .string ⟨J.toArray⟩ ∧ vi = .int .i64 (i : Int) ∧ 1 ≤ i ∧ i ≤ 2 ∧ Hid (J ++ Lib.joinTail [32] (W.drop i) = D)) (fun _ vi => 2 - (intOf vi).toNat)
        case atStart => exact ⟨1, _, rfl, rfl, Nat.le_refl _, by omega, HJ0.out⟩
        case round =>
          obtain ⟨i, J, rfl, rfl, hi1, hi, H⟩ := hrel
          by_cases hi2 : i < 2
          · have gi := HC.out i hi2
            obtain ⟨x, hx⟩ : ∃ x, x = W.getD i [] := ⟨_, rfl⟩
            have H2 : Hid ((J ++ [32] ++ x) ++ Lib.joinTail [32] (W.drop (i + 1)) = D) := Lib.hid (by
              have h := H.out
              rw [drop_getD W [] i (by rw [← HLN.out]; exact hi2), ← hx] at h
              rw [← h]
              simp [Lib.joinTail, List.append_assoc])
            rw [← hx] at gi
            have hJl : J.length + 1 + x.length ≤ 100000 := by
              have h := congrArg List.length H2.out
              have h2 := HDL.out
              simp only [List.length_append, List.length_cons, List.length_nil] at h
              omega
            have hs1 := mk_size J
            have hs2 := mk_size x
            clear hx H
            go_wp2
            go_round
            case rel => exact ⟨i + 1, J ++ [32] ++ x, by rw [ByteArray.mk_append_mk, ByteArray.mk_append_mk], by go_num, by omega, by omega, H2.out⟩
            case measure => simp [intOf]; omega
          · have hJD : Hid (J = D) := Lib.hid (by
              have h := H.out
              rw [List.drop_eq_nil_of_le (by rw [← HLN.out]; omega)] at h
              rw [← h]
              simp [Lib.joinTail])
            go_wp2
            refine bodyPost_ret (results_tmp4 rfl _ _ _) rfl ?_
            exact ⟨by rw [← hJD.out]; rfl, hbz⟩
      rw [if_neg a2] at hF
      have b2 : (A == [37, 89, 65, 77, 76]) = false := by simpa [U.yamlL] using a2
      by_cases a3 : A = U.tagD
      · rw [if_pos a3] at hF
        replace a3 : A = [37, 84, 65, 71] := a3
        subst a3
        clear a1 a2 b1 b2
        rw [Bool.and_eq_true, Bool.and_eq_true, decide_eq_true_eq] at hF
        obtain ⟨hl, hF1, hF2⟩ := hF
        obtain ⟨x, rfl, g1, x1, x2⟩ := e1 (by omega)
        obtain ⟨y, rfl, g2, y1, y2⟩ := e2 (by omega)
        obtain ⟨X, hX⟩ : ∃ X, W.getD 1 [] = X := ⟨_, rfl⟩
        obtain ⟨Y, hY⟩ : ∃ Y, W.getD 2 [] = Y := ⟨_, rfl⟩
        rw [hX] at hF1 g1 x1
        rw [hY] at hF2 g2 y1 y2
        have HY := Lib.hid y2
        have HH : Hid (U.tHan (⟨X.toArray⟩ : ByteArray).data.toList = true) := Lib.hid (by rw [mk_data, hF1])
        have HQ : Hid (U.tPfx (⟨Y.toArray⟩ : ByteArray).data.toList = true) := Lib.hid (by rw [mk_data, hF2])
        subst hl
        clear e1 e2 hX x2 hY y2 hF1 hF2
        go_wp2_with fail
        refine (refHandled_is _ ⟨X.toArray⟩ _ (by rw [mk_size]; omega) HH.out).mono ?_
        rintro e w3 ⟨rfl, rfl⟩
        go_wp2_with fail
        refine (refUris_is _ ⟨Y.toArray⟩ _ (by rw [mk_size]; omega) (by rw [mk_data]; exact HY.out) HQ.out).mono ?_
        rintro e w3 ⟨rfl, rfl⟩
        go_wp2
        go_loop [11, 12] (fun vs vi => ∃ (i : Nat) (J : List UInt8), vs = .string ⟨J.toArray⟩ ∧ vi = .int .i64 (i : Int) ∧ 1 ≤ i ∧ i ≤ 3 ∧ Hid (J ++ Lib.joinTail [32] (W.drop i) = D)) (fun _ vi => 3 - (intOf vi).toNat)
        case atStart => exact ⟨1, _, rfl, rfl, Nat.le_refl _, by omega, HJ0.out⟩
        case round =>
          obtain ⟨i, J, rfl, rfl, hi1, hi, H⟩ := hrel
          by_cases hi2 : i < 3
          · have gi := HC.out i hi2
            obtain ⟨x, hx⟩ : ∃ x, x = W.getD i [] := ⟨_, rfl⟩
            have H2 : Hid ((J ++ [32] ++ x) ++ Lib.joinTail [32] (W.drop (i + 1)) = D) := Lib.hid (by
              have h := H.out
              rw [drop_getD W [] i (by rw [← HLN.out]; exact hi2), ← hx] at h
              rw [← h]
              simp [Lib.joinTail, List.append_assoc])
            rw [← hx] at gi
            have hJl : J.length + 1 + x.length ≤ 100000 := by
              have h := congrArg List.length H2.out
              have h2 := HDL.out
              simp only [List.length_append, List.length_cons, List.length_nil] at h
              omega
            have hs1 := mk_size J
            have hs2 := mk_size x
            clear hx H
            go_wp2
            go_round
            case rel => exact ⟨i + 1, J ++ [32] ++ x, by rw [ByteArray.mk_append_mk, ByteArray.mk_append_mk], by go_num, by omega, by omega, H2.out⟩
            case measure => simp [intOf]; omega
          · have hJD : Hid (J = D) := Lib.hid (by
              have h := H.out
              rw [List.drop_eq_nil_of_le (by rw [← HLN.out]; omega)] at h
              rw [← h]
              simp [Lib.joinTail])
            go_wp2
            refine bodyPost_ret (results_tmp4 rfl _ _ _) rfl ?_
            exact ⟨by rw [← hJD.out]; rfl, hbz⟩
      have b3 : (A == [37, 84, 65, 71]) = false := by simpa [U.tagD] using a3
      clear hF e1 e2 a1 a2 a3
      go_wp2
      go_loop [11, 12] (fun vs vi => ∃ (i : Nat) (J : List UInt8), vs = .string ⟨J.toArray⟩ ∧ vi = .int .i64 (i : Int) ∧ 1 ≤ i ∧ i ≤ L ∧ Hid (J ++ Lib.joinTail [32] (W.drop i) = D)) (fun _ vi => L - (intOf vi).toNat)
      case atStart => exact ⟨1, _, rfl, rfl, Nat.le_refl _, by omega, HJ0.out⟩
      case round =>
        obtain ⟨i, J, rfl, rfl, hi1, hi, H⟩ := hrel
        by_cases hi2 : i < L
        · have gi := HC.out i hi2
          obtain ⟨x, hx⟩ : ∃ x, x = W.getD i [] := ⟨_, rfl⟩
          have H2 : Hid ((J ++ [32] ++ x) ++ Lib.joinTail [32] (W.drop (i + 1)) = D) := Lib.hid (by
            have h := H.out
            rw [drop_getD W [] i (by rw [← HLN.out]; exact hi2), ← hx] at h
            rw [← h]
            simp [Lib.joinTail, List.append_assoc])
          rw [← hx] at gi
          have hJl : J.length + 1 + x.length ≤ 100000 := by
            have h := congrArg List.length H2.out
            have h2 := HDL.out
            simp only [List.length_append, List.length_cons, List.length_nil] at h
            omega
          have hs1 := mk_size J
          have hs2 := mk_size x
          clear hx H
          go_wp2
          go_round
          case rel => exact ⟨i + 1, J ++ [32] ++ x, by rw [ByteArray.mk_append_mk, ByteArray.mk_append_mk], by go_num, by omega, by omega, H2.out⟩
          case measure => simp [intOf]; omega
        · have hJD : Hid (J = D) := Lib.hid (by
            have h := H.out
            rw [List.drop_eq_nil_of_le (by rw [← HLN.out]; omega)] at h
            rw [← h]
            simp [Lib.joinTail])
          go_wp2
          refine bodyPost_ret (results_tmp4 rfl _ _ _) rfl ?_
          exact ⟨by rw [← hJD.out]; rfl, hbz⟩


set_option maxRecDepth 100000 in
set_option maxHeartbeats 800000 in
theorem refDirective_is (D T : List UInt8) (q : Bool) (c : Int) (s : ByteArray) (w : World) (hs : s.size ≤ 100000) (h : U.tRead s.data.toList = (D, T, q, c)) :
    Calls Tryd.prog 22 #[.string s] w fun e w' => e = retRead D T q c ∧ Below w.heap.size w w' := by
  by_cases h37 : s.data.toList.headD 0 = 37
  · cases hF : U.tForm (U.tWords (U.tNote true s.data.toList).1) with
    | false =>
      rw [tRead_no (by rw [hF]; simp)] at h
      simp only [Prod.mk.injEq] at h
      obtain ⟨rfl, rfl, rfl, rfl⟩ := h
      exact refDirective_no _ _ s w hs h37 rfl rfl hF
    | true =>
      rw [tRead_yes ⟨h37, hF⟩] at h
      simp only [Prod.mk.injEq] at h
      obtain ⟨rfl, rfl, rfl, rfl⟩ := h
      exact refDirective_yes _ _ _ _ _ _ s w hs h37 rfl rfl rfl hF rfl rfl rfl
  · rw [tRead_no (fun hh => h37 hh.1)] at h
    simp only [Prod.mk.injEq] at h
    obtain ⟨rfl, rfl, rfl, rfl⟩ := h
    by_cases h0 : 0 < s.size
    · have hi := run_byt s 0 h0 0 rfl
      obtain ⟨b, hd, hb⟩ := drop_byte s 0 h0
      rw [List.drop_zero] at hd
      have hem : s.toList.isEmpty = false := by rw [Lib.toList_data, hd]; rfl
      obtain ⟨x, hx⟩ : ∃ x : Nat, x = byt s 0 := ⟨_, rfl⟩
      rw [← hx] at hi hb
      have hne : ((x : Int) != 37) = true := by
        have : x ≠ 37 := by
          intro e
          rw [e] at hb
          refine h37 ?_
          rw [hd]
          show b = 37
          exact UInt8.toNat_inj.1 hb
        simp
        omega
      clear hd hb hx h37
      go_enter Tryd.func22, Tryd.ntmps22
      go_wp2
      refine bodyPost_ret (results_tmp4 rfl _ _ _) rfl ?_
      exact ⟨rfl, Below.refl _ _⟩
    · have hem : s.toList.isEmpty = true := by
        rw [Lib.toList_data, List.isEmpty_iff]
        exact List.eq_nil_of_length_eq_zero (by rw [← Lib.size_eq]; omega)
      clear h37
      go_enter Tryd.func22, Tryd.ntmps22
      go_wp2
      refine bodyPost_ret (results_tmp4 rfl _ _ _) rfl ?_
      exact ⟨rfl, Below.refl _ _⟩

end Go.Proofs.YtckdhidcbkbeoaaDoor
