/- The statement FoldWords on package fold: the walk: for every input the law returns true. Conditions: none beside those that each theorem writes out. -/
import Derived.Test.YtcpnonlcchkgeaaFoldLaws2
namespace Go.Proofs.Ytcpnonlcchkgeaa
open Go.RowKit

set_option maxRecDepth 100000 in
set_option maxHeartbeats 2000000 in
/-- Behind the rows: what is asked of them. -/
theorem FoldWords_walk (v1 v2 : Value) (ws gs : List Int) (w : World) (h1 : IsInts .i64 w.heap.size w v1 ws) (h2 : IsInts .i64 w.heap.size w v2 gs) :
    Calls Try.prog 4 #[v1, v2] w fun e w' => e = .returned (.bool true) ∧ Below w.heap.size w w' := by
  obtain ⟨ao1, cap1, rfl, c1, d1⟩ := h1.slice
  obtain ⟨ao2, cap2, rfl, c2, d2⟩ := h2.slice
  unfold maxLen at d1 d2
  obtain ⟨L, hL⟩ : ∃ L, L = ws.length := ⟨_, rfl⟩
  obtain ⟨M, hM⟩ : ∃ M, M = gs.length := ⟨_, rfl⟩
  rw [← hL] at h1 c1 ⊢
  rw [← hM] at h2 c2 ⊢
  have HL := Lib.hid hL
  have HM := Lib.hid hM
  clear hL hM
  by_cases hl : L < 1 ∨ 10 < L
  · rcases hl with hl | hl
    · obtain rfl : L = 0 := by omega
      go_enter Try.func4, Try.ntmps4
      go_wp2_with (go_at_call 8; refine (awake6_any _).mono ?_; rintro e w1 ⟨rfl, b1⟩)
      go_ret
      exact ⟨rfl, b1⟩
    · go_enter Try.func4, Try.ntmps4
      go_wp2_with (go_at_call 8; refine (awake6_any _).mono ?_; rintro e w1 ⟨rfl, b1⟩)
      go_ret
      exact ⟨rfl, b1⟩
  · have hl1 : 1 ≤ L := by omega
    have hl2 : L ≤ 10 := by omega
    clear hl
    go_enter Try.func4, Try.ntmps4
    go_wp2
    go_loopw [5, 6, 7] (fun vr vs vi wr => ∃ (k : Nat) (xs : List (List UInt8)) (T : List UInt8), vi = .int .i64 (k : Int) ∧ vs = .string ⟨T.toArray⟩ ∧ k < L ∧ OutT w.heap.size wr vr xs ∧ xs.length ≤ 4 * k ∧ T.length ≤ 7 * k ∧ U.tot xs ≤ 8 * k ∧ Below w.heap.size w wr ∧ Hid (Worded xs T)) (fun _ _ vi _ => L - (intOf vi).toNat)
    case atStart => exact ⟨0, [], [], rfl, rfl, by omega, OutT.nil _ _, Nat.le_refl _, Nat.le_refl _, Nat.le_refl _, Below.refl _ _, Worded.nil⟩
    case round =>
      obtain ⟨k, xs, T, rfl, rfl, hk, ho, hxl, hTl, htot, hb, H⟩ := hrel
      obtain ⟨b1, o1, rfl, hlt1, hc1⟩ := IsInts.at h1 HL.out.symm (by omega)
      have g1 := hc1 k hk
      rw [← hb.cell (p := ⟨b1, o1 + k, none⟩) hlt1] at g1
      obtain ⟨x, hx⟩ : ∃ x, x = ws.getD k 0 := ⟨_, rfl⟩
      rw [← hx] at g1
      obtain ⟨W, hW⟩ : ∃ W, W = word x := ⟨_, rfl⟩
      have hWm : W ∈ wordL := by rw [hW]; exact word_mem x
      obtain ⟨hW0, hWw, _, hWl⟩ := word_row W hWm
      have HW := Lib.hid hW.symm
      have hlast := H.out.last hW0 hWw
      have HS := fun n => H.out.step hW0 hWw n
      have HW0 := Lib.hid hW0
      have HWw := Lib.hid hWw
      clear hc1 hx hW hWm hW0 hWw H
      go_wp2_with fail
      refine (WordOf_is W _ _ HW.out).mono ?_
      rintro e w3 ⟨rfl, b3⟩
      have ho3 := ho.below b3
      replace b3 := tb2 hb b3
      clear ho hb g1
      by_cases hkl : k + 1 = L
      · have HL1 := Lib.hid hlast.1
        have HL2 := Lib.hid hlast.2
        have hsT := size_mk (T ++ W)
        clear hlast HS
        have hk1 : (k : Int) = (L : Int) - 1 := by omega
        go_wp2_with (at_builtin; refine appendOne w3 W rfl _ _ rfl w.heap.size w _ _ rfl rfl ho3 b3 (by omega) (Nat.le_refl _) ?_; intro v4 w4 o4 b4)
        have htt : U.tot (xs ++ [W]) ≤ 1000000 := by rw [U.tot_append]; simp [U.tot]; omega
        have hwant : ((⟨T.toArray⟩ : ByteArray) ++ ⟨W.toArray⟩) = ⟨(T ++ W).toArray⟩ := ByteArray.mk_append_mk _ _
        rw [hwant]
        refine (foldFlow_is (T ++ W) _ _ w4 o4.is htt HL1.out).mono ?_
        rintro e w5 ⟨rfl, b5⟩
        have o5 := o4.below b5
        replace b5 := tb2 b4 b5
        clear o4 b4 hwant
        go_wp2_with fail
        refine (foldBlockQ_is true (T ++ W) _ _ w5 o5.is htt HL2.out).mono ?_
        rintro e w6 ⟨rfl, b6⟩
        replace b6 := tb2 b5 b6
        go_wp2_with fail
        refine (awake6_any w6).mono ?_
        rintro e w7 ⟨rfl, b7⟩
        go_wp2
        go_ret
        exact ⟨rfl, tb2 b6 b7⟩
      · have hk1 : ¬ (k : Int) = (L : Int) - 1 := by omega
        have HS := Lib.hid HS
        have hsW := size_mk W
        clear hlast
        by_cases hkM : k < M
        · obtain ⟨b2, o2, rfl, hlt2, hc2⟩ := IsInts.at h2 HM.out.symm (by omega)
          have g2 := hc2 k hkM
          have G2 : ∀ wx, Below w.heap.size w wx → wx.cell? ⟨b2, o2 + k, none⟩ = some (.int .i64 (gs.getD k 0)) := fun wx hx => by rw [hx.cell (p := ⟨b2, o2 + k, none⟩) hlt2]; exact g2
          obtain ⟨y, hy⟩ : ∃ y, y = gs.getD k 0 := ⟨_, rfl⟩
          rw [← hy] at G2
          have hyr := lowZ_range y 4 (by omega)
          obtain ⟨n, hn⟩ : ∃ n : Nat, lowZ y 4 = (n : Int) := ⟨(lowZ y 4).toNat, by omega⟩
          rw [hn] at hyr
          have hn4 : n < 4 := by omega
          have CL := fun wx => Low_is (n : Int) y 4 wx (by omega) (by omega) hn
          clear hc2 hy g2 hn hyr
          go_wp2_with (at_builtin; refine appendOne w3 W rfl _ _ rfl w.heap.size w _ _ rfl rfl ho3 b3 (by omega) (Nat.le_refl _) ?_; intro v4 w4 o4 b4; have g3 := G2 _ b4)
          refine (CL _).mono ?_
          rintro e w5 ⟨rfl, rfl⟩
          go_wp2
          go_loopw [5, 10] (fun vr vj wr => ∃ j : Nat, vj = .int .i64 (j : Int) ∧ j ≤ n ∧ OutT w.heap.size wr vr (xs ++ [W] ++ U.blanksL j) ∧ Below w.heap.size w wr) (fun _ vj _ => n - (intOf vj).toNat)
          case atStart => exact ⟨0, rfl, Nat.zero_le _, by show OutT _ _ _ (xs ++ [W] ++ []); rw [List.append_nil]; exact o4, b4⟩
          case round =>
            obtain ⟨j, rfl, hj, ho5, hb5⟩ := hrel
            have hjl : (xs ++ [W] ++ U.blanksL j).length = xs.length + 1 + j := by rw [List.length_append, List.length_append, blanks_length]; rfl
            by_cases hj2 : j < n
            · go_wp2_with (at_builtin; refine appendOne _ [] rfl _ _ rfl w.heap.size w _ _ rfl rfl ho5 hb5 (by omega) (Nat.le_refl _) ?_; intro v6 w6 o6 b6)
              go_roundw
              case rel => exact ⟨j + 1, by go_num, by omega, by rw [blanks_succ, ← List.append_assoc]; exact o6, b6⟩
              case measure => simp [intOf]; omega
            · obtain rfl : j = n := by omega
              have hst := HS.out j
              have hfl := U.feeds_length j
              have htt : U.tot (xs ++ [W] ++ U.blanksL j) ≤ 8 * (k + 1) := by rw [U.tot_append, U.tot_append, tot_blanks]; simp [U.tot]; omega
              have CF := fun wx => lawFeeds_is j (j : Int) wx (by omega) (by omega)
              have hsT := size_mk (T ++ W)
              rw [List.length_append] at hsT
              by_cases hj0 : j = 0
              · rw [hj0, U.sep_zero] at hst
                subst hj0
                have HST := Lib.hid hst
                clear hst
                go_wp2_with fail
                refine (CF _).mono ?_
                rintro e w7 ⟨rfl, rfl⟩
                go_wp2
                go_roundw
                case rel => exact ⟨k + 1, xs ++ [W] ++ U.blanksL 0, T ++ W ++ [32], by go_num, by simp [ByteArray.mk_append_mk, U.feeds], by omega, ho5, by omega, by simp; omega, htt, hb5, HST.out⟩
                case measure => simp [intOf]; omega
              · rw [U.sep_pos hj0] at hst
                obtain ⟨fd, hfd⟩ : ∃ fd, fd = U.feeds j := ⟨_, rfl⟩
                rw [← hfd] at hst hfl CF
                have HST := Lib.hid hst
                clear hst hfd
                go_wp2_with fail
                refine (CF _).mono ?_
                rintro e w7 ⟨rfl, rfl⟩
                go_wp2
                go_roundw
                case rel => exact ⟨k + 1, xs ++ [W] ++ U.blanksL j, T ++ W ++ fd, by go_num, by simp [ByteArray.mk_append_mk], by omega, ho5, by omega, by simp; omega, htt, hb5, HST.out⟩
                case measure => simp [intOf]; omega
        · have hkM2 : (M : Int) ≤ k := by omega
          have hst := HS.out 0
          rw [U.sep_zero] at hst
          have HST := Lib.hid hst
          have CF := fun wx => lawFeeds_is 0 0 wx (by omega) (by omega)
          have hsT := size_mk (T ++ W)
          rw [List.length_append] at hsT
          have htt : U.tot (xs ++ [W] ++ U.blanksL 0) ≤ 8 * (k + 1) := by rw [U.tot_append, U.tot_append, tot_blanks]; simp [U.tot]; omega
          have hjl : (xs ++ [W] ++ U.blanksL 0).length = xs.length + 1 := by rw [List.length_append, List.length_append, blanks_length]; rfl
          have hfl := U.feeds_length 0
          obtain ⟨fd, hfd⟩ : ∃ fd, fd = U.feeds 0 := ⟨_, rfl⟩
          rw [← hfd] at hfl CF
          have HFD := Lib.hid hfd
          clear hst HS hfd
          go_wp2_with (at_builtin; refine appendOne w3 W rfl _ _ rfl w.heap.size w _ _ rfl rfl ho3 b3 (by omega) (Nat.le_refl _) ?_; intro v4 w4 o4 b4)
          refine wp_loop_rounds 1 ?_
          rw [rounds_succ]
          go_wp2_with fail
          refine (CF _).mono ?_
          rintro e w7 ⟨rfl, rfl⟩
          go_wp2
          go_roundw
          case rel => exact ⟨k + 1, xs ++ [W] ++ U.blanksL 0, T ++ W ++ [32], by go_num, by rw [HFD.out]; simp [ByteArray.mk_append_mk, U.feeds], by omega, by show OutT _ _ _ (xs ++ [W] ++ []); rw [List.append_nil]; exact o4, by omega, by simp; omega, htt, b4, HST.out⟩
          case measure => simp [intOf]; omega

end Go.Proofs.Ytcpnonlcchkgeaa
