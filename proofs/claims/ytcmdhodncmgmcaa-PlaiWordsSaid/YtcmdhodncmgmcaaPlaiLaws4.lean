/- The statement PlaiWords on package plai: the walk, over what plai's three functions return (PlaiC): for every input the law returns true. Conditions: those that each theorem writes out. -/
import Derived.Test.YtcmdhodncmgmcaaPlaiX
import Derived.Test.YtcmdhodncmgmcaaBlanks
import Derived.Deep.RegionLaw
import Derived.BigQuiet
namespace Go.Proofs.Ytcmdhodncmgmcaa
open Go.RowKit

theorem row_app (S : ByteArray) (g i : Nat) (m : List UInt8) : S ++ ⟨#[10]⟩ ++ mkB (U.feeds g) ++ mkB (blanksB i) ++ mkB m = S ++ rowF g i m := by
  unfold rowF
  rw [ByteArray.append_assoc, ByteArray.append_assoc, ByteArray.append_assoc]
theorem last_app (S : ByteArray) (g : Nat) (m : List UInt8) : S ++ rowF g 0 m ++ ⟨#[10, 32, 32, 32, 122]⟩ = S ++ lastF g m := by
  unfold lastF
  rw [ByteArray.append_assoc]
set_option maxRecDepth 100000 in
set_option maxHeartbeats 12800000 in
theorem PlaiWords_walk (K : PlaiC) (v1 v2 v3 : Value) (ws is gs : List Int) (fl : Bool) (w : World) (h1 : IsInts .i64 w.heap.size w v1 ws) (h2 : IsInts .i64 w.heap.size w v2 is) (h3 : IsInts .i64 w.heap.size w v3 gs) :
    Calls Try.prog 4 #[v1, v2, v3, .bool fl] w fun e w' => e = .returned (.bool true) ∧ Below w.heap.size w w' := by
  obtain ⟨ao1, cap1, rfl, c1, d1⟩ := h1.slice
  obtain ⟨ao2, cap2, rfl, c2, d2⟩ := h2.slice
  obtain ⟨ao3, cap3, rfl, c3, d3⟩ := h3.slice
  unfold maxLen at d1 d2 d3
  obtain ⟨L, hL⟩ : ∃ L, L = ws.length := ⟨_, rfl⟩
  obtain ⟨M, hM⟩ : ∃ M, M = is.length := ⟨_, rfl⟩
  obtain ⟨N, hN⟩ : ∃ N, N = gs.length := ⟨_, rfl⟩
  rw [← hL] at h1 c1 ⊢
  rw [← hM] at h2 c2 ⊢
  rw [← hN] at h3 c3 ⊢
  have HL := Lib.hid hL
  have HM := Lib.hid hM
  have HN := Lib.hid hN
  clear hL hM hN
  by_cases hl : L < 1 ∨ 8 < L
  · rcases hl with hl | hl
    · obtain rfl : L = 0 := by omega
      go_enter Try.func4, Try.ntmps4
      go_wp2_with (go_at_call 7; refine (awake11_true K _).mono ?_; rintro e w1 ⟨rfl, b1⟩)
      go_ret
      exact ⟨rfl, b1⟩
    · go_enter Try.func4, Try.ntmps4
      go_wp2_with (go_at_call 7; refine (awake11_true K _).mono ?_; rintro e w1 ⟨rfl, b1⟩)
      go_ret
      exact ⟨rfl, b1⟩
  have hl1 : 1 ≤ L := by omega
  have hl2 : L ≤ 8 := by omega
  have hl0 : 0 < L := by omega
  clear hl
  obtain ⟨b1, o1, rfl, hlt1, hc1⟩ := IsInts.at h1 HL.out.symm (by omega)
  have G0 : ∀ W, Below w.heap.size w W → W.cell? ⟨b1, o1, none⟩ = some (.int .i64 (ws.getD 0 0)) := fun W hW => by
    have := hc1 0 (by omega)
    rw [Nat.add_zero] at this
    rw [hW.cell (p := ⟨b1, o1, none⟩) hlt1]
    exact this
  obtain ⟨x0, hx0⟩ : ∃ x, ws.getD 0 0 = x := ⟨_, rfl⟩
  rw [hx0] at G0
  obtain ⟨m0, hm0⟩ : ∃ m, word x0 = m := ⟨_, rfl⟩
  have hmem : m0 ∈ wordL := by rw [← hm0]; exact word_mem x0
  obtain ⟨A, hA⟩ : ∃ A : ByteArray, (⟨m0.toArray⟩ : ByteArray) = A := ⟨_, rfl⟩
  have CW0 : ∀ W : World, Calls Try.prog 10 #[.int .i64 x0] W fun e w' => e = .returned (.string A) ∧ Below W.heap.size W w' := fun W => by rw [← hA]; exact WordOf_is m0 x0 W hm0
  have g0 := G0 w (Below.refl _ _)
  have hK0 : Kont A m0 fl true := by rw [← hA]; exact Kont.first m0 fl hmem
  have hKH := Lib.hid hK0
  have HA := Lib.hid hA
  have HMEM := Lib.hid hmem
  clear hx0 hm0 hmem hK0 hA
  have hAs : A.size ≤ 3 ∧ 0 < A.size ∧ m0.length = A.size := by
    have e : A.size = m0.length := by rw [← HA.out, size_mk]
    have := word_fact m0 HMEM.out
    omega
  go_enter Try.func4, Try.ntmps4
  go_wp2_with fail
  go_region_law (first
    | (go_simp; go_at_call 10; refine (CW0 _).mono ?_; rintro e v3 ⟨rfl, c3⟩; have hb9 : Below w.heap.size w v3 := (by first | exact hb9.trans (c3.mono hb9.size) | exact (below_drewN (Below.refl w.heap.size w) 1).trans c3); have gg := G0 v3 hb9))
  all_goals
    go_wp2
    go_loopw [9, 10, 11, 12] (fun v9 v10 v11 v12 wr => ∃ (S : ByteArray) (V : List UInt8) (one : Bool) (k : Nat), v9 = .string S ∧ v10 = .string ⟨V.toArray⟩ ∧ v11 = .int .i64 (S.size : Int) ∧ v12 = .int .i64 (k : Int) ∧ 1 ≤ k ∧ k ≤ L ∧ S.size ≤ 9 * k ∧ V.length ≤ 9 * k ∧ (one = ((S.size : Int) == (A.size : Int))) ∧ A.size ≤ S.size ∧ Below w.heap.size w wr ∧ Hid (Kont S V fl one)) (fun _ _ _ v12 _ => L - (intOf v12).toNat)
    case atStart => exact ⟨A, m0, true, 1, rfl, by rw [HA.out], rfl, rfl, Nat.le_refl _, hl1, by omega, by omega, by simp, Nat.le_refl _, hb9, hKH⟩
    case round =>
      obtain ⟨S, V, one, k, rfl, rfl, rfl, rfl, hk1, hk2, hSs, hVs, hone, hAS, hb, H⟩ := hrel
      obtain ⟨VB, hVB⟩ : ∃ VB : ByteArray, (⟨V.toArray⟩ : ByteArray) = VB := ⟨_, rfl⟩
      have hVBs : VB.size = V.length := by rw [← hVB, size_mk]
      have HVB := Lib.hid hVB
      have HONE := Lib.hid hone
      rw [hVB]
      clear hVB hone
      have gA := G0 wr hb
      by_cases hkL : k < L
      · have hw0 := hc1 k hkL
        rw [← hb.cell (p := ⟨b1, o1 + k, none⟩) hlt1] at hw0
        obtain ⟨x, hx⟩ : ∃ x, ws.getD k 0 = x := ⟨_, rfl⟩
        rw [hx] at hw0
        obtain ⟨m, hm⟩ : ∃ m, word x = m := ⟨_, rfl⟩
        have hmem : m ∈ wordL := by rw [← hm]; exact word_mem x
        obtain ⟨mp, ml, _, _⟩ := word_fact m hmem
        obtain ⟨Bw, hBw⟩ : ∃ Bw : ByteArray, mkB m = Bw := ⟨_, rfl⟩
        have hBs : Bw.size = m.length := by rw [← hBw]; exact size_mk m
        have CWk : ∀ W : World, Calls Try.prog 10 #[.int .i64 x] W fun e w' => e = .returned (.string Bw) ∧ Below W.heap.size W w' := fun W => by rw [← hBw]; exact WordOf_is m x W hm
        have HMM := Lib.hid hmem
        have HBW := Lib.hid hBw
        clear hx hm hmem hBw
        by_cases hkM : k < M
        · obtain ⟨b2, o2, rfl, hlt2, hc2⟩ := IsInts.at h2 HM.out.symm (by omega)
          have hw2 := hc2 k hkM
          rw [← hb.cell (p := ⟨b2, o2 + k, none⟩) hlt2] at hw2
          obtain ⟨y2, hy2⟩ : ∃ y, is.getD k 0 = y := ⟨_, rfl⟩
          rw [hy2] at hw2
          have hr2 := lowZ_range y2 4 (by omega)
          obtain ⟨i, hi⟩ : ∃ i : Nat, lowZ y2 4 = (i : Int) := ⟨(lowZ y2 4).toNat, by omega⟩
          rw [hi] at hr2
          have hi4 : i < 4 := by omega
          have CL2 := fun W => Low_is (i : Int) y2 4 W (by omega) (by omega) hi
          clear hc2 hy2 hi hr2
          by_cases hi0 : i = 0
          · subst hi0
            by_cases hkN : k < N
            · obtain ⟨b3, o3, rfl, hlt3, hc3⟩ := IsInts.at h3 HN.out.symm (by omega)
              have hw3 := hc3 k hkN
              rw [← hb.cell (p := ⟨b3, o3 + k, none⟩) hlt3] at hw3
              obtain ⟨y3, hy3⟩ : ∃ y, gs.getD k 0 = y := ⟨_, rfl⟩
              rw [hy3] at hw3
              have hr3 := lowZ_range y3 3 (by omega)
              obtain ⟨g, hg⟩ : ∃ g : Nat, lowZ y3 3 = (g : Int) := ⟨(lowZ y3 3).toNat, by omega⟩
              rw [hg] at hr3
              have hg3 : g < 3 := by omega
              have CL3 := fun W => Low_is (g : Int) y3 3 W (by omega) (by omega) hg
              clear hc3 hy3 hg hr3
              obtain ⟨FD, hFD⟩ : ∃ FD : ByteArray, mkB (U.feeds g) = FD := ⟨_, rfl⟩
              obtain ⟨BL, hBL⟩ : ∃ BL : ByteArray, mkB (blanksB 0) = BL := ⟨_, rfl⟩
              have hFDs : FD.size = g := by rw [← hFD]; exact (size_mk _).trans (U.feeds_length _)
              have hBLs : BL.size = 0 := by rw [← hBL]; exact (size_mk _).trans List.length_replicate
              have CF : ∀ W : World, Calls Try.prog 11 #[.int .i64 (g : Int)] W fun e w' => e = .returned (.string FD) ∧ W = w' := fun W => by rw [← hFD]; exact lawFeeds_is g _ W (by omega) (by omega)
              have CB : ∀ W : World, Calls Try.prog 12 #[.int .i64 0] W fun e w' => e = .returned (.string BL) ∧ W = w' := fun W => by rw [← hBL]; exact lawBlanks_is 0 _ W (by omega) (by omega)
              obtain ⟨S1, hS1⟩ : ∃ S1 : ByteArray, S ++ ⟨#[10]⟩ ++ FD ++ BL ++ Bw = S1 := ⟨_, rfl⟩
              have hrow : S1 = S ++ rowF g 0 m := by rw [← hS1, ← hFD, ← hBL, ← HBW.out]; exact row_app S g 0 m
              have hS1s : S1.size = S.size + 1 + FD.size + BL.size + Bw.size := by rw [← hS1, ByteArray.size_append, ByteArray.size_append, ByteArray.size_append, ByteArray.size_append]; rfl
              obtain ⟨S2, hS2⟩ : ∃ S2 : ByteArray, S1 ++ ⟨#[10, 32, 32, 32, 122]⟩ = S2 := ⟨_, rfl⟩
              have hS2s : S2.size = S1.size + 5 := by rw [← hS2, ByteArray.size_append]; rfl
              have HZ : Hid (PlaiZ S2 0 0 fl V (S.size : Int) one 0) := by show PlaiZ _ _ _ _ _ _ _ _; rw [← hS2, hrow, last_app]; exact H.out.less m g HMM.out (by omega)
              clear hrow hFD hBL H
              go_wp2_with fail
              refine (CL2 _).mono ?_
              rintro e w9 ⟨rfl, rfl⟩
              go_wp2_with fail
              refine (CL3 _).mono ?_
              rintro e w9 ⟨rfl, rfl⟩
              go_wp2_with fail
              refine (CWk _).mono ?_
              rintro e w2 ⟨rfl, c4⟩
              have b4 := hb.trans (c4.mono hb.size)
              go_wp2_with fail
              refine (CF _).mono ?_
              rintro e w9 ⟨rfl, rfl⟩
              go_wp2_with fail
              refine (CB _).mono ?_
              rintro e w9 ⟨rfl, rfl⟩
              have gB := G0 w2 b4
              go_wp2_with fail
              refine (K.read V (S.size : Int) one 0 S2 0 0 fl _ (by omega) (by have := HZ.out; exact this)).mono ?_
              rintro e w5 ⟨rfl, c5⟩
              rw [HVB.out]
              have b5 := b4.trans (c5.mono b4.size)
              have gC := G0 w5 b5
              have hon := HONE.out
              cases one with
              | true =>
                have hsz : ((S.size : Int) == (A.size : Int)) = true := hon.symm
                have hszb : S.size = A.size := by have e := hsz; rw [beq_iff_eq] at e; omega
                have HSZ := Lib.hid hszb
                clear hon hszb
                go_wp2_with fail
                refine (CW0 _).mono ?_
                rintro e w6 ⟨rfl, c6⟩
                have b6 := b5.trans (c6.mono b5.size)
                go_wp2_with fail
                refine (awake11_true K _).mono ?_
                rintro e w7 ⟨rfl, c7⟩
                go_wp2
                go_ret
                exact ⟨rfl, b6.trans (c7.mono b6.size)⟩
              | false =>
                have hsz : ((S.size : Int) == (A.size : Int)) = false := hon.symm
                clear hon
                go_wp2_with fail
                refine (CW0 _).mono ?_
                rintro e w6 ⟨rfl, c6⟩
                have b6 := b5.trans (c6.mono b5.size)
                go_wp2_with fail
                refine (awake11_true K _).mono ?_
                rintro e w7 ⟨rfl, c7⟩
                go_wp2
                go_ret
                exact ⟨rfl, b6.trans (c7.mono b6.size)⟩
            · skip
              obtain ⟨FD, hFD⟩ : ∃ FD : ByteArray, mkB (U.feeds 0) = FD := ⟨_, rfl⟩
              obtain ⟨BL, hBL⟩ : ∃ BL : ByteArray, mkB (blanksB 0) = BL := ⟨_, rfl⟩
              have hFDs : FD.size = 0 := by rw [← hFD]; exact (size_mk _).trans (U.feeds_length _)
              have hBLs : BL.size = 0 := by rw [← hBL]; exact (size_mk _).trans List.length_replicate
              have CF : ∀ W : World, Calls Try.prog 11 #[.int .i64 0] W fun e w' => e = .returned (.string FD) ∧ W = w' := fun W => by rw [← hFD]; exact lawFeeds_is 0 _ W (by omega) (by omega)
              have CB : ∀ W : World, Calls Try.prog 12 #[.int .i64 0] W fun e w' => e = .returned (.string BL) ∧ W = w' := fun W => by rw [← hBL]; exact lawBlanks_is 0 _ W (by omega) (by omega)
              obtain ⟨S1, hS1⟩ : ∃ S1 : ByteArray, S ++ ⟨#[10]⟩ ++ FD ++ BL ++ Bw = S1 := ⟨_, rfl⟩
              have hrow : S1 = S ++ rowF 0 0 m := by rw [← hS1, ← hFD, ← hBL, ← HBW.out]; exact row_app S 0 0 m
              have hS1s : S1.size = S.size + 1 + FD.size + BL.size + Bw.size := by rw [← hS1, ByteArray.size_append, ByteArray.size_append, ByteArray.size_append, ByteArray.size_append]; rfl
              obtain ⟨S2, hS2⟩ : ∃ S2 : ByteArray, S1 ++ ⟨#[10, 32, 32, 32, 122]⟩ = S2 := ⟨_, rfl⟩
              have hS2s : S2.size = S1.size + 5 := by rw [← hS2, ByteArray.size_append]; rfl
              have HZ : Hid (PlaiZ S2 0 0 fl V (S.size : Int) one 0) := by show PlaiZ _ _ _ _ _ _ _ _; rw [← hS2, hrow, last_app]; exact H.out.less m 0 HMM.out (by omega)
              clear hrow hFD hBL H
              go_wp2_with fail
              refine (CL2 _).mono ?_
              rintro e w9 ⟨rfl, rfl⟩
              go_wp2_with fail
              refine (CWk _).mono ?_
              rintro e w2 ⟨rfl, c4⟩
              have b4 := hb.trans (c4.mono hb.size)
              go_wp2_with fail
              refine (CF _).mono ?_
              rintro e w9 ⟨rfl, rfl⟩
              go_wp2_with fail
              refine (CB _).mono ?_
              rintro e w9 ⟨rfl, rfl⟩
              have gB := G0 w2 b4
              go_wp2_with fail
              refine (K.read V (S.size : Int) one 0 S2 0 0 fl _ (by omega) (by have := HZ.out; exact this)).mono ?_
              rintro e w5 ⟨rfl, c5⟩
              rw [HVB.out]
              have b5 := b4.trans (c5.mono b4.size)
              have gC := G0 w5 b5
              have hon := HONE.out
              cases one with
              | true =>
                have hsz : ((S.size : Int) == (A.size : Int)) = true := hon.symm
                have hszb : S.size = A.size := by have e := hsz; rw [beq_iff_eq] at e; omega
                have HSZ := Lib.hid hszb
                clear hon hszb
                go_wp2_with fail
                refine (CW0 _).mono ?_
                rintro e w6 ⟨rfl, c6⟩
                have b6 := b5.trans (c6.mono b5.size)
                go_wp2_with fail
                refine (awake11_true K _).mono ?_
                rintro e w7 ⟨rfl, c7⟩
                go_wp2
                go_ret
                exact ⟨rfl, b6.trans (c7.mono b6.size)⟩
              | false =>
                have hsz : ((S.size : Int) == (A.size : Int)) = false := hon.symm
                clear hon
                go_wp2_with fail
                refine (CW0 _).mono ?_
                rintro e w6 ⟨rfl, c6⟩
                have b6 := b5.trans (c6.mono b5.size)
                go_wp2_with fail
                refine (awake11_true K _).mono ?_
                rintro e w7 ⟨rfl, c7⟩
                go_wp2
                go_ret
                exact ⟨rfl, b6.trans (c7.mono b6.size)⟩
          have hi0i : ((i : Int) == 0) = false := by simp; omega
          by_cases hkN : k < N
          · obtain ⟨b3, o3, rfl, hlt3, hc3⟩ := IsInts.at h3 HN.out.symm (by omega)
            have hw3 := hc3 k hkN
            rw [← hb.cell (p := ⟨b3, o3 + k, none⟩) hlt3] at hw3
            obtain ⟨y3, hy3⟩ : ∃ y, gs.getD k 0 = y := ⟨_, rfl⟩
            rw [hy3] at hw3
            have hr3 := lowZ_range y3 3 (by omega)
            obtain ⟨g, hg⟩ : ∃ g : Nat, lowZ y3 3 = (g : Int) := ⟨(lowZ y3 3).toNat, by omega⟩
            rw [hg] at hr3
            have hg3 : g < 3 := by omega
            have CL3 := fun W => Low_is (g : Int) y3 3 W (by omega) (by omega) hg
            clear hc3 hy3 hg hr3
            by_cases hg0 : g = 0
            · subst hg0
              obtain ⟨FD, hFD⟩ : ∃ FD : ByteArray, mkB (U.feeds 0) = FD := ⟨_, rfl⟩
              obtain ⟨BL, hBL⟩ : ∃ BL : ByteArray, mkB (blanksB i) = BL := ⟨_, rfl⟩
              have hFDs : FD.size = 0 := by rw [← hFD]; exact (size_mk _).trans (U.feeds_length _)
              have hBLs : BL.size = i := by rw [← hBL]; exact (size_mk _).trans List.length_replicate
              have CF : ∀ W : World, Calls Try.prog 11 #[.int .i64 0] W fun e w' => e = .returned (.string FD) ∧ W = w' := fun W => by rw [← hFD]; exact lawFeeds_is 0 _ W (by omega) (by omega)
              have CB : ∀ W : World, Calls Try.prog 12 #[.int .i64 (i : Int)] W fun e w' => e = .returned (.string BL) ∧ W = w' := fun W => by rw [← hBL]; exact lawBlanks_is i _ W (by omega) (by omega)
              obtain ⟨S1, hS1⟩ : ∃ S1 : ByteArray, S ++ ⟨#[10]⟩ ++ FD ++ BL ++ Bw = S1 := ⟨_, rfl⟩
              have hrow : S1 = S ++ rowF 0 i m := by rw [← hS1, ← hFD, ← hBL, ← HBW.out]; exact row_app S 0 i m
              have hS1s : S1.size = S.size + 1 + FD.size + BL.size + Bw.size := by rw [← hS1, ByteArray.size_append, ByteArray.size_append, ByteArray.size_append, ByteArray.size_append]; rfl
              obtain ⟨V1, hV1⟩ : ∃ V1 : ByteArray, VB ++ (⟨#[32]⟩ : ByteArray) ++ Bw = V1 := ⟨_, rfl⟩
              have hV1l : V1 = ⟨(V ++ U.sep 0 ++ m).toArray⟩ := by
                rw [← hV1, ← HVB.out, ← HBW.out, show U.sep 0 = [32] from U.sep_zero]
                unfold mkB
                rw [ByteArray.mk_append_mk, ByteArray.mk_append_mk]
              have hV1s : (V ++ U.sep 0 ++ m).length ≤ 9 * (k + 1) := by
                rw [List.length_append, List.length_append]
                have := U.sep_length (0)
                omega
              have HV1 := Lib.hid hV1l
              have HV1S := Lib.hid hV1s
              have HK1 : Hid (Kont S1 (V ++ U.sep 0 ++ m) fl false) := by show Kont _ _ _ _; rw [hrow]; exact H.out.next m 0 i HMM.out (by omega) (by omega) (by omega)
              have hne1 : ((S1.size : Int) == (A.size : Int)) = false := by simp; omega
              clear hrow hV1l hV1s hFD hBL H
              go_wp2_with fail
              refine (CL2 _).mono ?_
              rintro e w9 ⟨rfl, rfl⟩
              go_wp2_with fail
              refine (CL3 _).mono ?_
              rintro e w9 ⟨rfl, rfl⟩
              go_wp2_with fail
              refine (CWk _).mono ?_
              rintro e w2 ⟨rfl, c4⟩
              have b4 := hb.trans (c4.mono hb.size)
              go_wp2_with fail
              refine (CF _).mono ?_
              rintro e w9 ⟨rfl, rfl⟩
              go_wp2_with fail
              refine (CB _).mono ?_
              rintro e w9 ⟨rfl, rfl⟩
              go_wp2
              go_roundw
              case rel => exact ⟨S1, V ++ U.sep 0 ++ m, false, k + 1, rfl, by rw [HV1.out], congrArg (Value.int IntKind.i64) (by omega), by go_num, by omega, by omega, by omega, HV1S.out, hne1.symm, by omega, b4, HK1⟩
              case measure => simp [intOf]; omega
            · have hgp : decide ((0 : Int) < (g : Int)) = true := decide_eq_true (by omega)
              obtain ⟨FD, hFD⟩ : ∃ FD : ByteArray, mkB (U.feeds g) = FD := ⟨_, rfl⟩
              obtain ⟨BL, hBL⟩ : ∃ BL : ByteArray, mkB (blanksB i) = BL := ⟨_, rfl⟩
              have hFDs : FD.size = g := by rw [← hFD]; exact (size_mk _).trans (U.feeds_length _)
              have hBLs : BL.size = i := by rw [← hBL]; exact (size_mk _).trans List.length_replicate
              have CF : ∀ W : World, Calls Try.prog 11 #[.int .i64 (g : Int)] W fun e w' => e = .returned (.string FD) ∧ W = w' := fun W => by rw [← hFD]; exact lawFeeds_is g _ W (by omega) (by omega)
              have CB : ∀ W : World, Calls Try.prog 12 #[.int .i64 (i : Int)] W fun e w' => e = .returned (.string BL) ∧ W = w' := fun W => by rw [← hBL]; exact lawBlanks_is i _ W (by omega) (by omega)
              obtain ⟨S1, hS1⟩ : ∃ S1 : ByteArray, S ++ ⟨#[10]⟩ ++ FD ++ BL ++ Bw = S1 := ⟨_, rfl⟩
              have hrow : S1 = S ++ rowF g i m := by rw [← hS1, ← hFD, ← hBL, ← HBW.out]; exact row_app S g i m
              have hS1s : S1.size = S.size + 1 + FD.size + BL.size + Bw.size := by rw [← hS1, ByteArray.size_append, ByteArray.size_append, ByteArray.size_append, ByteArray.size_append]; rfl
              obtain ⟨V1, hV1⟩ : ∃ V1 : ByteArray, VB ++ FD ++ Bw = V1 := ⟨_, rfl⟩
              have hV1l : V1 = ⟨(V ++ U.sep g ++ m).toArray⟩ := by
                rw [← hV1, ← HVB.out, ← HBW.out, ← hFD, show U.sep g = U.feeds g from U.sep_pos hg0]
                unfold mkB
                rw [ByteArray.mk_append_mk, ByteArray.mk_append_mk]
              have hV1s : (V ++ U.sep g ++ m).length ≤ 9 * (k + 1) := by
                rw [List.length_append, List.length_append]
                have := U.sep_length (g)
                omega
              have HV1 := Lib.hid hV1l
              have HV1S := Lib.hid hV1s
              have HK1 : Hid (Kont S1 (V ++ U.sep g ++ m) fl false) := by show Kont _ _ _ _; rw [hrow]; exact H.out.next m g i HMM.out (by omega) (by omega) (by omega)
              have hne1 : ((S1.size : Int) == (A.size : Int)) = false := by simp; omega
              clear hrow hV1l hV1s hFD hBL H
              go_wp2_with fail
              refine (CL2 _).mono ?_
              rintro e w9 ⟨rfl, rfl⟩
              go_wp2_with fail
              refine (CL3 _).mono ?_
              rintro e w9 ⟨rfl, rfl⟩
              go_wp2_with fail
              refine (CWk _).mono ?_
              rintro e w2 ⟨rfl, c4⟩
              have b4 := hb.trans (c4.mono hb.size)
              go_wp2_with fail
              refine (CF _).mono ?_
              rintro e w9 ⟨rfl, rfl⟩
              go_wp2_with fail
              refine (CB _).mono ?_
              rintro e w9 ⟨rfl, rfl⟩
              go_wp2_with fail
              refine (CF _).mono ?_
              rintro e w9 ⟨rfl, rfl⟩
              go_wp2
              go_roundw
              case rel => exact ⟨S1, V ++ U.sep g ++ m, false, k + 1, rfl, by rw [HV1.out], congrArg (Value.int IntKind.i64) (by omega), by go_num, by omega, by omega, by omega, HV1S.out, hne1.symm, by omega, b4, HK1⟩
              case measure => simp [intOf]; omega
          · skip
            obtain ⟨FD, hFD⟩ : ∃ FD : ByteArray, mkB (U.feeds 0) = FD := ⟨_, rfl⟩
            obtain ⟨BL, hBL⟩ : ∃ BL : ByteArray, mkB (blanksB i) = BL := ⟨_, rfl⟩
            have hFDs : FD.size = 0 := by rw [← hFD]; exact (size_mk _).trans (U.feeds_length _)
            have hBLs : BL.size = i := by rw [← hBL]; exact (size_mk _).trans List.length_replicate
            have CF : ∀ W : World, Calls Try.prog 11 #[.int .i64 0] W fun e w' => e = .returned (.string FD) ∧ W = w' := fun W => by rw [← hFD]; exact lawFeeds_is 0 _ W (by omega) (by omega)
            have CB : ∀ W : World, Calls Try.prog 12 #[.int .i64 (i : Int)] W fun e w' => e = .returned (.string BL) ∧ W = w' := fun W => by rw [← hBL]; exact lawBlanks_is i _ W (by omega) (by omega)
            obtain ⟨S1, hS1⟩ : ∃ S1 : ByteArray, S ++ ⟨#[10]⟩ ++ FD ++ BL ++ Bw = S1 := ⟨_, rfl⟩
            have hrow : S1 = S ++ rowF 0 i m := by rw [← hS1, ← hFD, ← hBL, ← HBW.out]; exact row_app S 0 i m
            have hS1s : S1.size = S.size + 1 + FD.size + BL.size + Bw.size := by rw [← hS1, ByteArray.size_append, ByteArray.size_append, ByteArray.size_append, ByteArray.size_append]; rfl
            obtain ⟨V1, hV1⟩ : ∃ V1 : ByteArray, VB ++ (⟨#[32]⟩ : ByteArray) ++ Bw = V1 := ⟨_, rfl⟩
            have hV1l : V1 = ⟨(V ++ U.sep 0 ++ m).toArray⟩ := by
              rw [← hV1, ← HVB.out, ← HBW.out, show U.sep 0 = [32] from U.sep_zero]
              unfold mkB
              rw [ByteArray.mk_append_mk, ByteArray.mk_append_mk]
            have hV1s : (V ++ U.sep 0 ++ m).length ≤ 9 * (k + 1) := by
              rw [List.length_append, List.length_append]
              have := U.sep_length (0)
              omega
            have HV1 := Lib.hid hV1l
            have HV1S := Lib.hid hV1s
            have HK1 : Hid (Kont S1 (V ++ U.sep 0 ++ m) fl false) := by show Kont _ _ _ _; rw [hrow]; exact H.out.next m 0 i HMM.out (by omega) (by omega) (by omega)
            have hne1 : ((S1.size : Int) == (A.size : Int)) = false := by simp; omega
            clear hrow hV1l hV1s hFD hBL H
            go_wp2_with fail
            refine (CL2 _).mono ?_
            rintro e w9 ⟨rfl, rfl⟩
            go_wp2_with fail
            refine (CWk _).mono ?_
            rintro e w2 ⟨rfl, c4⟩
            have b4 := hb.trans (c4.mono hb.size)
            go_wp2_with fail
            refine (CF _).mono ?_
            rintro e w9 ⟨rfl, rfl⟩
            go_wp2_with fail
            refine (CB _).mono ?_
            rintro e w9 ⟨rfl, rfl⟩
            go_wp2
            go_roundw
            case rel => exact ⟨S1, V ++ U.sep 0 ++ m, false, k + 1, rfl, by rw [HV1.out], congrArg (Value.int IntKind.i64) (by omega), by go_num, by omega, by omega, by omega, HV1S.out, hne1.symm, by omega, b4, HK1⟩
            case measure => simp [intOf]; omega
        · skip
          by_cases hkN : k < N
          · obtain ⟨b3, o3, rfl, hlt3, hc3⟩ := IsInts.at h3 HN.out.symm (by omega)
            have hw3 := hc3 k hkN
            rw [← hb.cell (p := ⟨b3, o3 + k, none⟩) hlt3] at hw3
            obtain ⟨y3, hy3⟩ : ∃ y, gs.getD k 0 = y := ⟨_, rfl⟩
            rw [hy3] at hw3
            have hr3 := lowZ_range y3 3 (by omega)
            obtain ⟨g, hg⟩ : ∃ g : Nat, lowZ y3 3 = (g : Int) := ⟨(lowZ y3 3).toNat, by omega⟩
            rw [hg] at hr3
            have hg3 : g < 3 := by omega
            have CL3 := fun W => Low_is (g : Int) y3 3 W (by omega) (by omega) hg
            clear hc3 hy3 hg hr3
            by_cases hg0 : g = 0
            · subst hg0
              obtain ⟨FD, hFD⟩ : ∃ FD : ByteArray, mkB (U.feeds 0) = FD := ⟨_, rfl⟩
              obtain ⟨BL, hBL⟩ : ∃ BL : ByteArray, mkB (blanksB 1) = BL := ⟨_, rfl⟩
              have hFDs : FD.size = 0 := by rw [← hFD]; exact (size_mk _).trans (U.feeds_length _)
              have hBLs : BL.size = 1 := by rw [← hBL]; exact (size_mk _).trans List.length_replicate
              have CF : ∀ W : World, Calls Try.prog 11 #[.int .i64 0] W fun e w' => e = .returned (.string FD) ∧ W = w' := fun W => by rw [← hFD]; exact lawFeeds_is 0 _ W (by omega) (by omega)
              have CB : ∀ W : World, Calls Try.prog 12 #[.int .i64 1] W fun e w' => e = .returned (.string BL) ∧ W = w' := fun W => by rw [← hBL]; exact lawBlanks_is 1 _ W (by omega) (by omega)
              obtain ⟨S1, hS1⟩ : ∃ S1 : ByteArray, S ++ ⟨#[10]⟩ ++ FD ++ BL ++ Bw = S1 := ⟨_, rfl⟩
              have hrow : S1 = S ++ rowF 0 1 m := by rw [← hS1, ← hFD, ← hBL, ← HBW.out]; exact row_app S 0 1 m
              have hS1s : S1.size = S.size + 1 + FD.size + BL.size + Bw.size := by rw [← hS1, ByteArray.size_append, ByteArray.size_append, ByteArray.size_append, ByteArray.size_append]; rfl
              obtain ⟨V1, hV1⟩ : ∃ V1 : ByteArray, VB ++ (⟨#[32]⟩ : ByteArray) ++ Bw = V1 := ⟨_, rfl⟩
              have hV1l : V1 = ⟨(V ++ U.sep 0 ++ m).toArray⟩ := by
                rw [← hV1, ← HVB.out, ← HBW.out, show U.sep 0 = [32] from U.sep_zero]
                unfold mkB
                rw [ByteArray.mk_append_mk, ByteArray.mk_append_mk]
              have hV1s : (V ++ U.sep 0 ++ m).length ≤ 9 * (k + 1) := by
                rw [List.length_append, List.length_append]
                have := U.sep_length (0)
                omega
              have HV1 := Lib.hid hV1l
              have HV1S := Lib.hid hV1s
              have HK1 : Hid (Kont S1 (V ++ U.sep 0 ++ m) fl false) := by show Kont _ _ _ _; rw [hrow]; exact H.out.next m 0 1 HMM.out (by omega) (by omega) (by omega)
              have hne1 : ((S1.size : Int) == (A.size : Int)) = false := by simp; omega
              clear hrow hV1l hV1s hFD hBL H
              go_wp2_with fail
              refine (CL3 _).mono ?_
              rintro e w9 ⟨rfl, rfl⟩
              go_wp2_with fail
              refine (CWk _).mono ?_
              rintro e w2 ⟨rfl, c4⟩
              have b4 := hb.trans (c4.mono hb.size)
              go_wp2_with fail
              refine (CF _).mono ?_
              rintro e w9 ⟨rfl, rfl⟩
              go_wp2_with fail
              refine (CB _).mono ?_
              rintro e w9 ⟨rfl, rfl⟩
              go_wp2
              go_roundw
              case rel => exact ⟨S1, V ++ U.sep 0 ++ m, false, k + 1, rfl, by rw [HV1.out], congrArg (Value.int IntKind.i64) (by omega), by go_num, by omega, by omega, by omega, HV1S.out, hne1.symm, by omega, b4, HK1⟩
              case measure => simp [intOf]; omega
            · have hgp : decide ((0 : Int) < (g : Int)) = true := decide_eq_true (by omega)
              obtain ⟨FD, hFD⟩ : ∃ FD : ByteArray, mkB (U.feeds g) = FD := ⟨_, rfl⟩
              obtain ⟨BL, hBL⟩ : ∃ BL : ByteArray, mkB (blanksB 1) = BL := ⟨_, rfl⟩
              have hFDs : FD.size = g := by rw [← hFD]; exact (size_mk _).trans (U.feeds_length _)
              have hBLs : BL.size = 1 := by rw [← hBL]; exact (size_mk _).trans List.length_replicate
              have CF : ∀ W : World, Calls Try.prog 11 #[.int .i64 (g : Int)] W fun e w' => e = .returned (.string FD) ∧ W = w' := fun W => by rw [← hFD]; exact lawFeeds_is g _ W (by omega) (by omega)
              have CB : ∀ W : World, Calls Try.prog 12 #[.int .i64 1] W fun e w' => e = .returned (.string BL) ∧ W = w' := fun W => by rw [← hBL]; exact lawBlanks_is 1 _ W (by omega) (by omega)
              obtain ⟨S1, hS1⟩ : ∃ S1 : ByteArray, S ++ ⟨#[10]⟩ ++ FD ++ BL ++ Bw = S1 := ⟨_, rfl⟩
              have hrow : S1 = S ++ rowF g 1 m := by rw [← hS1, ← hFD, ← hBL, ← HBW.out]; exact row_app S g 1 m
              have hS1s : S1.size = S.size + 1 + FD.size + BL.size + Bw.size := by rw [← hS1, ByteArray.size_append, ByteArray.size_append, ByteArray.size_append, ByteArray.size_append]; rfl
              obtain ⟨V1, hV1⟩ : ∃ V1 : ByteArray, VB ++ FD ++ Bw = V1 := ⟨_, rfl⟩
              have hV1l : V1 = ⟨(V ++ U.sep g ++ m).toArray⟩ := by
                rw [← hV1, ← HVB.out, ← HBW.out, ← hFD, show U.sep g = U.feeds g from U.sep_pos hg0]
                unfold mkB
                rw [ByteArray.mk_append_mk, ByteArray.mk_append_mk]
              have hV1s : (V ++ U.sep g ++ m).length ≤ 9 * (k + 1) := by
                rw [List.length_append, List.length_append]
                have := U.sep_length (g)
                omega
              have HV1 := Lib.hid hV1l
              have HV1S := Lib.hid hV1s
              have HK1 : Hid (Kont S1 (V ++ U.sep g ++ m) fl false) := by show Kont _ _ _ _; rw [hrow]; exact H.out.next m g 1 HMM.out (by omega) (by omega) (by omega)
              have hne1 : ((S1.size : Int) == (A.size : Int)) = false := by simp; omega
              clear hrow hV1l hV1s hFD hBL H
              go_wp2_with fail
              refine (CL3 _).mono ?_
              rintro e w9 ⟨rfl, rfl⟩
              go_wp2_with fail
              refine (CWk _).mono ?_
              rintro e w2 ⟨rfl, c4⟩
              have b4 := hb.trans (c4.mono hb.size)
              go_wp2_with fail
              refine (CF _).mono ?_
              rintro e w9 ⟨rfl, rfl⟩
              go_wp2_with fail
              refine (CB _).mono ?_
              rintro e w9 ⟨rfl, rfl⟩
              go_wp2_with fail
              refine (CF _).mono ?_
              rintro e w9 ⟨rfl, rfl⟩
              go_wp2
              go_roundw
              case rel => exact ⟨S1, V ++ U.sep g ++ m, false, k + 1, rfl, by rw [HV1.out], congrArg (Value.int IntKind.i64) (by omega), by go_num, by omega, by omega, by omega, HV1S.out, hne1.symm, by omega, b4, HK1⟩
              case measure => simp [intOf]; omega
          · skip
            obtain ⟨FD, hFD⟩ : ∃ FD : ByteArray, mkB (U.feeds 0) = FD := ⟨_, rfl⟩
            obtain ⟨BL, hBL⟩ : ∃ BL : ByteArray, mkB (blanksB 1) = BL := ⟨_, rfl⟩
            have hFDs : FD.size = 0 := by rw [← hFD]; exact (size_mk _).trans (U.feeds_length _)
            have hBLs : BL.size = 1 := by rw [← hBL]; exact (size_mk _).trans List.length_replicate
            have CF : ∀ W : World, Calls Try.prog 11 #[.int .i64 0] W fun e w' => e = .returned (.string FD) ∧ W = w' := fun W => by rw [← hFD]; exact lawFeeds_is 0 _ W (by omega) (by omega)
            have CB : ∀ W : World, Calls Try.prog 12 #[.int .i64 1] W fun e w' => e = .returned (.string BL) ∧ W = w' := fun W => by rw [← hBL]; exact lawBlanks_is 1 _ W (by omega) (by omega)
            obtain ⟨S1, hS1⟩ : ∃ S1 : ByteArray, S ++ ⟨#[10]⟩ ++ FD ++ BL ++ Bw = S1 := ⟨_, rfl⟩
            have hrow : S1 = S ++ rowF 0 1 m := by rw [← hS1, ← hFD, ← hBL, ← HBW.out]; exact row_app S 0 1 m
            have hS1s : S1.size = S.size + 1 + FD.size + BL.size + Bw.size := by rw [← hS1, ByteArray.size_append, ByteArray.size_append, ByteArray.size_append, ByteArray.size_append]; rfl
            obtain ⟨V1, hV1⟩ : ∃ V1 : ByteArray, VB ++ (⟨#[32]⟩ : ByteArray) ++ Bw = V1 := ⟨_, rfl⟩
            have hV1l : V1 = ⟨(V ++ U.sep 0 ++ m).toArray⟩ := by
              rw [← hV1, ← HVB.out, ← HBW.out, show U.sep 0 = [32] from U.sep_zero]
              unfold mkB
              rw [ByteArray.mk_append_mk, ByteArray.mk_append_mk]
            have hV1s : (V ++ U.sep 0 ++ m).length ≤ 9 * (k + 1) := by
              rw [List.length_append, List.length_append]
              have := U.sep_length (0)
              omega
            have HV1 := Lib.hid hV1l
            have HV1S := Lib.hid hV1s
            have HK1 : Hid (Kont S1 (V ++ U.sep 0 ++ m) fl false) := by show Kont _ _ _ _; rw [hrow]; exact H.out.next m 0 1 HMM.out (by omega) (by omega) (by omega)
            have hne1 : ((S1.size : Int) == (A.size : Int)) = false := by simp; omega
            clear hrow hV1l hV1s hFD hBL H
            go_wp2_with fail
            refine (CWk _).mono ?_
            rintro e w2 ⟨rfl, c4⟩
            have b4 := hb.trans (c4.mono hb.size)
            go_wp2_with fail
            refine (CF _).mono ?_
            rintro e w9 ⟨rfl, rfl⟩
            go_wp2_with fail
            refine (CB _).mono ?_
            rintro e w9 ⟨rfl, rfl⟩
            go_wp2
            go_roundw
            case rel => exact ⟨S1, V ++ U.sep 0 ++ m, false, k + 1, rfl, by rw [HV1.out], congrArg (Value.int IntKind.i64) (by omega), by go_num, by omega, by omega, by omega, HV1S.out, hne1.symm, by omega, b4, HK1⟩
            case measure => simp [intOf]; omega
      · obtain rfl : k = L := by omega
        have HZ : Hid (PlaiZ S 0 0 fl V (S.size : Int) one 0) := H.out.stop
        clear H
        have gB := G0 wr hb
        go_wp2_with fail
        refine (K.read V (S.size : Int) one 0 S 0 0 fl _ (by omega) (by have := HZ.out; exact this)).mono ?_
        rintro e w5 ⟨rfl, c5⟩
        rw [HVB.out]
        have b5 := hb.trans (c5.mono hb.size)
        have gC := G0 w5 b5
        have hon := HONE.out
        cases one with
        | true =>
          have hsz : ((S.size : Int) == (A.size : Int)) = true := hon.symm
          have hszb : S.size = A.size := by have e := hsz; rw [beq_iff_eq] at e; omega
          have HSZ := Lib.hid hszb
          clear hon hszb
          go_wp2_with fail
          refine (CW0 _).mono ?_
          rintro e w6 ⟨rfl, c6⟩
          have b6 := b5.trans (c6.mono b5.size)
          go_wp2_with fail
          refine (awake11_true K _).mono ?_
          rintro e w7 ⟨rfl, c7⟩
          go_wp2
          go_ret
          exact ⟨rfl, b6.trans (c7.mono b6.size)⟩
        | false =>
          have hsz : ((S.size : Int) == (A.size : Int)) = false := hon.symm
          clear hon
          go_wp2_with fail
          refine (CW0 _).mono ?_
          rintro e w6 ⟨rfl, c6⟩
          have b6 := b5.trans (c6.mono b5.size)
          go_wp2_with fail
          refine (awake11_true K _).mono ?_
          rintro e w7 ⟨rfl, c7⟩
          go_wp2
          go_ret
          exact ⟨rfl, b6.trans (c7.mono b6.size)⟩

end Go.Proofs.Ytcmdhodncmgmcaa
