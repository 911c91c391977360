/- The statements on package bloc: the walk of BlocBack, over what bloc.Read returns (BlocC). Conditions: those that each theorem writes out. -/
import Derived.Test.YtkpccoijegklbaaDoorBlocLaws
import Derived.Test.YtkpccoijegklbaaDoorBlocBk
import Derived.Test.YtkpccoijegklbaaDoorBlanks
import Derived.Test.YtkpccoijegklbaaDoorFoldRef
import Derived.Deep.DrawnRows
import Derived.Deep.RegionHeld3
import Derived.Deep.LoopGhost
import Derived.Deep.DeepCutAuto
namespace Go.Proofs.YtkpccoijegklbaaDoor
open Go.RowKit
attribute [local go_sem ↓] Go.wp_at_zero Go.wp_at_succ

theorem bk_text (S BX WJ FG : ByteArray) (x j q : Nat) (wd : List UInt8) (h1 : mkB (blanksB x) = BX) (h2 : WJ = mkB (blanksB j ++ wd)) (h3 : mkB (U.feeds q) = FG) : S ++ BX ++ WJ ++ (⟨#[10]⟩ : ByteArray) ++ FG = S ++ mkB (blanksB (x + j) ++ wd ++ [10]) ++ mkB (U.feeds q) := by
  subst h1 h2 h3
  have e : blanksB (x + j) = blanksB x ++ blanksB j := by unfold blanksB; rw [List.replicate_append_replicate]
  have e2 : (⟨#[10]⟩ : ByteArray) = mkB [10] := rfl
  rw [e, e2]
  simp only [← mkB_append, ByteArray.append_assoc]
theorem bk_want (V WJ FG : ByteArray) (T0 : List UInt8) (m j q : Nat) (wd : List UInt8) (h1 : V = mkB (T0 ++ U.feeds m)) (h2 : WJ = mkB (blanksB j ++ wd)) (h3 : mkB (U.feeds q) = FG) : V ++ WJ ++ (⟨#[10]⟩ : ByteArray) ++ FG = mkB (T0 ++ U.feeds m ++ (blanksB j ++ wd)) ++ mkB (U.feeds (1 + q)) := by
  subst h1 h2 h3
  have e : U.feeds (1 + q) = [10] ++ U.feeds q := feeds_add 1 q
  have e2 : (⟨#[10]⟩ : ByteArray) = mkB [10] := rfl
  rw [e, e2]
  simp only [← mkB_append, ByteArray.append_assoc]
theorem bk_extract (a b : ByteArray) (n : Nat) (h : a.size = n) : (a ++ b).extract 0 n = a := by
  subst h
  rw [ByteArray.extract_append]
  simp
set_option maxRecDepth 100000 in
set_option maxHeartbeats 12800000 in
theorem BlocBack_walk (K : BlocC) (v1 v2 v3 : Value) (ws ins gs : List Int) (far which : Int) (w : World) (h1 : IsInts .i64 w.heap.size w v1 ws) (h2 : IsInts .i64 w.heap.size w v2 ins) (h3 : IsInts .i64 w.heap.size w v3 gs) :
    Calls Tryd.prog 5 #[v1, v2, v3, .int .i64 far, .int .i64 which] w fun e w' => e = .returned (.bool true) ∧ Below w.heap.size w w' := by
  obtain ⟨ao1, cap1, rfl, c1, d1⟩ := h1.slice
  obtain ⟨ao2, cap2, rfl, c2, d2⟩ := h2.slice
  obtain ⟨ao3, cap3, rfl, c3, d3⟩ := h3.slice
  unfold maxLen at d1 d2 d3
  obtain ⟨L, hL⟩ : ∃ L, L = ws.length := ⟨_, rfl⟩
  obtain ⟨M, hM⟩ : ∃ M, M = ins.length := ⟨_, rfl⟩
  obtain ⟨N, hN⟩ : ∃ N, N = gs.length := ⟨_, rfl⟩
  have HL := Lib.hid hL
  have HM := Lib.hid hM
  have HN := Lib.hid hN
  rw [← hL] at h1 c1 ⊢
  rw [← hM] at h2 c2 ⊢
  rw [← hN] at h3 c3 ⊢
  clear hL hM hN
  by_cases hlo : L < 1
  · clear h1 h2 h3
    go_enter Tryd.func5, Tryd.ntmps5
    go_wp2_with fail
    refine (awake13_true K _).mono ?_
    rintro e w1 ⟨rfl, b1⟩
    go_wp2
    go_ret
    exact ⟨rfl, b1⟩
  by_cases hhi : 8 < L
  · clear h1 h2 h3
    go_enter Tryd.func5, Tryd.ntmps5
    go_wp2_with fail
    refine (awake13_true K _).mono ?_
    rintro e w1 ⟨rfl, b1⟩
    go_wp2
    go_ret
    exact ⟨rfl, b1⟩
  have HH : Hid (IsInts .i64 w.heap.size w (.slice ao2 M cap2) ins ∧ IsInts .i64 w.heap.size w (.slice ao3 N cap3) gs) := ⟨h2, h3⟩
  clear h2 h3
  obtain ⟨b1, o1, rfl, hlt1, hc1⟩ := IsInts.at h1 HL.out.symm (by omega)
  have HC1 := Lib.hid hc1
  clear h1 hc1
  have hr1 := lowZ_range far 4 (by omega)
  obtain ⟨z1, hz1⟩ : ∃ z : Nat, lowZ far 4 = (z : Int) := ⟨(lowZ far 4).toNat, by omega⟩
  rw [hz1] at hr1
  have hr2 := lowZ_range which 3 (by omega)
  obtain ⟨kk, hz2⟩ : ∃ z : Nat, lowZ which 3 = (z : Int) := ⟨(lowZ which 3).toNat, by omega⟩
  rw [hz2] at hr2
  have C1 := fun W => Low_is (z1 : Int) far 4 W (by omega) (by omega) hz1
  have C2 := fun W => Low_is (kk : Int) which 3 W (by omega) (by omega) hz2
  clear hz1 hz2
  obtain ⟨x, hx⟩ : ∃ x : Nat, x = 1 + z1 := ⟨_, rfl⟩
  have ex : (1 : Int) + (z1 : Int) = (x : Int) := by omega
  have hx0 : 0 < x := by omega
  have hx4 : x ≤ 4 := by omega
  have hk3 : kk < 3 := by omega
  obtain ⟨H, hH, hHh, hHs⟩ := bk_tab kk hk3
  obtain ⟨S0, hS0⟩ : ∃ S0 : ByteArray, H ++ (⟨#[10]⟩ : ByteArray) = S0 := ⟨_, rfl⟩
  have hS0s : S0.size ≤ 3 := by rw [← hS0, ByteArray.size_append]; show _ + 1 ≤ _; omega
  have K0 : Hid (KBk kk x 0 S0 [] 0) := .inl ⟨rfl, hS0.symm.trans hHh, rfl, rfl⟩
  obtain ⟨BX, hBX⟩ : ∃ B, mkB (blanksB x) = B := ⟨_, rfl⟩
  have hBXs : BX.size = x := by rw [← hBX, mkB_size, blanks_len]
  have CBX := fun W => lawBlanks_is x (x : Int) W rfl (by omega)
  have eBX : (⟨(List.replicate x (32 : UInt8)).toArray⟩ : ByteArray) = BX := hBX
  rw [eBX] at CBX
  have HBX := Lib.hid hBX
  have hcell : (w.alloc (.cells bkT 9)).cell? ⟨w.heap.size, kk, none⟩ = some (.string H) := by rw [World.cell?_alloc_mark]; exact hH
  have hbA : Below w.heap.size w (w.alloc (.cells bkT 9)) := (Below.refl _ _).alloc (Nat.le_refl _) _
  unfold bkT at hcell hbA
  clear hH hHh hr1 hr2 hx eBX hBX
  go_enter Tryd.func5, Tryd.ntmps5
  go_wp2_with fail
  refine (C1 _).mono ?_
  rintro e w9 ⟨rfl, rfl⟩
  go_wp2_with fail
  refine (C2 _).mono ?_
  rintro e w9 ⟨rfl, rfl⟩
  go_wp2
  clear C1 C2 ex hcell
  go_loopg [13, 14, 15] L (fun g v13 v14 v15 wr => ∃ (S V : ByteArray) (T0 : List UInt8) (m k : Nat), v15 = .int .i64 (k : Int) ∧ v13 = .string S ∧ v14 = .string V ∧ k + g = L ∧ S.size ≤ 3 + 12 * k ∧ V.size ≤ 8 * k ∧ m ≤ 3 ∧ Below w.heap.size w wr ∧ Hid (V = mkB (T0 ++ U.feeds (if k = L then bkM kk m else m))) ∧ Hid (KBk kk x k S T0 m))
  case atStart => exact ⟨S0, ⟨#[]⟩, [], 0, 0, rfl, rfl, rfl, by omega, by omega, by decide, by decide, hbA, by show _ = _; rw [if_neg (by omega)]; rfl, K0⟩
  case round =>
    obtain ⟨S, V, T0, m, k, rfl, rfl, rfl, hkg, hSs, hVs, hm3, hb, HV, HK⟩ := hrel
    clear hbA K0 hS0 hS0s hHs
    by_cases hkL : k < L
    · have hw0 := HC1.out k hkL
      obtain ⟨xw, hxw⟩ : ∃ x, ws.getD k 0 = x := ⟨_, rfl⟩
      rw [hxw] at hw0
      obtain ⟨wd, hwd⟩ : ∃ wd, word xw = wd := ⟨_, rfl⟩
      have hmw : wd ∈ wordL := by rw [← hwd]; exact word_mem xw
      have hwl := (fol_word wd hmw).2.2.2
      obtain ⟨WB, hWB⟩ : ∃ WB : ByteArray, (⟨wd.toArray⟩ : ByteArray) = WB := ⟨_, rfl⟩
      have hWBs : WB.size = wd.length := by rw [← hWB]; exact size_mk wd
      have CW : ∀ W : World, Calls Tryd.prog 13 #[.int .i64 xw] W fun e w' => e = .returned (.string WB) ∧ Below W.heap.size W w' := fun W => by rw [← hWB]; exact WordOf_is wd xw W hwd
      have HWB := Lib.hid hWB
      have HMW := Lib.hid hmw
      have HW0 := Lib.hid hw0
      clear hxw hwd hmw hWB hw0
      go_upto_region 10 with fail
      go_cut [57] (fun v57 wx => ∃ c : Bool, v57 = .bool c ∧ (c = true → 0 < k ∧ k < M) ∧ wx = wr)
      case first =>
        by_cases hkM : k < M
        · by_cases hk0 : 0 < k
          · go_wp2
            go_meet
            case rel => exact ⟨true, rfl, fun _ => ⟨hk0, hkM⟩, rfl⟩
          · go_wp2
            go_meet
            case rel => exact ⟨false, rfl, (by intro h; cases h), rfl⟩
        · go_wp2
          go_meet
          case rel => exact ⟨false, rfl, (by intro h; cases h), rfl⟩
      case rest =>
        obtain ⟨c, rfl, hc, rfl⟩ := hcut
        go_upto_if 57 with fail
        go_cut [16] (fun v16 wx => ∃ j : Nat, v16 = .int .i64 (j : Int) ∧ j < 3 ∧ (k = 0 → j = 0) ∧ wx = wc)
        case first =>
          cases c with
          | true =>
            obtain ⟨hk0, hkM⟩ := hc rfl
            obtain ⟨b2, o2, rfl, hlt2, hc2⟩ := IsInts.at HH.out.1 HM.out.symm (by omega)
            have hw2 := hc2 k hkM
            rw [← hb.cell (p := ⟨b2, o2 + k, none⟩) hlt2] at hw2
            obtain ⟨y2, hy2⟩ : ∃ y, ins.getD k 0 = y := ⟨_, rfl⟩
            rw [hy2] at hw2
            have hr2 := lowZ_range y2 3 (by omega)
            obtain ⟨j, hj⟩ : ∃ j : Nat, lowZ y2 3 = (j : Int) := ⟨(lowZ y2 3).toNat, by omega⟩
            rw [hj] at hr2
            have hj3 : j < 3 := by omega
            have CL := fun W => Low_is (j : Int) y2 3 W (by omega) (by omega) hj
            clear hc2 hy2 hj hr2
            go_wp2_with fail
            refine (CL _).mono ?_
            rintro e w9 ⟨rfl, rfl⟩
            go_wp2
            go_meet
            case rel => exact ⟨j, rfl, hj3, fun h => absurd h (by omega), rfl⟩
          | false =>
            go_wp2
            go_meet
            case rel => exact ⟨0, rfl, by omega, fun _ => rfl, rfl⟩
        case rest =>
          obtain ⟨j, rfl, hj3, hj0, rfl⟩ := hcut
          go_upto_if 66 with fail
          go_cut [17] (fun v17 wx => ∃ g : Nat, v17 = .int .i64 (g : Int) ∧ g < 3 ∧ wx = wc)
          case first =>
            by_cases hkN : k < N
            · obtain ⟨b3, o3, rfl, hlt3, hc3⟩ := IsInts.at HH.out.2 HN.out.symm (by omega)
              have hw3 := hc3 k hkN
              rw [← hb.cell (p := ⟨b3, o3 + k, none⟩) hlt3] at hw3
              obtain ⟨y3, hy3⟩ : ∃ y, gs.getD k 0 = y := ⟨_, rfl⟩
              rw [hy3] at hw3
              have hr3 := lowZ_range y3 3 (by omega)
              obtain ⟨q, hq⟩ : ∃ q : Nat, lowZ y3 3 = (q : Int) := ⟨(lowZ y3 3).toNat, by omega⟩
              rw [hq] at hr3
              have hq3 : q < 3 := by omega
              have CL := fun W => Low_is (q : Int) y3 3 W (by omega) (by omega) hq
              clear hc3 hy3 hq hr3
              go_wp2_with fail
              refine (CL _).mono ?_
              rintro e w9 ⟨rfl, rfl⟩
              go_wp2
              go_meet
              case rel => exact ⟨q, rfl, hq3, rfl⟩
            · go_wp2
              go_meet
              case rel => exact ⟨0, rfl, by omega, rfl⟩
          case rest =>
            obtain ⟨q, rfl, hq3, rfl⟩ := hcut
            obtain ⟨BJ, hBJ⟩ : ∃ B, mkB (blanksB j) = B := ⟨_, rfl⟩
            have hBJs : BJ.size = j := by rw [← hBJ, mkB_size, blanks_len]
            have CBJ : ∀ W : World, Calls Tryd.prog 12 #[.int .i64 (j : Int)] W fun e w' => e = .returned (.string BJ) ∧ W = w' := fun W => by rw [← hBJ]; exact lawBlanks_is j _ W (by omega) (by omega)
            obtain ⟨WJ, hWJ⟩ : ∃ WJ : ByteArray, BJ ++ WB = WJ := ⟨_, rfl⟩
            have hWJs : WJ.size = j + wd.length := by rw [← hWJ, ByteArray.size_append, hBJs, hWBs]
            have hWJ2 : WJ = mkB (blanksB j ++ wd) := by rw [← hWJ, ← hBJ, ← HWB.out]; exact mkB_append _ _
            have HWJ := Lib.hid hWJ2
            have HW1 : Hid (wc.cell? ⟨b1, o1 + k, none⟩ = some (.int .i64 xw)) := (hb.cell (p := ⟨b1, o1 + k, none⟩) hlt1).trans HW0.out
            have CWS : ∀ W : World, (W.cell? ⟨b1, o1 + k, none⟩ = some (.int .i64 xw) ∧ Below w.heap.size w W) → Calls Tryd.prog 13 #[.int .i64 xw] W fun e w' => e = .returned (.string WB) ∧ (w'.cell? ⟨b1, o1 + k, none⟩ = some (.int .i64 xw) ∧ Below w.heap.size w w') := fun W hS => (CW W).mono fun e w' h => ⟨h.1, (h.2.cell (p := ⟨b1, o1 + k, none⟩) (Nat.lt_of_lt_of_le hlt1 hS.2.size)).trans hS.1, hS.2.trans (h.2.mono hS.2.size)⟩
            clear hBJ hWJ2
            go_upto_region 14 with fail
            go_cut [18] (fun v18 wx => v18 = .string WJ ∧ Below w.heap.size w wx)
            case first =>
              have hw1 := HW1.out
              have hs0 : wc.drew.cell? ⟨b1, o1 + k, none⟩ = some (.int .i64 xw) ∧ Below w.heap.size w wc.drew := ⟨by simpa using hw1, below_drewN hb 1⟩
              have hkb : (0 : Int) ≤ (k : Int) := by omega
              have hnl : ¬ (9223372036854775807 < j + wd.length) := by omega
              have hkl : (k : Int) < (L : Int) := by omega
              clear hc hj0 CBX CW hBXs hSs hVs
              go_region_held3 (fun w' => w'.cell? ⟨b1, o1 + k, none⟩ = some (.int .i64 xw) ∧ Below w.heap.size w w') (first | assumption | exact hs0)
                (first
                  | (go_at_call 12; refine (CBJ _).mono ?_; rintro e w9 ⟨rfl, rfl⟩)
                  | (go_at_call 13; refine (CWS _ (by assumption)).mono ?_; rintro e w6 ⟨rfl, hS6⟩))
              all_goals (go_wp2; go_meet; case rel => exact ⟨rfl, hS6.2⟩)
            case rest =>
              obtain ⟨rfl, hb5⟩ := hcut
              clear hb HW0 HW1 CWS CW CBJ hc
              obtain ⟨FG, hFG⟩ : ∃ B, mkB (U.feeds q) = B := ⟨_, rfl⟩
              have hFGs : FG.size = q := by rw [← hFG, mkB_size, U.feeds_length]
              have CF : ∀ W : World, Calls Tryd.prog 14 #[.int .i64 (q : Int)] W fun e w' => e = .returned (.string FG) ∧ W = w' := fun W => by rw [← hFG]; exact lawFeeds_is q _ W (by omega) (by omega)
              obtain ⟨S1, hS1⟩ : ∃ S1 : ByteArray, S ++ BX ++ WJ ++ (⟨#[10]⟩ : ByteArray) ++ FG = S1 := ⟨_, rfl⟩
              have hS1s : S1.size = S.size + x + (j + wd.length) + 1 + q := by rw [← hS1, ByteArray.size_append, ByteArray.size_append, ByteArray.size_append, ByteArray.size_append, hBXs, hWJs, hFGs]; rfl
              have HK1 : Hid (KBk kk x (k + 1) S1 (T0 ++ U.feeds m ++ (blanksB j ++ wd)) (1 + q)) := by
                show KBk _ _ _ _ _ _
                rw [← hS1, bk_text S BX WJ FG x j q wd HBX.out HWJ.out hFG]
                exact HK.out.step hk3 hx0 j q hj0 wd HMW.out
              obtain ⟨V1, hV1⟩ : ∃ V1 : ByteArray, V ++ WJ ++ (⟨#[10]⟩ : ByteArray) ++ FG = V1 := ⟨_, rfl⟩
              have hV1s : V1.size = V.size + (j + wd.length) + 1 + q := by rw [← hV1, ByteArray.size_append, ByteArray.size_append, ByteArray.size_append, hWJs, hFGs]; rfl
              have hVe : V = mkB (T0 ++ U.feeds m) := by
                have := HV.out
                rwa [if_neg (by omega)] at this
              have hV1e := bk_want V WJ FG T0 m j q wd hVe HWJ.out hFG
              rw [hV1] at hV1e
              obtain ⟨VT, hVT⟩ : ∃ VT, mkB (T0 ++ U.feeds m ++ (blanksB j ++ wd)) = VT := ⟨_, rfl⟩
              have hVTs : VT.size = V.size + (j + wd.length) := by
                rw [← hVT, mkB_size, hVe, mkB_size]
                simp only [List.length_append, blanks_len]
              have hV1m : V1 = mkB (T0 ++ U.feeds m ++ (blanksB j ++ wd) ++ U.feeds (1 + q)) := by rw [hV1e]; exact mkB_append _ _
              have hVx : V1.extract 0 VT.size = VT := by
                rw [hV1e, ← hVT]
                exact bk_extract _ _ _ rfl
              rw [hVTs] at hVx
              have HV1m := Lib.hid hV1m
              have HVT := Lib.hid hVT
              clear hV1e hV1m hVT hVe hFG HV HK
              go_wp2_with fail
              refine (CBX _).mono ?_
              rintro e w9 ⟨rfl, rfl⟩
              go_wp2_with fail
              refine (CF _).mono ?_
              rintro e w9 ⟨rfl, rfl⟩
              go_wp2_with fail
              refine (CF _).mono ?_
              rintro e w9 ⟨rfl, rfl⟩
              by_cases hlast : k + 1 = L
              · have hlb : ((k : Int) == (L : Int) - 1) = true := by simp; omega
                by_cases hk2 : kk < 2
                · have hz : (V1.size : Int) - (q : Int) - 1 = (VT.size : Int) := by omega
                  by_cases hk0 : kk = 0
                  · have hkb : ((kk : Int) == 0) = true := by simp; omega
                    obtain ⟨V2, hV2⟩ : ∃ V2, VT ++ (⟨#[10]⟩ : ByteArray) = V2 := ⟨_, rfl⟩
                    have hV2s : V2.size = VT.size + 1 := by rw [← hV2, ByteArray.size_append]; rfl
                    have HV2 : Hid (V2 = mkB (T0 ++ U.feeds m ++ (blanksB j ++ wd) ++ U.feeds (if k + 1 = L then bkM kk (1 + q) else 1 + q))) := by
                      show _ = _
                      rw [← hV2, ← HVT.out, if_pos hlast, hk0]
                      exact mkB_append _ [10]
                    clear hk0
                    go_wp2
                    go_roundg (L - (k + 1))
                    case measure => omega
                    case rel => exact ⟨S1, V2, T0 ++ U.feeds m ++ (blanksB j ++ wd), 1 + q, k + 1, by go_num, rfl, rfl, by omega, by omega, by omega, by omega, hb5, HV2, HK1⟩
                  · have hkb : ((kk : Int) == 0) = false := by rw [beq_eq_false_iff_ne]; omega
                    have HV2 : Hid (VT = mkB (T0 ++ U.feeds m ++ (blanksB j ++ wd) ++ U.feeds (if k + 1 = L then bkM kk (1 + q) else 1 + q))) := by
                      show _ = _
                      rw [← HVT.out, if_pos hlast, show kk = 1 by omega]
                      show _ = mkB (_ ++ [])
                      rw [List.append_nil]
                    go_wp2
                    go_roundg (L - (k + 1))
                    case measure => omega
                    case rel => exact ⟨S1, VT, T0 ++ U.feeds m ++ (blanksB j ++ wd), 1 + q, k + 1, by go_num, rfl, congrArg Value.string hVx, by omega, by omega, by omega, by omega, hb5, HV2, HK1⟩
                · have HV2 : Hid (V1 = mkB (T0 ++ U.feeds m ++ (blanksB j ++ wd) ++ U.feeds (if k + 1 = L then bkM kk (1 + q) else 1 + q))) := by
                    show _ = _
                    rw [if_pos hlast]
                    unfold bkM
                    rw [if_neg (by omega), if_neg (by omega)]
                    exact HV1m.out
                  have hk2b : decide ((kk : Int) < 2) = false := decide_eq_false (by omega)
                  go_wp2
                  go_roundg (L - (k + 1))
                  case measure => omega
                  case rel => exact ⟨S1, V1, T0 ++ U.feeds m ++ (blanksB j ++ wd), 1 + q, k + 1, by go_num, rfl, rfl, by omega, by omega, by omega, by omega, hb5, HV2, HK1⟩
              · have hlb : ((k : Int) == (L : Int) - 1) = false := by rw [beq_eq_false_iff_ne]; omega
                have HV2 : Hid (V1 = mkB (T0 ++ U.feeds m ++ (blanksB j ++ wd) ++ U.feeds (if k + 1 = L then bkM kk (1 + q) else 1 + q))) := by
                  show _ = _
                  rw [if_neg hlast]
                  exact HV1m.out
                go_wp2
                go_roundg (L - (k + 1))
                case measure => omega
                case rel => exact ⟨S1, V1, T0 ++ U.feeds m ++ (blanksB j ++ wd), 1 + q, k + 1, by go_num, rfl, rfl, by omega, by omega, by omega, by omega, hb5, HV2, HK1⟩
    · obtain rfl : k = L := by omega
      obtain ⟨hZ1, hZ2⟩ := HK.out.done hk3 (by omega) hx0
      have hVe : V = ⟨(T0 ++ U.feeds (bkM kk m)).toArray⟩ := by
        have := HV.out
        rwa [if_pos rfl] at this
      obtain ⟨SZ, hSZ⟩ : ∃ SZ : ByteArray, S ++ (⟨#[122, 10]⟩ : ByteArray) = SZ := ⟨_, rfl⟩
      have hSZs : SZ.size = S.size + 2 := by rw [← hSZ, ByteArray.size_append]; rfl
      rw [hSZ] at hZ2
      have CK1 := fun W => K.read 4 (T0 ++ U.feeds (bkM kk m)) false [] (S.size : Int) 0 S 0 0 W (by omega) hZ1
      have CK2 := fun W => K.read 4 (T0 ++ U.feeds (bkM kk m)) false [] (S.size : Int) 0 SZ 0 0 W (by omega) hZ2
      have eK : nodeK 0 4 0 (T0 ++ U.feeds (bkM kk m)) false [] = nodeL 1 4 0 V false ⟨#[]⟩ := by rw [hVe]; rfl
      rw [eK] at CK1 CK2
      have hl : ∀ W : World, (W.alloc (.cells (nodeL 1 4 0 V false ⟨#[]⟩) 33)).cell? ⟨W.heap.size, 6, none⟩ = some (.string V) ∧ (W.alloc (.cells (nodeL 1 4 0 V false ⟨#[]⟩) 33)).cell? ⟨W.heap.size, 0, none⟩ = some (.int .i64 1) ∧ (W.alloc (.cells (nodeL 1 4 0 V false ⟨#[]⟩) 33)).cell? ⟨W.heap.size, 1, none⟩ = some (.int .i64 4) := fun W => ⟨by rw [World.cell?_alloc_mark]; rfl, by rw [World.cell?_alloc_mark]; rfl, by rw [World.cell?_alloc_mark]; rfl⟩
      have hla : ∀ W : World, Below W.heap.size W (W.alloc (.cells (nodeL 1 4 0 V false ⟨#[]⟩) 33)) := fun W => (Below.refl _ _).alloc (Nat.le_refl _) _
      unfold nodeL at CK1 CK2 hl hla
      clear hZ1 hZ2 hVe eK HV HK CBX HC1
      go_wp2_with fail
      refine (CK1 _).mono ?_
      rintro e w2 ⟨rfl, hb2⟩
      have hc2 := hb.trans (hb2.mono hb.size)
      go_wp2_with fail
      have hc3 := hc2.trans ((hla w2).mono hc2.size)
      obtain ⟨g6, g0, g1⟩ := hl w2
      obtain ⟨WA, hWA⟩ : ∃ W, W = w2.alloc (.cells #[.int .i64 1, .int .i64 4, .int .i64 0, .int .i64 0, .string ⟨#[]⟩, .string ⟨#[]⟩, .string V, .slice none 0 0, .slice none 0 0, .slice none 0 0, .bool false, .string ⟨#[]⟩] 33) := ⟨_, rfl⟩
      have hlt : w2.heap.size < WA.heap.size := by rw [hWA]; simp
      rw [← hWA] at hc3 g6 g0 g1 ⊢
      obtain ⟨ab, hab⟩ : ∃ ab, w2.heap.size = ab := ⟨_, rfl⟩
      rw [hab] at g6 g0 g1 hlt ⊢
      clear hWA hab hc2 hb2 CK1
      refine (CK2 _).mono ?_
      rintro e w3 ⟨rfl, hb3⟩
      have hc4 := hc3.trans (hb3.mono hc3.size)
      have f6 := (hb3.cell (p := ⟨ab, 6, none⟩) hlt).trans g6
      have f0 := (hb3.cell (p := ⟨ab, 0, none⟩) hlt).trans g0
      have f1 := (hb3.cell (p := ⟨ab, 1, none⟩) hlt).trans g1
      have hlt3 := Nat.lt_of_lt_of_le hlt hb3.size
      clear g6 g0 g1 hc3 hb3
      go_wp2_with fail
      have hc5 := hc4.trans ((hla w3).mono hc4.size)
      refine (awake13_true K _).mono ?_
      rintro e w5 ⟨rfl, hb5⟩
      go_wp2
      go_ret
      exact ⟨rfl, hc5.trans (hb5.mono hc5.size)⟩
end Go.Proofs.YtkpccoijegklbaaDoor
