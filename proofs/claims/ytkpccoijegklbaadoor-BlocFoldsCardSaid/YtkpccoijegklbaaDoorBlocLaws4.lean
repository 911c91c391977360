/- The statements on package bloc: the walk of BlocFolds, over what bloc.Read returns (BlocC). Conditions: those that each theorem writes out. -/
import Derived.Test.YtkpccoijegklbaaDoorBlocLaws
import Derived.Test.YtkpccoijegklbaaDoorBlocFol
import Derived.Test.YtkpccoijegklbaaDoorFold
import Derived.Deep.DrawnRows
import Derived.BigQuiet
import Derived.Deep.RegionHeld3
import Derived.Deep.DeepCutAuto
namespace Go.Proofs.YtkpccoijegklbaaDoor
open Go.RowKit
attribute [local go_sem ↓] Go.wp_at_zero Go.wp_at_succ

theorem mkB_cat (a b : List UInt8) : (⟨a.toArray⟩ : ByteArray) ++ ⟨b.toArray⟩ = ⟨(a ++ b).toArray⟩ := mkB_append a b
theorem appendOneW {ops : Array Oper} {rest : List Oper} {o : Oper} {a : Act} {Q : Exit → Act → World → Prop} (w0 : World) (y : List UInt8) (Y : ByteArray) (hY : (⟨y.toArray⟩ : ByteArray) = Y) (hgd : o.guard = none) (s x : Operand)
    (ho : o.op = .call { callee := .builtin .append, args := #[s, x], argTypes := #[24, 24] })
    (B : Nat) (wb : World) (v : Value) (xs : List (List UInt8)) (hs : a.eval s = v) (hx : a.eval x = .slice (some ⟨w0.heap.size, 0, none⟩) 1 1) (hv : OutT B w0 v xs) (hb : Below B wb w0) (hn : xs.length ≤ 1000000000) (hB : B ≤ wb.heap.size)
    (h : ∀ v' w', OutT B w' v' (xs ++ [y]) → Below B wb w' → wpList Tryd.prog ops Q rest (a.put o.dst v') w') : wpList Tryd.prog ops Q (o :: rest) a (w0.alloc (.cells #[.string Y] 9)) := by
  subst hY
  exact appendOne w0 y hgd s x ho B wb v xs hs hx hv hb hn hB h
theorem word_self (z : Nat) (hz : z < 10) : word (z : Int) = wordL.getD z [] := by
  have H : ∀ j : Fin 10, word (j.val : Int) = wordL.getD j.val [] := by decide +kernel
  exact H ⟨z, hz⟩
set_option maxRecDepth 100000 in
set_option maxHeartbeats 12800000 in
theorem BlocFolds_sn (K : BlocC) (v1 v2 : Value) (ks : List Int) (bs : List Bool) (note : Int) (z : Nat) (w : World) (h1 : IsInts .i64 w.heap.size w v1 ks) (h2 : IsBools w.heap.size w v2 bs) (hL1 : 1 ≤ ks.length) (hL8 : ks.length ≤ 8) (hz : lowZ note 11 = (z : Int)) (hzb : z = 10) :
    Calls Tryd.prog 6 #[v1, v2, .int .i64 note, .bool true] w fun e w' => e = .returned (.bool true) ∧ Below w.heap.size w w' := by
  obtain ⟨ao1, cap1, rfl, c1, d1⟩ := h1.slice
  obtain ⟨ao2, cap2, rfl, c2, d2⟩ := h2.slice
  unfold maxLen at d1 d2
  obtain ⟨L, hL⟩ : ∃ L, L = ks.length := ⟨_, rfl⟩
  obtain ⟨M, hM⟩ : ∃ M, M = bs.length := ⟨_, rfl⟩
  have HL := Lib.hid hL
  have HM := Lib.hid hM
  rw [← hL] at h1 c1 hL1 hL8 ⊢
  rw [← hM] at h2 c2 ⊢
  clear hL hM
  have CZ := fun W => Low_is (z : Int) note 11 W (by omega) (by omega) hz
  clear hz
  subst hzb
  obtain ⟨SH, hSH⟩ : ∃ SH : ByteArray, (⟨#[62, 45]⟩ : ByteArray) ++ (⟨#[10]⟩ : ByteArray) = SH := ⟨_, rfl⟩
  have hSH2 : SH = mkB (folH true 10) := by rw [← hSH]; rfl
  have hSHs : SH.size ≤ 12 := by rw [hSH2, mkB_size]; exact fol_len true 10 (by omega)
  have HSH := Lib.hid hSH2
  clear hSH2
  have hbw0 : Below w.heap.size w w := Below.refl _ _
  go_enter Tryd.func6, Tryd.ntmps6
  go_wp2_with fail
  refine (CZ _).mono ?_
  rintro e w9 ⟨rfl, rfl⟩
  go_wp2
  go_loopw [9, 11, 12] (fun v9 v11 v12 wr => ∃ (S : ByteArray) (R : List (List UInt8)) (k : Nat), v9 = .string S ∧ v12 = .int .i64 (k : Int) ∧ OutT w.heap.size wr v11 R ∧ Below w.heap.size w wr ∧ k ≤ L ∧ S.size ≤ 12 + 9 * k ∧ U.tot R ≤ 6 * k ∧ R.length ≤ k ∧ Hid (KFo true 10 k S R)) (fun _ _ v12 _ => L - (intOf v12).toNat)
  case atStart => exact ⟨SH, [], 0, rfl, rfl, OutT.nil _ _, hbw0, Nat.zero_le _, hSHs, Nat.zero_le _, Nat.zero_le _, Lib.hid (.inl ⟨rfl, rfl, HSH.out⟩)⟩
  case round =>
    obtain ⟨S, R, k, rfl, rfl, ho, hb, hk, hSs, hRt, hRl, HK⟩ := hrel
    by_cases hk2 : k < L
    · obtain ⟨bb, oo, rfl, hlt, hcc⟩ := IsInts.at h1 HL.out.symm (by omega)
      have g1 := hcc k hk2
      rw [← hb.cell (p := ⟨bb, oo + k, none⟩) hlt] at g1
      obtain ⟨x, hx⟩ : ∃ x, x = ks.getD k 0 := ⟨_, rfl⟩
      rw [← hx] at g1
      obtain ⟨wd, hwd⟩ : ∃ wd, word x = wd := ⟨_, rfl⟩
      have hmw : wd ∈ wordL := by rw [← hwd]; exact word_mem x
      have hwl := (fol_word wd hmw).2.2.2
      have CW := fun W => WordOf_is wd x W hwd
      obtain ⟨WB, hWB⟩ : ∃ WB : ByteArray, (⟨wd.toArray⟩ : ByteArray) = WB := ⟨_, rfl⟩
      have hWBs : WB.size = wd.length := by rw [← hWB]; exact size_mk wd
      rw [hWB] at CW
      have step0 := HK.out.step (by omega) wd hmw 0 (fun _ => rfl)
      obtain ⟨S0, hS0⟩ : ∃ S0 : ByteArray, S ++ (⟨#[32, 32, 32]⟩ : ByteArray) ++ WB ++ (⟨#[10]⟩ : ByteArray) = S0 := ⟨_, rfl⟩
      have hS0e : S ++ mkB (blanksB (3 + 0) ++ wd ++ [10]) = S0 := by
        rw [← hS0, ← hWB, ← mkB_append, ← mkB_append, ByteArray.append_assoc, ByteArray.append_assoc, ByteArray.append_assoc]
        rfl
      have hS0s : S0.size ≤ 12 + 9 * (k + 1) := by
        rw [← hS0, ByteArray.size_append, ByteArray.size_append, ByteArray.size_append, hWBs]
        show S.size + 3 + wd.length + 1 ≤ _
        omega
      rw [hS0e] at step0
      have S0H : Hid (KFo true 10 (k + 1) S0 (R ++ [wd])) := step0
      have hw1 : U.tot (R ++ [wd]) ≤ 6 * (k + 1) := by rw [U.tot_append]; simp only [U.tot]; omega
      have hw2 : (R ++ [wd]).length ≤ k + 1 := by rw [List.length_append]; show R.length + 1 ≤ _; omega
      have hR9 : R.length ≤ 1000000000 := by omega
      have hWB3 : WB.size ≤ 3 := by omega
      have hS100 : S.size ≤ 100 := by omega
      clear hS0e step0 hcc hx hwd
      by_cases hk0 : k = 0
      · have hk1 : ¬ (0 < (k : Int)) := by omega
        have hk1b : decide (0 < (k : Int)) = false := decide_eq_false hk1
        clear hk0 HK hmw hwl hWBs
        go_wp2_with fail
        refine (CW _).mono ?_
        rintro e w3 ⟨rfl, hb3⟩
        have o3 := ho.below hb3
        have b3 := hb.trans (hb3.mono hb.size)
        go_wp2_with (at_builtin; refine appendOneW w3 wd WB hWB rfl _ _ rfl w.heap.size w _ _ rfl rfl o3 b3 hR9 (Nat.le_refl _) ?_; intro v5 w5 o5 b5)
        go_roundw
        case rel => exact ⟨S0, R ++ [wd], k + 1, rfl, by go_num, o5, b5, by omega, hS0s, hw1, hw2, S0H⟩
        case measure => simp [intOf]; omega
      · have hk1 : 0 < (k : Int) := by omega
        by_cases hkM : k < M
        · obtain ⟨b2, o2, rfl, hlt2, hc2⟩ := IsBools.at h2 HM.out.symm (by omega)
          have g2 : ∀ W, Below w.heap.size w W → W.cell? ⟨b2, o2 + k, none⟩ = some (.bool (bs.getD k false)) := fun W hW => (hW.cell (p := ⟨b2, o2 + k, none⟩) hlt2).trans (hc2 k hkM)
          have hkM2 : (k : Int) < M := by omega
          obtain ⟨q, hq⟩ : ∃ q, q = bs.getD k false := ⟨_, rfl⟩
          rw [← hq] at g2
          clear hq hc2
          cases q
          · clear hk0 HK hmw hwl hWBs
            go_wp2_with fail
            refine (CW _).mono ?_
            rintro e w3 ⟨rfl, hb3⟩
            have o3 := ho.below hb3
            have b3 := hb.trans (hb3.mono hb.size)
            have g3 := g2 w3 b3
            go_wp2_with (at_builtin; refine appendOneW w3 wd WB hWB rfl _ _ rfl w.heap.size w _ _ rfl rfl o3 b3 hR9 (Nat.le_refl _) ?_; intro v5 w5 o5 b5)
            go_roundw
            case rel => exact ⟨S0, R ++ [wd], k + 1, rfl, by go_num, o5, b5, by omega, hS0s, hw1, hw2, S0H⟩
            case measure => simp [intOf]; omega
          · have step2 := HK.out.step (by omega) wd hmw 2 (fun h => absurd h hk0)
            obtain ⟨WB2, hWBe⟩ : ∃ WB2 : ByteArray, (⟨#[32, 32]⟩ : ByteArray) ++ WB = WB2 := ⟨_, rfl⟩
            have hWB2 : (⟨(blanksB 2 ++ wd).toArray⟩ : ByteArray) = WB2 := by
              rw [← hWBe, ← hWB]
              exact (mkB_append (blanksB 2) wd).symm
            have hWB2s : WB2.size = wd.length + 2 := by
              rw [← hWBe, ByteArray.size_append, hWBs, Nat.add_comm]
              rfl
            obtain ⟨S2, hS2⟩ : ∃ S2 : ByteArray, S ++ (⟨#[32, 32, 32]⟩ : ByteArray) ++ WB2 ++ (⟨#[10]⟩ : ByteArray) = S2 := ⟨_, rfl⟩
            have hS2e : S ++ mkB (blanksB (3 + 2) ++ wd ++ [10]) = S2 := by
              rw [← hS2, ← hWB2, ← mkB_append]
              show _ = _ ++ mkB _ ++ _
              rw [show blanksB (3 + 2) = blanksB 3 ++ blanksB 2 from rfl, List.append_assoc, ← mkB_append, ByteArray.append_assoc, ByteArray.append_assoc, ByteArray.append_assoc]
              rfl
            have hS2s : S2.size ≤ 12 + 9 * (k + 1) := by
              rw [← hS2, ByteArray.size_append, ByteArray.size_append, ByteArray.size_append, hWB2s]
              show S.size + 3 + (wd.length + 2) + 1 ≤ _
              omega
            rw [hS2e] at step2
            have S2H : Hid (KFo true 10 (k + 1) S2 (R ++ [blanksB 2 ++ wd])) := Lib.hid step2
            have hbl : (blanksB 2 ++ wd).length = 2 + wd.length := List.length_append
            have hw3 : U.tot (R ++ [blanksB 2 ++ wd]) ≤ 6 * (k + 1) := by rw [U.tot_append]; simp only [U.tot, hbl]; omega
            have hw4 : (R ++ [blanksB 2 ++ wd]).length ≤ k + 1 := by rw [List.length_append]; show R.length + 1 ≤ _; omega
            have hWB23 : WB2.size ≤ 5 := by omega
            clear step2 hS2e hbl hWB2s hk0 HK hmw hwl hWBs
            go_wp2_with fail
            refine (CW _).mono ?_
            rintro e w3 ⟨rfl, hb3⟩
            have o3 := ho.below hb3
            have b3 := hb.trans (hb3.mono hb.size)
            have g3 := g2 w3 b3
            go_wp2_with (at_builtin; refine appendOneW w3 (blanksB 2 ++ wd) WB2 hWB2 rfl _ _ rfl w.heap.size w _ _ rfl rfl o3 b3 hR9 (Nat.le_refl _) ?_; intro v5 w5 o5 b5)
            go_roundw
            case rel => exact ⟨S2, R ++ [blanksB 2 ++ wd], k + 1, rfl, by go_num, o5, b5, by omega, hS2s, hw3, hw4, S2H⟩
            case measure => simp [intOf]; omega
        · have hkM2 : ¬ ((k : Int) < M) := by omega
          have hkM3 : decide ((k : Int) < M) = false := decide_eq_false hkM2
          clear hk0 HK hmw hwl hWBs
          go_wp2_with fail
          refine (CW _).mono ?_
          rintro e w3 ⟨rfl, hb3⟩
          have o3 := ho.below hb3
          have b3 := hb.trans (hb3.mono hb.size)
          go_wp2_with (at_builtin; refine appendOneW w3 wd WB hWB rfl _ _ rfl w.heap.size w _ _ rfl rfl o3 b3 hR9 (Nat.le_refl _) ?_; intro v5 w5 o5 b5)
          go_roundw
          case rel => exact ⟨S0, R ++ [wd], k + 1, rfl, by go_num, o5, b5, by omega, hS0s, hw1, hw2, S0H⟩
          case measure => simp [intOf]; omega
    · obtain rfl : k = L := by omega
      have hZ := HK.out.done (by omega)
      obtain ⟨T1, hT1⟩ : ∃ T1, U.blkT R = T1 := ⟨_, rfl⟩
      have hT1s : T1.length ≤ 2000 := by
        have := blockT_len true R
        rw [← hT1]
        unfold U.blockT at this
        rw [if_pos rfl] at this
        omega
      rw [hT1] at hZ
      have e0 : T1 ++ U.feeds (if true = true then 0 else 1) = T1 := List.append_nil _
      rw [e0] at hZ
      rw [show (decide (10 < 10)) = false from rfl, if_neg (by decide)] at hZ
      have CK := fun W => K.read 5 T1 false [] (S.size : Int) 0 S 0 2 W (by omega) hZ
      obtain ⟨TB, hTB⟩ : ∃ TB : ByteArray, (⟨T1.toArray⟩ : ByteArray) = TB := ⟨_, rfl⟩
      have hTBs : TB.size ≤ 2000 := by rw [← hTB, size_mk]; exact hT1s
      have CF := foldBlock_folded T1 _ R _ ho.is (by omega) hT1
      rw [hTB] at CF
      have hTX : (⟨T1.toArray⟩ : ByteArray) = TB := hTB
      have eK : nodeK 0 5 0 T1 false [] = nodeL 1 5 0 TB false ⟨#[]⟩ := by rw [← hTX]; rfl
      rw [eK] at CK
      have hl6 : ∀ W : World, (W.alloc (.cells (nodeL 1 5 0 TB false ⟨#[]⟩) 33)).cell? ⟨W.heap.size, 6, none⟩ = some (.string TB) := fun W => by rw [World.cell?_alloc_mark]; rfl
      have hl1 : ∀ W : World, (W.alloc (.cells (nodeL 1 5 0 TB false ⟨#[]⟩) 33)).cell? ⟨W.heap.size, 1, none⟩ = some (.int .i64 5) := fun W => by rw [World.cell?_alloc_mark]; rfl
      have hl10 : ∀ W : World, (W.alloc (.cells (nodeL 1 5 0 TB false ⟨#[]⟩) 33)).cell? ⟨W.heap.size, 10, none⟩ = some (.bool false) := fun W => by rw [World.cell?_alloc_mark]; rfl
      have hl11 : ∀ W : World, (W.alloc (.cells (nodeL 1 5 0 TB false ⟨#[]⟩) 33)).cell? ⟨W.heap.size, 11, none⟩ = some (.string ⟨#[]⟩) := fun W => by rw [World.cell?_alloc_mark]; rfl
      unfold nodeL at CK hl6 hl1 hl10 hl11
      clear hZ e0 hTX hTB hT1s hT1 eK HK
      go_wp2_with fail
      refine CF.mono ?_
      rintro e w2 ⟨rfl, hb2⟩
      have hc2 := hb.trans (hb2.mono hb.size)
      go_wp2_with fail
      refine (CK _).mono ?_
      rintro e w3 ⟨rfl, hb3⟩
      have hc3 := hc2.trans (hb3.mono hc2.size)
      have g6 := hl6 w3
      have g1 := hl1 w3
      have g10 := hl10 w3
      have g11 := hl11 w3
      go_wp2_with fail
      have hc4 := hc3.alloc hc3.size (.cells (nodeL 1 5 0 TB false ⟨#[]⟩) 33)
      unfold nodeL at hc4
      obtain ⟨WR, hWR⟩ : ∃ W, W = w3.alloc (.cells #[.int .i64 1, .int .i64 5, .int .i64 0, .int .i64 0, .string ⟨#[]⟩, .string ⟨#[]⟩, .string TB, .slice none 0 0, .slice none 0 0, .slice none 0 0, .bool false, .string ⟨#[]⟩] 33) := ⟨_, rfl⟩
      rw [← hWR] at hc4 g6 g1 g10 g11 ⊢
      have hwz : w3.heap.size < WR.heap.size := by rw [hWR]; simp
      clear hWR hl6 hl1 hl10 hl11 hc3 hb3 hc2 hb2 hb CK CF ho h1 h2 c1 c2 d1 d2 CZ hbw0 hSs hRt hRl
      go_quiet (fail)
      have hbd := below_drewN hc4 nq
      clear hc4
      go_wp2_with fail
      refine (awake13_true K _).mono ?_
      rintro e w6 ⟨rfl, hb6⟩
      go_wp2
      go_ret
      exact ⟨rfl, hbd.trans (hb6.mono hbd.size)⟩
set_option maxRecDepth 100000 in
set_option maxHeartbeats 12800000 in
theorem BlocFolds_sc (K : BlocC) (v1 v2 : Value) (ks : List Int) (bs : List Bool) (note : Int) (z : Nat) (w : World) (h1 : IsInts .i64 w.heap.size w v1 ks) (h2 : IsBools w.heap.size w v2 bs) (hL1 : 1 ≤ ks.length) (hL8 : ks.length ≤ 8) (hz : lowZ note 11 = (z : Int)) (hzb : z < 10) :
    Calls Tryd.prog 6 #[v1, v2, .int .i64 note, .bool true] w fun e w' => e = .returned (.bool true) ∧ Below w.heap.size w w' := by
  obtain ⟨ao1, cap1, rfl, c1, d1⟩ := h1.slice
  obtain ⟨ao2, cap2, rfl, c2, d2⟩ := h2.slice
  unfold maxLen at d1 d2
  obtain ⟨L, hL⟩ : ∃ L, L = ks.length := ⟨_, rfl⟩
  obtain ⟨M, hM⟩ : ∃ M, M = bs.length := ⟨_, rfl⟩
  have HL := Lib.hid hL
  have HM := Lib.hid hM
  rw [← hL] at h1 c1 hL1 hL8 ⊢
  rw [← hM] at h2 c2 ⊢
  clear hL hM
  have CZ := fun W => Low_is (z : Int) note 11 W (by omega) (by omega) hz
  clear hz
  obtain ⟨nl, hnl⟩ : ∃ nl, nl = wordL.getD z [] := ⟨_, rfl⟩
  have hmem : nl ∈ wordL := by
    rw [hnl]
    simp only [List.getD]
    rw [List.getElem?_eq_getElem (by show z < 10; exact hzb), Option.getD_some]
    exact List.getElem_mem _
  have hnls := (fol_word nl hmem).2.2.2
  have CN := fun W => WordOf_is nl (z : Int) W ((word_self z hzb).trans hnl.symm)
  obtain ⟨NB, hNB⟩ : ∃ NB : ByteArray, (⟨nl.toArray⟩ : ByteArray) = NB := ⟨_, rfl⟩
  have hNBs : NB.size ≤ 3 := by rw [← hNB, size_mk]; exact hnls
  rw [hNB] at CN
  obtain ⟨SH, hSH⟩ : ∃ SH : ByteArray, (⟨#[62, 45]⟩ : ByteArray) ++ (⟨#[32, 32, 35]⟩ : ByteArray) ++ NB ++ (⟨#[32]⟩ : ByteArray) ++ (⟨#[10]⟩ : ByteArray) = SH := ⟨_, rfl⟩
  have hSH2 : SH = mkB (folH true z) := by
    rw [← hSH, ← hNB]
    unfold folH
    rw [if_pos hzb, ← hnl]
    show mkB _ ++ mkB _ ++ mkB nl ++ mkB _ ++ mkB _ = _
    rw [mkB_append, mkB_append, mkB_append, mkB_append]
    simp
  have hSHs : SH.size ≤ 12 := by rw [hSH2, mkB_size]; exact fol_len true z (by omega)
  have HNL := Lib.hid hnl
  have HNB := Lib.hid hNB
  clear hnl hmem hnls hNB
  have hz10 : (z : Int) < 10 := by omega
  have hzn : ((z : Int) == 10) = false := by rw [beq_eq_false_iff_ne]; omega
  have HSH := Lib.hid hSH2
  clear hSH2
  have hbw0 : Below w.heap.size w w := Below.refl _ _
  go_enter Tryd.func6, Tryd.ntmps6
  go_wp2_with fail
  refine (CZ _).mono ?_
  rintro e w9 ⟨rfl, rfl⟩
  go_wp2_with fail
  refine (CN _).mono ?_
  rintro e w0 ⟨rfl, hbw0⟩
  go_wp2
  go_loopw [9, 11, 12] (fun v9 v11 v12 wr => ∃ (S : ByteArray) (R : List (List UInt8)) (k : Nat), v9 = .string S ∧ v12 = .int .i64 (k : Int) ∧ OutT w.heap.size wr v11 R ∧ Below w.heap.size w wr ∧ k ≤ L ∧ S.size ≤ 12 + 9 * k ∧ U.tot R ≤ 6 * k ∧ R.length ≤ k ∧ Hid (KFo true z k S R)) (fun _ _ v12 _ => L - (intOf v12).toNat)
  case atStart => exact ⟨SH, [], 0, rfl, rfl, OutT.nil _ _, hbw0, Nat.zero_le _, hSHs, Nat.zero_le _, Nat.zero_le _, Lib.hid (.inl ⟨rfl, rfl, HSH.out⟩)⟩
  case round =>
    obtain ⟨S, R, k, rfl, rfl, ho, hb, hk, hSs, hRt, hRl, HK⟩ := hrel
    by_cases hk2 : k < L
    · obtain ⟨bb, oo, rfl, hlt, hcc⟩ := IsInts.at h1 HL.out.symm (by omega)
      have g1 := hcc k hk2
      rw [← hb.cell (p := ⟨bb, oo + k, none⟩) hlt] at g1
      obtain ⟨x, hx⟩ : ∃ x, x = ks.getD k 0 := ⟨_, rfl⟩
      rw [← hx] at g1
      obtain ⟨wd, hwd⟩ : ∃ wd, word x = wd := ⟨_, rfl⟩
      have hmw : wd ∈ wordL := by rw [← hwd]; exact word_mem x
      have hwl := (fol_word wd hmw).2.2.2
      have CW := fun W => WordOf_is wd x W hwd
      obtain ⟨WB, hWB⟩ : ∃ WB : ByteArray, (⟨wd.toArray⟩ : ByteArray) = WB := ⟨_, rfl⟩
      have hWBs : WB.size = wd.length := by rw [← hWB]; exact size_mk wd
      rw [hWB] at CW
      have step0 := HK.out.step (by omega) wd hmw 0 (fun _ => rfl)
      obtain ⟨S0, hS0⟩ : ∃ S0 : ByteArray, S ++ (⟨#[32, 32, 32]⟩ : ByteArray) ++ WB ++ (⟨#[10]⟩ : ByteArray) = S0 := ⟨_, rfl⟩
      have hS0e : S ++ mkB (blanksB (3 + 0) ++ wd ++ [10]) = S0 := by
        rw [← hS0, ← hWB, ← mkB_append, ← mkB_append, ByteArray.append_assoc, ByteArray.append_assoc, ByteArray.append_assoc]
        rfl
      have hS0s : S0.size ≤ 12 + 9 * (k + 1) := by
        rw [← hS0, ByteArray.size_append, ByteArray.size_append, ByteArray.size_append, hWBs]
        show S.size + 3 + wd.length + 1 ≤ _
        omega
      rw [hS0e] at step0
      have S0H : Hid (KFo true z (k + 1) S0 (R ++ [wd])) := step0
      have hw1 : U.tot (R ++ [wd]) ≤ 6 * (k + 1) := by rw [U.tot_append]; simp only [U.tot]; omega
      have hw2 : (R ++ [wd]).length ≤ k + 1 := by rw [List.length_append]; show R.length + 1 ≤ _; omega
      have hR9 : R.length ≤ 1000000000 := by omega
      have hWB3 : WB.size ≤ 3 := by omega
      have hS100 : S.size ≤ 100 := by omega
      clear hS0e step0 hcc hx hwd
      by_cases hk0 : k = 0
      · have hk1 : ¬ (0 < (k : Int)) := by omega
        have hk1b : decide (0 < (k : Int)) = false := decide_eq_false hk1
        clear hk0 HK hmw hwl hWBs
        go_wp2_with fail
        refine (CW _).mono ?_
        rintro e w3 ⟨rfl, hb3⟩
        have o3 := ho.below hb3
        have b3 := hb.trans (hb3.mono hb.size)
        go_wp2_with (at_builtin; refine appendOneW w3 wd WB hWB rfl _ _ rfl w.heap.size w _ _ rfl rfl o3 b3 hR9 (Nat.le_refl _) ?_; intro v5 w5 o5 b5)
        go_roundw
        case rel => exact ⟨S0, R ++ [wd], k + 1, rfl, by go_num, o5, b5, by omega, hS0s, hw1, hw2, S0H⟩
        case measure => simp [intOf]; omega
      · have hk1 : 0 < (k : Int) := by omega
        by_cases hkM : k < M
        · obtain ⟨b2, o2, rfl, hlt2, hc2⟩ := IsBools.at h2 HM.out.symm (by omega)
          have g2 : ∀ W, Below w.heap.size w W → W.cell? ⟨b2, o2 + k, none⟩ = some (.bool (bs.getD k false)) := fun W hW => (hW.cell (p := ⟨b2, o2 + k, none⟩) hlt2).trans (hc2 k hkM)
          have hkM2 : (k : Int) < M := by omega
          obtain ⟨q, hq⟩ : ∃ q, q = bs.getD k false := ⟨_, rfl⟩
          rw [← hq] at g2
          clear hq hc2
          cases q
          · clear hk0 HK hmw hwl hWBs
            go_wp2_with fail
            refine (CW _).mono ?_
            rintro e w3 ⟨rfl, hb3⟩
            have o3 := ho.below hb3
            have b3 := hb.trans (hb3.mono hb.size)
            have g3 := g2 w3 b3
            go_wp2_with (at_builtin; refine appendOneW w3 wd WB hWB rfl _ _ rfl w.heap.size w _ _ rfl rfl o3 b3 hR9 (Nat.le_refl _) ?_; intro v5 w5 o5 b5)
            go_roundw
            case rel => exact ⟨S0, R ++ [wd], k + 1, rfl, by go_num, o5, b5, by omega, hS0s, hw1, hw2, S0H⟩
            case measure => simp [intOf]; omega
          · have step2 := HK.out.step (by omega) wd hmw 2 (fun h => absurd h hk0)
            obtain ⟨WB2, hWBe⟩ : ∃ WB2 : ByteArray, (⟨#[32, 32]⟩ : ByteArray) ++ WB = WB2 := ⟨_, rfl⟩
            have hWB2 : (⟨(blanksB 2 ++ wd).toArray⟩ : ByteArray) = WB2 := by
              rw [← hWBe, ← hWB]
              exact (mkB_append (blanksB 2) wd).symm
            have hWB2s : WB2.size = wd.length + 2 := by
              rw [← hWBe, ByteArray.size_append, hWBs, Nat.add_comm]
              rfl
            obtain ⟨S2, hS2⟩ : ∃ S2 : ByteArray, S ++ (⟨#[32, 32, 32]⟩ : ByteArray) ++ WB2 ++ (⟨#[10]⟩ : ByteArray) = S2 := ⟨_, rfl⟩
            have hS2e : S ++ mkB (blanksB (3 + 2) ++ wd ++ [10]) = S2 := by
              rw [← hS2, ← hWB2, ← mkB_append]
              show _ = _ ++ mkB _ ++ _
              rw [show blanksB (3 + 2) = blanksB 3 ++ blanksB 2 from rfl, List.append_assoc, ← mkB_append, ByteArray.append_assoc, ByteArray.append_assoc, ByteArray.append_assoc]
              rfl
            have hS2s : S2.size ≤ 12 + 9 * (k + 1) := by
              rw [← hS2, ByteArray.size_append, ByteArray.size_append, ByteArray.size_append, hWB2s]
              show S.size + 3 + (wd.length + 2) + 1 ≤ _
              omega
            rw [hS2e] at step2
            have S2H : Hid (KFo true z (k + 1) S2 (R ++ [blanksB 2 ++ wd])) := Lib.hid step2
            have hbl : (blanksB 2 ++ wd).length = 2 + wd.length := List.length_append
            have hw3 : U.tot (R ++ [blanksB 2 ++ wd]) ≤ 6 * (k + 1) := by rw [U.tot_append]; simp only [U.tot, hbl]; omega
            have hw4 : (R ++ [blanksB 2 ++ wd]).length ≤ k + 1 := by rw [List.length_append]; show R.length + 1 ≤ _; omega
            have hWB23 : WB2.size ≤ 5 := by omega
            clear step2 hS2e hbl hWB2s hk0 HK hmw hwl hWBs
            go_wp2_with fail
            refine (CW _).mono ?_
            rintro e w3 ⟨rfl, hb3⟩
            have o3 := ho.below hb3
            have b3 := hb.trans (hb3.mono hb.size)
            have g3 := g2 w3 b3
            go_wp2_with (at_builtin; refine appendOneW w3 (blanksB 2 ++ wd) WB2 hWB2 rfl _ _ rfl w.heap.size w _ _ rfl rfl o3 b3 hR9 (Nat.le_refl _) ?_; intro v5 w5 o5 b5)
            go_roundw
            case rel => exact ⟨S2, R ++ [blanksB 2 ++ wd], k + 1, rfl, by go_num, o5, b5, by omega, hS2s, hw3, hw4, S2H⟩
            case measure => simp [intOf]; omega
        · have hkM2 : ¬ ((k : Int) < M) := by omega
          have hkM3 : decide ((k : Int) < M) = false := decide_eq_false hkM2
          clear hk0 HK hmw hwl hWBs
          go_wp2_with fail
          refine (CW _).mono ?_
          rintro e w3 ⟨rfl, hb3⟩
          have o3 := ho.below hb3
          have b3 := hb.trans (hb3.mono hb.size)
          go_wp2_with (at_builtin; refine appendOneW w3 wd WB hWB rfl _ _ rfl w.heap.size w _ _ rfl rfl o3 b3 hR9 (Nat.le_refl _) ?_; intro v5 w5 o5 b5)
          go_roundw
          case rel => exact ⟨S0, R ++ [wd], k + 1, rfl, by go_num, o5, b5, by omega, hS0s, hw1, hw2, S0H⟩
          case measure => simp [intOf]; omega
    · obtain rfl : k = L := by omega
      have hZ := HK.out.done (by omega)
      obtain ⟨T1, hT1⟩ : ∃ T1, U.blkT R = T1 := ⟨_, rfl⟩
      have hT1s : T1.length ≤ 2000 := by
        have := blockT_len true R
        rw [← hT1]
        unfold U.blockT at this
        rw [if_pos rfl] at this
        omega
      rw [hT1] at hZ
      have e0 : T1 ++ U.feeds (if true = true then 0 else 1) = T1 := List.append_nil _
      rw [e0] at hZ
      rw [decide_eq_true hzb, if_pos hzb, ← HNL.out] at hZ
      have CK := fun W => K.read 5 T1 true nl (S.size : Int) 0 S 0 2 W (by omega) hZ
      obtain ⟨TB, hTB⟩ : ∃ TB : ByteArray, (⟨T1.toArray⟩ : ByteArray) = TB := ⟨_, rfl⟩
      have hTBs : TB.size ≤ 2000 := by rw [← hTB, size_mk]; exact hT1s
      have CF := foldBlock_folded T1 _ R _ ho.is (by omega) hT1
      rw [hTB] at CF
      have hTX : (⟨T1.toArray⟩ : ByteArray) = TB := hTB
      have eK : nodeK 0 5 0 T1 true nl = nodeL 1 5 0 TB true NB := by rw [← hTX, ← HNB.out]; rfl
      rw [eK] at CK
      have hl6 : ∀ W : World, (W.alloc (.cells (nodeL 1 5 0 TB true NB) 33)).cell? ⟨W.heap.size, 6, none⟩ = some (.string TB) := fun W => by rw [World.cell?_alloc_mark]; rfl
      have hl1 : ∀ W : World, (W.alloc (.cells (nodeL 1 5 0 TB true NB) 33)).cell? ⟨W.heap.size, 1, none⟩ = some (.int .i64 5) := fun W => by rw [World.cell?_alloc_mark]; rfl
      have hl10 : ∀ W : World, (W.alloc (.cells (nodeL 1 5 0 TB true NB) 33)).cell? ⟨W.heap.size, 10, none⟩ = some (.bool true) := fun W => by rw [World.cell?_alloc_mark]; rfl
      have hl11 : ∀ W : World, (W.alloc (.cells (nodeL 1 5 0 TB true NB) 33)).cell? ⟨W.heap.size, 11, none⟩ = some (.string NB) := fun W => by rw [World.cell?_alloc_mark]; rfl
      unfold nodeL at CK hl6 hl1 hl10 hl11
      clear hZ e0 hTX hTB hT1s hT1 eK HK
      go_wp2_with fail
      refine CF.mono ?_
      rintro e w2 ⟨rfl, hb2⟩
      have hc2 := hb.trans (hb2.mono hb.size)
      go_wp2_with fail
      refine (CK _).mono ?_
      rintro e w3 ⟨rfl, hb3⟩
      have hc3 := hc2.trans (hb3.mono hc2.size)
      have g6 := hl6 w3
      have g1 := hl1 w3
      have g10 := hl10 w3
      have g11 := hl11 w3
      go_wp2_with fail
      have hc4 := hc3.alloc hc3.size (.cells (nodeL 1 5 0 TB true NB) 33)
      unfold nodeL at hc4
      obtain ⟨WR, hWR⟩ : ∃ W, W = w3.alloc (.cells #[.int .i64 1, .int .i64 5, .int .i64 0, .int .i64 0, .string ⟨#[]⟩, .string ⟨#[]⟩, .string TB, .slice none 0 0, .slice none 0 0, .slice none 0 0, .bool true, .string NB] 33) := ⟨_, rfl⟩
      rw [← hWR] at hc4 g6 g1 g10 g11 ⊢
      have hwz : w3.heap.size < WR.heap.size := by rw [hWR]; simp
      clear hWR hl6 hl1 hl10 hl11 hc3 hb3 hc2 hb2 hb CK CF ho h1 h2 c1 c2 d1 d2 CZ hbw0 hSs hRt hRl
      have hz10b : decide ((z : Int) < 10) = true := decide_eq_true hz10
      have hzne : ¬ ((z : Int) = 10) := by omega
      have hznd : decide ((z : Int) = 10) = false := decide_eq_false hzne
      obtain ⟨ab, hab⟩ : ∃ ab, w3.heap.size = ab := ⟨_, rfl⟩
      rw [hab] at g6 g1 g10 g11 hwz ⊢
      have CNS : ∀ W : World, (W.cell? ⟨ab, 10, none⟩ = some (.bool true) ∧ W.cell? ⟨ab, 11, none⟩ = some (.string NB) ∧ W.cell? ⟨ab, 6, none⟩ = some (.string TB) ∧ W.cell? ⟨ab, 1, none⟩ = some (.int .i64 5) ∧ ab < W.heap.size ∧ Below w.heap.size w W) → Calls Tryd.prog 13 #[.int .i64 (z : Int)] W fun e w' => e = .returned (.string NB) ∧ (w'.cell? ⟨ab, 10, none⟩ = some (.bool true) ∧ w'.cell? ⟨ab, 11, none⟩ = some (.string NB) ∧ w'.cell? ⟨ab, 6, none⟩ = some (.string TB) ∧ w'.cell? ⟨ab, 1, none⟩ = some (.int .i64 5) ∧ ab < w'.heap.size ∧ Below w.heap.size w w') := fun W ⟨k1, k2, k3, k4, k5, k6⟩ => (CN W).mono fun e w' h => ⟨h.1, (h.2.cell (p := ⟨ab, 10, none⟩) k5).trans k1, (h.2.cell (p := ⟨ab, 11, none⟩) k5).trans k2, (h.2.cell (p := ⟨ab, 6, none⟩) k5).trans k3, (h.2.cell (p := ⟨ab, 1, none⟩) k5).trans k4, Nat.lt_of_lt_of_le k5 h.2.size, k6.trans (h.2.mono k6.size)⟩
      clear CN hab
      go_upto_region 23 with fail
      go_cut [109] (fun v109 wx => v109 = .bool false ∧ wx.cell? ⟨ab, 10, none⟩ = some (.bool true) ∧ wx.cell? ⟨ab, 11, none⟩ = some (.string NB) ∧ wx.cell? ⟨ab, 6, none⟩ = some (.string TB) ∧ wx.cell? ⟨ab, 1, none⟩ = some (.int .i64 5) ∧ ab < wx.heap.size ∧ Below w.heap.size w wx)
      case first =>
        have hs0 : WR.drew.cell? ⟨ab, 10, none⟩ = some (.bool true) ∧ WR.drew.cell? ⟨ab, 11, none⟩ = some (.string NB) ∧ WR.drew.cell? ⟨ab, 6, none⟩ = some (.string TB) ∧ WR.drew.cell? ⟨ab, 1, none⟩ = some (.int .i64 5) ∧ ab < WR.drew.heap.size ∧ Below w.heap.size w WR.drew := ⟨by simpa using g10, by simpa using g11, by simpa using g6, by simpa using g1, by simpa using hwz, below_drewN hc4 1⟩
        refine wp_region_noPanic ?_
        refine wp_region_held_drew (S := fun w' => w'.cell? ⟨ab, 10, none⟩ = some (.bool true) ∧ w'.cell? ⟨ab, 11, none⟩ = some (.string NB) ∧ w'.cell? ⟨ab, 6, none⟩ = some (.string TB) ∧ w'.cell? ⟨ab, 1, none⟩ = some (.int .i64 5) ∧ ab < w'.heap.size ∧ Below w.heap.size w w') (by kernel_rfl) ?_ (fun hHeld => ?_)
        · exact hs0
        refine wpAnyH_take (i := 0) (v := ?_) rfl (by kernel_rfl) (by kernel_rfl) (by kernel_rfl) (fun _ _ _ h => h) (Or.inl ⟨by rfl, ?_⟩) (by assumption) ?_
        rotate_left
        · (intro w hSw; (try dsimp only at hSw); go_simp <;> with_reducible rfl)
        simp only [List.getElem_toArray, List.getElem_cons_zero, Act.put, List.setIfInBounds_toArray, List.set_cons_zero, List.set_cons_succ]
        refine wpAnyH_take (i := 1) (v := ?_) rfl (by kernel_rfl) (by kernel_rfl) (by kernel_rfl) (fun _ _ _ h => h) (Or.inl ⟨by rfl, ?_⟩) (by assumption) ?_
        rotate_left
        · (intro w hSw; (try dsimp only at hSw); go_simp <;> with_reducible rfl)
        simp only [List.getElem_toArray, List.getElem_cons_zero, List.getElem_cons_succ, Act.put, List.setIfInBounds_toArray, List.set_cons_zero, List.set_cons_succ]
        refine wpAnyH_take (i := 2) (v := ?_) rfl (by kernel_rfl) (by kernel_rfl) (by kernel_rfl) (fun _ _ _ h => h) (Or.inl ⟨by rfl, ?_⟩) (by assumption) ?_
        rotate_left
        · (intro w hSw; (try dsimp only at hSw); go_simp <;> with_reducible rfl)
        simp only [List.getElem_toArray, List.getElem_cons_zero, List.getElem_cons_succ, Act.put, List.setIfInBounds_toArray, List.set_cons_zero, List.set_cons_succ]
        refine wpAnyH_take (i := 3) (v := ?_) rfl (by kernel_rfl) (by kernel_rfl) (by kernel_rfl) (fun _ _ _ h => h) (Or.inl ⟨by rfl, ?_⟩) (by assumption) ?_
        rotate_left
        · (intro w hSw; (try dsimp only at hSw); go_simp <;> with_reducible rfl)
        simp only [List.getElem_toArray, List.getElem_cons_zero, List.getElem_cons_succ, Act.put, List.setIfInBounds_toArray, List.set_cons_zero, List.set_cons_succ]
        refine wpAnyH_take (i := 4) (v := ?_) rfl (by kernel_rfl) (by kernel_rfl) (by kernel_rfl) (fun _ _ _ h => h) (Or.inl ⟨by rfl, ?_⟩) (by assumption) ?_
        rotate_left
        · (intro w hSw; (try dsimp only at hSw); go_simp <;> with_reducible rfl)
        simp only [List.getElem_toArray, List.getElem_cons_zero, List.getElem_cons_succ, Act.put, List.setIfInBounds_toArray, List.set_cons_zero, List.set_cons_succ]
        refine wpAnyH_take (i := 5) (v := ?_) rfl (by kernel_rfl) (by kernel_rfl) (by kernel_rfl) (fun _ _ _ h => h) (Or.inl ⟨by rfl, ?_⟩) (by assumption) ?_
        rotate_left
        · (intro w hSw; (try dsimp only at hSw); go_simp <;> with_reducible rfl)
        simp only [List.getElem_toArray, List.getElem_cons_zero, List.getElem_cons_succ, Act.put, List.setIfInBounds_toArray, List.set_cons_zero, List.set_cons_succ]
        refine wpAnyH_take (i := 6) (v := ?_) rfl (by kernel_rfl) (by kernel_rfl) (by kernel_rfl) (fun _ _ _ h => h) (Or.inl ⟨by rfl, ?_⟩) (by assumption) ?_
        rotate_left
        · (intro w hSw; (try dsimp only at hSw); go_simp <;> with_reducible rfl)
        simp only [List.getElem_toArray, List.getElem_cons_zero, List.getElem_cons_succ, Act.put, List.setIfInBounds_toArray, List.set_cons_zero, List.set_cons_succ]
        refine wpAnyH_take (i := 7) (v := ?_) rfl (by kernel_rfl) (by kernel_rfl) (by kernel_rfl) (fun _ _ _ h => h) (Or.inl ⟨by rfl, ?_⟩) (by assumption) ?_
        rotate_left
        · (intro w hSw; (try dsimp only at hSw); go_simp <;> with_reducible rfl)
        simp only [List.getElem_toArray, List.getElem_cons_zero, List.getElem_cons_succ, Act.put, List.setIfInBounds_toArray, List.set_cons_zero, List.set_cons_succ]
        refine wpAnyH_take (i := 8) (v := ?_) rfl (by kernel_rfl) (by kernel_rfl) (by kernel_rfl) (fun _ _ _ h => h) (Or.inl ⟨by rfl, ?_⟩) (by assumption) ?_
        rotate_left
        · (intro w hSw; (try dsimp only at hSw); go_simp <;> with_reducible rfl)
        simp only [List.getElem_toArray, List.getElem_cons_zero, List.getElem_cons_succ, Act.put, List.setIfInBounds_toArray, List.set_cons_zero, List.set_cons_succ]
        refine wpAnyH_take (i := 9) (v := ?_) rfl (by kernel_rfl) (by kernel_rfl) (by kernel_rfl) (fun _ _ _ h => h) (Or.inl ⟨by rfl, ?_⟩) (by assumption) ?_
        rotate_left
        · (intro w hSw; (try dsimp only at hSw); go_simp <;> with_reducible rfl)
        simp only [List.getElem_toArray, List.getElem_cons_zero, List.getElem_cons_succ, Act.put, List.setIfInBounds_toArray, List.set_cons_zero, List.set_cons_succ]
        refine wpAnyH_ready (rs := [10]) (by kernel_rfl) (by simp) ?_
        refine AllReadyH.cons rfl (fun K hK => ?_) ?_
        rotate_left
        · exact AllReadyH.nil
        go_simp
        refine (CNS _ (by assumption)).mono ?_
        rintro e w9 ⟨rfl, hS9⟩
        refine hK.out _ _ ?_ (fun hHeld => ?_)
        · exact hS9
        clear hK K
        refine wpAnyH_take (i := 11) (v := ?_) rfl (by kernel_rfl) (by kernel_rfl) (by kernel_rfl) (fun _ _ _ h => h) (Or.inl ⟨by rfl, ?_⟩) (by assumption) ?_
        rotate_left
        · (intro w hSw; (try dsimp only at hSw); go_simp <;> with_reducible rfl)
        simp only [List.getElem_toArray, List.getElem_cons_zero, List.getElem_cons_succ, Act.put, List.setIfInBounds_toArray, List.set_cons_zero, List.set_cons_succ]
        refine wpAnyH_take (i := 12) (v := ?_) rfl (by kernel_rfl) (by kernel_rfl) (by kernel_rfl) (fun _ _ _ h => h) (Or.inl ⟨by rfl, ?_⟩) (by assumption) ?_
        rotate_left
        · (intro w hSw; (try dsimp only at hSw); go_simp <;> with_reducible rfl)
        simp only [List.getElem_toArray, List.getElem_cons_zero, List.getElem_cons_succ, Act.put, List.setIfInBounds_toArray, List.set_cons_zero, List.set_cons_succ]
        refine wpAnyH_take (i := 13) (v := ?_) rfl (by kernel_rfl) (by kernel_rfl) (by kernel_rfl) (fun _ _ _ h => h) (Or.inl ⟨by rfl, ?_⟩) (by assumption) ?_
        rotate_left
        · (intro w hSw; (try dsimp only at hSw); go_simp <;> with_reducible rfl)
        simp only [List.getElem_toArray, List.getElem_cons_zero, List.getElem_cons_succ, Act.put, List.setIfInBounds_toArray, List.set_cons_zero, List.set_cons_succ]
        refine wpAnyH_take (i := 14) (v := ?_) rfl (by kernel_rfl) (by kernel_rfl) (by kernel_rfl) (fun _ _ _ h => h) (Or.inl ⟨by rfl, ?_⟩) (by assumption) ?_
        rotate_left
        · (intro w hSw; (try dsimp only at hSw); go_simp <;> with_reducible rfl)
        simp only [List.getElem_toArray, List.getElem_cons_zero, List.getElem_cons_succ, Act.put, List.setIfInBounds_toArray, List.set_cons_zero, List.set_cons_succ]
        refine wpAnyH_take (i := 15) (v := ?_) rfl (by kernel_rfl) (by kernel_rfl) (by kernel_rfl) (fun _ _ _ h => h) (Or.inl ⟨by rfl, ?_⟩) (by assumption) ?_
        rotate_left
        · (intro w hSw; (try dsimp only at hSw); go_simp <;> with_reducible rfl)
        simp only [List.getElem_toArray, List.getElem_cons_zero, List.getElem_cons_succ, Act.put, List.setIfInBounds_toArray, List.set_cons_zero, List.set_cons_succ]
        refine wpAnyH_take (i := 16) (v := ?_) rfl (by kernel_rfl) (by kernel_rfl) (by kernel_rfl) (fun _ _ _ h => h) (Or.inl ⟨by rfl, ?_⟩) (by assumption) ?_
        rotate_left
        · (intro w hSw; (try dsimp only at hSw); go_simp <;> with_reducible rfl)
        simp only [List.getElem_toArray, List.getElem_cons_zero, List.getElem_cons_succ, Act.put, List.setIfInBounds_toArray, List.set_cons_zero, List.set_cons_succ]
        refine wpAnyH_take (i := 17) (v := ?_) rfl (by kernel_rfl) (by kernel_rfl) (by kernel_rfl) (fun _ _ _ h => h) (Or.inl ⟨by rfl, ?_⟩) (by assumption) ?_
        rotate_left
        · (intro w hSw; (try dsimp only at hSw); go_simp <;> with_reducible rfl)
        simp only [List.getElem_toArray, List.getElem_cons_zero, List.getElem_cons_succ, Act.put, List.setIfInBounds_toArray, List.set_cons_zero, List.set_cons_succ]
        refine wpAnyH_take (i := 18) (v := undef) rfl (by kernel_rfl) (by kernel_rfl) (by kernel_rfl) (fun _ _ _ h => h) (Or.inr ⟨by rfl, rfl⟩) (by assumption) ?_
        simp only [List.getElem_toArray, List.getElem_cons_zero, List.getElem_cons_succ, Act.put, List.setIfInBounds_toArray, List.set_cons_zero, List.set_cons_succ]
        refine wpAnyH_take (i := 19) (v := undef) rfl (by kernel_rfl) (by kernel_rfl) (by kernel_rfl) (fun _ _ _ h => h) (Or.inr ⟨by rfl, rfl⟩) (by assumption) ?_
        simp only [List.getElem_toArray, List.getElem_cons_zero, List.getElem_cons_succ, Act.put, List.setIfInBounds_toArray, List.set_cons_zero, List.set_cons_succ]
        refine wpAnyH_take (i := 20) (v := ?_) rfl (by kernel_rfl) (by kernel_rfl) (by kernel_rfl) (fun _ _ _ h => h) (Or.inl ⟨by rfl, ?_⟩) (by assumption) ?_
        rotate_left
        · (intro w hSw; (try dsimp only at hSw); go_simp <;> with_reducible rfl)
        simp only [List.getElem_toArray, List.getElem_cons_zero, List.getElem_cons_succ, Act.put, List.setIfInBounds_toArray, List.set_cons_zero, List.set_cons_succ]
        refine wpAnyH_take (i := 21) (v := ?_) rfl (by kernel_rfl) (by kernel_rfl) (by kernel_rfl) (fun _ _ _ h => h) (Or.inl ⟨by rfl, ?_⟩) (by assumption) ?_
        rotate_left
        · (intro w hSw; (try dsimp only at hSw); go_simp <;> with_reducible rfl)
        simp only [List.getElem_toArray, List.getElem_cons_zero, List.getElem_cons_succ, Act.put, List.setIfInBounds_toArray, List.set_cons_zero, List.set_cons_succ]
        refine wpAnyH_done (by kernel_rfl) ?_ _
        refine NoPanic.normal ?_
        go_wp2
        go_meet
        case rel => exact ⟨rfl, hS9⟩
      case rest =>
        obtain ⟨rfl, g10, g11, g6, g1, hwz, hbd⟩ := hcut
        go_wp2_with fail
        refine (awake13_true K _).mono ?_
        rintro e w6 ⟨rfl, hb6⟩
        go_wp2
        go_ret
        exact ⟨rfl, hbd.trans (hb6.mono hbd.size)⟩
set_option maxRecDepth 100000 in
set_option maxHeartbeats 12800000 in
theorem BlocFolds_nn (K : BlocC) (v1 v2 : Value) (ks : List Int) (bs : List Bool) (note : Int) (z : Nat) (w : World) (h1 : IsInts .i64 w.heap.size w v1 ks) (h2 : IsBools w.heap.size w v2 bs) (hL1 : 1 ≤ ks.length) (hL8 : ks.length ≤ 8) (hz : lowZ note 11 = (z : Int)) (hzb : z = 10) :
    Calls Tryd.prog 6 #[v1, v2, .int .i64 note, .bool false] w fun e w' => e = .returned (.bool true) ∧ Below w.heap.size w w' := by
  obtain ⟨ao1, cap1, rfl, c1, d1⟩ := h1.slice
  obtain ⟨ao2, cap2, rfl, c2, d2⟩ := h2.slice
  unfold maxLen at d1 d2
  obtain ⟨L, hL⟩ : ∃ L, L = ks.length := ⟨_, rfl⟩
  obtain ⟨M, hM⟩ : ∃ M, M = bs.length := ⟨_, rfl⟩
  have HL := Lib.hid hL
  have HM := Lib.hid hM
  rw [← hL] at h1 c1 hL1 hL8 ⊢
  rw [← hM] at h2 c2 ⊢
  clear hL hM
  have CZ := fun W => Low_is (z : Int) note 11 W (by omega) (by omega) hz
  clear hz
  subst hzb
  obtain ⟨SH, hSH⟩ : ∃ SH : ByteArray, (⟨#[62]⟩ : ByteArray) ++ (⟨#[10]⟩ : ByteArray) = SH := ⟨_, rfl⟩
  have hSH2 : SH = mkB (folH false 10) := by rw [← hSH]; rfl
  have hSHs : SH.size ≤ 12 := by rw [hSH2, mkB_size]; exact fol_len false 10 (by omega)
  have HSH := Lib.hid hSH2
  clear hSH2
  have hbw0 : Below w.heap.size w w := Below.refl _ _
  go_enter Tryd.func6, Tryd.ntmps6
  go_wp2_with fail
  refine (CZ _).mono ?_
  rintro e w9 ⟨rfl, rfl⟩
  go_wp2
  go_loopw [9, 11, 12] (fun v9 v11 v12 wr => ∃ (S : ByteArray) (R : List (List UInt8)) (k : Nat), v9 = .string S ∧ v12 = .int .i64 (k : Int) ∧ OutT w.heap.size wr v11 R ∧ Below w.heap.size w wr ∧ k ≤ L ∧ S.size ≤ 12 + 9 * k ∧ U.tot R ≤ 6 * k ∧ R.length ≤ k ∧ Hid (KFo false 10 k S R)) (fun _ _ v12 _ => L - (intOf v12).toNat)
  case atStart => exact ⟨SH, [], 0, rfl, rfl, OutT.nil _ _, hbw0, Nat.zero_le _, hSHs, Nat.zero_le _, Nat.zero_le _, Lib.hid (.inl ⟨rfl, rfl, HSH.out⟩)⟩
  case round =>
    obtain ⟨S, R, k, rfl, rfl, ho, hb, hk, hSs, hRt, hRl, HK⟩ := hrel
    by_cases hk2 : k < L
    · obtain ⟨bb, oo, rfl, hlt, hcc⟩ := IsInts.at h1 HL.out.symm (by omega)
      have g1 := hcc k hk2
      rw [← hb.cell (p := ⟨bb, oo + k, none⟩) hlt] at g1
      obtain ⟨x, hx⟩ : ∃ x, x = ks.getD k 0 := ⟨_, rfl⟩
      rw [← hx] at g1
      obtain ⟨wd, hwd⟩ : ∃ wd, word x = wd := ⟨_, rfl⟩
      have hmw : wd ∈ wordL := by rw [← hwd]; exact word_mem x
      have hwl := (fol_word wd hmw).2.2.2
      have CW := fun W => WordOf_is wd x W hwd
      obtain ⟨WB, hWB⟩ : ∃ WB : ByteArray, (⟨wd.toArray⟩ : ByteArray) = WB := ⟨_, rfl⟩
      have hWBs : WB.size = wd.length := by rw [← hWB]; exact size_mk wd
      rw [hWB] at CW
      have step0 := HK.out.step (by omega) wd hmw 0 (fun _ => rfl)
      obtain ⟨S0, hS0⟩ : ∃ S0 : ByteArray, S ++ (⟨#[32, 32, 32]⟩ : ByteArray) ++ WB ++ (⟨#[10]⟩ : ByteArray) = S0 := ⟨_, rfl⟩
      have hS0e : S ++ mkB (blanksB (3 + 0) ++ wd ++ [10]) = S0 := by
        rw [← hS0, ← hWB, ← mkB_append, ← mkB_append, ByteArray.append_assoc, ByteArray.append_assoc, ByteArray.append_assoc]
        rfl
      have hS0s : S0.size ≤ 12 + 9 * (k + 1) := by
        rw [← hS0, ByteArray.size_append, ByteArray.size_append, ByteArray.size_append, hWBs]
        show S.size + 3 + wd.length + 1 ≤ _
        omega
      rw [hS0e] at step0
      have S0H : Hid (KFo false 10 (k + 1) S0 (R ++ [wd])) := step0
      have hw1 : U.tot (R ++ [wd]) ≤ 6 * (k + 1) := by rw [U.tot_append]; simp only [U.tot]; omega
      have hw2 : (R ++ [wd]).length ≤ k + 1 := by rw [List.length_append]; show R.length + 1 ≤ _; omega
      have hR9 : R.length ≤ 1000000000 := by omega
      have hWB3 : WB.size ≤ 3 := by omega
      have hS100 : S.size ≤ 100 := by omega
      clear hS0e step0 hcc hx hwd
      by_cases hk0 : k = 0
      · have hk1 : ¬ (0 < (k : Int)) := by omega
        have hk1b : decide (0 < (k : Int)) = false := decide_eq_false hk1
        clear hk0 HK hmw hwl hWBs
        go_wp2_with fail
        refine (CW _).mono ?_
        rintro e w3 ⟨rfl, hb3⟩
        have o3 := ho.below hb3
        have b3 := hb.trans (hb3.mono hb.size)
        go_wp2_with (at_builtin; refine appendOneW w3 wd WB hWB rfl _ _ rfl w.heap.size w _ _ rfl rfl o3 b3 hR9 (Nat.le_refl _) ?_; intro v5 w5 o5 b5)
        go_roundw
        case rel => exact ⟨S0, R ++ [wd], k + 1, rfl, by go_num, o5, b5, by omega, hS0s, hw1, hw2, S0H⟩
        case measure => simp [intOf]; omega
      · have hk1 : 0 < (k : Int) := by omega
        by_cases hkM : k < M
        · obtain ⟨b2, o2, rfl, hlt2, hc2⟩ := IsBools.at h2 HM.out.symm (by omega)
          have g2 : ∀ W, Below w.heap.size w W → W.cell? ⟨b2, o2 + k, none⟩ = some (.bool (bs.getD k false)) := fun W hW => (hW.cell (p := ⟨b2, o2 + k, none⟩) hlt2).trans (hc2 k hkM)
          have hkM2 : (k : Int) < M := by omega
          obtain ⟨q, hq⟩ : ∃ q, q = bs.getD k false := ⟨_, rfl⟩
          rw [← hq] at g2
          clear hq hc2
          cases q
          · clear hk0 HK hmw hwl hWBs
            go_wp2_with fail
            refine (CW _).mono ?_
            rintro e w3 ⟨rfl, hb3⟩
            have o3 := ho.below hb3
            have b3 := hb.trans (hb3.mono hb.size)
            have g3 := g2 w3 b3
            go_wp2_with (at_builtin; refine appendOneW w3 wd WB hWB rfl _ _ rfl w.heap.size w _ _ rfl rfl o3 b3 hR9 (Nat.le_refl _) ?_; intro v5 w5 o5 b5)
            go_roundw
            case rel => exact ⟨S0, R ++ [wd], k + 1, rfl, by go_num, o5, b5, by omega, hS0s, hw1, hw2, S0H⟩
            case measure => simp [intOf]; omega
          · have step2 := HK.out.step (by omega) wd hmw 2 (fun h => absurd h hk0)
            obtain ⟨WB2, hWBe⟩ : ∃ WB2 : ByteArray, (⟨#[32, 32]⟩ : ByteArray) ++ WB = WB2 := ⟨_, rfl⟩
            have hWB2 : (⟨(blanksB 2 ++ wd).toArray⟩ : ByteArray) = WB2 := by
              rw [← hWBe, ← hWB]
              exact (mkB_append (blanksB 2) wd).symm
            have hWB2s : WB2.size = wd.length + 2 := by
              rw [← hWBe, ByteArray.size_append, hWBs, Nat.add_comm]
              rfl
            obtain ⟨S2, hS2⟩ : ∃ S2 : ByteArray, S ++ (⟨#[32, 32, 32]⟩ : ByteArray) ++ WB2 ++ (⟨#[10]⟩ : ByteArray) = S2 := ⟨_, rfl⟩
            have hS2e : S ++ mkB (blanksB (3 + 2) ++ wd ++ [10]) = S2 := by
              rw [← hS2, ← hWB2, ← mkB_append]
              show _ = _ ++ mkB _ ++ _
              rw [show blanksB (3 + 2) = blanksB 3 ++ blanksB 2 from rfl, List.append_assoc, ← mkB_append, ByteArray.append_assoc, ByteArray.append_assoc, ByteArray.append_assoc]
              rfl
            have hS2s : S2.size ≤ 12 + 9 * (k + 1) := by
              rw [← hS2, ByteArray.size_append, ByteArray.size_append, ByteArray.size_append, hWB2s]
              show S.size + 3 + (wd.length + 2) + 1 ≤ _
              omega
            rw [hS2e] at step2
            have S2H : Hid (KFo false 10 (k + 1) S2 (R ++ [blanksB 2 ++ wd])) := Lib.hid step2
            have hbl : (blanksB 2 ++ wd).length = 2 + wd.length := List.length_append
            have hw3 : U.tot (R ++ [blanksB 2 ++ wd]) ≤ 6 * (k + 1) := by rw [U.tot_append]; simp only [U.tot, hbl]; omega
            have hw4 : (R ++ [blanksB 2 ++ wd]).length ≤ k + 1 := by rw [List.length_append]; show R.length + 1 ≤ _; omega
            have hWB23 : WB2.size ≤ 5 := by omega
            clear step2 hS2e hbl hWB2s hk0 HK hmw hwl hWBs
            go_wp2_with fail
            refine (CW _).mono ?_
            rintro e w3 ⟨rfl, hb3⟩
            have o3 := ho.below hb3
            have b3 := hb.trans (hb3.mono hb.size)
            have g3 := g2 w3 b3
            go_wp2_with (at_builtin; refine appendOneW w3 (blanksB 2 ++ wd) WB2 hWB2 rfl _ _ rfl w.heap.size w _ _ rfl rfl o3 b3 hR9 (Nat.le_refl _) ?_; intro v5 w5 o5 b5)
            go_roundw
            case rel => exact ⟨S2, R ++ [blanksB 2 ++ wd], k + 1, rfl, by go_num, o5, b5, by omega, hS2s, hw3, hw4, S2H⟩
            case measure => simp [intOf]; omega
        · have hkM2 : ¬ ((k : Int) < M) := by omega
          have hkM3 : decide ((k : Int) < M) = false := decide_eq_false hkM2
          clear hk0 HK hmw hwl hWBs
          go_wp2_with fail
          refine (CW _).mono ?_
          rintro e w3 ⟨rfl, hb3⟩
          have o3 := ho.below hb3
          have b3 := hb.trans (hb3.mono hb.size)
          go_wp2_with (at_builtin; refine appendOneW w3 wd WB hWB rfl _ _ rfl w.heap.size w _ _ rfl rfl o3 b3 hR9 (Nat.le_refl _) ?_; intro v5 w5 o5 b5)
          go_roundw
          case rel => exact ⟨S0, R ++ [wd], k + 1, rfl, by go_num, o5, b5, by omega, hS0s, hw1, hw2, S0H⟩
          case measure => simp [intOf]; omega
    · obtain rfl : k = L := by omega
      have hZ := HK.out.done (by omega)
      obtain ⟨T1, hT1⟩ : ∃ T1, U.blkT R = T1 := ⟨_, rfl⟩
      have hT1s : T1.length ≤ 2000 := by
        have := blockT_len true R
        rw [← hT1]
        unfold U.blockT at this
        rw [if_pos rfl] at this
        omega
      rw [hT1] at hZ
      have e0 : T1 ++ U.feeds (if false = true then 0 else 1) = T1 ++ [10] := rfl
      rw [e0] at hZ
      rw [show (decide (10 < 10)) = false from rfl, if_neg (by decide)] at hZ
      have CK := fun W => K.read 5 (T1 ++ [10]) false [] (S.size : Int) 0 S 0 2 W (by omega) hZ
      obtain ⟨TB, hTB⟩ : ∃ TB : ByteArray, (⟨T1.toArray⟩ : ByteArray) = TB := ⟨_, rfl⟩
      have hTBs : TB.size ≤ 2000 := by rw [← hTB, size_mk]; exact hT1s
      have CF := foldBlock_folded T1 _ R _ ho.is (by omega) hT1
      rw [hTB] at CF
      obtain ⟨TX, hTXe⟩ : ∃ TX : ByteArray, TB ++ (⟨#[10]⟩ : ByteArray) = TX := ⟨_, rfl⟩
      have hTX : (⟨(T1 ++ [10]).toArray⟩ : ByteArray) = TX := by rw [← hTXe, ← hTB]; exact (mkB_append T1 [10]).symm
      have eK : nodeK 0 5 0 (T1 ++ [10]) false [] = nodeL 1 5 0 TX false ⟨#[]⟩ := by rw [← hTX]; rfl
      rw [eK] at CK
      have hl6 : ∀ W : World, (W.alloc (.cells (nodeL 1 5 0 TX false ⟨#[]⟩) 33)).cell? ⟨W.heap.size, 6, none⟩ = some (.string TX) := fun W => by rw [World.cell?_alloc_mark]; rfl
      have hl1 : ∀ W : World, (W.alloc (.cells (nodeL 1 5 0 TX false ⟨#[]⟩) 33)).cell? ⟨W.heap.size, 1, none⟩ = some (.int .i64 5) := fun W => by rw [World.cell?_alloc_mark]; rfl
      have hl10 : ∀ W : World, (W.alloc (.cells (nodeL 1 5 0 TX false ⟨#[]⟩) 33)).cell? ⟨W.heap.size, 10, none⟩ = some (.bool false) := fun W => by rw [World.cell?_alloc_mark]; rfl
      have hl11 : ∀ W : World, (W.alloc (.cells (nodeL 1 5 0 TX false ⟨#[]⟩) 33)).cell? ⟨W.heap.size, 11, none⟩ = some (.string ⟨#[]⟩) := fun W => by rw [World.cell?_alloc_mark]; rfl
      unfold nodeL at CK hl6 hl1 hl10 hl11
      clear hZ e0 hTX hTB hT1s hT1 eK HK
      go_wp2_with fail
      refine CF.mono ?_
      rintro e w2 ⟨rfl, hb2⟩
      have hc2 := hb.trans (hb2.mono hb.size)
      go_wp2_with fail
      refine (CK _).mono ?_
      rintro e w3 ⟨rfl, hb3⟩
      have hc3 := hc2.trans (hb3.mono hc2.size)
      have g6 := hl6 w3
      have g1 := hl1 w3
      have g10 := hl10 w3
      have g11 := hl11 w3
      go_wp2_with fail
      have hc4 := hc3.alloc hc3.size (.cells (nodeL 1 5 0 TX false ⟨#[]⟩) 33)
      unfold nodeL at hc4
      obtain ⟨WR, hWR⟩ : ∃ W, W = w3.alloc (.cells #[.int .i64 1, .int .i64 5, .int .i64 0, .int .i64 0, .string ⟨#[]⟩, .string ⟨#[]⟩, .string TX, .slice none 0 0, .slice none 0 0, .slice none 0 0, .bool false, .string ⟨#[]⟩] 33) := ⟨_, rfl⟩
      rw [← hWR] at hc4 g6 g1 g10 g11 ⊢
      have hwz : w3.heap.size < WR.heap.size := by rw [hWR]; simp
      clear hWR hl6 hl1 hl10 hl11 hc3 hb3 hc2 hb2 hb CK CF ho h1 h2 c1 c2 d1 d2 CZ hbw0 hSs hRt hRl
      go_quiet (fail)
      have hbd := below_drewN hc4 nq
      clear hc4
      go_wp2_with fail
      refine (awake13_true K _).mono ?_
      rintro e w6 ⟨rfl, hb6⟩
      go_wp2
      go_ret
      exact ⟨rfl, hbd.trans (hb6.mono hbd.size)⟩
set_option maxRecDepth 100000 in
set_option maxHeartbeats 12800000 in
theorem BlocFolds_nc (K : BlocC) (v1 v2 : Value) (ks : List Int) (bs : List Bool) (note : Int) (z : Nat) (w : World) (h1 : IsInts .i64 w.heap.size w v1 ks) (h2 : IsBools w.heap.size w v2 bs) (hL1 : 1 ≤ ks.length) (hL8 : ks.length ≤ 8) (hz : lowZ note 11 = (z : Int)) (hzb : z < 10) :
    Calls Tryd.prog 6 #[v1, v2, .int .i64 note, .bool false] w fun e w' => e = .returned (.bool true) ∧ Below w.heap.size w w' := by
  obtain ⟨ao1, cap1, rfl, c1, d1⟩ := h1.slice
  obtain ⟨ao2, cap2, rfl, c2, d2⟩ := h2.slice
  unfold maxLen at d1 d2
  obtain ⟨L, hL⟩ : ∃ L, L = ks.length := ⟨_, rfl⟩
  obtain ⟨M, hM⟩ : ∃ M, M = bs.length := ⟨_, rfl⟩
  have HL := Lib.hid hL
  have HM := Lib.hid hM
  rw [← hL] at h1 c1 hL1 hL8 ⊢
  rw [← hM] at h2 c2 ⊢
  clear hL hM
  have CZ := fun W => Low_is (z : Int) note 11 W (by omega) (by omega) hz
  clear hz
  obtain ⟨nl, hnl⟩ : ∃ nl, nl = wordL.getD z [] := ⟨_, rfl⟩
  have hmem : nl ∈ wordL := by
    rw [hnl]
    simp only [List.getD]
    rw [List.getElem?_eq_getElem (by show z < 10; exact hzb), Option.getD_some]
    exact List.getElem_mem _
  have hnls := (fol_word nl hmem).2.2.2
  have CN := fun W => WordOf_is nl (z : Int) W ((word_self z hzb).trans hnl.symm)
  obtain ⟨NB, hNB⟩ : ∃ NB : ByteArray, (⟨nl.toArray⟩ : ByteArray) = NB := ⟨_, rfl⟩
  have hNBs : NB.size ≤ 3 := by rw [← hNB, size_mk]; exact hnls
  rw [hNB] at CN
  obtain ⟨SH, hSH⟩ : ∃ SH : ByteArray, (⟨#[62]⟩ : ByteArray) ++ (⟨#[32, 32, 35]⟩ : ByteArray) ++ NB ++ (⟨#[32]⟩ : ByteArray) ++ (⟨#[10]⟩ : ByteArray) = SH := ⟨_, rfl⟩
  have hSH2 : SH = mkB (folH false z) := by
    rw [← hSH, ← hNB]
    unfold folH
    rw [if_pos hzb, ← hnl]
    show mkB _ ++ mkB _ ++ mkB nl ++ mkB _ ++ mkB _ = _
    rw [mkB_append, mkB_append, mkB_append, mkB_append]
    simp
  have hSHs : SH.size ≤ 12 := by rw [hSH2, mkB_size]; exact fol_len false z (by omega)
  have HNL := Lib.hid hnl
  have HNB := Lib.hid hNB
  clear hnl hmem hnls hNB
  have hz10 : (z : Int) < 10 := by omega
  have hzn : ((z : Int) == 10) = false := by rw [beq_eq_false_iff_ne]; omega
  have HSH := Lib.hid hSH2
  clear hSH2
  have hbw0 : Below w.heap.size w w := Below.refl _ _
  go_enter Tryd.func6, Tryd.ntmps6
  go_wp2_with fail
  refine (CZ _).mono ?_
  rintro e w9 ⟨rfl, rfl⟩
  go_wp2_with fail
  refine (CN _).mono ?_
  rintro e w0 ⟨rfl, hbw0⟩
  go_wp2
  go_loopw [9, 11, 12] (fun v9 v11 v12 wr => ∃ (S : ByteArray) (R : List (List UInt8)) (k : Nat), v9 = .string S ∧ v12 = .int .i64 (k : Int) ∧ OutT w.heap.size wr v11 R ∧ Below w.heap.size w wr ∧ k ≤ L ∧ S.size ≤ 12 + 9 * k ∧ U.tot R ≤ 6 * k ∧ R.length ≤ k ∧ Hid (KFo false z k S R)) (fun _ _ v12 _ => L - (intOf v12).toNat)
  case atStart => exact ⟨SH, [], 0, rfl, rfl, OutT.nil _ _, hbw0, Nat.zero_le _, hSHs, Nat.zero_le _, Nat.zero_le _, Lib.hid (.inl ⟨rfl, rfl, HSH.out⟩)⟩
  case round =>
    obtain ⟨S, R, k, rfl, rfl, ho, hb, hk, hSs, hRt, hRl, HK⟩ := hrel
    by_cases hk2 : k < L
    · obtain ⟨bb, oo, rfl, hlt, hcc⟩ := IsInts.at h1 HL.out.symm (by omega)
      have g1 := hcc k hk2
      rw [← hb.cell (p := ⟨bb, oo + k, none⟩) hlt] at g1
      obtain ⟨x, hx⟩ : ∃ x, x = ks.getD k 0 := ⟨_, rfl⟩
      rw [← hx] at g1
      obtain ⟨wd, hwd⟩ : ∃ wd, word x = wd := ⟨_, rfl⟩
      have hmw : wd ∈ wordL := by rw [← hwd]; exact word_mem x
      have hwl := (fol_word wd hmw).2.2.2
      have CW := fun W => WordOf_is wd x W hwd
      obtain ⟨WB, hWB⟩ : ∃ WB : ByteArray, (⟨wd.toArray⟩ : ByteArray) = WB := ⟨_, rfl⟩
      have hWBs : WB.size = wd.length := by rw [← hWB]; exact size_mk wd
      rw [hWB] at CW
      have step0 := HK.out.step (by omega) wd hmw 0 (fun _ => rfl)
      obtain ⟨S0, hS0⟩ : ∃ S0 : ByteArray, S ++ (⟨#[32, 32, 32]⟩ : ByteArray) ++ WB ++ (⟨#[10]⟩ : ByteArray) = S0 := ⟨_, rfl⟩
      have hS0e : S ++ mkB (blanksB (3 + 0) ++ wd ++ [10]) = S0 := by
        rw [← hS0, ← hWB, ← mkB_append, ← mkB_append, ByteArray.append_assoc, ByteArray.append_assoc, ByteArray.append_assoc]
        rfl
      have hS0s : S0.size ≤ 12 + 9 * (k + 1) := by
        rw [← hS0, ByteArray.size_append, ByteArray.size_append, ByteArray.size_append, hWBs]
        show S.size + 3 + wd.length + 1 ≤ _
        omega
      rw [hS0e] at step0
      have S0H : Hid (KFo false z (k + 1) S0 (R ++ [wd])) := step0
      have hw1 : U.tot (R ++ [wd]) ≤ 6 * (k + 1) := by rw [U.tot_append]; simp only [U.tot]; omega
      have hw2 : (R ++ [wd]).length ≤ k + 1 := by rw [List.length_append]; show R.length + 1 ≤ _; omega
      have hR9 : R.length ≤ 1000000000 := by omega
      have hWB3 : WB.size ≤ 3 := by omega
      have hS100 : S.size ≤ 100 := by omega
      clear hS0e step0 hcc hx hwd
      by_cases hk0 : k = 0
      · have hk1 : ¬ (0 < (k : Int)) := by omega
        have hk1b : decide (0 < (k : Int)) = false := decide_eq_false hk1
        clear hk0 HK hmw hwl hWBs
        go_wp2_with fail
        refine (CW _).mono ?_
        rintro e w3 ⟨rfl, hb3⟩
        have o3 := ho.below hb3
        have b3 := hb.trans (hb3.mono hb.size)
        go_wp2_with (at_builtin; refine appendOneW w3 wd WB hWB rfl _ _ rfl w.heap.size w _ _ rfl rfl o3 b3 hR9 (Nat.le_refl _) ?_; intro v5 w5 o5 b5)
        go_roundw
        case rel => exact ⟨S0, R ++ [wd], k + 1, rfl, by go_num, o5, b5, by omega, hS0s, hw1, hw2, S0H⟩
        case measure => simp [intOf]; omega
      · have hk1 : 0 < (k : Int) := by omega
        by_cases hkM : k < M
        · obtain ⟨b2, o2, rfl, hlt2, hc2⟩ := IsBools.at h2 HM.out.symm (by omega)
          have g2 : ∀ W, Below w.heap.size w W → W.cell? ⟨b2, o2 + k, none⟩ = some (.bool (bs.getD k false)) := fun W hW => (hW.cell (p := ⟨b2, o2 + k, none⟩) hlt2).trans (hc2 k hkM)
          have hkM2 : (k : Int) < M := by omega
          obtain ⟨q, hq⟩ : ∃ q, q = bs.getD k false := ⟨_, rfl⟩
          rw [← hq] at g2
          clear hq hc2
          cases q
          · clear hk0 HK hmw hwl hWBs
            go_wp2_with fail
            refine (CW _).mono ?_
            rintro e w3 ⟨rfl, hb3⟩
            have o3 := ho.below hb3
            have b3 := hb.trans (hb3.mono hb.size)
            have g3 := g2 w3 b3
            go_wp2_with (at_builtin; refine appendOneW w3 wd WB hWB rfl _ _ rfl w.heap.size w _ _ rfl rfl o3 b3 hR9 (Nat.le_refl _) ?_; intro v5 w5 o5 b5)
            go_roundw
            case rel => exact ⟨S0, R ++ [wd], k + 1, rfl, by go_num, o5, b5, by omega, hS0s, hw1, hw2, S0H⟩
            case measure => simp [intOf]; omega
          · have step2 := HK.out.step (by omega) wd hmw 2 (fun h => absurd h hk0)
            obtain ⟨WB2, hWBe⟩ : ∃ WB2 : ByteArray, (⟨#[32, 32]⟩ : ByteArray) ++ WB = WB2 := ⟨_, rfl⟩
            have hWB2 : (⟨(blanksB 2 ++ wd).toArray⟩ : ByteArray) = WB2 := by
              rw [← hWBe, ← hWB]
              exact (mkB_append (blanksB 2) wd).symm
            have hWB2s : WB2.size = wd.length + 2 := by
              rw [← hWBe, ByteArray.size_append, hWBs, Nat.add_comm]
              rfl
            obtain ⟨S2, hS2⟩ : ∃ S2 : ByteArray, S ++ (⟨#[32, 32, 32]⟩ : ByteArray) ++ WB2 ++ (⟨#[10]⟩ : ByteArray) = S2 := ⟨_, rfl⟩
            have hS2e : S ++ mkB (blanksB (3 + 2) ++ wd ++ [10]) = S2 := by
              rw [← hS2, ← hWB2, ← mkB_append]
              show _ = _ ++ mkB _ ++ _
              rw [show blanksB (3 + 2) = blanksB 3 ++ blanksB 2 from rfl, List.append_assoc, ← mkB_append, ByteArray.append_assoc, ByteArray.append_assoc, ByteArray.append_assoc]
              rfl
            have hS2s : S2.size ≤ 12 + 9 * (k + 1) := by
              rw [← hS2, ByteArray.size_append, ByteArray.size_append, ByteArray.size_append, hWB2s]
              show S.size + 3 + (wd.length + 2) + 1 ≤ _
              omega
            rw [hS2e] at step2
            have S2H : Hid (KFo false z (k + 1) S2 (R ++ [blanksB 2 ++ wd])) := Lib.hid step2
            have hbl : (blanksB 2 ++ wd).length = 2 + wd.length := List.length_append
            have hw3 : U.tot (R ++ [blanksB 2 ++ wd]) ≤ 6 * (k + 1) := by rw [U.tot_append]; simp only [U.tot, hbl]; omega
            have hw4 : (R ++ [blanksB 2 ++ wd]).length ≤ k + 1 := by rw [List.length_append]; show R.length + 1 ≤ _; omega
            have hWB23 : WB2.size ≤ 5 := by omega
            clear step2 hS2e hbl hWB2s hk0 HK hmw hwl hWBs
            go_wp2_with fail
            refine (CW _).mono ?_
            rintro e w3 ⟨rfl, hb3⟩
            have o3 := ho.below hb3
            have b3 := hb.trans (hb3.mono hb.size)
            have g3 := g2 w3 b3
            go_wp2_with (at_builtin; refine appendOneW w3 (blanksB 2 ++ wd) WB2 hWB2 rfl _ _ rfl w.heap.size w _ _ rfl rfl o3 b3 hR9 (Nat.le_refl _) ?_; intro v5 w5 o5 b5)
            go_roundw
            case rel => exact ⟨S2, R ++ [blanksB 2 ++ wd], k + 1, rfl, by go_num, o5, b5, by omega, hS2s, hw3, hw4, S2H⟩
            case measure => simp [intOf]; omega
        · have hkM2 : ¬ ((k : Int) < M) := by omega
          have hkM3 : decide ((k : Int) < M) = false := decide_eq_false hkM2
          clear hk0 HK hmw hwl hWBs
          go_wp2_with fail
          refine (CW _).mono ?_
          rintro e w3 ⟨rfl, hb3⟩
          have o3 := ho.below hb3
          have b3 := hb.trans (hb3.mono hb.size)
          go_wp2_with (at_builtin; refine appendOneW w3 wd WB hWB rfl _ _ rfl w.heap.size w _ _ rfl rfl o3 b3 hR9 (Nat.le_refl _) ?_; intro v5 w5 o5 b5)
          go_roundw
          case rel => exact ⟨S0, R ++ [wd], k + 1, rfl, by go_num, o5, b5, by omega, hS0s, hw1, hw2, S0H⟩
          case measure => simp [intOf]; omega
    · obtain rfl : k = L := by omega
      have hZ := HK.out.done (by omega)
      obtain ⟨T1, hT1⟩ : ∃ T1, U.blkT R = T1 := ⟨_, rfl⟩
      have hT1s : T1.length ≤ 2000 := by
        have := blockT_len true R
        rw [← hT1]
        unfold U.blockT at this
        rw [if_pos rfl] at this
        omega
      rw [hT1] at hZ
      have e0 : T1 ++ U.feeds (if false = true then 0 else 1) = T1 ++ [10] := rfl
      rw [e0] at hZ
      rw [decide_eq_true hzb, if_pos hzb, ← HNL.out] at hZ
      have CK := fun W => K.read 5 (T1 ++ [10]) true nl (S.size : Int) 0 S 0 2 W (by omega) hZ
      obtain ⟨TB, hTB⟩ : ∃ TB : ByteArray, (⟨T1.toArray⟩ : ByteArray) = TB := ⟨_, rfl⟩
      have hTBs : TB.size ≤ 2000 := by rw [← hTB, size_mk]; exact hT1s
      have CF := foldBlock_folded T1 _ R _ ho.is (by omega) hT1
      rw [hTB] at CF
      obtain ⟨TX, hTXe⟩ : ∃ TX : ByteArray, TB ++ (⟨#[10]⟩ : ByteArray) = TX := ⟨_, rfl⟩
      have hTX : (⟨(T1 ++ [10]).toArray⟩ : ByteArray) = TX := by rw [← hTXe, ← hTB]; exact (mkB_append T1 [10]).symm
      have eK : nodeK 0 5 0 (T1 ++ [10]) true nl = nodeL 1 5 0 TX true NB := by rw [← hTX, ← HNB.out]; rfl
      rw [eK] at CK
      have hl6 : ∀ W : World, (W.alloc (.cells (nodeL 1 5 0 TX true NB) 33)).cell? ⟨W.heap.size, 6, none⟩ = some (.string TX) := fun W => by rw [World.cell?_alloc_mark]; rfl
      have hl1 : ∀ W : World, (W.alloc (.cells (nodeL 1 5 0 TX true NB) 33)).cell? ⟨W.heap.size, 1, none⟩ = some (.int .i64 5) := fun W => by rw [World.cell?_alloc_mark]; rfl
      have hl10 : ∀ W : World, (W.alloc (.cells (nodeL 1 5 0 TX true NB) 33)).cell? ⟨W.heap.size, 10, none⟩ = some (.bool true) := fun W => by rw [World.cell?_alloc_mark]; rfl
      have hl11 : ∀ W : World, (W.alloc (.cells (nodeL 1 5 0 TX true NB) 33)).cell? ⟨W.heap.size, 11, none⟩ = some (.string NB) := fun W => by rw [World.cell?_alloc_mark]; rfl
      unfold nodeL at CK hl6 hl1 hl10 hl11
      clear hZ e0 hTX hTB hT1s hT1 eK HK
      go_wp2_with fail
      refine CF.mono ?_
      rintro e w2 ⟨rfl, hb2⟩
      have hc2 := hb.trans (hb2.mono hb.size)
      go_wp2_with fail
      refine (CK _).mono ?_
      rintro e w3 ⟨rfl, hb3⟩
      have hc3 := hc2.trans (hb3.mono hc2.size)
      have g6 := hl6 w3
      have g1 := hl1 w3
      have g10 := hl10 w3
      have g11 := hl11 w3
      go_wp2_with fail
      have hc4 := hc3.alloc hc3.size (.cells (nodeL 1 5 0 TX true NB) 33)
      unfold nodeL at hc4
      obtain ⟨WR, hWR⟩ : ∃ W, W = w3.alloc (.cells #[.int .i64 1, .int .i64 5, .int .i64 0, .int .i64 0, .string ⟨#[]⟩, .string ⟨#[]⟩, .string TX, .slice none 0 0, .slice none 0 0, .slice none 0 0, .bool true, .string NB] 33) := ⟨_, rfl⟩
      rw [← hWR] at hc4 g6 g1 g10 g11 ⊢
      have hwz : w3.heap.size < WR.heap.size := by rw [hWR]; simp
      clear hWR hl6 hl1 hl10 hl11 hc3 hb3 hc2 hb2 hb CK CF ho h1 h2 c1 c2 d1 d2 CZ hbw0 hSs hRt hRl
      have hz10b : decide ((z : Int) < 10) = true := decide_eq_true hz10
      have hzne : ¬ ((z : Int) = 10) := by omega
      have hznd : decide ((z : Int) = 10) = false := decide_eq_false hzne
      obtain ⟨ab, hab⟩ : ∃ ab, w3.heap.size = ab := ⟨_, rfl⟩
      rw [hab] at g6 g1 g10 g11 hwz ⊢
      have CNS : ∀ W : World, (W.cell? ⟨ab, 10, none⟩ = some (.bool true) ∧ W.cell? ⟨ab, 11, none⟩ = some (.string NB) ∧ W.cell? ⟨ab, 6, none⟩ = some (.string TX) ∧ W.cell? ⟨ab, 1, none⟩ = some (.int .i64 5) ∧ ab < W.heap.size ∧ Below w.heap.size w W) → Calls Tryd.prog 13 #[.int .i64 (z : Int)] W fun e w' => e = .returned (.string NB) ∧ (w'.cell? ⟨ab, 10, none⟩ = some (.bool true) ∧ w'.cell? ⟨ab, 11, none⟩ = some (.string NB) ∧ w'.cell? ⟨ab, 6, none⟩ = some (.string TX) ∧ w'.cell? ⟨ab, 1, none⟩ = some (.int .i64 5) ∧ ab < w'.heap.size ∧ Below w.heap.size w w') := fun W ⟨k1, k2, k3, k4, k5, k6⟩ => (CN W).mono fun e w' h => ⟨h.1, (h.2.cell (p := ⟨ab, 10, none⟩) k5).trans k1, (h.2.cell (p := ⟨ab, 11, none⟩) k5).trans k2, (h.2.cell (p := ⟨ab, 6, none⟩) k5).trans k3, (h.2.cell (p := ⟨ab, 1, none⟩) k5).trans k4, Nat.lt_of_lt_of_le k5 h.2.size, k6.trans (h.2.mono k6.size)⟩
      clear CN hab
      go_upto_region 23 with fail
      go_cut [109] (fun v109 wx => v109 = .bool false ∧ wx.cell? ⟨ab, 10, none⟩ = some (.bool true) ∧ wx.cell? ⟨ab, 11, none⟩ = some (.string NB) ∧ wx.cell? ⟨ab, 6, none⟩ = some (.string TX) ∧ wx.cell? ⟨ab, 1, none⟩ = some (.int .i64 5) ∧ ab < wx.heap.size ∧ Below w.heap.size w wx)
      case first =>
        have hs0 : WR.drew.cell? ⟨ab, 10, none⟩ = some (.bool true) ∧ WR.drew.cell? ⟨ab, 11, none⟩ = some (.string NB) ∧ WR.drew.cell? ⟨ab, 6, none⟩ = some (.string TX) ∧ WR.drew.cell? ⟨ab, 1, none⟩ = some (.int .i64 5) ∧ ab < WR.drew.heap.size ∧ Below w.heap.size w WR.drew := ⟨by simpa using g10, by simpa using g11, by simpa using g6, by simpa using g1, by simpa using hwz, below_drewN hc4 1⟩
        refine wp_region_noPanic ?_
        refine wp_region_held_drew (S := fun w' => w'.cell? ⟨ab, 10, none⟩ = some (.bool true) ∧ w'.cell? ⟨ab, 11, none⟩ = some (.string NB) ∧ w'.cell? ⟨ab, 6, none⟩ = some (.string TX) ∧ w'.cell? ⟨ab, 1, none⟩ = some (.int .i64 5) ∧ ab < w'.heap.size ∧ Below w.heap.size w w') (by kernel_rfl) ?_ (fun hHeld => ?_)
        · exact hs0
        refine wpAnyH_take (i := 0) (v := ?_) rfl (by kernel_rfl) (by kernel_rfl) (by kernel_rfl) (fun _ _ _ h => h) (Or.inl ⟨by rfl, ?_⟩) (by assumption) ?_
        rotate_left
        · (intro w hSw; (try dsimp only at hSw); go_simp <;> with_reducible rfl)
        simp only [List.getElem_toArray, List.getElem_cons_zero, Act.put, List.setIfInBounds_toArray, List.set_cons_zero, List.set_cons_succ]
        refine wpAnyH_take (i := 1) (v := ?_) rfl (by kernel_rfl) (by kernel_rfl) (by kernel_rfl) (fun _ _ _ h => h) (Or.inl ⟨by rfl, ?_⟩) (by assumption) ?_
        rotate_left
        · (intro w hSw; (try dsimp only at hSw); go_simp <;> with_reducible rfl)
        simp only [List.getElem_toArray, List.getElem_cons_zero, List.getElem_cons_succ, Act.put, List.setIfInBounds_toArray, List.set_cons_zero, List.set_cons_succ]
        refine wpAnyH_take (i := 2) (v := ?_) rfl (by kernel_rfl) (by kernel_rfl) (by kernel_rfl) (fun _ _ _ h => h) (Or.inl ⟨by rfl, ?_⟩) (by assumption) ?_
        rotate_left
        · (intro w hSw; (try dsimp only at hSw); go_simp <;> with_reducible rfl)
        simp only [List.getElem_toArray, List.getElem_cons_zero, List.getElem_cons_succ, Act.put, List.setIfInBounds_toArray, List.set_cons_zero, List.set_cons_succ]
        refine wpAnyH_take (i := 3) (v := ?_) rfl (by kernel_rfl) (by kernel_rfl) (by kernel_rfl) (fun _ _ _ h => h) (Or.inl ⟨by rfl, ?_⟩) (by assumption) ?_
        rotate_left
        · (intro w hSw; (try dsimp only at hSw); go_simp <;> with_reducible rfl)
        simp only [List.getElem_toArray, List.getElem_cons_zero, List.getElem_cons_succ, Act.put, List.setIfInBounds_toArray, List.set_cons_zero, List.set_cons_succ]
        refine wpAnyH_take (i := 4) (v := ?_) rfl (by kernel_rfl) (by kernel_rfl) (by kernel_rfl) (fun _ _ _ h => h) (Or.inl ⟨by rfl, ?_⟩) (by assumption) ?_
        rotate_left
        · (intro w hSw; (try dsimp only at hSw); go_simp <;> with_reducible rfl)
        simp only [List.getElem_toArray, List.getElem_cons_zero, List.getElem_cons_succ, Act.put, List.setIfInBounds_toArray, List.set_cons_zero, List.set_cons_succ]
        refine wpAnyH_take (i := 5) (v := ?_) rfl (by kernel_rfl) (by kernel_rfl) (by kernel_rfl) (fun _ _ _ h => h) (Or.inl ⟨by rfl, ?_⟩) (by assumption) ?_
        rotate_left
        · (intro w hSw; (try dsimp only at hSw); go_simp <;> with_reducible rfl)
        simp only [List.getElem_toArray, List.getElem_cons_zero, List.getElem_cons_succ, Act.put, List.setIfInBounds_toArray, List.set_cons_zero, List.set_cons_succ]
        refine wpAnyH_take (i := 6) (v := ?_) rfl (by kernel_rfl) (by kernel_rfl) (by kernel_rfl) (fun _ _ _ h => h) (Or.inl ⟨by rfl, ?_⟩) (by assumption) ?_
        rotate_left
        · (intro w hSw; (try dsimp only at hSw); go_simp <;> with_reducible rfl)
        simp only [List.getElem_toArray, List.getElem_cons_zero, List.getElem_cons_succ, Act.put, List.setIfInBounds_toArray, List.set_cons_zero, List.set_cons_succ]
        refine wpAnyH_take (i := 7) (v := ?_) rfl (by kernel_rfl) (by kernel_rfl) (by kernel_rfl) (fun _ _ _ h => h) (Or.inl ⟨by rfl, ?_⟩) (by assumption) ?_
        rotate_left
        · (intro w hSw; (try dsimp only at hSw); go_simp <;> with_reducible rfl)
        simp only [List.getElem_toArray, List.getElem_cons_zero, List.getElem_cons_succ, Act.put, List.setIfInBounds_toArray, List.set_cons_zero, List.set_cons_succ]
        refine wpAnyH_take (i := 8) (v := ?_) rfl (by kernel_rfl) (by kernel_rfl) (by kernel_rfl) (fun _ _ _ h => h) (Or.inl ⟨by rfl, ?_⟩) (by assumption) ?_
        rotate_left
        · (intro w hSw; (try dsimp only at hSw); go_simp <;> with_reducible rfl)
        simp only [List.getElem_toArray, List.getElem_cons_zero, List.getElem_cons_succ, Act.put, List.setIfInBounds_toArray, List.set_cons_zero, List.set_cons_succ]
        refine wpAnyH_take (i := 9) (v := ?_) rfl (by kernel_rfl) (by kernel_rfl) (by kernel_rfl) (fun _ _ _ h => h) (Or.inl ⟨by rfl, ?_⟩) (by assumption) ?_
        rotate_left
        · (intro w hSw; (try dsimp only at hSw); go_simp <;> with_reducible rfl)
        simp only [List.getElem_toArray, List.getElem_cons_zero, List.getElem_cons_succ, Act.put, List.setIfInBounds_toArray, List.set_cons_zero, List.set_cons_succ]
        refine wpAnyH_ready (rs := [10]) (by kernel_rfl) (by simp) ?_
        refine AllReadyH.cons rfl (fun K hK => ?_) ?_
        rotate_left
        · exact AllReadyH.nil
        go_simp
        refine (CNS _ (by assumption)).mono ?_
        rintro e w9 ⟨rfl, hS9⟩
        refine hK.out _ _ ?_ (fun hHeld => ?_)
        · exact hS9
        clear hK K
        refine wpAnyH_take (i := 11) (v := ?_) rfl (by kernel_rfl) (by kernel_rfl) (by kernel_rfl) (fun _ _ _ h => h) (Or.inl ⟨by rfl, ?_⟩) (by assumption) ?_
        rotate_left
        · (intro w hSw; (try dsimp only at hSw); go_simp <;> with_reducible rfl)
        simp only [List.getElem_toArray, List.getElem_cons_zero, List.getElem_cons_succ, Act.put, List.setIfInBounds_toArray, List.set_cons_zero, List.set_cons_succ]
        refine wpAnyH_take (i := 12) (v := ?_) rfl (by kernel_rfl) (by kernel_rfl) (by kernel_rfl) (fun _ _ _ h => h) (Or.inl ⟨by rfl, ?_⟩) (by assumption) ?_
        rotate_left
        · (intro w hSw; (try dsimp only at hSw); go_simp <;> with_reducible rfl)
        simp only [List.getElem_toArray, List.getElem_cons_zero, List.getElem_cons_succ, Act.put, List.setIfInBounds_toArray, List.set_cons_zero, List.set_cons_succ]
        refine wpAnyH_take (i := 13) (v := ?_) rfl (by kernel_rfl) (by kernel_rfl) (by kernel_rfl) (fun _ _ _ h => h) (Or.inl ⟨by rfl, ?_⟩) (by assumption) ?_
        rotate_left
        · (intro w hSw; (try dsimp only at hSw); go_simp <;> with_reducible rfl)
        simp only [List.getElem_toArray, List.getElem_cons_zero, List.getElem_cons_succ, Act.put, List.setIfInBounds_toArray, List.set_cons_zero, List.set_cons_succ]
        refine wpAnyH_take (i := 14) (v := ?_) rfl (by kernel_rfl) (by kernel_rfl) (by kernel_rfl) (fun _ _ _ h => h) (Or.inl ⟨by rfl, ?_⟩) (by assumption) ?_
        rotate_left
        · (intro w hSw; (try dsimp only at hSw); go_simp <;> with_reducible rfl)
        simp only [List.getElem_toArray, List.getElem_cons_zero, List.getElem_cons_succ, Act.put, List.setIfInBounds_toArray, List.set_cons_zero, List.set_cons_succ]
        refine wpAnyH_take (i := 15) (v := ?_) rfl (by kernel_rfl) (by kernel_rfl) (by kernel_rfl) (fun _ _ _ h => h) (Or.inl ⟨by rfl, ?_⟩) (by assumption) ?_
        rotate_left
        · (intro w hSw; (try dsimp only at hSw); go_simp <;> with_reducible rfl)
        simp only [List.getElem_toArray, List.getElem_cons_zero, List.getElem_cons_succ, Act.put, List.setIfInBounds_toArray, List.set_cons_zero, List.set_cons_succ]
        refine wpAnyH_take (i := 16) (v := ?_) rfl (by kernel_rfl) (by kernel_rfl) (by kernel_rfl) (fun _ _ _ h => h) (Or.inl ⟨by rfl, ?_⟩) (by assumption) ?_
        rotate_left
        · (intro w hSw; (try dsimp only at hSw); go_simp <;> with_reducible rfl)
        simp only [List.getElem_toArray, List.getElem_cons_zero, List.getElem_cons_succ, Act.put, List.setIfInBounds_toArray, List.set_cons_zero, List.set_cons_succ]
        refine wpAnyH_take (i := 17) (v := ?_) rfl (by kernel_rfl) (by kernel_rfl) (by kernel_rfl) (fun _ _ _ h => h) (Or.inl ⟨by rfl, ?_⟩) (by assumption) ?_
        rotate_left
        · (intro w hSw; (try dsimp only at hSw); go_simp <;> with_reducible rfl)
        simp only [List.getElem_toArray, List.getElem_cons_zero, List.getElem_cons_succ, Act.put, List.setIfInBounds_toArray, List.set_cons_zero, List.set_cons_succ]
        refine wpAnyH_take (i := 18) (v := undef) rfl (by kernel_rfl) (by kernel_rfl) (by kernel_rfl) (fun _ _ _ h => h) (Or.inr ⟨by rfl, rfl⟩) (by assumption) ?_
        simp only [List.getElem_toArray, List.getElem_cons_zero, List.getElem_cons_succ, Act.put, List.setIfInBounds_toArray, List.set_cons_zero, List.set_cons_succ]
        refine wpAnyH_take (i := 19) (v := undef) rfl (by kernel_rfl) (by kernel_rfl) (by kernel_rfl) (fun _ _ _ h => h) (Or.inr ⟨by rfl, rfl⟩) (by assumption) ?_
        simp only [List.getElem_toArray, List.getElem_cons_zero, List.getElem_cons_succ, Act.put, List.setIfInBounds_toArray, List.set_cons_zero, List.set_cons_succ]
        refine wpAnyH_take (i := 20) (v := ?_) rfl (by kernel_rfl) (by kernel_rfl) (by kernel_rfl) (fun _ _ _ h => h) (Or.inl ⟨by rfl, ?_⟩) (by assumption) ?_
        rotate_left
        · (intro w hSw; (try dsimp only at hSw); go_simp <;> with_reducible rfl)
        simp only [List.getElem_toArray, List.getElem_cons_zero, List.getElem_cons_succ, Act.put, List.setIfInBounds_toArray, List.set_cons_zero, List.set_cons_succ]
        refine wpAnyH_take (i := 21) (v := ?_) rfl (by kernel_rfl) (by kernel_rfl) (by kernel_rfl) (fun _ _ _ h => h) (Or.inl ⟨by rfl, ?_⟩) (by assumption) ?_
        rotate_left
        · (intro w hSw; (try dsimp only at hSw); go_simp <;> with_reducible rfl)
        simp only [List.getElem_toArray, List.getElem_cons_zero, List.getElem_cons_succ, Act.put, List.setIfInBounds_toArray, List.set_cons_zero, List.set_cons_succ]
        refine wpAnyH_done (by kernel_rfl) ?_ _
        refine NoPanic.normal ?_
        go_wp2
        go_meet
        case rel => exact ⟨rfl, hS9⟩
      case rest =>
        obtain ⟨rfl, g10, g11, g6, g1, hwz, hbd⟩ := hcut
        go_wp2_with fail
        refine (awake13_true K _).mono ?_
        rintro e w6 ⟨rfl, hb6⟩
        go_wp2
        go_ret
        exact ⟨rfl, hbd.trans (hb6.mono hbd.size)⟩
set_option maxHeartbeats 800000 in
theorem BlocFolds_walk (K : BlocC) (v1 v2 : Value) (ks : List Int) (bs : List Bool) (note : Int) (strip : Bool) (w : World) (h1 : IsInts .i64 w.heap.size w v1 ks) (h2 : IsBools w.heap.size w v2 bs) :
    Calls Tryd.prog 6 #[v1, v2, .int .i64 note, .bool strip] w fun e w' => e = .returned (.bool true) ∧ Below w.heap.size w w' := by
  have hr := lowZ_range note 11 (by omega)
  obtain ⟨z, hz⟩ : ∃ z : Nat, lowZ note 11 = (z : Int) := ⟨(lowZ note 11).toNat, by omega⟩
  rw [hz] at hr
  by_cases hlo : ks.length < 1
  · obtain ⟨ao1, cap1, rfl, c1, d1⟩ := h1.slice
    unfold maxLen at d1
    obtain ⟨L, hL⟩ : ∃ L, L = ks.length := ⟨_, rfl⟩
    rw [← hL] at c1 hlo ⊢
    clear h1 h2 hz hr hL
    go_enter Tryd.func6, Tryd.ntmps6
    go_wp2_with fail
    refine (awake13_true K _).mono ?_
    rintro e w1 ⟨rfl, b1⟩
    go_wp2
    go_ret
    exact ⟨rfl, b1⟩
  by_cases hhi : 8 < ks.length
  · obtain ⟨ao1, cap1, rfl, c1, d1⟩ := h1.slice
    unfold maxLen at d1
    obtain ⟨L, hL⟩ : ∃ L, L = ks.length := ⟨_, rfl⟩
    rw [← hL] at c1 hlo hhi ⊢
    clear h1 h2 hz hr hL
    go_enter Tryd.func6, Tryd.ntmps6
    go_wp2_with fail
    refine (awake13_true K _).mono ?_
    rintro e w1 ⟨rfl, b1⟩
    go_wp2
    go_ret
    exact ⟨rfl, b1⟩
  cases strip with
  | true =>
    by_cases h10 : z < 10
    · exact BlocFolds_sc K v1 v2 ks bs note z w h1 h2 (by omega) (by omega) hz h10
    · exact BlocFolds_sn K v1 v2 ks bs note z w h1 h2 (by omega) (by omega) hz (by omega)
  | false =>
    by_cases h10 : z < 10
    · exact BlocFolds_nc K v1 v2 ks bs note z w h1 h2 (by omega) (by omega) hz h10
    · exact BlocFolds_nn K v1 v2 ks bs note z w h1 h2 (by omega) (by omega) hz (by omega)
end Go.Proofs.YtkpccoijegklbaaDoor
