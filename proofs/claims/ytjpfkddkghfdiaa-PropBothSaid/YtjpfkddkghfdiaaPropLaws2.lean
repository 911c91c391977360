/- The statements on package prop: the walk of PropBoth, over what prop.Read returns (PropC). Conditions: those that each theorem writes out. -/
import Derived.Test.YtjpfkddkghfdiaaPropLaws
import Derived.Deep.CutBlock
namespace Go.Proofs.Ytjpfkddkghfdiaa
open Go.RowKit

theorem bothW (z : Nat) (hz : z < 5) : (#[Value.string ⟨#[97]⟩, .string ⟨#[98, 45, 99]⟩, .string ⟨#[195, 169]⟩, .string ⟨#[120, 58]⟩, .string ⟨#[49, 35]⟩] : Array Value)[z]? = some (.string ⟨(pbW.getD z []).toArray⟩) := by
  have key : ∀ j : Fin 5, (#[Value.string ⟨#[97]⟩, .string ⟨#[98, 45, 99]⟩, .string ⟨#[195, 169]⟩, .string ⟨#[120, 58]⟩, .string ⟨#[49, 35]⟩] : Array Value)[j.val]? = some (.string ⟨(pbW.getD j.val []).toArray⟩) := by
    intro j
    match j with
    | ⟨0, _⟩ | ⟨1, _⟩ | ⟨2, _⟩ | ⟨3, _⟩ | ⟨4, _⟩ => exact rfl
    | ⟨i + 5, hi⟩ => exact absurd hi (by omega)
  exact key ⟨z, hz⟩
theorem bothT (z : Nat) (hz : z < 5) : (#[Value.string ⟨#[33]⟩, .string ⟨#[33, 116]⟩, .string ⟨#[33, 33, 115, 116, 114]⟩, .string ⟨#[33, 101, 33, 120]⟩, .string ⟨#[33, 60, 97, 58, 98, 62]⟩] : Array Value)[z]? = some (.string ⟨(pbT.getD z []).toArray⟩) := by
  have key : ∀ j : Fin 5, (#[Value.string ⟨#[33]⟩, .string ⟨#[33, 116]⟩, .string ⟨#[33, 33, 115, 116, 114]⟩, .string ⟨#[33, 101, 33, 120]⟩, .string ⟨#[33, 60, 97, 58, 98, 62]⟩] : Array Value)[j.val]? = some (.string ⟨(pbT.getD j.val []).toArray⟩) := by
    intro j
    match j with
    | ⟨0, _⟩ | ⟨1, _⟩ | ⟨2, _⟩ | ⟨3, _⟩ | ⟨4, _⟩ => exact rfl
    | ⟨i + 5, hi⟩ => exact absurd hi (by omega)
  exact key ⟨z, hz⟩
theorem bothE (z : Nat) (hz : z < 5) : (#[Value.string ⟨#[32, 122]⟩, .string ⟨#[10]⟩, .string ⟨#[9, 122]⟩, .string ⟨#[]⟩, .string ⟨#[32, 10]⟩] : Array Value)[z]? = some (.string ⟨(pbE.getD z []).toArray⟩) := by
  have key : ∀ j : Fin 5, (#[Value.string ⟨#[32, 122]⟩, .string ⟨#[10]⟩, .string ⟨#[9, 122]⟩, .string ⟨#[]⟩, .string ⟨#[32, 10]⟩] : Array Value)[j.val]? = some (.string ⟨(pbE.getD j.val []).toArray⟩) := by
    intro j
    match j with
    | ⟨0, _⟩ | ⟨1, _⟩ | ⟨2, _⟩ | ⟨3, _⟩ | ⟨4, _⟩ => exact rfl
    | ⟨i + 5, hi⟩ => exact absurd hi (by omega)
  exact key ⟨z, hz⟩
theorem pbE_len : ∀ z : Fin 5, (pbE.getD z.val []).length ≤ 2 := by decide +kernel
theorem pb_end (has is : Bool) (h : has = true ∨ is = true) (e : Nat) : pbEnd has is e = pbE.getD e [] := by unfold pbEnd; rw [if_pos h]
set_option maxRecDepth 100000 in
set_option maxHeartbeats 6400000 in
theorem PropBoth_walk (K : PropC) (name tag : Int) (has is swap : Bool) (blanks behind : Int) (w : World) :
    Calls Try.prog 4 #[.int .i64 name, .int .i64 tag, .bool has, .bool is, .bool swap, .int .i64 blanks, .int .i64 behind] w fun e w' => e = .returned (.bool true) ∧ Below w.heap.size w w' := by
  have hr1 := lowZ_range name 5 (by omega)
  obtain ⟨n, hz1⟩ : ∃ z : Nat, lowZ name 5 = (z : Int) := ⟨(lowZ name 5).toNat, by omega⟩
  rw [hz1] at hr1
  have hr2 := lowZ_range tag 5 (by omega)
  obtain ⟨t, hz2⟩ : ∃ z : Nat, lowZ tag 5 = (z : Int) := ⟨(lowZ tag 5).toNat, by omega⟩
  rw [hz2] at hr2
  have hr3 := lowZ_range blanks 3 (by omega)
  obtain ⟨b, hz3⟩ : ∃ z : Nat, lowZ blanks 3 = (z : Int) := ⟨(lowZ blanks 3).toNat, by omega⟩
  rw [hz3] at hr3
  have hr4 := lowZ_range behind 5 (by omega)
  obtain ⟨z, hz4⟩ : ∃ z : Nat, lowZ behind 5 = (z : Int) := ⟨(lowZ behind 5).toNat, by omega⟩
  rw [hz4] at hr4
  have C1 := fun W => Low_is (n : Int) name 5 W (by omega) (by omega) hz1
  have C2 := fun W => Low_is (t : Int) tag 5 W (by omega) (by omega) hz2
  have C3 := fun W => Low_is (b : Int) blanks 3 W (by omega) (by omega) hz3
  have C4 := fun W => Low_is (z : Int) behind 5 W (by omega) (by omega) hz4
  have hn5 : n < 5 := by omega
  have ht5 : t < 5 := by omega
  have hb3 : b < 3 := by omega
  have hz5 : z < 5 := by omega
  clear hz1 hz2 hz3 hz4 hr1 hr2 hr3 hr4
  obtain ⟨_, _, nl, tl, _⟩ := pbS_len true ⟨n, hn5⟩ ⟨t, ht5⟩ 0
  dsimp only at nl tl
  have GB := fun sw => Lib.hid (pbG_both sw n t b hn5 ht5 hb3)
  have GN := Lib.hid (pbG_name n hn5)
  have GT := Lib.hid (pbG_tag t ht5)
  have xW := bothW n hn5
  have xT := bothT t ht5
  unfold pbS at GB
  obtain ⟨wl, hwl⟩ : ∃ l, pbW.getD n [] = l := ⟨_, rfl⟩
  obtain ⟨tg, htg⟩ : ∃ l, pbT.getD t [] = l := ⟨_, rfl⟩
  rw [hwl] at xW nl GB GN
  rw [htg] at xT tl GB GT
  clear hwl htg
  obtain ⟨WB, hWB⟩ : ∃ B : ByteArray, mkB wl = B := ⟨_, rfl⟩
  obtain ⟨TB, hTB⟩ : ∃ B : ByteArray, mkB tg = B := ⟨_, rfl⟩
  obtain ⟨BB, hBB⟩ : ∃ B : ByteArray, mkB (blanksB (1 + b)) = B := ⟨_, rfl⟩
  have xW2 : (#[Value.string ⟨#[97]⟩, .string ⟨#[98, 45, 99]⟩, .string ⟨#[195, 169]⟩, .string ⟨#[120, 58]⟩, .string ⟨#[49, 35]⟩] : Array Value)[n]? = some (.string WB) := by rw [← hWB]; exact xW
  have xT2 : (#[Value.string ⟨#[33]⟩, .string ⟨#[33, 116]⟩, .string ⟨#[33, 33, 115, 116, 114]⟩, .string ⟨#[33, 101, 33, 120]⟩, .string ⟨#[33, 60, 97, 58, 98, 62]⟩] : Array Value)[t]? = some (.string TB) := by rw [← hTB]; exact xT
  have CB : ∀ W : World, Calls Try.prog 9 #[.int .i64 (1 + (b : Int))] W fun e w' => e = .returned (.string BB) ∧ W = w' := fun W => by rw [← hBB]; exact lawBlanks_is (1 + b) _ W (by omega) (by omega)
  have hWs : WB.size ≤ 19 := by rw [← hWB, mkB_size]; exact nl
  have hTs : TB.size ≤ 20 := by rw [← hTB, mkB_size]; exact tl
  have hBs : BB.size ≤ 3 := by rw [← hBB, mkB_size, blanks_len]; omega
  clear xW xT nl tl
  obtain ⟨FB, hFB⟩ : ∃ B : ByteArray, (⟨#[38]⟩ : ByteArray) ++ WB = B := ⟨_, rfl⟩
  have hFs : FB.size ≤ 20 := by rw [← hFB, ByteArray.size_append]; show 1 + _ ≤ _; omega
  have hF2 : FB = mkB ([38] ++ wl) := by rw [← hFB, ← hWB]; exact mkB_append [38] wl
  obtain ⟨S1, hS1⟩ : ∃ B : ByteArray, FB ++ BB ++ TB = B := ⟨_, rfl⟩
  obtain ⟨S2, hS2⟩ : ∃ B : ByteArray, TB ++ BB ++ FB = B := ⟨_, rfl⟩
  have G1 : Hid (∃ S, S1 = mkB S ∧ PbG true true S wl tg) := ⟨[38] ++ wl ++ blanksB (1 + b) ++ tg, by rw [← hS1, hF2, ← hBB, ← hTB, mkB_append, mkB_append], (by have g := (GB false).out; rw [if_neg (by decide)] at g; exact g)⟩
  have G2 : Hid (∃ S, S2 = mkB S ∧ PbG true true S wl tg) := ⟨tg ++ blanksB (1 + b) ++ ([38] ++ wl), by rw [← hS2, hF2, ← hBB, ← hTB, mkB_append, mkB_append], (by have g := (GB true).out; rw [if_pos rfl] at g; exact g)⟩
  have G3 : Hid (∃ S, FB = mkB S ∧ PbG true false S wl []) := ⟨_, hF2, GN.out⟩
  have G4 : Hid (∃ S, TB = mkB S ∧ PbG false true S [] tg) := ⟨_, hTB.symm, GT.out⟩
  have HWB := Lib.hid hWB
  have HTB := Lib.hid hTB
  clear GB GN GT hF2 hWB hTB hBB
  have c1 : (w.alloc (.cells #[.string ⟨#[97]⟩, .string ⟨#[98, 45, 99]⟩, .string ⟨#[195, 169]⟩, .string ⟨#[120, 58]⟩, .string ⟨#[49, 35]⟩] 9)).cell? ⟨w.heap.size, n, none⟩ = some (.string WB) := by rw [World.cell?_alloc_mark]; exact xW2
  have b1 : Below w.heap.size w (w.alloc (.cells #[.string ⟨#[97]⟩, .string ⟨#[98, 45, 99]⟩, .string ⟨#[195, 169]⟩, .string ⟨#[120, 58]⟩, .string ⟨#[49, 35]⟩] 9)) := (Below.refl _ _).alloc (Nat.le_refl _) _
  go_enter Try.func4, Try.ntmps4
  go_upto_region 2 with (go_at_call 7; refine (C1 _).mono ?_; rintro e w9 ⟨rfl, rfl⟩)
  obtain ⟨W1, hW1⟩ : ∃ W, W = w.alloc (.cells #[.string ⟨#[97]⟩, .string ⟨#[98, 45, 99]⟩, .string ⟨#[195, 169]⟩, .string ⟨#[120, 58]⟩, .string ⟨#[49, 35]⟩] 9) := ⟨_, rfl⟩
  rw [← hW1] at b1 ⊢
  clear hW1 c1 xW2 C1
  have c2 : (W1.alloc (.cells #[.string ⟨#[33]⟩, .string ⟨#[33, 116]⟩, .string ⟨#[33, 33, 115, 116, 114]⟩, .string ⟨#[33, 101, 33, 120]⟩, .string ⟨#[33, 60, 97, 58, 98, 62]⟩] 9)).cell? ⟨W1.heap.size, t, none⟩ = some (.string TB) := by rw [World.cell?_alloc_mark]; exact xT2
  have b2 : Below w.heap.size w (W1.alloc (.cells #[.string ⟨#[33]⟩, .string ⟨#[33, 116]⟩, .string ⟨#[33, 33, 115, 116, 114]⟩, .string ⟨#[33, 101, 33, 120]⟩, .string ⟨#[33, 60, 97, 58, 98, 62]⟩] 9)) := b1.alloc b1.size _
  go_upto_region 3 with (go_at_call 7; refine (C2 _).mono ?_; rintro e w9 ⟨rfl, rfl⟩)
  obtain ⟨W2, hW2⟩ : ∃ W, W = W1.alloc (.cells #[.string ⟨#[33]⟩, .string ⟨#[33, 116]⟩, .string ⟨#[33, 33, 115, 116, 114]⟩, .string ⟨#[33, 101, 33, 120]⟩, .string ⟨#[33, 60, 97, 58, 98, 62]⟩] 9) := ⟨_, rfl⟩
  rw [← hW2] at b2 ⊢
  clear hW2 c2 xT2 C2 b1
  go_upto_if 45 with fail
  go_cut [17, 18] (fun v17 v18 wx => ∃ P Q SB : ByteArray, v17 = .string P ∧ v18 = .string Q ∧ P.size ≤ 20 ∧ Q.size ≤ 20 ∧ wx = W2 ∧ P ++ BB ++ Q = SB ∧ Hid (∃ S, SB = mkB S ∧ PbG true true S wl tg))
  case first =>
    cases swap with
    | true =>
      go_wp2
      go_meet
      case rel => exact ⟨TB, FB, S2, rfl, rfl, hTs, hFs, rfl, hS2, G2⟩
    | false =>
      go_wp2
      go_meet
      case rel => exact ⟨FB, TB, S1, rfl, rfl, hFs, hTs, rfl, hS1, G1⟩
  case rest =>
    obtain ⟨P, Q, SB, rfl, rfl, hPs, hQs, rfl, hPQ, G5⟩ := hcut
    clear G1 G2 hS1 hS2
    go_upto_block 0 with fail
    go_cut [19, 20, 21] (fun v19 v20 v21 wx => ∃ SS XX YY : ByteArray, v19 = .string SS ∧ v20 = .string XX ∧ v21 = .string YY ∧ wx = wc ∧ Hid (∃ S X Y, SS = mkB S ∧ XX = mkB X ∧ YY = mkB Y ∧ PbG has is S X Y))
    case first =>
      cases has with
      | true =>
        cases is with
        | true =>
          go_wp2_with fail
          refine (C3 _).mono ?_
          rintro e w9 ⟨rfl, rfl⟩
          go_wp2_with fail
          refine (CB _).mono ?_
          rintro e w9 ⟨rfl, rfl⟩
          go_wp2
          go_meet
          case rel => exact ⟨SB, WB, TB, rfl, rfl, rfl, rfl, (by obtain ⟨S, e, g⟩ := G5.out; exact ⟨S, wl, tg, e, HWB.out.symm, HTB.out.symm, g⟩)⟩
        | false =>
          go_wp2
          go_meet
          case rel => exact ⟨FB, WB, ⟨#[]⟩, rfl, rfl, rfl, rfl, (by obtain ⟨S, e, g⟩ := G3.out; exact ⟨S, wl, [], e, HWB.out.symm, rfl, g⟩)⟩
      | false =>
        cases is with
        | true =>
          go_wp2
          go_meet
          case rel => exact ⟨TB, ⟨#[]⟩, TB, rfl, rfl, rfl, rfl, (by obtain ⟨S, e, g⟩ := G4.out; exact ⟨S, [], tg, e, rfl, HTB.out.symm, g⟩)⟩
        | false =>
          go_wp2
          go_meet
          case rel => exact ⟨⟨#[]⟩, ⟨#[]⟩, ⟨#[]⟩, rfl, rfl, rfl, rfl, ⟨[], [], [], rfl, rfl, rfl, pbG_none⟩⟩
    case rest =>
      obtain ⟨SS, XX, YY, rfl, rfl, rfl, rfl, HG⟩ := hcut
      obtain ⟨S, X, Y, hS, hX, hY, G⟩ := HG.out
      clear HG G3 G4 G5 HWB HTB hPQ hPs hQs C3 CB hFB hFs hWs hTs hBs
      have hSs : SS.size = S.length := by rw [hS, mkB_size]
      have hSl := G.len
      have xE := bothE z hz5
      have hEl := pbE_len ⟨z, hz5⟩
      dsimp only at hEl
      obtain ⟨EB, hEB⟩ : ∃ B : ByteArray, mkB (pbE.getD z []) = B := ⟨_, rfl⟩
      have hEs : EB.size ≤ 2 := by rw [← hEB, mkB_size]; exact hEl
      have xE2 : (#[Value.string ⟨#[32, 122]⟩, .string ⟨#[10]⟩, .string ⟨#[9, 122]⟩, .string ⟨#[]⟩, .string ⟨#[32, 10]⟩] : Array Value)[z]? = some (.string EB) := by rw [← hEB]; exact xE
      have c3 : (wc.alloc (.cells #[.string ⟨#[32, 122]⟩, .string ⟨#[10]⟩, .string ⟨#[9, 122]⟩, .string ⟨#[]⟩, .string ⟨#[32, 10]⟩] 9)).cell? ⟨wc.heap.size, z, none⟩ = some (.string EB) := by rw [World.cell?_alloc_mark]; exact xE2
      have b3 : Below w.heap.size w (wc.alloc (.cells #[.string ⟨#[32, 122]⟩, .string ⟨#[10]⟩, .string ⟨#[9, 122]⟩, .string ⟨#[]⟩, .string ⟨#[32, 10]⟩] 9)) := b2.alloc b2.size _
      have hX2 : (⟨X.toArray⟩ : ByteArray) = XX := hX.symm
      have hY2 : (⟨Y.toArray⟩ : ByteArray) = YY := hY.symm
      obtain ⟨T2, hT2⟩ : ∃ B : ByteArray, SS ++ (⟨#[32, 38, 113, 32, 33, 113, 32, 33, 113]⟩ : ByteArray) = B := ⟨_, rfl⟩
      have hT2s : T2.size ≤ 1000 := by rw [← hT2, ByteArray.size_append]; show _ + 9 ≤ _; omega
      have hT2e : mkB (S ++ pbQ) = T2 := by rw [← hT2, hS, ← mkB_append]; rfl
      have Q2 := G.next
      rw [hT2e] at Q2
      clear hEl xE xE2 hX hY hT2e
      cases has with
      | true =>
        cases is with
        | true =>
          obtain ⟨T1, hT1⟩ : ∃ B : ByteArray, SS ++ EB = B := ⟨_, rfl⟩
          have hT1s : T1.size ≤ 1000 := by rw [← hT1, ByteArray.size_append]; show _ + _ ≤ _; omega
          have hT1e : mkB (S ++ pbEnd true true z) = T1 := by rw [pb_end _ _ (by decide), ← mkB_append, hEB, ← hS, hT1]
          have hSe : SS.toList.isEmpty = false := list_ba_ne (G.ne (by decide)) hS
          have e2 : ((pbEE true true S.length : Nat) : Int) = (SS.size : Int) + 1 := by rw [hSs]; rfl
          have e3 : pbCC true true = 5 := rfl
          rw [e2, e3] at Q2
          have CQ := fun W => K.read [] [] ((SS.size : Int) + 1) 5 T2 0 false W hT2s Q2
          have CK := fun (k : Nat) W => K.read X Y (S.length : Int) 0 T1 0 ((k : Int) == 1) W hT1s (by rw [← hT1e]; exact G.read _ z hz5)
          rw [hX2, hY2, ← hSs] at CK
          clear G Q2 hT1e e2 e3 hX2 hY2 hS hEB
          go_upto_region 14 with (go_at_call 7; refine (C4 _).mono ?_; rintro e w9 ⟨rfl, rfl⟩)
          obtain ⟨W3, hW3⟩ : ∃ W, W = wc.alloc (.cells #[.string ⟨#[32, 122]⟩, .string ⟨#[10]⟩, .string ⟨#[9, 122]⟩, .string ⟨#[]⟩, .string ⟨#[32, 10]⟩] 9) := ⟨_, rfl⟩
          rw [← hW3] at b3 ⊢
          clear hW3 c3 C4 b2
          go_wp2
          go_loopw [23] (fun vk wx => ∃ k : Nat, vk = .int .i64 (k : Int) ∧ k ≤ 2 ∧ Below w.heap.size w wx) (fun vk _ => 2 - (intOf vk).toNat)
          case atStart => exact ⟨0, rfl, Nat.zero_le _, b3⟩
          case round =>
            obtain ⟨k, rfl, hk, hb⟩ := hrel
            by_cases hk2 : k < 2
            · go_wp2_with fail
              refine (CK k _).mono ?_
              rintro e w4 ⟨rfl, hb4⟩
              go_wp2
              go_roundw
              case rel => exact ⟨k + 1, by go_num, by omega, hb.trans (hb4.mono hb.size)⟩
              case measure => simp [intOf]; omega
            · go_wp2_with fail
              refine (CQ _).mono ?_
              rintro e w4 ⟨rfl, hb4⟩
              have hb5 := hb.trans (hb4.mono hb.size)
              go_wp2_with fail
              refine (awake14_true K _).mono ?_
              rintro e w5 ⟨rfl, hb6⟩
              go_wp2
              go_ret
              exact ⟨rfl, hb5.trans (hb6.mono hb5.size)⟩
        | false =>
          obtain ⟨T1, hT1⟩ : ∃ B : ByteArray, SS ++ EB = B := ⟨_, rfl⟩
          have hT1s : T1.size ≤ 1000 := by rw [← hT1, ByteArray.size_append]; show _ + _ ≤ _; omega
          have hT1e : mkB (S ++ pbEnd true false z) = T1 := by rw [pb_end _ _ (by decide), ← mkB_append, hEB, ← hS, hT1]
          have hSe : SS.toList.isEmpty = false := list_ba_ne (G.ne (by decide)) hS
          have e2 : ((pbEE true false S.length : Nat) : Int) = (SS.size : Int) + 1 := by rw [hSs]; rfl
          have e3 : pbCC true false = 5 := rfl
          rw [e2, e3] at Q2
          have CQ := fun W => K.read [] [] ((SS.size : Int) + 1) 5 T2 0 false W hT2s Q2
          have CK := fun (k : Nat) W => K.read X Y (S.length : Int) 0 T1 0 ((k : Int) == 1) W hT1s (by rw [← hT1e]; exact G.read _ z hz5)
          rw [hX2, hY2, ← hSs] at CK
          clear G Q2 hT1e e2 e3 hX2 hY2 hS hEB
          go_upto_region 14 with (go_at_call 7; refine (C4 _).mono ?_; rintro e w9 ⟨rfl, rfl⟩)
          obtain ⟨W3, hW3⟩ : ∃ W, W = wc.alloc (.cells #[.string ⟨#[32, 122]⟩, .string ⟨#[10]⟩, .string ⟨#[9, 122]⟩, .string ⟨#[]⟩, .string ⟨#[32, 10]⟩] 9) := ⟨_, rfl⟩
          rw [← hW3] at b3 ⊢
          clear hW3 c3 C4 b2
          go_wp2
          go_loopw [23] (fun vk wx => ∃ k : Nat, vk = .int .i64 (k : Int) ∧ k ≤ 2 ∧ Below w.heap.size w wx) (fun vk _ => 2 - (intOf vk).toNat)
          case atStart => exact ⟨0, rfl, Nat.zero_le _, b3⟩
          case round =>
            obtain ⟨k, rfl, hk, hb⟩ := hrel
            by_cases hk2 : k < 2
            · go_wp2_with fail
              refine (CK k _).mono ?_
              rintro e w4 ⟨rfl, hb4⟩
              go_wp2
              go_roundw
              case rel => exact ⟨k + 1, by go_num, by omega, hb.trans (hb4.mono hb.size)⟩
              case measure => simp [intOf]; omega
            · go_wp2_with fail
              refine (CQ _).mono ?_
              rintro e w4 ⟨rfl, hb4⟩
              have hb5 := hb.trans (hb4.mono hb.size)
              go_wp2_with fail
              refine (awake14_true K _).mono ?_
              rintro e w5 ⟨rfl, hb6⟩
              go_wp2
              go_ret
              exact ⟨rfl, hb5.trans (hb6.mono hb5.size)⟩
      | false =>
        cases is with
        | true =>
          obtain ⟨T1, hT1⟩ : ∃ B : ByteArray, SS ++ EB = B := ⟨_, rfl⟩
          have hT1s : T1.size ≤ 1000 := by rw [← hT1, ByteArray.size_append]; show _ + _ ≤ _; omega
          have hT1e : mkB (S ++ pbEnd false true z) = T1 := by rw [pb_end _ _ (by decide), ← mkB_append, hEB, ← hS, hT1]
          have hSe : SS.toList.isEmpty = false := list_ba_ne (G.ne (by decide)) hS
          have e2 : ((pbEE false true S.length : Nat) : Int) = (SS.size : Int) + 4 := by rw [hSs]; rfl
          have e3 : pbCC false true = 5 := rfl
          rw [e2, e3] at Q2
          have CQ := fun W => K.read [] [] ((SS.size : Int) + 4) 5 T2 0 false W hT2s Q2
          have CK := fun (k : Nat) W => K.read X Y (S.length : Int) 0 T1 0 ((k : Int) == 1) W hT1s (by rw [← hT1e]; exact G.read _ z hz5)
          rw [hX2, hY2, ← hSs] at CK
          clear G Q2 hT1e e2 e3 hX2 hY2 hS hEB
          go_upto_region 14 with (go_at_call 7; refine (C4 _).mono ?_; rintro e w9 ⟨rfl, rfl⟩)
          obtain ⟨W3, hW3⟩ : ∃ W, W = wc.alloc (.cells #[.string ⟨#[32, 122]⟩, .string ⟨#[10]⟩, .string ⟨#[9, 122]⟩, .string ⟨#[]⟩, .string ⟨#[32, 10]⟩] 9) := ⟨_, rfl⟩
          rw [← hW3] at b3 ⊢
          clear hW3 c3 C4 b2
          go_wp2
          go_loopw [23] (fun vk wx => ∃ k : Nat, vk = .int .i64 (k : Int) ∧ k ≤ 2 ∧ Below w.heap.size w wx) (fun vk _ => 2 - (intOf vk).toNat)
          case atStart => exact ⟨0, rfl, Nat.zero_le _, b3⟩
          case round =>
            obtain ⟨k, rfl, hk, hb⟩ := hrel
            by_cases hk2 : k < 2
            · go_wp2_with fail
              refine (CK k _).mono ?_
              rintro e w4 ⟨rfl, hb4⟩
              go_wp2
              go_roundw
              case rel => exact ⟨k + 1, by go_num, by omega, hb.trans (hb4.mono hb.size)⟩
              case measure => simp [intOf]; omega
            · go_wp2_with fail
              refine (CQ _).mono ?_
              rintro e w4 ⟨rfl, hb4⟩
              have hb5 := hb.trans (hb4.mono hb.size)
              go_wp2_with fail
              refine (awake14_true K _).mono ?_
              rintro e w5 ⟨rfl, hb6⟩
              go_wp2
              go_ret
              exact ⟨rfl, hb5.trans (hb6.mono hb5.size)⟩
        | false =>
          obtain ⟨T1, hT1⟩ : ∃ B : ByteArray, SS ++ (⟨#[122]⟩ : ByteArray) = B := ⟨_, rfl⟩
          have hT1s : T1.size ≤ 1000 := by rw [← hT1, ByteArray.size_append]; show _ + 1 ≤ _; omega
          have hT1e : mkB (S ++ pbEnd false false z) = T1 := by rw [← hT1, hS, ← mkB_append]; rfl
          have hS0 := G.emp rfl rfl
          have hSe : SS.toList.isEmpty = true := by rw [hS, hS0]; show (⟨#[]⟩ : ByteArray).toList.isEmpty = true; rw [Lib.toList_data]; rfl
          have e2 : ((pbEE false false S.length : Nat) : Int) = 0 := rfl
          have e3 : pbCC false false = 0 := rfl
          rw [e2, e3] at Q2
          have CQ := fun W => K.read [] [] (0) 0 T2 0 false W hT2s Q2
          have CK := fun (k : Nat) W => K.read X Y (S.length : Int) 0 T1 0 ((k : Int) == 1) W hT1s (by rw [← hT1e]; exact G.read _ z hz5)
          rw [hX2, hY2, ← hSs] at CK
          clear G Q2 hT1e e2 e3 hX2 hY2 hS0 hS hEB
          go_upto_region 14 with (go_at_call 7; refine (C4 _).mono ?_; rintro e w9 ⟨rfl, rfl⟩)
          obtain ⟨W3, hW3⟩ : ∃ W, W = wc.alloc (.cells #[.string ⟨#[32, 122]⟩, .string ⟨#[10]⟩, .string ⟨#[9, 122]⟩, .string ⟨#[]⟩, .string ⟨#[32, 10]⟩] 9) := ⟨_, rfl⟩
          rw [← hW3] at b3 ⊢
          clear hW3 c3 C4 b2
          go_wp2
          go_loopw [23] (fun vk wx => ∃ k : Nat, vk = .int .i64 (k : Int) ∧ k ≤ 2 ∧ Below w.heap.size w wx) (fun vk _ => 2 - (intOf vk).toNat)
          case atStart => exact ⟨0, rfl, Nat.zero_le _, b3⟩
          case round =>
            obtain ⟨k, rfl, hk, hb⟩ := hrel
            by_cases hk2 : k < 2
            · go_wp2_with fail
              refine (CK k _).mono ?_
              rintro e w4 ⟨rfl, hb4⟩
              go_wp2
              go_roundw
              case rel => exact ⟨k + 1, by go_num, by omega, hb.trans (hb4.mono hb.size)⟩
              case measure => simp [intOf]; omega
            · go_wp2_with fail
              refine (CQ _).mono ?_
              rintro e w4 ⟨rfl, hb4⟩
              have hb5 := hb.trans (hb4.mono hb.size)
              go_wp2_with fail
              refine (awake14_true K _).mono ?_
              rintro e w5 ⟨rfl, hb6⟩
              go_wp2
              go_ret
              exact ⟨rfl, hb5.trans (hb6.mono hb5.size)⟩
end Go.Proofs.Ytjpfkddkghfdiaa
