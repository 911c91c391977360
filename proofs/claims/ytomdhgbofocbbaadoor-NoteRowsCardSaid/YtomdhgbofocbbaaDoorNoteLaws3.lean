/- The statements on package note: the walk of NoteRows, over what note.Skip and note.Within return (NoteC). Conditions: those that each theorem writes out. -/
import Derived.Test.YtomdhgbofocbbaaDoorNoteLaws
import Derived.Test.YtomdhgbofocbbaaDoorNoteX
import Derived.Test.YtomdhgbofocbbaaDoorBlanks
import Derived.Test.YtomdhgbofocbbaaDoorFoldRef
import Derived.Deep.LoopGhost
import Derived.Deep.DeepCutAuto
namespace Go.Proofs.YtomdhgbofocbbaaDoor
open Go.RowKit

theorem nxP (z : Nat) (hz : z < 4) : (#[Value.string ⟨#[122]⟩, .string ⟨#[45, 45, 45, 32, 122]⟩, .string ⟨#[46, 46, 46]⟩, .string ⟨#[]⟩] : Array Value)[z]? = some (.string ⟨(nxL.getD z []).toArray⟩) := by
  have key : ∀ j : Fin 4, (#[Value.string ⟨#[122]⟩, .string ⟨#[45, 45, 45, 32, 122]⟩, .string ⟨#[46, 46, 46]⟩, .string ⟨#[]⟩] : Array Value)[j.val]? = some (.string ⟨(nxL.getD j.val []).toArray⟩) := by
    intro j
    match j with
    | ⟨0, _⟩ | ⟨1, _⟩ | ⟨2, _⟩ | ⟨3, _⟩ => exact rfl
    | ⟨i + 4, hi⟩ => exact absurd hi (by omega)
  exact key ⟨z, hz⟩
theorem nx_len : ∀ z : Fin 4, (nxL.getD z.val []).length ≤ 5 := by decide +kernel
set_option maxRecDepth 100000 in
set_option maxHeartbeats 6400000 in
theorem NoteRows_t (K : NoteC) (v1 v2 v3 : Value) (ws ins gs : List Int) (next : Int) (w : World) (h1 : IsInts .i64 w.heap.size w v1 ws) (h2 : IsInts .i64 w.heap.size w v2 ins) (h3 : IsInts .i64 w.heap.size w v3 gs) :
    Calls Tryd.prog 5 #[v1, v2, v3, .bool true, .int .i64 next] w fun e w' => e = .returned (.bool true) ∧ Below w.heap.size w w' := by
  obtain ⟨ao1, cap1, rfl, c1, d1⟩ := h1.slice
  obtain ⟨ao2, cap2, rfl, c2, d2⟩ := h2.slice
  obtain ⟨ao3, cap3, rfl, c3, d3⟩ := h3.slice
  unfold maxLen at d1 d2 d3
  obtain ⟨L, hL⟩ : ∃ L, L = ws.length := ⟨_, rfl⟩
  obtain ⟨M, hM⟩ : ∃ M, M = ins.length := ⟨_, rfl⟩
  obtain ⟨N, hN⟩ : ∃ N, N = gs.length := ⟨_, rfl⟩
  have HL := Lib.hid hL
  have HM := Lib.hid hM
  have HN := Lib.hid hN
  rw [← hL] at h1 c1 ⊢
  rw [← hM] at h2 c2 ⊢
  rw [← hN] at h3 c3 ⊢
  clear hL hM hN
  by_cases hhi : 8 < L
  · clear h1 h2 h3
    go_enter Tryd.func5, Tryd.ntmps5
    go_wp2_with fail
    refine (awake15_true K _).mono ?_
    rintro e w1 ⟨rfl, b1⟩
    go_wp2
    go_ret
    exact ⟨rfl, b1⟩
  have HH : Hid (IsInts .i64 w.heap.size w (.slice ao1 L cap1) ws ∧ IsInts .i64 w.heap.size w (.slice ao2 M cap2) ins ∧ IsInts .i64 w.heap.size w (.slice ao3 N cap3) gs) := ⟨h1, h2, h3⟩
  clear h1 h2 h3
  have hr := lowZ_range next 4 (by omega)
  obtain ⟨z, hz⟩ : ∃ z : Nat, lowZ next 4 = (z : Int) := ⟨(lowZ next 4).toNat, by omega⟩
  rw [hz] at hr
  have CZ := fun W => Low_is (z : Int) next 4 W (by omega) (by omega) hz
  have hz4 : z < 4 := by omega
  clear hz hr
  go_enter Tryd.func5, Tryd.ntmps5
  go_wp2
  go_loopg [11, 12, 13] L (fun g v11 v12 v13 wr => ∃ (S : ByteArray) (o : List (List UInt8 × Nat)) (f b : Bool) (k : Nat), v13 = .int .i64 (k : Int) ∧ v11 = .string S ∧ OutC w.heap.size wr v12 o ∧ k + g = L ∧ S.size ≤ 1 + 12 * k ∧ o.length = k ∧ Below w.heap.size w wr ∧ Hid (KN false 0 S o f b ∧ KN true (-1) S o f b) ∧ Hid (k = 0 → S = ⟨#[119]⟩ ∧ o = []) ∧ Hid (b = (true && decide (0 < k))))
  case atStart => exact ⟨⟨#[119]⟩, [], true, false, 0, rfl, rfl, OutC.nil _ _, by omega, by decide, rfl, Below.refl _ _, ⟨KN.base _ _, KN.base _ _⟩, (fun _ => ⟨rfl, rfl⟩), by show false = _; rfl⟩
  case round =>
    obtain ⟨S, o, f, b, k, rfl, rfl, ho, hkg, hSs, hol, hb, HK, H0, HB⟩ := hrel
    by_cases hkL : k < L
    · obtain ⟨b1, o1, rfl, hlt1, hc1⟩ := IsInts.at HH.out.1 HL.out.symm (by omega)
      have hw0 := hc1 k hkL
      rw [← hb.cell (p := ⟨b1, o1 + k, none⟩) hlt1] at hw0
      obtain ⟨xw, hxw⟩ : ∃ x, ws.getD k 0 = x := ⟨_, rfl⟩
      rw [hxw] at hw0
      obtain ⟨wd, hwd⟩ : ∃ wd, word xw = wd := ⟨_, rfl⟩
      have hmw : wd ∈ wordL := by rw [← hwd]; exact word_mem xw
      have hwl := (word_ok wd hmw).2.2
      obtain ⟨WB, hWB⟩ : ∃ WB : ByteArray, (⟨wd.toArray⟩ : ByteArray) = WB := ⟨_, rfl⟩
      have hWBs : WB.size = wd.length := by rw [← hWB]; exact size_mk wd
      have CW : ∀ W : World, Calls Tryd.prog 10 #[.int .i64 xw] W fun e w' => e = .returned (.string WB) ∧ Below W.heap.size W w' := fun W => by rw [← hWB]; exact WordOf_is wd xw W hwd
      have HWB := Lib.hid hWB
      have HMW := Lib.hid hmw
      clear hxw hwd hmw hWB hc1
      go_upto_if 40 with fail
      go_cut [14] (fun v14 wx => ∃ i : Nat, v14 = .int .i64 (i : Int) ∧ i < 4 ∧ wx = wr)
      case first =>
        by_cases hkM : k < M
        · obtain ⟨b2, o2, rfl, hlt2, hc2⟩ := IsInts.at HH.out.2.1 HM.out.symm (by omega)
          have hw2 := hc2 k hkM
          rw [← hb.cell (p := ⟨b2, o2 + k, none⟩) hlt2] at hw2
          obtain ⟨y2, hy2⟩ : ∃ y, ins.getD k 0 = y := ⟨_, rfl⟩
          rw [hy2] at hw2
          have hr2 := lowZ_range y2 4 (by omega)
          obtain ⟨j, hj⟩ : ∃ j : Nat, lowZ y2 4 = (j : Int) := ⟨(lowZ y2 4).toNat, by omega⟩
          rw [hj] at hr2
          have hj3 : j < 4 := by omega
          have CL := fun W => Low_is (j : Int) y2 4 W (by omega) (by omega) hj
          clear hc2 hy2 hj hr2
          go_wp2_with fail
          refine (CL _).mono ?_
          rintro e w9 ⟨rfl, rfl⟩
          go_wp2
          go_meet
          case rel => exact ⟨j, rfl, hj3, rfl⟩
        · go_wp2
          go_meet
          case rel => exact ⟨0, rfl, by omega, rfl⟩
      case rest =>
        obtain ⟨i, rfl, hi4, rfl⟩ := hcut
        go_upto_if 49 with fail
        go_cut [15] (fun v15 wx => ∃ g : Nat, v15 = .int .i64 (g : Int) ∧ g < 3 ∧ wx = wc)
        case first =>
          by_cases hkN : k < N
          · obtain ⟨b3, o3, rfl, hlt3, hc3⟩ := IsInts.at HH.out.2.2 HN.out.symm (by omega)
            have hw3 := hc3 k hkN
            rw [← hb.cell (p := ⟨b3, o3 + k, none⟩) hlt3] at hw3
            obtain ⟨y3, hy3⟩ : ∃ y, gs.getD k 0 = y := ⟨_, rfl⟩
            rw [hy3] at hw3
            have hr3 := lowZ_range y3 3 (by omega)
            obtain ⟨q, hq⟩ : ∃ q : Nat, lowZ y3 3 = (q : Int) := ⟨(lowZ y3 3).toNat, by omega⟩
            rw [hq] at hr3
            have hq3 : q < 3 := by omega
            have CL := fun W => Low_is (q : Int) y3 3 W (by omega) (by omega) hq
            clear hc3 hy3 hq hr3
            go_wp2_with fail
            refine (CL _).mono ?_
            rintro e w9 ⟨rfl, rfl⟩
            go_wp2
            go_meet
            case rel => exact ⟨q, rfl, hq3, rfl⟩
          · go_wp2
            go_meet
            case rel => exact ⟨0, rfl, by omega, rfl⟩
        case rest =>
          obtain ⟨q, rfl, hq3, rfl⟩ := hcut
          by_cases hk0 : k = 0
          · obtain ⟨e1, e2⟩ := H0.out hk0
            have hkb : ((k : Int) == 0) = true := by simp; omega
            obtain ⟨S1, hS1⟩ : ∃ S1 : ByteArray, S ++ (⟨#[32, 35]⟩ : ByteArray) ++ WB = S1 := ⟨_, rfl⟩
            have hS1e : (⟨#[119]⟩ : ByteArray) ++ mkB ([32, 35] ++ wd) = S1 := by
              rw [← hS1, e1, ← HWB.out, ← mkB_append, ← ByteArray.append_assoc]
              rfl
            have hS1s : S1.size ≤ 1 + 12 * (k + 1) := by rw [← hS1e, ByteArray.size_append, mkB_size, List.length_append]; show 1 + (2 + _) ≤ _; omega
            have HK2 : Hid (KN false 0 S1 (o ++ [(wd, 0)]) true true ∧ KN true (-1) S1 (o ++ [(wd, 0)]) true true) := by
              show _ ∧ _
              rw [← hS1e, e2]
              exact ⟨KN.beside _ _ wd HMW.out, KN.beside _ _ wd HMW.out⟩
            have HB2 : Hid (true = (true && decide (0 < k + 1))) := by show _ = _; rw [decide_eq_true (show 0 < k + 1 by omega)]; rfl
            clear e1 e2 hS1e HK HB H0 hk0
            go_wp2_with fail
            refine (CW _).mono ?_
            rintro e w3 ⟨rfl, hb3⟩
            have o3 := ho.below hb3
            have b3 := hb.trans (hb3.mono hb.size)
            go_wp2_with (at_builtin; refine appendC _ WB wd 0 _ HWB.out rfl rfl _ _ rfl w.heap.size w _ _ rfl rfl o3 b3 (by omega) (Nat.le_refl _) ?_; intro v5 w5 o5 b5)
            go_roundg (L - (k + 1))
            case measure => omega
            case rel => exact ⟨S1, o ++ [(wd, 0)], true, true, k + 1, by go_num, rfl, o5, by omega, hS1s, by rw [List.length_append, hol]; rfl, b5, HK2, (fun e => by omega), HB2⟩
          · have hkb : ((k : Int) == 0) = false := by rw [beq_eq_false_iff_ne]; omega
            obtain ⟨FG, hFG⟩ : ∃ B, mkB (U.feeds q) = B := ⟨_, rfl⟩
            have hFGs : FG.size = q := by rw [← hFG, mkB_size, U.feeds_length]
            have CF : ∀ W : World, Calls Tryd.prog 11 #[.int .i64 (q : Int)] W fun e w' => e = .returned (.string FG) ∧ W = w' := fun W => by rw [← hFG]; exact lawFeeds_is q _ W (by omega) (by omega)
            obtain ⟨BI, hBI⟩ : ∃ B, mkB (blanksB i) = B := ⟨_, rfl⟩
            have hBIs : BI.size = i := by rw [← hBI, mkB_size, blanks_len]
            have CB : ∀ W : World, Calls Tryd.prog 12 #[.int .i64 (i : Int)] W fun e w' => e = .returned (.string BI) ∧ W = w' := fun W => by rw [← hBI]; exact lawBlanks_is i _ W (by omega) (by omega)
            obtain ⟨S1, hS1⟩ : ∃ S1 : ByteArray, S ++ (⟨#[10]⟩ : ByteArray) ++ FG ++ BI ++ (⟨#[35]⟩ : ByteArray) ++ WB ++ (⟨#[32, 32]⟩ : ByteArray) = S1 := ⟨_, rfl⟩
            have hS1e : S ++ mkB (rowP q i wd) = S1 := by
              rw [← hS1, ← hFG, ← hBI, ← HWB.out]
              unfold rowP
              simp only [← mkB_append, ByteArray.append_assoc]
              rfl
            have hS1s : S1.size ≤ 1 + 12 * (k + 1) := by rw [← hS1e, ByteArray.size_append, mkB_size, rowP_len]; omega
            obtain ⟨b', hb'⟩ : ∃ b', (if o = [] then false else b) = b' := ⟨_, rfl⟩
            have HB2 : Hid (b' = (true && decide (0 < k + 1))) := by
              show b' = _
              rw [← hb']
              by_cases hk0 : k = 0
              · obtain ⟨_, e2⟩ := H0.out hk0
                rw [if_pos e2]
                omega
              · have : o ≠ [] := fun e => hk0 (by rw [← hol, e]; rfl)
                rw [if_neg this, HB.out, decide_eq_true (show 0 < k by omega), decide_eq_true (show 0 < k + 1 by omega)]
            have HK2 : Hid (KN false 0 S1 (o ++ [(wd, q)]) false b' ∧ KN true (-1) S1 (o ++ [(wd, q)]) false b') := by
              show _ ∧ _
              rw [← hb', ← hS1e]
              exact ⟨HK.out.1.row q i wd HMW.out, HK.out.2.row q i wd HMW.out⟩
            clear hFG hBI hS1e hb' HK HB H0
            clear hk0
            go_wp2_with fail
            refine (CW _).mono ?_
            rintro e w3 ⟨rfl, hb3⟩
            have o3 := ho.below hb3
            have b3 := hb.trans (hb3.mono hb.size)
            go_wp2_with fail
            refine (CF _).mono ?_
            rintro e w9 ⟨rfl, rfl⟩
            go_wp2_with fail
            refine (CB _).mono ?_
            rintro e w9 ⟨rfl, rfl⟩
            go_wp2_with (at_builtin; refine appendC _ WB wd q _ HWB.out rfl rfl _ _ rfl w.heap.size w _ _ rfl rfl o3 b3 (by omega) (Nat.le_refl _) ?_; intro v5 w5 o5 b5)
            go_roundg (L - (k + 1))
            case measure => omega
            case rel => exact ⟨S1, o ++ [(wd, q)], false, b', k + 1, by go_num, rfl, o5, by omega, hS1s, by rw [List.length_append, hol]; rfl, b5, HK2, (fun e => by omega), HB2⟩
    · obtain rfl : k = L := by omega
      obtain ⟨G1, G2⟩ := HK.out
      obtain ⟨E1, _⟩ := G1.ends (.inr rfl) z hz4
      obtain ⟨E2, E3⟩ := G2.ends (.inl (by decide)) z hz4
      have hX := nxP z hz4
      have hXl := nx_len ⟨z, hz4⟩
      dsimp only at hXl
      obtain ⟨X, hXe⟩ : ∃ X : ByteArray, (⟨(nxL.getD z []).toArray⟩ : ByteArray) = X := ⟨_, rfl⟩
      have hXs : X.size ≤ 5 := by rw [← hXe, size_mk]; exact hXl
      rw [hXe] at hX
      obtain ⟨S9, hS9⟩ : ∃ B : ByteArray, S ++ (⟨#[10]⟩ : ByteArray) ++ X = B := ⟨_, rfl⟩
      have hS9e : S ++ mkB (10 :: nxL.getD z []) = S9 := by
        rw [← hS9, ← hXe, ByteArray.append_assoc]
        congr 1
      have hS9s : S9.size ≤ 1000 := by rw [← hS9, ByteArray.size_append, ByteArray.size_append]; show _ + 1 + _ ≤ _; omega
      rw [hS9e] at E1 E2 E3
      have CK1 := fun W => K.skip o b ((S.size : Int) + 1) 0 S9 1 W hS9s (E1 (.inr (.inr rfl)))
      have hcell : (wr.alloc (.cells #[.string ⟨#[122]⟩, .string ⟨#[45, 45, 45, 32, 122]⟩, .string ⟨#[46, 46, 46]⟩, .string ⟨#[]⟩] 9)).cell? ⟨wr.heap.size, z, none⟩ = some (.string X) := by rw [World.cell?_alloc_mark]; exact hX
      have hbA : Below w.heap.size w (wr.alloc (.cells #[.string ⟨#[122]⟩, .string ⟨#[45, 45, 45, 32, 122]⟩, .string ⟨#[46, 46, 46]⟩, .string ⟨#[]⟩] 9)) := hb.alloc hb.size _
      have hoA := ho.below ((Below.refl _ wr).alloc (Nat.le_refl _) (.cells #[.string ⟨#[122]⟩, .string ⟨#[45, 45, 45, 32, 122]⟩, .string ⟨#[46, 46, 46]⟩, .string ⟨#[]⟩] 9))
      have hbv : b = (true && decide (0 < k)) := HB.out
      have hkL0 : decide ((0 : Int) < (k : Int)) = decide (0 < k) := by rw [Bool.eq_iff_iff, decide_eq_true_eq, decide_eq_true_eq]; omega
      clear hX hXl hXe hS9e G1 G2 E1 HK H0 HB
      go_upto_region 22 with (go_at_call 9; refine (CZ _).mono ?_; rintro e w9 ⟨rfl, rfl⟩)
      obtain ⟨WA, hWA⟩ : ∃ W, W = wr.alloc (.cells #[.string ⟨#[122]⟩, .string ⟨#[45, 45, 45, 32, 122]⟩, .string ⟨#[46, 46, 46]⟩, .string ⟨#[]⟩] 9) := ⟨_, rfl⟩
      rw [← hWA] at hbA hoA ⊢
      clear hWA hcell ho hb
      go_wp2_with fail
      refine (CK1 _).mono ?_
      rintro e w1 ⟨v1, rfl, hv1, hb1⟩
      have h1 := hbA.trans (hb1.mono hbA.size)
      have hwt := hoA.is.go hb1
      by_cases hk0 : 0 < k
      · rw [decide_eq_true hk0] at hbv hkL0
        have hbt : b = true := hbv
        subst hbt
        clear hbv hkL0
        have hzc : (z = 0 ∨ z = 3) ∨ z = 1 ∨ z = 2 := by omega
        rcases hzc with hzz | hzz | hzz
        · have CK2 := fun W => K.within o true ((S.size : Int) + 1) 0 S9 1 (-1) W hS9s (E2 (by omega))
          have z1 : ((z : Int) == 1) = false := by rw [beq_eq_false_iff_ne]; omega
          have z2 : ((z : Int) == 2) = false := by rw [beq_eq_false_iff_ne]; omega
          clear E2 E3 CK1
          go_wp2_with fail
          refine (CK2 _).mono ?_
          rintro e w2 ⟨v2, rfl, hv2, hb2⟩
          have h2 := h1.trans (hb2.mono h1.size)
          have hv1b := hv1.go hb2
          have hwt2 := hwt.go hb2
          go_wp2_with fail
          refine (Comments_is o v1 _ _ hv1b hwt2).mono ?_
          rintro e w3 ⟨rfl, hb3⟩
          have h3 := h2.trans (hb3.mono h2.size)
          have hv2b := hv2.go hb3
          have hwt3 := hwt2.go hb3
          go_wp2_with fail
          refine (Comments_is o v2 _ _ hv2b hwt3).mono ?_
          rintro e w4 ⟨rfl, hb4⟩
          have h4 := h3.trans (hb4.mono h3.size)
          go_wp2_with fail
          refine (awake15_true K _).mono ?_
          rintro e w7 ⟨rfl, hb7⟩
          go_wp2
          go_ret
          exact ⟨rfl, h4.trans (hb7.mono h4.size)⟩
        · have CK2 := fun W => K.within [] false ((S.size : Int) + 1) 5 S9 1 (-1) W hS9s (E3 (by omega) (by first | rfl | trivial))
          have z1 : ((z : Int) == 1) = true := by simp; omega
          have z2 : ((z : Int) == 2) = false := by rw [beq_eq_false_iff_ne]; omega
          clear E2 E3 CK1
          go_wp2_with fail
          refine (CK2 _).mono ?_
          rintro e w2 ⟨v2, rfl, hv2, hb2⟩
          have h2 := h1.trans (hb2.mono h1.size)
          have hv1b := hv1.go hb2
          have hwt2 := hwt.go hb2
          obtain ⟨a2, p2, rfl, q2⟩ := hv2.form
          have hl0 : ([] : List (List UInt8 × Nat)).length = 0 := rfl
          rw [hl0]
          go_wp2_with fail
          refine (Comments_is o v1 _ _ hv1b hwt2).mono ?_
          rintro e w3 ⟨rfl, hb3⟩
          have h3 := h2.trans (hb3.mono h2.size)
          go_wp2_with fail
          refine (awake15_true K _).mono ?_
          rintro e w7 ⟨rfl, hb7⟩
          go_wp2
          go_ret
          exact ⟨rfl, h3.trans (hb7.mono h3.size)⟩
        · have CK2 := fun W => K.within [] false ((S.size : Int) + 1) 5 S9 1 (-1) W hS9s (E3 (by omega) (by first | rfl | trivial))
          have z1 : ((z : Int) == 1) = false := by rw [beq_eq_false_iff_ne]; omega
          have z2 : ((z : Int) == 2) = true := by simp; omega
          clear E2 E3 CK1
          go_wp2_with fail
          refine (CK2 _).mono ?_
          rintro e w2 ⟨v2, rfl, hv2, hb2⟩
          have h2 := h1.trans (hb2.mono h1.size)
          have hv1b := hv1.go hb2
          have hwt2 := hwt.go hb2
          obtain ⟨a2, p2, rfl, q2⟩ := hv2.form
          have hl0 : ([] : List (List UInt8 × Nat)).length = 0 := rfl
          rw [hl0]
          go_wp2_with fail
          refine (Comments_is o v1 _ _ hv1b hwt2).mono ?_
          rintro e w3 ⟨rfl, hb3⟩
          have h3 := h2.trans (hb3.mono h2.size)
          go_wp2_with fail
          refine (awake15_true K _).mono ?_
          rintro e w7 ⟨rfl, hb7⟩
          go_wp2
          go_ret
          exact ⟨rfl, h3.trans (hb7.mono h3.size)⟩
      · rw [decide_eq_false hk0] at hbv hkL0
        have hbt : b = false := hbv
        subst hbt
        clear hbv hkL0
        have hzc : (z = 0 ∨ z = 3) ∨ z = 1 ∨ z = 2 := by omega
        rcases hzc with hzz | hzz | hzz
        · have CK2 := fun W => K.within o false ((S.size : Int) + 1) 0 S9 1 (-1) W hS9s (E2 (by omega))
          have z1 : ((z : Int) == 1) = false := by rw [beq_eq_false_iff_ne]; omega
          have z2 : ((z : Int) == 2) = false := by rw [beq_eq_false_iff_ne]; omega
          clear E2 E3 CK1
          go_wp2_with fail
          refine (CK2 _).mono ?_
          rintro e w2 ⟨v2, rfl, hv2, hb2⟩
          have h2 := h1.trans (hb2.mono h1.size)
          have hv1b := hv1.go hb2
          have hwt2 := hwt.go hb2
          go_wp2_with fail
          refine (Comments_is o v1 _ _ hv1b hwt2).mono ?_
          rintro e w3 ⟨rfl, hb3⟩
          have h3 := h2.trans (hb3.mono h2.size)
          have hv2b := hv2.go hb3
          have hwt3 := hwt2.go hb3
          go_wp2_with fail
          refine (Comments_is o v2 _ _ hv2b hwt3).mono ?_
          rintro e w4 ⟨rfl, hb4⟩
          have h4 := h3.trans (hb4.mono h3.size)
          go_wp2_with fail
          refine (awake15_true K _).mono ?_
          rintro e w7 ⟨rfl, hb7⟩
          go_wp2
          go_ret
          exact ⟨rfl, h4.trans (hb7.mono h4.size)⟩
        · have CK2 := fun W => K.within [] false ((S.size : Int) + 1) 5 S9 1 (-1) W hS9s (E3 (by omega) (by first | rfl | trivial))
          have z1 : ((z : Int) == 1) = true := by simp; omega
          have z2 : ((z : Int) == 2) = false := by rw [beq_eq_false_iff_ne]; omega
          clear E2 E3 CK1
          go_wp2_with fail
          refine (CK2 _).mono ?_
          rintro e w2 ⟨v2, rfl, hv2, hb2⟩
          have h2 := h1.trans (hb2.mono h1.size)
          have hv1b := hv1.go hb2
          have hwt2 := hwt.go hb2
          obtain ⟨a2, p2, rfl, q2⟩ := hv2.form
          have hl0 : ([] : List (List UInt8 × Nat)).length = 0 := rfl
          rw [hl0]
          go_wp2_with fail
          refine (Comments_is o v1 _ _ hv1b hwt2).mono ?_
          rintro e w3 ⟨rfl, hb3⟩
          have h3 := h2.trans (hb3.mono h2.size)
          go_wp2_with fail
          refine (awake15_true K _).mono ?_
          rintro e w7 ⟨rfl, hb7⟩
          go_wp2
          go_ret
          exact ⟨rfl, h3.trans (hb7.mono h3.size)⟩
        · have CK2 := fun W => K.within [] false ((S.size : Int) + 1) 5 S9 1 (-1) W hS9s (E3 (by omega) (by first | rfl | trivial))
          have z1 : ((z : Int) == 1) = false := by rw [beq_eq_false_iff_ne]; omega
          have z2 : ((z : Int) == 2) = true := by simp; omega
          clear E2 E3 CK1
          go_wp2_with fail
          refine (CK2 _).mono ?_
          rintro e w2 ⟨v2, rfl, hv2, hb2⟩
          have h2 := h1.trans (hb2.mono h1.size)
          have hv1b := hv1.go hb2
          have hwt2 := hwt.go hb2
          obtain ⟨a2, p2, rfl, q2⟩ := hv2.form
          have hl0 : ([] : List (List UInt8 × Nat)).length = 0 := rfl
          rw [hl0]
          go_wp2_with fail
          refine (Comments_is o v1 _ _ hv1b hwt2).mono ?_
          rintro e w3 ⟨rfl, hb3⟩
          have h3 := h2.trans (hb3.mono h2.size)
          go_wp2_with fail
          refine (awake15_true K _).mono ?_
          rintro e w7 ⟨rfl, hb7⟩
          go_wp2
          go_ret
          exact ⟨rfl, h3.trans (hb7.mono h3.size)⟩
set_option maxRecDepth 100000 in
set_option maxHeartbeats 6400000 in
theorem NoteRows_f (K : NoteC) (v1 v2 v3 : Value) (ws ins gs : List Int) (next : Int) (w : World) (h1 : IsInts .i64 w.heap.size w v1 ws) (h2 : IsInts .i64 w.heap.size w v2 ins) (h3 : IsInts .i64 w.heap.size w v3 gs) :
    Calls Tryd.prog 5 #[v1, v2, v3, .bool false, .int .i64 next] w fun e w' => e = .returned (.bool true) ∧ Below w.heap.size w w' := by
  obtain ⟨ao1, cap1, rfl, c1, d1⟩ := h1.slice
  obtain ⟨ao2, cap2, rfl, c2, d2⟩ := h2.slice
  obtain ⟨ao3, cap3, rfl, c3, d3⟩ := h3.slice
  unfold maxLen at d1 d2 d3
  obtain ⟨L, hL⟩ : ∃ L, L = ws.length := ⟨_, rfl⟩
  obtain ⟨M, hM⟩ : ∃ M, M = ins.length := ⟨_, rfl⟩
  obtain ⟨N, hN⟩ : ∃ N, N = gs.length := ⟨_, rfl⟩
  have HL := Lib.hid hL
  have HM := Lib.hid hM
  have HN := Lib.hid hN
  rw [← hL] at h1 c1 ⊢
  rw [← hM] at h2 c2 ⊢
  rw [← hN] at h3 c3 ⊢
  clear hL hM hN
  by_cases hhi : 8 < L
  · clear h1 h2 h3
    go_enter Tryd.func5, Tryd.ntmps5
    go_wp2_with fail
    refine (awake15_true K _).mono ?_
    rintro e w1 ⟨rfl, b1⟩
    go_wp2
    go_ret
    exact ⟨rfl, b1⟩
  have HH : Hid (IsInts .i64 w.heap.size w (.slice ao1 L cap1) ws ∧ IsInts .i64 w.heap.size w (.slice ao2 M cap2) ins ∧ IsInts .i64 w.heap.size w (.slice ao3 N cap3) gs) := ⟨h1, h2, h3⟩
  clear h1 h2 h3
  have hr := lowZ_range next 4 (by omega)
  obtain ⟨z, hz⟩ : ∃ z : Nat, lowZ next 4 = (z : Int) := ⟨(lowZ next 4).toNat, by omega⟩
  rw [hz] at hr
  have CZ := fun W => Low_is (z : Int) next 4 W (by omega) (by omega) hz
  have hz4 : z < 4 := by omega
  clear hz hr
  go_enter Tryd.func5, Tryd.ntmps5
  go_wp2
  go_loopg [11, 12, 13] L (fun g v11 v12 v13 wr => ∃ (S : ByteArray) (o : List (List UInt8 × Nat)) (f b : Bool) (k : Nat), v13 = .int .i64 (k : Int) ∧ v11 = .string S ∧ OutC w.heap.size wr v12 o ∧ k + g = L ∧ S.size ≤ 1 + 12 * k ∧ o.length = k ∧ Below w.heap.size w wr ∧ Hid (KN false 0 S o f b ∧ KN true (-1) S o f b) ∧ Hid (k = 0 → S = ⟨#[119]⟩ ∧ o = []) ∧ Hid (b = (false && decide (0 < k))))
  case atStart => exact ⟨⟨#[119]⟩, [], true, false, 0, rfl, rfl, OutC.nil _ _, by omega, by decide, rfl, Below.refl _ _, ⟨KN.base _ _, KN.base _ _⟩, (fun _ => ⟨rfl, rfl⟩), by show false = _; rfl⟩
  case round =>
    obtain ⟨S, o, f, b, k, rfl, rfl, ho, hkg, hSs, hol, hb, HK, H0, HB⟩ := hrel
    by_cases hkL : k < L
    · obtain ⟨b1, o1, rfl, hlt1, hc1⟩ := IsInts.at HH.out.1 HL.out.symm (by omega)
      have hw0 := hc1 k hkL
      rw [← hb.cell (p := ⟨b1, o1 + k, none⟩) hlt1] at hw0
      obtain ⟨xw, hxw⟩ : ∃ x, ws.getD k 0 = x := ⟨_, rfl⟩
      rw [hxw] at hw0
      obtain ⟨wd, hwd⟩ : ∃ wd, word xw = wd := ⟨_, rfl⟩
      have hmw : wd ∈ wordL := by rw [← hwd]; exact word_mem xw
      have hwl := (word_ok wd hmw).2.2
      obtain ⟨WB, hWB⟩ : ∃ WB : ByteArray, (⟨wd.toArray⟩ : ByteArray) = WB := ⟨_, rfl⟩
      have hWBs : WB.size = wd.length := by rw [← hWB]; exact size_mk wd
      have CW : ∀ W : World, Calls Tryd.prog 10 #[.int .i64 xw] W fun e w' => e = .returned (.string WB) ∧ Below W.heap.size W w' := fun W => by rw [← hWB]; exact WordOf_is wd xw W hwd
      have HWB := Lib.hid hWB
      have HMW := Lib.hid hmw
      clear hxw hwd hmw hWB hc1
      go_upto_if 40 with fail
      go_cut [14] (fun v14 wx => ∃ i : Nat, v14 = .int .i64 (i : Int) ∧ i < 4 ∧ wx = wr)
      case first =>
        by_cases hkM : k < M
        · obtain ⟨b2, o2, rfl, hlt2, hc2⟩ := IsInts.at HH.out.2.1 HM.out.symm (by omega)
          have hw2 := hc2 k hkM
          rw [← hb.cell (p := ⟨b2, o2 + k, none⟩) hlt2] at hw2
          obtain ⟨y2, hy2⟩ : ∃ y, ins.getD k 0 = y := ⟨_, rfl⟩
          rw [hy2] at hw2
          have hr2 := lowZ_range y2 4 (by omega)
          obtain ⟨j, hj⟩ : ∃ j : Nat, lowZ y2 4 = (j : Int) := ⟨(lowZ y2 4).toNat, by omega⟩
          rw [hj] at hr2
          have hj3 : j < 4 := by omega
          have CL := fun W => Low_is (j : Int) y2 4 W (by omega) (by omega) hj
          clear hc2 hy2 hj hr2
          go_wp2_with fail
          refine (CL _).mono ?_
          rintro e w9 ⟨rfl, rfl⟩
          go_wp2
          go_meet
          case rel => exact ⟨j, rfl, hj3, rfl⟩
        · go_wp2
          go_meet
          case rel => exact ⟨0, rfl, by omega, rfl⟩
      case rest =>
        obtain ⟨i, rfl, hi4, rfl⟩ := hcut
        go_upto_if 49 with fail
        go_cut [15] (fun v15 wx => ∃ g : Nat, v15 = .int .i64 (g : Int) ∧ g < 3 ∧ wx = wc)
        case first =>
          by_cases hkN : k < N
          · obtain ⟨b3, o3, rfl, hlt3, hc3⟩ := IsInts.at HH.out.2.2 HN.out.symm (by omega)
            have hw3 := hc3 k hkN
            rw [← hb.cell (p := ⟨b3, o3 + k, none⟩) hlt3] at hw3
            obtain ⟨y3, hy3⟩ : ∃ y, gs.getD k 0 = y := ⟨_, rfl⟩
            rw [hy3] at hw3
            have hr3 := lowZ_range y3 3 (by omega)
            obtain ⟨q, hq⟩ : ∃ q : Nat, lowZ y3 3 = (q : Int) := ⟨(lowZ y3 3).toNat, by omega⟩
            rw [hq] at hr3
            have hq3 : q < 3 := by omega
            have CL := fun W => Low_is (q : Int) y3 3 W (by omega) (by omega) hq
            clear hc3 hy3 hq hr3
            go_wp2_with fail
            refine (CL _).mono ?_
            rintro e w9 ⟨rfl, rfl⟩
            go_wp2
            go_meet
            case rel => exact ⟨q, rfl, hq3, rfl⟩
          · go_wp2
            go_meet
            case rel => exact ⟨0, rfl, by omega, rfl⟩
        case rest =>
          obtain ⟨q, rfl, hq3, rfl⟩ := hcut
          obtain ⟨FG, hFG⟩ : ∃ B, mkB (U.feeds q) = B := ⟨_, rfl⟩
          have hFGs : FG.size = q := by rw [← hFG, mkB_size, U.feeds_length]
          have CF : ∀ W : World, Calls Tryd.prog 11 #[.int .i64 (q : Int)] W fun e w' => e = .returned (.string FG) ∧ W = w' := fun W => by rw [← hFG]; exact lawFeeds_is q _ W (by omega) (by omega)
          obtain ⟨BI, hBI⟩ : ∃ B, mkB (blanksB i) = B := ⟨_, rfl⟩
          have hBIs : BI.size = i := by rw [← hBI, mkB_size, blanks_len]
          have CB : ∀ W : World, Calls Tryd.prog 12 #[.int .i64 (i : Int)] W fun e w' => e = .returned (.string BI) ∧ W = w' := fun W => by rw [← hBI]; exact lawBlanks_is i _ W (by omega) (by omega)
          obtain ⟨S1, hS1⟩ : ∃ S1 : ByteArray, S ++ (⟨#[10]⟩ : ByteArray) ++ FG ++ BI ++ (⟨#[35]⟩ : ByteArray) ++ WB ++ (⟨#[32, 32]⟩ : ByteArray) = S1 := ⟨_, rfl⟩
          have hS1e : S ++ mkB (rowP q i wd) = S1 := by
            rw [← hS1, ← hFG, ← hBI, ← HWB.out]
            unfold rowP
            simp only [← mkB_append, ByteArray.append_assoc]
            rfl
          have hS1s : S1.size ≤ 1 + 12 * (k + 1) := by rw [← hS1e, ByteArray.size_append, mkB_size, rowP_len]; omega
          obtain ⟨b', hb'⟩ : ∃ b', (if o = [] then false else b) = b' := ⟨_, rfl⟩
          have HB2 : Hid (b' = (false && decide (0 < k + 1))) := by
            show b' = _
            rw [← hb']
            by_cases hk0 : k = 0
            · obtain ⟨_, e2⟩ := H0.out hk0
              rw [if_pos e2]; rfl
            · have : o ≠ [] := fun e => hk0 (by rw [← hol, e]; rfl)
              rw [if_neg this, HB.out, decide_eq_true (show 0 < k by omega), decide_eq_true (show 0 < k + 1 by omega)]
          have HK2 : Hid (KN false 0 S1 (o ++ [(wd, q)]) false b' ∧ KN true (-1) S1 (o ++ [(wd, q)]) false b') := by
            show _ ∧ _
            rw [← hb', ← hS1e]
            exact ⟨HK.out.1.row q i wd HMW.out, HK.out.2.row q i wd HMW.out⟩
          clear hFG hBI hS1e hb' HK HB H0
          by_cases hk0 : k = 0
          · have hkb : ((k : Int) == 0) = true := by simp; omega
            clear hk0
            go_wp2_with fail
            refine (CW _).mono ?_
            rintro e w3 ⟨rfl, hb3⟩
            have o3 := ho.below hb3
            have b3 := hb.trans (hb3.mono hb.size)
            go_wp2_with fail
            refine (CF _).mono ?_
            rintro e w9 ⟨rfl, rfl⟩
            go_wp2_with fail
            refine (CB _).mono ?_
            rintro e w9 ⟨rfl, rfl⟩
            go_wp2_with (at_builtin; refine appendC _ WB wd q _ HWB.out rfl rfl _ _ rfl w.heap.size w _ _ rfl rfl o3 b3 (by omega) (Nat.le_refl _) ?_; intro v5 w5 o5 b5)
            go_roundg (L - (k + 1))
            case measure => omega
            case rel => exact ⟨S1, o ++ [(wd, q)], false, b', k + 1, by go_num, rfl, o5, by omega, hS1s, by rw [List.length_append, hol]; rfl, b5, HK2, (fun e => by omega), HB2⟩
          · have hkb : ((k : Int) == 0) = false := by rw [beq_eq_false_iff_ne]; omega
            clear hk0
            go_wp2_with fail
            refine (CW _).mono ?_
            rintro e w3 ⟨rfl, hb3⟩
            have o3 := ho.below hb3
            have b3 := hb.trans (hb3.mono hb.size)
            go_wp2_with fail
            refine (CF _).mono ?_
            rintro e w9 ⟨rfl, rfl⟩
            go_wp2_with fail
            refine (CB _).mono ?_
            rintro e w9 ⟨rfl, rfl⟩
            go_wp2_with (at_builtin; refine appendC _ WB wd q _ HWB.out rfl rfl _ _ rfl w.heap.size w _ _ rfl rfl o3 b3 (by omega) (Nat.le_refl _) ?_; intro v5 w5 o5 b5)
            go_roundg (L - (k + 1))
            case measure => omega
            case rel => exact ⟨S1, o ++ [(wd, q)], false, b', k + 1, by go_num, rfl, o5, by omega, hS1s, by rw [List.length_append, hol]; rfl, b5, HK2, (fun e => by omega), HB2⟩
    · obtain rfl : k = L := by omega
      obtain ⟨G1, G2⟩ := HK.out
      obtain ⟨E1, _⟩ := G1.ends (.inr rfl) z hz4
      obtain ⟨E2, E3⟩ := G2.ends (.inl (by decide)) z hz4
      have hX := nxP z hz4
      have hXl := nx_len ⟨z, hz4⟩
      dsimp only at hXl
      obtain ⟨X, hXe⟩ : ∃ X : ByteArray, (⟨(nxL.getD z []).toArray⟩ : ByteArray) = X := ⟨_, rfl⟩
      have hXs : X.size ≤ 5 := by rw [← hXe, size_mk]; exact hXl
      rw [hXe] at hX
      obtain ⟨S9, hS9⟩ : ∃ B : ByteArray, S ++ (⟨#[10]⟩ : ByteArray) ++ X = B := ⟨_, rfl⟩
      have hS9e : S ++ mkB (10 :: nxL.getD z []) = S9 := by
        rw [← hS9, ← hXe, ByteArray.append_assoc]
        congr 1
      have hS9s : S9.size ≤ 1000 := by rw [← hS9, ByteArray.size_append, ByteArray.size_append]; show _ + 1 + _ ≤ _; omega
      rw [hS9e] at E1 E2 E3
      have CK1 := fun W => K.skip o b ((S.size : Int) + 1) 0 S9 1 W hS9s (E1 (.inr (.inr rfl)))
      have hcell : (wr.alloc (.cells #[.string ⟨#[122]⟩, .string ⟨#[45, 45, 45, 32, 122]⟩, .string ⟨#[46, 46, 46]⟩, .string ⟨#[]⟩] 9)).cell? ⟨wr.heap.size, z, none⟩ = some (.string X) := by rw [World.cell?_alloc_mark]; exact hX
      have hbA : Below w.heap.size w (wr.alloc (.cells #[.string ⟨#[122]⟩, .string ⟨#[45, 45, 45, 32, 122]⟩, .string ⟨#[46, 46, 46]⟩, .string ⟨#[]⟩] 9)) := hb.alloc hb.size _
      have hoA := ho.below ((Below.refl _ wr).alloc (Nat.le_refl _) (.cells #[.string ⟨#[122]⟩, .string ⟨#[45, 45, 45, 32, 122]⟩, .string ⟨#[46, 46, 46]⟩, .string ⟨#[]⟩] 9))
      have hbv : b = (false && decide (0 < k)) := HB.out
      have hkL0 : decide ((0 : Int) < (k : Int)) = decide (0 < k) := by rw [Bool.eq_iff_iff, decide_eq_true_eq, decide_eq_true_eq]; omega
      clear hX hXl hXe hS9e G1 G2 E1 HK H0 HB
      go_upto_region 22 with (go_at_call 9; refine (CZ _).mono ?_; rintro e w9 ⟨rfl, rfl⟩)
      obtain ⟨WA, hWA⟩ : ∃ W, W = wr.alloc (.cells #[.string ⟨#[122]⟩, .string ⟨#[45, 45, 45, 32, 122]⟩, .string ⟨#[46, 46, 46]⟩, .string ⟨#[]⟩] 9) := ⟨_, rfl⟩
      rw [← hWA] at hbA hoA ⊢
      clear hWA hcell ho hb
      go_wp2_with fail
      refine (CK1 _).mono ?_
      rintro e w1 ⟨v1, rfl, hv1, hb1⟩
      have h1 := hbA.trans (hb1.mono hbA.size)
      have hwt := hoA.is.go hb1
      have hbt : b = false := hbv
      subst hbt
      clear hbv hkL0
      have hzc : (z = 0 ∨ z = 3) ∨ z = 1 ∨ z = 2 := by omega
      rcases hzc with hzz | hzz | hzz
      · have CK2 := fun W => K.within o false ((S.size : Int) + 1) 0 S9 1 (-1) W hS9s (E2 (by omega))
        have z1 : ((z : Int) == 1) = false := by rw [beq_eq_false_iff_ne]; omega
        have z2 : ((z : Int) == 2) = false := by rw [beq_eq_false_iff_ne]; omega
        clear E2 E3 CK1
        go_wp2_with fail
        refine (CK2 _).mono ?_
        rintro e w2 ⟨v2, rfl, hv2, hb2⟩
        have h2 := h1.trans (hb2.mono h1.size)
        have hv1b := hv1.go hb2
        have hwt2 := hwt.go hb2
        go_wp2_with fail
        refine (Comments_is o v1 _ _ hv1b hwt2).mono ?_
        rintro e w3 ⟨rfl, hb3⟩
        have h3 := h2.trans (hb3.mono h2.size)
        have hv2b := hv2.go hb3
        have hwt3 := hwt2.go hb3
        go_wp2_with fail
        refine (Comments_is o v2 _ _ hv2b hwt3).mono ?_
        rintro e w4 ⟨rfl, hb4⟩
        have h4 := h3.trans (hb4.mono h3.size)
        go_wp2_with fail
        refine (awake15_true K _).mono ?_
        rintro e w7 ⟨rfl, hb7⟩
        go_wp2
        go_ret
        exact ⟨rfl, h4.trans (hb7.mono h4.size)⟩
      · have CK2 := fun W => K.within [] false ((S.size : Int) + 1) 5 S9 1 (-1) W hS9s (E3 (by omega) (by first | rfl | trivial))
        have z1 : ((z : Int) == 1) = true := by simp; omega
        have z2 : ((z : Int) == 2) = false := by rw [beq_eq_false_iff_ne]; omega
        clear E2 E3 CK1
        go_wp2_with fail
        refine (CK2 _).mono ?_
        rintro e w2 ⟨v2, rfl, hv2, hb2⟩
        have h2 := h1.trans (hb2.mono h1.size)
        have hv1b := hv1.go hb2
        have hwt2 := hwt.go hb2
        obtain ⟨a2, p2, rfl, q2⟩ := hv2.form
        have hl0 : ([] : List (List UInt8 × Nat)).length = 0 := rfl
        rw [hl0]
        go_wp2_with fail
        refine (Comments_is o v1 _ _ hv1b hwt2).mono ?_
        rintro e w3 ⟨rfl, hb3⟩
        have h3 := h2.trans (hb3.mono h2.size)
        go_wp2_with fail
        refine (awake15_true K _).mono ?_
        rintro e w7 ⟨rfl, hb7⟩
        go_wp2
        go_ret
        exact ⟨rfl, h3.trans (hb7.mono h3.size)⟩
      · have CK2 := fun W => K.within [] false ((S.size : Int) + 1) 5 S9 1 (-1) W hS9s (E3 (by omega) (by first | rfl | trivial))
        have z1 : ((z : Int) == 1) = false := by rw [beq_eq_false_iff_ne]; omega
        have z2 : ((z : Int) == 2) = true := by simp; omega
        clear E2 E3 CK1
        go_wp2_with fail
        refine (CK2 _).mono ?_
        rintro e w2 ⟨v2, rfl, hv2, hb2⟩
        have h2 := h1.trans (hb2.mono h1.size)
        have hv1b := hv1.go hb2
        have hwt2 := hwt.go hb2
        obtain ⟨a2, p2, rfl, q2⟩ := hv2.form
        have hl0 : ([] : List (List UInt8 × Nat)).length = 0 := rfl
        rw [hl0]
        go_wp2_with fail
        refine (Comments_is o v1 _ _ hv1b hwt2).mono ?_
        rintro e w3 ⟨rfl, hb3⟩
        have h3 := h2.trans (hb3.mono h2.size)
        go_wp2_with fail
        refine (awake15_true K _).mono ?_
        rintro e w7 ⟨rfl, hb7⟩
        go_wp2
        go_ret
        exact ⟨rfl, h3.trans (hb7.mono h3.size)⟩
theorem NoteRows_walk (K : NoteC) (v1 v2 v3 : Value) (ws ins gs : List Int) (beside : Bool) (next : Int) (w : World) (h1 : IsInts .i64 w.heap.size w v1 ws) (h2 : IsInts .i64 w.heap.size w v2 ins) (h3 : IsInts .i64 w.heap.size w v3 gs) :
    Calls Tryd.prog 5 #[v1, v2, v3, .bool beside, .int .i64 next] w fun e w' => e = .returned (.bool true) ∧ Below w.heap.size w w' := by
  cases beside with
  | true => exact NoteRows_t K v1 v2 v3 ws ins gs next w h1 h2 h3
  | false => exact NoteRows_f K v1 v2 v3 ws ins gs next w h1 h2 h3
end Go.Proofs.YtomdhgbofocbbaaDoor
