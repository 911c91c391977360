/- The statement QuotRows on package quot: the walk, over what quot.Read returns (QuotC): for every input the law returns true. Conditions: what three of the library's variables hold (Env). -/
import Derived.Test.YthleebnfbdcobaaDoorQuotLaws
import Derived.Test.YthleebnfbdcobaaDoorBlanks
import Derived.Test.YthleebnfbdcobaaDoorFoldRef
import Derived.Deep.LoopGhost
import Derived.Deep.DeepCutAuto
namespace Go.Proofs.YthleebnfbdcobaaDoor
open Go.RowKit

/-- A word is read, and the rows go on: what is behind, and how the text is put together. -/
theorem rows_on {S1 : ByteArray} {R : List (List UInt8 × Bool)} {m wv : List UInt8} (h : KQ 34 0 S1 false R m wv) (on : Bool) (hw : on = true → wv = []) (S2 : ByteArray) (hS : S2 = if on = true then S1 ++ ⟨#[92]⟩ else S1) : KQ 34 0 (S2 ++ ⟨#[10]⟩) true (R ++ [(m, on)]) [] [] := by
  cases on with
  | true =>
    rw [if_pos rfl] at hS
    rw [hS]
    have := h.goes
    rw [hw rfl, List.append_nil] at this
    exact this
  | false =>
    rw [if_neg (by decide)] at hS
    rw [hS]
    exact h.lf
theorem rows_blank {S : ByteArray} {R : List (List UInt8 × Bool)} {m : List UInt8} {on : Bool} {j : Nat} (h : KQ 34 0 S true (R ++ [(m, on)] ++ blanksQ j) [] []) : KQ 34 0 (S ++ mkB (blanksB j) ++ ⟨#[10]⟩) true (R ++ [(m, on)] ++ blanksQ (j + 1)) [] [] := by
  rw [blanksQ_succ, ← List.append_assoc]
  exact h.blank j
theorem rows_in {S : ByteArray} {R : List (List UInt8 × Bool)} (h : KQ 34 0 S true R [] []) (i : Nat) (hi : 0 < i) (c : Bool) (S2 : ByteArray) (hS : S2 = if c = true then S ++ mkB (blanksB i) ++ ⟨#[9]⟩ else S ++ mkB (blanksB i)) : KW 34 0 S2 R := by
  cases c with
  | true =>
    rw [if_pos rfl] at hS
    have e : S2 = S ++ mkB (blanksB i ++ [9]) := by
      rw [hS, ByteArray.append_assoc, ← mkB_append]; rfl
    rw [e]
    exact h.into (Int.le_refl _) i hi [9] (by intro b hb; have : b = 9 := (by simpa using hb); rw [this]; decide)
  | false =>
    rw [if_neg (by decide)] at hS
    have e : S2 = S ++ mkB (blanksB i ++ []) := by rw [hS, List.append_nil]
    rw [e]
    exact h.into (Int.le_refl _) i hi [] (by intro b hb; cases hb)
theorem rows_white {S : ByteArray} {R : List (List UInt8 × Bool)} {m : List UInt8} (h : KQ 34 0 S false R m []) : KQ 34 0 (S ++ ⟨#[32, 9, 32]⟩) false R m [32, 9, 32] :=
  h.whites [32, 9, 32] (by intro b hb; simp at hb; rcases hb with rfl | rfl | rfl <;> decide)
theorem rows_stop {S : ByteArray} {R : List (List UInt8 × Bool)} {m V : List UInt8} (h : KQ 34 0 S false R m []) (hV : QW R V) (hm : m ≠ []) : QuoZ (S ++ ⟨#[34]⟩) 0 0 (V ++ m) ((S.size : Int) + 1) R.isEmpty 0 := by
  have := h.stop ByteArray.empty (.inr rfl) (fun e => by cases e)
  rw [List.append_nil, hV.last hm, ByteArray.append_empty] at this
  exact this

/-- What is wanted, a row further. -/
theorem rows_want (V m : List UInt8) (on : Bool) (j : Nat) (V1 V2 FD : ByteArray) (hV1 : V1 = ⟨(V ++ m).toArray⟩) (hF : mkB (U.feeds j) = FD) (h2 : V2 = if on = true then V1 ++ FD else if j = 0 then V1 ++ ⟨#[32]⟩ ++ FD else V1 ++ FD) : V2 = ⟨(V ++ m ++ if on = true then U.feeds j else U.sep j).toArray⟩ := by
  have hm : (⟨(V ++ m).toArray⟩ : ByteArray) ++ mkB (U.feeds j) = ⟨(V ++ m ++ U.feeds j).toArray⟩ := mkB_append (V ++ m) (U.feeds j)
  subst hV1
  rw [← hF] at h2
  by_cases hon : on = true
  · rw [if_pos hon] at h2 ⊢
    rw [h2, hm]
  · rw [if_neg hon] at h2 ⊢
    by_cases h0 : j = 0
    · rw [if_pos h0] at h2
      subst h0
      rw [h2, show (⟨(V ++ m).toArray⟩ : ByteArray) ++ ⟨#[32]⟩ ++ mkB (U.feeds 0) = mkB (V ++ m) ++ mkB [32] ++ mkB [] from rfl, mkB_append, mkB_append, List.append_nil]
      rfl
    · rw [if_neg h0] at h2
      rw [h2, hm, U.sep_pos h0]

set_option maxRecDepth 100000 in
set_option maxHeartbeats 12800000 in
theorem QuotRows_walk (K : QuotC) (v1 v2 v3 v4 v5 : Value) (ws gs is : List Int) (os hs : List Bool) (w : World) (h1 : IsInts .i64 w.heap.size w v1 ws) (h2 : IsInts .i64 w.heap.size w v2 gs) (h3 : IsInts .i64 w.heap.size w v3 is) (h4 : IsBools w.heap.size w v4 os) (h5 : IsBools w.heap.size w v5 hs) (hE : Env w) :
    Calls Tryd.prog 3 #[v1, v2, v3, v4, v5] w fun e w' => e = .returned (.bool true) ∧ Below w.heap.size w w' := by
  obtain ⟨ao1, cap1, rfl, c1, d1⟩ := h1.slice
  obtain ⟨ao2, cap2, rfl, c2, d2⟩ := h2.slice
  obtain ⟨ao3, cap3, rfl, c3, d3⟩ := h3.slice
  obtain ⟨ao4, cap4, rfl, c4, d4⟩ := h4.slice
  obtain ⟨ao5, cap5, rfl, c5, d5⟩ := h5.slice
  unfold maxLen at d1 d2 d3 d4 d5
  obtain ⟨L, hL⟩ : ∃ L, L = ws.length := ⟨_, rfl⟩
  obtain ⟨M, hM⟩ : ∃ M, M = gs.length := ⟨_, rfl⟩
  obtain ⟨N, hN⟩ : ∃ N, N = is.length := ⟨_, rfl⟩
  obtain ⟨P, hP⟩ : ∃ P, P = os.length := ⟨_, rfl⟩
  obtain ⟨Q, hQ⟩ : ∃ Q, Q = hs.length := ⟨_, rfl⟩
  rw [← hL] at h1 c1 ⊢
  rw [← hM] at h2 c2 ⊢
  rw [← hN] at h3 c3 ⊢
  rw [← hP] at h4 c4 ⊢
  rw [← hQ] at h5 c5 ⊢
  have HL := Lib.hid hL
  have HM := Lib.hid hM
  have HN := Lib.hid hN
  have HP := Lib.hid hP
  have HQ := Lib.hid hQ
  clear hL hM hN hP hQ
  by_cases hl : L < 1
  · go_enter Tryd.func3, Tryd.ntmps3
    go_wp2_with fail
    refine (awake12_true K _ hE).mono ?_
    rintro e w1 ⟨rfl, b1⟩
    go_wp2
    go_ret
    exact ⟨rfl, b1⟩
  by_cases hl8 : 8 < L
  · go_enter Tryd.func3, Tryd.ntmps3
    go_wp2_with fail
    refine (awake12_true K _ hE).mono ?_
    rintro e w1 ⟨rfl, b1⟩
    go_wp2
    go_ret
    exact ⟨rfl, b1⟩
  have HH : Hid (IsInts .i64 w.heap.size w (.slice ao2 M cap2) gs ∧ IsInts .i64 w.heap.size w (.slice ao3 N cap3) is ∧ IsBools w.heap.size w (.slice ao4 P cap4) os ∧ IsBools w.heap.size w (.slice ao5 Q cap5) hs) := ⟨h2, h3, h4, h5⟩
  clear h2 h3 h4 h5
  obtain ⟨b1, o1, rfl, hlt1, hc1⟩ := IsInts.at h1 HL.out.symm (by omega)
  have HC1 := Lib.hid hc1
  clear h1 hc1
  go_enter Tryd.func3, Tryd.ntmps3
  go_wp2
  go_loopg [11, 12, 13] L (fun g v11 v12 v13 wr => ∃ (S : ByteArray) (V : List UInt8) (k : Nat) (R : List (List UInt8 × Bool)), v13 = .int .i64 (k : Int) ∧ v11 = .string S ∧ v12 = .string ⟨V.toArray⟩ ∧ k + g = L ∧ k < L ∧ S.size ≤ 1 + 20 * k ∧ V.length ≤ 8 * k ∧ Below w.heap.size w wr ∧ Hid (R.isEmpty = decide (k = 0)) ∧ Hid (KW 34 0 S R) ∧ Hid (QW R V))
  case atStart => exact ⟨_, [], 0, [], rfl, rfl, rfl, by omega, by omega, by decide, by decide, Below.refl _ _, by show _ = _; rfl, (KQ.first 34 0 (.inr rfl)).lead, QW.nil⟩
  case round =>
    obtain ⟨S, V, k, R, rfl, rfl, rfl, hkg, hkL, hSs, hVs, hb, HO, HK, HV⟩ := hrel
    have hw0 := HC1.out k hkL
    rw [← hb.cell (p := ⟨b1, o1 + k, none⟩) hlt1] at hw0
    obtain ⟨x, hx⟩ : ∃ x, ws.getD k 0 = x := ⟨_, rfl⟩
    rw [hx] at hw0
    obtain ⟨m, hm⟩ : ∃ m, word x = m := ⟨_, rfl⟩
    have hmem : m ∈ wordL := by rw [← hm]; exact word_mem x
    obtain ⟨m1, m2, m3⟩ := word_lit m hmem
    obtain ⟨Bw, hBw⟩ : ∃ Bw : ByteArray, mkB m = Bw := ⟨_, rfl⟩
    have hBs : Bw.size = m.length := by rw [← hBw]; exact size_mk m
    have CWk : ∀ W : World, Calls Tryd.prog 6 #[.int .i64 x] W fun e w' => e = .returned (.string Bw) ∧ Below W.heap.size W w' := fun W => by rw [← hBw]; exact WordOf_is m x W hm
    obtain ⟨S1, hS1⟩ : ∃ S1 : ByteArray, S ++ Bw = S1 := ⟨_, rfl⟩
    have hS1s : S1.size = S.size + Bw.size := by rw [← hS1, ByteArray.size_append]
    obtain ⟨V1, hV1⟩ : ∃ V1 : ByteArray, (⟨V.toArray⟩ : ByteArray) ++ Bw = V1 := ⟨_, rfl⟩
    have hV1l : V1 = ⟨(V ++ m).toArray⟩ := by rw [← hV1, ← hBw]; exact mkB_append V m
    have hV1s : V1.size = (V ++ m).length := by rw [hV1l, size_mk]
    rw [List.length_append] at hV1s
    have HK1 : Hid (KQ 34 0 S1 false R m []) := by
      show KQ 34 0 S1 false R m []
      rw [← hS1, ← hBw]
      exact HK.out.word m m1 (fun b hb => (m3 b hb).1)
    have HVL := Lib.hid hV1l
    have HM1 := Lib.hid m1
    have hVz : (⟨V.toArray⟩ : ByteArray).size = V.length := size_mk V
    clear hx hm hmem hBw m1 m3 HK hV1l
    by_cases hlast : k + 1 = L
    · have hz := rows_stop HK1.out HV.out HM1.out
      obtain ⟨T1, hT1⟩ : ∃ T1 : ByteArray, S1 ++ ⟨#[34]⟩ = T1 := ⟨_, rfl⟩
      have hTs : T1.size = S1.size + 1 := by rw [← hT1, ByteArray.size_append]; rfl
      rw [hT1] at hz
      obtain ⟨q, hq⟩ : ∃ q, R.isEmpty = q := ⟨_, rfl⟩
      rw [hq] at hz
      have hqL : ((L : Int) == 1) = q := by rw [← hq, HO.out, Bool.eq_iff_iff]; simp; omega
      have CR : ∀ W : World, Env W → Calls Tryd.prog 10 #[.string T1, .int .i64 0, .int .i64 0] W fun e w' => e = .returned (.tuple #[.string V1, .int .i64 ((S1.size : Int) + 1), .bool q, .int .i64 0]) ∧ Below W.heap.size W w' := fun W hW => by
        rw [HVL.out]
        exact K.read (V ++ m) ((S1.size : Int) + 1) q 0 T1 0 0 W (by omega) hW hz
      have hlast2 : ((k : Int) == (L : Int) - 1) = true := by simp; omega
      clear hz hq
      go_wp2_with fail
      refine (CWk _).mono ?_
      rintro e w2 ⟨rfl, c9⟩
      have hb2 := hb.trans (c9.mono hb.size)
      go_wp2_with fail
      refine (CR _ (hE.below hb2)).mono ?_
      rintro e w3 ⟨rfl, c10⟩
      have hb3 := hb2.trans (c10.mono hb2.size)
      go_wp2_with fail
      refine (awake12_true K _ (hE.below hb3)).mono ?_
      rintro e w4 ⟨rfl, c11⟩
      go_wp2
      go_ret
      exact ⟨rfl, hb3.trans (c11.mono hb3.size)⟩
    have hlastb : ((k : Int) == (L : Int) - 1) = false := by simp; omega
    have hk1 : k + 1 < L := by omega
    go_wp2_with fail
    refine (CWk _).mono ?_
    rintro e w2 ⟨rfl, c9⟩
    have hb2 := hb.trans (c9.mono hb.size)
    clear c9 hw0 hb CWk
    go_upto_if 57 with fail
    go_cut [15] (fun v15 wx => ∃ g : Nat, v15 = .int .i64 (g : Int) ∧ g < 3 ∧ wx = w2)
    case first =>
      by_cases hkM : k < M
      · obtain ⟨b2, o2, rfl, hlt2, hc2⟩ := IsInts.at HH.out.1 HM.out.symm (by omega)
        have hw2 := hc2 k hkM
        rw [← hb2.cell (p := ⟨b2, o2 + k, none⟩) hlt2] at hw2
        obtain ⟨y2, hy2⟩ : ∃ y, gs.getD k 0 = y := ⟨_, rfl⟩
        rw [hy2] at hw2
        have hr2 := lowZ_range y2 3 (by omega)
        obtain ⟨g, hg⟩ : ∃ g : Nat, lowZ y2 3 = (g : Int) := ⟨(lowZ y2 3).toNat, by omega⟩
        rw [hg] at hr2
        have hg3 : g < 3 := by omega
        have CL := fun W => Low_is (g : Int) y2 3 W (by omega) (by omega) hg
        clear hc2 hy2 hg hr2
        go_wp2_with fail
        refine (CL _).mono ?_
        rintro e w9 ⟨rfl, rfl⟩
        go_wp2
        go_meet
        case rel => exact ⟨g, rfl, hg3, rfl⟩
      · go_wp2
        go_meet
        case rel => exact ⟨0, rfl, by omega, rfl⟩
    case rest =>
      obtain ⟨g, rfl, hg3, rfl⟩ := hcut
      go_upto_if 66 with fail
      go_cut [16] (fun v16 wx => ∃ i : Nat, v16 = .int .i64 (i : Int) ∧ 0 < i ∧ i < 4 ∧ wx = wc)
      case first =>
        by_cases hkN : k < N
        · obtain ⟨b3, o3, rfl, hlt3, hc3⟩ := IsInts.at HH.out.2.1 HN.out.symm (by omega)
          have hw3 := hc3 k hkN
          rw [← hb2.cell (p := ⟨b3, o3 + k, none⟩) hlt3] at hw3
          obtain ⟨y3, hy3⟩ : ∃ y, is.getD k 0 = y := ⟨_, rfl⟩
          rw [hy3] at hw3
          have hr3 := lowZ_range y3 3 (by omega)
          obtain ⟨i, hi⟩ : ∃ i : Nat, lowZ y3 3 = (i : Int) := ⟨(lowZ y3 3).toNat, by omega⟩
          rw [hi] at hr3
          have hi3 : i < 3 := by omega
          have CL := fun W => Low_is (i : Int) y3 3 W (by omega) (by omega) hi
          clear hc3 hy3 hi hr3
          go_wp2_with fail
          refine (CL _).mono ?_
          rintro e w9 ⟨rfl, rfl⟩
          go_wp2
          go_meet
          case rel => exact ⟨i + 1, congrArg (Value.int IntKind.i64) (by omega), by omega, by omega, rfl⟩
        · go_wp2
          go_meet
          case rel => exact ⟨1, rfl, by omega, by omega, rfl⟩
      case rest =>
        obtain ⟨i, rfl, hi0, hi4, rfl⟩ := hcut
        go_upto_region 15 with fail
        go_cut [17] (fun v17 wx => ∃ on : Bool, v17 = .bool on ∧ wx = wc)
        case first =>
          by_cases hkP : k < P
          · obtain ⟨b4, o4, rfl, hlt4, hc4⟩ := IsBools.at HH.out.2.2.1 HP.out.symm (by omega)
            have hw4 := hc4 k hkP
            rw [← hb2.cell (p := ⟨b4, o4 + k, none⟩) hlt4] at hw4
            obtain ⟨y4, hy4⟩ : ∃ y, os.getD k false = y := ⟨_, rfl⟩
            rw [hy4] at hw4
            clear hc4 hy4
            go_wp2
            go_meet
            case rel => exact ⟨y4, rfl, rfl⟩
          · go_wp2
            go_meet
            case rel => exact ⟨false, rfl, rfl⟩
        case rest =>
          obtain ⟨on, rfl, rfl⟩ := hcut
          go_upto_region 16 with fail
          go_cut [96] (fun v96 wx => ∃ c : Bool, v96 = .bool c ∧ (c = true → on = false) ∧ wx = wc)
          case first =>
            by_cases hkQ : k < Q
            · obtain ⟨b5, o5, rfl, hlt5, hc5⟩ := IsBools.at HH.out.2.2.2 HQ.out.symm (by omega)
              have hw5 := hc5 k hkQ
              rw [← hb2.cell (p := ⟨b5, o5 + k, none⟩) hlt5] at hw5
              obtain ⟨y5, hy5⟩ : ∃ y, hs.getD k false = y := ⟨_, rfl⟩
              rw [hy5] at hw5
              clear hc5 hy5
              cases y5 with
              | true =>
                go_wp2
                go_meet
                case rel => exact ⟨!on, rfl, (by intro h; simpa using h), rfl⟩
              | false =>
                go_wp2
                go_meet
                case rel => exact ⟨false, rfl, (by intro h; cases h), rfl⟩
            · go_wp2
              go_meet
              case rel => exact ⟨false, rfl, (by intro h; cases h), rfl⟩
          case rest =>
            obtain ⟨c, rfl, hc, rfl⟩ := hcut
            go_upto_if 96 with fail
            go_cut [11] (fun v11 wx => ∃ (S2 : ByteArray) (wv : List UInt8), v11 = .string S2 ∧ S2.size ≤ S1.size + 3 ∧ (on = true → wv = []) ∧ wx = wc ∧ Hid (KQ 34 0 S2 false R m wv))
            case first =>
              cases c with
              | true =>
                have hon := hc rfl
                subst hon
                obtain ⟨S2, hS2⟩ : ∃ S2 : ByteArray, S1 ++ ⟨#[32, 9, 32]⟩ = S2 := ⟨_, rfl⟩
                have hS2s : S2.size = S1.size + 3 := by rw [← hS2, ByteArray.size_append]; rfl
                have hK2 : Hid (KQ 34 0 S2 false R m [32, 9, 32]) := by show KQ _ _ _ _ _ _ _; rw [← hS2]; exact rows_white HK1.out
                go_wp2
                go_meet
                case rel => exact ⟨S2, [32, 9, 32], rfl, by omega, (by intro h; cases h), rfl, hK2⟩
              | false =>
                go_wp2
                go_meet
                case rel => exact ⟨S1, [], rfl, by omega, fun _ => rfl, rfl, HK1⟩
            case rest =>
              obtain ⟨S2, wv, rfl, hS2s, hwv, rfl, HK2⟩ := hcut
              clear HK1 hc hS1 hlast hlastb
              go_upto_if 99 with fail
              go_cut [11] (fun v11 wx => ∃ (S3 : ByteArray), v11 = .string S3 ∧ S3.size ≤ S2.size + 1 ∧ wx = wc ∧ Hid (KQ 34 0 (S3 ++ ⟨#[10]⟩) true (R ++ [(m, on)]) [] []))
              case first =>
                cases on with
                | true =>
                  obtain ⟨S3, hS3⟩ : ∃ S3 : ByteArray, S2 ++ ⟨#[92]⟩ = S3 := ⟨_, rfl⟩
                  have hS3s : S3.size = S2.size + 1 := by rw [← hS3, ByteArray.size_append]; rfl
                  have hK3 := Lib.hid (rows_on HK2.out true hwv S3 (by rw [if_pos rfl, hS3]))
                  clear HK2 hwv
                  go_wp2
                  go_meet
                  case rel => exact ⟨S3, rfl, by omega, rfl, hK3⟩
                | false =>
                  have hK3 := Lib.hid (rows_on HK2.out false hwv S2 (by rw [if_neg (by decide)]))
                  clear HK2 hwv
                  go_wp2
                  go_meet
                  case rel => exact ⟨S2, rfl, by omega, rfl, hK3⟩
              case rest =>
                obtain ⟨S3, rfl, hS3s, rfl, HK3⟩ := hcut
                obtain ⟨S4, hS4⟩ : ∃ S4 : ByteArray, S3 ++ ⟨#[10]⟩ = S4 := ⟨_, rfl⟩
                have hS4s : S4.size = S3.size + 1 := by rw [← hS4, ByteArray.size_append]; rfl
                have HK4 : Hid (KQ 34 0 S4 true (R ++ [(m, on)]) [] []) := by show KQ _ _ _ _ _ _ _; rw [← hS4]; exact HK3.out
                clear HK3 HK2 hwv
                go_wp2_with fail
                go_loopg [11, 18] g (fun gg v11 v18 wx => ∃ (S5 : ByteArray) (j : Nat), v18 = .int .i64 (j : Int) ∧ v11 = .string S5 ∧ j + gg = g ∧ S5.size ≤ S4.size + 3 * j ∧ wx = wc ∧ Hid (KQ 34 0 S5 true (R ++ [(m, on)] ++ blanksQ j) [] []))
                case atStart => exact ⟨S4, 0, rfl, rfl, Nat.zero_add _, by omega, rfl, by show KQ _ _ _ _ (R ++ [(m, on)] ++ []) _ _; rw [List.append_nil]; exact HK4.out⟩
                case round =>
                  obtain ⟨S5, j, rfl, rfl, hjg, hS5s, rfl, HK5⟩ := hrel
                  by_cases hj : j < g
                  · obtain ⟨BL, hBL⟩ : ∃ BL : ByteArray, mkB (blanksB j) = BL := ⟨_, rfl⟩
                    have hBLs : BL.size = j := by rw [← hBL, mkB_size]; exact blanks_len j
                    have CB : ∀ W : World, Calls Tryd.prog 8 #[.int .i64 (j : Int)] W fun e w' => e = .returned (.string BL) ∧ W = w' := fun W => by rw [← hBL]; exact lawBlanks_is j _ W (by omega) (by omega)
                    obtain ⟨S6, hS6⟩ : ∃ S6 : ByteArray, S5 ++ BL ++ ⟨#[10]⟩ = S6 := ⟨_, rfl⟩
                    have hS6s : S6.size = S5.size + j + 1 := by rw [← hS6, ByteArray.size_append, ByteArray.size_append, hBLs]; rfl
                    have hK6 : Hid (KQ 34 0 S6 true (R ++ [(m, on)] ++ blanksQ (j + 1)) [] []) := by show KQ _ _ _ _ _ _ _; rw [← hS6, ← hBL]; exact rows_blank HK5.out
                    clear hBL HK5 HK4
                    go_wp2_with fail
                    refine (CB _).mono ?_
                    rintro e w9 ⟨rfl, rfl⟩
                    go_wp2
                    go_roundg (g - (j + 1))
                    case measure => omega
                    case rel => exact ⟨S6, j + 1, by go_num, rfl, by omega, by omega, rfl, hK6⟩
                  · obtain rfl : j = g := by omega
                    obtain ⟨BI, hBI⟩ : ∃ BI : ByteArray, mkB (blanksB i) = BI := ⟨_, rfl⟩
                    have hBIs : BI.size = i := by rw [← hBI, mkB_size]; exact blanks_len i
                    have CB : ∀ W : World, Calls Tryd.prog 8 #[.int .i64 (i : Int)] W fun e w' => e = .returned (.string BI) ∧ W = w' := fun W => by rw [← hBI]; exact lawBlanks_is i _ W (by omega) (by omega)
                    obtain ⟨S7, hS7⟩ : ∃ S7 : ByteArray, S5 ++ BI = S7 := ⟨_, rfl⟩
                    have hS7s : S7.size = S5.size + i := by rw [← hS7, ByteArray.size_append, hBIs]
                    have HIN : Hid (∀ (c : Bool) (S8 : ByteArray), S8 = (if c = true then S7 ++ ⟨#[9]⟩ else S7) → KW 34 0 S8 (R ++ [(m, on)] ++ blanksQ j)) := fun c S8 h8 => rows_in HK5.out i hi0 c S8 (by rw [h8, ← hS7, ← hBI])
                    obtain ⟨FD, hFD⟩ : ∃ FD : ByteArray, mkB (U.feeds j) = FD := ⟨_, rfl⟩
                    have hFDs : FD.size = j := by rw [← hFD, mkB_size]; exact U.feeds_length j
                    have CF : ∀ W : World, Calls Tryd.prog 9 #[.int .i64 (j : Int)] W fun e w' => e = .returned (.string FD) ∧ W = w' := fun W => by rw [← hFD]; exact lawFeeds_is j _ W (by omega) (by omega)
                    have HFD := Lib.hid hFD
                    clear hBI hFD HK5 HK4
                    go_wp2_with fail
                    refine (CB _).mono ?_
                    rintro e w9 ⟨rfl, rfl⟩
                    go_upto_region 26 with fail
                    go_cut [127] (fun v127 wx => ∃ c : Bool, v127 = .bool c ∧ wx = wr)
                    case first =>
                      by_cases hkQ : k < Q
                      · obtain ⟨b5, o5, rfl, hlt5, hc5⟩ := IsBools.at HH.out.2.2.2 HQ.out.symm (by omega)
                        have hw5 := hc5 k hkQ
                        rw [← hb2.cell (p := ⟨b5, o5 + k, none⟩) hlt5] at hw5
                        obtain ⟨y5, hy5⟩ : ∃ y, hs.getD k false = y := ⟨_, rfl⟩
                        rw [hy5] at hw5
                        clear hc5 hy5
                        go_wp2
                        go_meet
                        case rel => exact ⟨y5, rfl, rfl⟩
                      · go_wp2
                        go_meet
                        case rel => exact ⟨false, rfl, rfl⟩
                    case rest =>
                      obtain ⟨c, rfl, rfl⟩ := hcut
                      go_upto_if 127 with fail
                      go_cut [11] (fun v11 wx => ∃ S8 : ByteArray, v11 = .string S8 ∧ S8.size ≤ S7.size + 1 ∧ wx = wc ∧ Hid (KW 34 0 S8 (R ++ [(m, on)] ++ blanksQ j)))
                      case first =>
                        cases c with
                        | true =>
                          obtain ⟨S8, hS8⟩ : ∃ S8 : ByteArray, S7 ++ ⟨#[9]⟩ = S8 := ⟨_, rfl⟩
                          have hS8s : S8.size = S7.size + 1 := by rw [← hS8, ByteArray.size_append]; rfl
                          have hK8 := Lib.hid (HIN.out true S8 (by rw [if_pos rfl, hS8]))
                          clear HIN
                          go_wp2
                          go_meet
                          case rel => exact ⟨S8, rfl, by omega, rfl, hK8⟩
                        | false =>
                          have hK8 := Lib.hid (HIN.out false S7 (by rw [if_neg (by decide)]))
                          clear HIN
                          go_wp2
                          go_meet
                          case rel => exact ⟨S7, rfl, by omega, rfl, hK8⟩
                      case rest =>
                        obtain ⟨S8, rfl, hS8s, rfl, HK8⟩ := hcut
                        clear HIN
                        have hfin : ∀ (V2 : ByteArray), V2 = (if on = true then V1 ++ FD else if j = 0 then V1 ++ ⟨#[32]⟩ ++ FD else V1 ++ FD) → ∃ V3 : List UInt8, V2 = ⟨V3.toArray⟩ ∧ V3.length ≤ 8 * (k + 1) ∧ QW (R ++ [(m, on)] ++ blanksQ j) V3 := by
                          intro V2 h2
                          refine ⟨V ++ m ++ (if on = true then U.feeds j else U.sep j), rows_want V m on j V1 V2 FD HVL.out HFD.out h2, ?_, HV.out.step HM1.out on j⟩
                          have hf := U.feeds_length j
                          have hs := U.sep_length j
                          rw [List.length_append, List.length_append]
                          split <;> omega
                        have HF := Lib.hid hfin
                        have HR9 : Hid ((R ++ [(m, on)] ++ blanksQ j).isEmpty = decide (k + 1 = 0)) := by show _ = _; simp
                        clear hfin HVL HM1 HO HV HFD
                        by_cases h0 : j = 0
                        · subst h0
                          cases on with
                          | true =>
                            obtain ⟨V2, hV2⟩ : ∃ V2 : ByteArray, V1 ++ FD = V2 := ⟨_, rfl⟩
                            obtain ⟨V3, e3, l3, q3⟩ := HF.out V2 (by rw [if_pos rfl]; rw [hV2])
                            have HQ3 := Lib.hid q3
                            clear HF q3
                            go_wp2_with fail
                            refine (CF _).mono ?_
                            rintro e w9 ⟨rfl, rfl⟩
                            go_wp2
                            go_roundg (L - (k + 1))
                            case measure => omega
                            case rel => exact ⟨S8, V3, k + 1, _, by go_num, rfl, rfl, by omega, by omega, by omega, l3, hb2, HR9, HK8, HQ3⟩
                          | false =>
                            obtain ⟨V2, hV2⟩ : ∃ V2 : ByteArray, V1 ++ ⟨#[32]⟩ ++ FD = V2 := ⟨_, rfl⟩
                            obtain ⟨V3, e3, l3, q3⟩ := HF.out V2 (by rw [if_neg (by decide), if_pos rfl]; rw [hV2])
                            have HQ3 := Lib.hid q3
                            clear HF q3
                            go_wp2_with fail
                            refine (CF _).mono ?_
                            rintro e w9 ⟨rfl, rfl⟩
                            go_wp2
                            go_roundg (L - (k + 1))
                            case measure => omega
                            case rel => exact ⟨S8, V3, k + 1, _, by go_num, rfl, rfl, by omega, by omega, by omega, l3, hb2, HR9, HK8, HQ3⟩
                        · have h0b : ((j : Int) == 0) = false := by simp; omega
                          cases on with
                          | true =>
                            obtain ⟨V2, hV2⟩ : ∃ V2 : ByteArray, V1 ++ FD = V2 := ⟨_, rfl⟩
                            obtain ⟨V3, e3, l3, q3⟩ := HF.out V2 (by rw [if_pos rfl]; rw [hV2])
                            have HQ3 := Lib.hid q3
                            clear HF q3
                            go_wp2_with fail
                            refine (CF _).mono ?_
                            rintro e w9 ⟨rfl, rfl⟩
                            go_wp2
                            go_roundg (L - (k + 1))
                            case measure => omega
                            case rel => exact ⟨S8, V3, k + 1, _, by go_num, rfl, rfl, by omega, by omega, by omega, l3, hb2, HR9, HK8, HQ3⟩
                          | false =>
                            obtain ⟨V2, hV2⟩ : ∃ V2 : ByteArray, V1 ++ FD = V2 := ⟨_, rfl⟩
                            obtain ⟨V3, e3, l3, q3⟩ := HF.out V2 (by rw [if_neg (by decide), if_neg h0]; rw [hV2])
                            have HQ3 := Lib.hid q3
                            clear HF q3
                            go_wp2_with fail
                            refine (CF _).mono ?_
                            rintro e w9 ⟨rfl, rfl⟩
                            go_wp2
                            go_roundg (L - (k + 1))
                            case measure => omega
                            case rel => exact ⟨S8, V3, k + 1, _, by go_num, rfl, rfl, by omega, by omega, by omega, l3, hb2, HR9, HK8, HQ3⟩

end Go.Proofs.YthleebnfbdcobaaDoor
