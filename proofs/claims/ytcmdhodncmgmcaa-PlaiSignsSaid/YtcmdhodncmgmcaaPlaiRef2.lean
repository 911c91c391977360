/- The document's answer on plain scalars: what is read. Conditions: those that each theorem writes out (lengths that memory can hold). -/
import Derived.Test.YtcmdhodncmgmcaaPlaiRef
import Derived.Test.YtcmdhodncmgmcaaFoldW
namespace Go.Proofs.Ytcmdhodncmgmcaa
open Go.RowKit

theorem tot_len : ∀ l : List (List UInt8), l.length ≤ U.tot l
  | [] => Nat.le_refl _
  | r :: t => by have := tot_len t; rw [U.tot, List.length_cons]; omega
set_option maxRecDepth 100000 in
set_option maxHeartbeats 6400000 in
theorem refPlain_t (T : List UInt8) (E : Int) (O : Bool) (C : Int) (s : ByteArray) (at' n : Int) (w : World) (hs : s.size ≤ 100000) (h : PlaiZ s at' n true T E O C) :
    Calls Try.prog 18 #[.string s, .int .i64 at', .int .i64 n, .bool true] w fun e w' => e = .returned (.tuple #[.string ⟨T.toArray⟩, .int .i64 E, .bool O, .int .i64 C]) ∧ Below w.heap.size w w' := by
  have hs2 : s.size ≤ 1099511627776 := by omega
  cases hb0 : begB s at' true with
  | false =>
    unfold PlaiZ at h
    rw [hb0, if_pos rfl] at h
    obtain ⟨rfl, rfl, rfl, rfl⟩ := h
    have HB := Lib.hid hb0
    clear hb0
    go_enter Try.func18, Try.ntmps18
    go_wp2_with fail
    refine (refBegins_is false s E true _ hs2 HB.out).mono ?_
    rintro e9 w9 ⟨rfl, rfl⟩
    go_wp2
    refine bodyPost_ret (results_tmp4 rfl _ _ _) rfl ?_
    exact ⟨rfl, Below.refl _ _⟩
  | true =>
    obtain ⟨h0, h1⟩ := beg_in hb0
    obtain ⟨k0, rfl⟩ : ∃ k0 : Nat, at' = (k0 : Int) := ⟨at'.toNat, by omega⟩
    unfold PlaiZ at h
    rw [hb0, if_neg (by decide), Int.toNat_natCast] at h
    rw [Int.toNat_natCast] at h1
    obtain ⟨E', rfl, h⟩ := h
    obtain ⟨e0, he0⟩ := ParN.ex s true k0 (by omega)
    have hG := h e0 he0
    have q1 := he0.ge
    have q2 := he0.le
    have HB := Lib.hid hb0
    have HE0 := Lib.hid he0
    have HG := Lib.hid hG
    have hpl : (pieceL s k0 e0).length = e0 - k0 := piece_len q2
    have hx0 : s.extract k0 e0 = ⟨(pieceL s k0 e0).toArray⟩ := piece_ext s k0 e0
    have hsl0 : ∀ W, (Instr.slice 9 (.string s) (some (.int .i64 (k0 : Int))) (some (.int .i64 (e0 : Int))) none).run Try.prog W = .ok (.string ⟨(pieceL s k0 e0).toArray⟩) W := fun W => by
      rw [run_slice_string W 9 s .i64 .i64 k0 e0 Try.underlying9 (by omega) (by omega) (by omega), ← hx0]
      rfl
    obtain ⟨P0, hP0⟩ : ∃ P0, pieceL s k0 e0 = P0 := ⟨_, rfl⟩
    rw [hP0] at hsl0 hpl
    have HG : Hid (PlaiG s n true T E' O C (s.size + 1) e0 [P0] true) := by rw [← hP0]; exact HG.out
    have hob : OutT w.heap.size (w.alloc (.cells #[.string ⟨P0.toArray⟩] 9)) (.slice (some ⟨w.heap.size, 0, none⟩) 1 1) [P0] := OutT_one w.heap.size w P0 (Nat.le_refl _)
    have htot : U.tot [P0] ≤ e0 + 1 := by simp [U.tot]; omega
    clear hb0 he0 hG hx0 hP0 hpl h h0
    go_enter Try.func18, Try.ntmps18
    go_wp2_with fail
    refine (refBegins_is true s (k0 : Int) true _ hs2 HB.out).mono ?_
    rintro e9 w9 ⟨rfl, rfl⟩
    go_wp2_with fail
    refine (refPart_is e0 s k0 true _ hs2 h1 HE0.out).mono ?_
    rintro e9 w9 ⟨rfl, rfl⟩
    go_wp2
    go_loopw [12, 13, 14] (fun v12 v13 v14 wr => ∃ (e : Nat) (R : List (List UInt8)) (one : Bool) (g : Nat), v12 = .int .i64 (e : Int) ∧ v14 = .bool one ∧ e ≤ s.size ∧ OutT w.heap.size wr v13 R ∧ Below w.heap.size w wr ∧ U.tot R ≤ e + 1 ∧ s.size < e + g ∧ Hid (PlaiG s n true T E' O C g e R one)) (fun v12 _ _ _ => s.size - (intOf v12).toNat)
    case atStart => exact ⟨e0, [P0], true, s.size + 1, rfl, rfl, q2, hob, (Below.refl _ _).alloc (Nat.le_refl _) _, htot, by omega, HG⟩
    case round =>
      obtain ⟨e, R, one, g, rfl, rfl, he, ho, hb, htt, hg, H⟩ := hrel
      obtain ⟨g, rfl⟩ : ∃ g', g = g' + 1 := ⟨g - 1, by omega⟩
      obtain ⟨t, ht⟩ := RowE.ex s e he
      obtain ⟨f, hf⟩ := FirN.ex s e t ht.1
      obtain ⟨r, hr⟩ := RowB.ex s e
      replace H := H.out t f ht hf
      have ht1 := ht.1
      have ht2 := ht.2.1
      have hf1 := hf.1
      have hf2 := hf.2.1
      have hlf : t < s.size → byt s t = 10 := fun h => ht.2.2.2.resolve_left (by omega)
      have HT : Hid (RowE s (clampN (e : Int) s.size) t) := by rw [clampN_self e _ he]; exact ht
      have HR : Hid (RowB s (clampN (e : Int) s.size) r) := by rw [clampN_self e _ he]; exact hr
      have HF := Lib.hid hf
      clear ht hf hr HE0 HG hsl0 hob htot
      by_cases c1 : f < t
      · rw [if_pos (.inl c1)] at H
        go_wp2_with fail
        refine (refRow_is r t s (e : Int) _ hs2 HR.out HT.out).mono ?_
        rintro e9 w9 ⟨rfl, rfl⟩
        go_wp2_with fail
        refine (First_is e t f s _ hs2 ht2 HF.out).mono ?_
        rintro e9 w9 ⟨rfl, rfl⟩
        obtain ⟨rT, rfl, rfl, rfl⟩ := H
        have RT := Lib.hid rT.symm
        clear rT
        go_wp2_with fail
        refine (refFoldFlow_is T _ R _ ho.is (by omega) RT.out).mono ?_
        rintro e9 w9 ⟨rfl, hb9⟩
        go_wp2
        refine bodyPost_ret (results_tmp4 rfl _ _ _) rfl ?_
        exact ⟨rfl, hb.trans (hb9.mono hb.size)⟩
      obtain rfl : f = t := by omega
      by_cases c2 : s.size ≤ f
      · rw [if_pos (.inr c2)] at H
        go_wp2_with fail
        refine (refRow_is r f s (e : Int) _ hs2 HR.out HT.out).mono ?_
        rintro e9 w9 ⟨rfl, rfl⟩
        go_wp2_with fail
        refine (First_is e f f s _ hs2 ht2 HF.out).mono ?_
        rintro e9 w9 ⟨rfl, rfl⟩
        obtain ⟨rT, rfl, rfl, rfl⟩ := H
        have RT := Lib.hid rT.symm
        clear rT
        go_wp2_with fail
        refine (refFoldFlow_is T _ R _ ho.is (by omega) RT.out).mono ?_
        rintro e9 w9 ⟨rfl, hb9⟩
        go_wp2
        refine bodyPost_ret (results_tmp4 rfl _ _ _) rfl ?_
        exact ⟨rfl, hb.trans (hb9.mono hb.size)⟩
      rw [if_neg (by omega)] at H
      obtain ⟨k, A, hk⟩ := Blk.ex s (s.size + 1) (f + 1) (by omega)
      replace H := H k A hk
      have hkA := hk.ge
      have hbg : RowB s (f + 1) (f + 1) := RowB.behindLf (hlf (by omega))
      have HK := Lib.hid hk
      have HH := Lib.hid H
      clear hk hlf H
      go_wp2_with fail
      refine (refRow_is r f s (e : Int) _ hs2 HR.out HT.out).mono ?_
      rintro e9 w9 ⟨rfl, rfl⟩
      go_wp2_with fail
      refine (First_is e f f s _ hs2 ht2 HF.out).mono ?_
      rintro e9 w9 ⟨rfl, rfl⟩
      go_wp2
      go_loop [16, 17, 18] (fun v16 v17 v18 => ∃ (x : Int) (j a : Nat), v16 = .int .i64 x ∧ v17 = .int .i64 (j : Int) ∧ v18 = .int .i64 (a : Int) ∧ j ≤ k ∧ f + 1 + j ≤ a ∧ a ≤ s.size + 1 ∧ Hid ((a < s.size → RowB s a a) ∧ Blk s a (k - j) A)) (fun _ _ v18 => s.size + 1 - (intOf v18).toNat)
      case atStart => exact ⟨(f : Int), 0, f + 1, rfl, rfl, by go_num, Nat.zero_le _, by omega, by omega, by show _; exact ⟨fun _ => hbg, HK.out⟩⟩
      case round =>
        obtain ⟨x, j, a, rfl, rfl, rfl, hj, hja, has, HA⟩ := hrel
        by_cases c3 : a < s.size
        · obtain ⟨b, hE⟩ := RowE.ex s a (by omega)
          obtain ⟨q, hF⟩ := FirN.ex s a b hE.1
          have hB := HA.out.1 c3
          have hE1 := hE.1
          have hE2 := hE.2.1
          have hF1 := hF.1
          have hF2 := hF.2.1
          have HB : Hid (RowB s (clampN (a : Int) s.size) a) := by rw [clampN_self a _ (by omega)]; exact hB
          have HE : Hid (RowE s (clampN (a : Int) s.size) b) := by rw [clampN_self a _ (by omega)]; exact hE
          have hinv := HA.out.2.inv c3 hE hF
          have HFQ := Lib.hid hF
          obtain ⟨z, hz⟩ : ∃ z, kindN s a b q = z := ⟨_, rfl⟩
          have HZ := Lib.hid hz
          by_cases c4 : q = b
          · obtain ⟨_, k', hk', hr'⟩ := hinv.resolve_left (fun h => h.1 c4)
            have hz1 : z = 1 := by rw [← hz]; exact (kind_blank hF).2 c4
            have HA2 : Hid ((b + 1 < s.size → RowB s (b + 1) (b + 1)) ∧ Blk s (b + 1) (k - (j + 1)) A) := by
              refine ⟨fun hb1 => RowB.behindLf (hE.2.2.2.resolve_left (by omega)), ?_⟩
              rw [show k - (j + 1) = k' by omega]
              exact hr'
            subst hz1
            clear hE hF hB hinv hz hr' c4
            go_wp2_with fail
            refine (refKind_is 1 a b q s (a : Int) _ hs2 HB.out HE.out HFQ.out HZ.out).mono ?_
            rintro e9 w9 ⟨rfl, rfl⟩
            go_wp2_with fail
            refine (refRow_is a b s (a : Int) _ hs2 HB.out HE.out).mono ?_
            rintro e9 w9 ⟨rfl, rfl⟩
            go_wp2
            go_round
            case rel => exact ⟨(b : Int), j + 1, b + 1, rfl, by go_num, by go_num, by omega, by omega, by omega, HA2⟩
            case measure => simp [intOf]; omega
          obtain ⟨_, hkj, rfl⟩ := hinv.resolve_right (fun h => c4 h.1)
          have hz1 : z ≠ 1 := fun h => c4 ((kind_blank hF).1 (by rw [hz, h]))
          have hzb : (z == 1) = false := by simpa using hz1
          obtain ⟨i, hi⟩ := InN.ex s A b hE.1
          have H := HH.out
          rw [if_neg (by omega)] at H
          replace H := H b i q hE hi hF
          have HI := Lib.hid hi
          have hjk : j = k := Nat.le_antisymm hj (Nat.sub_eq_zero_iff_le.1 hkj)
          subst hjk
          clear hB hinv hi hkj
          by_cases c5 : z = 5
          · by_cases c6 : (i : Int) ≤ n
            · rw [if_pos (.inr c6)] at H
              subst c5
              clear hE hF hz
              go_wp2_with fail
              refine (refKind_is 5 A b q s (A : Int) _ hs2 HB.out HE.out HFQ.out HZ.out).mono ?_
              rintro e9 w9 ⟨rfl, rfl⟩
              go_wp2_with fail
              refine (refKind_is 5 A b q s (A : Int) _ hs2 HB.out HE.out HFQ.out HZ.out).mono ?_
              rintro e9 w9 ⟨rfl, rfl⟩
              go_wp2_with fail
              refine (refIn_is A b i s (A : Int) _ hs2 HB.out HE.out HI.out).mono ?_
              rintro e9 w9 ⟨rfl, rfl⟩
              obtain ⟨rT, rfl, rfl, rfl⟩ := H
              have RT := Lib.hid rT.symm
              clear rT
              go_wp2_with fail
              refine (refFoldFlow_is T _ R _ ho.is (by omega) RT.out).mono ?_
              rintro e9 w9 ⟨rfl, hb9⟩
              go_wp2
              refine bodyPost_ret (results_tmp4 rfl _ _ _) rfl ?_
              exact ⟨rfl, hb.trans (hb9.mono hb.size)⟩
            · rw [if_neg (by rw [hz]; omega)] at H
              have hq0 : q ≠ b := c4
              obtain ⟨y, hy⟩ := ParN.ex s true q (by omega)
              have hy1 := hy.ge
              have hy2 := hy.row (hE.within (by have := HB.out; rw [clampN_self A _ (by omega)] at this; exact this) hF1 hF2)
              replace H := H y hy
              have HY := Lib.hid hy
              subst c5
              clear hF hz hy
              have hqs : q < s.size := by omega
              by_cases c7 : y = q
              · rw [if_pos c7] at H
                subst c7
                clear hE
                go_wp2_with fail
                refine (refKind_is 5 A b y s (A : Int) _ hs2 HB.out HE.out HFQ.out HZ.out).mono ?_
                rintro e9 w9 ⟨rfl, rfl⟩
                go_wp2_with fail
                refine (refKind_is 5 A b y s (A : Int) _ hs2 HB.out HE.out HFQ.out HZ.out).mono ?_
                rintro e9 w9 ⟨rfl, rfl⟩
                go_wp2_with fail
                refine (refIn_is A b i s (A : Int) _ hs2 HB.out HE.out HI.out).mono ?_
                rintro e9 w9 ⟨rfl, rfl⟩
                go_wp2_with fail
                refine (refRow_is A b s (A : Int) _ hs2 HB.out HE.out).mono ?_
                rintro e9 w9 ⟨rfl, rfl⟩
                go_wp2_with fail
                refine (First_is A b y s _ hs2 hE2 HFQ.out).mono ?_
                rintro e9 w9 ⟨rfl, rfl⟩
                go_wp2_with fail
                refine (refPart_is y s y true _ hs2 hqs HY.out).mono ?_
                rintro e9 w9 ⟨rfl, rfl⟩
                obtain ⟨rT, rfl, rfl, rfl⟩ := H
                have RT := Lib.hid rT.symm
                clear rT
                go_wp2_with fail
                refine (refFoldFlow_is T _ R _ ho.is (by omega) RT.out).mono ?_
                rintro e9 w9 ⟨rfl, hb9⟩
                go_wp2
                refine bodyPost_ret (results_tmp4 rfl _ _ _) rfl ?_
                exact ⟨rfl, hb.trans (hb9.mono hb.size)⟩
              rw [if_neg c7] at H
              obtain ⟨c, hc⟩ := FirN.ex s y b hy2
              replace H := H c hc
              have hc1 := hc.1
              have hc2 := hc.2.1
              have HC := Lib.hid hc
              have hc7 : ((y : Int) == (q : Int)) = false := by simp; omega
              have hpl : (pieceL s q y).length = y - q := piece_len (by omega)
              have hx0 : s.extract q y = ⟨(pieceL s q y).toArray⟩ := piece_ext s q y
              have hsl0 : ∀ W, (Instr.slice 9 (.string s) (some (.int .i64 (q : Int))) (some (.int .i64 (y : Int))) none).run Try.prog W = .ok (.string ⟨(pieceL s q y).toArray⟩) W := fun W => by
                rw [run_slice_string W 9 s .i64 .i64 q y Try.underlying9 (by omega) (by omega) (by omega), ← hx0]
                rfl
              obtain ⟨P0, hP0⟩ : ∃ P0, pieceL s q y = P0 := ⟨_, rfl⟩
              rw [hP0] at hsl0 hpl H
              have hRl : R.length ≤ e + 1 := Nat.le_trans (tot_len R) htt
              have htt2 : U.tot (R ++ (U.blanksL j ++ [P0])) ≤ y + 1 := by
                rw [U.tot_append, U.tot_append, tot_blanks]
                simp only [U.tot]
                omega
              have HTT := Lib.hid htt2
              have HRL := Lib.hid hRl
              have HH9 := Lib.hid H
              clear hE hc hx0 hP0 hpl htt2 hRl c7 H
              go_wp2_with fail
              refine (refKind_is 5 A b q s (A : Int) _ hs2 HB.out HE.out HFQ.out HZ.out).mono ?_
              rintro e9 w9 ⟨rfl, rfl⟩
              go_wp2_with fail
              refine (refKind_is 5 A b q s (A : Int) _ hs2 HB.out HE.out HFQ.out HZ.out).mono ?_
              rintro e9 w9 ⟨rfl, rfl⟩
              go_wp2_with fail
              refine (refIn_is A b i s (A : Int) _ hs2 HB.out HE.out HI.out).mono ?_
              rintro e9 w9 ⟨rfl, rfl⟩
              go_wp2_with fail
              refine (refRow_is A b s (A : Int) _ hs2 HB.out HE.out).mono ?_
              rintro e9 w9 ⟨rfl, rfl⟩
              go_wp2_with fail
              refine (First_is A b q s _ hs2 hE2 HFQ.out).mono ?_
              rintro e9 w9 ⟨rfl, rfl⟩
              go_wp2_with fail
              refine (refPart_is y s q true _ hs2 hqs HY.out).mono ?_
              rintro e9 w9 ⟨rfl, rfl⟩
              go_wp2
              have hb7 := hb
              go_loopw [13, 21] (fun v13 v21 wr2 => ∃ i2 : Nat, v21 = .int .i64 (i2 : Int) ∧ i2 ≤ j ∧ OutT w.heap.size wr2 v13 (R ++ U.blanksL i2) ∧ Below w.heap.size w wr2) (fun _ v21 _ => j - (intOf v21).toNat)
              case atStart => exact ⟨0, rfl, Nat.zero_le _, by rw [show U.blanksL 0 = [] from rfl, List.append_nil]; exact ho, hb⟩
              case round =>
                obtain ⟨i2, rfl, hi2, ho2, hb2⟩ := hrel
                have hl2 : (R ++ U.blanksL i2).length ≤ 1000000000 := by
                  have := HRL.out
                  rw [List.length_append, U.blanksL, List.length_replicate]
                  omega
                have HL2 := Lib.hid hl2
                clear hl2
                by_cases c8 : i2 < j
                · go_wp2_with (at_builtin; refine appendOne wr [] rfl _ _ rfl w.heap.size w _ _ rfl rfl ho2 hb2 HL2.out (Nat.le_refl _) ?_; intro v2 w2 o2 b2)
                  go_roundw
                  case rel => exact ⟨i2 + 1, by go_num, by omega, by rw [show U.blanksL (i2 + 1) = U.blanksL i2 ++ [[]] from List.replicate_succ', ← List.append_assoc]; exact o2, b2⟩
                  case measure => simp [intOf]; omega
                · obtain rfl : i2 = j := by omega
                  go_wp2_with (at_builtin; refine appendOne wr P0 rfl _ _ rfl w.heap.size w _ _ rfl rfl ho2 hb2 HL2.out (Nat.le_refl _) ?_; intro v2 w2 o2 b2)
                  rw [List.append_assoc] at o2
                  have H := HH9.out
                  rw [if_neg (fun h => by cases h.1)] at H
                  have HG2 := Lib.hid H
                  clear H
                  go_wp2_with fail
                  refine (First_is y b c s _ hs2 hE2 HC.out).mono ?_
                  rintro e9 w9 ⟨rfl, rfl⟩
                  go_wp2
                  go_roundw
                  case rel => exact ⟨y, R ++ (U.blanksL i2 ++ [P0]), false, g, rfl, rfl, by omega, o2, b2, HTT.out, by omega, HG2⟩
                  case measure => simp [intOf]; omega
          rw [if_pos (.inl (by rw [hz]; exact c5))] at H
          have hz5 : (z == 5) = false := by simpa using c5
          have hz5b : (z != 5) = true := by simpa using c5
          clear hE hF hz
          go_wp2_with fail
          refine (refKind_is z A b q s (A : Int) _ hs2 HB.out HE.out HFQ.out HZ.out).mono ?_
          rintro e9 w9 ⟨rfl, rfl⟩
          go_wp2_with fail
          refine (refKind_is z A b q s (A : Int) _ hs2 HB.out HE.out HFQ.out HZ.out).mono ?_
          rintro e9 w9 ⟨rfl, rfl⟩
          obtain ⟨rT, rfl, rfl, rfl⟩ := H
          have RT := Lib.hid rT.symm
          clear rT
          go_wp2_with fail
          refine (refFoldFlow_is T _ R _ ho.is (by omega) RT.out).mono ?_
          rintro e9 w9 ⟨rfl, hb9⟩
          go_wp2
          refine bodyPost_ret (results_tmp4 rfl _ _ _) rfl ?_
          exact ⟨rfl, hb.trans (hb9.mono hb.size)⟩
        · obtain ⟨hkj, rfl⟩ := HA.out.2.end (by omega)
          have H := HH.out
          rw [if_pos (by omega)] at H
          obtain ⟨rT, rfl, rfl, rfl⟩ := H
          have RT := Lib.hid rT.symm
          clear rT
          go_wp2_with fail
          refine (refFoldFlow_is T _ R _ ho.is (by omega) RT.out).mono ?_
          rintro e9 w9 ⟨rfl, hb9⟩
          go_wp2
          refine bodyPost_ret (results_tmp4 rfl _ _ _) rfl ?_
          exact ⟨rfl, hb.trans (hb9.mono hb.size)⟩
set_option maxRecDepth 100000 in
set_option maxHeartbeats 6400000 in
theorem refPlain_f (T : List UInt8) (E : Int) (O : Bool) (C : Int) (s : ByteArray) (at' n : Int) (w : World) (hs : s.size ≤ 100000) (h : PlaiZ s at' n false T E O C) :
    Calls Try.prog 18 #[.string s, .int .i64 at', .int .i64 n, .bool false] w fun e w' => e = .returned (.tuple #[.string ⟨T.toArray⟩, .int .i64 E, .bool O, .int .i64 C]) ∧ Below w.heap.size w w' := by
  have hs2 : s.size ≤ 1099511627776 := by omega
  cases hb0 : begB s at' false with
  | false =>
    unfold PlaiZ at h
    rw [hb0, if_pos rfl] at h
    obtain ⟨rfl, rfl, rfl, rfl⟩ := h
    have HB := Lib.hid hb0
    clear hb0
    go_enter Try.func18, Try.ntmps18
    go_wp2_with fail
    refine (refBegins_is false s E false _ hs2 HB.out).mono ?_
    rintro e9 w9 ⟨rfl, rfl⟩
    go_wp2
    refine bodyPost_ret (results_tmp4 rfl _ _ _) rfl ?_
    exact ⟨rfl, Below.refl _ _⟩
  | true =>
    obtain ⟨h0, h1⟩ := beg_in hb0
    obtain ⟨k0, rfl⟩ : ∃ k0 : Nat, at' = (k0 : Int) := ⟨at'.toNat, by omega⟩
    unfold PlaiZ at h
    rw [hb0, if_neg (by decide), Int.toNat_natCast] at h
    rw [Int.toNat_natCast] at h1
    obtain ⟨E', rfl, h⟩ := h
    obtain ⟨e0, he0⟩ := ParN.ex s false k0 (by omega)
    have hG := h e0 he0
    have q1 := he0.ge
    have q2 := he0.le
    have HB := Lib.hid hb0
    have HE0 := Lib.hid he0
    have HG := Lib.hid hG
    have hpl : (pieceL s k0 e0).length = e0 - k0 := piece_len q2
    have hx0 : s.extract k0 e0 = ⟨(pieceL s k0 e0).toArray⟩ := piece_ext s k0 e0
    have hsl0 : ∀ W, (Instr.slice 9 (.string s) (some (.int .i64 (k0 : Int))) (some (.int .i64 (e0 : Int))) none).run Try.prog W = .ok (.string ⟨(pieceL s k0 e0).toArray⟩) W := fun W => by
      rw [run_slice_string W 9 s .i64 .i64 k0 e0 Try.underlying9 (by omega) (by omega) (by omega), ← hx0]
      rfl
    obtain ⟨P0, hP0⟩ : ∃ P0, pieceL s k0 e0 = P0 := ⟨_, rfl⟩
    rw [hP0] at hsl0 hpl
    have HG : Hid (PlaiG s n false T E' O C (s.size + 1) e0 [P0] true) := by rw [← hP0]; exact HG.out
    have hob : OutT w.heap.size (w.alloc (.cells #[.string ⟨P0.toArray⟩] 9)) (.slice (some ⟨w.heap.size, 0, none⟩) 1 1) [P0] := OutT_one w.heap.size w P0 (Nat.le_refl _)
    have htot : U.tot [P0] ≤ e0 + 1 := by simp [U.tot]; omega
    clear hb0 he0 hG hx0 hP0 hpl h h0
    go_enter Try.func18, Try.ntmps18
    go_wp2_with fail
    refine (refBegins_is true s (k0 : Int) false _ hs2 HB.out).mono ?_
    rintro e9 w9 ⟨rfl, rfl⟩
    go_wp2_with fail
    refine (refPart_is e0 s k0 false _ hs2 h1 HE0.out).mono ?_
    rintro e9 w9 ⟨rfl, rfl⟩
    go_wp2
    go_loopw [12, 13, 14] (fun v12 v13 v14 wr => ∃ (e : Nat) (R : List (List UInt8)) (one : Bool) (g : Nat), v12 = .int .i64 (e : Int) ∧ v14 = .bool one ∧ e ≤ s.size ∧ OutT w.heap.size wr v13 R ∧ Below w.heap.size w wr ∧ U.tot R ≤ e + 1 ∧ s.size < e + g ∧ Hid (PlaiG s n false T E' O C g e R one)) (fun v12 _ _ _ => s.size - (intOf v12).toNat)
    case atStart => exact ⟨e0, [P0], true, s.size + 1, rfl, rfl, q2, hob, (Below.refl _ _).alloc (Nat.le_refl _) _, htot, by omega, HG⟩
    case round =>
      obtain ⟨e, R, one, g, rfl, rfl, he, ho, hb, htt, hg, H⟩ := hrel
      obtain ⟨g, rfl⟩ : ∃ g', g = g' + 1 := ⟨g - 1, by omega⟩
      obtain ⟨t, ht⟩ := RowE.ex s e he
      obtain ⟨f, hf⟩ := FirN.ex s e t ht.1
      obtain ⟨r, hr⟩ := RowB.ex s e
      replace H := H.out t f ht hf
      have ht1 := ht.1
      have ht2 := ht.2.1
      have hf1 := hf.1
      have hf2 := hf.2.1
      have hlf : t < s.size → byt s t = 10 := fun h => ht.2.2.2.resolve_left (by omega)
      have HT : Hid (RowE s (clampN (e : Int) s.size) t) := by rw [clampN_self e _ he]; exact ht
      have HR : Hid (RowB s (clampN (e : Int) s.size) r) := by rw [clampN_self e _ he]; exact hr
      have HF := Lib.hid hf
      clear ht hf hr HE0 HG hsl0 hob htot
      by_cases c1 : f < t
      · rw [if_pos (.inl c1)] at H
        go_wp2_with fail
        refine (refRow_is r t s (e : Int) _ hs2 HR.out HT.out).mono ?_
        rintro e9 w9 ⟨rfl, rfl⟩
        go_wp2_with fail
        refine (First_is e t f s _ hs2 ht2 HF.out).mono ?_
        rintro e9 w9 ⟨rfl, rfl⟩
        obtain ⟨rT, rfl, rfl, rfl⟩ := H
        have RT := Lib.hid rT.symm
        clear rT
        go_wp2_with fail
        refine (refFoldFlow_is T _ R _ ho.is (by omega) RT.out).mono ?_
        rintro e9 w9 ⟨rfl, hb9⟩
        go_wp2
        refine bodyPost_ret (results_tmp4 rfl _ _ _) rfl ?_
        exact ⟨rfl, hb.trans (hb9.mono hb.size)⟩
      obtain rfl : f = t := by omega
      by_cases c2 : s.size ≤ f
      · rw [if_pos (.inr c2)] at H
        go_wp2_with fail
        refine (refRow_is r f s (e : Int) _ hs2 HR.out HT.out).mono ?_
        rintro e9 w9 ⟨rfl, rfl⟩
        go_wp2_with fail
        refine (First_is e f f s _ hs2 ht2 HF.out).mono ?_
        rintro e9 w9 ⟨rfl, rfl⟩
        obtain ⟨rT, rfl, rfl, rfl⟩ := H
        have RT := Lib.hid rT.symm
        clear rT
        go_wp2_with fail
        refine (refFoldFlow_is T _ R _ ho.is (by omega) RT.out).mono ?_
        rintro e9 w9 ⟨rfl, hb9⟩
        go_wp2
        refine bodyPost_ret (results_tmp4 rfl _ _ _) rfl ?_
        exact ⟨rfl, hb.trans (hb9.mono hb.size)⟩
      rw [if_neg (by omega)] at H
      obtain ⟨k, A, hk⟩ := Blk.ex s (s.size + 1) (f + 1) (by omega)
      replace H := H k A hk
      have hkA := hk.ge
      have hbg : RowB s (f + 1) (f + 1) := RowB.behindLf (hlf (by omega))
      have HK := Lib.hid hk
      have HH := Lib.hid H
      clear hk hlf H
      go_wp2_with fail
      refine (refRow_is r f s (e : Int) _ hs2 HR.out HT.out).mono ?_
      rintro e9 w9 ⟨rfl, rfl⟩
      go_wp2_with fail
      refine (First_is e f f s _ hs2 ht2 HF.out).mono ?_
      rintro e9 w9 ⟨rfl, rfl⟩
      go_wp2
      go_loop [16, 17, 18] (fun v16 v17 v18 => ∃ (x : Int) (j a : Nat), v16 = .int .i64 x ∧ v17 = .int .i64 (j : Int) ∧ v18 = .int .i64 (a : Int) ∧ j ≤ k ∧ f + 1 + j ≤ a ∧ a ≤ s.size + 1 ∧ Hid ((a < s.size → RowB s a a) ∧ Blk s a (k - j) A)) (fun _ _ v18 => s.size + 1 - (intOf v18).toNat)
      case atStart => exact ⟨(f : Int), 0, f + 1, rfl, rfl, by go_num, Nat.zero_le _, by omega, by omega, by show _; exact ⟨fun _ => hbg, HK.out⟩⟩
      case round =>
        obtain ⟨x, j, a, rfl, rfl, rfl, hj, hja, has, HA⟩ := hrel
        by_cases c3 : a < s.size
        · obtain ⟨b, hE⟩ := RowE.ex s a (by omega)
          obtain ⟨q, hF⟩ := FirN.ex s a b hE.1
          have hB := HA.out.1 c3
          have hE1 := hE.1
          have hE2 := hE.2.1
          have hF1 := hF.1
          have hF2 := hF.2.1
          have HB : Hid (RowB s (clampN (a : Int) s.size) a) := by rw [clampN_self a _ (by omega)]; exact hB
          have HE : Hid (RowE s (clampN (a : Int) s.size) b) := by rw [clampN_self a _ (by omega)]; exact hE
          have hinv := HA.out.2.inv c3 hE hF
          have HFQ := Lib.hid hF
          obtain ⟨z, hz⟩ : ∃ z, kindN s a b q = z := ⟨_, rfl⟩
          have HZ := Lib.hid hz
          by_cases c4 : q = b
          · obtain ⟨_, k', hk', hr'⟩ := hinv.resolve_left (fun h => h.1 c4)
            have hz1 : z = 1 := by rw [← hz]; exact (kind_blank hF).2 c4
            have HA2 : Hid ((b + 1 < s.size → RowB s (b + 1) (b + 1)) ∧ Blk s (b + 1) (k - (j + 1)) A) := by
              refine ⟨fun hb1 => RowB.behindLf (hE.2.2.2.resolve_left (by omega)), ?_⟩
              rw [show k - (j + 1) = k' by omega]
              exact hr'
            subst hz1
            clear hE hF hB hinv hz hr' c4
            go_wp2_with fail
            refine (refKind_is 1 a b q s (a : Int) _ hs2 HB.out HE.out HFQ.out HZ.out).mono ?_
            rintro e9 w9 ⟨rfl, rfl⟩
            go_wp2_with fail
            refine (refRow_is a b s (a : Int) _ hs2 HB.out HE.out).mono ?_
            rintro e9 w9 ⟨rfl, rfl⟩
            go_wp2
            go_round
            case rel => exact ⟨(b : Int), j + 1, b + 1, rfl, by go_num, by go_num, by omega, by omega, by omega, HA2⟩
            case measure => simp [intOf]; omega
          obtain ⟨_, hkj, rfl⟩ := hinv.resolve_right (fun h => c4 h.1)
          have hz1 : z ≠ 1 := fun h => c4 ((kind_blank hF).1 (by rw [hz, h]))
          have hzb : (z == 1) = false := by simpa using hz1
          obtain ⟨i, hi⟩ := InN.ex s A b hE.1
          have H := HH.out
          rw [if_neg (by omega)] at H
          replace H := H b i q hE hi hF
          have HI := Lib.hid hi
          have hjk : j = k := Nat.le_antisymm hj (Nat.sub_eq_zero_iff_le.1 hkj)
          subst hjk
          clear hB hinv hi hkj
          by_cases c5 : z = 5
          · by_cases c6 : (i : Int) ≤ n
            · rw [if_pos (.inr c6)] at H
              subst c5
              clear hE hF hz
              go_wp2_with fail
              refine (refKind_is 5 A b q s (A : Int) _ hs2 HB.out HE.out HFQ.out HZ.out).mono ?_
              rintro e9 w9 ⟨rfl, rfl⟩
              go_wp2_with fail
              refine (refKind_is 5 A b q s (A : Int) _ hs2 HB.out HE.out HFQ.out HZ.out).mono ?_
              rintro e9 w9 ⟨rfl, rfl⟩
              go_wp2_with fail
              refine (refIn_is A b i s (A : Int) _ hs2 HB.out HE.out HI.out).mono ?_
              rintro e9 w9 ⟨rfl, rfl⟩
              obtain ⟨rT, rfl, rfl, rfl⟩ := H
              have RT := Lib.hid rT.symm
              clear rT
              go_wp2_with fail
              refine (refFoldFlow_is T _ R _ ho.is (by omega) RT.out).mono ?_
              rintro e9 w9 ⟨rfl, hb9⟩
              go_wp2
              refine bodyPost_ret (results_tmp4 rfl _ _ _) rfl ?_
              exact ⟨rfl, hb.trans (hb9.mono hb.size)⟩
            · rw [if_neg (by rw [hz]; omega)] at H
              have hq0 : q ≠ b := c4
              obtain ⟨y, hy⟩ := ParN.ex s false q (by omega)
              have hy1 := hy.ge
              have hy2 := hy.row (hE.within (by have := HB.out; rw [clampN_self A _ (by omega)] at this; exact this) hF1 hF2)
              replace H := H y hy
              have HY := Lib.hid hy
              subst c5
              clear hF hz hy
              have hqs : q < s.size := by omega
              by_cases c7 : y = q
              · rw [if_pos c7] at H
                subst c7
                clear hE
                go_wp2_with fail
                refine (refKind_is 5 A b y s (A : Int) _ hs2 HB.out HE.out HFQ.out HZ.out).mono ?_
                rintro e9 w9 ⟨rfl, rfl⟩
                go_wp2_with fail
                refine (refKind_is 5 A b y s (A : Int) _ hs2 HB.out HE.out HFQ.out HZ.out).mono ?_
                rintro e9 w9 ⟨rfl, rfl⟩
                go_wp2_with fail
                refine (refIn_is A b i s (A : Int) _ hs2 HB.out HE.out HI.out).mono ?_
                rintro e9 w9 ⟨rfl, rfl⟩
                go_wp2_with fail
                refine (refRow_is A b s (A : Int) _ hs2 HB.out HE.out).mono ?_
                rintro e9 w9 ⟨rfl, rfl⟩
                go_wp2_with fail
                refine (First_is A b y s _ hs2 hE2 HFQ.out).mono ?_
                rintro e9 w9 ⟨rfl, rfl⟩
                go_wp2_with fail
                refine (refPart_is y s y false _ hs2 hqs HY.out).mono ?_
                rintro e9 w9 ⟨rfl, rfl⟩
                obtain ⟨rT, rfl, rfl, rfl⟩ := H
                have RT := Lib.hid rT.symm
                clear rT
                go_wp2_with fail
                refine (refFoldFlow_is T _ R _ ho.is (by omega) RT.out).mono ?_
                rintro e9 w9 ⟨rfl, hb9⟩
                go_wp2
                refine bodyPost_ret (results_tmp4 rfl _ _ _) rfl ?_
                exact ⟨rfl, hb.trans (hb9.mono hb.size)⟩
              rw [if_neg c7] at H
              obtain ⟨c, hc⟩ := FirN.ex s y b hy2
              replace H := H c hc
              have hc1 := hc.1
              have hc2 := hc.2.1
              have HC := Lib.hid hc
              have hc7 : ((y : Int) == (q : Int)) = false := by simp; omega
              have hpl : (pieceL s q y).length = y - q := piece_len (by omega)
              have hx0 : s.extract q y = ⟨(pieceL s q y).toArray⟩ := piece_ext s q y
              have hsl0 : ∀ W, (Instr.slice 9 (.string s) (some (.int .i64 (q : Int))) (some (.int .i64 (y : Int))) none).run Try.prog W = .ok (.string ⟨(pieceL s q y).toArray⟩) W := fun W => by
                rw [run_slice_string W 9 s .i64 .i64 q y Try.underlying9 (by omega) (by omega) (by omega), ← hx0]
                rfl
              obtain ⟨P0, hP0⟩ : ∃ P0, pieceL s q y = P0 := ⟨_, rfl⟩
              rw [hP0] at hsl0 hpl H
              have hRl : R.length ≤ e + 1 := Nat.le_trans (tot_len R) htt
              have htt2 : U.tot (R ++ (U.blanksL j ++ [P0])) ≤ y + 1 := by
                rw [U.tot_append, U.tot_append, tot_blanks]
                simp only [U.tot]
                omega
              have HTT := Lib.hid htt2
              have HRL := Lib.hid hRl
              have HH9 := Lib.hid H
              clear hE hc hx0 hP0 hpl htt2 hRl c7 H
              go_wp2_with fail
              refine (refKind_is 5 A b q s (A : Int) _ hs2 HB.out HE.out HFQ.out HZ.out).mono ?_
              rintro e9 w9 ⟨rfl, rfl⟩
              go_wp2_with fail
              refine (refKind_is 5 A b q s (A : Int) _ hs2 HB.out HE.out HFQ.out HZ.out).mono ?_
              rintro e9 w9 ⟨rfl, rfl⟩
              go_wp2_with fail
              refine (refIn_is A b i s (A : Int) _ hs2 HB.out HE.out HI.out).mono ?_
              rintro e9 w9 ⟨rfl, rfl⟩
              go_wp2_with fail
              refine (refRow_is A b s (A : Int) _ hs2 HB.out HE.out).mono ?_
              rintro e9 w9 ⟨rfl, rfl⟩
              go_wp2_with fail
              refine (First_is A b q s _ hs2 hE2 HFQ.out).mono ?_
              rintro e9 w9 ⟨rfl, rfl⟩
              go_wp2_with fail
              refine (refPart_is y s q false _ hs2 hqs HY.out).mono ?_
              rintro e9 w9 ⟨rfl, rfl⟩
              go_wp2
              have hb7 := hb
              go_loopw [13, 21] (fun v13 v21 wr2 => ∃ i2 : Nat, v21 = .int .i64 (i2 : Int) ∧ i2 ≤ j ∧ OutT w.heap.size wr2 v13 (R ++ U.blanksL i2) ∧ Below w.heap.size w wr2) (fun _ v21 _ => j - (intOf v21).toNat)
              case atStart => exact ⟨0, rfl, Nat.zero_le _, by rw [show U.blanksL 0 = [] from rfl, List.append_nil]; exact ho, hb⟩
              case round =>
                obtain ⟨i2, rfl, hi2, ho2, hb2⟩ := hrel
                have hl2 : (R ++ U.blanksL i2).length ≤ 1000000000 := by
                  have := HRL.out
                  rw [List.length_append, U.blanksL, List.length_replicate]
                  omega
                have HL2 := Lib.hid hl2
                clear hl2
                by_cases c8 : i2 < j
                · go_wp2_with (at_builtin; refine appendOne wr [] rfl _ _ rfl w.heap.size w _ _ rfl rfl ho2 hb2 HL2.out (Nat.le_refl _) ?_; intro v2 w2 o2 b2)
                  go_roundw
                  case rel => exact ⟨i2 + 1, by go_num, by omega, by rw [show U.blanksL (i2 + 1) = U.blanksL i2 ++ [[]] from List.replicate_succ', ← List.append_assoc]; exact o2, b2⟩
                  case measure => simp [intOf]; omega
                · obtain rfl : i2 = j := by omega
                  go_wp2_with (at_builtin; refine appendOne wr P0 rfl _ _ rfl w.heap.size w _ _ rfl rfl ho2 hb2 HL2.out (Nat.le_refl _) ?_; intro v2 w2 o2 b2)
                  rw [List.append_assoc] at o2
                  have H := HH9.out
                  by_cases c9 : c < b
                  · have hi9 := run_byt s c (by omega) (c : Int) rfl
                    obtain ⟨u, hu⟩ : ∃ u, byt s c = u := ⟨_, rfl⟩
                    rw [hu] at hi9 H
                    obtain ⟨v, hv⟩ : ∃ v, endsB s ((c : Int) + 1) = v := ⟨_, rfl⟩
                    rw [hv] at H
                    have HV := Lib.hid hv
                    clear hu hv
                    by_cases c10 : u = 58
                    · subst c10
                      cases v with
                      | true =>
                        rw [if_pos ⟨by trivial, c9, rfl, rfl⟩] at H
                        obtain ⟨rfl, rE, rfl, rfl⟩ := H
                        replace rE := rE.symm
                        subst rE
                        go_wp2_with fail
                        refine (First_is y b c s _ hs2 hE2 HC.out).mono ?_
                        rintro e9 w9 ⟨rfl, rfl⟩
                        go_wp2_with fail
                        refine (refEnds_is true s ((c : Int) + 1) _ hs2 HV.out).mono ?_
                        rintro e9 w9 ⟨rfl, rfl⟩
                        go_wp2
                        refine bodyPost_ret (results_tmp4 rfl _ _ _) rfl ?_
                        exact ⟨rfl, b2⟩
                      | false =>
                        rw [if_neg (fun h => by cases h.2.2.2)] at H
                        have HG2 := Lib.hid H
                        clear H
                        go_wp2_with fail
                        refine (First_is y b c s _ hs2 hE2 HC.out).mono ?_
                        rintro e9 w9 ⟨rfl, rfl⟩
                        go_wp2_with fail
                        refine (refEnds_is false s ((c : Int) + 1) _ hs2 HV.out).mono ?_
                        rintro e9 w9 ⟨rfl, rfl⟩
                        go_wp2
                        go_roundw
                        case rel => exact ⟨y, R ++ (U.blanksL i2 ++ [P0]), false, g, rfl, rfl, by omega, o2, b2, HTT.out, by omega, HG2⟩
                        case measure => simp [intOf]; omega
                    rw [if_neg (fun h => c10 h.2.2.1)] at H
                    have HG2 := Lib.hid H
                    have hu58 : ((u : Int) == 58) = false := by simp; omega
                    clear H c10
                    go_wp2_with fail
                    refine (First_is y b c s _ hs2 hE2 HC.out).mono ?_
                    rintro e9 w9 ⟨rfl, rfl⟩
                    go_wp2
                    go_roundw
                    case rel => exact ⟨y, R ++ (U.blanksL i2 ++ [P0]), false, g, rfl, rfl, by omega, o2, b2, HTT.out, by omega, HG2⟩
                    case measure => simp [intOf]; omega
                  rw [if_neg (fun h => c9 h.2.1)] at H
                  have HG2 := Lib.hid H
                  clear H
                  go_wp2_with fail
                  refine (First_is y b c s _ hs2 hE2 HC.out).mono ?_
                  rintro e9 w9 ⟨rfl, rfl⟩
                  go_wp2
                  go_roundw
                  case rel => exact ⟨y, R ++ (U.blanksL i2 ++ [P0]), false, g, rfl, rfl, by omega, o2, b2, HTT.out, by omega, HG2⟩
                  case measure => simp [intOf]; omega
          rw [if_pos (.inl (by rw [hz]; exact c5))] at H
          have hz5 : (z == 5) = false := by simpa using c5
          have hz5b : (z != 5) = true := by simpa using c5
          clear hE hF hz
          go_wp2_with fail
          refine (refKind_is z A b q s (A : Int) _ hs2 HB.out HE.out HFQ.out HZ.out).mono ?_
          rintro e9 w9 ⟨rfl, rfl⟩
          go_wp2_with fail
          refine (refKind_is z A b q s (A : Int) _ hs2 HB.out HE.out HFQ.out HZ.out).mono ?_
          rintro e9 w9 ⟨rfl, rfl⟩
          obtain ⟨rT, rfl, rfl, rfl⟩ := H
          have RT := Lib.hid rT.symm
          clear rT
          go_wp2_with fail
          refine (refFoldFlow_is T _ R _ ho.is (by omega) RT.out).mono ?_
          rintro e9 w9 ⟨rfl, hb9⟩
          go_wp2
          refine bodyPost_ret (results_tmp4 rfl _ _ _) rfl ?_
          exact ⟨rfl, hb.trans (hb9.mono hb.size)⟩
        · obtain ⟨hkj, rfl⟩ := HA.out.2.end (by omega)
          have H := HH.out
          rw [if_pos (by omega)] at H
          obtain ⟨rT, rfl, rfl, rfl⟩ := H
          have RT := Lib.hid rT.symm
          clear rT
          go_wp2_with fail
          refine (refFoldFlow_is T _ R _ ho.is (by omega) RT.out).mono ?_
          rintro e9 w9 ⟨rfl, hb9⟩
          go_wp2
          refine bodyPost_ret (results_tmp4 rfl _ _ _) rfl ?_
          exact ⟨rfl, hb.trans (hb9.mono hb.size)⟩
theorem refPlain_is (T : List UInt8) (E : Int) (O : Bool) (C : Int) (s : ByteArray) (at' n : Int) (fl : Bool) (w : World) (hs : s.size ≤ 100000) (h : PlaiZ s at' n fl T E O C) :
    Calls Try.prog 18 #[.string s, .int .i64 at', .int .i64 n, .bool fl] w fun e w' => e = .returned (.tuple #[.string ⟨T.toArray⟩, .int .i64 E, .bool O, .int .i64 C]) ∧ Below w.heap.size w w' := by
  cases fl with
  | true => exact refPlain_t T E O C s at' n w hs h
  | false => exact refPlain_f T E O C s at' n w hs h

end Go.Proofs.Ytcmdhodncmgmcaa
