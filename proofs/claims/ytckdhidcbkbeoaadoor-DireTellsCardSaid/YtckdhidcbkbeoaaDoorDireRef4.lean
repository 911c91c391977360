/- The document's answer of chapter 10: Directive, where the words may not be a directive's. Conditions: those that each theorem writes out (lengths that memory can hold). -/
import Derived.Test.YtckdhidcbkbeoaaDoorDireRef3
namespace Go.Proofs.YtckdhidcbkbeoaaDoor
open Go.RowKit

theorem U.words_each (l x : List UInt8) (h : x ∈ U.tWords l) : x.length ≤ l.length := by
  have h1 : ∀ (L : List (List UInt8)) x, x ∈ L → x.length ≤ (Lib.join L [32]).length := by
    intro L
    induction L with
    | nil => intro x hx; cases hx
    | cons y r ih =>
      intro x hx
      rw [Lib.join_cons]
      rcases List.mem_cons.1 hx with rfl | hx
      · simp
      · have h2 := ih x hx
        cases r with
        | nil => cases hx
        | cons z r =>
          rw [Lib.join_cons] at h2
          simp only [Lib.joinTail, List.length_append, List.map_cons, List.flatten_cons, List.length_cons, List.length_nil] at h2 ⊢
          omega
  have h2 := h1 _ x h
  have h3 := U.words_len l []
  simp only [List.length_nil] at h3
  unfold U.tWords at h2
  omega
theorem note_start {l : List UInt8} (h : l.headD 0 = 37) : U.tNote true l = (l.take 1 ++ (U.tNote (U.wh (l.getD 0 0)) (l.drop 1)).1, (U.tNote (U.wh (l.getD 0 0)) (l.drop 1)).2) := by
  cases l with
  | nil => exact absurd h (by decide)
  | cons b r =>
    have hb : b = 37 := h
    subst hb
    rw [U.tNote_cons, if_neg (by decide)]
    rfl
theorem note_miss {l : List UInt8} {i : Nat} {b : UInt8} {N : List UInt8 × List UInt8} (_hi : 1 ≤ i) (hd : l.drop i = b :: l.drop (i + 1)) (hm : ¬ (b = 35 ∧ U.wh (l.getD (i - 1) 0) = true)) (h : N = (l.take i ++ (U.tNote (U.wh (l.getD (i - 1) 0)) (l.drop i)).1, (U.tNote (U.wh (l.getD (i - 1) 0)) (l.drop i)).2)) :
    N = (l.take (i + 1) ++ (U.tNote (U.wh (l.getD (i + 1 - 1) 0)) (l.drop (i + 1))).1, (U.tNote (U.wh (l.getD (i + 1 - 1) 0)) (l.drop (i + 1))).2) := by
  have hg : l.getD i 0 = b := by
    have := congrArg (·[0]?) hd
    simp only [List.getElem?_drop, Nat.add_zero, List.getElem?_cons_zero] at this
    rw [List.getD, this]
    rfl
  rw [hd, U.tNote_cons, if_neg hm] at h
  rw [h, Nat.add_sub_cancel, hg, List.take_add, hd]
  simp [List.append_assoc]
theorem note_hit {l : List UInt8} {i : Nat} {b : UInt8} {N : List UInt8 × List UInt8} (hd : l.drop i = b :: l.drop (i + 1)) (hm : b = 35 ∧ U.wh (l.getD (i - 1) 0) = true) (h : N = (l.take i ++ (U.tNote (U.wh (l.getD (i - 1) 0)) (l.drop i)).1, (U.tNote (U.wh (l.getD (i - 1) 0)) (l.drop i)).2)) :
    N = (l.take i, 35 :: l.drop (i + 1)) := by
  rw [hd, U.tNote_cons, if_pos hm] at h
  rw [h, List.append_nil, hm.1]
theorem note_end {l : List UInt8} {i : Nat} {p : Bool} {N : List UInt8 × List UInt8} (hi : l.length ≤ i) (h : N = (l.take i ++ (U.tNote p (l.drop i)).1, (U.tNote p (l.drop i)).2)) : N = (l, []) := by
  rw [List.drop_eq_nil_of_le hi, U.tNote_nil, List.append_nil, List.take_of_length_le hi] at h
  exact h
theorem getD_byt (s : ByteArray) (k : Nat) (h : k < s.size) : (s.data.toList.getD k 0).toNat = byt s k := by
  obtain ⟨c, hc, hcb⟩ := drop_byte s k h
  have := congrArg (·[0]?) hc
  simp only [List.getElem?_drop, Nat.add_zero, List.getElem?_cons_zero] at this
  rw [List.getD, this, ← hcb]
  rfl
set_option maxRecDepth 100000 in
set_option maxHeartbeats 6400000 in
theorem refDirective_no (W : List (List UInt8)) (N0 : List UInt8 × List UInt8) (s : ByteArray) (w : World) (hs : s.size ≤ 100000) (h37 : s.data.toList.headD 0 = 37) (hWN : U.tNote true s.data.toList = N0) (hW : U.tWords N0.1 = W) (hF : U.tForm W = false) :
    Calls Tryd.prog 22 #[.string s] w fun e w' => e = retRead [] [] false 5 ∧ Below w.heap.size w w' := by
  have hpos : 0 < W.length ∧ (∀ x ∈ W, x ≠ []) ∧ ∀ x ∈ W, x.length ≤ 1000000000 := by
    obtain ⟨w0, ws, hws⟩ := U.words_ne h37
    rw [hWN, hW] at hws
    refine ⟨by rw [hws]; simp, fun x hx => (U.words_word N0.1 x (by rw [hW]; exact hx)).1, fun x hx => ?_⟩
    have h1 := U.words_each N0.1 x (by rw [hW]; exact hx)
    have h2 := congrArg List.length (U.note_cat s.data.toList true)
    rw [List.length_append, hWN, ← Lib.size_eq] at h2
    omega
  have HP := Lib.hid hpos
  have HF := Lib.hid hF
  have HW := Lib.hid hW
  have hst := note_start h37
  rw [hWN] at hst
  have h1s : 1 ≤ s.size := by
    rw [Lib.size_eq]
    cases hl : s.data.toList with
    | nil => rw [hl] at h37; exact absurd h37 (by decide)
    | cons b r => simp
  have hx0 := run_byt s 0 (by omega) 0 rfl
  have hb37 : byt s 0 = 37 := by
    obtain ⟨c, hc, hcb⟩ := drop_byte s 0 (by omega)
    rw [List.drop_zero] at hc
    rw [← hcb, show c = 37 by rw [hc] at h37; exact h37]
    rfl
  rw [hb37] at hx0
  have hem : s.toList.isEmpty = false := by
    rw [Lib.toList_data]
    cases hl : s.data.toList with
    | nil => rw [hl] at h37; exact absurd h37 (by decide)
    | cons c r => rfl
  have HS := Lib.hid hst
  clear hpos hF hW hst h37 hWN hb37
  go_enter Tryd.func22, Tryd.ntmps22
  go_wp2
  go_loop [6, 7, 8, 9] (fun vn vd vb vi => ∃ i : Nat, vn = .string ⟨#[]⟩ ∧ vd = .bool false ∧ vb = .string s ∧ vi = .int .i64 (i : Int) ∧ 1 ≤ i ∧ i ≤ s.size ∧ Hid (N0 = (s.data.toList.take i ++ (U.tNote (U.wh (s.data.toList.getD (i - 1) 0)) (s.data.toList.drop i)).1, (U.tNote (U.wh (s.data.toList.getD (i - 1) 0)) (s.data.toList.drop i)).2))) (fun _ _ _ vi => s.size - (intOf vi).toNat)
  case atStart => exact ⟨1, rfl, rfl, rfl, rfl, Nat.le_refl _, h1s, HS.out⟩
  case round =>
    obtain ⟨i, rfl, rfl, rfl, rfl, hi1, hi, H⟩ := hrel
    by_cases hi2 : i < s.size
    · have hxi := run_byt s i hi2 _ rfl
      have hxj := run_byt s (i - 1) (by omega) ((i : Int) - 1) (by omega)
      obtain ⟨b, hd, hb⟩ := drop_byte s i hi2
      have hwp : U.wh (s.data.toList.getD (i - 1) 0) = U.white (byt s (i - 1) : Int) := by unfold U.wh; rw [getD_byt s (i - 1) (by omega)]
      obtain ⟨x, hx⟩ : ∃ x : Nat, x = byt s i := ⟨_, rfl⟩
      obtain ⟨y, hy⟩ : ∃ y : Nat, y = byt s (i - 1) := ⟨_, rfl⟩
      rw [← hx] at hxi hb
      rw [← hy] at hxj hwp
      have hb35 : b = 35 ↔ x = 35 := by
        rw [← hb]
        exact ⟨fun e => by rw [e]; rfl, fun e => UInt8.toNat_inj.1 e⟩
      clear hx hy hb
      by_cases h35 : x = 35
      · cases hw : U.white (y : Int) with
        | true =>
          have hN0 := note_hit hd ⟨hb35.2 h35, hwp.trans hw⟩ H.out
          have HWt := Lib.hid hw
          subst h35
          obtain ⟨s2, hs2⟩ : ∃ s2, s.extract (i + 1) s.size = s2 := ⟨_, rfl⟩
          obtain ⟨B, hB⟩ : ∃ B, s.extract 0 i = B := ⟨_, rfl⟩
          have hd2 : s2.data.toList = s.data.toList.drop (i + 1) := by rw [← hs2, ext_drop]
          have hdB : B.data.toList = s.data.toList.take i := by rw [← hB, ext_mk, List.drop_zero, Nat.sub_zero]
          have HB : Hid (U.tWords B.data.toList = W) := Lib.hid (by rw [hdB, ← HW.out, hN0])
          have HBS : Hid (B.size ≤ 1000000000) := Lib.hid (by rw [Lib.size_eq, hdB, List.length_take, ← Lib.size_eq]; omega)
          have HS2 : Hid (s2.size ≤ 1099511627776) := Lib.hid (by rw [Lib.size_eq, hd2, List.length_drop, ← Lib.size_eq]; omega)
          have hsl1 : ∀ W, (Instr.slice 9 (.string s) (some (.int .i64 ((i : Int) + 1))) none none).run Tryd.prog W = .ok (.string s2) W := fun W => by
            rw [run_slice_string_from_if W 9 s .i64 ((i : Int) + 1) Tryd.underlying9, if_pos (by omega), show ((i : Int) + 1).toNat = i + 1 by omega, hs2]
          have hsl2 : ∀ W, (Instr.slice 9 (.string s) none (some (.int .i64 (i : Int))) none).run Tryd.prog W = .ok (.string B) W := fun W => by
            rw [run_slice_string_to_if W 9 s .i64 (i : Int) Tryd.underlying9, if_pos (by omega), Int.toNat_natCast, hB]
          obtain ⟨T2, hT2⟩ : ∃ T2, U.tCut s2.data.toList = T2 := ⟨_, rfl⟩
          have HT2 := Lib.hid hT2
          clear hT2
          clear hw hN0 hd2 hdB hs2 hB hd hwp hb35 H HS
          go_wp2_with fail
          refine (refWhite_is true _ _ HWt.out).mono ?_
          rintro e w1 ⟨rfl, rfl⟩
          go_wp2_with fail
          go_quiet (first | exact (refCut_is T2 s2 _ HS2.out HT2.out).mono (by rintro e w' ⟨rfl, rfl⟩; exact ⟨rfl, _, rfl⟩))
          have hbd : Below w.heap.size w (w.drewN nq) := below_dr (Below.refl _ _) _
          go_wp2_with fail
          refine (refWords_is W B _ HBS.out HB.out).mono ?_
          rintro e w2 ⟨v, rfl, ho, hb2⟩
          have hbz := hbd.trans (hb2.mono hbd.size)
          obtain ⟨ao, cap, rfl, k1, m1⟩ := ho.is.slice
          unfold maxLen at m1
          obtain ⟨bb, oo, rfl, hlt, hc⟩ := IsTexts.at ho.is rfl HP.out.1
          have g0 := hc 0 HP.out.1
          rw [Nat.add_zero] at g0
          obtain ⟨L, hL⟩ : ∃ L, L = W.length := ⟨_, rfl⟩
          have e1 : 1 < L → ∃ x, x = W.getD 1 [] ∧ w2.cell? ⟨bb, oo + 1, none⟩ = some (.string ⟨x.toArray⟩) ∧ x.length ≤ 1000000000 ∧ x ≠ [] := fun hl => ⟨_, rfl, hc 1 (by omega), getD_len HP.out.2.2 (by omega), getD_ne HP.out.2.1 (by omega)⟩
          have e2 : 2 < L → ∃ x, x = W.getD 2 [] ∧ w2.cell? ⟨bb, oo + 2, none⟩ = some (.string ⟨x.toArray⟩) ∧ x.length ≤ 1000000000 ∧ x ≠ [] := fun hl => ⟨_, rfl, hc 2 (by omega), getD_len HP.out.2.2 (by omega), getD_ne HP.out.2.1 (by omega)⟩
          have h0 : 0 < L := by rw [hL]; exact HP.out.1
          have hF := HF.out
          have hF2 : U.tForm W = if W.getD 0 [] = [37] then false
              else if W.getD 0 [] = U.yamlL then decide (L = 2) && U.tVer (W.getD 1 [])
              else if W.getD 0 [] = U.tagD then decide (L = 3) && (U.tHan (W.getD 1 []) && U.tPfx (W.getD 2 []))
              else true := by rw [hL]; rfl
          rw [hF2] at hF
          clear hF2
          obtain ⟨A, hA⟩ : ∃ A, A = W.getD 0 [] := ⟨_, rfl⟩
          rw [← hA] at hF g0
          rw [← hL] at k1 ⊢
          clear hc hL hA
          by_cases a1 : A = [37]
          · subst a1
            clear hF e1 e2
            go_wp2
            refine bodyPost_ret (results_tmp4 rfl _ _ _) rfl ?_
            exact ⟨rfl, hbz⟩
          rw [if_neg a1] at hF
          have b1 : (A == [37]) = false := by simpa using a1
          by_cases a2 : A = U.yamlL
          · rw [if_pos a2] at hF
            replace a2 : A = [37, 89, 65, 77, 76] := a2
            subst a2
            clear a1 b1
            by_cases hl : L = 2
            · obtain ⟨x, rfl, g1, x1, x2⟩ := e1 (by omega)
              rw [decide_eq_true hl, Bool.true_and] at hF
              obtain ⟨X, hX⟩ : ∃ X, W.getD 1 [] = X := ⟨_, rfl⟩
              rw [hX] at hF g1 x1
              have HQ : Hid (U.tVer (⟨X.toArray⟩ : ByteArray).data.toList = false) := Lib.hid (by rw [mk_data, hF])
              subst hl
              clear hF e1 e2 hX x2
              go_wp2_with fail
              refine (refVersion_is _ ⟨X.toArray⟩ _ (by rw [mk_size]; omega) HQ.out).mono ?_
              rintro e w3 ⟨rfl, rfl⟩
              go_wp2
              refine bodyPost_ret (results_tmp4 rfl _ _ _) rfl ?_
              exact ⟨rfl, hbz⟩
            · have hl2 : ((L : Int) == 2) = false := by simp; omega
              have hl3 : ((L : Int) != 2) = true := by simp; omega
              clear hF e1 e2 hl
              go_wp2
              refine bodyPost_ret (results_tmp4 rfl _ _ _) rfl ?_
              exact ⟨rfl, hbz⟩
          rw [if_neg a2] at hF
          have b2 : (A == [37, 89, 65, 77, 76]) = false := by simpa [U.yamlL] using a2
          by_cases a3 : A = U.tagD
          · rw [if_pos a3] at hF
            replace a3 : A = [37, 84, 65, 71] := a3
            subst a3
            clear a1 a2 b1 b2
            by_cases hl : L = 3
            · obtain ⟨x, rfl, g1, x1, x2⟩ := e1 (by omega)
              obtain ⟨y, rfl, g2, y1, y2⟩ := e2 (by omega)
              obtain ⟨X, hX⟩ : ∃ X, W.getD 1 [] = X := ⟨_, rfl⟩
              obtain ⟨Y, hY⟩ : ∃ Y, W.getD 2 [] = Y := ⟨_, rfl⟩
              rw [hX] at hF g1 x1
              rw [hY] at hF g2 y1 y2
              rw [decide_eq_true hl, Bool.true_and] at hF
              have HY := Lib.hid y2
              subst hl
              clear e1 e2 hX x2 hY y2
              cases hh : U.tHan X with
              | false =>
                have HH : Hid (U.tHan (⟨X.toArray⟩ : ByteArray).data.toList = false) := Lib.hid (by rw [mk_data, hh])
                clear hF hh
                go_wp2_with fail
                refine (refHandled_is _ ⟨X.toArray⟩ _ (by rw [mk_size]; omega) HH.out).mono ?_
                rintro e w3 ⟨rfl, rfl⟩
                go_wp2
                refine bodyPost_ret (results_tmp4 rfl _ _ _) rfl ?_
                exact ⟨rfl, hbz⟩
              | true =>
                have HH : Hid (U.tHan (⟨X.toArray⟩ : ByteArray).data.toList = true) := Lib.hid (by rw [mk_data, hh])
                have HQ : Hid (U.tPfx (⟨Y.toArray⟩ : ByteArray).data.toList = false) := Lib.hid (by rw [hh, Bool.true_and] at hF; rw [mk_data, hF])
                clear hF hh
                go_wp2_with fail
                refine (refHandled_is _ ⟨X.toArray⟩ _ (by rw [mk_size]; omega) HH.out).mono ?_
                rintro e w3 ⟨rfl, rfl⟩
                go_wp2_with fail
                refine (refUris_is _ ⟨Y.toArray⟩ _ (by rw [mk_size]; omega) (by rw [mk_data]; exact HY.out) HQ.out).mono ?_
                rintro e w3 ⟨rfl, rfl⟩
                go_wp2
                refine bodyPost_ret (results_tmp4 rfl _ _ _) rfl ?_
                exact ⟨rfl, hbz⟩
            · have hl2 : ((L : Int) == 3) = false := by simp; omega
              have hl3 : ((L : Int) != 3) = true := by simp; omega
              clear hF e1 e2 hl
              go_wp2
              refine bodyPost_ret (results_tmp4 rfl _ _ _) rfl ?_
              exact ⟨rfl, hbz⟩
          rw [if_neg a3] at hF
          exact absurd hF (by decide)
        | false =>
          have HN : Hid _ := Lib.hid (note_miss hi1 hd (fun hh => by rw [hwp, hw] at hh; exact absurd hh.2 (by decide)) H.out)
          have HWt := Lib.hid hw
          subst h35
          clear hw hd hwp hb35 H HS
          go_wp2_with fail
          refine (refWhite_is false _ _ HWt.out).mono ?_
          rintro e w1 ⟨rfl, rfl⟩
          go_wp2
          go_round
          case rel => exact ⟨i + 1, rfl, rfl, rfl, by go_num, by omega, by omega, HN.out⟩
          case measure => simp [intOf]; omega
      · have HN : Hid _ := Lib.hid (note_miss hi1 hd (fun hh => h35 (hb35.1 hh.1)) H.out)
        have hxz : ((x : Int) == 35) = false := by simp; omega
        clear hd hwp hb35 H HS h35
        go_wp2
        go_round
        case rel => exact ⟨i + 1, rfl, rfl, rfl, by go_num, by omega, by omega, HN.out⟩
        case measure => simp [intOf]; omega
    · have hN0 := note_end (by rw [← Lib.size_eq]; omega) H.out
      have HB : Hid (U.tWords s.data.toList = W) := Lib.hid (by rw [← HW.out, hN0])
      have HBS : Hid (s.size ≤ 1000000000) := Lib.hid (by omega)
      clear hN0 H HS
      have hbd : Below w.heap.size w w := Below.refl _ _
      go_wp2_with fail
      refine (refWords_is W s _ HBS.out HB.out).mono ?_
      rintro e w2 ⟨v, rfl, ho, hb2⟩
      have hbz := hbd.trans (hb2.mono hbd.size)
      obtain ⟨ao, cap, rfl, k1, m1⟩ := ho.is.slice
      unfold maxLen at m1
      obtain ⟨bb, oo, rfl, hlt, hc⟩ := IsTexts.at ho.is rfl HP.out.1
      have g0 := hc 0 HP.out.1
      rw [Nat.add_zero] at g0
      obtain ⟨L, hL⟩ : ∃ L, L = W.length := ⟨_, rfl⟩
      have e1 : 1 < L → ∃ x, x = W.getD 1 [] ∧ w2.cell? ⟨bb, oo + 1, none⟩ = some (.string ⟨x.toArray⟩) ∧ x.length ≤ 1000000000 ∧ x ≠ [] := fun hl => ⟨_, rfl, hc 1 (by omega), getD_len HP.out.2.2 (by omega), getD_ne HP.out.2.1 (by omega)⟩
      have e2 : 2 < L → ∃ x, x = W.getD 2 [] ∧ w2.cell? ⟨bb, oo + 2, none⟩ = some (.string ⟨x.toArray⟩) ∧ x.length ≤ 1000000000 ∧ x ≠ [] := fun hl => ⟨_, rfl, hc 2 (by omega), getD_len HP.out.2.2 (by omega), getD_ne HP.out.2.1 (by omega)⟩
      have h0 : 0 < L := by rw [hL]; exact HP.out.1
      have hF := HF.out
      have hF2 : U.tForm W = if W.getD 0 [] = [37] then false
          else if W.getD 0 [] = U.yamlL then decide (L = 2) && U.tVer (W.getD 1 [])
          else if W.getD 0 [] = U.tagD then decide (L = 3) && (U.tHan (W.getD 1 []) && U.tPfx (W.getD 2 []))
          else true := by rw [hL]; rfl
      rw [hF2] at hF
      clear hF2
      obtain ⟨A, hA⟩ : ∃ A, A = W.getD 0 [] := ⟨_, rfl⟩
      rw [← hA] at hF g0
      rw [← hL] at k1 ⊢
      clear hc hL hA
      by_cases a1 : A = [37]
      · subst a1
        clear hF e1 e2
        go_wp2
        refine bodyPost_ret (results_tmp4 rfl _ _ _) rfl ?_
        exact ⟨rfl, hbz⟩
      rw [if_neg a1] at hF
      have b1 : (A == [37]) = false := by simpa using a1
      by_cases a2 : A = U.yamlL
      · rw [if_pos a2] at hF
        replace a2 : A = [37, 89, 65, 77, 76] := a2
        subst a2
        clear a1 b1
        by_cases hl : L = 2
        · obtain ⟨x, rfl, g1, x1, x2⟩ := e1 (by omega)
          rw [decide_eq_true hl, Bool.true_and] at hF
          obtain ⟨X, hX⟩ : ∃ X, W.getD 1 [] = X := ⟨_, rfl⟩
          rw [hX] at hF g1 x1
          have HQ : Hid (U.tVer (⟨X.toArray⟩ : ByteArray).data.toList = false) := Lib.hid (by rw [mk_data, hF])
          subst hl
          clear hF e1 e2 hX x2
          go_wp2_with fail
          refine (refVersion_is _ ⟨X.toArray⟩ _ (by rw [mk_size]; omega) HQ.out).mono ?_
          rintro e w3 ⟨rfl, rfl⟩
          go_wp2
          refine bodyPost_ret (results_tmp4 rfl _ _ _) rfl ?_
          exact ⟨rfl, hbz⟩
        · have hl2 : ((L : Int) == 2) = false := by simp; omega
          have hl3 : ((L : Int) != 2) = true := by simp; omega
          clear hF e1 e2 hl
          go_wp2
          refine bodyPost_ret (results_tmp4 rfl _ _ _) rfl ?_
          exact ⟨rfl, hbz⟩
      rw [if_neg a2] at hF
      have b2 : (A == [37, 89, 65, 77, 76]) = false := by simpa [U.yamlL] using a2
      by_cases a3 : A = U.tagD
      · rw [if_pos a3] at hF
        replace a3 : A = [37, 84, 65, 71] := a3
        subst a3
        clear a1 a2 b1 b2
        by_cases hl : L = 3
        · obtain ⟨x, rfl, g1, x1, x2⟩ := e1 (by omega)
          obtain ⟨y, rfl, g2, y1, y2⟩ := e2 (by omega)
          obtain ⟨X, hX⟩ : ∃ X, W.getD 1 [] = X := ⟨_, rfl⟩
          obtain ⟨Y, hY⟩ : ∃ Y, W.getD 2 [] = Y := ⟨_, rfl⟩
          rw [hX] at hF g1 x1
          rw [hY] at hF g2 y1 y2
          rw [decide_eq_true hl, Bool.true_and] at hF
          have HY := Lib.hid y2
          subst hl
          clear e1 e2 hX x2 hY y2
          cases hh : U.tHan X with
          | false =>
            have HH : Hid (U.tHan (⟨X.toArray⟩ : ByteArray).data.toList = false) := Lib.hid (by rw [mk_data, hh])
            clear hF hh
            go_wp2_with fail
            refine (refHandled_is _ ⟨X.toArray⟩ _ (by rw [mk_size]; omega) HH.out).mono ?_
            rintro e w3 ⟨rfl, rfl⟩
            go_wp2
            refine bodyPost_ret (results_tmp4 rfl _ _ _) rfl ?_
            exact ⟨rfl, hbz⟩
          | true =>
            have HH : Hid (U.tHan (⟨X.toArray⟩ : ByteArray).data.toList = true) := Lib.hid (by rw [mk_data, hh])
            have HQ : Hid (U.tPfx (⟨Y.toArray⟩ : ByteArray).data.toList = false) := Lib.hid (by rw [hh, Bool.true_and] at hF; rw [mk_data, hF])
            clear hF hh
            go_wp2_with fail
            refine (refHandled_is _ ⟨X.toArray⟩ _ (by rw [mk_size]; omega) HH.out).mono ?_
            rintro e w3 ⟨rfl, rfl⟩
            go_wp2_with fail
            refine (refUris_is _ ⟨Y.toArray⟩ _ (by rw [mk_size]; omega) (by rw [mk_data]; exact HY.out) HQ.out).mono ?_
            rintro e w3 ⟨rfl, rfl⟩
            go_wp2
            refine bodyPost_ret (results_tmp4 rfl _ _ _) rfl ?_
            exact ⟨rfl, hbz⟩
        · have hl2 : ((L : Int) == 3) = false := by simp; omega
          have hl3 : ((L : Int) != 3) = true := by simp; omega
          clear hF e1 e2 hl
          go_wp2
          refine bodyPost_ret (results_tmp4 rfl _ _ _) rfl ?_
          exact ⟨rfl, hbz⟩
      rw [if_neg a3] at hF
      exact absurd hF (by decide)


end Go.Proofs.YtckdhidcbkbeoaaDoor
