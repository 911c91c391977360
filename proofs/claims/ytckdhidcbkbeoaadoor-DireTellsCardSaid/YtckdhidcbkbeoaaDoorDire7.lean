/- Package dire: what Twice returns. Conditions: those that each theorem writes out (lengths that memory can hold). -/
import Derived.Test.YtckdhidcbkbeoaaDoorDire6
namespace Go.Proofs.YtckdhidcbkbeoaaDoor
open Go.RowKit

/-- Is one of the directives of the name n, and of the handle h? -/
def pAny (n h : List UInt8) (ds : List (List UInt8)) : Bool := ds.any fun x => decide ((U.tFst x).1 = n) && (decide (n = U.yamlL) || decide ((U.tFst (U.tFst x).2).1 = h))
def pTwice (ds : List (List UInt8)) (d : List UInt8) : Bool :=
  (decide ((U.tFst d).1 = U.yamlL) || (decide ((U.tFst d).1 = U.tagD) && !(U.tFst (U.tFst d).2).1.isEmpty)) && pAny (U.tFst d).1 (U.tFst (U.tFst d).2).1 ds
theorem pAny_nil (n h : List UInt8) : pAny n h [] = false := rfl
theorem pAny_cons (n h x : List UInt8) (r : List (List UInt8)) : pAny n h (x :: r) = ((decide ((U.tFst x).1 = n) && (decide (n = U.yamlL) || decide ((U.tFst (U.tFst x).2).1 = h))) || pAny n h r) := rfl
theorem pTwice_is (ds : List (List UInt8)) (d : List UInt8) : pTwice ds d = U.tTwice ds d := by
  unfold pTwice U.tTwice pAny
  obtain ⟨n0, n1, n2, n3⟩ := U.words_get d
  obtain ⟨n, hn⟩ : ∃ n, (U.tFst d).1 = n := ⟨_, rfl⟩
  obtain ⟨m, hm⟩ : ∃ m, (U.tFst (U.tFst d).2).1 = m := ⟨_, rfl⟩
  rw [hn] at n0 n2 ⊢
  rw [hm] at n1 n3 ⊢
  have step : ∀ x, U.sameD (U.tWords x) (U.tWords d) = (decide ((U.tFst x).1 ≠ []) && (decide ((U.tFst x).1 = n) && (decide (n = U.yamlL) || (decide (n = U.tagD) && (decide (m ≠ []) && (decide ((U.tFst (U.tFst x).2).1 ≠ []) && decide ((U.tFst (U.tFst x).2).1 = m))))))) := by
    intro x
    obtain ⟨x0, x1, x2, x3⟩ := U.words_get x
    unfold U.sameD
    rw [x0, x1, n0, n1, decide_eq_decide.2 x2, decide_eq_decide.2 x3, decide_eq_decide.2 n3]
  rw [decide_eq_decide.2 n2, show (fun x => U.sameD (U.tWords x) (U.tWords d)) = _ from funext step]
  by_cases hy : n = U.yamlL
  · subst hy
    rw [decide_eq_true (rfl : U.yamlL = U.yamlL), decide_eq_true (show U.yamlL ≠ [] by decide), Bool.true_or, Bool.true_and, Bool.true_and]
    refine congrArg (List.any ds) (funext fun x => ?_)
    rw [Bool.true_or, Bool.true_or]
    by_cases hx : (U.tFst x).1 = U.yamlL
    · rw [hx]; decide
    · rw [decide_eq_false hx]; simp
  rw [decide_eq_false hy, Bool.false_or]
  by_cases ht : n = U.tagD
  · subst ht
    rw [decide_eq_true (rfl : U.tagD = U.tagD), decide_eq_true (show U.tagD ≠ [] by decide), Bool.true_and, Bool.true_and]
    by_cases he : m = []
    · subst he
      have : ∀ l : List (List UInt8), (l.any fun x => decide ((U.tFst x).1 ≠ []) && (decide ((U.tFst x).1 = U.tagD) && (false || (true && (decide (([] : List UInt8) ≠ []) && (decide ((U.tFst (U.tFst x).2).1 ≠ []) && decide ((U.tFst (U.tFst x).2).1 = []))))))) = false := by
        intro l
        rw [List.any_eq_false]
        intro x _
        simp
      rw [this]
      rfl
    · have hme : (!m.isEmpty) = true := by cases m <;> simp_all
      rw [hme, Bool.true_and]
      refine congrArg (List.any ds) (funext fun x => ?_)
      rw [decide_eq_true he, Bool.false_or, Bool.false_or, Bool.true_and, Bool.true_and]
      by_cases hx : (U.tFst x).1 = U.tagD
      · rw [hx, decide_eq_true (rfl : U.tagD = U.tagD), decide_eq_true (show U.tagD ≠ [] by decide), Bool.true_and, Bool.true_and, Bool.true_and]
        by_cases hxm : (U.tFst (U.tFst x).2).1 = m
        · rw [hxm, decide_eq_true he, Bool.true_and]
        · rw [decide_eq_false hxm, Bool.and_false]
      · rw [decide_eq_false hx, Bool.false_and, Bool.false_and, Bool.and_false]
  · rw [decide_eq_false ht, Bool.false_and, Bool.false_and]
    symm
    rw [Bool.and_eq_false_iff]
    right
    rw [List.any_eq_false]
    intro x _
    simp
set_option maxRecDepth 100000 in
set_option maxHeartbeats 1600000 in
/-- The loop over the directives, as Twice has it. -/
theorem direTwice_is (q : Bool) (B : Nat) (v : Value) (ds : List (List UInt8)) (d : ByteArray) (w : World) (hv : IsTexts B w v ds) (hB : B ≤ w.heap.size) (hd : d.size ≤ 1000000000) (hsz : ∀ x ∈ ds, x.length ≤ 1000000000) (h : U.tTwice ds d.data.toList = q) :
    Calls Tryd.prog 12 #[v, .string d] w fun e w' => e = .returned (.bool q) ∧ Below w.heap.size w w' := by
  obtain ⟨n, r, hnr⟩ : ∃ n r, U.tFst d.data.toList = (n, r) := ⟨_, _, rfl⟩
  obtain ⟨m, r2, hmr⟩ : ∃ m r2, U.tFst r = (m, r2) := ⟨_, _, rfl⟩
  have hle := U.fst_le d.data.toList
  rw [← pTwice_is] at h
  unfold pTwice at h
  rw [hnr, hmr] at h
  rw [hnr, ← Lib.size_eq] at hle
  dsimp only at h hle
  have HR := Lib.hid (show r.length ≤ 1000000000 by omega)
  have HN := Lib.hid hnr
  have HM : Hid (U.tFst (⟨r.toArray⟩ : ByteArray).data.toList = (m, r2)) := Lib.hid (by rw [mk_data, hmr])
  clear hnr hmr hle
  obtain ⟨ao, cap, rfl, k1, m1⟩ := hv.slice
  unfold maxLen at m1
  obtain ⟨L, hL⟩ : ∃ L, L = ds.length := ⟨_, rfl⟩
  rw [← hL] at k1 hv ⊢
  have HL := Lib.hid hL
  have HZ := Lib.hid hsz
  clear hL hsz
  by_cases h1 : n = U.yamlL
  · have HQ : Hid (pAny n m ds = q) := Lib.hid (by rw [← h, h1]; simp)
    have HY := Lib.hid h1
    replace h1 : n = [37, 89, 65, 77, 76] := h1
    subst h1
    clear h
    go_enter Tryd.func12, Tryd.ntmps12
    go_wp2_with fail
    refine (direWord_is _ _ d _ (by omega) HN.out).mono ?_
    rintro e w1 ⟨rfl, hb1⟩
    go_wp2_with fail
    refine (direWord_is _ _ ⟨r.toArray⟩ _ (by rw [mk_size]; have := HR.out; omega) HM.out).mono ?_
    rintro e w2 ⟨rfl, hb2⟩
    have hb3 := hb1.trans (hb2.mono hb1.size)
    go_wp2
    go_loopw [37] (fun vi wr => ∃ i : Nat, vi = .int .i64 (i : Int) ∧ i ≤ L ∧ Below w.heap.size w wr ∧ Hid (pAny [37, 89, 65, 77, 76] m (ds.drop i) = q)) (fun vi _ => L - (intOf vi).toNat)
    case atStart => exact ⟨0, rfl, Nat.zero_le _, hb3, HQ.out⟩
    case round =>
      obtain ⟨i, rfl, hi, hb, H⟩ := hrel
      by_cases hi2 : i < L
      · obtain ⟨bb, oo, rfl, hlt, hc⟩ := IsTexts.at hv HL.out.symm (by omega)
        have g1 := hc i hi2
        have hil : i < ds.length := by rw [← HL.out]; exact hi2
        have hxl := getD_len HZ.out hil
        have H2 := H.out
        rw [drop_getD ds [] i hil, pAny_cons] at H2
        obtain ⟨x, hx⟩ : ∃ x, x = ds.getD i [] := ⟨_, rfl⟩
        rw [← hx] at g1 H2 hxl
        obtain ⟨n', r', hnr'⟩ : ∃ n' r', U.tFst x = (n', r') := ⟨_, _, rfl⟩
        obtain ⟨m', r3, hmr'⟩ : ∃ m' r3, U.tFst r' = (m', r3) := ⟨_, _, rfl⟩
        have hle' := U.fst_le x
        rw [hnr', hmr'] at H2
        rw [hnr'] at hle'
        dsimp only at H2 hle'
        have HN' : Hid (U.tFst (⟨x.toArray⟩ : ByteArray).data.toList = (n', r')) := Lib.hid (by rw [mk_data, hnr'])
        have HM' : Hid (U.tFst (⟨r'.toArray⟩ : ByteArray).data.toList = (m', r3)) := Lib.hid (by rw [mk_data, hmr'])
        have HX := Lib.hid (show x.length ≤ 1000000000 ∧ r'.length ≤ 1000000000 by omega)
        have g2 : wr.cell? ⟨bb, oo + i, none⟩ = some (.string ⟨x.toArray⟩) := by rw [hb.cell (p := ⟨bb, oo + i, none⟩) (by show bb < w.heap.size; omega)]; exact g1
        clear hx hc g1 hnr' hmr' hle' hxl hil H
        by_cases hn : n' = [37, 89, 65, 77, 76]
        · have HQ2 : Hid (q = true) := Lib.hid (by rw [← H2, hn]; rfl)
          subst hn
          clear H2
          go_wp2_with fail
          refine (direWord_is _ _ ⟨x.toArray⟩ _ (by rw [mk_size]; have := HX.out; omega) HN'.out).mono ?_
          rintro e w3 ⟨rfl, hb4⟩
          go_wp2_with fail
          refine (direWord_is _ _ ⟨r'.toArray⟩ _ (by rw [mk_size]; have := HX.out; omega) HM'.out).mono ?_
          rintro e w4 ⟨rfl, hb5⟩
          have hb6 := (hb.trans (hb4.mono hb.size)).trans (hb5.mono (by have := hb4.size; have := hb.size; omega))
          go_wp2
          go_ret
          exact ⟨by rw [HQ2.out]; rfl, hb6⟩
        · have hnz : (n' == [37, 89, 65, 77, 76]) = false := by simpa using hn
          have hnz2 : (n' != [37, 89, 65, 77, 76]) = true := by simpa using hn
          have HQ2 := Lib.hid (show pAny [37, 89, 65, 77, 76] m (ds.drop (i + 1)) = q by rw [← H2, decide_eq_false hn]; rfl)
          clear H2 hn
          go_wp2_with fail
          refine (direWord_is _ _ ⟨x.toArray⟩ _ (by rw [mk_size]; have := HX.out; omega) HN'.out).mono ?_
          rintro e w3 ⟨rfl, hb4⟩
          have hb5 := hb.trans (hb4.mono hb.size)
          go_wp2
          go_roundw
          case rel => exact ⟨i + 1, by go_num, by omega, hb5, HQ2.out⟩
          case measure => simp [intOf]; omega
      · have H2 := H.out
        rw [List.drop_eq_nil_of_le (by rw [← HL.out]; omega), pAny_nil] at H2
        have HQ2 := Lib.hid H2
        clear H2
        go_wp2
        go_ret
        exact ⟨by rw [← HQ2.out]; rfl, hb⟩
  have b1 : (n == [37, 89, 65, 77, 76]) = false := by simpa [U.yamlL] using h1
  have b2 : (n != [37, 89, 65, 77, 76]) = true := by simpa [U.yamlL] using h1
  by_cases h2 : n = U.tagD
  · by_cases h3 : m = []
    · have HQ : Hid (q = false) := Lib.hid (by rw [← h, h2, h3]; rfl)
      replace h2 : n = [37, 84, 65, 71] := h2
      subst h2 h3
      clear h h1 b1 b2
      go_enter Tryd.func12, Tryd.ntmps12
      go_wp2_with fail
      refine (direWord_is _ _ d _ (by omega) HN.out).mono ?_
      rintro e w1 ⟨rfl, hb1⟩
      go_wp2_with fail
      refine (direWord_is _ _ ⟨r.toArray⟩ _ (by rw [mk_size]; have := HR.out; omega) HM.out).mono ?_
      rintro e w2 ⟨rfl, hb2⟩
      have hb3 := hb1.trans (hb2.mono hb1.size)
      go_wp2
      go_ret
      exact ⟨by rw [HQ.out]; rfl, hb3⟩
    · have hme : m.isEmpty = false := by cases m <;> simp_all
      have HQ : Hid (pAny [37, 84, 65, 71] m ds = q) := Lib.hid (by rw [← h, h2, hme]; rfl)
      replace h2 : n = [37, 84, 65, 71] := h2
      subst h2
      clear h h1 b1 b2 h3
      go_enter Tryd.func12, Tryd.ntmps12
      go_wp2_with fail
      refine (direWord_is _ _ d _ (by omega) HN.out).mono ?_
      rintro e w1 ⟨rfl, hb1⟩
      go_wp2_with fail
      refine (direWord_is _ _ ⟨r.toArray⟩ _ (by rw [mk_size]; have := HR.out; omega) HM.out).mono ?_
      rintro e w2 ⟨rfl, hb2⟩
      have hb3 := hb1.trans (hb2.mono hb1.size)
      go_wp2
      go_loopw [37] (fun vi wr => ∃ i : Nat, vi = .int .i64 (i : Int) ∧ i ≤ L ∧ Below w.heap.size w wr ∧ Hid (pAny [37, 84, 65, 71] m (ds.drop i) = q)) (fun vi _ => L - (intOf vi).toNat)
      case atStart => exact ⟨0, rfl, Nat.zero_le _, hb3, HQ.out⟩
      case round =>
        obtain ⟨i, rfl, hi, hb, H⟩ := hrel
        by_cases hi2 : i < L
        · obtain ⟨bb, oo, rfl, hlt, hc⟩ := IsTexts.at hv HL.out.symm (by omega)
          have g1 := hc i hi2
          have hil : i < ds.length := by rw [← HL.out]; exact hi2
          have hxl := getD_len HZ.out hil
          have H2 := H.out
          rw [drop_getD ds [] i hil, pAny_cons] at H2
          obtain ⟨x, hx⟩ : ∃ x, x = ds.getD i [] := ⟨_, rfl⟩
          rw [← hx] at g1 H2 hxl
          obtain ⟨n', r', hnr'⟩ : ∃ n' r', U.tFst x = (n', r') := ⟨_, _, rfl⟩
          obtain ⟨m', r3, hmr'⟩ : ∃ m' r3, U.tFst r' = (m', r3) := ⟨_, _, rfl⟩
          have hle' := U.fst_le x
          rw [hnr', hmr'] at H2
          rw [hnr'] at hle'
          dsimp only at H2 hle'
          have HN' : Hid (U.tFst (⟨x.toArray⟩ : ByteArray).data.toList = (n', r')) := Lib.hid (by rw [mk_data, hnr'])
          have HM' : Hid (U.tFst (⟨r'.toArray⟩ : ByteArray).data.toList = (m', r3)) := Lib.hid (by rw [mk_data, hmr'])
          have HX := Lib.hid (show x.length ≤ 1000000000 ∧ r'.length ≤ 1000000000 by omega)
          have g2 : wr.cell? ⟨bb, oo + i, none⟩ = some (.string ⟨x.toArray⟩) := by rw [hb.cell (p := ⟨bb, oo + i, none⟩) (by show bb < w.heap.size; omega)]; exact g1
          clear hx hc g1 hnr' hmr' hle' hxl hil H
          by_cases hn : n' = [37, 84, 65, 71]
          · by_cases hm : m' = m
            · have HQ2 : Hid (q = true) := Lib.hid (by rw [← H2, hn, hm]; simp)
              have hmm : (m' == m) = true := by simpa using hm
              subst hn
              clear H2 hm
              go_wp2_with fail
              refine (direWord_is _ _ ⟨x.toArray⟩ _ (by rw [mk_size]; have := HX.out; omega) HN'.out).mono ?_
              rintro e w3 ⟨rfl, hb4⟩
              go_wp2_with fail
              refine (direWord_is _ _ ⟨r'.toArray⟩ _ (by rw [mk_size]; have := HX.out; omega) HM'.out).mono ?_
              rintro e w4 ⟨rfl, hb5⟩
              have hb6 := (hb.trans (hb4.mono hb.size)).trans (hb5.mono (by have := hb4.size; have := hb.size; omega))
              go_wp2
              go_ret
              exact ⟨by rw [HQ2.out]; rfl, hb6⟩
            · have hmm : (m' == m) = false := by simpa using hm
              have HQ2 := Lib.hid (show pAny [37, 84, 65, 71] m (ds.drop (i + 1)) = q by rw [← H2, decide_eq_false hm, decide_eq_false (show ¬ ([37, 84, 65, 71] : List UInt8) = U.yamlL by decide), Bool.or_false, Bool.and_false, Bool.false_or])
              subst hn
              clear H2 hm
              go_wp2_with fail
              refine (direWord_is _ _ ⟨x.toArray⟩ _ (by rw [mk_size]; have := HX.out; omega) HN'.out).mono ?_
              rintro e w3 ⟨rfl, hb4⟩
              go_wp2_with fail
              refine (direWord_is _ _ ⟨r'.toArray⟩ _ (by rw [mk_size]; have := HX.out; omega) HM'.out).mono ?_
              rintro e w4 ⟨rfl, hb5⟩
              have hb6 := (hb.trans (hb4.mono hb.size)).trans (hb5.mono (by have := hb4.size; have := hb.size; omega))
              go_wp2
              go_roundw
              case rel => exact ⟨i + 1, by go_num, by omega, hb6, HQ2.out⟩
              case measure => simp [intOf]; omega
          · have hnz : (n' == [37, 84, 65, 71]) = false := by simpa using hn
            have hnz2 : (n' != [37, 84, 65, 71]) = true := by simpa using hn
            have HQ2 := Lib.hid (show pAny [37, 84, 65, 71] m (ds.drop (i + 1)) = q by rw [← H2, decide_eq_false hn]; rfl)
            clear H2 hn
            go_wp2_with fail
            refine (direWord_is _ _ ⟨x.toArray⟩ _ (by rw [mk_size]; have := HX.out; omega) HN'.out).mono ?_
            rintro e w3 ⟨rfl, hb4⟩
            have hb5 := hb.trans (hb4.mono hb.size)
            go_wp2
            go_roundw
            case rel => exact ⟨i + 1, by go_num, by omega, hb5, HQ2.out⟩
            case measure => simp [intOf]; omega
        · have H2 := H.out
          rw [List.drop_eq_nil_of_le (by rw [← HL.out]; omega), pAny_nil] at H2
          have HQ2 := Lib.hid H2
          clear H2
          go_wp2
          go_ret
          exact ⟨by rw [← HQ2.out]; rfl, hb⟩
  · have HQ : Hid (q = false) := Lib.hid (by rw [← h, decide_eq_false h1, decide_eq_false h2]; rfl)
    have c1 : (n == [37, 84, 65, 71]) = false := by simpa [U.tagD] using h2
    have c2 : (n != [37, 84, 65, 71]) = true := by simpa [U.tagD] using h2
    clear h h1 h2
    go_enter Tryd.func12, Tryd.ntmps12
    go_wp2_with fail
    refine (direWord_is _ _ d _ (by omega) HN.out).mono ?_
    rintro e w1 ⟨rfl, hb1⟩
    go_wp2_with fail
    refine (direWord_is _ _ ⟨r.toArray⟩ _ (by rw [mk_size]; have := HR.out; omega) HM.out).mono ?_
    rintro e w2 ⟨rfl, hb2⟩
    have hb3 := hb1.trans (hb2.mono hb1.size)
    go_wp2
    go_ret
    exact ⟨by rw [HQ.out]; rfl, hb3⟩

end Go.Proofs.YtckdhidcbkbeoaaDoor
