/- The document's answer of chapter 10: Twice. Conditions: those that each theorem writes out (lengths that memory can hold). -/
import Derived.Test.YtckdhidcbkbeoaaDoorDireRef5
import Derived.BigQuiet
namespace Go.Proofs.YtckdhidcbkbeoaaDoor
open Go.RowKit

def rAny (W : List (List UInt8)) (ds : List (List UInt8)) : Bool := ds.any fun x => U.sameD (U.tWords x) W
theorem rAny_nil (W : List (List UInt8)) : rAny W [] = false := rfl
theorem rAny_cons (W : List (List UInt8)) (x : List UInt8) (r : List (List UInt8)) : rAny W (x :: r) = (U.sameD (U.tWords x) W || rAny W r) := rfl
theorem same_no {v w : List (List UInt8)} (h : ¬ (0 < v.length ∧ v.getD 0 [] = w.getD 0 [])) : U.sameD v w = false := by
  unfold U.sameD
  by_cases h1 : 0 < v.length
  · rw [decide_eq_true h1, Bool.true_and, decide_eq_false (fun h2 => h ⟨h1, h2⟩), Bool.false_and]
  · rw [decide_eq_false h1, Bool.false_and]
theorem same_yes {v w : List (List UInt8)} (h : 0 < v.length ∧ v.getD 0 [] = w.getD 0 []) : U.sameD v w = (decide (w.getD 0 [] = U.yamlL) || (decide (w.getD 0 [] = U.tagD) && (decide (1 < w.length) && (decide (1 < v.length) && decide (v.getD 1 [] = w.getD 1 []))))) := by
  unfold U.sameD
  rw [decide_eq_true h.1, decide_eq_true h.2, Bool.true_and, Bool.true_and]
set_option maxRecDepth 100000 in
set_option maxHeartbeats 6400000 in
theorem refTwice_is (q : Bool) (B : Nat) (v : Value) (ds : List (List UInt8)) (d : ByteArray) (w : World) (hv : IsTexts B w v ds) (hB : B ≤ w.heap.size) (hd : d.size ≤ 1000000000) (hsz : ∀ x ∈ ds, x.length ≤ 1000000000) (h : U.tTwice ds d.data.toList = q) :
    Calls Tryd.prog 13 #[v, .string d] w fun e w' => e = .returned (.bool q) ∧ Below w.heap.size w w' := by
  obtain ⟨W, hW⟩ : ∃ W, U.tWords d.data.toList = W := ⟨_, rfl⟩
  have HW := Lib.hid hW
  unfold U.tTwice at h
  rw [hW] at h
  have HQ : Hid ((decide (0 < W.length) && rAny W ds) = q) := Lib.hid h
  clear h hW
  obtain ⟨ao, cap, rfl, k1, m1⟩ := hv.slice
  unfold maxLen at m1
  obtain ⟨L, hL⟩ : ∃ L, L = ds.length := ⟨_, rfl⟩
  rw [← hL] at k1 hv ⊢
  have HL := Lib.hid hL
  have HZ := Lib.hid hsz
  clear hL hsz
  go_enter Tryd.func13, Tryd.ntmps13
  go_wp2_with fail
  refine (refWords_is W d _ hd HW.out).mono ?_
  rintro e w1 ⟨vw, rfl, ho, hb1⟩
  have hz1 := hb1.size
  obtain ⟨aw, capw, rfl, kw, mw⟩ := ho.is.slice
  unfold maxLen at mw
  have how := ho.is
  obtain ⟨M, hM⟩ : ∃ M, M = W.length := ⟨_, rfl⟩
  rw [← hM] at kw how ⊢
  have HM := Lib.hid hM
  have HQ2 : Hid ((decide (0 < M) && rAny W (ds.drop 0)) = q) := Lib.hid (by rw [hM]; exact HQ.out)
  clear hM HQ ho
  go_wp2
  go_loopw [6] (fun vi wr => ∃ i : Nat, vi = .int .i64 (i : Int) ∧ i ≤ L ∧ Below w1.heap.size w1 wr ∧ Hid ((decide (0 < M) && rAny W (ds.drop i)) = q)) (fun vi _ => L - (intOf vi).toNat)
  case atStart => exact ⟨0, rfl, Nat.zero_le _, Below.refl _ _, HQ2.out⟩
  case round =>
    obtain ⟨i, rfl, hi, hb, H⟩ := hrel
    by_cases hi2 : i < L
    · by_cases hm0 : 0 < M
      · obtain ⟨bb, oo, rfl, hlt, hc⟩ := IsTexts.at hv HL.out.symm (by omega)
        obtain ⟨bw, ow, rfl, hltw, hcw⟩ := IsTexts.at how HM.out.symm hm0
        have g1 := hc i hi2
        have hil : i < ds.length := by rw [← HL.out]; exact hi2
        have hxl := getD_len HZ.out hil
        have H2 := H.out
        rw [decide_eq_true hm0, Bool.true_and, drop_getD ds [] i hil, rAny_cons] at H2
        obtain ⟨x, hx⟩ : ∃ x, x = ds.getD i [] := ⟨_, rfl⟩
        rw [← hx] at g1 H2 hxl
        have hbww := hb1.trans (hb.mono hz1)
        have g2 : wr.cell? ⟨bb, oo + i, none⟩ = some (.string ⟨x.toArray⟩) := by rw [hbww.cell (p := ⟨bb, oo + i, none⟩) (by show bb < w.heap.size; omega)]; exact g1
        obtain ⟨V, hV⟩ : ∃ V, U.tWords x = V := ⟨_, rfl⟩
        rw [hV] at H2
        have HV : Hid (U.tWords (⟨x.toArray⟩ : ByteArray).data.toList = V) := Lib.hid (by rw [mk_data, hV])
        have HX := Lib.hid hxl
        have HH2 := Lib.hid H2
        have hbz := hb.size
        have HNX : U.sameD V W = false → Hid ((decide (0 < M) && rAny W (ds.drop (i + 1))) = q) := fun hs => Lib.hid (by rw [decide_eq_true hm0, Bool.true_and, ← HH2.out, hs, Bool.false_or])
        clear hx hc g1 hV hxl hil H H2
        go_wp2_with fail
        refine (refWords_is V ⟨x.toArray⟩ _ (by rw [mk_size]; exact HX.out) HV.out).mono ?_
        rintro e w3 ⟨vv, rfl, ho3, hb3⟩
        obtain ⟨av, capv, rfl, kv, mv⟩ := ho3.is.slice
        unfold maxLen at mv
        have hov := ho3.is
        have hbk := hb.trans (hb3.mono hbz)
        obtain ⟨K, hK⟩ : ∃ K, K = V.length := ⟨_, rfl⟩
        rw [← hK] at kv hov ⊢
        have HK := Lib.hid hK
        clear hK ho3
        have cw : ∀ j, j < M → w3.cell? ⟨bw, ow + j, none⟩ = some (.string ⟨(W.getD j []).toArray⟩) := fun j hj => by
          rw [hbk.cell (p := ⟨bw, ow + j, none⟩) (by show bw < w1.heap.size; omega)]; exact hcw j hj
        clear hcw
        by_cases hk0 : 0 < K
        · obtain ⟨bv, ov, rfl, hltv, hcv⟩ := IsTexts.at hov HK.out.symm hk0
          have cv0 := hcv 0 hk0
          have cw0 := cw 0 hm0
          rw [Nat.add_zero] at cv0 cw0
          have hke : ((K : Int) == 0) = false := by simp; omega
          by_cases hvw : V.getD 0 [] = W.getD 0 []
          · have hsy := same_yes (v := V) (w := W) ⟨by rw [← HK.out]; exact hk0, hvw⟩
            rw [← HK.out, ← HM.out] at hsy
            obtain ⟨w0, hw0⟩ : ∃ w0, W.getD 0 [] = w0 := ⟨_, rfl⟩
            rw [hvw, hw0] at cv0
            rw [hw0] at cw0 hsy
            by_cases y1 : w0 = U.yamlL
            · have HQ3 : Hid (q = true) := Lib.hid (by rw [← HH2.out, hsy, decide_eq_true y1, Bool.true_or, Bool.true_or])
              replace y1 : w0 = [37, 89, 65, 77, 76] := y1
              subst y1
              clear hsy hvw hw0 hcv cw
              go_wp2
              go_quiet (fail)
              go_wp2
              go_ret
              exact ⟨by rw [HQ3.out]; rfl, below_dr (hb1.trans (hbk.mono hz1)) _⟩
            · have n1 : (w0 == [37, 89, 65, 77, 76]) = false := by simpa [U.yamlL] using y1
              rw [decide_eq_false y1, Bool.false_or] at hsy
              by_cases y2 : w0 = U.tagD
              · rw [decide_eq_true y2, Bool.true_and] at hsy
                by_cases hm1 : 1 < M
                · have hmd : decide ((1 : Int) < (M : Int)) = true := by simp; omega
                  rw [decide_eq_true hm1, Bool.true_and] at hsy
                  by_cases hk1 : 1 < K
                  · have hkd : decide ((1 : Int) < (K : Int)) = true := by simp; omega
                    rw [decide_eq_true hk1, Bool.true_and] at hsy
                    have cv1 := hcv 1 hk1
                    have cw1 := cw 1 hm1
                    obtain ⟨a1, ha1⟩ : ∃ a1, V.getD 1 [] = a1 := ⟨_, rfl⟩
                    obtain ⟨b1, hb1'⟩ : ∃ b1, W.getD 1 [] = b1 := ⟨_, rfl⟩
                    rw [ha1] at cv1 hsy
                    rw [hb1'] at cw1 hsy
                    replace y2 : w0 = [37, 84, 65, 71] := y2
                    subst y2
                    by_cases hab : a1 = b1
                    · have HQ3 : Hid (q = true) := Lib.hid (by rw [← HH2.out, hsy, decide_eq_true hab, Bool.true_or])
                      have hee : (a1 == b1) = true := by simpa using hab
                      clear hsy hvw hw0 hcv cw ha1 hb1' y1 n1 hab
                      go_wp2
                      go_quiet (fail)
                      go_wp2
                      go_quiet (fail)
                      go_wp2
                      go_ret
                      exact ⟨by rw [HQ3.out]; rfl, below_dr (below_dr (hb1.trans (hbk.mono hz1)) _) _⟩
                    · have HN := HNX (by rw [hsy, decide_eq_false hab])
                      have hee : (a1 == b1) = false := by simpa using hab
                      clear hsy hvw hw0 hcv cw ha1 hb1' y1 n1 hab
                      go_wp2
                      go_quiet (fail)
                      go_wp2
                      go_quiet (fail)
                      go_wp2
                      go_roundw
                      case rel => exact ⟨i + 1, by go_num, by omega, below_dr hbk _, HN.out⟩
                      case measure => simp [intOf]; omega
                  · have hkd : decide ((1 : Int) < (K : Int)) = false := by simp; omega
                    have HN := HNX (by rw [hsy, decide_eq_false hk1, Bool.false_and])
                    replace y2 : w0 = [37, 84, 65, 71] := y2
                    subst y2
                    clear hsy hvw hw0 hcv cw y1 n1 hk1
                    go_wp2
                    go_quiet (fail)
                    go_wp2
                    go_quiet (fail)
                    go_wp2
                    go_roundw
                    case rel => exact ⟨i + 1, by go_num, by omega, below_dr hbk _, HN.out⟩
                    case measure => simp [intOf]; omega
                · have hmd : decide ((1 : Int) < (M : Int)) = false := by simp; omega
                  have HN := HNX (by rw [hsy, decide_eq_false hm1, Bool.false_and])
                  replace y2 : w0 = [37, 84, 65, 71] := y2
                  subst y2
                  clear hsy hvw hw0 hcv cw y1 n1 hm1
                  go_wp2
                  go_quiet (fail)
                  go_wp2
                  go_quiet (fail)
                  go_wp2
                  go_roundw
                  case rel => exact ⟨i + 1, by go_num, by omega, below_dr hbk _, HN.out⟩
                  case measure => simp [intOf]; omega
              · have n2 : (w0 == [37, 84, 65, 71]) = false := by simpa [U.tagD] using y2
                have HN := HNX (by rw [hsy, decide_eq_false y2, Bool.false_and])
                clear hsy hvw hw0 hcv cw y1 y2
                go_wp2
                go_quiet (fail)
                go_wp2
                go_quiet (fail)
                go_wp2
                go_roundw
                case rel => exact ⟨i + 1, by go_num, by omega, below_dr hbk _, HN.out⟩
                case measure => simp [intOf]; omega
          · have HN := HNX (same_no (fun h => hvw h.2))
            obtain ⟨w0, hw0⟩ : ∃ w0, W.getD 0 [] = w0 := ⟨_, rfl⟩
            obtain ⟨v0, hv0⟩ : ∃ v0, V.getD 0 [] = v0 := ⟨_, rfl⟩
            rw [hw0] at cw0 hvw
            rw [hv0] at cv0 hvw
            have hne : (v0 != w0) = true := by simpa using hvw
            have hne2 : (v0 == w0) = false := by simpa using hvw
            clear hvw hw0 hv0 hcv cw
            go_wp2
            go_quiet (fail)
            go_wp2
            go_roundw
            case rel => exact ⟨i + 1, by go_num, by omega, below_dr hbk _, HN.out⟩
            case measure => simp [intOf]; omega
        · have HN := HNX (same_no (fun h => hk0 (by rw [HK.out]; exact h.1)))
          have hke : ((K : Int) == 0) = true := by simp; omega
          clear cw
          go_wp2
          go_quiet (fail)
          go_wp2
          go_roundw
          case rel => exact ⟨i + 1, by go_num, by omega, below_dr hbk _, HN.out⟩
          case measure => simp [intOf]; omega
      · have HQ3 : Hid (q = false) := Lib.hid (by rw [← H.out, decide_eq_false hm0, Bool.false_and])
        clear H
        go_wp2
        go_ret
        exact ⟨by rw [HQ3.out]; rfl, hb1.trans (hb.mono hz1)⟩
    · have HQ3 : Hid (q = false) := Lib.hid (by
        rw [← H.out, List.drop_eq_nil_of_le (by rw [← HL.out]; omega), rAny_nil, Bool.and_false])
      clear H
      go_wp2
      go_ret
      exact ⟨by rw [HQ3.out]; rfl, hb1.trans (hb.mono hz1)⟩

end Go.Proofs.YtckdhidcbkbeoaaDoor
