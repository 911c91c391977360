/- The statements on package fold: the walk of FoldTells: for every input the law returns true. Conditions: none beside those that each theorem writes out. -/
import Derived.Test.YtcpnonlcchkgeaaFoldRef2
namespace Go.Proofs.Ytcpnonlcchkgeaa
open Go.RowKit

theorem texts_grown {B : Nat} {w : World} {v : Value} {ls : List (List UInt8)} (h : IsTexts B w v ls) (w' : World) (hb : Below B w w') (B' : Nat) (hB : B ≤ B') : IsTexts B' w' v ls := (h.below hb).mono hB

set_option maxRecDepth 100000 in
set_option maxHeartbeats 4000000 in
/-- What every program answers that is one. -/
theorem awake6_any (w : World) : Calls Try.prog 8 #[] w fun e w' => e = .returned (.bool true) ∧ Below w.heap.size w w' := by
  go_enter Try.func8, Try.ntmps8
  go_wp2_with fail
  refine (foldFlow_is [97, 10, 10, 98] _ [[97], [], [], [98]] _ ((texts_new w [[97], [], [], [98]] (by decide)).mono (by simp)) (by decide) (by decide)).mono ?_
  rintro e w1 ⟨rfl, b1⟩
  replace b1 := ((Below.refl w.heap.size w).alloc (Nat.le_refl _) _).trans (b1.mono (by simp))
  go_wp2_with fail
  refine (foldFlow_is [32, 98] _ [[], [98]] _ ((texts_new w1 [[], [98]] (by decide)).mono (by simp)) (by decide) (by decide)).mono ?_
  rintro e w2 ⟨rfl, b2⟩
  replace b2 := (b1.alloc b1.size _).trans (b2.mono (by have := b1.size; simp; omega))
  go_wp2_with fail
  refine (foldBlockQ_is true [97, 32, 98] _ [[97], [98]] _ ((texts_new w2 [[97], [98]] (by decide)).mono (by simp)) (by decide) (by decide)).mono ?_
  rintro e w3 ⟨rfl, b3⟩
  replace b3 := (b2.alloc b2.size _).trans (b3.mono (by have := b2.size; simp; omega))
  go_wp2_with fail
  refine (foldBlockQ_is true [97, 10, 32, 98] _ [[97], [32, 98]] _ ((texts_new w3 [[97], [32, 98]] (by decide)).mono (by simp)) (by decide) (by decide)).mono ?_
  rintro e w4 ⟨rfl, b4⟩
  replace b4 := (b3.alloc b3.size _).trans (b4.mono (by have := b3.size; simp; omega))
  go_wp2_with fail
  refine (foldBlockQ_is false [97, 10, 98] _ [[97], [98]] _ ((texts_new w4 [[97], [98]] (by decide)).mono (by simp)) (by decide) (by decide)).mono ?_
  rintro e w5 ⟨rfl, b5⟩
  replace b5 := (b4.alloc b4.size _).trans (b5.mono (by have := b4.size; simp; omega))
  go_wp2
  go_ret
  exact ⟨rfl, b5⟩

theorem longB_tot : ∀ (ls : List (List UInt8)) (n : Int), 0 ≤ n → longB n (ls.map List.length) = false → (U.tot ls : Int) ≤ n
  | [], n, h0, _ => by simpa [U.tot] using h0
  | r :: t, n, h0, h => by
    rw [List.map_cons, longB] at h
    by_cases hlt : n ≤ (r.length : Int)
    · rw [if_pos hlt] at h; cases h
    · rw [if_neg hlt] at h
      have := longB_tot t (n - r.length - 1) (by omega) h
      rw [U.tot]; push_cast; omega
theorem tot_set : ∀ (ls : List (List UInt8)) (k : Nat), U.tot (ls.set k []) ≤ U.tot ls
  | [], k => by simp
  | r :: t, 0 => by simp [U.tot]
  | r :: t, k + 1 => by
    have := tot_set t k
    simp only [List.set_cons_succ, U.tot]; omega

theorem txts_set (ls : List (List UInt8)) (k : Nat) : txts (ls.set k []) = (txts ls).set k (.string ⟨#[]⟩) := List.map_set

set_option maxRecDepth 100000 in
set_option maxHeartbeats 2000000 in
theorem FoldTells_walk (v1 v2 : Value) (ls : List (List UInt8)) (bs : List Bool) (w : World) (h1 : IsTexts w.heap.size w v1 ls) (h2 : IsBools w.heap.size w v2 bs) (hz : ∀ l ∈ ls, l.length ≤ maxLen) :
    Calls Try.prog 3 #[v1, v2] w fun e w' => e = .returned (.bool true) ∧ Below w.heap.size w w' := by
  obtain ⟨ao1, cap1, rfl, c1, d1⟩ := h1.slice
  obtain ⟨ao2, cap2, rfl, c2, d2⟩ := h2.slice
  unfold maxLen at d1 d2
  by_cases hl : 20 < ls.length
  · go_enter Try.func3, Try.ntmps3
    go_wp2_with (go_at_call 8; refine (awake6_any _).mono ?_; rintro e w1 ⟨rfl, b1⟩)
    go_ret
    exact ⟨rfl, b1⟩
  · cases hlong : longB 200 (ls.map List.length) with
    | true =>
      go_enter Try.func3, Try.ntmps3
      go_wp2_with (first | (go_at_call 7; refine (LongT_is true _ _ _ ls _ (by omega) (by omega) h1 hz hlong).mono ?_; rintro e w1 ⟨rfl, rfl⟩) | (go_at_call 8; refine (awake6_any _).mono ?_; rintro e w1 ⟨rfl, b1⟩))
      go_ret
      exact ⟨rfl, b1⟩
    | false =>
      have htot := longB_tot ls 200 (by omega) hlong
      go_enter Try.func3, Try.ntmps3
      go_wp2_with (first | (go_at_call 7; refine (LongT_is false _ _ _ ls _ (by omega) (by omega) h1 hz hlong).mono ?_; rintro e w1 ⟨rfl, rfl⟩) | (at_builtin; refine appendT rfl _ _ rfl w.heap.size w.heap.size (.slice none 0 0) _ [] ls rfl rfl (OutT.nil _ _) h1 (by simp; omega) (Nat.le_refl _) ?_; intro v2 w2 o2 g2))
      have b2 : Below w.heap.size w w2 := (Below.refl _ _).grown g2 (Nat.le_refl _) (fun k hk => by simp [Value.ownBlock] at hk)
      rw [List.nil_append] at o2
      obtain ⟨ao3, cap3, rfl, c3, d3⟩ := o2.is.slice
      unfold maxLen at d3
      obtain ⟨L, hL⟩ : ∃ L, L = ls.length := ⟨_, rfl⟩
      obtain ⟨M, hM⟩ : ∃ M, M = bs.length := ⟨_, rfl⟩
      rw [← hL] at o2 c3 hl ⊢
      rw [← hM] at h2 c2 ⊢
      have HL := Lib.hid hL
      have HM := Lib.hid hM
      clear hL hM h1 hz hlong g2 c1
      go_loopw [6] (fun vi wr => ∃ (k : Nat) (xs : List (List UInt8)), vi = .int .i64 (k : Int) ∧ k ≤ L ∧ xs.length = L ∧ OutT w.heap.size wr (.slice ao3 L cap3) xs ∧ U.tot xs ≤ 200 ∧ Below w.heap.size w wr) (fun vi _ => L - (intOf vi).toNat)
      case atStart => exact ⟨0, ls, rfl, Nat.zero_le _, HL.out.symm, o2, by omega, b2⟩
      case round =>
        obtain ⟨k, xs, rfl, hk, hxl, ho, ht, hb⟩ := hrel
        by_cases hk2 : k < L ∧ k < M
        · obtain ⟨hkL, hkM⟩ := hk2
          obtain ⟨g, cp, hsh, hg, hgc, hgm⟩ := ho.shape (by omega)
          injection hsh with e1 e2 e3
          subst e1 e3
          clear e2
          obtain ⟨b1, o1, rfl, hlt1, hc1⟩ := IsBools.at h2 HM.out.symm (by omega)
          have g1 := hc1 k hkM
          rw [← hb.cell (p := ⟨b1, o1 + k, none⟩) hlt1] at g1
          obtain ⟨q, hq⟩ : ∃ q, q = bs.getD k false := ⟨_, rfl⟩
          rw [← hq] at g1
          have ho' := ho
          unfold OutT at ho'
          rw [hxl] at ho'
          have gc := ho'.cellAt k (by omega)
          rw [txts_get xs k (by omega)] at gc
          have gf := ho'.frozenAt k
          have hst := (ho'.stored k (.string ⟨#[]⟩)).1
          have hset := tot_set xs k
          have HX := Lib.hid hxl
          clear hc1 hq ho' hxl
          cases q
          · go_wp2
            go_roundw
            case rel => exact ⟨k + 1, xs, by go_num, by omega, HX.out, ho, ht, hb⟩
            case measure => simp [intOf]; omega
          · go_wp2
            go_roundw
            case rel => exact ⟨k + 1, xs.set k [], by go_num, by omega, by rw [List.length_set]; exact HX.out, by unfold OutT; rw [List.length_set, HX.out, txts_set]; exact hst, by omega, hb.setCell (p := ⟨g, k, none⟩) (by exact hg) _⟩
            case measure => simp [intOf]; omega
        · obtain ⟨o1, hO1⟩ : ∃ o, U.flowT xs = o := ⟨_, rfl⟩
          obtain ⟨o2', hO2⟩ : ∃ o, U.blockT true xs = o := ⟨_, rfl⟩
          obtain ⟨o3', hO3⟩ : ∃ o, U.blockT false xs = o := ⟨_, rfl⟩
          have HO1 := Lib.hid hO1
          have HO2 := Lib.hid hO2
          have HO3 := Lib.hid hO3
          have hcase : (k : Int) < L ∧ (M : Int) ≤ k ∨ (L : Int) ≤ k := by omega
          clear hO1 hO2 hO3 hk2 hxl
          rcases hcase with ⟨hk3, hk4⟩ | hk3
          all_goals
            go_wp2_with fail
            refine (foldFlow_is o1 _ xs wr ho.is (by omega) HO1.out).mono ?_
            rintro e W1 ⟨rfl, b1'⟩
            have ho1 := ho.below b1'
            replace b1' := tb2 hb b1'
            go_wp2_with fail
            refine (refFoldFlow_is o1 _ xs W1 ho1.is (by omega) HO1.out).mono ?_
            rintro e W2 ⟨rfl, b2'⟩
            have ho2 := ho1.below b2'
            replace b2' := tb2 b1' b2'
            clear b1' ho1
            go_wp2_with fail
            refine (foldBlockQ_is true o2' _ xs W2 ho2.is (by omega) HO2.out).mono ?_
            rintro e W3 ⟨rfl, b3'⟩
            have ho3 := ho2.below b3'
            replace b3' := tb2 b2' b3'
            clear b2' ho2
            go_wp2_with fail
            refine (refFoldBlock_is true o2' _ xs W3 ho3.is (by omega) HO2.out).mono ?_
            rintro e W4 ⟨rfl, b4'⟩
            have ho4 := ho3.below b4'
            replace b4' := tb2 b3' b4'
            clear b3' ho3
            go_wp2_with fail
            refine (foldBlockQ_is false o3' _ xs W4 ho4.is (by omega) HO3.out).mono ?_
            rintro e W5 ⟨rfl, b5'⟩
            have ho5 := ho4.below b5'
            replace b5' := tb2 b4' b5'
            clear b4' ho4
            go_wp2_with fail
            refine (refFoldBlock_is false o3' _ xs W5 ho5.is (by omega) HO3.out).mono ?_
            rintro e W6 ⟨rfl, b6'⟩
            replace b6' := tb2 b5' b6'
            clear b5' ho5
            go_wp2_with fail
            refine (awake6_any W6).mono ?_
            rintro e W7 ⟨rfl, b7'⟩
            go_wp2
            go_ret
            exact ⟨rfl, tb2 b6' b7'⟩

end Go.Proofs.Ytcpnonlcchkgeaa
