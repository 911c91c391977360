/- The statement DireTells on package dire: the walk: for every input the law returns true. Conditions: the two tables of unicode/utf8 as they are laid. -/
import Derived.Test.YtckdhidcbkbeoaaDoorDireLaws2
import Derived.Test.YtckdhidcbkbeoaaDoorDireRef6
namespace Go.Proofs.YtckdhidcbkbeoaaDoor
open Go.RowKit

set_option maxRecDepth 100000 in
theorem dSame_is (s : ByteArray) (w : World) (hT : Lib.Utf8Tabs 0 1 w) (hs : s.size ≤ 100000) :
    Calls Tryd.prog 11 #[.string s] w fun e w' => e = .returned (.bool true) ∧ Below w.heap.size w w' := by
  obtain ⟨D, T, q, c, h⟩ : ∃ D T q c, U.tRead s.data.toList = (D, T, q, c) := ⟨_, _, _, _, rfl⟩
  have R1 := fun w hT => direRead_at D T q c s w hs hT h
  have R2 : ∀ w, Calls Tryd.prog 22 #[.string s] w fun e w' => e = .returned (.tuple #[.string ⟨D.toArray⟩, .string ⟨T.toArray⟩, .bool q, .int .i64 c]) ∧ Below w.heap.size w w' := fun w => refDirective_is D T q c s w hs h
  have HT := Lib.hid hT
  clear h hT
  go_enter Tryd.func11, Tryd.ntmps11
  go_wp2_with fail
  refine (R1 _ HT.out).mono ?_
  rintro e w1 ⟨rfl, hb1⟩
  go_wp2_with fail
  refine (R2 _).mono ?_
  rintro e w2 ⟨rfl, hb2⟩
  go_wp2
  go_ret
  exact ⟨rfl, hb1.trans (hb2.mono hb1.size)⟩
def dirY : List UInt8 := [37, 84, 65, 71, 32, 33, 101, 33, 32, 121]
def signD : List (List UInt8) := [[89, 65, 77, 76], [84, 65, 71], [32], [32, 32], [9], [49, 46, 50], [49, 46], [50, 46, 49], [33], [33, 33], [33, 101, 33], [120, 58], [35], [32, 35, 32, 99, 32], [37, 52, 49], [37, 52], [91], [33, 101]]
theorem signD_len (k : Nat) : (signD.getD k []).length ≤ 5 := by
  by_cases h : k < signD.length
  · have H : ∀ l ∈ signD, l.length ≤ 5 := by decide
    apply H
    simp [List.getD, h]
  · rw [List.getD, List.getElem?_eq_none (by omega)]
    exact Nat.zero_le _
set_option maxRecDepth 100000 in
set_option maxHeartbeats 4000000 in
theorem DireTells_walk (s : ByteArray) (v3 v4 : Value) (ks : List Int) (ds : List (List UInt8)) (w : World) (hTb : Lib.Utf8Tabs 0 1 w) (h3 : IsInts .i64 w.heap.size w v3 ks) (h4 : IsTexts w.heap.size w v4 ds) (hz : ∀ l ∈ ds, l.length ≤ maxLen) :
    Calls Tryd.prog 3 #[.string s, v3, v4] w fun e w' => e = .returned (.bool true) ∧ Below w.heap.size w w' := by
  obtain ⟨ao3, cap3, rfl, c3, d3⟩ := h3.slice
  obtain ⟨ao4, cap4, rfl, c4, d4⟩ := h4.slice
  unfold maxLen at d3 d4
  obtain ⟨L, hL⟩ : ∃ L, L = ks.length := ⟨_, rfl⟩
  obtain ⟨M, hM⟩ : ∃ M, M = ds.length := ⟨_, rfl⟩
  have HL := Lib.hid hL
  have HM := Lib.hid hM
  have HT := Lib.hid hTb
  clear hTb
  by_cases hl1 : 80 < s.size
  · clear hz h3 h4 hL hM
    go_enter Tryd.func3, Tryd.ntmps3
    go_wp2_with fail
    refine (awake10_true _ HT.out).mono ?_
    rintro e w1 ⟨rfl, b1⟩
    go_wp2
    go_ret
    exact ⟨rfl, b1⟩
  by_cases hl2 : 8 < L
  · rw [← hL]
    clear hz h3 h4 hL hM
    go_enter Tryd.func3, Tryd.ntmps3
    go_wp2_with fail
    refine (awake10_true _ HT.out).mono ?_
    rintro e w1 ⟨rfl, b1⟩
    go_wp2
    go_ret
    exact ⟨rfl, b1⟩
  by_cases hl3 : 4 < M
  · rw [← hL, ← hM]
    clear hz h3 h4 hL hM
    go_enter Tryd.func3, Tryd.ntmps3
    go_wp2_with fail
    refine (awake10_true _ HT.out).mono ?_
    rintro e w1 ⟨rfl, b1⟩
    go_wp2
    go_ret
    exact ⟨rfl, b1⟩
  cases hlong : longB 80 (ds.map List.length) with
  | true =>
    have HLO : Hid (Calls Tryd.prog 7 #[.int .i64 80, .slice ao4 M cap4] w fun e w' => e = .returned (.bool true) ∧ w = w') := by
      have := LongT_is true _ 80 _ ds w (by omega) (by omega) h4 hz hlong
      rw [← hM] at this
      exact this
    rw [← hL, ← hM]
    clear hz h3 h4 hL hM hlong
    go_enter Tryd.func3, Tryd.ntmps3
    go_wp2_with fail
    refine HLO.out.mono ?_
    rintro e w1 ⟨rfl, rfl⟩
    go_wp2_with fail
    refine (awake10_true _ HT.out).mono ?_
    rintro e w1 ⟨rfl, b1⟩
    go_wp2
    go_ret
    exact ⟨rfl, b1⟩
  | false =>
    have HLO : Hid (Calls Tryd.prog 7 #[.int .i64 80, .slice ao4 M cap4] w fun e w' => e = .returned (.bool false) ∧ w = w') := by
      have := LongT_is false _ 80 _ ds w (by omega) (by omega) h4 hz hlong
      rw [← hM] at this
      exact this
    have hds : ∀ l ∈ ds, l.length ≤ 80 := fun l hl => by
      have := longB_each _ _ hlong l.length (List.mem_map_of_mem hl)
      omega
    have hdsT : ∀ l ∈ ds, l.length ≤ 1000000000 := fun l hl => by have := hds l hl; omega
    have HDS := Lib.hid hdsT
    have hdl : [dirY].length + ds.length ≤ 1099511627776 := by simp; omega
    rw [← hL] at h3 c3
    rw [← hM] at h4 c4
    rw [← hL, ← hM]
    obtain ⟨S3, hS3⟩ : ∃ S3, (⟨#[37]⟩ : ByteArray) ++ s = S3 := ⟨_, rfl⟩
    have hS3s : S3.size ≤ 100 := by rw [← hS3, ByteArray.size_append]; show 1 + s.size ≤ 100; omega
    clear hz hL hM hlong hds hdsT
    go_enter Tryd.func3, Tryd.ntmps3
    go_wp2_with fail
    refine HLO.out.mono ?_
    rintro e w1 ⟨rfl, rfl⟩
    go_wp2
    clear HLO
    go_loopw [7, 8] (fun vt vi wr => ∃ (T : ByteArray) (k : Nat), vt = .string T ∧ vi = .int .i64 (k : Int) ∧ k ≤ L ∧ T.size ≤ 1 + 5 * k ∧ Below w.heap.size w wr) (fun _ vi _ => L - (intOf vi).toNat)
    case atStart => exact ⟨_, 0, rfl, rfl, Nat.zero_le _, by decide, Below.refl _ _⟩
    case round =>
      obtain ⟨T, k, rfl, rfl, hk, hT, hb⟩ := hrel
      by_cases hk2 : k < L
      · obtain ⟨bb, oo, rfl, hlt, hcc⟩ := IsInts.at h3 HL.out.symm (by omega)
        have g1 := hcc k hk2
        rw [← hb.cell (p := ⟨bb, oo + k, none⟩) hlt] at g1
        obtain ⟨x, hx⟩ : ∃ x, x = ks.getD k 0 := ⟨_, rfl⟩
        rw [← hx] at g1
        have hyr := lowZ_range x 18 (by omega)
        obtain ⟨y, hy⟩ : ∃ y : Nat, lowZ x 18 = (y : Int) := ⟨(lowZ x 18).toNat, by omega⟩
        rw [hy] at hyr
        have hy16 : y < 18 := by omega
        have HY := Lib.hid hy
        have htab : (wr.alloc (.cells #[.string ⟨#[89, 65, 77, 76]⟩, .string ⟨#[84, 65, 71]⟩, .string ⟨#[32]⟩, .string ⟨#[32, 32]⟩, .string ⟨#[9]⟩, .string ⟨#[49, 46, 50]⟩, .string ⟨#[49, 46]⟩, .string ⟨#[50, 46, 49]⟩, .string ⟨#[33]⟩, .string ⟨#[33, 33]⟩, .string ⟨#[33, 101, 33]⟩, .string ⟨#[120, 58]⟩, .string ⟨#[35]⟩, .string ⟨#[32, 35, 32, 99, 32]⟩, .string ⟨#[37, 52, 49]⟩, .string ⟨#[37, 52]⟩, .string ⟨#[91]⟩, .string ⟨#[33, 101]⟩] 9)).cell? ⟨wr.heap.size, y, none⟩ = some (.string ⟨(signD.getD y []).toArray⟩) := tab_at wr signD 9 y hy16
        have hxl := signD_len y
        obtain ⟨X, hX⟩ : ∃ X : ByteArray, X = ⟨(signD.getD y []).toArray⟩ := ⟨_, rfl⟩
        have hXs : X.size ≤ 5 := by rw [hX, size_mk]; exact hxl
        rw [← hX] at htab
        clear hy hyr hcc hx hX hxl
        go_wp2_with fail
        refine (Low_is (y : Int) x 18 _ (by omega) (by omega) HY.out).mono ?_
        rintro e w1 ⟨rfl, rfl⟩
        go_wp2
        go_roundw
        case rel => exact ⟨_, k + 1, rfl, by go_num, by omega, by rw [ByteArray.size_append]; omega, hb.alloc hb.size _⟩
        case measure => simp [intOf]; omega
      · have hT2 : T.size ≤ 200 := by omega
        obtain ⟨D, TT, qq, cc, hR⟩ : ∃ D E q c, U.tRead T.data.toList = (D, E, q, c) := ⟨_, _, _, _, rfl⟩
        have hDl := read_len hR
        obtain ⟨dB, hdB⟩ : ∃ dB : ByteArray, (⟨D.toArray⟩ : ByteArray) = dB := ⟨_, rfl⟩
        have hdBs : dB.size ≤ 200 := by rw [← hdB, mk_size]; omega
        have HR : Calls Tryd.prog 10 #[.string T] wr fun e w' => e = .returned (.tuple #[.string dB, .string ⟨TT.toArray⟩, .bool qq, .int .i64 cc]) ∧ Below wr.heap.size wr w' := by
          rw [← hdB]; exact direRead_at D TT qq cc T wr (by omega) (Utf8Tabs_below HT.out hb) hR
        obtain ⟨q1, hq1⟩ : ∃ q1, U.tTwice ([dirY] ++ ds) dB.data.toList = q1 := ⟨_, rfl⟩
        obtain ⟨q2, hq2⟩ : ∃ q2, U.tTwice ds s.data.toList = q2 := ⟨_, rfl⟩
        have HQ1 := Lib.hid hq1
        have HQ2 := Lib.hid hq2
        clear hR hDl hdB hq1 hq2 hT
        go_wp2_with fail
        refine HR.mono ?_
        rintro e w1 ⟨rfl, hb1⟩
        have hb2 := hb.trans (hb1.mono hb.size)
        have h4' := h4.below (hb2.alloc hb2.size (.cells #[.string ⟨dirY.toArray⟩] 9))
        have hB5 : w.heap.size ≤ (w1.alloc (.cells #[.string ⟨dirY.toArray⟩] 9)).heap.size := by have := hb2.size; simp; omega
        go_wp2_with (at_builtin; refine appendT rfl _ _ rfl w.heap.size w.heap.size (.slice (some ⟨w1.heap.size, 0, none⟩) 1 1) _ [dirY] ds rfl rfl (OutT_one w.heap.size w1 dirY hb2.size) h4' hdl hB5 ?_; intro v5 w5 o5 g5)
        have b5 : Below w.heap.size w w5 := (hb2.alloc hb2.size (.cells #[.string ⟨dirY.toArray⟩] 9)).grown g5 hB5 (fun k hk => by simp [Value.ownBlock] at hk; have := hb2.size; omega)
        have hz5 : Hid (∀ l ∈ ([dirY] ++ ds), l.length ≤ 1000000000) := by
          intro l hl
          rcases List.mem_append.1 hl with hl | hl
          · rw [List.mem_singleton] at hl; subst hl; decide
          · exact HDS.out l hl
        clear h4' hB5 g5 hk hk2 h3 HR
        have z5 := b5.size
        go_wp2_with fail
        refine (dSame_is s _ (Utf8Tabs_below HT.out b5) (by omega)).mono ?_
        rintro e w6 ⟨rfl, c6⟩
        have b6 := b5.trans (c6.mono z5)
        have z6 := b6.size
        have o6 := o5.below c6
        go_wp2_with fail
        refine (dSame_is T _ (Utf8Tabs_below HT.out b6) (by omega)).mono ?_
        rintro e w7 ⟨rfl, c7⟩
        have b7 := b6.trans (c7.mono z6)
        have z7 := b7.size
        have o7 := o6.below c7
        go_wp2_with fail
        refine (dSame_is S3 _ (Utf8Tabs_below HT.out b7) (by omega)).mono ?_
        rintro e w8 ⟨rfl, c8⟩
        have b8 := b7.trans (c8.mono z7)
        have z8 := b8.size
        have o8 := o7.below c8
        go_wp2_with fail
        refine (direTwice_is q1 _ v5 ([dirY] ++ ds) dB _ o8.is (Nat.le_refl _) (by omega) hz5.out HQ1.out).mono ?_
        rintro e w9 ⟨rfl, c9⟩
        have b9 := b8.trans (c9.mono z8)
        have z9 := b9.size
        have o9 := o8.below c9
        go_wp2_with fail
        refine (refTwice_is q1 _ v5 ([dirY] ++ ds) dB _ o9.is (Nat.le_refl _) (by omega) hz5.out HQ1.out).mono ?_
        rintro e w10 ⟨rfl, c10⟩
        have b10 := b9.trans (c10.mono z9)
        have z10 := b10.size
        go_wp2_with fail
        refine (direTwice_is q2 _ _ ds s _ (h4.below b10) z10 (by omega) HDS.out HQ2.out).mono ?_
        rintro e w11 ⟨rfl, c11⟩
        have b11 := b10.trans (c11.mono z10)
        have z11 := b11.size
        go_wp2_with fail
        refine (refTwice_is q2 _ _ ds s _ (h4.below b11) z11 (by omega) HDS.out HQ2.out).mono ?_
        rintro e w12 ⟨rfl, c12⟩
        have b12 := b11.trans (c12.mono z11)
        go_wp2_with fail
        refine (awake10_true _ (Utf8Tabs_below HT.out b12)).mono ?_
        rintro e w13 ⟨rfl, c13⟩
        go_wp2
        go_ret
        exact ⟨rfl, b12.trans (c13.mono b12.size)⟩

end Go.Proofs.YtckdhidcbkbeoaaDoor
