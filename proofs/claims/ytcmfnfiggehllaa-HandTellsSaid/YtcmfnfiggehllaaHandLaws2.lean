/- The statement HandTells on package hand: the walk: for every input the law returns true. Conditions: none beside those that each theorem writes out. -/
import Derived.Test.YtcmfnfiggehllaaHandLaws
import Derived.Test.YtcmfnfiggehllaaHandRef5
import Derived.Test.YtcmfnfiggehllaaWord
namespace Go.Proofs.Ytcmfnfiggehllaa
open Go.RowKit

/-- A literal table's cell. -/
theorem tab_at (W : World) (ls : List (List UInt8)) (t : TypeId) (k : Nat) (h : k < ls.length) : (W.alloc (.cells (txts ls).toArray t)).cell? ⟨W.heap.size, k, none⟩ = some (.string ⟨(ls.getD k []).toArray⟩) := by
  have := cells_new W (txts ls) t k _ (txts_get ls k h)
  rw [Addr.add_lit, Nat.zero_add] at this
  exact this
/-- A literal slice of one text is the call's own. -/
theorem OutT_one (B : Nat) (w : World) (l : List UInt8) (hB : B ≤ w.heap.size) : OutT B (w.alloc (.cells #[.string ⟨l.toArray⟩] 9)) (.slice (some ⟨w.heap.size, 0, none⟩) 1 1) [l] :=
  ⟨by simp [txts], .inr ⟨w.heap.size, 1, #[.string ⟨l.toArray⟩], rfl, hB, heap_alloc_new w _, Nat.le_refl _, by decide, rfl, rfl⟩⟩
theorem longB_each : ∀ (ls : List Nat) (n : Int), longB n ls = false → ∀ l ∈ ls, (l : Int) ≤ n := by
  intro ls
  induction ls with
  | nil => intro n _ l hl; simp at hl
  | cons a r ih =>
    intro n h l hl
    unfold longB at h
    split at h
    · cases h
    · rename_i hna
      rcases List.mem_cons.1 hl with rfl | hl
      · omega
      · have := ih _ h l hl
        omega
def dirX : List UInt8 := [37, 84, 65, 71, 32, 33, 101, 33, 32, 120, 58, 44, 37, 52, 49]
def signL : List (List UInt8) := [[33], [97], [101], [37, 52, 49], [37], [60], [62], [44], [45], [37, 99, 51, 37, 65, 57], [37, 102, 102], [93], [32], [58], [57], [33, 101, 33]]
theorem sign_len (k : Nat) : (signL.getD k []).length ≤ 6 := by
  by_cases h : k < signL.length
  · have H : ∀ l ∈ signL, l.length ≤ 6 := by decide
    apply H
    simp [List.getD, h]
  · rw [List.getD, List.getElem?_eq_none (by omega)]
    exact Nat.zero_le _

set_option maxRecDepth 100000 in
set_option maxHeartbeats 4000000 in
theorem HandTells_walk (s : ByteArray) (at' : Int) (v3 v4 : Value) (ks : List Int) (ds : List (List UInt8)) (w : World) (h3 : IsInts .i64 w.heap.size w v3 ks) (h4 : IsTexts w.heap.size w v4 ds) (hz : ∀ l ∈ ds, l.length ≤ maxLen) :
    Calls Try.prog 3 #[.string s, .int .i64 at', v3, v4] w fun e w' => e = .returned (.bool true) ∧ Below w.heap.size w w' := by
  obtain ⟨ao3, cap3, rfl, c3, d3⟩ := h3.slice
  obtain ⟨ao4, cap4, rfl, c4, d4⟩ := h4.slice
  unfold maxLen at d3 d4
  obtain ⟨L, hL⟩ : ∃ L, L = ks.length := ⟨_, rfl⟩
  obtain ⟨M, hM⟩ : ∃ M, M = ds.length := ⟨_, rfl⟩
  have HL := Lib.hid hL
  have HM := Lib.hid hM
  by_cases hl1 : 60 < s.size
  · clear hz h3 h4 hL hM
    go_enter Try.func3, Try.ntmps3
    go_wp2_with fail
    refine (awake9_true _).mono ?_
    rintro e w1 ⟨rfl, b1⟩
    go_wp2
    go_ret
    exact ⟨rfl, b1⟩
  by_cases hl2 : 14 < L
  · rw [← hL]
    clear hz h3 h4 hL hM
    go_enter Try.func3, Try.ntmps3
    go_wp2_with fail
    refine (awake9_true _).mono ?_
    rintro e w1 ⟨rfl, b1⟩
    go_wp2
    go_ret
    exact ⟨rfl, b1⟩
  by_cases hl3 : 4 < M
  · rw [← hL, ← hM]
    clear hz h3 h4 hL hM
    go_enter Try.func3, Try.ntmps3
    go_wp2_with fail
    refine (awake9_true _).mono ?_
    rintro e w1 ⟨rfl, b1⟩
    go_wp2
    go_ret
    exact ⟨rfl, b1⟩
  cases hlong : longB 80 (ds.map List.length) with
  | true =>
    have HLO : Hid (Calls Try.prog 7 #[.int .i64 80, .slice ao4 M cap4] w fun e w' => e = .returned (.bool true) ∧ w = w') := by
      have := LongT_is true _ 80 _ ds w (by omega) (by omega) h4 hz hlong
      rw [← hM] at this
      exact this
    rw [← hL, ← hM]
    clear hz h3 h4 hL hM hlong
    go_enter Try.func3, Try.ntmps3
    go_wp2_with fail
    refine HLO.out.mono ?_
    rintro e w1 ⟨rfl, rfl⟩
    go_wp2_with fail
    refine (awake9_true _).mono ?_
    rintro e w1 ⟨rfl, b1⟩
    go_wp2
    go_ret
    exact ⟨rfl, b1⟩
  | false =>
    have HLO : Hid (Calls Try.prog 7 #[.int .i64 80, .slice ao4 M cap4] w fun e w' => e = .returned (.bool false) ∧ w = w') := by
      have := LongT_is false _ 80 _ ds w (by omega) (by omega) h4 hz hlong
      rw [← hM] at this
      exact this
    have hds : ∀ l ∈ ds, l.length ≤ 80 := fun l hl => by
      have := longB_each _ _ hlong l.length (List.mem_map_of_mem hl)
      omega
    have hdsT : ∀ l ∈ ds, l.length ≤ 1099511627776 := fun l hl => by have := hds l hl; omega
    have HDS := Lib.hid hdsT
    have hdl : [dirX].length + ds.length ≤ 1099511627776 := by simp; omega
    rw [← hL] at h3 c3
    rw [← hM] at h4 c4
    rw [← hL, ← hM]
    clear hz hL hM hlong hds hdsT
    go_enter Try.func3, Try.ntmps3
    go_wp2_with fail
    refine HLO.out.mono ?_
    rintro e w1 ⟨rfl, rfl⟩
    go_wp2
    clear HLO
    go_loopw [9, 10] (fun vt vi wr => ∃ (T : ByteArray) (k : Nat), vt = .string T ∧ vi = .int .i64 (k : Int) ∧ k ≤ L ∧ T.size ≤ 1 + 6 * k ∧ Below w.heap.size w wr) (fun _ vi _ => L - (intOf vi).toNat)
    case atStart => exact ⟨_, 0, rfl, rfl, Nat.zero_le _, by decide, Below.refl _ _⟩
    case round =>
      obtain ⟨T, k, rfl, rfl, hk, hT, hb⟩ := hrel
      by_cases hk2 : k < L
      · obtain ⟨bb, oo, rfl, hlt, hcc⟩ := IsInts.at h3 HL.out.symm (by omega)
        have g1 := hcc k hk2
        rw [← hb.cell (p := ⟨bb, oo + k, none⟩) hlt] at g1
        obtain ⟨x, hx⟩ : ∃ x, x = ks.getD k 0 := ⟨_, rfl⟩
        rw [← hx] at g1
        have hyr := lowZ_range x 16 (by omega)
        obtain ⟨y, hy⟩ : ∃ y : Nat, lowZ x 16 = (y : Int) := ⟨(lowZ x 16).toNat, by omega⟩
        rw [hy] at hyr
        have hy16 : y < 16 := by omega
        have HY := Lib.hid hy
        have htab : (wr.alloc (.cells #[.string ⟨#[33]⟩, .string ⟨#[97]⟩, .string ⟨#[101]⟩, .string ⟨#[37, 52, 49]⟩, .string ⟨#[37]⟩, .string ⟨#[60]⟩, .string ⟨#[62]⟩, .string ⟨#[44]⟩, .string ⟨#[45]⟩, .string ⟨#[37, 99, 51, 37, 65, 57]⟩, .string ⟨#[37, 102, 102]⟩, .string ⟨#[93]⟩, .string ⟨#[32]⟩, .string ⟨#[58]⟩, .string ⟨#[57]⟩, .string ⟨#[33, 101, 33]⟩] 9)).cell? ⟨wr.heap.size, y, none⟩ = some (.string ⟨(signL.getD y []).toArray⟩) := tab_at wr signL 9 y hy16
        have hxl := sign_len y
        obtain ⟨X, hX⟩ : ∃ X : ByteArray, X = ⟨(signL.getD y []).toArray⟩ := ⟨_, rfl⟩
        have hXs : X.size ≤ 6 := by rw [hX, size_mk]; exact hxl
        rw [← hX] at htab
        clear hy hyr hcc hx hX hxl
        go_wp2_with fail
        refine (Low_is (y : Int) x 16 _ (by omega) (by omega) HY.out).mono ?_
        rintro e w1 ⟨rfl, rfl⟩
        go_wp2
        go_roundw
        case rel => exact ⟨_, k + 1, rfl, by go_num, by omega, by rw [ByteArray.size_append]; omega, hb.alloc hb.size _⟩
        case measure => simp [intOf]; omega
      · have h4' := h4.below (hb.alloc hb.size (.cells #[.string ⟨dirX.toArray⟩] 9))
        have hB5 : w.heap.size ≤ (wr.alloc (.cells #[.string ⟨dirX.toArray⟩] 9)).heap.size := by have := hb.size; simp; omega
        have hT2 : T.size ≤ 200 := by omega
        go_wp2_with (at_builtin; refine appendT rfl _ _ rfl w.heap.size w.heap.size (.slice (some ⟨wr.heap.size, 0, none⟩) 1 1) _ [dirX] ds rfl rfl (OutT_one w.heap.size wr dirX hb.size) h4' hdl hB5 ?_; intro v5 w5 o5 g5)
        have b5 : Below w.heap.size w w5 := (hb.alloc hb.size (.cells #[.string ⟨dirX.toArray⟩] 9)).grown g5 hB5 (fun k hk => by simp [Value.ownBlock] at hk; have := hb.size; omega)
        have hz5 : Hid (∀ l ∈ ([dirX] ++ ds), l.length ≤ 1099511627776) := by
          intro l hl
          rcases List.mem_append.1 hl with hl | hl
          · rw [List.mem_singleton] at hl; subst hl; decide
          · exact HDS.out l hl
        clear h4' hB5 g5 hT hk hk2 h3 hb
        go_loopw [9, 13] (fun vt vi wx => ∃ (S : ByteArray) (i : Nat), vt = .string S ∧ vi = .int .i64 (i : Int) ∧ i ≤ 2 ∧ S.size ≤ 200 ∧ OutT w.heap.size wx v5 ([dirX] ++ ds) ∧ Below w.heap.size w wx) (fun _ vi _ => 2 - (intOf vi).toNat)
        case atStart => exact ⟨_, 0, rfl, rfl, by omega, hT2, o5, b5⟩
        case round =>
          obtain ⟨S, i, rfl, rfl, hi, hS, o, b⟩ := hrel
          clear o5 b5
          by_cases hi2 : i < 2
          · obtain ⟨r1, k1, e1⟩ : ∃ r k, U.tFull ([dirX] ++ ds) S.data.toList = (r, k) := ⟨_, _, rfl⟩
            obtain ⟨r2, k2, e2⟩ : ∃ r k, U.tFull ds s.data.toList = (r, k) := ⟨_, _, rfl⟩
            obtain ⟨n1, f1⟩ : ∃ n, hSize S (i : Int) = n := ⟨_, rfl⟩
            obtain ⟨n2, f2⟩ : ∃ n, hSize s at' = n := ⟨_, rfl⟩
            obtain ⟨n3, f3⟩ : ∃ n, hSize s (i : Int) = n := ⟨_, rfl⟩
            obtain ⟨n4, f4⟩ : ∃ n, hSize S 0 = n := ⟨_, rfl⟩
            have hn4 := hSize_le S 0
            rw [f4] at hn4
            have E1 := Lib.hid e1
            have E2 := Lib.hid e2
            have F1 := Lib.hid f1
            have F2 := Lib.hid f2
            have F3 := Lib.hid f3
            have F4 := Lib.hid f4
            clear e1 e2 f1 f2 f3 f4
            have hbs := b.size
            go_wp2_with fail
            refine (handFull_is r1 k1 v5 ([dirX] ++ ds) S _ (by omega) hz5.out o.is E1.out).mono ?_
            rintro e w1 ⟨rfl, b1⟩
            have o1 := o.below b1
            have bb1 := b.trans (b1.mono hbs)
            have hbs1 := bb1.size
            go_wp2_with fail
            refine (refFull_is r1 k1 v5 ([dirX] ++ ds) S _ (by omega) hz5.out o1.is E1.out).mono ?_
            rintro e w2 ⟨rfl, b2⟩
            have o2 := o1.below b2
            have bb2 := bb1.trans (b2.mono hbs1)
            have hbs2 := bb2.size
            go_wp2_with fail
            refine (handFull_is r2 k2 _ ds s _ (by omega) HDS.out ((h4.below bb2).mono hbs2) E2.out).mono ?_
            rintro e w3 ⟨rfl, b3⟩
            have o3 := o2.below b3
            have bb3 := bb2.trans (b3.mono hbs2)
            have hbs3 := bb3.size
            go_wp2_with fail
            refine (refFull_is r2 k2 _ ds s _ (by omega) HDS.out ((h4.below bb3).mono hbs3) E2.out).mono ?_
            rintro e w4 ⟨rfl, b4⟩
            have o4 := o3.below b4
            have bb4 := bb3.trans (b4.mono hbs3)
            have hbs4 := bb4.size
            go_wp2_with fail
            refine (handSize_is n1 S _ _ (by omega) F1.out).mono ?_
            rintro e w5' ⟨rfl, b5⟩
            have o5 := o4.below b5
            have bb5 := bb4.trans (b5.mono hbs4)
            have hbs5 := bb5.size
            go_wp2_with fail
            refine (refSize_is n1 S _ _ (by omega) F1.out).mono ?_
            rintro e w6 ⟨rfl, rfl⟩
            go_wp2_with fail
            refine (handSize_is n2 s _ _ (by omega) F2.out).mono ?_
            rintro e w6 ⟨rfl, b6⟩
            have o6 := o5.below b6
            have bb6 := bb5.trans (b6.mono hbs5)
            have hbs6 := bb6.size
            go_wp2_with fail
            refine (refSize_is n2 s _ _ (by omega) F2.out).mono ?_
            rintro e w7 ⟨rfl, rfl⟩
            go_wp2_with fail
            refine (handSize_is n3 s _ _ (by omega) F3.out).mono ?_
            rintro e w7 ⟨rfl, b7⟩
            have o7 := o6.below b7
            have bb7 := bb6.trans (b7.mono hbs6)
            have hbs7 := bb7.size
            go_wp2_with fail
            refine (refSize_is n3 s _ _ (by omega) F3.out).mono ?_
            rintro e w8 ⟨rfl, rfl⟩
            go_wp2_with fail
            refine (handSize_is n4 S _ _ (by omega) F4.out).mono ?_
            rintro e w8 ⟨rfl, b8⟩
            have o8 := o7.below b8
            have bb8 := bb7.trans (b8.mono hbs7)
            go_wp2
            go_roundw
            case rel => exact ⟨_, i + 1, rfl, by go_num, by omega, by rw [ByteArray.size_extract]; omega, o8, bb8⟩
            case measure => simp [intOf]; omega
          · go_wp2_with fail
            refine (awake9_true _).mono ?_
            rintro e w9 ⟨rfl, b9⟩
            go_wp2
            go_ret
            exact ⟨rfl, b.trans (b9.mono b.size)⟩

end Go.Proofs.Ytcmfnfiggehllaa
