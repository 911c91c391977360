/- Package bloc: what a header says. Conditions: those that each theorem writes out (lengths that memory can hold). -/
import Derived.Test.YtkpccoijegklbaaDoorBlocD
import Derived.Test.YtkpccoijegklbaaDoorBlocRef
namespace Go.Proofs.YtkpccoijegklbaaDoor
open Go.RowKit

theorem hRest_fix {s : ByteArray} {x : Nat × Nat × Nat} (h : hStep s x = x) : ∀ k, hRest s k x = x
  | 0 => rfl
  | k + 1 => by rw [hRest, h]; exact hRest_fix h k
theorem hStep_end {s : ByteArray} {a t d c : Nat} (h : RowE s a t) : hStep s (t, d, c) = (t, d, c) := by
  rcases h.2.2.2 with e | e
  · unfold hStep
    rw [if_neg (by show ¬ t < s.size; omega)]
  · exact hStep_none (by omega) (by omega)
set_option maxRecDepth 100000 in
set_option maxHeartbeats 3200000 in
theorem readHeader_is (d' c' : Nat) (h' : Bool) (N' : ByteArray) (E C : Int) (d c p : Nat) (s R : ByteArray) (a t : Nat) (w : World) (hs : s.size ≤ 1099511627776) (ha : a < t) (hR : R = s.extract 0 t) (hE : RowE s a t) (hx : hdr s a = (p, d, c))
    (CT : p < t → ∀ W, Calls Tryd.prog 41 #[.agg #[.int .i64 (d : Int), .int .u8 (c : Int), .bool false, .string ⟨#[]⟩], .string R, .int .i64 (p : Int)] W fun e w' => e = .returned (.tuple #[.agg #[.int .i64 (d' : Int), .int .u8 (c' : Int), .bool h', .string N'], .int .i64 E, .int .i64 C]) ∧ Below W.heap.size W w')
    (CE : p = t → d' = d ∧ c' = c ∧ h' = false ∧ N' = ⟨#[]⟩ ∧ E = 0 ∧ C = 0) :
    Calls Tryd.prog 21 #[.string R, .int .i64 ((a : Int) + 1)] w fun e w' => e = .returned (.tuple #[.agg #[.int .i64 (d' : Int), .int .u8 (c' : Int), .bool h', .string N'], .int .i64 E, .int .i64 C]) ∧ Below w.heap.size w w' := by
  have ht := hE.2.1
  have hRs := size_row hR ht
  have hyb : ∀ j, j < t → byt R j = byt s j := fun j hj => by rw [hR, byt_extract s 0 t j (by omega), Nat.zero_add]
  have HY := Lib.hid hyb
  have HEE := Lib.hid hE
  have HX : Hid (hRest s 2 (a + 1, 0, 0) = (p, d, c)) := hx
  have HCT := Lib.hid CT
  have HCE := Lib.hid CE
  obtain ⟨W0, hW0⟩ : ∃ W0, W0 = (w.alloc (.cells #[.int .i64 0, .int .u8 0, .bool false, .string ⟨#[]⟩] 48)).alloc (.cells #[.int .i64 0, .int .u8 0, .bool false, .string ⟨#[]⟩] 48) := ⟨_, rfl⟩
  have hbA : Below w.heap.size w W0 := by rw [hW0]; exact ((Below.refl _ _).alloc (Nat.le_refl _) _).alloc (by simp) _
  have hx0 : W0.heap[w.heap.size + 1]? = some (.cells (hdrA 0 0 false []) 48 (0, 0)) := by
    have := heap_alloc_new (w.alloc (.cells #[.int .i64 0, .int .u8 0, .bool false, .string ⟨#[]⟩] 48)) (.cells #[.int .i64 0, .int .u8 0, .bool false, .string ⟨#[]⟩] 48)
    rw [show (w.alloc (.cells #[.int .i64 0, .int .u8 0, .bool false, .string ⟨#[]⟩] 48)).heap.size = w.heap.size + 1 by simp] at this
    rw [hW0]
    exact this
  have hy0 : W0.heap[w.heap.size]? = some (.cells hdr0 48 (0, 0)) := by
    rw [hW0]
    exact (heap_alloc_old _ _ (by simp)).trans (heap_alloc_new w _)
  have hW0s : W0.heap.size = w.heap.size + 2 := by rw [hW0]; simp
  clear hx hE CT CE hR hyb
  go_enter Tryd.func21, Tryd.ntmps21
  go_wp2
  rw [← hW0]
  go_loopg [14] (t + 1) (fun g v14 wr => ∃ (i d1 c1 : Nat), v14 = .int .i64 (i : Int) ∧ a + 1 + i ≤ t ∧ t + 1 ≤ i + g ∧ d1 < 10 ∧ c1 < 256 ∧ Below w.heap.size w wr ∧ w.heap.size + 2 ≤ wr.heap.size ∧
    wr.heap[w.heap.size + 1]? = some (.cells (hdrA d1 c1 false []) 48 (0, 0)) ∧ wr.heap[w.heap.size]? = some (.cells hdr0 48 (0, 0)) ∧ Hid (i ≤ 2 ∧ hRest s (2 - i) (a + 1 + i, d1, c1) = (p, d, c) ∧ (i = 0 → d1 = 0 ∧ c1 = 0) ∧ (i = 2 → d1 ≠ 0 ∧ c1 ≠ 0) ∧ (i = 1 → d1 ≠ 0 ∨ c1 ≠ 0)))
  case atStart => exact ⟨0, 0, 0, rfl, by omega, by omega, by omega, by omega, hbA, by omega, hx0, hy0, Lib.hid ⟨by omega, HX.out, fun _ => ⟨rfl, rfl⟩, fun h => by omega, fun h => by omega⟩⟩
  case round =>
    clear hbA hx0 hy0
    obtain ⟨i, d1, c1, rfl, hi1, hig, hd1, hc1, hb, hwz, hxr, hyr, HH⟩ := hrel
    have hcell : ∀ j, wr.cell? ⟨w.heap.size + 1, j, none⟩ = (#[.int .i64 (d1 : Int), .int .u8 (c1 : Int), .bool false, .string ⟨#[]⟩] : Array Value)[j]? := fun j => cell_of_row wr _ j _ _ _ hxr
    have hz : ∀ j, wr.frozen? ⟨w.heap.size + 1, j, none⟩ = false := fun j => frozen_of_row wr _ j _ _ hxr
    have e0 : wr.cell? ⟨w.heap.size + 1, 0, none⟩ = some (.int .i64 (d1 : Int)) := by rw [hcell]; rfl
    have e1 : wr.cell? ⟨w.heap.size + 1, 1, none⟩ = some (.int .u8 (c1 : Int)) := by rw [hcell]; rfl
    have z0 := hz 0
    have z1 := hz 1
    have hH := HH.out
    have XR := Lib.hid hxr
    have YR := Lib.hid hyr
    by_cases hlt : a + 1 + i < t
    · have hi := run_byt R (a + 1 + i) (by omega) ((a : Int) + 1 + (i : Int)) (by omega)
      have hyeq := HY.out (a + 1 + i) hlt
      obtain ⟨y, hy⟩ : ∃ y, byt R (a + 1 + i) = y := ⟨_, rfl⟩
      have hyl : y < 256 := by rw [← hy]; exact byt_lt R _
      rw [hy] at hi hyeq
      have hps : a + 1 + i < s.size := by omega
      by_cases hA : d1 = 0 ∧ 49 ≤ y ∧ y ≤ 57
      · obtain ⟨rfl, h49, h57⟩ := hA
        have hi2 : i ≤ 1 := by
          have := hH.2.2.2.1
          omega
        have H2 := hH.2.1
        rw [show 2 - i = (2 - (i + 1)) + 1 by omega, hRest, hStep_dig hps (by omega) (by omega), ← hyeq] at H2
        have H3 : i = 1 → c1 ≠ 0 := fun h => by
          have := hH.2.2.2.2 h
          omega
        have HN := Lib.hid (show i + 1 ≤ 2 ∧ hRest s (2 - (i + 1)) (a + 1 + (i + 1), y - 48, c1) = (p, d, c) ∧ (i + 1 = 0 → y - 48 = 0 ∧ c1 = 0) ∧ (i + 1 = 2 → y - 48 ≠ 0 ∧ c1 ≠ 0) ∧ (i + 1 = 1 → y - 48 ≠ 0 ∨ c1 ≠ 0) from ⟨by omega, H2, fun h => by omega, fun h => ⟨by omega, H3 (by omega)⟩, fun h => .inl (by omega)⟩)
        have b5 := hb.setCell (p := ⟨w.heap.size + 1, 0, none⟩) (by show w.heap.size ≤ w.heap.size + 1; omega) (.int .i64 ((y : Int) - 48))
        have x5 := heap_setCell_same wr (w.heap.size + 1) 0 _ _ (.int .i64 ((y : Int) - 48)) XR.out
        have y5 := (heap_setCell_other wr ⟨w.heap.size + 1, 0, none⟩ w.heap.size (.int .i64 ((y : Int) - 48)) (by show w.heap.size ≠ w.heap.size + 1; omega)).trans YR.out
        have B5 := Lib.hid b5
        have X5 := Lib.hid x5
        have Y5 := Lib.hid y5
        have ey : ((y - 48 : Nat) : Int) = (y : Int) - 48 := by omega
        have EY := Lib.hid ey
        clear hH H2 H3 hy hyeq hcell hz hxr hyr hb b5 x5 y5 ey HH
        go_wp2
        go_roundg (gk - 1)
        case rel => exact ⟨i + 1, y - 48, c1, by go_num, by omega, by omega, by omega, by omega, B5.out, by simp [World.setCell]; omega, by unfold hdrA; rw [EY.out]; exact X5.out, Y5.out, HN.out⟩
        case measure => omega
      by_cases hC : c1 = 0 ∧ (y = 43 ∨ y = 45)
      · obtain ⟨rfl, hy2⟩ := hC
        have hi2 : i ≤ 1 := by
          have := hH.2.2.2.1
          omega
        have H2 := hH.2.1
        rw [show 2 - i = (2 - (i + 1)) + 1 by omega, hRest, hStep_sgn hps (by omega), ← hyeq] at H2
        have H3 : i = 1 → d1 ≠ 0 := fun h => by
          have := hH.2.2.2.2 h
          omega
        have HN := Lib.hid (show i + 1 ≤ 2 ∧ hRest s (2 - (i + 1)) (a + 1 + (i + 1), d1, y) = (p, d, c) ∧ (i + 1 = 0 → d1 = 0 ∧ y = 0) ∧ (i + 1 = 2 → d1 ≠ 0 ∧ y ≠ 0) ∧ (i + 1 = 1 → d1 ≠ 0 ∨ y ≠ 0) from ⟨by omega, H2, fun h => by omega, fun h => ⟨H3 (by omega), by omega⟩, fun h => .inr (by omega)⟩)
        have b5 := hb.setCell (p := ⟨w.heap.size + 1, 1, none⟩) (by show w.heap.size ≤ w.heap.size + 1; omega) (.int .u8 (y : Int))
        have x5 := heap_setCell_same wr (w.heap.size + 1) 1 _ _ (.int .u8 (y : Int)) XR.out
        have y5 := (heap_setCell_other wr ⟨w.heap.size + 1, 1, none⟩ w.heap.size (.int .u8 (y : Int)) (by show w.heap.size ≠ w.heap.size + 1; omega)).trans YR.out
        have B5 := Lib.hid b5
        have X5 := Lib.hid x5
        have Y5 := Lib.hid y5
        clear hH H2 H3 hy hyeq hcell hz hxr hyr hb b5 x5 y5 HH hA
        by_cases hd0 : d1 = 0
        · subst hd0
          rcases hy2 with rfl | rfl
          · skip
            go_wp2
            go_roundg (gk - 1)
            case rel => exact ⟨i + 1, 0, 43, by go_num, by omega, by omega, by omega, by omega, B5.out, by simp [World.setCell]; omega, X5.out, Y5.out, Lib.hid ⟨HN.out.1, HN.out.2.1, fun h => absurd h (Nat.succ_ne_zero _), HN.out.2.2.2.1, HN.out.2.2.2.2⟩⟩
            case measure => omega
          · skip
            go_wp2
            go_roundg (gk - 1)
            case rel => exact ⟨i + 1, 0, 45, by go_num, by omega, by omega, by omega, by omega, B5.out, by simp [World.setCell]; omega, X5.out, Y5.out, Lib.hid ⟨HN.out.1, HN.out.2.1, fun h => absurd h (Nat.succ_ne_zero _), HN.out.2.2.2.1, HN.out.2.2.2.2⟩⟩
            case measure => omega
        · have hd0b : ((d1 : Int) == 0) = false := by simp; omega
          rcases hy2 with rfl | rfl
          · skip
            go_wp2
            go_roundg (gk - 1)
            case rel => exact ⟨i + 1, d1, 43, by go_num, by omega, by omega, by omega, by omega, B5.out, by simp [World.setCell]; omega, X5.out, Y5.out, Lib.hid ⟨HN.out.1, HN.out.2.1, fun h => absurd h (Nat.succ_ne_zero _), HN.out.2.2.2.1, HN.out.2.2.2.2⟩⟩
            case measure => omega
          · skip
            go_wp2
            go_roundg (gk - 1)
            case rel => exact ⟨i + 1, d1, 45, by go_num, by omega, by omega, by omega, by omega, B5.out, by simp [World.setCell]; omega, X5.out, Y5.out, Lib.hid ⟨HN.out.1, HN.out.2.1, fun h => absurd h (Nat.succ_ne_zero _), HN.out.2.2.2.1, HN.out.2.2.2.2⟩⟩
            case measure => omega
      have hfix : hStep s (a + 1 + i, d1, c1) = (a + 1 + i, d1, c1) := hStep_none (by rw [← hyeq]; exact hA) (by rw [← hyeq]; exact hC)
      have H2 := hH.2.1
      rw [hRest_fix hfix] at H2
      simp only [Prod.mk.injEq] at H2
      have CT2 := HCT.out (by omega)
      rw [← H2.1, ← H2.2.1, ← H2.2.2, show ((a + 1 + i : Nat) : Int) = (a : Int) + 1 + (i : Int) by omega] at CT2
      clear H2 hfix hH hyeq hy HH HX HCT HCE
      by_cases hd0 : d1 = 0
      · subst hd0
        by_cases hy49 : y < 49
        · have y49 : decide (49 ≤ y) = false := decide_eq_false (by omega)
          have y49i : decide ((49 : Int) ≤ (y : Int)) = false := decide_eq_false (by omega)
          by_cases hc0 : c1 = 0
          · subst hc0
            have y43 : ((y : Int) == 43) = false := by simp; omega
            have y45 : ((y : Int) == 45) = false := by simp; omega
            clear hA hC e0 z0 z1 hz hxr hyr
            go_wp2_with fail
            refine (CT2 _).mono ?_
            rintro e w1 ⟨rfl, hb1⟩
            have y5 : w1.heap[w.heap.size]? = some (.cells hdr0 48 (0, 0)) := (hb1.block _ (by omega)).trans YR.out
            have b5 : Below w.heap.size w w1 := hb.trans (hb1.mono (by omega))
            have hcz : ∀ j, (w1.setRow w.heap.size #[.int .i64 (d' : Int), .int .u8 (c' : Int), .bool h', .string N']).cell? ⟨w.heap.size, j, none⟩ = (#[.int .i64 (d' : Int), .int .u8 (c' : Int), .bool h', .string N'] : Array Value)[j]? := fun j => cell_of_row _ _ j _ _ _ (setRow_heap w1 w.heap.size hdr0 _ _ _ y5)
            have hbr : Below w.heap.size w (w1.setRow w.heap.size #[.int .i64 (d' : Int), .int .u8 (c' : Int), .bool h', .string N']) := b5.trans ⟨rfl, rfl, rfl, by simp [World.setRow], fun k hk => setRow_other w1 _ k _ (by omega)⟩
            go_wp2_with (refine wpList_store_row rfl 48 _ _ rfl w.heap.size #[.int .i64 (d' : Int), .int .u8 (c' : Int), .bool h', .string N'] rfl rfl 48 hdr0 y5 (by kernel_rfl) rfl (by kernel_rfl) ?_)
            obtain ⟨W6, hW6⟩ : ∃ W6, W6 = w1.setRow w.heap.size #[.int .i64 (d' : Int), .int .u8 (c' : Int), .bool h', .string N'] := ⟨_, rfl⟩
            rw [← hW6] at hcz hbr ⊢
            clear hW6
            refine bodyPost_ret (v := .tuple #[.agg #[.int .i64 (d' : Int), .int .u8 (c' : Int), .bool h', .string N'], .int .i64 E, .int .i64 C]) (by simp [results, Tryd.results21, go_sem, hcz]) rfl ?_
            exact ⟨rfl, hbr⟩
          · have hc0b : ((c1 : Int) == 0) = false := by simp; omega
            clear hA hC e0 z0 z1 hz hxr hyr
            go_wp2_with fail
            refine (CT2 _).mono ?_
            rintro e w1 ⟨rfl, hb1⟩
            have y5 : w1.heap[w.heap.size]? = some (.cells hdr0 48 (0, 0)) := (hb1.block _ (by omega)).trans YR.out
            have b5 : Below w.heap.size w w1 := hb.trans (hb1.mono (by omega))
            have hcz : ∀ j, (w1.setRow w.heap.size #[.int .i64 (d' : Int), .int .u8 (c' : Int), .bool h', .string N']).cell? ⟨w.heap.size, j, none⟩ = (#[.int .i64 (d' : Int), .int .u8 (c' : Int), .bool h', .string N'] : Array Value)[j]? := fun j => cell_of_row _ _ j _ _ _ (setRow_heap w1 w.heap.size hdr0 _ _ _ y5)
            have hbr : Below w.heap.size w (w1.setRow w.heap.size #[.int .i64 (d' : Int), .int .u8 (c' : Int), .bool h', .string N']) := b5.trans ⟨rfl, rfl, rfl, by simp [World.setRow], fun k hk => setRow_other w1 _ k _ (by omega)⟩
            go_wp2_with (refine wpList_store_row rfl 48 _ _ rfl w.heap.size #[.int .i64 (d' : Int), .int .u8 (c' : Int), .bool h', .string N'] rfl rfl 48 hdr0 y5 (by kernel_rfl) rfl (by kernel_rfl) ?_)
            obtain ⟨W6, hW6⟩ : ∃ W6, W6 = w1.setRow w.heap.size #[.int .i64 (d' : Int), .int .u8 (c' : Int), .bool h', .string N'] := ⟨_, rfl⟩
            rw [← hW6] at hcz hbr ⊢
            clear hW6
            refine bodyPost_ret (v := .tuple #[.agg #[.int .i64 (d' : Int), .int .u8 (c' : Int), .bool h', .string N'], .int .i64 E, .int .i64 C]) (by simp [results, Tryd.results21, go_sem, hcz]) rfl ?_
            exact ⟨rfl, hbr⟩
        · have y49 : decide (49 ≤ y) = true := decide_eq_true (by omega)
          have y49i : decide ((49 : Int) ≤ (y : Int)) = true := decide_eq_true (by omega)
          have y57 : decide (y ≤ 57) = false := decide_eq_false (by omega)
          have y57i : decide ((y : Int) ≤ 57) = false := decide_eq_false (by omega)
          by_cases hc0 : c1 = 0
          · subst hc0
            have y43 : ((y : Int) == 43) = false := by simp; omega
            have y45 : ((y : Int) == 45) = false := by simp; omega
            clear hA hC e0 z0 z1 hz hxr hyr
            go_wp2_with fail
            refine (CT2 _).mono ?_
            rintro e w1 ⟨rfl, hb1⟩
            have y5 : w1.heap[w.heap.size]? = some (.cells hdr0 48 (0, 0)) := (hb1.block _ (by omega)).trans YR.out
            have b5 : Below w.heap.size w w1 := hb.trans (hb1.mono (by omega))
            have hcz : ∀ j, (w1.setRow w.heap.size #[.int .i64 (d' : Int), .int .u8 (c' : Int), .bool h', .string N']).cell? ⟨w.heap.size, j, none⟩ = (#[.int .i64 (d' : Int), .int .u8 (c' : Int), .bool h', .string N'] : Array Value)[j]? := fun j => cell_of_row _ _ j _ _ _ (setRow_heap w1 w.heap.size hdr0 _ _ _ y5)
            have hbr : Below w.heap.size w (w1.setRow w.heap.size #[.int .i64 (d' : Int), .int .u8 (c' : Int), .bool h', .string N']) := b5.trans ⟨rfl, rfl, rfl, by simp [World.setRow], fun k hk => setRow_other w1 _ k _ (by omega)⟩
            go_wp2_with (refine wpList_store_row rfl 48 _ _ rfl w.heap.size #[.int .i64 (d' : Int), .int .u8 (c' : Int), .bool h', .string N'] rfl rfl 48 hdr0 y5 (by kernel_rfl) rfl (by kernel_rfl) ?_)
            obtain ⟨W6, hW6⟩ : ∃ W6, W6 = w1.setRow w.heap.size #[.int .i64 (d' : Int), .int .u8 (c' : Int), .bool h', .string N'] := ⟨_, rfl⟩
            rw [← hW6] at hcz hbr ⊢
            clear hW6
            refine bodyPost_ret (v := .tuple #[.agg #[.int .i64 (d' : Int), .int .u8 (c' : Int), .bool h', .string N'], .int .i64 E, .int .i64 C]) (by simp [results, Tryd.results21, go_sem, hcz]) rfl ?_
            exact ⟨rfl, hbr⟩
          · have hc0b : ((c1 : Int) == 0) = false := by simp; omega
            clear hA hC e0 z0 z1 hz hxr hyr
            go_wp2_with fail
            refine (CT2 _).mono ?_
            rintro e w1 ⟨rfl, hb1⟩
            have y5 : w1.heap[w.heap.size]? = some (.cells hdr0 48 (0, 0)) := (hb1.block _ (by omega)).trans YR.out
            have b5 : Below w.heap.size w w1 := hb.trans (hb1.mono (by omega))
            have hcz : ∀ j, (w1.setRow w.heap.size #[.int .i64 (d' : Int), .int .u8 (c' : Int), .bool h', .string N']).cell? ⟨w.heap.size, j, none⟩ = (#[.int .i64 (d' : Int), .int .u8 (c' : Int), .bool h', .string N'] : Array Value)[j]? := fun j => cell_of_row _ _ j _ _ _ (setRow_heap w1 w.heap.size hdr0 _ _ _ y5)
            have hbr : Below w.heap.size w (w1.setRow w.heap.size #[.int .i64 (d' : Int), .int .u8 (c' : Int), .bool h', .string N']) := b5.trans ⟨rfl, rfl, rfl, by simp [World.setRow], fun k hk => setRow_other w1 _ k _ (by omega)⟩
            go_wp2_with (refine wpList_store_row rfl 48 _ _ rfl w.heap.size #[.int .i64 (d' : Int), .int .u8 (c' : Int), .bool h', .string N'] rfl rfl 48 hdr0 y5 (by kernel_rfl) rfl (by kernel_rfl) ?_)
            obtain ⟨W6, hW6⟩ : ∃ W6, W6 = w1.setRow w.heap.size #[.int .i64 (d' : Int), .int .u8 (c' : Int), .bool h', .string N'] := ⟨_, rfl⟩
            rw [← hW6] at hcz hbr ⊢
            clear hW6
            refine bodyPost_ret (v := .tuple #[.agg #[.int .i64 (d' : Int), .int .u8 (c' : Int), .bool h', .string N'], .int .i64 E, .int .i64 C]) (by simp [results, Tryd.results21, go_sem, hcz]) rfl ?_
            exact ⟨rfl, hbr⟩
      · have hd0b : ((d1 : Int) == 0) = false := by simp; omega
        by_cases hc0 : c1 = 0
        · subst hc0
          have y43 : ((y : Int) == 43) = false := by simp; omega
          have y45 : ((y : Int) == 45) = false := by simp; omega
          clear hA hC e0 z0 z1 hz hxr hyr
          go_wp2_with fail
          refine (CT2 _).mono ?_
          rintro e w1 ⟨rfl, hb1⟩
          have y5 : w1.heap[w.heap.size]? = some (.cells hdr0 48 (0, 0)) := (hb1.block _ (by omega)).trans YR.out
          have b5 : Below w.heap.size w w1 := hb.trans (hb1.mono (by omega))
          have hcz : ∀ j, (w1.setRow w.heap.size #[.int .i64 (d' : Int), .int .u8 (c' : Int), .bool h', .string N']).cell? ⟨w.heap.size, j, none⟩ = (#[.int .i64 (d' : Int), .int .u8 (c' : Int), .bool h', .string N'] : Array Value)[j]? := fun j => cell_of_row _ _ j _ _ _ (setRow_heap w1 w.heap.size hdr0 _ _ _ y5)
          have hbr : Below w.heap.size w (w1.setRow w.heap.size #[.int .i64 (d' : Int), .int .u8 (c' : Int), .bool h', .string N']) := b5.trans ⟨rfl, rfl, rfl, by simp [World.setRow], fun k hk => setRow_other w1 _ k _ (by omega)⟩
          go_wp2_with (refine wpList_store_row rfl 48 _ _ rfl w.heap.size #[.int .i64 (d' : Int), .int .u8 (c' : Int), .bool h', .string N'] rfl rfl 48 hdr0 y5 (by kernel_rfl) rfl (by kernel_rfl) ?_)
          obtain ⟨W6, hW6⟩ : ∃ W6, W6 = w1.setRow w.heap.size #[.int .i64 (d' : Int), .int .u8 (c' : Int), .bool h', .string N'] := ⟨_, rfl⟩
          rw [← hW6] at hcz hbr ⊢
          clear hW6
          refine bodyPost_ret (v := .tuple #[.agg #[.int .i64 (d' : Int), .int .u8 (c' : Int), .bool h', .string N'], .int .i64 E, .int .i64 C]) (by simp [results, Tryd.results21, go_sem, hcz]) rfl ?_
          exact ⟨rfl, hbr⟩
        · have hc0b : ((c1 : Int) == 0) = false := by simp; omega
          clear hA hC e0 z0 z1 hz hxr hyr
          go_wp2_with fail
          refine (CT2 _).mono ?_
          rintro e w1 ⟨rfl, hb1⟩
          have y5 : w1.heap[w.heap.size]? = some (.cells hdr0 48 (0, 0)) := (hb1.block _ (by omega)).trans YR.out
          have b5 : Below w.heap.size w w1 := hb.trans (hb1.mono (by omega))
          have hcz : ∀ j, (w1.setRow w.heap.size #[.int .i64 (d' : Int), .int .u8 (c' : Int), .bool h', .string N']).cell? ⟨w.heap.size, j, none⟩ = (#[.int .i64 (d' : Int), .int .u8 (c' : Int), .bool h', .string N'] : Array Value)[j]? := fun j => cell_of_row _ _ j _ _ _ (setRow_heap w1 w.heap.size hdr0 _ _ _ y5)
          have hbr : Below w.heap.size w (w1.setRow w.heap.size #[.int .i64 (d' : Int), .int .u8 (c' : Int), .bool h', .string N']) := b5.trans ⟨rfl, rfl, rfl, by simp [World.setRow], fun k hk => setRow_other w1 _ k _ (by omega)⟩
          go_wp2_with (refine wpList_store_row rfl 48 _ _ rfl w.heap.size #[.int .i64 (d' : Int), .int .u8 (c' : Int), .bool h', .string N'] rfl rfl 48 hdr0 y5 (by kernel_rfl) rfl (by kernel_rfl) ?_)
          obtain ⟨W6, hW6⟩ : ∃ W6, W6 = w1.setRow w.heap.size #[.int .i64 (d' : Int), .int .u8 (c' : Int), .bool h', .string N'] := ⟨_, rfl⟩
          rw [← hW6] at hcz hbr ⊢
          clear hW6
          refine bodyPost_ret (v := .tuple #[.agg #[.int .i64 (d' : Int), .int .u8 (c' : Int), .bool h', .string N'], .int .i64 E, .int .i64 C]) (by simp [results, Tryd.results21, go_sem, hcz]) rfl ?_
          exact ⟨rfl, hbr⟩
    · have hfix : hStep s (a + 1 + i, d1, c1) = (a + 1 + i, d1, c1) := by
        rw [show a + 1 + i = t by omega]
        exact hStep_end HEE.out
      have H2 := hH.2.1
      rw [hRest_fix hfix] at H2
      simp only [Prod.mk.injEq] at H2
      obtain ⟨k1, k2, k3, k4, k5, k6⟩ := HCE.out (by omega)
      rw [← H2.2.1] at k1
      rw [← H2.2.2] at k2
      subst k1 k2 k3 k4 k5 k6
      clear H2 hfix hH HH HX HCT HCE hcell hz e0 e1 z0 z1
      have hcx : ∀ j, wr.cell? ⟨w.heap.size + 1, j, none⟩ = (#[.int .i64 (d' : Int), .int .u8 (c' : Int), .bool false, .string ⟨#[]⟩] : Array Value)[j]? := fun j => cell_of_row wr _ j _ _ _ XR.out
      have y5 := YR.out
      have hcz : ∀ j, (wr.setRow w.heap.size #[.int .i64 (d' : Int), .int .u8 (c' : Int), .bool false, .string ⟨#[]⟩]).cell? ⟨w.heap.size, j, none⟩ = (#[.int .i64 (d' : Int), .int .u8 (c' : Int), .bool false, .string ⟨#[]⟩] : Array Value)[j]? := fun j => cell_of_row _ _ j _ _ _ (setRow_heap wr w.heap.size hdr0 _ _ _ y5)
      have hbr : Below w.heap.size w (wr.setRow w.heap.size #[.int .i64 (d' : Int), .int .u8 (c' : Int), .bool false, .string ⟨#[]⟩]) := hb.trans ⟨rfl, rfl, rfl, by simp [World.setRow], fun k hk => setRow_other wr _ k _ (by omega)⟩
      go_wp2_with (refine wpList_store_row rfl 48 _ _ rfl w.heap.size #[.int .i64 (d' : Int), .int .u8 (c' : Int), .bool false, .string ⟨#[]⟩] rfl rfl 48 hdr0 y5 (by kernel_rfl) rfl (by kernel_rfl) ?_)
      obtain ⟨W6, hW6⟩ : ∃ W6, W6 = wr.setRow w.heap.size #[.int .i64 (d' : Int), .int .u8 (c' : Int), .bool false, .string ⟨#[]⟩] := ⟨_, rfl⟩
      rw [← hW6] at hcz hbr ⊢
      clear hW6
      refine bodyPost_ret (v := .tuple #[.agg #[.int .i64 (d' : Int), .int .u8 (c' : Int), .bool false, .string ⟨#[]⟩], .int .i64 0, .int .i64 0]) (by simp [results, Tryd.results21, go_sem, hcz]) rfl ?_
      exact ⟨rfl, hbr⟩
end Go.Proofs.YtkpccoijegklbaaDoor
