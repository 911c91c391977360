/- The document's answer on block scalars: its header, and whether a row is blanks alone. Conditions: those that each theorem writes out (lengths that memory can hold). -/
import Derived.Test.YtkpccoijegklbaaDoorBlocP
import Derived.Test.YtkpccoijegklbaaDoorLinRefK
namespace Go.Proofs.YtkpccoijegklbaaDoor
open Go.RowKit

theorem bCut_is (e : Nat) (s : ByteArray) (w : World) (hs : s.size ≤ 1099511627776) (h : BakN s 0 s.size e) :
    Calls Tryd.prog 54 #[.string s] w fun e' w' => e' = .returned (.string (s.extract 0 e)) ∧ w = w' := by
  have he := h.2.1
  have HK := Lib.hid h
  clear h
  go_enter Tryd.func54, Tryd.ntmps54
  go_wp2
  go_loop [3] (fun vn => ∃ n : Nat, vn = .int .i64 (n : Int) ∧ e ≤ n ∧ n ≤ s.size) (fun vn => (intOf vn).toNat - e)
  case atStart => exact ⟨s.size, rfl, he, Nat.le_refl _⟩
  case round =>
    obtain ⟨n, rfl, hn1, hn2⟩ := hrel
    by_cases hn0 : 0 < n
    · have hi := run_byt s (n - 1) (by omega) ((n : Int) - 1) (by omega)
      obtain ⟨y, hy⟩ : ∃ y, byt s (n - 1) = y := ⟨_, rfl⟩
      rw [hy] at hi
      by_cases hne : n = e
      · have hw : U.white (y : Int) = false := by rw [← hy, hne]; exact HK.out.2.2.2.resolve_left (by omega)
        have HW := Lib.hid hw
        have HE := Lib.hid hne
        clear hy hw hne
        go_wp2_with fail
        refine (refWhite_is false _ _ HW.out).mono ?_
        rintro e1 w1 ⟨rfl, rfl⟩
        go_wp2
        go_ret
        exact ⟨by rw [← HE.out]; rfl, rfl⟩
      · have hw : U.white (y : Int) = true := by rw [← hy]; exact HK.out.2.2.1 (n - 1) (by omega) (by omega)
        have HW := Lib.hid hw
        clear hy hw
        go_wp2_with fail
        refine (refWhite_is true _ _ HW.out).mono ?_
        rintro e1 w1 ⟨rfl, rfl⟩
        go_wp2
        go_round
        case rel => exact ⟨n - 1, by go_num, by omega, by omega⟩
        case measure => simp [intOf]; omega
    · obtain rfl : n = 0 := by omega
      obtain rfl : e = 0 := by omega
      go_wp2
      go_ret
      exact ⟨rfl, rfl⟩

theorem refBlanks_is (q : Bool) (a b i : Nat) (s : ByteArray) (w : World) (hs : s.size ≤ 1099511627776) (hB : RowB s a a) (hE : RowE s a b) (hI : InN s a b i) (hq : decide (a + i = b) = q) :
    Calls Tryd.prog 32 #[.string s, .int .i64 (a : Int), .int .i64 (b : Int)] w fun e w' => e = .returned (.bool q) ∧ w = w' := by
  have h1 := hE.1
  have h2 := hE.2.1
  have h3 := hI.1
  have HB : Hid (RowB s (clampN (a : Int) s.size) a) := by rw [clampN_self a _ (by omega)]; exact hB
  have HE : Hid (RowE s (clampN (a : Int) s.size) b) := by rw [clampN_self a _ (by omega)]; exact hE
  have HI := Lib.hid hI
  have g : ((i : Int) == (b : Int) - (a : Int)) = q := by rw [← hq, Bool.eq_iff_iff]; simp; omega
  clear hB hE hI hq
  go_enter Tryd.func32, Tryd.ntmps32
  go_wp2_with fail
  refine (refIn_is a b i s (a : Int) _ hs HB.out HE.out HI.out).mono ?_
  rintro e9 w9 ⟨rfl, rfl⟩
  go_wp2
  go_ret
  exact ⟨rfl, rfl⟩

/-- So many steps of a header are left. -/
def hRest (s : ByteArray) : Nat → Nat × Nat × Nat → Nat × Nat × Nat
  | 0, x => x
  | k + 1, x => hRest s k (hStep s x)
theorem hRest_over {s : ByteArray} {x : Nat × Nat × Nat} (h : s.size ≤ x.1) : ∀ k, hRest s k x = x
  | 0 => rfl
  | k + 1 => by
    have e : hStep s x = x := by unfold hStep; rw [if_neg (by omega)]
    rw [hRest, e]
    exact hRest_over h k
theorem hStep_dig {s : ByteArray} {p c : Nat} (h : p < s.size) (h1 : 49 ≤ byt s p) (h2 : byt s p ≤ 57) : hStep s (p, 0, c) = (p + 1, byt s p - 48, c) := by
  unfold hStep
  dsimp only
  rw [if_pos h, if_pos ⟨rfl, h1, h2⟩]
theorem hStep_sgn {s : ByteArray} {p d : Nat} (h : p < s.size) (h1 : byt s p = 43 ∨ byt s p = 45) : hStep s (p, d, 0) = (p + 1, d, byt s p) := by
  unfold hStep
  dsimp only
  rw [if_pos h, if_neg (by omega), if_pos ⟨rfl, h1⟩]
theorem hStep_none {s : ByteArray} {p d c : Nat} (h1 : ¬ (d = 0 ∧ 49 ≤ byt s p ∧ byt s p ≤ 57)) (h2 : ¬ (c = 0 ∧ (byt s p = 43 ∨ byt s p = 45))) : hStep s (p, d, c) = (p, d, c) := by
  unfold hStep
  dsimp only
  by_cases h : p < s.size
  · rw [if_pos h, if_neg h1, if_neg h2]
  · rw [if_neg h]

theorem results_tmp6 {fn : Func} {t u v x y z : Tmp} (h : fn.results = #[.tmp t, .tmp u, .tmp v, .tmp x, .tmp y, .tmp z]) (tmps : Array Value) (P : Program) (w : World) :
    (results fn tmps).run P w = .ok (.tuple #[tmps.getD t undef, tmps.getD u undef, tmps.getD v undef, tmps.getD x undef, tmps.getD y undef, tmps.getD z undef]) w := by
  simp [results, h, go_sem]
/-- What a header is: where its row ends, the digit, the sign, the comment, and the fault's place (-1: none). -/
def HdrZ (s : ByteArray) (a : Nat) (t' d' c' : Nat) (note : List UInt8) (h : Bool) (f : Int) : Prop :=
  ∃ t q p d c, hdr s a = (p, d, c) ∧ RowE s a t ∧ FirN s p t q ∧
    ((q < t ∧ ¬ (byt s q = 35 ∧ p < q) ∧ t' = 0 ∧ d' = 0 ∧ c' = 0 ∧ note = [] ∧ h = false ∧ f = (q : Int)) ∨ (NotZ s p t q h note ∧ t' = t ∧ d' = d ∧ c' = c ∧ f = -1))

set_option maxRecDepth 100000 in
set_option maxHeartbeats 3200000 in
theorem refHeader_is (t' d' c' : Nat) (note : List UInt8) (h : Bool) (f : Int) (s : ByteArray) (a : Nat) (w : World) (hs : s.size ≤ 1099511627776) (ha : a < s.size) (h10 : byt s a ≠ 10) (hZ : HdrZ s a t' d' c' note h f) :
    Calls Tryd.prog 30 #[.string s, .int .i64 (a : Int)] w fun e w' => e = .returned (.tuple #[.int .i64 (t' : Int), .int .i64 (d' : Int), .int .u8 (c' : Int), .string ⟨note.toArray⟩, .bool h, .int .i64 f]) ∧ w = w' := by
  obtain ⟨t, q, p, d, c, hx, ht, hq, hZ⟩ := hZ
  obtain ⟨g1, g2⟩ := hdr_le ha h10 ht
  rw [hx] at g1 g2
  dsimp only at g1 g2
  have ht2 := ht.2.1
  have hq1 := hq.1
  have hq2 := hq.2.1
  obtain ⟨r, hr⟩ := RowB.ex s a
  have HB : Hid (RowB s (clampN (a : Int) s.size) r) := by rw [clampN_self a _ (by omega)]; exact hr
  have HE : Hid (RowE s (clampN (a : Int) s.size) t) := by rw [clampN_self a _ (by omega)]; exact ht
  have HQ := Lib.hid hq
  have HZ := Lib.hid hZ
  have HX : Hid (hRest s 2 (a + 1, 0, 0) = (p, d, c)) := hx
  clear hx ht hq hZ hr h10
  go_enter Tryd.func30, Tryd.ntmps30
  go_wp2
  go_loop [10, 11, 12, 13] (fun v10 v11 v12 v13 => ∃ (k p1 d1 c1 : Nat), v13 = .int .i64 (k : Int) ∧ v10 = .int .i64 (p1 : Int) ∧ v11 = .int .i64 (d1 : Int) ∧ v12 = .int .u8 (c1 : Int) ∧ k ≤ 2 ∧ d1 < 10 ∧ c1 < 256 ∧ Hid (hRest s (2 - k) (p1, d1, c1) = (p, d, c))) (fun _ _ _ v13 => 2 - (intOf v13).toNat)
  case atStart => exact ⟨0, a + 1, 0, 0, rfl, by go_num, rfl, rfl, by omega, by omega, by omega, HX.out⟩
  case round =>
    obtain ⟨k, p1, d1, c1, rfl, rfl, rfl, rfl, hk, hd1, hc1, H⟩ := hrel
    by_cases hk2 : k < 2
    · by_cases hp1 : p1 < s.size
      · have hi := run_byt s p1 hp1 (p1 : Int) rfl
        have H2 := H.out
        rw [show 2 - k = (2 - (k + 1)) + 1 by omega, hRest] at H2
        obtain ⟨y, hy⟩ : ∃ y, byt s p1 = y := ⟨_, rfl⟩
        have hyl : y < 256 := by rw [← hy]; exact byt_lt s p1
        rw [hy] at hi
        by_cases hA : d1 = 0 ∧ 49 ≤ y ∧ y ≤ 57
        · obtain ⟨rfl, h49, h57⟩ := hA
          rw [hStep_dig hp1 (by omega) (by omega), hy] at H2
          have HH := Lib.hid H2
          clear H2 H hy
          go_wp2
          go_round
          case rel => exact ⟨k + 1, p1 + 1, y - 48, c1, by go_num, by go_num, by go_num, by go_num, by omega, by omega, by omega, HH.out⟩
          case measure => simp [intOf]; omega
        by_cases hC : c1 = 0 ∧ (y = 43 ∨ y = 45)
        · obtain ⟨rfl, hy2⟩ := hC
          rw [hStep_sgn hp1 (by rw [hy]; exact hy2), hy] at H2
          have HH := Lib.hid H2
          clear H2 H hy hA
          by_cases hd0 : d1 = 0
          · subst hd0
            rcases hy2 with rfl | rfl
            · skip
              go_wp2
              go_round
              case rel => exact ⟨k + 1, p1 + 1, 0, 43, by go_num, by go_num, by go_num, by go_num, by omega, by omega, by omega, HH.out⟩
              case measure => simp [intOf]; omega
            · skip
              go_wp2
              go_round
              case rel => exact ⟨k + 1, p1 + 1, 0, 45, by go_num, by go_num, by go_num, by go_num, by omega, by omega, by omega, HH.out⟩
              case measure => simp [intOf]; omega
          · have hd0b : ((d1 : Int) == 0) = false := by simp; omega
            rcases hy2 with rfl | rfl
            · skip
              go_wp2
              go_round
              case rel => exact ⟨k + 1, p1 + 1, d1, 43, by go_num, by go_num, by go_num, by go_num, by omega, by omega, by omega, HH.out⟩
              case measure => simp [intOf]; omega
            · skip
              go_wp2
              go_round
              case rel => exact ⟨k + 1, p1 + 1, d1, 45, by go_num, by go_num, by go_num, by go_num, by omega, by omega, by omega, HH.out⟩
              case measure => simp [intOf]; omega
        rw [hStep_none (by rw [hy]; exact hA) (by rw [hy]; exact hC)] at H2
        have HH := Lib.hid H2
        clear H2 H hy
        by_cases hd0 : d1 = 0
        · subst hd0
          by_cases hy49 : y < 49
          · have y49 : decide (49 ≤ y) = false := decide_eq_false (by omega)
            have y49i : decide ((49 : Int) ≤ (y : Int)) = false := decide_eq_false (by omega)
            by_cases hc0 : c1 = 0
            · subst hc0
              have y43 : ((y : Int) == 43) = false := by simp; omega
              have y45 : ((y : Int) == 45) = false := by simp; omega
              clear hA hC
              go_wp2
              go_round
              case rel => exact ⟨k + 1, p1, 0, 0, by go_num, by go_num, by go_num, by go_num, by omega, by omega, by omega, HH.out⟩
              case measure => simp [intOf]; omega
            · have hc0b : ((c1 : Int) == 0) = false := by simp; omega
              clear hA hC
              go_wp2
              go_round
              case rel => exact ⟨k + 1, p1, 0, c1, by go_num, by go_num, by go_num, by go_num, by omega, by omega, by omega, HH.out⟩
              case measure => simp [intOf]; omega
          · have y49 : decide (49 ≤ y) = true := decide_eq_true (by omega)
            have y49i : decide ((49 : Int) ≤ (y : Int)) = true := decide_eq_true (by omega)
            have y57 : decide (y ≤ 57) = false := decide_eq_false (by omega)
            have y57i : decide ((y : Int) ≤ 57) = false := decide_eq_false (by omega)
            by_cases hc0 : c1 = 0
            · subst hc0
              have y43 : ((y : Int) == 43) = false := by simp; omega
              have y45 : ((y : Int) == 45) = false := by simp; omega
              clear hA hC
              go_wp2
              go_round
              case rel => exact ⟨k + 1, p1, 0, 0, by go_num, by go_num, by go_num, by go_num, by omega, by omega, by omega, HH.out⟩
              case measure => simp [intOf]; omega
            · have hc0b : ((c1 : Int) == 0) = false := by simp; omega
              clear hA hC
              go_wp2
              go_round
              case rel => exact ⟨k + 1, p1, 0, c1, by go_num, by go_num, by go_num, by go_num, by omega, by omega, by omega, HH.out⟩
              case measure => simp [intOf]; omega
        · have hd0b : ((d1 : Int) == 0) = false := by simp; omega
          by_cases hc0 : c1 = 0
          · subst hc0
            have y43 : ((y : Int) == 43) = false := by simp; omega
            have y45 : ((y : Int) == 45) = false := by simp; omega
            clear hA hC
            go_wp2
            go_round
            case rel => exact ⟨k + 1, p1, d1, 0, by go_num, by go_num, by go_num, by go_num, by omega, by omega, by omega, HH.out⟩
            case measure => simp [intOf]; omega
          · have hc0b : ((c1 : Int) == 0) = false := by simp; omega
            clear hA hC
            go_wp2
            go_round
            case rel => exact ⟨k + 1, p1, d1, c1, by go_num, by go_num, by go_num, by go_num, by omega, by omega, by omega, HH.out⟩
            case measure => simp [intOf]; omega
      · have hpx := H.out
        rw [hRest_over (by show s.size ≤ p1; omega), Prod.mk.injEq, Prod.mk.injEq] at hpx
        have dk : decide (k < 2) = true := decide_eq_true hk2
        have dp : decide (p1 < s.size) = false := decide_eq_false hp1
        have dpi : decide ((p1 : Int) < (s.size : Int)) = false := decide_eq_false (by omega)
        clear H HX
        obtain ⟨rfl, rfl, rfl⟩ := hpx
        rcases HZ.out with ⟨z1, z2, rfl, rfl, rfl, rfl, rfl, rfl⟩ | ⟨z1, rfl, rfl, rfl, rfl⟩
        · omega
        · rcases z1 with ⟨hqt, rfl, rfl⟩ | ⟨y1, y2, y3, rfl, e, hE, rfl⟩
          · have hqtb : ((q : Int) == (t' : Int)) = true := by simp; omega
            clear HZ hqt
            go_wp2_with fail
            refine (refRow_is r t' s (a : Int) _ hs HB.out HE.out).mono ?_
            rintro e9 w9 ⟨rfl, rfl⟩
            go_wp2_with fail
            refine (First_is p1 t' q s _ hs ht2 HQ.out).mono ?_
            rintro e9 w9 ⟨rfl, rfl⟩
            go_wp2
            refine bodyPost_ret (results_tmp6 rfl _ _ _) rfl ?_
            exact ⟨rfl, rfl⟩
          · omega
    · obtain rfl : k = 2 := by omega
      have hpx := H.out
      rw [show 2 - 2 = 0 from rfl, hRest, Prod.mk.injEq, Prod.mk.injEq] at hpx
      clear H HX
      obtain ⟨rfl, rfl, rfl⟩ := hpx
      rcases HZ.out with ⟨z1, z2, rfl, rfl, rfl, rfl, rfl, rfl⟩ | ⟨z1, rfl, rfl, rfl, rfl⟩
      · have hiq := run_byt s q (by omega) (q : Int) rfl
        obtain ⟨u, hu⟩ : ∃ u, byt s q = u := ⟨_, rfl⟩
        rw [hu] at hiq z2
        have hqt : ((q : Int) == (t : Int)) = false := by simp; omega
        by_cases hu35 : u = 35
        · subst hu35
          have hpq : decide (p1 < q) = false := decide_eq_false (fun h => z2 ⟨rfl, h⟩)
          have hpq2 : decide ((p1 : Int) < (q : Int)) = false := decide_eq_false (fun h => z2 ⟨rfl, by omega⟩)
          clear z2 hu HZ
          go_wp2_with fail
          refine (refRow_is r t s (a : Int) _ hs HB.out HE.out).mono ?_
          rintro e9 w9 ⟨rfl, rfl⟩
          go_wp2_with fail
          refine (First_is p1 t q s _ hs ht2 HQ.out).mono ?_
          rintro e9 w9 ⟨rfl, rfl⟩
          go_wp2
          refine bodyPost_ret (results_tmp6 rfl _ _ _) rfl ?_
          exact ⟨rfl, rfl⟩
        · have hu35b : ((u : Int) == 35) = false := by simp; omega
          clear z2 hu hu35 HZ
          go_wp2_with fail
          refine (refRow_is r t s (a : Int) _ hs HB.out HE.out).mono ?_
          rintro e9 w9 ⟨rfl, rfl⟩
          go_wp2_with fail
          refine (First_is p1 t q s _ hs ht2 HQ.out).mono ?_
          rintro e9 w9 ⟨rfl, rfl⟩
          go_wp2
          refine bodyPost_ret (results_tmp6 rfl _ _ _) rfl ?_
          exact ⟨rfl, rfl⟩
      · rcases z1 with ⟨hqt, rfl, rfl⟩ | ⟨y1, y2, y3, rfl, e, hE, rfl⟩
        · have hqtb : ((q : Int) == (t' : Int)) = true := by simp; omega
          clear HZ hqt
          go_wp2_with fail
          refine (refRow_is r t' s (a : Int) _ hs HB.out HE.out).mono ?_
          rintro e9 w9 ⟨rfl, rfl⟩
          go_wp2_with fail
          refine (First_is p1 t' q s _ hs ht2 HQ.out).mono ?_
          rintro e9 w9 ⟨rfl, rfl⟩
          go_wp2
          refine bodyPost_ret (results_tmp6 rfl _ _ _) rfl ?_
          exact ⟨rfl, rfl⟩
        · have hiq := run_byt s q (by omega) (q : Int) rfl
          rw [y2] at hiq
          have he1 := hE.1
          have he2 := hE.2.1
          have hqt : ((q : Int) == (t' : Int)) = false := by simp; omega
          have hpq : decide (p1 < q) = true := decide_eq_true y3
          have hpq2 : decide ((p1 : Int) < (q : Int)) = true := decide_eq_true (by omega)
          obtain ⟨S1, hS1⟩ : ∃ S1, s.extract (q + 1) t' = S1 := ⟨_, rfl⟩
          have hS1s : S1.size = t' - (q + 1) := by rw [← hS1, ByteArray.size_extract]; omega
          have hS1b : ∀ j, j < S1.size → byt S1 j = byt s (q + 1 + j) := fun j hj => by rw [← hS1]; exact byt_extract s (q + 1) t' j (by omega)
          have hK : BakN S1 0 S1.size (e - (q + 1)) := by
            refine ⟨Nat.zero_le _, by omega, fun j h1 h2 => ?_, ?_⟩
            · rw [hS1b j h1]
              exact hE.2.2.1 _ (by omega) (by omega)
            · by_cases h0 : e = q + 1
              · exact .inl (by omega)
              · refine .inr ?_
                rw [hS1b _ (by omega), show q + 1 + (e - (q + 1) - 1) = e - 1 by omega]
                exact hE.2.2.2.resolve_left h0
          have hx1 : S1.extract 0 (e - (q + 1)) = ⟨(pieceL s (q + 1) e).toArray⟩ := by
            rw [← hS1, ByteArray.extract_extract, ← piece_ext]
            congr 1
            omega
          have hsl : ∀ W, (Instr.slice 9 (.string s) (some (.int .i64 ((q : Int) + 1))) (some (.int .i64 (t' : Int))) none).run Tryd.prog W = .ok (.string S1) W := fun W => by
            rw [run_slice_string W 9 s .i64 .i64 ((q : Int) + 1) (t' : Int) Tryd.underlying9 (by omega) (by omega) (by omega), ← hS1, show ((q : Int) + 1).toNat = q + 1 by omega]
            rfl
          have HK := Lib.hid hK
          have HX1 := Lib.hid hx1
          clear hS1 hS1b hK hx1 hE HZ y2 y3
          go_wp2_with fail
          refine (refRow_is r t' s (a : Int) _ hs HB.out HE.out).mono ?_
          rintro e9 w9 ⟨rfl, rfl⟩
          go_wp2_with fail
          refine (First_is p1 t' q s _ hs ht2 HQ.out).mono ?_
          rintro e9 w9 ⟨rfl, rfl⟩
          go_wp2_with fail
          refine (bCut_is (e - (q + 1)) S1 _ (by omega) HK.out).mono ?_
          rintro e9 w9 ⟨rfl, rfl⟩
          rw [HX1.out]
          go_wp2
          refine bodyPost_ret (results_tmp6 rfl _ _ _) rfl ?_
          exact ⟨rfl, rfl⟩

end Go.Proofs.YtkpccoijegklbaaDoor
