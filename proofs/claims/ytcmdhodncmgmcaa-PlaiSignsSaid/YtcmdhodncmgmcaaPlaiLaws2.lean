/- The statement PlaiSigns on package plai: the walk, over what plai's three functions return (PlaiC): for every input the law returns true. Conditions: those that each theorem writes out. -/
import Derived.Test.YtcmdhodncmgmcaaPlaiLaws
namespace Go.Proofs.Ytcmdhodncmgmcaa
open Go.RowKit

def tailP : List (List UInt8) := [[97], [32], [], [10], [44], [93]]
theorem tailP_len (k : Nat) : (tailP.getD k []).length ≤ 1 := by
  by_cases h : k < tailP.length
  · have H : ∀ l ∈ tailP, l.length ≤ 1 := by decide
    apply H
    simp [List.getD, h]
  · rw [List.getD, List.getElem?_eq_none (by omega)]
    exact Nat.zero_le _
/-- A byte, and what stands behind it. -/
def oneP (c : Nat) (y : Nat) : ByteArray := ⟨#[c.toUInt8]⟩ ++ ⟨(tailP.getD y []).toArray⟩
def blockB (c y : Nat) : Bool := !(U.white (c : Int) || ((c : Int) == 10)) && (!(U.indic (c : Int)) || ((((c : Int) == 45) || ((c : Int) == 63) || ((c : Int) == 58)) && (((y : Int) == 0) || decide (3 < (y : Int)))))
def flowB (c y : Nat) : Bool := !(U.white (c : Int) || ((c : Int) == 10)) && (!(U.indic (c : Int)) || ((((c : Int) == 45) || ((c : Int) == 63) || ((c : Int) == 58)) && ((y : Int) == 0)))
set_option maxRecDepth 100000 in
theorem signs_fact (c y : Nat) (hc : c < 256) (hy : y < 6) : begB (oneP c y) 0 false = blockB c y ∧ begB (oneP c y) 0 true = flowB c y ∧ begB (oneP c y) ((oneP c y).size : Int) false = false ∧ (oneP c y).size ≤ 10 := by
  have H : ∀ i : Fin 256, ∀ j : Fin 6, begB (oneP i.val j.val) 0 false = blockB i.val j.val ∧ begB (oneP i.val j.val) 0 true = flowB i.val j.val ∧ begB (oneP i.val j.val) ((oneP i.val j.val).size : Int) false = false ∧ (oneP i.val j.val).size ≤ 10 := by decide +kernel
  exact H ⟨c, hc⟩ ⟨y, hy⟩

set_option maxRecDepth 100000 in
set_option maxHeartbeats 6400000 in
theorem PlaiSigns_walk (K : PlaiC) (c : Nat) (x : Int) (w : World) (hc : c < 256) :
    Calls Try.prog 6 #[.int .u8 (c : Int), .int .i64 x] w fun e w' => e = .returned (.bool true) ∧ Below w.heap.size w w' := by
  have hyr := lowZ_range x 6 (by omega)
  obtain ⟨y, hy⟩ : ∃ y : Nat, lowZ x 6 = (y : Int) := ⟨(lowZ x 6).toNat, by omega⟩
  rw [hy] at hyr
  have hy6 : y < 6 := by omega
  have HY := Lib.hid hy
  have htab : (w.alloc (.cells #[.string ⟨#[97]⟩, .string ⟨#[32]⟩, .string ⟨#[]⟩, .string ⟨#[10]⟩, .string ⟨#[44]⟩, .string ⟨#[93]⟩] 9)).cell? ⟨w.heap.size, y, none⟩ = some (.string ⟨(tailP.getD y []).toArray⟩) := tab_at w tailP 9 y hy6
  have hs1 : (w.alloc (.cells #[.string ⟨#[97]⟩, .string ⟨#[32]⟩, .string ⟨#[]⟩, .string ⟨#[10]⟩, .string ⟨#[44]⟩, .string ⟨#[93]⟩] 9)).heap.size = w.heap.size + 1 := by simp
  have hcv : (convert 35 9 (.slice (some ⟨w.heap.size + 1, 0, none⟩) 1 1)).run Try.prog ((w.alloc (.cells #[.string ⟨#[97]⟩, .string ⟨#[32]⟩, .string ⟨#[]⟩, .string ⟨#[10]⟩, .string ⟨#[44]⟩, .string ⟨#[93]⟩] 9)).alloc (.cells #[.int .u8 (c : Int)] 5)) = .ok (.string ⟨[c.toUInt8].toArray⟩) ((w.alloc (.cells #[.string ⟨#[97]⟩, .string ⟨#[32]⟩, .string ⟨#[]⟩, .string ⟨#[10]⟩, .string ⟨#[44]⟩, .string ⟨#[93]⟩] 9)).alloc (.cells #[.int .u8 (c : Int)] 5)) := by
    rw [← hs1]
    exact conv_cells _ _ 1 1 [(c : Int)] [c.toUInt8] rfl (by simp; omega) (cells_new _ _ _)
  obtain ⟨f1, f2, f3, f4⟩ := signs_fact c y hc hy6
  obtain ⟨X, hX⟩ : ∃ X : ByteArray, (⟨(tailP.getD y []).toArray⟩ : ByteArray) = X := ⟨_, rfl⟩
  rw [hX] at htab
  have hXs : X.size ≤ 1 := by rw [← hX, size_mk]; exact tailP_len y
  obtain ⟨D, hD⟩ : ∃ D : ByteArray, (⟨[c.toUInt8].toArray⟩ : ByteArray) = D := ⟨_, rfl⟩
  have hDs : D.size ≤ 1 := by rw [← hD]; exact Nat.le_refl _
  rw [hD] at hcv
  obtain ⟨S, hS⟩ : ∃ S : ByteArray, D ++ X = S := ⟨_, rfl⟩
  have hSS : oneP c y = S := by rw [← hS, ← hX, ← hD]; rfl
  rw [hSS] at f1 f2 f3 f4
  have hb0 : Below w.heap.size w ((w.alloc (.cells #[.string ⟨#[97]⟩, .string ⟨#[32]⟩, .string ⟨#[]⟩, .string ⟨#[10]⟩, .string ⟨#[44]⟩, .string ⟨#[93]⟩] 9)).alloc (.cells #[.int .u8 (c : Int)] 5)) := ((Below.refl _ _).alloc (Nat.le_refl _) _).alloc (by rw [hs1]; omega) _
  have F3 := Lib.hid f3
  have F4 := Lib.hid f4
  unfold blockB at f1
  unfold flowB at f2
  clear hs1 hy hX hSS hD f3 f4
  have hcls : (((c : Int) == 45) = true ∧ ((c : Int) == 10) = false ∧ U.white (c : Int) = false ∧ U.indic (c : Int) = true) ∨
      (((c : Int) == 45) = false ∧ ((c : Int) == 63) = true ∧ ((c : Int) == 10) = false ∧ U.white (c : Int) = false ∧ U.indic (c : Int) = true) ∨
      (((c : Int) == 45) = false ∧ ((c : Int) == 63) = false ∧ ((c : Int) == 58) = true ∧ ((c : Int) == 10) = false ∧ U.white (c : Int) = false ∧ U.indic (c : Int) = true) ∨
      (((c : Int) == 45) = false ∧ ((c : Int) == 63) = false ∧ ((c : Int) == 58) = false ∧ ((c : Int) == 10) = true ∧ U.white (c : Int) = false ∧ U.indic (c : Int) = false) ∨
      (((c : Int) == 45) = false ∧ ((c : Int) == 63) = false ∧ ((c : Int) == 58) = false ∧ U.white (c : Int) = true ∧ U.indic (c : Int) = false) ∨
      (((c : Int) == 45) = false ∧ ((c : Int) == 63) = false ∧ ((c : Int) == 58) = false ∧ ((c : Int) == 10) = false ∧ U.white (c : Int) = false) := by
    by_cases h1 : c = 45
    · subst h1; exact .inl (by decide)
    by_cases h2 : c = 63
    · subst h2; exact .inr (.inl (by decide))
    by_cases h3 : c = 58
    · subst h3; exact .inr (.inr (.inl (by decide)))
    by_cases h4 : c = 10
    · subst h4; exact .inr (.inr (.inr (.inl (by decide))))
    by_cases h5 : c = 32
    · subst h5; exact .inr (.inr (.inr (.inr (.inl (by decide)))))
    by_cases h6 : c = 9
    · subst h6; exact .inr (.inr (.inr (.inr (.inl (by decide)))))
    refine .inr (.inr (.inr (.inr (.inr ⟨by simp; omega, by simp; omega, by simp; omega, by simp; omega, ?_⟩))))
    unfold U.white
    rw [decide_eq_false_iff_not]
    omega
  have hyc : y = 0 ∨ (((y : Int) == 0) = false ∧ decide (3 < (y : Int)) = false) ∨ (((y : Int) == 0) = false ∧ decide (3 < (y : Int)) = true) := by
    by_cases h0 : y = 0
    · exact .inl h0
    · by_cases h3 : 3 < (y : Int)
      · exact .inr (.inr ⟨by simp; omega, decide_eq_true h3⟩)
      · exact .inr (.inl ⟨by simp; omega, decide_eq_false h3⟩)
  obtain ⟨b1, hb1⟩ : ∃ b1, begB S 0 false = b1 := ⟨_, rfl⟩
  obtain ⟨b2, hb2⟩ : ∃ b2, begB S 0 true = b2 := ⟨_, rfl⟩
  rw [hb1] at f1
  rw [hb2] at f2
  have HB1 := Lib.hid hb1
  have HB2 := Lib.hid hb2
  clear hb1 hb2 hc
  rcases hcls with ⟨g1, g4, g5, hod⟩ | ⟨g1, g2, g4, g5, hod⟩ | ⟨g1, g2, g3, g4, g5, hod⟩ | ⟨g1, g2, g3, g4, g5, hod⟩ | ⟨g1, g2, g3, g5, hod⟩ | ⟨g1, g2, g3, g4, g5⟩
  · rcases hyc with rfl | ⟨y0, y3⟩ | ⟨y0, y3⟩
    · skip
      have e1 : b1 = true := by rw [f1, hod, g5, g4, g1]; rfl
      have e2 : b2 = true := by rw [f2, hod, g5, g4, g1]; rfl
      have HO : Hid (U.indic (c : Int) = true) := Lib.hid (hod)
      have HW : Hid (U.white (c : Int) = false) := Lib.hid (g5)
      subst e1 e2
      clear f1 f2
      go_enter Try.func6, Try.ntmps6
      go_wp2_with fail
      refine (Low_is _ x 6 _ (by omega) (by omega) HY.out).mono ?_
      rintro e w1 ⟨rfl, rfl⟩
      go_wp2_with fail
      refine (refIndicator_is true _ _ HO.out).mono ?_
      rintro e w1 ⟨rfl, rfl⟩
      go_wp2_with fail
      refine (refWhite_is false _ _ HW.out).mono ?_
      rintro e w1 ⟨rfl, rfl⟩
      go_wp2_with fail
      refine (K.beg true S 0 false _ (by have := F4.out; omega) HB1.out).mono ?_
      rintro e w2 ⟨rfl, c1⟩
      have d1 := hb0.trans (c1.mono hb0.size)
      go_wp2_with fail
      refine (K.beg true S 0 true _ (by have := F4.out; omega) HB2.out).mono ?_
      rintro e w3 ⟨rfl, c2⟩
      have d2 := d1.trans (c2.mono d1.size)
      go_wp2_with fail
      refine (K.beg false S (S.size : Int) false _ (by have := F4.out; omega) F3.out).mono ?_
      rintro e w4 ⟨rfl, c3⟩
      have d3 := d2.trans (c3.mono d2.size)
      go_wp2_with fail
      refine (awake11_true K _).mono ?_
      rintro e w5 ⟨rfl, c4⟩
      go_wp2
      go_ret
      exact ⟨rfl, d3.trans (c4.mono d3.size)⟩
    · skip
      have e1 : b1 = false := by rw [f1, hod, g5, g4, g1, y0, y3]; rfl
      have e2 : b2 = false := by rw [f2, hod, g5, g4, g1, y0]; rfl
      have HO : Hid (U.indic (c : Int) = true) := Lib.hid (hod)
      have HW : Hid (U.white (c : Int) = false) := Lib.hid (g5)
      subst e1 e2
      clear f1 f2
      go_enter Try.func6, Try.ntmps6
      go_wp2_with fail
      refine (Low_is _ x 6 _ (by omega) (by omega) HY.out).mono ?_
      rintro e w1 ⟨rfl, rfl⟩
      go_wp2_with fail
      refine (refIndicator_is true _ _ HO.out).mono ?_
      rintro e w1 ⟨rfl, rfl⟩
      go_wp2_with fail
      refine (refWhite_is false _ _ HW.out).mono ?_
      rintro e w1 ⟨rfl, rfl⟩
      go_wp2_with fail
      refine (K.beg false S 0 false _ (by have := F4.out; omega) HB1.out).mono ?_
      rintro e w2 ⟨rfl, c1⟩
      have d1 := hb0.trans (c1.mono hb0.size)
      go_wp2_with fail
      refine (K.beg false S 0 true _ (by have := F4.out; omega) HB2.out).mono ?_
      rintro e w3 ⟨rfl, c2⟩
      have d2 := d1.trans (c2.mono d1.size)
      go_wp2_with fail
      refine (K.beg false S (S.size : Int) false _ (by have := F4.out; omega) F3.out).mono ?_
      rintro e w4 ⟨rfl, c3⟩
      have d3 := d2.trans (c3.mono d2.size)
      go_wp2_with fail
      refine (awake11_true K _).mono ?_
      rintro e w5 ⟨rfl, c4⟩
      go_wp2
      go_ret
      exact ⟨rfl, d3.trans (c4.mono d3.size)⟩
    · skip
      have e1 : b1 = true := by rw [f1, hod, g5, g4, g1, y0, y3]; rfl
      have e2 : b2 = false := by rw [f2, hod, g5, g4, g1, y0]; rfl
      have HO : Hid (U.indic (c : Int) = true) := Lib.hid (hod)
      have HW : Hid (U.white (c : Int) = false) := Lib.hid (g5)
      subst e1 e2
      clear f1 f2
      go_enter Try.func6, Try.ntmps6
      go_wp2_with fail
      refine (Low_is _ x 6 _ (by omega) (by omega) HY.out).mono ?_
      rintro e w1 ⟨rfl, rfl⟩
      go_wp2_with fail
      refine (refIndicator_is true _ _ HO.out).mono ?_
      rintro e w1 ⟨rfl, rfl⟩
      go_wp2_with fail
      refine (refWhite_is false _ _ HW.out).mono ?_
      rintro e w1 ⟨rfl, rfl⟩
      go_wp2_with fail
      refine (K.beg true S 0 false _ (by have := F4.out; omega) HB1.out).mono ?_
      rintro e w2 ⟨rfl, c1⟩
      have d1 := hb0.trans (c1.mono hb0.size)
      go_wp2_with fail
      refine (K.beg false S 0 true _ (by have := F4.out; omega) HB2.out).mono ?_
      rintro e w3 ⟨rfl, c2⟩
      have d2 := d1.trans (c2.mono d1.size)
      go_wp2_with fail
      refine (K.beg false S (S.size : Int) false _ (by have := F4.out; omega) F3.out).mono ?_
      rintro e w4 ⟨rfl, c3⟩
      have d3 := d2.trans (c3.mono d2.size)
      go_wp2_with fail
      refine (awake11_true K _).mono ?_
      rintro e w5 ⟨rfl, c4⟩
      go_wp2
      go_ret
      exact ⟨rfl, d3.trans (c4.mono d3.size)⟩
  · rcases hyc with rfl | ⟨y0, y3⟩ | ⟨y0, y3⟩
    · skip
      have e1 : b1 = true := by rw [f1, hod, g5, g4, g2, g1]; rfl
      have e2 : b2 = true := by rw [f2, hod, g5, g4, g2, g1]; rfl
      have HO : Hid (U.indic (c : Int) = true) := Lib.hid (hod)
      have HW : Hid (U.white (c : Int) = false) := Lib.hid (g5)
      subst e1 e2
      clear f1 f2
      go_enter Try.func6, Try.ntmps6
      go_wp2_with fail
      refine (Low_is _ x 6 _ (by omega) (by omega) HY.out).mono ?_
      rintro e w1 ⟨rfl, rfl⟩
      go_wp2_with fail
      refine (refIndicator_is true _ _ HO.out).mono ?_
      rintro e w1 ⟨rfl, rfl⟩
      go_wp2_with fail
      refine (refWhite_is false _ _ HW.out).mono ?_
      rintro e w1 ⟨rfl, rfl⟩
      go_wp2_with fail
      refine (K.beg true S 0 false _ (by have := F4.out; omega) HB1.out).mono ?_
      rintro e w2 ⟨rfl, c1⟩
      have d1 := hb0.trans (c1.mono hb0.size)
      go_wp2_with fail
      refine (K.beg true S 0 true _ (by have := F4.out; omega) HB2.out).mono ?_
      rintro e w3 ⟨rfl, c2⟩
      have d2 := d1.trans (c2.mono d1.size)
      go_wp2_with fail
      refine (K.beg false S (S.size : Int) false _ (by have := F4.out; omega) F3.out).mono ?_
      rintro e w4 ⟨rfl, c3⟩
      have d3 := d2.trans (c3.mono d2.size)
      go_wp2_with fail
      refine (awake11_true K _).mono ?_
      rintro e w5 ⟨rfl, c4⟩
      go_wp2
      go_ret
      exact ⟨rfl, d3.trans (c4.mono d3.size)⟩
    · skip
      have e1 : b1 = false := by rw [f1, hod, g5, g4, g2, g1, y0, y3]; rfl
      have e2 : b2 = false := by rw [f2, hod, g5, g4, g2, g1, y0]; rfl
      have HO : Hid (U.indic (c : Int) = true) := Lib.hid (hod)
      have HW : Hid (U.white (c : Int) = false) := Lib.hid (g5)
      subst e1 e2
      clear f1 f2
      go_enter Try.func6, Try.ntmps6
      go_wp2_with fail
      refine (Low_is _ x 6 _ (by omega) (by omega) HY.out).mono ?_
      rintro e w1 ⟨rfl, rfl⟩
      go_wp2_with fail
      refine (refIndicator_is true _ _ HO.out).mono ?_
      rintro e w1 ⟨rfl, rfl⟩
      go_wp2_with fail
      refine (refWhite_is false _ _ HW.out).mono ?_
      rintro e w1 ⟨rfl, rfl⟩
      go_wp2_with fail
      refine (K.beg false S 0 false _ (by have := F4.out; omega) HB1.out).mono ?_
      rintro e w2 ⟨rfl, c1⟩
      have d1 := hb0.trans (c1.mono hb0.size)
      go_wp2_with fail
      refine (K.beg false S 0 true _ (by have := F4.out; omega) HB2.out).mono ?_
      rintro e w3 ⟨rfl, c2⟩
      have d2 := d1.trans (c2.mono d1.size)
      go_wp2_with fail
      refine (K.beg false S (S.size : Int) false _ (by have := F4.out; omega) F3.out).mono ?_
      rintro e w4 ⟨rfl, c3⟩
      have d3 := d2.trans (c3.mono d2.size)
      go_wp2_with fail
      refine (awake11_true K _).mono ?_
      rintro e w5 ⟨rfl, c4⟩
      go_wp2
      go_ret
      exact ⟨rfl, d3.trans (c4.mono d3.size)⟩
    · skip
      have e1 : b1 = true := by rw [f1, hod, g5, g4, g2, g1, y0, y3]; rfl
      have e2 : b2 = false := by rw [f2, hod, g5, g4, g2, g1, y0]; rfl
      have HO : Hid (U.indic (c : Int) = true) := Lib.hid (hod)
      have HW : Hid (U.white (c : Int) = false) := Lib.hid (g5)
      subst e1 e2
      clear f1 f2
      go_enter Try.func6, Try.ntmps6
      go_wp2_with fail
      refine (Low_is _ x 6 _ (by omega) (by omega) HY.out).mono ?_
      rintro e w1 ⟨rfl, rfl⟩
      go_wp2_with fail
      refine (refIndicator_is true _ _ HO.out).mono ?_
      rintro e w1 ⟨rfl, rfl⟩
      go_wp2_with fail
      refine (refWhite_is false _ _ HW.out).mono ?_
      rintro e w1 ⟨rfl, rfl⟩
      go_wp2_with fail
      refine (K.beg true S 0 false _ (by have := F4.out; omega) HB1.out).mono ?_
      rintro e w2 ⟨rfl, c1⟩
      have d1 := hb0.trans (c1.mono hb0.size)
      go_wp2_with fail
      refine (K.beg false S 0 true _ (by have := F4.out; omega) HB2.out).mono ?_
      rintro e w3 ⟨rfl, c2⟩
      have d2 := d1.trans (c2.mono d1.size)
      go_wp2_with fail
      refine (K.beg false S (S.size : Int) false _ (by have := F4.out; omega) F3.out).mono ?_
      rintro e w4 ⟨rfl, c3⟩
      have d3 := d2.trans (c3.mono d2.size)
      go_wp2_with fail
      refine (awake11_true K _).mono ?_
      rintro e w5 ⟨rfl, c4⟩
      go_wp2
      go_ret
      exact ⟨rfl, d3.trans (c4.mono d3.size)⟩
  · rcases hyc with rfl | ⟨y0, y3⟩ | ⟨y0, y3⟩
    · skip
      have e1 : b1 = true := by rw [f1, hod, g5, g4, g3, g2, g1]; rfl
      have e2 : b2 = true := by rw [f2, hod, g5, g4, g3, g2, g1]; rfl
      have HO : Hid (U.indic (c : Int) = true) := Lib.hid (hod)
      have HW : Hid (U.white (c : Int) = false) := Lib.hid (g5)
      subst e1 e2
      clear f1 f2
      go_enter Try.func6, Try.ntmps6
      go_wp2_with fail
      refine (Low_is _ x 6 _ (by omega) (by omega) HY.out).mono ?_
      rintro e w1 ⟨rfl, rfl⟩
      go_wp2_with fail
      refine (refIndicator_is true _ _ HO.out).mono ?_
      rintro e w1 ⟨rfl, rfl⟩
      go_wp2_with fail
      refine (refWhite_is false _ _ HW.out).mono ?_
      rintro e w1 ⟨rfl, rfl⟩
      go_wp2_with fail
      refine (K.beg true S 0 false _ (by have := F4.out; omega) HB1.out).mono ?_
      rintro e w2 ⟨rfl, c1⟩
      have d1 := hb0.trans (c1.mono hb0.size)
      go_wp2_with fail
      refine (K.beg true S 0 true _ (by have := F4.out; omega) HB2.out).mono ?_
      rintro e w3 ⟨rfl, c2⟩
      have d2 := d1.trans (c2.mono d1.size)
      go_wp2_with fail
      refine (K.beg false S (S.size : Int) false _ (by have := F4.out; omega) F3.out).mono ?_
      rintro e w4 ⟨rfl, c3⟩
      have d3 := d2.trans (c3.mono d2.size)
      go_wp2_with fail
      refine (awake11_true K _).mono ?_
      rintro e w5 ⟨rfl, c4⟩
      go_wp2
      go_ret
      exact ⟨rfl, d3.trans (c4.mono d3.size)⟩
    · skip
      have e1 : b1 = false := by rw [f1, hod, g5, g4, g3, g2, g1, y0, y3]; rfl
      have e2 : b2 = false := by rw [f2, hod, g5, g4, g3, g2, g1, y0]; rfl
      have HO : Hid (U.indic (c : Int) = true) := Lib.hid (hod)
      have HW : Hid (U.white (c : Int) = false) := Lib.hid (g5)
      subst e1 e2
      clear f1 f2
      go_enter Try.func6, Try.ntmps6
      go_wp2_with fail
      refine (Low_is _ x 6 _ (by omega) (by omega) HY.out).mono ?_
      rintro e w1 ⟨rfl, rfl⟩
      go_wp2_with fail
      refine (refIndicator_is true _ _ HO.out).mono ?_
      rintro e w1 ⟨rfl, rfl⟩
      go_wp2_with fail
      refine (refWhite_is false _ _ HW.out).mono ?_
      rintro e w1 ⟨rfl, rfl⟩
      go_wp2_with fail
      refine (K.beg false S 0 false _ (by have := F4.out; omega) HB1.out).mono ?_
      rintro e w2 ⟨rfl, c1⟩
      have d1 := hb0.trans (c1.mono hb0.size)
      go_wp2_with fail
      refine (K.beg false S 0 true _ (by have := F4.out; omega) HB2.out).mono ?_
      rintro e w3 ⟨rfl, c2⟩
      have d2 := d1.trans (c2.mono d1.size)
      go_wp2_with fail
      refine (K.beg false S (S.size : Int) false _ (by have := F4.out; omega) F3.out).mono ?_
      rintro e w4 ⟨rfl, c3⟩
      have d3 := d2.trans (c3.mono d2.size)
      go_wp2_with fail
      refine (awake11_true K _).mono ?_
      rintro e w5 ⟨rfl, c4⟩
      go_wp2
      go_ret
      exact ⟨rfl, d3.trans (c4.mono d3.size)⟩
    · skip
      have e1 : b1 = true := by rw [f1, hod, g5, g4, g3, g2, g1, y0, y3]; rfl
      have e2 : b2 = false := by rw [f2, hod, g5, g4, g3, g2, g1, y0]; rfl
      have HO : Hid (U.indic (c : Int) = true) := Lib.hid (hod)
      have HW : Hid (U.white (c : Int) = false) := Lib.hid (g5)
      subst e1 e2
      clear f1 f2
      go_enter Try.func6, Try.ntmps6
      go_wp2_with fail
      refine (Low_is _ x 6 _ (by omega) (by omega) HY.out).mono ?_
      rintro e w1 ⟨rfl, rfl⟩
      go_wp2_with fail
      refine (refIndicator_is true _ _ HO.out).mono ?_
      rintro e w1 ⟨rfl, rfl⟩
      go_wp2_with fail
      refine (refWhite_is false _ _ HW.out).mono ?_
      rintro e w1 ⟨rfl, rfl⟩
      go_wp2_with fail
      refine (K.beg true S 0 false _ (by have := F4.out; omega) HB1.out).mono ?_
      rintro e w2 ⟨rfl, c1⟩
      have d1 := hb0.trans (c1.mono hb0.size)
      go_wp2_with fail
      refine (K.beg false S 0 true _ (by have := F4.out; omega) HB2.out).mono ?_
      rintro e w3 ⟨rfl, c2⟩
      have d2 := d1.trans (c2.mono d1.size)
      go_wp2_with fail
      refine (K.beg false S (S.size : Int) false _ (by have := F4.out; omega) F3.out).mono ?_
      rintro e w4 ⟨rfl, c3⟩
      have d3 := d2.trans (c3.mono d2.size)
      go_wp2_with fail
      refine (awake11_true K _).mono ?_
      rintro e w5 ⟨rfl, c4⟩
      go_wp2
      go_ret
      exact ⟨rfl, d3.trans (c4.mono d3.size)⟩
  · rcases hyc with rfl | ⟨y0, y3⟩ | ⟨y0, y3⟩
    · skip
      have e1 : b1 = false := by rw [f1, g5, g4]; rfl
      have e2 : b2 = false := by rw [f2, g5, g4]; rfl
      have HO : Hid (U.indic (c : Int) = false) := Lib.hid (hod)
      have HW : Hid (U.white (c : Int) = false) := Lib.hid (g5)
      subst e1 e2
      clear f1 f2
      go_enter Try.func6, Try.ntmps6
      go_wp2_with fail
      refine (Low_is _ x 6 _ (by omega) (by omega) HY.out).mono ?_
      rintro e w1 ⟨rfl, rfl⟩
      go_wp2_with fail
      refine (refIndicator_is false _ _ HO.out).mono ?_
      rintro e w1 ⟨rfl, rfl⟩
      go_wp2_with fail
      refine (refWhite_is false _ _ HW.out).mono ?_
      rintro e w1 ⟨rfl, rfl⟩
      go_wp2_with fail
      refine (K.beg false S 0 false _ (by have := F4.out; omega) HB1.out).mono ?_
      rintro e w2 ⟨rfl, c1⟩
      have d1 := hb0.trans (c1.mono hb0.size)
      go_wp2_with fail
      refine (K.beg false S 0 true _ (by have := F4.out; omega) HB2.out).mono ?_
      rintro e w3 ⟨rfl, c2⟩
      have d2 := d1.trans (c2.mono d1.size)
      go_wp2_with fail
      refine (K.beg false S (S.size : Int) false _ (by have := F4.out; omega) F3.out).mono ?_
      rintro e w4 ⟨rfl, c3⟩
      have d3 := d2.trans (c3.mono d2.size)
      go_wp2_with fail
      refine (awake11_true K _).mono ?_
      rintro e w5 ⟨rfl, c4⟩
      go_wp2
      go_ret
      exact ⟨rfl, d3.trans (c4.mono d3.size)⟩
    · skip
      have e1 : b1 = false := by rw [f1, g5, g4]; rfl
      have e2 : b2 = false := by rw [f2, g5, g4]; rfl
      have HO : Hid (U.indic (c : Int) = false) := Lib.hid (hod)
      have HW : Hid (U.white (c : Int) = false) := Lib.hid (g5)
      subst e1 e2
      clear f1 f2
      go_enter Try.func6, Try.ntmps6
      go_wp2_with fail
      refine (Low_is _ x 6 _ (by omega) (by omega) HY.out).mono ?_
      rintro e w1 ⟨rfl, rfl⟩
      go_wp2_with fail
      refine (refIndicator_is false _ _ HO.out).mono ?_
      rintro e w1 ⟨rfl, rfl⟩
      go_wp2_with fail
      refine (refWhite_is false _ _ HW.out).mono ?_
      rintro e w1 ⟨rfl, rfl⟩
      go_wp2_with fail
      refine (K.beg false S 0 false _ (by have := F4.out; omega) HB1.out).mono ?_
      rintro e w2 ⟨rfl, c1⟩
      have d1 := hb0.trans (c1.mono hb0.size)
      go_wp2_with fail
      refine (K.beg false S 0 true _ (by have := F4.out; omega) HB2.out).mono ?_
      rintro e w3 ⟨rfl, c2⟩
      have d2 := d1.trans (c2.mono d1.size)
      go_wp2_with fail
      refine (K.beg false S (S.size : Int) false _ (by have := F4.out; omega) F3.out).mono ?_
      rintro e w4 ⟨rfl, c3⟩
      have d3 := d2.trans (c3.mono d2.size)
      go_wp2_with fail
      refine (awake11_true K _).mono ?_
      rintro e w5 ⟨rfl, c4⟩
      go_wp2
      go_ret
      exact ⟨rfl, d3.trans (c4.mono d3.size)⟩
    · skip
      have e1 : b1 = false := by rw [f1, g5, g4]; rfl
      have e2 : b2 = false := by rw [f2, g5, g4]; rfl
      have HO : Hid (U.indic (c : Int) = false) := Lib.hid (hod)
      have HW : Hid (U.white (c : Int) = false) := Lib.hid (g5)
      subst e1 e2
      clear f1 f2
      go_enter Try.func6, Try.ntmps6
      go_wp2_with fail
      refine (Low_is _ x 6 _ (by omega) (by omega) HY.out).mono ?_
      rintro e w1 ⟨rfl, rfl⟩
      go_wp2_with fail
      refine (refIndicator_is false _ _ HO.out).mono ?_
      rintro e w1 ⟨rfl, rfl⟩
      go_wp2_with fail
      refine (refWhite_is false _ _ HW.out).mono ?_
      rintro e w1 ⟨rfl, rfl⟩
      go_wp2_with fail
      refine (K.beg false S 0 false _ (by have := F4.out; omega) HB1.out).mono ?_
      rintro e w2 ⟨rfl, c1⟩
      have d1 := hb0.trans (c1.mono hb0.size)
      go_wp2_with fail
      refine (K.beg false S 0 true _ (by have := F4.out; omega) HB2.out).mono ?_
      rintro e w3 ⟨rfl, c2⟩
      have d2 := d1.trans (c2.mono d1.size)
      go_wp2_with fail
      refine (K.beg false S (S.size : Int) false _ (by have := F4.out; omega) F3.out).mono ?_
      rintro e w4 ⟨rfl, c3⟩
      have d3 := d2.trans (c3.mono d2.size)
      go_wp2_with fail
      refine (awake11_true K _).mono ?_
      rintro e w5 ⟨rfl, c4⟩
      go_wp2
      go_ret
      exact ⟨rfl, d3.trans (c4.mono d3.size)⟩
  · rcases hyc with rfl | ⟨y0, y3⟩ | ⟨y0, y3⟩
    · skip
      have e1 : b1 = false := by rw [f1, g5]; rfl
      have e2 : b2 = false := by rw [f2, g5]; rfl
      have HO : Hid (U.indic (c : Int) = false) := Lib.hid (hod)
      have HW : Hid (U.white (c : Int) = true) := Lib.hid (g5)
      subst e1 e2
      clear f1 f2
      go_enter Try.func6, Try.ntmps6
      go_wp2_with fail
      refine (Low_is _ x 6 _ (by omega) (by omega) HY.out).mono ?_
      rintro e w1 ⟨rfl, rfl⟩
      go_wp2_with fail
      refine (refIndicator_is false _ _ HO.out).mono ?_
      rintro e w1 ⟨rfl, rfl⟩
      go_wp2_with fail
      refine (refWhite_is true _ _ HW.out).mono ?_
      rintro e w1 ⟨rfl, rfl⟩
      go_wp2_with fail
      refine (K.beg false S 0 false _ (by have := F4.out; omega) HB1.out).mono ?_
      rintro e w2 ⟨rfl, c1⟩
      have d1 := hb0.trans (c1.mono hb0.size)
      go_wp2_with fail
      refine (K.beg false S 0 true _ (by have := F4.out; omega) HB2.out).mono ?_
      rintro e w3 ⟨rfl, c2⟩
      have d2 := d1.trans (c2.mono d1.size)
      go_wp2_with fail
      refine (K.beg false S (S.size : Int) false _ (by have := F4.out; omega) F3.out).mono ?_
      rintro e w4 ⟨rfl, c3⟩
      have d3 := d2.trans (c3.mono d2.size)
      go_wp2_with fail
      refine (awake11_true K _).mono ?_
      rintro e w5 ⟨rfl, c4⟩
      go_wp2
      go_ret
      exact ⟨rfl, d3.trans (c4.mono d3.size)⟩
    · skip
      have e1 : b1 = false := by rw [f1, g5]; rfl
      have e2 : b2 = false := by rw [f2, g5]; rfl
      have HO : Hid (U.indic (c : Int) = false) := Lib.hid (hod)
      have HW : Hid (U.white (c : Int) = true) := Lib.hid (g5)
      subst e1 e2
      clear f1 f2
      go_enter Try.func6, Try.ntmps6
      go_wp2_with fail
      refine (Low_is _ x 6 _ (by omega) (by omega) HY.out).mono ?_
      rintro e w1 ⟨rfl, rfl⟩
      go_wp2_with fail
      refine (refIndicator_is false _ _ HO.out).mono ?_
      rintro e w1 ⟨rfl, rfl⟩
      go_wp2_with fail
      refine (refWhite_is true _ _ HW.out).mono ?_
      rintro e w1 ⟨rfl, rfl⟩
      go_wp2_with fail
      refine (K.beg false S 0 false _ (by have := F4.out; omega) HB1.out).mono ?_
      rintro e w2 ⟨rfl, c1⟩
      have d1 := hb0.trans (c1.mono hb0.size)
      go_wp2_with fail
      refine (K.beg false S 0 true _ (by have := F4.out; omega) HB2.out).mono ?_
      rintro e w3 ⟨rfl, c2⟩
      have d2 := d1.trans (c2.mono d1.size)
      go_wp2_with fail
      refine (K.beg false S (S.size : Int) false _ (by have := F4.out; omega) F3.out).mono ?_
      rintro e w4 ⟨rfl, c3⟩
      have d3 := d2.trans (c3.mono d2.size)
      go_wp2_with fail
      refine (awake11_true K _).mono ?_
      rintro e w5 ⟨rfl, c4⟩
      go_wp2
      go_ret
      exact ⟨rfl, d3.trans (c4.mono d3.size)⟩
    · skip
      have e1 : b1 = false := by rw [f1, g5]; rfl
      have e2 : b2 = false := by rw [f2, g5]; rfl
      have HO : Hid (U.indic (c : Int) = false) := Lib.hid (hod)
      have HW : Hid (U.white (c : Int) = true) := Lib.hid (g5)
      subst e1 e2
      clear f1 f2
      go_enter Try.func6, Try.ntmps6
      go_wp2_with fail
      refine (Low_is _ x 6 _ (by omega) (by omega) HY.out).mono ?_
      rintro e w1 ⟨rfl, rfl⟩
      go_wp2_with fail
      refine (refIndicator_is false _ _ HO.out).mono ?_
      rintro e w1 ⟨rfl, rfl⟩
      go_wp2_with fail
      refine (refWhite_is true _ _ HW.out).mono ?_
      rintro e w1 ⟨rfl, rfl⟩
      go_wp2_with fail
      refine (K.beg false S 0 false _ (by have := F4.out; omega) HB1.out).mono ?_
      rintro e w2 ⟨rfl, c1⟩
      have d1 := hb0.trans (c1.mono hb0.size)
      go_wp2_with fail
      refine (K.beg false S 0 true _ (by have := F4.out; omega) HB2.out).mono ?_
      rintro e w3 ⟨rfl, c2⟩
      have d2 := d1.trans (c2.mono d1.size)
      go_wp2_with fail
      refine (K.beg false S (S.size : Int) false _ (by have := F4.out; omega) F3.out).mono ?_
      rintro e w4 ⟨rfl, c3⟩
      have d3 := d2.trans (c3.mono d2.size)
      go_wp2_with fail
      refine (awake11_true K _).mono ?_
      rintro e w5 ⟨rfl, c4⟩
      go_wp2
      go_ret
      exact ⟨rfl, d3.trans (c4.mono d3.size)⟩
  · cases hod : U.indic (c : Int) with
    | false =>
      rcases hyc with rfl | ⟨y0, y3⟩ | ⟨y0, y3⟩
      · skip
        have e1 : b1 = true := by rw [f1, g5, g4, hod]; rfl
        have e2 : b2 = true := by rw [f2, g5, g4, hod]; rfl
        have HO : Hid (U.indic (c : Int) = false) := Lib.hid (hod)
        have HW : Hid (U.white (c : Int) = false) := Lib.hid (g5)
        subst e1 e2
        clear f1 f2
        go_enter Try.func6, Try.ntmps6
        go_wp2_with fail
        refine (Low_is _ x 6 _ (by omega) (by omega) HY.out).mono ?_
        rintro e w1 ⟨rfl, rfl⟩
        go_wp2_with fail
        refine (refIndicator_is false _ _ HO.out).mono ?_
        rintro e w1 ⟨rfl, rfl⟩
        go_wp2_with fail
        refine (refWhite_is false _ _ HW.out).mono ?_
        rintro e w1 ⟨rfl, rfl⟩
        go_wp2_with fail
        refine (K.beg true S 0 false _ (by have := F4.out; omega) HB1.out).mono ?_
        rintro e w2 ⟨rfl, c1⟩
        have d1 := hb0.trans (c1.mono hb0.size)
        go_wp2_with fail
        refine (K.beg true S 0 true _ (by have := F4.out; omega) HB2.out).mono ?_
        rintro e w3 ⟨rfl, c2⟩
        have d2 := d1.trans (c2.mono d1.size)
        go_wp2_with fail
        refine (K.beg false S (S.size : Int) false _ (by have := F4.out; omega) F3.out).mono ?_
        rintro e w4 ⟨rfl, c3⟩
        have d3 := d2.trans (c3.mono d2.size)
        go_wp2_with fail
        refine (awake11_true K _).mono ?_
        rintro e w5 ⟨rfl, c4⟩
        go_wp2
        go_ret
        exact ⟨rfl, d3.trans (c4.mono d3.size)⟩
      · skip
        have e1 : b1 = true := by rw [f1, g5, g4, hod]; rfl
        have e2 : b2 = true := by rw [f2, g5, g4, hod]; rfl
        have HO : Hid (U.indic (c : Int) = false) := Lib.hid (hod)
        have HW : Hid (U.white (c : Int) = false) := Lib.hid (g5)
        subst e1 e2
        clear f1 f2
        go_enter Try.func6, Try.ntmps6
        go_wp2_with fail
        refine (Low_is _ x 6 _ (by omega) (by omega) HY.out).mono ?_
        rintro e w1 ⟨rfl, rfl⟩
        go_wp2_with fail
        refine (refIndicator_is false _ _ HO.out).mono ?_
        rintro e w1 ⟨rfl, rfl⟩
        go_wp2_with fail
        refine (refWhite_is false _ _ HW.out).mono ?_
        rintro e w1 ⟨rfl, rfl⟩
        go_wp2_with fail
        refine (K.beg true S 0 false _ (by have := F4.out; omega) HB1.out).mono ?_
        rintro e w2 ⟨rfl, c1⟩
        have d1 := hb0.trans (c1.mono hb0.size)
        go_wp2_with fail
        refine (K.beg true S 0 true _ (by have := F4.out; omega) HB2.out).mono ?_
        rintro e w3 ⟨rfl, c2⟩
        have d2 := d1.trans (c2.mono d1.size)
        go_wp2_with fail
        refine (K.beg false S (S.size : Int) false _ (by have := F4.out; omega) F3.out).mono ?_
        rintro e w4 ⟨rfl, c3⟩
        have d3 := d2.trans (c3.mono d2.size)
        go_wp2_with fail
        refine (awake11_true K _).mono ?_
        rintro e w5 ⟨rfl, c4⟩
        go_wp2
        go_ret
        exact ⟨rfl, d3.trans (c4.mono d3.size)⟩
      · skip
        have e1 : b1 = true := by rw [f1, g5, g4, hod]; rfl
        have e2 : b2 = true := by rw [f2, g5, g4, hod]; rfl
        have HO : Hid (U.indic (c : Int) = false) := Lib.hid (hod)
        have HW : Hid (U.white (c : Int) = false) := Lib.hid (g5)
        subst e1 e2
        clear f1 f2
        go_enter Try.func6, Try.ntmps6
        go_wp2_with fail
        refine (Low_is _ x 6 _ (by omega) (by omega) HY.out).mono ?_
        rintro e w1 ⟨rfl, rfl⟩
        go_wp2_with fail
        refine (refIndicator_is false _ _ HO.out).mono ?_
        rintro e w1 ⟨rfl, rfl⟩
        go_wp2_with fail
        refine (refWhite_is false _ _ HW.out).mono ?_
        rintro e w1 ⟨rfl, rfl⟩
        go_wp2_with fail
        refine (K.beg true S 0 false _ (by have := F4.out; omega) HB1.out).mono ?_
        rintro e w2 ⟨rfl, c1⟩
        have d1 := hb0.trans (c1.mono hb0.size)
        go_wp2_with fail
        refine (K.beg true S 0 true _ (by have := F4.out; omega) HB2.out).mono ?_
        rintro e w3 ⟨rfl, c2⟩
        have d2 := d1.trans (c2.mono d1.size)
        go_wp2_with fail
        refine (K.beg false S (S.size : Int) false _ (by have := F4.out; omega) F3.out).mono ?_
        rintro e w4 ⟨rfl, c3⟩
        have d3 := d2.trans (c3.mono d2.size)
        go_wp2_with fail
        refine (awake11_true K _).mono ?_
        rintro e w5 ⟨rfl, c4⟩
        go_wp2
        go_ret
        exact ⟨rfl, d3.trans (c4.mono d3.size)⟩
    | true =>
      rcases hyc with rfl | ⟨y0, y3⟩ | ⟨y0, y3⟩
      · skip
        have e1 : b1 = false := by rw [f1, g5, g4, hod, g1, g2, g3]; rfl
        have e2 : b2 = false := by rw [f2, g5, g4, hod, g1, g2, g3]; rfl
        have HO : Hid (U.indic (c : Int) = true) := Lib.hid (hod)
        have HW : Hid (U.white (c : Int) = false) := Lib.hid (g5)
        subst e1 e2
        clear f1 f2
        go_enter Try.func6, Try.ntmps6
        go_wp2_with fail
        refine (Low_is _ x 6 _ (by omega) (by omega) HY.out).mono ?_
        rintro e w1 ⟨rfl, rfl⟩
        go_wp2_with fail
        refine (refIndicator_is true _ _ HO.out).mono ?_
        rintro e w1 ⟨rfl, rfl⟩
        go_wp2_with fail
        refine (refWhite_is false _ _ HW.out).mono ?_
        rintro e w1 ⟨rfl, rfl⟩
        go_wp2_with fail
        refine (K.beg false S 0 false _ (by have := F4.out; omega) HB1.out).mono ?_
        rintro e w2 ⟨rfl, c1⟩
        have d1 := hb0.trans (c1.mono hb0.size)
        go_wp2_with fail
        refine (K.beg false S 0 true _ (by have := F4.out; omega) HB2.out).mono ?_
        rintro e w3 ⟨rfl, c2⟩
        have d2 := d1.trans (c2.mono d1.size)
        go_wp2_with fail
        refine (K.beg false S (S.size : Int) false _ (by have := F4.out; omega) F3.out).mono ?_
        rintro e w4 ⟨rfl, c3⟩
        have d3 := d2.trans (c3.mono d2.size)
        go_wp2_with fail
        refine (awake11_true K _).mono ?_
        rintro e w5 ⟨rfl, c4⟩
        go_wp2
        go_ret
        exact ⟨rfl, d3.trans (c4.mono d3.size)⟩
      · skip
        have e1 : b1 = false := by rw [f1, g5, g4, hod, g1, g2, g3]; rfl
        have e2 : b2 = false := by rw [f2, g5, g4, hod, g1, g2, g3]; rfl
        have HO : Hid (U.indic (c : Int) = true) := Lib.hid (hod)
        have HW : Hid (U.white (c : Int) = false) := Lib.hid (g5)
        subst e1 e2
        clear f1 f2
        go_enter Try.func6, Try.ntmps6
        go_wp2_with fail
        refine (Low_is _ x 6 _ (by omega) (by omega) HY.out).mono ?_
        rintro e w1 ⟨rfl, rfl⟩
        go_wp2_with fail
        refine (refIndicator_is true _ _ HO.out).mono ?_
        rintro e w1 ⟨rfl, rfl⟩
        go_wp2_with fail
        refine (refWhite_is false _ _ HW.out).mono ?_
        rintro e w1 ⟨rfl, rfl⟩
        go_wp2_with fail
        refine (K.beg false S 0 false _ (by have := F4.out; omega) HB1.out).mono ?_
        rintro e w2 ⟨rfl, c1⟩
        have d1 := hb0.trans (c1.mono hb0.size)
        go_wp2_with fail
        refine (K.beg false S 0 true _ (by have := F4.out; omega) HB2.out).mono ?_
        rintro e w3 ⟨rfl, c2⟩
        have d2 := d1.trans (c2.mono d1.size)
        go_wp2_with fail
        refine (K.beg false S (S.size : Int) false _ (by have := F4.out; omega) F3.out).mono ?_
        rintro e w4 ⟨rfl, c3⟩
        have d3 := d2.trans (c3.mono d2.size)
        go_wp2_with fail
        refine (awake11_true K _).mono ?_
        rintro e w5 ⟨rfl, c4⟩
        go_wp2
        go_ret
        exact ⟨rfl, d3.trans (c4.mono d3.size)⟩
      · skip
        have e1 : b1 = false := by rw [f1, g5, g4, hod, g1, g2, g3]; rfl
        have e2 : b2 = false := by rw [f2, g5, g4, hod, g1, g2, g3]; rfl
        have HO : Hid (U.indic (c : Int) = true) := Lib.hid (hod)
        have HW : Hid (U.white (c : Int) = false) := Lib.hid (g5)
        subst e1 e2
        clear f1 f2
        go_enter Try.func6, Try.ntmps6
        go_wp2_with fail
        refine (Low_is _ x 6 _ (by omega) (by omega) HY.out).mono ?_
        rintro e w1 ⟨rfl, rfl⟩
        go_wp2_with fail
        refine (refIndicator_is true _ _ HO.out).mono ?_
        rintro e w1 ⟨rfl, rfl⟩
        go_wp2_with fail
        refine (refWhite_is false _ _ HW.out).mono ?_
        rintro e w1 ⟨rfl, rfl⟩
        go_wp2_with fail
        refine (K.beg false S 0 false _ (by have := F4.out; omega) HB1.out).mono ?_
        rintro e w2 ⟨rfl, c1⟩
        have d1 := hb0.trans (c1.mono hb0.size)
        go_wp2_with fail
        refine (K.beg false S 0 true _ (by have := F4.out; omega) HB2.out).mono ?_
        rintro e w3 ⟨rfl, c2⟩
        have d2 := d1.trans (c2.mono d1.size)
        go_wp2_with fail
        refine (K.beg false S (S.size : Int) false _ (by have := F4.out; omega) F3.out).mono ?_
        rintro e w4 ⟨rfl, c3⟩
        have d3 := d2.trans (c3.mono d2.size)
        go_wp2_with fail
        refine (awake11_true K _).mono ?_
        rintro e w5 ⟨rfl, c4⟩
        go_wp2
        go_ret
        exact ⟨rfl, d3.trans (c4.mono d3.size)⟩
theorem PlaiSigns_at (K : PlaiC) (c0 x : Int) (w : World) (h0 : 0 ≤ c0) (h1 : c0 ≤ 255) :
    Calls Try.prog 6 #[.int .u8 c0, .int .i64 x] w fun e w' => e = .returned (.bool true) ∧ Below w.heap.size w w' := by
  obtain ⟨c, rfl⟩ : ∃ c : Nat, c0 = (c : Int) := ⟨c0.toNat, by omega⟩
  exact PlaiSigns_walk K c x w (by omega)

end Go.Proofs.Ytcmdhodncmgmcaa
