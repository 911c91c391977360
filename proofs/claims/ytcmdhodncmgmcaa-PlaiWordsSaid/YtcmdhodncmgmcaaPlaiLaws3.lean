/- The statement PlaiEnds on package plai: the walk, over what plai's three functions return (PlaiC): for every input the law returns true. Conditions: those that each theorem writes out. -/
import Derived.Test.YtcmdhodncmgmcaaPlaiLaws
namespace Go.Proofs.Ytcmdhodncmgmcaa
open Go.RowKit

theorem byt_app {V M : ByteArray} {j : Nat} (h : j < V.size) : byt (V ++ M) j = byt V j := by
  rw [byt_list, byt_list, ByteArray.data_append, Array.toList_append, List.getD, List.getD, List.getElem?_append_left (by rw [← Lib.size_eq]; exact h)]
theorem ends_app {V M : ByteArray} {j : Nat} (h : j < V.size) : endsB (V ++ M) (j : Int) = endsB V (j : Int) := by
  rw [endsB_in _ _ h, endsB_in _ _ (by rw [ByteArray.size_append]; omega), byt_app h]
theorem stop_app {V M : ByteArray} {fl : Bool} {q : Nat} (h : q < V.size) (h2 : q + 1 < V.size ∨ byt V q ≠ 58) : stopB (V ++ M) fl q = stopB V fl q := by
  unfold stopB
  rw [byt_app h]
  have h3 : (decide (0 < q) && U.white (byt (V ++ M) (q - 1) : Int)) = (decide (0 < q) && U.white (byt V (q - 1) : Int)) := by rw [byt_app (by omega)]
  rw [h3]
  rcases h2 with h2 | h2
  · rw [show ((q : Int) + 1) = ((q + 1 : Nat) : Int) by omega, ends_app h2, byt_app h2]
  · rw [decide_eq_false h2, Bool.false_and, Bool.false_and]
/-- A part of a text's front, behind which anything may stand. -/
def okP (V : ByteArray) (fl : Bool) (q e : Nat) : Prop := StpN V fl 0 q ∧ BakN V 0 q e ∧ q < V.size ∧ (q + 1 < V.size ∨ byt V q ≠ 58)
instance (V : ByteArray) (fl : Bool) (q e : Nat) : Decidable (okP V fl q e) := by unfold okP; infer_instance
theorem okP.par {V M : ByteArray} {fl : Bool} {q e : Nat} (h : okP V fl q e) : ParN (V ++ M) fl 0 e := by
  obtain ⟨h1, h2, h3, h4⟩ := h
  refine ⟨q, ⟨h1.1, by rw [ByteArray.size_append]; omega, fun j hj ha => ?_, .inr ?_⟩, ⟨h2.1, h2.2.1, fun j hj he => ?_, ?_⟩⟩
  · rw [stop_app (by omega) (.inl (by omega))]
    exact h1.2.2.1 j hj ha
  · rw [stop_app h3 h4]
    exact h1.2.2.2.resolve_left (by omega)
  · rw [byt_app (by omega)]
    exact h2.2.2.1 j hj he
  · rcases h2.2.2.2 with h | h
    · exact .inl h
    · by_cases h0 : e = 0
      · exact .inl h0
      · refine .inr ?_
        rw [byt_app (by have := h2.2.1; omega)]
        exact h
def signE : List (List UInt8) := [[58, 32], [58, 9], [10], [44], [93], [125], [91], [123], [58, 44], [58, 93]]
def mkB (l : List UInt8) : ByteArray := ⟨l.toArray⟩
set_option maxRecDepth 100000 in
theorem ends_fact (l : List UInt8) (y : Nat) (hl : l ∈ wordL) (hy : y < 10) :
    okP (mkB l ++ mkB (signE.getD y [])) true l.length l.length ∧ okP (mkB l ++ ⟨#[32, 9]⟩ ++ mkB (signE.getD y [])) true (l.length + 2) l.length ∧
    (y < 3 → okP (mkB l ++ mkB (signE.getD y [])) false l.length l.length ∧ okP (mkB l ++ ⟨#[32, 9]⟩ ++ mkB (signE.getD y [])) false (l.length + 2) l.length) ∧
    okP (mkB l ++ ⟨#[35, 120]⟩ ++ mkB (signE.getD y [])) true (l.length + 2) (l.length + 2) ∧ okP (mkB l ++ ⟨#[32, 35, 120]⟩ ++ mkB (signE.getD y [])) true (l.length + 1) l.length := by
  have H : ∀ m ∈ wordL, ∀ j : Fin 10, okP (mkB m ++ mkB (signE.getD j.val [])) true m.length m.length ∧ okP (mkB m ++ ⟨#[32, 9]⟩ ++ mkB (signE.getD j.val [])) true (m.length + 2) m.length ∧
    (j.val < 3 → okP (mkB m ++ mkB (signE.getD j.val [])) false m.length m.length ∧ okP (mkB m ++ ⟨#[32, 9]⟩ ++ mkB (signE.getD j.val [])) false (m.length + 2) m.length) ∧
    okP (mkB m ++ ⟨#[35, 120]⟩ ++ mkB (signE.getD j.val [])) true (m.length + 2) (m.length + 2) ∧ okP (mkB m ++ ⟨#[32, 35, 120]⟩ ++ mkB (signE.getD j.val [])) true (m.length + 1) m.length := by decide +kernel
  exact H l hl ⟨y, hy⟩
set_option maxRecDepth 100000 in
theorem word_fact (l : List UInt8) (hl : l ∈ wordL) : 0 < l.length ∧ l.length ≤ 3 ∧ StpN (mkB l) false 0 l.length ∧ BakN (mkB l) 0 l.length l.length := by
  have H : ∀ m ∈ wordL, 0 < m.length ∧ m.length ≤ 3 ∧ StpN (mkB m) false 0 m.length ∧ BakN (mkB m) 0 m.length m.length := by decide +kernel
  exact H l hl
theorem signE_len (k : Nat) : (signE.getD k []).length ≤ 2 := by
  by_cases h : k < signE.length
  · have H : ∀ l ∈ signE, l.length ≤ 2 := by decide
    apply H
    simp [List.getD, h]
  · rw [List.getD, List.getElem?_eq_none (by omega)]
    exact Nat.zero_le _

set_option maxRecDepth 100000 in
set_option maxHeartbeats 6400000 in
theorem PlaiEnds_walk (K : PlaiC) (n x : Int) (white : Bool) (be : ByteArray) (w : World) :
    Calls Try.prog 5 #[.int .i64 n, .int .i64 x, .bool white, .string be] w fun e w' => e = .returned (.bool true) ∧ Below w.heap.size w w' := by
  by_cases hl : 20 < be.size
  · go_enter Try.func5, Try.ntmps5
    go_wp2_with fail
    refine (awake11_true K _).mono ?_
    rintro e w1 ⟨rfl, b1⟩
    go_wp2
    go_ret
    exact ⟨rfl, b1⟩
  have hyr := lowZ_range x 10 (by omega)
  obtain ⟨y, hy⟩ : ∃ y : Nat, lowZ x 10 = (y : Int) := ⟨(lowZ x 10).toNat, by omega⟩
  rw [hy] at hyr
  have hy10 : y < 10 := by omega
  have HY := Lib.hid hy
  obtain ⟨l, hw⟩ : ∃ l, word n = l := ⟨_, rfl⟩
  have hm : l ∈ wordL := by rw [← hw]; exact word_mem n
  have HWD := Lib.hid hw
  obtain ⟨f1, f2, f3, f4, f5⟩ := ends_fact l y hm hy10
  obtain ⟨l0, l3, g1, g2⟩ := word_fact l hm
  have hXl := signE_len y
  obtain ⟨A, hA⟩ : ∃ A : ByteArray, (⟨l.toArray⟩ : ByteArray) = A := ⟨_, rfl⟩
  obtain ⟨X, hX⟩ : ∃ X : ByteArray, (⟨(signE.getD y []).toArray⟩ : ByteArray) = X := ⟨_, rfl⟩
  have hAs : A.size = l.length := by rw [← hA, size_mk]
  have hXs : X.size ≤ 2 := by rw [← hX, size_mk]; exact hXl
  have CW : ∀ w, Calls Try.prog 10 #[.int .i64 n] w fun e w' => e = .returned (.string A) ∧ Below w.heap.size w w' := fun w => by rw [← hA]; exact (WordOf_is l n w HWD.out)
  have htab : ∀ w : World, (w.alloc (.cells #[.string ⟨#[58, 32]⟩, .string ⟨#[58, 9]⟩, .string ⟨#[10]⟩, .string ⟨#[44]⟩, .string ⟨#[93]⟩, .string ⟨#[125]⟩, .string ⟨#[91]⟩, .string ⟨#[123]⟩, .string ⟨#[58, 44]⟩, .string ⟨#[58, 93]⟩] 9)).cell? ⟨w.heap.size, y, none⟩ = some (.string X) := fun w => by rw [← hX]; exact tab_at w signE 9 y hy10
  unfold mkB at f1 f2 f3 f4 f5 g1 g2
  rw [hA, hX, ← hAs] at f1 f2 f3 f4 f5
  rw [hA, ← hAs] at g1 g2
  rw [← hAs] at l0 l3
  have hc2 : (((A.size + 2 : Nat) : Int) == (A.size : Int) + 2) = true := by simp
  obtain ⟨e2, he2⟩ : ∃ e2, A.size + 2 = e2 := ⟨_, rfl⟩
  rw [he2] at hc2
  have P4 : ParN (A ++ ⟨#[35, 120]⟩ ++ X ++ be) true 0 e2 := by rw [← he2]; exact f4.par
  have P5 : ParN (A ++ ⟨#[32, 35, 120]⟩ ++ X ++ be) true 0 A.size := f5.par
  have P6 : ParN A false 0 A.size := ⟨_, g1, g2⟩
  obtain ⟨T4, hT4⟩ : ∃ T : ByteArray, A ++ ⟨#[35, 120]⟩ ++ X ++ be = T := ⟨_, rfl⟩
  obtain ⟨T5, hT5⟩ : ∃ T : ByteArray, A ++ ⟨#[32, 35, 120]⟩ ++ X ++ be = T := ⟨_, rfl⟩
  have z0 : A.size ≤ 100000 := by omega
  have z4 : T4.size ≤ 100000 ∧ 0 < T4.size := by
    rw [← hT4, ByteArray.size_append, ByteArray.size_append, ByteArray.size_append, show (⟨#[35, 120]⟩ : ByteArray).size = 2 from rfl]
    omega
  have z5 : T5.size ≤ 100000 ∧ 0 < T5.size := by
    rw [← hT5, ByteArray.size_append, ByteArray.size_append, ByteArray.size_append, show (⟨#[32, 35, 120]⟩ : ByteArray).size = 3 from rfl]
    omega
  rw [hT4] at P4
  rw [hT5] at P5
  have HP4 := Lib.hid P4
  have HP5 := Lib.hid P5
  have HP6 := Lib.hid P6
  have HZ4 := Lib.hid z4
  have HZ5 := Lib.hid z5
  have hne : ((A.size : Int) != (A.size : Int)) = false := by simp
  cases white with
  | false =>
    have PT : ParN (A ++ X ++ be) true 0 A.size := f1.par
    have PF : y < 3 → ParN (A ++ X ++ be) false 0 A.size := fun h => (f3 h).1.par
    obtain ⟨S, hS⟩ : ∃ T : ByteArray, A ++ X ++ be = T := ⟨_, rfl⟩
    have zS : S.size ≤ 100000 ∧ 0 < S.size := by
      rw [← hS, ByteArray.size_append, ByteArray.size_append]
      omega
    rw [hS] at PT PF
    have HPT := Lib.hid PT
    have HZS := Lib.hid zS
    clear f1 f2 f3 f4 f5 g1 g2 P4 P5 P6 z4 z5 hy hw hm hA hX hAs hXl he2 PT zS
    by_cases h3 : y < 3
    · skip
      have hd3 : decide ((y : Int) < 3) = true := decide_eq_true (by omega)
      have HPF := Lib.hid (PF h3)
      clear PF
      go_enter Try.func5, Try.ntmps5
      go_wp2_with fail
      refine (Low_is (y : Int) x 10 _ (by omega) (by omega) HY.out).mono ?_
      rintro e w1 ⟨rfl, rfl⟩
      go_wp2_with fail
      refine (CW _).mono ?_
      rintro e w1 ⟨rfl, b1⟩
      have htb := htab w1
      have b2 := b1.alloc b1.size (.cells #[.string ⟨#[58, 32]⟩, .string ⟨#[58, 9]⟩, .string ⟨#[10]⟩, .string ⟨#[44]⟩, .string ⟨#[93]⟩, .string ⟨#[125]⟩, .string ⟨#[91]⟩, .string ⟨#[123]⟩, .string ⟨#[58, 44]⟩, .string ⟨#[58, 93]⟩] 9)
      go_wp2_with fail
      refine (K.part A.size S 0 true _ HZS.out.1 HZS.out.2 HPT.out).mono ?_
      rintro e w2 ⟨rfl, c3⟩
      have b3 := b2.trans (c3.mono b2.size)
      go_wp2_with fail
      refine (K.part A.size S 0 false _ HZS.out.1 HZS.out.2 HPF.out).mono ?_
      rintro e w3 ⟨rfl, c4⟩
      have b4 := b3.trans (c4.mono b3.size)
      go_wp2_with fail
      refine (K.part e2 T4 0 true _ HZ4.out.1 HZ4.out.2 HP4.out).mono ?_
      rintro e w4 ⟨rfl, c5⟩
      have b5 := b4.trans (c5.mono b4.size)
      go_wp2_with fail
      refine (K.part A.size T5 0 true _ HZ5.out.1 HZ5.out.2 HP5.out).mono ?_
      rintro e w5 ⟨rfl, c6⟩
      have b6 := b5.trans (c6.mono b5.size)
      go_wp2_with fail
      refine (K.part A.size A 0 false _ z0 l0 HP6.out).mono ?_
      rintro e w6 ⟨rfl, c7⟩
      have b7 := b6.trans (c7.mono b6.size)
      go_wp2_with fail
      refine (awake11_true K _).mono ?_
      rintro e w7 ⟨rfl, c8⟩
      go_wp2
      go_ret
      exact ⟨rfl, b7.trans (c8.mono b7.size)⟩
    · skip
      have hd3 : decide ((y : Int) < 3) = false := decide_eq_false (by omega)
      clear PF
      go_enter Try.func5, Try.ntmps5
      go_wp2_with fail
      refine (Low_is (y : Int) x 10 _ (by omega) (by omega) HY.out).mono ?_
      rintro e w1 ⟨rfl, rfl⟩
      go_wp2_with fail
      refine (CW _).mono ?_
      rintro e w1 ⟨rfl, b1⟩
      have htb := htab w1
      have b2 := b1.alloc b1.size (.cells #[.string ⟨#[58, 32]⟩, .string ⟨#[58, 9]⟩, .string ⟨#[10]⟩, .string ⟨#[44]⟩, .string ⟨#[93]⟩, .string ⟨#[125]⟩, .string ⟨#[91]⟩, .string ⟨#[123]⟩, .string ⟨#[58, 44]⟩, .string ⟨#[58, 93]⟩] 9)
      go_wp2_with fail
      refine (K.part A.size S 0 true _ HZS.out.1 HZS.out.2 HPT.out).mono ?_
      rintro e w2 ⟨rfl, c3⟩
      have b3 := b2.trans (c3.mono b2.size)
      have b4 := b3
      go_wp2_with fail
      refine (K.part e2 T4 0 true _ HZ4.out.1 HZ4.out.2 HP4.out).mono ?_
      rintro e w4 ⟨rfl, c5⟩
      have b5 := b4.trans (c5.mono b4.size)
      go_wp2_with fail
      refine (K.part A.size T5 0 true _ HZ5.out.1 HZ5.out.2 HP5.out).mono ?_
      rintro e w5 ⟨rfl, c6⟩
      have b6 := b5.trans (c6.mono b5.size)
      go_wp2_with fail
      refine (K.part A.size A 0 false _ z0 l0 HP6.out).mono ?_
      rintro e w6 ⟨rfl, c7⟩
      have b7 := b6.trans (c7.mono b6.size)
      go_wp2_with fail
      refine (awake11_true K _).mono ?_
      rintro e w7 ⟨rfl, c8⟩
      go_wp2
      go_ret
      exact ⟨rfl, b7.trans (c8.mono b7.size)⟩
  | true =>
    have PT : ParN (A ++ ⟨#[32, 9]⟩ ++ X ++ be) true 0 A.size := f2.par
    have PF : y < 3 → ParN (A ++ ⟨#[32, 9]⟩ ++ X ++ be) false 0 A.size := fun h => (f3 h).2.par
    obtain ⟨S, hS⟩ : ∃ T : ByteArray, A ++ ⟨#[32, 9]⟩ ++ X ++ be = T := ⟨_, rfl⟩
    have zS : S.size ≤ 100000 ∧ 0 < S.size := by
      rw [← hS, ByteArray.size_append, ByteArray.size_append, ByteArray.size_append, show (⟨#[32, 9]⟩ : ByteArray).size = 2 from rfl]
      omega
    rw [hS] at PT PF
    have HPT := Lib.hid PT
    have HZS := Lib.hid zS
    clear f1 f2 f3 f4 f5 g1 g2 P4 P5 P6 z4 z5 hy hw hm hA hX hAs hXl he2 PT zS
    by_cases h3 : y < 3
    · skip
      have hd3 : decide ((y : Int) < 3) = true := decide_eq_true (by omega)
      have HPF := Lib.hid (PF h3)
      clear PF
      go_enter Try.func5, Try.ntmps5
      go_wp2_with fail
      refine (Low_is (y : Int) x 10 _ (by omega) (by omega) HY.out).mono ?_
      rintro e w1 ⟨rfl, rfl⟩
      go_wp2_with fail
      refine (CW _).mono ?_
      rintro e w1 ⟨rfl, b1⟩
      have htb := htab w1
      have b2 := b1.alloc b1.size (.cells #[.string ⟨#[58, 32]⟩, .string ⟨#[58, 9]⟩, .string ⟨#[10]⟩, .string ⟨#[44]⟩, .string ⟨#[93]⟩, .string ⟨#[125]⟩, .string ⟨#[91]⟩, .string ⟨#[123]⟩, .string ⟨#[58, 44]⟩, .string ⟨#[58, 93]⟩] 9)
      go_wp2_with fail
      refine (K.part A.size S 0 true _ HZS.out.1 HZS.out.2 HPT.out).mono ?_
      rintro e w2 ⟨rfl, c3⟩
      have b3 := b2.trans (c3.mono b2.size)
      go_wp2_with fail
      refine (K.part A.size S 0 false _ HZS.out.1 HZS.out.2 HPF.out).mono ?_
      rintro e w3 ⟨rfl, c4⟩
      have b4 := b3.trans (c4.mono b3.size)
      go_wp2_with fail
      refine (K.part e2 T4 0 true _ HZ4.out.1 HZ4.out.2 HP4.out).mono ?_
      rintro e w4 ⟨rfl, c5⟩
      have b5 := b4.trans (c5.mono b4.size)
      go_wp2_with fail
      refine (K.part A.size T5 0 true _ HZ5.out.1 HZ5.out.2 HP5.out).mono ?_
      rintro e w5 ⟨rfl, c6⟩
      have b6 := b5.trans (c6.mono b5.size)
      go_wp2_with fail
      refine (K.part A.size A 0 false _ z0 l0 HP6.out).mono ?_
      rintro e w6 ⟨rfl, c7⟩
      have b7 := b6.trans (c7.mono b6.size)
      go_wp2_with fail
      refine (awake11_true K _).mono ?_
      rintro e w7 ⟨rfl, c8⟩
      go_wp2
      go_ret
      exact ⟨rfl, b7.trans (c8.mono b7.size)⟩
    · skip
      have hd3 : decide ((y : Int) < 3) = false := decide_eq_false (by omega)
      clear PF
      go_enter Try.func5, Try.ntmps5
      go_wp2_with fail
      refine (Low_is (y : Int) x 10 _ (by omega) (by omega) HY.out).mono ?_
      rintro e w1 ⟨rfl, rfl⟩
      go_wp2_with fail
      refine (CW _).mono ?_
      rintro e w1 ⟨rfl, b1⟩
      have htb := htab w1
      have b2 := b1.alloc b1.size (.cells #[.string ⟨#[58, 32]⟩, .string ⟨#[58, 9]⟩, .string ⟨#[10]⟩, .string ⟨#[44]⟩, .string ⟨#[93]⟩, .string ⟨#[125]⟩, .string ⟨#[91]⟩, .string ⟨#[123]⟩, .string ⟨#[58, 44]⟩, .string ⟨#[58, 93]⟩] 9)
      go_wp2_with fail
      refine (K.part A.size S 0 true _ HZS.out.1 HZS.out.2 HPT.out).mono ?_
      rintro e w2 ⟨rfl, c3⟩
      have b3 := b2.trans (c3.mono b2.size)
      have b4 := b3
      go_wp2_with fail
      refine (K.part e2 T4 0 true _ HZ4.out.1 HZ4.out.2 HP4.out).mono ?_
      rintro e w4 ⟨rfl, c5⟩
      have b5 := b4.trans (c5.mono b4.size)
      go_wp2_with fail
      refine (K.part A.size T5 0 true _ HZ5.out.1 HZ5.out.2 HP5.out).mono ?_
      rintro e w5 ⟨rfl, c6⟩
      have b6 := b5.trans (c6.mono b5.size)
      go_wp2_with fail
      refine (K.part A.size A 0 false _ z0 l0 HP6.out).mono ?_
      rintro e w6 ⟨rfl, c7⟩
      have b7 := b6.trans (c7.mono b6.size)
      go_wp2_with fail
      refine (awake11_true K _).mono ?_
      rintro e w7 ⟨rfl, c8⟩
      go_wp2
      go_ret
      exact ⟨rfl, b7.trans (c8.mono b7.size)⟩

end Go.Proofs.Ytcmdhodncmgmcaa
