/- The statements on package bloc: what is the same as the document's, and what every program answers that is one, over what bloc.Read returns (BlocC). Conditions: those that each theorem writes out. -/
import Derived.Test.YtkpccoijegklbaaDoorBlocRef3
import Derived.Test.YtkpccoijegklbaaDoorBlocN
import Derived.Test.YtkpccoijegklbaaDoorBlocY
namespace Go.Proofs.YtkpccoijegklbaaDoor
open Go.RowKit

/-- The node that Read answers. -/
def nodeK (C st at' : Int) (T : List UInt8) (h : Bool) (note : List UInt8) : Array Value := if C = 0 then nodeL 1 st at' ⟨T.toArray⟩ h ⟨note.toArray⟩ else nodeL 0 0 0 ⟨#[]⟩ false ⟨#[]⟩
theorem nodeV_K (C st at' : Int) (T : List UInt8) (h : Bool) (note : List UInt8) : nodeV C st at' T h note = .agg (nodeK C st at' T h note) := by
  unfold nodeV nodeK
  split <;> rfl
theorem nodeK_ex (C st at' : Int) (T : List UInt8) (h : Bool) (note : List UInt8) : ∃ k s2 a2 T2 h2 n2, nodeK C st at' T h note = nodeL k s2 a2 T2 h2 n2 := by
  unfold nodeK
  split
  · exact ⟨_, _, _, _, _, _, rfl⟩
  · exact ⟨_, _, _, _, _, _, rfl⟩
/-- What bloc.Read returns. -/
structure BlocC : Prop where
  read : ∀ (st : Int) (T : List UInt8) (h : Bool) (note : List UInt8) (E C : Int) (s : ByteArray) (at' n : Int) (w : World), s.size ≤ 100000 → BlocZ s at' n st T h note E C →
    Calls Tryd.prog 15 #[.string s, .int .i64 at', .int .i64 n] w fun e w' => e = .returned (.tuple #[.agg (nodeK C st at' T h note), .int .i64 E, .int .i64 C]) ∧ Below w.heap.size w w'
theorem refBlock_is (st : Int) (T : List UInt8) (h : Bool) (note : List UInt8) (E C : Int) (s : ByteArray) (at' n : Int) (w : World) (hs : s.size ≤ 100000) (hZ : BlocZ s at' n st T h note E C) :
    Calls Tryd.prog 18 #[.string s, .int .i64 at', .int .i64 n] w fun e w' => e = .returned (.tuple #[.agg (nodeK C st at' T h note), .int .i64 E, .int .i64 C]) ∧ Below w.heap.size w w' := by
  rw [← nodeV_K]
  rcases hZ with ⟨h1, h2⟩ | ⟨h1, rfl, rfl⟩
  · unfold blocB at h1
    rw [decide_eq_true_eq] at h1
    obtain ⟨a, rfl⟩ : ∃ a : Nat, at' = (a : Int) := ⟨at'.toNat, by omega⟩
    rw [Int.toNat_natCast] at h1 h2
    exact refBlock_in st T h note E C s a n w hs h1.2.1 h1.2.2 h2
  · exact refBlock_no s _ n w hs h1 st T h note

set_option maxRecDepth 100000 in
set_option maxHeartbeats 1600000 in
theorem same13_true (K : BlocC) (s : ByteArray) (at' n : Int) (w : World) (hs : s.size ≤ 100000) :
    Calls Tryd.prog 11 #[.string s, .int .i64 at', .int .i64 n] w fun e w' => e = .returned (.bool true) ∧ Below w.heap.size w w' := by
  obtain ⟨st, T, h, note, E, C, hZ⟩ := BlocZ.ex s at' n
  have HZ := Lib.hid hZ
  obtain ⟨k, s2, a2, T2, h2, n2, hk⟩ := nodeK_ex C st at' T h note
  have CK := fun W => K.read st T h note E C s at' n W hs HZ.out
  have CR := fun W => refBlock_is st T h note E C s at' n W hs HZ.out
  rw [hk] at CK CR
  clear hZ hk
  unfold nodeL at CK CR
  go_enter Tryd.func11, Tryd.ntmps11
  go_wp2_with fail
  refine (CK _).mono ?_
  rintro e w1 ⟨rfl, hb1⟩
  go_wp2_with fail
  refine (CR _).mono ?_
  rintro e w2 ⟨rfl, hb2⟩
  have hlt : w1.heap.size < w2.heap.size := by have := hb2.size; simp at this; omega
  have hx2 : w2.heap[w1.heap.size]? = some (.cells (nodeL k s2 a2 T2 h2 n2) 33 (0, 0)) := (hb2.block _ (by simp)).trans (heap_alloc_new w1 _)
  have hbw2 : Below w.heap.size w w2 := (hb1.alloc hb1.size _).trans (hb2.mono (by have := hb1.size; simp; omega))
  have hc3 : ∀ o j, (w2.alloc o).cell? ⟨w1.heap.size, j, none⟩ = (nodeL k s2 a2 T2 h2 n2)[j]? := fun o j => cell_of_row _ _ j _ _ _ ((heap_alloc_old w2 o hlt).trans hx2)
  unfold nodeL at hc3
  have HN := fun W => Nodes_same k s2 a2 T2 h2 n2 W
  unfold nodeL at HN
  clear hx2 hb1 hb2 CK CR
  go_wp2_with fail
  refine (HN _).mono ?_
  rintro e w3 ⟨rfl, hb3⟩
  go_wp2
  go_ret
  exact ⟨rfl, (hbw2.alloc hbw2.size _).trans (hb3.mono (by have := hbw2.size; simp; omega))⟩
set_option maxRecDepth 100000 in
set_option maxHeartbeats 1600000 in
theorem awake13_true (K : BlocC) (w : World) :
    Calls Tryd.prog 9 #[] w fun e w' => e = .returned (.bool true) ∧ Below w.heap.size w w' := by
  have CK1 := fun W => K.read 4 [97, 10] false [] 6 0 ⟨#[124, 10, 32, 97, 10, 10]⟩ 0 (-1) W (by decide) awakeB1
  have CK2 := fun W => K.read 0 [] false [] 1 5 ⟨#[124, 48]⟩ 0 (-1) W (by decide) awakeB2
  have e1 : nodeK 0 4 0 [97, 10] false [] = nodeL 1 4 0 ⟨#[97, 10]⟩ false ⟨#[]⟩ := rfl
  have e2 : nodeK 5 0 0 [] false [] = nodeL 0 0 0 ⟨#[]⟩ false ⟨#[]⟩ := rfl
  rw [e1] at CK1
  rw [e2] at CK2
  unfold nodeL at CK1 CK2
  clear e1 e2
  go_enter Tryd.func9, Tryd.ntmps9
  go_wp2_with fail
  refine (CK1 _).mono ?_
  rintro e w1 ⟨rfl, hb1⟩
  go_wp2_with fail
  refine (CK2 _).mono ?_
  rintro e w2 ⟨rfl, hb2⟩
  have hlt : w1.heap.size < w2.heap.size := by have := hb2.size; simp at this; omega
  have hx2 : w2.heap[w1.heap.size]? = some (.cells (nodeL 1 4 0 ⟨#[97, 10]⟩ false ⟨#[]⟩) 33 (0, 0)) := (hb2.block _ (by simp)).trans (heap_alloc_new w1 _)
  have hbw2 : Below w.heap.size w w2 := (hb1.alloc hb1.size _).trans (hb2.mono (by have := hb1.size; simp; omega))
  have hc3 : ∀ o j, (w2.alloc o).cell? ⟨w1.heap.size, j, none⟩ = (nodeL 1 4 0 ⟨#[97, 10]⟩ false ⟨#[]⟩)[j]? := fun o j => cell_of_row _ _ j _ _ _ ((heap_alloc_old w2 o hlt).trans hx2)
  unfold nodeL at hc3
  clear hx2 hb1 hb2 CK1 CK2
  go_wp2
  go_ret
  exact ⟨rfl, hbw2.alloc hbw2.size _⟩
set_option maxRecDepth 100000 in
set_option maxHeartbeats 3200000 in
theorem BlocTells_walk (K : BlocC) (s : ByteArray) (at' n which : Int) (w : World) :
    Calls Tryd.prog 3 #[.string s, .int .i64 at', .int .i64 n, .int .i64 which] w fun e w' => e = .returned (.bool true) ∧ Below w.heap.size w w' := by
  by_cases hl : s.size ≤ 100
  · have hr1 := lowZ_range n 4 (by omega)
    obtain ⟨m, hm⟩ : ∃ m, lowZ n 4 = m := ⟨_, rfl⟩
    have hr2 := lowZ_range which 8 (by omega)
    obtain ⟨z, hz⟩ : ∃ z : Nat, lowZ which 8 = (z : Int) := ⟨(lowZ which 8).toNat, by omega⟩
    rw [hm] at hr1
    rw [hz] at hr2
    have HM := Lib.hid hm
    have HZ := Lib.hid hz
    have CM := fun W => Low_is m n 4 W (by omega) (by omega) HM.out
    have CZ := fun W => Low_is (z : Int) which 8 W (by omega) (by omega) HZ.out
    clear hm hz
    obtain ⟨H, hH, hHs⟩ : ∃ H : ByteArray, (#[.string ⟨#[124]⟩, .string ⟨#[62]⟩, .string ⟨#[124, 45]⟩, .string ⟨#[62, 43]⟩, .string ⟨#[124, 50]⟩, .string ⟨#[62, 49, 45]⟩, .string ⟨#[124, 43, 51]⟩, .string ⟨#[124, 32, 35, 32, 99]⟩] : Array Value)[z]? = some (.string H) ∧ H.size ≤ 5 := by
      have h8 : z < 8 := by omega
      have key : ∀ j : Fin 8, ∃ H : ByteArray, (#[.string ⟨#[124]⟩, .string ⟨#[62]⟩, .string ⟨#[124, 45]⟩, .string ⟨#[62, 43]⟩, .string ⟨#[124, 50]⟩, .string ⟨#[62, 49, 45]⟩, .string ⟨#[124, 43, 51]⟩, .string ⟨#[124, 32, 35, 32, 99]⟩] : Array Value)[j.val]? = some (.string H) ∧ H.size ≤ 5 := by
        intro j
        match j with
        | ⟨0, _⟩ | ⟨1, _⟩ | ⟨2, _⟩ | ⟨3, _⟩ | ⟨4, _⟩ | ⟨5, _⟩ | ⟨6, _⟩ | ⟨7, _⟩ => exact ⟨_, rfl, by decide⟩
        | ⟨i + 8, hi⟩ => exact absurd hi (by omega)
      exact key ⟨z, h8⟩
    have hcell : (w.alloc (.cells #[.string ⟨#[124]⟩, .string ⟨#[62]⟩, .string ⟨#[124, 45]⟩, .string ⟨#[62, 43]⟩, .string ⟨#[124, 50]⟩, .string ⟨#[62, 49, 45]⟩, .string ⟨#[124, 43, 51]⟩, .string ⟨#[124, 32, 35, 32, 99]⟩] 9)).cell? ⟨w.heap.size, z, none⟩ = some (.string H) := by rw [World.cell?_alloc_mark]; exact hH
    have hbA : Below w.heap.size w (w.alloc (.cells #[.string ⟨#[124]⟩, .string ⟨#[62]⟩, .string ⟨#[124, 45]⟩, .string ⟨#[62, 43]⟩, .string ⟨#[124, 50]⟩, .string ⟨#[62, 49, 45]⟩, .string ⟨#[124, 43, 51]⟩, .string ⟨#[124, 32, 35, 32, 99]⟩] 9)) := (Below.refl _ _).alloc (Nat.le_refl _) _
    obtain ⟨T1, hT1⟩ : ∃ T1 : ByteArray, (⟨#[124]⟩ : ByteArray) ++ s = T1 := ⟨_, rfl⟩
    obtain ⟨T2, hT2⟩ : ∃ T2 : ByteArray, (⟨#[62]⟩ : ByteArray) ++ s = T2 := ⟨_, rfl⟩
    obtain ⟨T3, hT3⟩ : ∃ T3 : ByteArray, H ++ (⟨#[10]⟩ : ByteArray) ++ s = T3 := ⟨_, rfl⟩
    obtain ⟨T4, hT4⟩ : ∃ T4 : ByteArray, (⟨#[97, 58, 32]⟩ : ByteArray) ++ H ++ (⟨#[10]⟩ : ByteArray) ++ s = T4 := ⟨_, rfl⟩
    have hz1 : T1.size ≤ 100000 := by rw [← hT1, ByteArray.size_append]; show 1 + _ ≤ _; omega
    have hz2 : T2.size ≤ 100000 := by rw [← hT2, ByteArray.size_append]; show 1 + _ ≤ _; omega
    have hz3 : T3.size ≤ 100000 := by rw [← hT3, ByteArray.size_append, ByteArray.size_append]; show _ + 1 + _ ≤ _; omega
    have hz4 : T4.size ≤ 100000 := by rw [← hT4, ByteArray.size_append, ByteArray.size_append, ByteArray.size_append]; show 3 + _ + 1 + _ ≤ _; omega
    have hz0 : s.size ≤ 100000 := by omega
    clear hH
    go_enter Tryd.func3, Tryd.ntmps3
    go_wp2_with fail
    refine (CM _).mono ?_
    rintro e w1 ⟨rfl, rfl⟩
    go_wp2_with fail
    refine (CZ _).mono ?_
    rintro e w1 ⟨rfl, rfl⟩
    go_wp2_with fail
    obtain ⟨W, hW⟩ : ∃ W, W = w.alloc (.cells #[.string ⟨#[124]⟩, .string ⟨#[62]⟩, .string ⟨#[124, 45]⟩, .string ⟨#[62, 43]⟩, .string ⟨#[124, 50]⟩, .string ⟨#[62, 49, 45]⟩, .string ⟨#[124, 43, 51]⟩, .string ⟨#[124, 32, 35, 32, 99]⟩] 9) := ⟨_, rfl⟩
    rw [← hW] at hbA ⊢
    refine (same13_true K s at' n _ hz0).mono ?_
    rintro e w2 ⟨rfl, hb2⟩
    have hb2' := hbA.trans (hb2.mono hbA.size)
    go_wp2_with fail
    refine (same13_true K s 0 (m - 1) _ hz0).mono ?_
    rintro e w3 ⟨rfl, hb3⟩
    have hb3' := hb2'.trans (hb3.mono hb2'.size)
    go_wp2_with fail
    refine (same13_true K T1 0 n _ hz1).mono ?_
    rintro e w4 ⟨rfl, hb4⟩
    have hb4' := hb3'.trans (hb4.mono hb3'.size)
    go_wp2_with fail
    refine (same13_true K T2 0 (m - 1) _ hz2).mono ?_
    rintro e w5 ⟨rfl, hb5⟩
    have hb5' := hb4'.trans (hb5.mono hb4'.size)
    go_wp2_with fail
    refine (same13_true K T3 0 (m - 1) _ hz3).mono ?_
    rintro e w6 ⟨rfl, hb6⟩
    have hb6' := hb5'.trans (hb6.mono hb5'.size)
    go_wp2_with fail
    refine (same13_true K T4 3 (m - 1) _ hz4).mono ?_
    rintro e w7 ⟨rfl, hb7⟩
    have hb7' := hb6'.trans (hb7.mono hb6'.size)
    go_wp2_with fail
    refine (awake13_true K _).mono ?_
    rintro e w8 ⟨rfl, hb8⟩
    go_wp2
    go_ret
    exact ⟨rfl, hb7'.trans (hb8.mono hb7'.size)⟩
  · have hl2 : (100 : Int) < (s.size : Int) := by omega
    go_enter Tryd.func3, Tryd.ntmps3
    go_wp2_with fail
    refine (awake13_true K _).mono ?_
    rintro e w1 ⟨rfl, hb1⟩
    go_wp2
    go_ret
    exact ⟨rfl, hb1⟩
end Go.Proofs.YtkpccoijegklbaaDoor
