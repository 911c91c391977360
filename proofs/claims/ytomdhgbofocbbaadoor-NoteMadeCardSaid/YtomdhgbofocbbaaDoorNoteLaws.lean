/- The statements on package note: what is the same as the document's, and the walks, over what note.Skip and note.Within return (NoteC). Conditions: those that each theorem writes out. -/
import Derived.Test.YtomdhgbofocbbaaDoorNoteRef2
import Derived.Test.YtomdhgbofocbbaaDoorNoteT
import Derived.Test.YtomdhgbofocbbaaDoorNoteC
import Derived.Test.YtomdhgbofocbbaaDoorWord
namespace Go.Proofs.YtomdhgbofocbbaaDoor
open Go.RowKit
attribute [local go_sem ↓] Go.wp_at_zero Go.wp_at_succ

/-- What note.Skip and note.Within return. -/
structure NoteC : Prop where
  skip : ∀ (L : List (List UInt8 × Nat)) (S : Bool) (E C : Int) (s : ByteArray) (at' : Int) (w : World), s.size ≤ 1000 → NoteZ s false 0 at' L S E C →
    Calls Tryd.prog 13 #[.string s, .int .i64 at'] w fun e w' => ∃ v, e = .returned (.tuple #[v, .bool S, .int .i64 E, .int .i64 C]) ∧ IsComs w'.heap.size w' v L ∧ Below w.heap.size w w'
  within : ∀ (L : List (List UInt8 × Nat)) (S : Bool) (E C : Int) (s : ByteArray) (at' n : Int) (w : World), s.size ≤ 1000 → NoteZ s true n at' L S E C →
    Calls Tryd.prog 14 #[.string s, .int .i64 at', .int .i64 n] w fun e w' => ∃ v, e = .returned (.tuple #[v, .bool S, .int .i64 E, .int .i64 C]) ∧ IsComs w'.heap.size w' v L ∧ Below w.heap.size w w'
theorem IsComs.go {w w' : World} {v : Value} {cs : List (List UInt8 × Nat)} (h : IsComs w.heap.size w v cs) (hb : Below w.heap.size w w') : IsComs w'.heap.size w' v cs := (h.below hb).mono hb.size
theorem IsComs.form {B : Nat} {w : World} {v : Value} {cs : List (List UInt8 × Nat)} (h : IsComs B w v cs) : ∃ ao cap, v = .slice ao cs.length cap ∧ cs.length ≤ cap := by
  obtain ⟨ao, cap, rfl, h1, _⟩ := h
  exact ⟨ao, cap, rfl, h1⟩
set_option maxRecDepth 100000 in
set_option maxHeartbeats 1600000 in
theorem same15_true (K : NoteC) (s : ByteArray) (at' n : Int) (w : World) (hs : s.size ≤ 1000) :
    Calls Tryd.prog 8 #[.string s, .int .i64 at', .int .i64 n] w fun e w' => e = .returned (.bool true) ∧ Below w.heap.size w w' := by
  obtain ⟨L, S, E, C, hZ⟩ := NoteZ.ex s false 0 at'
  obtain ⟨L2, S2, E2, C2, hY⟩ := NoteZ.ex s true n at'
  have CK := fun W => K.skip L S E C s at' W hs hZ
  have CR := fun W => refSkip_is L S E C s at' W (by omega) hZ
  have CA := fun W => K.within L2 S2 E2 C2 s at' n W hs hY
  have CB := fun W => refWithin_is L2 S2 E2 C2 s at' n W (by omega) hY
  clear hZ hY
  go_enter Tryd.func8, Tryd.ntmps8
  go_wp2_with fail
  refine (CK _).mono ?_
  rintro e w1 ⟨v1, rfl, hv1, hb1⟩
  go_wp2_with fail
  refine (CR _).mono ?_
  rintro e w2 ⟨v2, rfl, hv2', hb2⟩
  have hv2 := hv2'.is
  have hv1b := hv1.go hb2
  go_wp2_with fail
  refine (CA _).mono ?_
  rintro e w3 ⟨v3, rfl, hv3, hb3⟩
  have hv1c := hv1b.go hb3
  have hv2c := hv2.go hb3
  go_wp2_with fail
  refine (CB _).mono ?_
  rintro e w4 ⟨v4, rfl, hv4', hb4⟩
  have hv4 := hv4'.is
  have hv1d := hv1c.go hb4
  have hv2d := hv2c.go hb4
  have hv3d := hv3.go hb4
  clear CK CR CA CB hv1 hv2 hv2' hv1b hv1c hv2c hv3 hv4'
  have h12 := hb1.trans (hb2.mono hb1.size)
  have h13 := h12.trans (hb3.mono h12.size)
  have h14 := h13.trans (hb4.mono h13.size)
  go_wp2_with fail
  refine (Comments_is L v1 v2 _ hv1d hv2d).mono ?_
  rintro e w5 ⟨rfl, hb5⟩
  have h15 := h14.trans (hb5.mono h14.size)
  go_wp2_with fail
  refine (Comments_is L2 v3 v4 _ (hv3d.go hb5) (hv4.go hb5)).mono ?_
  rintro e w6 ⟨rfl, hb6⟩
  go_wp2
  go_ret
  exact ⟨rfl, h15.trans (hb6.mono h15.size)⟩
set_option maxRecDepth 100000 in
set_option maxHeartbeats 1600000 in
theorem awake15_true (K : NoteC) (w : World) :
    Calls Tryd.prog 7 #[] w fun e w' => e = .returned (.bool true) ∧ Below w.heap.size w w' := by
  have CK1 := fun W => K.skip [([32, 97], 0), ([32, 98], 1)] false 11 0 ⟨#[32, 35, 32, 97, 32, 10, 10, 35, 32, 98, 10, 120]⟩ 0 W (by decide) awakeN1
  have CK2 := fun W => K.skip [] false 1 4 ⟨#[10, 9, 120]⟩ 0 W (by decide) awakeN2
  go_enter Tryd.func7, Tryd.ntmps7
  go_wp2_with fail
  refine (CK1 _).mono ?_
  rintro e w1 ⟨v1, rfl, hv1, hb1⟩
  go_wp2_with fail
  refine (CK2 _).mono ?_
  rintro e w2 ⟨v2, rfl, hv2, hb2⟩
  obtain ⟨ao, cap, rfl, k1, k2, k3⟩ := hv1.go hb2
  obtain ⟨bb, rfl, hlt, hc⟩ := k3 (by decide)
  obtain ⟨f1, f2⟩ := hc 0 (by decide)
  obtain ⟨f3, f4⟩ := hc 1 (by decide)
  have h12 := hb1.trans (hb2.mono hb1.size)
  have f1' : w2.cell? ⟨bb, 0, none⟩ = some (.string ⟨#[32, 97]⟩) := f1
  have f3' : w2.cell? ⟨bb, 2, none⟩ = some (.string ⟨#[32, 98]⟩) := f3
  have f4' : w2.cell? ⟨bb, 3, none⟩ = some (.int .i64 1) := f4
  have hl : ([([32, 97], 0), ([32, 98], 1)] : List (List UInt8 × Nat)).length = 2 := rfl
  rw [hl] at k1 ⊢
  clear CK1 CK2 f1 f2 f3 f4 hc k3 hv1 hv2 hl hb1 hb2
  go_wp2
  go_ret
  exact ⟨rfl, h12⟩
set_option maxRecDepth 100000 in
set_option maxHeartbeats 1600000 in
theorem NoteTells_walk (K : NoteC) (s : ByteArray) (at' n : Int) (w : World) :
    Calls Tryd.prog 3 #[.string s, .int .i64 at', .int .i64 n] w fun e w' => e = .returned (.bool true) ∧ Below w.heap.size w w' := by
  by_cases hl1 : 60 < s.size
  · go_enter Tryd.func3, Tryd.ntmps3
    go_wp2_with fail
    refine (awake15_true K _).mono ?_
    rintro e w1 ⟨rfl, b1⟩
    go_wp2
    go_ret
    exact ⟨rfl, b1⟩
  have hs : s.size ≤ 1000 := by omega
  have hr := lowZ_range n 4 (by omega)
  obtain ⟨m, hm⟩ : ∃ m, lowZ n 4 = m := ⟨_, rfl⟩
  rw [hm] at hr
  have CM := fun W => Low_is m n 4 W (by omega) (by omega) hm
  clear hm
  go_enter Tryd.func3, Tryd.ntmps3
  go_wp2
  go_loopw [7] (fun vi wx => ∃ k : Nat, vi = .int .i64 (k : Int) ∧ k ≤ s.size + 1 ∧ Below w.heap.size w wx) (fun vi _ => s.size + 1 - (intOf vi).toNat)
  case atStart => exact ⟨0, rfl, Nat.zero_le _, Below.refl _ _⟩
  case round =>
    obtain ⟨j, rfl, hj, hb⟩ := hrel
    by_cases hj2 : j ≤ s.size
    · go_wp2_with fail
      refine (CM _).mono ?_
      rintro e w9 ⟨rfl, rfl⟩
      go_wp2_with fail
      refine (same15_true K s (j : Int) (m - 1) _ hs).mono ?_
      rintro e w2 ⟨rfl, hb2⟩
      go_wp2
      go_roundw
      case rel => exact ⟨j + 1, by go_num, by omega, hb.trans (hb2.mono hb.size)⟩
      case measure => simp [intOf]; omega
    · go_wp2_with fail
      refine (same15_true K s at' n _ hs).mono ?_
      rintro e w2 ⟨rfl, hb2⟩
      have hb2' := hb.trans (hb2.mono hb.size)
      go_wp2_with fail
      refine (awake15_true K _).mono ?_
      rintro e w6 ⟨rfl, b6⟩
      go_wp2
      go_ret
      exact ⟨rfl, hb2'.trans (b6.mono hb2'.size)⟩
def madeL : List (List UInt8) := [[32], [10], [35, 32, 97], [35], [9], [10, 32], [10, 32, 32], [120], [10, 45, 45, 45], [10, 46, 46, 46, 10], [32, 35, 32, 98, 32, 10], [10, 10], [45, 32], [10, 9]]
theorem madeNP (z : Nat) (hz : z < 14) : (#[Value.string ⟨#[32]⟩, .string ⟨#[10]⟩, .string ⟨#[35, 32, 97]⟩, .string ⟨#[35]⟩, .string ⟨#[9]⟩, .string ⟨#[10, 32]⟩, .string ⟨#[10, 32, 32]⟩, .string ⟨#[120]⟩, .string ⟨#[10, 45, 45, 45]⟩, .string ⟨#[10, 46, 46, 46, 10]⟩, .string ⟨#[32, 35, 32, 98, 32, 10]⟩, .string ⟨#[10, 10]⟩, .string ⟨#[45, 32]⟩, .string ⟨#[10, 9]⟩] : Array Value)[z]? = some (.string ⟨(madeL.getD z []).toArray⟩) := by
  have key : ∀ j : Fin 14, (#[Value.string ⟨#[32]⟩, .string ⟨#[10]⟩, .string ⟨#[35, 32, 97]⟩, .string ⟨#[35]⟩, .string ⟨#[9]⟩, .string ⟨#[10, 32]⟩, .string ⟨#[10, 32, 32]⟩, .string ⟨#[120]⟩, .string ⟨#[10, 45, 45, 45]⟩, .string ⟨#[10, 46, 46, 46, 10]⟩, .string ⟨#[32, 35, 32, 98, 32, 10]⟩, .string ⟨#[10, 10]⟩, .string ⟨#[45, 32]⟩, .string ⟨#[10, 9]⟩] : Array Value)[j.val]? = some (.string ⟨(madeL.getD j.val []).toArray⟩) := by
    intro j
    match j with
    | ⟨0, _⟩ | ⟨1, _⟩ | ⟨2, _⟩ | ⟨3, _⟩ | ⟨4, _⟩ | ⟨5, _⟩ | ⟨6, _⟩ | ⟨7, _⟩ | ⟨8, _⟩ | ⟨9, _⟩ | ⟨10, _⟩ | ⟨11, _⟩ | ⟨12, _⟩ | ⟨13, _⟩ => exact rfl
    | ⟨i + 14, hi⟩ => exact absurd hi (by omega)
  exact key ⟨z, hz⟩
theorem madeN_len : ∀ z : Fin 14, (madeL.getD z.val []).length ≤ 6 := by decide +kernel
set_option maxRecDepth 100000 in
set_option maxHeartbeats 3200000 in
theorem NoteMade_walk (K : NoteC) (v0 : Value) (ks : List Int) (at' n : Int) (w : World) (h1 : IsInts .i64 w.heap.size w v0 ks) :
    Calls Tryd.prog 4 #[v0, .int .i64 at', .int .i64 n] w fun e w' => e = .returned (.bool true) ∧ Below w.heap.size w w' := by
  obtain ⟨ao, cap, rfl, c3, d3⟩ := h1.slice
  unfold maxLen at d3
  obtain ⟨L, hL⟩ : ∃ L, L = ks.length := ⟨_, rfl⟩
  have HL := Lib.hid hL
  rw [← hL] at h1 c3 ⊢
  clear hL
  by_cases hl2 : 24 < L
  · clear h1
    go_enter Tryd.func4, Tryd.ntmps4
    go_wp2_with fail
    refine (awake15_true K _).mono ?_
    rintro e w1 ⟨rfl, b1⟩
    go_wp2
    go_ret
    exact ⟨rfl, b1⟩
  have hr := lowZ_range n 4 (by omega)
  obtain ⟨m, hm⟩ : ∃ m, lowZ n 4 = m := ⟨_, rfl⟩
  rw [hm] at hr
  have CM := fun W => Low_is m n 4 W (by omega) (by omega) hm
  clear hm
  go_enter Tryd.func4, Tryd.ntmps4
  go_wp2
  go_loopw [7, 8] (fun vt vi wr => ∃ (T : ByteArray) (k : Nat), vt = .string T ∧ vi = .int .i64 (k : Int) ∧ k ≤ L ∧ T.size ≤ 6 * k ∧ Below w.heap.size w wr) (fun _ vi _ => L - (intOf vi).toNat)
  case atStart => exact ⟨_, 0, rfl, rfl, Nat.zero_le _, by decide, Below.refl _ _⟩
  case round =>
    obtain ⟨T, k, rfl, rfl, hk, hT, hb⟩ := hrel
    by_cases hk2 : k < L
    · obtain ⟨bb, oo, rfl, hlt, hcc⟩ := IsInts.at h1 HL.out.symm (by omega)
      have g1 := hcc k hk2
      rw [← hb.cell (p := ⟨bb, oo + k, none⟩) hlt] at g1
      obtain ⟨x, hx⟩ : ∃ x, x = ks.getD k 0 := ⟨_, rfl⟩
      rw [← hx] at g1
      have hyr := lowZ_range x 14 (by omega)
      obtain ⟨y, hy⟩ : ∃ y : Nat, lowZ x 14 = (y : Int) := ⟨(lowZ x 14).toNat, by omega⟩
      rw [hy] at hyr
      have HY := Lib.hid hy
      have hX := madeNP y (by omega)
      have hXs := madeN_len ⟨y, by omega⟩
      obtain ⟨X, hXe⟩ : ∃ X : ByteArray, (⟨(madeL.getD y []).toArray⟩ : ByteArray) = X := ⟨_, rfl⟩
      have hXz : X.size ≤ 6 := by rw [← hXe, size_mk]; exact hXs
      rw [hXe] at hX
      have htab : (wr.alloc (.cells #[.string ⟨#[32]⟩, .string ⟨#[10]⟩, .string ⟨#[35, 32, 97]⟩, .string ⟨#[35]⟩, .string ⟨#[9]⟩, .string ⟨#[10, 32]⟩, .string ⟨#[10, 32, 32]⟩, .string ⟨#[120]⟩, .string ⟨#[10, 45, 45, 45]⟩, .string ⟨#[10, 46, 46, 46, 10]⟩, .string ⟨#[32, 35, 32, 98, 32, 10]⟩, .string ⟨#[10, 10]⟩, .string ⟨#[45, 32]⟩, .string ⟨#[10, 9]⟩] 9)).cell? ⟨wr.heap.size, y, none⟩ = some (.string X) := by rw [World.cell?_alloc_mark]; exact hX
      clear hy hcc hx hX hXs hXe
      go_wp2_with fail
      refine (Low_is (y : Int) x 14 _ (by omega) (by omega) HY.out).mono ?_
      rintro e w1 ⟨rfl, rfl⟩
      go_wp2
      go_roundw
      case rel => exact ⟨_, k + 1, rfl, by go_num, by omega, by rw [ByteArray.size_append]; omega, hb.alloc hb.size _⟩
      case measure => simp [intOf]; omega
    · clear h1
      have hTz : T.size ≤ 1000 := by omega
      obtain ⟨q, hq⟩ : ∃ q, lowZ at' ((T.size : Int) + 1) = q := ⟨_, rfl⟩
      have CA := fun W => Low_is q at' ((T.size : Int) + 1) W (by omega) (by omega) hq
      clear hT hq
      go_wp2_with fail
      refine (CA _).mono ?_
      rintro e w9 ⟨rfl, rfl⟩
      go_wp2_with fail
      refine (CM _).mono ?_
      rintro e w9 ⟨rfl, rfl⟩
      go_wp2_with fail
      refine (same15_true K T q (m - 1) _ hTz).mono ?_
      rintro e w2 ⟨rfl, hb2⟩
      have hb2' := hb.trans (hb2.mono hb.size)
      go_wp2_with fail
      refine (same15_true K T 0 (-1) _ hTz).mono ?_
      rintro e w3 ⟨rfl, hb3⟩
      have hb3' := hb2'.trans (hb3.mono hb2'.size)
      go_wp2_with fail
      refine (awake15_true K _).mono ?_
      rintro e w6 ⟨rfl, b6⟩
      go_wp2
      go_ret
      exact ⟨rfl, hb3'.trans (b6.mono hb3'.size)⟩
end Go.Proofs.YtomdhgbofocbbaaDoor
