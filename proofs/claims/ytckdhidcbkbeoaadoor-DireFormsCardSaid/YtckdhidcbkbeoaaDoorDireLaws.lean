/- The statement DireForms on package dire: the walk: for every input the law returns true. Conditions: the two tables of unicode/utf8 as they are laid. -/
import Derived.Test.YtckdhidcbkbeoaaDoorDire7
import Derived.Test.YtckdhidcbkbeoaaDoorHandLaws2
namespace Go.Proofs.YtckdhidcbkbeoaaDoor
open Go.RowKit

theorem direRead_at (D T : List UInt8) (q : Bool) (c : Int) (s : ByteArray) (w : World) (hs : s.size ≤ 100000) (hT : Lib.Utf8Tabs 0 1 w) (h : U.tRead s.data.toList = (D, T, q, c)) :
    Calls Tryd.prog 10 #[.string s] w fun e w' => e = .returned (.tuple #[.string ⟨D.toArray⟩, .string ⟨T.toArray⟩, .bool q, .int .i64 c]) ∧ Below w.heap.size w w' := direRead_is D T q c s w hs hT h
set_option maxRecDepth 100000 in
set_option maxHeartbeats 800000 in
theorem awake10_true (w : World) (hT : Lib.Utf8Tabs 0 1 w) :
    Calls Tryd.prog 8 #[] w fun e w' => e = .returned (.bool true) ∧ Below w.heap.size w w' := by
  have r1 : U.tRead (⟨#[37, 84, 65, 71, 32, 32, 33, 32, 120, 58, 32, 35, 32, 99]⟩ : ByteArray).data.toList = ([37, 84, 65, 71, 32, 33, 32, 120, 58], [32, 99], true, 0) := by decide +kernel
  have r2 : U.tRead (⟨#[37, 89, 65, 77, 76, 32, 50, 46, 48]⟩ : ByteArray).data.toList = ([], [], false, 5) := by decide +kernel
  have r3 : U.tTwice [[37, 89, 65, 77, 76, 32, 49, 46, 49]] (⟨#[37, 89, 65, 77, 76, 32, 49, 46, 50]⟩ : ByteArray).data.toList = true := by decide +kernel
  have R1 := Lib.hid r1
  have R2 := Lib.hid r2
  have R3 := Lib.hid r3
  have HT := Lib.hid hT
  clear r1 r2 r3 hT
  go_enter Tryd.func8, Tryd.ntmps8
  go_wp2_with fail
  refine (direRead_at _ _ _ _ _ _ (by decide) HT.out R1.out).mono ?_
  rintro e w1 ⟨rfl, hb1⟩
  go_wp2_with fail
  refine (direRead_at _ _ _ _ _ _ (by decide) (Utf8Tabs_below HT.out hb1) R2.out).mono ?_
  rintro e w2 ⟨rfl, hb2⟩
  have hb3 := hb1.trans (hb2.mono hb1.size)
  go_wp2_with fail
  refine (direTwice_is true _ _ [[37, 89, 65, 77, 76, 32, 49, 46, 49]] _ _ (texts_new w2 [[37, 89, 65, 77, 76, 32, 49, 46, 49]] (by decide)) (by simp) (by decide) (by decide) R3.out).mono ?_
  rintro e w3 ⟨rfl, hb4⟩
  go_wp2
  go_ret
  exact ⟨rfl, (hb3.alloc hb3.size _).trans (hb4.mono (by simp; have := hb3.size; omega))⟩
def formRows : List (List UInt8) := [[37, 89, 65, 77, 76, 32, 49, 46, 50], [37, 89, 65, 77, 76, 32, 49, 46, 49, 48, 32, 35, 32, 120], [37, 84, 65, 71, 32, 33, 32, 33], [37, 84, 65, 71, 32, 33, 97, 45, 98, 33, 32, 116, 97, 103, 58, 120], [37, 70, 79, 79], [37, 70, 79, 79, 32, 97, 32, 98, 32, 35, 32, 99], [37, 97, 35, 98, 32, 99], [37, 84, 65, 71, 32, 33, 33, 32, 37, 52, 49, 120], [37, 89, 65, 77, 76], [37, 89, 65, 77, 76, 32, 49, 46, 50, 32, 120], [37, 89, 65, 77, 76, 32, 49, 46, 120], [37, 89, 65, 77, 76, 32, 49, 46], [37, 84, 65, 71, 32, 33], [37, 84, 65, 71, 32, 97, 32, 98], [37, 84, 65, 71, 32, 33, 32, 91, 120], [37, 84, 65, 71, 32, 33, 97, 32, 120], [37, 84, 65, 71, 32, 33, 32, 120, 37, 52], [37], [37, 32, 89, 65, 77, 76, 32, 49, 46, 50], [32, 37, 89, 65, 77, 76, 32, 49, 46, 50], [], [89, 65, 77, 76, 32, 49, 46, 50], [37, 84, 65, 71, 32, 33, 32, 35, 32, 120]]
theorem form_facts (k : Nat) (h : k < 23) : (formRows.getD k []).length ≤ 16 ∧ (U.tRead (formRows.getD k [])).2.2.2 = if k < 8 then 0 else 5 := by
  have H : ∀ j : Fin 23, (formRows.getD j.val []).length ≤ 16 ∧ (U.tRead (formRows.getD j.val [])).2.2.2 = if j.val < 8 then 0 else 5 := by decide +kernel
  exact H ⟨k, h⟩
set_option maxRecDepth 100000 in
set_option maxHeartbeats 1600000 in
theorem DireForms_walk (n : Int) (w : World) (hT : Lib.Utf8Tabs 0 1 w) :
    Calls Tryd.prog 5 #[.int .i64 n] w fun e w' => e = .returned (.bool true) ∧ Below w.heap.size w w' := by
  have hyr := lowZ_range n 23 (by omega)
  obtain ⟨y, hy⟩ : ∃ y : Nat, lowZ n 23 = (y : Int) := ⟨(lowZ n 23).toNat, by omega⟩
  rw [hy] at hyr
  have hy3 : y < 23 := by omega
  have HY := Lib.hid hy
  obtain ⟨hl, hc⟩ := form_facts y hy3
  have htab : (w.alloc (.cells #[.string ⟨#[37, 89, 65, 77, 76, 32, 49, 46, 50]⟩, .string ⟨#[37, 89, 65, 77, 76, 32, 49, 46, 49, 48, 32, 35, 32, 120]⟩, .string ⟨#[37, 84, 65, 71, 32, 33, 32, 33]⟩, .string ⟨#[37, 84, 65, 71, 32, 33, 97, 45, 98, 33, 32, 116, 97, 103, 58, 120]⟩, .string ⟨#[37, 70, 79, 79]⟩, .string ⟨#[37, 70, 79, 79, 32, 97, 32, 98, 32, 35, 32, 99]⟩, .string ⟨#[37, 97, 35, 98, 32, 99]⟩, .string ⟨#[37, 84, 65, 71, 32, 33, 33, 32, 37, 52, 49, 120]⟩, .string ⟨#[37, 89, 65, 77, 76]⟩, .string ⟨#[37, 89, 65, 77, 76, 32, 49, 46, 50, 32, 120]⟩, .string ⟨#[37, 89, 65, 77, 76, 32, 49, 46, 120]⟩, .string ⟨#[37, 89, 65, 77, 76, 32, 49, 46]⟩, .string ⟨#[37, 84, 65, 71, 32, 33]⟩, .string ⟨#[37, 84, 65, 71, 32, 97, 32, 98]⟩, .string ⟨#[37, 84, 65, 71, 32, 33, 32, 91, 120]⟩, .string ⟨#[37, 84, 65, 71, 32, 33, 97, 32, 120]⟩, .string ⟨#[37, 84, 65, 71, 32, 33, 32, 120, 37, 52]⟩, .string ⟨#[37]⟩, .string ⟨#[37, 32, 89, 65, 77, 76, 32, 49, 46, 50]⟩, .string ⟨#[32, 37, 89, 65, 77, 76, 32, 49, 46, 50]⟩, .string ⟨#[]⟩, .string ⟨#[89, 65, 77, 76, 32, 49, 46, 50]⟩, .string ⟨#[37, 84, 65, 71, 32, 33, 32, 35, 32, 120]⟩] 9)).cell? ⟨w.heap.size, y, none⟩ = some (.string ⟨(formRows.getD y []).toArray⟩) := tab_at w formRows 9 y hy3
  obtain ⟨x, hx⟩ : ∃ x, x = formRows.getD y [] := ⟨_, rfl⟩
  rw [← hx] at hl hc htab
  obtain ⟨D, T, q, c, hR⟩ : ∃ D T q c, U.tRead x = (D, T, q, c) := ⟨_, _, _, _, rfl⟩
  rw [hR] at hc
  have HR : Hid (U.tRead (⟨x.toArray⟩ : ByteArray).data.toList = (D, T, q, c)) := Lib.hid (by rw [mk_data, hR])
  have HT := Lib.hid (Utf8Tabs_below hT ((Below.refl w.heap.size w).alloc (Nat.le_refl _) (.cells #[.string ⟨#[37, 89, 65, 77, 76, 32, 49, 46, 50]⟩, .string ⟨#[37, 89, 65, 77, 76, 32, 49, 46, 49, 48, 32, 35, 32, 120]⟩, .string ⟨#[37, 84, 65, 71, 32, 33, 32, 33]⟩, .string ⟨#[37, 84, 65, 71, 32, 33, 97, 45, 98, 33, 32, 116, 97, 103, 58, 120]⟩, .string ⟨#[37, 70, 79, 79]⟩, .string ⟨#[37, 70, 79, 79, 32, 97, 32, 98, 32, 35, 32, 99]⟩, .string ⟨#[37, 97, 35, 98, 32, 99]⟩, .string ⟨#[37, 84, 65, 71, 32, 33, 33, 32, 37, 52, 49, 120]⟩, .string ⟨#[37, 89, 65, 77, 76]⟩, .string ⟨#[37, 89, 65, 77, 76, 32, 49, 46, 50, 32, 120]⟩, .string ⟨#[37, 89, 65, 77, 76, 32, 49, 46, 120]⟩, .string ⟨#[37, 89, 65, 77, 76, 32, 49, 46]⟩, .string ⟨#[37, 84, 65, 71, 32, 33]⟩, .string ⟨#[37, 84, 65, 71, 32, 97, 32, 98]⟩, .string ⟨#[37, 84, 65, 71, 32, 33, 32, 91, 120]⟩, .string ⟨#[37, 84, 65, 71, 32, 33, 97, 32, 120]⟩, .string ⟨#[37, 84, 65, 71, 32, 33, 32, 120, 37, 52]⟩, .string ⟨#[37]⟩, .string ⟨#[37, 32, 89, 65, 77, 76, 32, 49, 46, 50]⟩, .string ⟨#[32, 37, 89, 65, 77, 76, 32, 49, 46, 50]⟩, .string ⟨#[]⟩, .string ⟨#[89, 65, 77, 76, 32, 49, 46, 50]⟩, .string ⟨#[37, 84, 65, 71, 32, 33, 32, 35, 32, 120]⟩] 9)))
  have HL := Lib.hid hl
  have hb0 : Below w.heap.size w (w.alloc (.cells #[.string ⟨#[37, 89, 65, 77, 76, 32, 49, 46, 50]⟩, .string ⟨#[37, 89, 65, 77, 76, 32, 49, 46, 49, 48, 32, 35, 32, 120]⟩, .string ⟨#[37, 84, 65, 71, 32, 33, 32, 33]⟩, .string ⟨#[37, 84, 65, 71, 32, 33, 97, 45, 98, 33, 32, 116, 97, 103, 58, 120]⟩, .string ⟨#[37, 70, 79, 79]⟩, .string ⟨#[37, 70, 79, 79, 32, 97, 32, 98, 32, 35, 32, 99]⟩, .string ⟨#[37, 97, 35, 98, 32, 99]⟩, .string ⟨#[37, 84, 65, 71, 32, 33, 33, 32, 37, 52, 49, 120]⟩, .string ⟨#[37, 89, 65, 77, 76]⟩, .string ⟨#[37, 89, 65, 77, 76, 32, 49, 46, 50, 32, 120]⟩, .string ⟨#[37, 89, 65, 77, 76, 32, 49, 46, 120]⟩, .string ⟨#[37, 89, 65, 77, 76, 32, 49, 46]⟩, .string ⟨#[37, 84, 65, 71, 32, 33]⟩, .string ⟨#[37, 84, 65, 71, 32, 97, 32, 98]⟩, .string ⟨#[37, 84, 65, 71, 32, 33, 32, 91, 120]⟩, .string ⟨#[37, 84, 65, 71, 32, 33, 97, 32, 120]⟩, .string ⟨#[37, 84, 65, 71, 32, 33, 32, 120, 37, 52]⟩, .string ⟨#[37]⟩, .string ⟨#[37, 32, 89, 65, 77, 76, 32, 49, 46, 50]⟩, .string ⟨#[32, 37, 89, 65, 77, 76, 32, 49, 46, 50]⟩, .string ⟨#[]⟩, .string ⟨#[89, 65, 77, 76, 32, 49, 46, 50]⟩, .string ⟨#[37, 84, 65, 71, 32, 33, 32, 35, 32, 120]⟩] 9)) := (Below.refl _ _).alloc (Nat.le_refl _) _
  have hcc : (y < 8 ∧ c = 0) ∨ (¬ y < 8 ∧ c = 5) := by
    by_cases h8 : y < 8
    · exact .inl ⟨h8, by simpa [h8] using hc⟩
    · exact .inr ⟨h8, by simpa [h8] using hc⟩
  clear hy hyr hx hR hc hl hT
  rcases hcc with ⟨h8, rfl⟩ | ⟨h8, rfl⟩
  · have hd8 : decide ((y : Int) < 8) = true := by simp; omega
    go_enter Tryd.func5, Tryd.ntmps5
    go_wp2_with fail
    refine (Low_is (y : Int) n 23 _ (by omega) (by omega) HY.out).mono ?_
    rintro e w1 ⟨rfl, rfl⟩
    go_wp2_with fail
    refine (direRead_at D T q _ ⟨x.toArray⟩ _ (by rw [mk_size]; have := HL.out; omega) HT.out HR.out).mono ?_
    rintro e w2 ⟨rfl, hb1⟩
    have hb2 := hb0.trans (hb1.mono hb0.size)
    go_wp2_with fail
    refine (awake10_true _ (Utf8Tabs_below HT.out hb1)).mono ?_
    rintro e w3 ⟨rfl, hb3⟩
    go_wp2
    go_ret
    exact ⟨rfl, hb2.trans (hb3.mono hb2.size)⟩
  · have hd8 : decide ((y : Int) < 8) = false := by simp; omega
    go_enter Tryd.func5, Tryd.ntmps5
    go_wp2_with fail
    refine (Low_is (y : Int) n 23 _ (by omega) (by omega) HY.out).mono ?_
    rintro e w1 ⟨rfl, rfl⟩
    go_wp2_with fail
    refine (direRead_at D T q _ ⟨x.toArray⟩ _ (by rw [mk_size]; have := HL.out; omega) HT.out HR.out).mono ?_
    rintro e w2 ⟨rfl, hb1⟩
    have hb2 := hb0.trans (hb1.mono hb0.size)
    go_wp2_with fail
    refine (awake10_true _ (Utf8Tabs_below HT.out hb1)).mono ?_
    rintro e w3 ⟨rfl, hb3⟩
    go_wp2
    go_ret
    exact ⟨rfl, hb2.trans (hb3.mono hb2.size)⟩

end Go.Proofs.YtckdhidcbkbeoaaDoor
