/- The statement DireTwice on package dire: the walk: for every input the law returns true. Conditions: the two tables of unicode/utf8 as they are laid. -/
import Derived.Test.YtckdhidcbkbeoaaDoorDireLaws2
import Derived.Deep.DeepFit
import Derived.Deep.RegionLaw
import Derived.BigQuiet
namespace Go.Proofs.YtckdhidcbkbeoaaDoor
open Go.RowKit

def twiceRows : List (List UInt8) := [[37, 89, 65, 77, 76, 32, 49, 46, 49], [37, 89, 65, 77, 76, 32, 49, 46, 50], [37, 84, 65, 71, 32, 33, 32, 120], [37, 84, 65, 71, 32, 33, 32, 121], [37, 84, 65, 71, 32, 33, 33, 32, 120], [37, 84, 65, 71, 32, 33, 101, 33, 32, 120], [37, 70, 79, 79, 32, 120], [37, 70, 79, 79, 32, 120]]
def twiceGrp : List Int := [0, 0, 1, 1, 2, 3, 4, 5]
theorem twice_facts (y z : Nat) (hy : y < 8) (hz : z < 8) : (twiceRows.getD y []).length ≤ 10 ∧ (twiceRows.getD z []).length ≤ 10 ∧ U.tTwice [] (twiceRows.getD z []) = false ∧
    U.tTwice [[37, 66, 65, 82], twiceRows.getD y []] (twiceRows.getD z []) = ((twiceGrp.getD y 0 == twiceGrp.getD z 0) && decide ((y : Int) < 6)) := by
  have H : ∀ i j : Fin 8, (twiceRows.getD i.val []).length ≤ 10 ∧ (twiceRows.getD j.val []).length ≤ 10 ∧ U.tTwice [] (twiceRows.getD j.val []) = false ∧
    U.tTwice [[37, 66, 65, 82], twiceRows.getD i.val []] (twiceRows.getD j.val []) = ((twiceGrp.getD i.val 0 == twiceGrp.getD j.val 0) && decide ((i.val : Int) < 6)) := by decide +kernel
  exact H ⟨y, hy⟩ ⟨z, hz⟩
theorem grp_at (W : World) (y : Nat) (hy : y < 8) : (W.alloc (.cells #[.int .i64 0, .int .i64 0, .int .i64 1, .int .i64 1, .int .i64 2, .int .i64 3, .int .i64 4, .int .i64 5] 3)).cell? ⟨W.heap.size, y, none⟩ = some (.int .i64 (twiceGrp.getD y 0)) := by
  rw [World.cell?_alloc_mark]
  have H : ∀ j : Fin 8, (#[.int .i64 0, .int .i64 0, .int .i64 1, .int .i64 1, .int .i64 2, .int .i64 3, .int .i64 4, .int .i64 5] : Array Value)[j.val]? = some (.int .i64 (twiceGrp.getD j.val 0)) := by
    intro j
    match j with
    | ⟨0, _⟩ | ⟨1, _⟩ | ⟨2, _⟩ | ⟨3, _⟩ | ⟨4, _⟩ | ⟨5, _⟩ | ⟨6, _⟩ | ⟨7, _⟩ => rfl
    | ⟨i + 8, hi⟩ => exact absurd hi (by omega)
  exact H ⟨y, hy⟩
set_option maxRecDepth 100000 in
set_option maxHeartbeats 6400000 in
theorem DireTwice_walk (a b : Int) (w : World) (hT : Lib.Utf8Tabs 0 1 w) :
    Calls Tryd.prog 6 #[.int .i64 a, .int .i64 b] w fun e w' => e = .returned (.bool true) ∧ Below w.heap.size w w' := by
  have hyr := lowZ_range a 8 (by omega)
  obtain ⟨y, hy⟩ : ∃ y : Nat, lowZ a 8 = (y : Int) := ⟨(lowZ a 8).toNat, by omega⟩
  have hzr := lowZ_range b 8 (by omega)
  obtain ⟨z, hz⟩ : ∃ z : Nat, lowZ b 8 = (z : Int) := ⟨(lowZ b 8).toNat, by omega⟩
  rw [hy] at hyr
  rw [hz] at hzr
  have hy8 : y < 8 := by omega
  have hz8 : z < 8 := by omega
  have HY := Lib.hid hy
  have HZ := Lib.hid hz
  obtain ⟨l1, l2, p0, p1⟩ := twice_facts y z hy8 hz8
  have hw2 : ∃ W2, W2 = (w.alloc (.cells #[.string ⟨#[37, 89, 65, 77, 76, 32, 49, 46, 49]⟩, .string ⟨#[37, 89, 65, 77, 76, 32, 49, 46, 50]⟩, .string ⟨#[37, 84, 65, 71, 32, 33, 32, 120]⟩, .string ⟨#[37, 84, 65, 71, 32, 33, 32, 121]⟩, .string ⟨#[37, 84, 65, 71, 32, 33, 33, 32, 120]⟩, .string ⟨#[37, 84, 65, 71, 32, 33, 101, 33, 32, 120]⟩, .string ⟨#[37, 70, 79, 79, 32, 120]⟩, .string ⟨#[37, 70, 79, 79, 32, 120]⟩] 9)).alloc (.cells #[.int .i64 0, .int .i64 0, .int .i64 1, .int .i64 1, .int .i64 2, .int .i64 3, .int .i64 4, .int .i64 5] 3) := ⟨_, rfl⟩
  obtain ⟨W2, hW2⟩ := hw2
  have hs1 : (w.alloc (.cells #[.string ⟨#[37, 89, 65, 77, 76, 32, 49, 46, 49]⟩, .string ⟨#[37, 89, 65, 77, 76, 32, 49, 46, 50]⟩, .string ⟨#[37, 84, 65, 71, 32, 33, 32, 120]⟩, .string ⟨#[37, 84, 65, 71, 32, 33, 32, 121]⟩, .string ⟨#[37, 84, 65, 71, 32, 33, 33, 32, 120]⟩, .string ⟨#[37, 84, 65, 71, 32, 33, 101, 33, 32, 120]⟩, .string ⟨#[37, 70, 79, 79, 32, 120]⟩, .string ⟨#[37, 70, 79, 79, 32, 120]⟩] 9)).heap.size = w.heap.size + 1 := by simp
  have hb2 : Below w.heap.size w W2 := by rw [hW2]; exact ((Below.refl _ _).alloc (Nat.le_refl _) _).alloc (by rw [hs1]; omega) _
  have c1 : W2.cell? ⟨w.heap.size, y, none⟩ = some (.string ⟨(twiceRows.getD y []).toArray⟩) := by
    rw [hW2, ((Below.refl _ _).alloc (Nat.le_refl _) (.cells #[.int .i64 0, .int .i64 0, .int .i64 1, .int .i64 1, .int .i64 2, .int .i64 3, .int .i64 4, .int .i64 5] 3)).cell (p := ⟨w.heap.size, y, none⟩) (by rw [hs1]; show w.heap.size < w.heap.size + 1; omega)]
    exact tab_at w twiceRows 9 y hy8
  have c2 : W2.cell? ⟨w.heap.size, z, none⟩ = some (.string ⟨(twiceRows.getD z []).toArray⟩) := by
    rw [hW2, ((Below.refl _ _).alloc (Nat.le_refl _) (.cells #[.int .i64 0, .int .i64 0, .int .i64 1, .int .i64 1, .int .i64 2, .int .i64 3, .int .i64 4, .int .i64 5] 3)).cell (p := ⟨w.heap.size, z, none⟩) (by rw [hs1]; show w.heap.size < w.heap.size + 1; omega)]
    exact tab_at w twiceRows 9 z hz8
  have c3 : W2.cell? ⟨w.heap.size + 1, y, none⟩ = some (.int .i64 (twiceGrp.getD y 0)) := by rw [hW2, ← hs1]; exact grp_at _ y hy8
  have c4 : W2.cell? ⟨w.heap.size + 1, z, none⟩ = some (.int .i64 (twiceGrp.getD z 0)) := by rw [hW2, ← hs1]; exact grp_at _ z hz8
  have hw2s : w.heap.size + 1 < W2.heap.size := by rw [hW2]; simp
  obtain ⟨X, hX⟩ : ∃ X, twiceRows.getD y [] = X := ⟨_, rfl⟩
  obtain ⟨Z, hZ⟩ : ∃ Z, twiceRows.getD z [] = Z := ⟨_, rfl⟩
  obtain ⟨u, hu⟩ : ∃ u, twiceGrp.getD y 0 = u := ⟨_, rfl⟩
  obtain ⟨v, hv⟩ : ∃ v, twiceGrp.getD z 0 = v := ⟨_, rfl⟩
  rw [hX] at l1 p1 c1
  rw [hZ] at l2 p0 p1 c2
  rw [hu] at p1 c3
  rw [hv] at p1 c4
  have HT := Lib.hid (Utf8Tabs_below hT hb2)
  have HW2 := Lib.hid hW2
  have HL := Lib.hid (And.intro l1 l2)
  clear hy hz hyr hzr hW2 hX hZ hu hv l1 l2 hT hs1
  have HP0 : Hid (U.tTwice [] (⟨Z.toArray⟩ : ByteArray).data.toList = false) := Lib.hid (by rw [mk_data, p0])
  obtain ⟨q, hq⟩ : ∃ q, ((u == v) && decide ((y : Int) < 6)) = q := ⟨_, rfl⟩
  rw [hq] at p1
  have HP1 : Hid (U.tTwice [[37, 66, 65, 82], X] (⟨Z.toArray⟩ : ByteArray).data.toList = q) := Lib.hid (by rw [mk_data, p1])
  clear p0 p1
  have hyi : (y : Int) < 8 := by omega
  have hzi : (z : Int) < 8 := by omega
  by_cases huv : u = v
  · by_cases h6 : (y : Int) < 6
    · have hd6 : decide ((y : Int) < 6) = true := by simp; omega
      have hq1 : q = true := by rw [← hq, hd6, huv]; simp
      subst huv hq1
      clear hq h6
      go_enter Tryd.func6, Tryd.ntmps6
      go_wp2_with fail
      refine (Low_is (y : Int) a 8 _ (by omega) (by omega) HY.out).mono ?_
      rintro e w1 ⟨rfl, hw1⟩
      rw [← HW2.out] at hw1
      subst hw1
      go_wp2_with fail
      refine (Low_is (z : Int) b 8 _ (by omega) (by omega) HZ.out).mono ?_
      rintro e w2 ⟨rfl, rfl⟩
      go_wp2
      go_quiet (fail)
      obtain ⟨W3, hW3⟩ : ∃ W3, W2.drewN nq = W3 := ⟨_, rfl⟩
      have hsz : W3.heap.size = W2.heap.size := by rw [← hW3]; rfl
      have hbw : Below w.heap.size w W3 := by rw [← hW3]; exact below_dr hb2 _
      have g1 : W3.cell? ⟨w.heap.size, y, none⟩ = some (.string ⟨X.toArray⟩) := by rw [← hW3]; simpa using c1
      have g2 : W3.cell? ⟨w.heap.size, z, none⟩ = some (.string ⟨Z.toArray⟩) := by rw [← hW3]; simpa using c2
      have g3 : ∀ o, (W3.alloc o).cell? ⟨w.heap.size, z, none⟩ = some (.string ⟨Z.toArray⟩) := fun o => by
        rw [((Below.refl W3.heap.size W3).alloc (Nat.le_refl _) o).cell (p := ⟨w.heap.size, z, none⟩) (by show w.heap.size < W3.heap.size; omega)]; exact g2
      have htx := texts_new W3 [[37, 66, 65, 82], X] (show 2 ≤ maxLen by decide)
      rw [hsz] at htx
      have HTX : Hid (IsTexts (W2.heap.size + 1) (W3.alloc (Obj.cells #[Value.string ⟨#[37, 66, 65, 82]⟩, Value.string ⟨X.toArray⟩] 9)).drew (.slice (some ⟨W2.heap.size, 0, none⟩) 2 2) [[37, 66, 65, 82], X]) := Lib.hid (htx.below (below_dr (Below.refl _ _) 1))
      have hbx : Below w.heap.size w (W3.alloc (Obj.cells #[Value.string ⟨#[37, 66, 65, 82]⟩, Value.string ⟨X.toArray⟩] 9)).drew := below_dr (hbw.alloc (by omega) _) 1
      have hzx : (W3.alloc (Obj.cells #[Value.string ⟨#[37, 66, 65, 82]⟩, Value.string ⟨X.toArray⟩] 9)).drew.heap.size = W2.heap.size + 1 := by rw [← hsz]; show (W3.alloc _).heap.size = _; simp
      have HTT := Lib.hid (Utf8Tabs_below HT.out (show Below W2.heap.size W2 (W3.alloc (Obj.cells #[Value.string ⟨#[37, 66, 65, 82]⟩, Value.string ⟨X.toArray⟩] 9)).drew from below_dr ((show Below W2.heap.size W2 W3 by rw [← hW3]; exact below_dr (Below.refl _ _) _).alloc (by omega) _) 1))
      have HBX := Lib.hid hbx
      have HZX := Lib.hid hzx
      have G3 := Lib.hid (show (W3.alloc (Obj.cells #[Value.string ⟨#[37, 66, 65, 82]⟩, Value.string ⟨X.toArray⟩] 9)).drew.cell? ⟨w.heap.size, z, none⟩ = some (.string ⟨Z.toArray⟩) by simpa using g3 (Obj.cells #[Value.string ⟨#[37, 66, 65, 82]⟩, Value.string ⟨X.toArray⟩] 9))
      have hz1000 : (⟨Z.toArray⟩ : ByteArray).size ≤ 1000000000 := by rw [mk_size]; have := HL.out; omega
      have hx1000 : ∀ x ∈ [[37, 66, 65, 82], X], x.length ≤ 1000000000 := by
        intro x hx
        rcases List.mem_cons.1 hx with rfl | hx
        · decide
        · rw [List.mem_singleton] at hx
          subst hx
          have := HL.out
          omega
      have HZ1 := Lib.hid hz1000
      have HX1 := Lib.hid hx1000
      rw [hW3]
      clear hW3 c1 c2 c3 c4 htx hbx hzx hz1000 hx1000
      go_wp2
      go_region_law (first
        | (go_simp; go_at_call 12; go_fit (direTwice_is true _ _ [[37, 66, 65, 82], X] ⟨Z.toArray⟩ _ HTX.out (by rw [HZX.out]; exact Nat.le_refl _) HZ1.out HX1.out HP1.out); rintro e w4 ⟨rfl, hb4⟩; have g4 : w4.cell? ⟨w.heap.size, z, none⟩ = some (.string ⟨Z.toArray⟩) := (hb4.cell (p := ⟨w.heap.size, z, none⟩) (by rw [HZX.out]; show w.heap.size < _; omega)).trans G3.out)
        | (go_simp; go_at_call 12; go_fit (direTwice_is false 0 (.slice none 0 0) [] ⟨Z.toArray⟩ _ (texts_none _ _) (Nat.zero_le _) HZ1.out (fun x hx => by cases hx) HP0.out); rintro e w5 ⟨rfl, hb5⟩)
        | (go_simp; go_at_call 8; go_fit (awake10_true _ (Utf8Tabs_below HTT.out (hb4.trans (hb5.mono hb4.size)))); rintro e w6 ⟨rfl, hb6⟩))
      all_goals
        go_wp2
        go_ret
        exact ⟨rfl, HBX.out.trans ((hb4.trans ((hb5.trans (hb6.mono hb5.size)).mono hb4.size)).mono HBX.out.size)⟩
    · have hd6 : decide ((y : Int) < 6) = false := by simp; omega
      have hq1 : q = false := by rw [← hq, hd6, huv]; simp
      subst huv hq1
      clear hq h6
      go_enter Tryd.func6, Tryd.ntmps6
      go_wp2_with fail
      refine (Low_is (y : Int) a 8 _ (by omega) (by omega) HY.out).mono ?_
      rintro e w1 ⟨rfl, hw1⟩
      rw [← HW2.out] at hw1
      subst hw1
      go_wp2_with fail
      refine (Low_is (z : Int) b 8 _ (by omega) (by omega) HZ.out).mono ?_
      rintro e w2 ⟨rfl, rfl⟩
      go_wp2
      go_quiet (fail)
      obtain ⟨W3, hW3⟩ : ∃ W3, W2.drewN nq = W3 := ⟨_, rfl⟩
      have hsz : W3.heap.size = W2.heap.size := by rw [← hW3]; rfl
      have hbw : Below w.heap.size w W3 := by rw [← hW3]; exact below_dr hb2 _
      have g1 : W3.cell? ⟨w.heap.size, y, none⟩ = some (.string ⟨X.toArray⟩) := by rw [← hW3]; simpa using c1
      have g2 : W3.cell? ⟨w.heap.size, z, none⟩ = some (.string ⟨Z.toArray⟩) := by rw [← hW3]; simpa using c2
      have g3 : ∀ o, (W3.alloc o).cell? ⟨w.heap.size, z, none⟩ = some (.string ⟨Z.toArray⟩) := fun o => by
        rw [((Below.refl W3.heap.size W3).alloc (Nat.le_refl _) o).cell (p := ⟨w.heap.size, z, none⟩) (by show w.heap.size < W3.heap.size; omega)]; exact g2
      have htx := texts_new W3 [[37, 66, 65, 82], X] (show 2 ≤ maxLen by decide)
      rw [hsz] at htx
      have HTX : Hid (IsTexts (W2.heap.size + 1) (W3.alloc (Obj.cells #[Value.string ⟨#[37, 66, 65, 82]⟩, Value.string ⟨X.toArray⟩] 9)).drew (.slice (some ⟨W2.heap.size, 0, none⟩) 2 2) [[37, 66, 65, 82], X]) := Lib.hid (htx.below (below_dr (Below.refl _ _) 1))
      have hbx : Below w.heap.size w (W3.alloc (Obj.cells #[Value.string ⟨#[37, 66, 65, 82]⟩, Value.string ⟨X.toArray⟩] 9)).drew := below_dr (hbw.alloc (by omega) _) 1
      have hzx : (W3.alloc (Obj.cells #[Value.string ⟨#[37, 66, 65, 82]⟩, Value.string ⟨X.toArray⟩] 9)).drew.heap.size = W2.heap.size + 1 := by rw [← hsz]; show (W3.alloc _).heap.size = _; simp
      have HTT := Lib.hid (Utf8Tabs_below HT.out (show Below W2.heap.size W2 (W3.alloc (Obj.cells #[Value.string ⟨#[37, 66, 65, 82]⟩, Value.string ⟨X.toArray⟩] 9)).drew from below_dr ((show Below W2.heap.size W2 W3 by rw [← hW3]; exact below_dr (Below.refl _ _) _).alloc (by omega) _) 1))
      have HBX := Lib.hid hbx
      have HZX := Lib.hid hzx
      have G3 := Lib.hid (show (W3.alloc (Obj.cells #[Value.string ⟨#[37, 66, 65, 82]⟩, Value.string ⟨X.toArray⟩] 9)).drew.cell? ⟨w.heap.size, z, none⟩ = some (.string ⟨Z.toArray⟩) by simpa using g3 (Obj.cells #[Value.string ⟨#[37, 66, 65, 82]⟩, Value.string ⟨X.toArray⟩] 9))
      have hz1000 : (⟨Z.toArray⟩ : ByteArray).size ≤ 1000000000 := by rw [mk_size]; have := HL.out; omega
      have hx1000 : ∀ x ∈ [[37, 66, 65, 82], X], x.length ≤ 1000000000 := by
        intro x hx
        rcases List.mem_cons.1 hx with rfl | hx
        · decide
        · rw [List.mem_singleton] at hx
          subst hx
          have := HL.out
          omega
      have HZ1 := Lib.hid hz1000
      have HX1 := Lib.hid hx1000
      rw [hW3]
      clear hW3 c1 c2 c3 c4 htx hbx hzx hz1000 hx1000
      go_wp2
      go_region_law (first
        | (go_simp; go_at_call 12; go_fit (direTwice_is false _ _ [[37, 66, 65, 82], X] ⟨Z.toArray⟩ _ HTX.out (by rw [HZX.out]; exact Nat.le_refl _) HZ1.out HX1.out HP1.out); rintro e w4 ⟨rfl, hb4⟩; have g4 : w4.cell? ⟨w.heap.size, z, none⟩ = some (.string ⟨Z.toArray⟩) := (hb4.cell (p := ⟨w.heap.size, z, none⟩) (by rw [HZX.out]; show w.heap.size < _; omega)).trans G3.out)
        | (go_simp; go_at_call 12; go_fit (direTwice_is false 0 (.slice none 0 0) [] ⟨Z.toArray⟩ _ (texts_none _ _) (Nat.zero_le _) HZ1.out (fun x hx => by cases hx) HP0.out); rintro e w5 ⟨rfl, hb5⟩)
        | (go_simp; go_at_call 8; go_fit (awake10_true _ (Utf8Tabs_below HTT.out (hb4.trans (hb5.mono hb4.size)))); rintro e w6 ⟨rfl, hb6⟩))
      all_goals
        go_wp2
        go_ret
        exact ⟨rfl, HBX.out.trans ((hb4.trans ((hb5.trans (hb6.mono hb5.size)).mono hb4.size)).mono HBX.out.size)⟩
  · have hd6 : (u == v) = false := by simpa using huv
    have hq1 : q = false := by rw [← hq, hd6]; rfl
    subst hq1
    clear hq huv
    go_enter Tryd.func6, Tryd.ntmps6
    go_wp2_with fail
    refine (Low_is (y : Int) a 8 _ (by omega) (by omega) HY.out).mono ?_
    rintro e w1 ⟨rfl, hw1⟩
    rw [← HW2.out] at hw1
    subst hw1
    go_wp2_with fail
    refine (Low_is (z : Int) b 8 _ (by omega) (by omega) HZ.out).mono ?_
    rintro e w2 ⟨rfl, rfl⟩
    go_wp2
    go_quiet (fail)
    obtain ⟨W3, hW3⟩ : ∃ W3, W2.drewN nq = W3 := ⟨_, rfl⟩
    have hsz : W3.heap.size = W2.heap.size := by rw [← hW3]; rfl
    have hbw : Below w.heap.size w W3 := by rw [← hW3]; exact below_dr hb2 _
    have g1 : W3.cell? ⟨w.heap.size, y, none⟩ = some (.string ⟨X.toArray⟩) := by rw [← hW3]; simpa using c1
    have g2 : W3.cell? ⟨w.heap.size, z, none⟩ = some (.string ⟨Z.toArray⟩) := by rw [← hW3]; simpa using c2
    have g3 : ∀ o, (W3.alloc o).cell? ⟨w.heap.size, z, none⟩ = some (.string ⟨Z.toArray⟩) := fun o => by
      rw [((Below.refl W3.heap.size W3).alloc (Nat.le_refl _) o).cell (p := ⟨w.heap.size, z, none⟩) (by show w.heap.size < W3.heap.size; omega)]; exact g2
    have htx := texts_new W3 [[37, 66, 65, 82], X] (show 2 ≤ maxLen by decide)
    rw [hsz] at htx
    have HTX : Hid (IsTexts (W2.heap.size + 1) (W3.alloc (Obj.cells #[Value.string ⟨#[37, 66, 65, 82]⟩, Value.string ⟨X.toArray⟩] 9)).drew (.slice (some ⟨W2.heap.size, 0, none⟩) 2 2) [[37, 66, 65, 82], X]) := Lib.hid (htx.below (below_dr (Below.refl _ _) 1))
    have hbx : Below w.heap.size w (W3.alloc (Obj.cells #[Value.string ⟨#[37, 66, 65, 82]⟩, Value.string ⟨X.toArray⟩] 9)).drew := below_dr (hbw.alloc (by omega) _) 1
    have hzx : (W3.alloc (Obj.cells #[Value.string ⟨#[37, 66, 65, 82]⟩, Value.string ⟨X.toArray⟩] 9)).drew.heap.size = W2.heap.size + 1 := by rw [← hsz]; show (W3.alloc _).heap.size = _; simp
    have HTT := Lib.hid (Utf8Tabs_below HT.out (show Below W2.heap.size W2 (W3.alloc (Obj.cells #[Value.string ⟨#[37, 66, 65, 82]⟩, Value.string ⟨X.toArray⟩] 9)).drew from below_dr ((show Below W2.heap.size W2 W3 by rw [← hW3]; exact below_dr (Below.refl _ _) _).alloc (by omega) _) 1))
    have HBX := Lib.hid hbx
    have HZX := Lib.hid hzx
    have G3 := Lib.hid (show (W3.alloc (Obj.cells #[Value.string ⟨#[37, 66, 65, 82]⟩, Value.string ⟨X.toArray⟩] 9)).drew.cell? ⟨w.heap.size, z, none⟩ = some (.string ⟨Z.toArray⟩) by simpa using g3 (Obj.cells #[Value.string ⟨#[37, 66, 65, 82]⟩, Value.string ⟨X.toArray⟩] 9))
    have hz1000 : (⟨Z.toArray⟩ : ByteArray).size ≤ 1000000000 := by rw [mk_size]; have := HL.out; omega
    have hx1000 : ∀ x ∈ [[37, 66, 65, 82], X], x.length ≤ 1000000000 := by
      intro x hx
      rcases List.mem_cons.1 hx with rfl | hx
      · decide
      · rw [List.mem_singleton] at hx
        subst hx
        have := HL.out
        omega
    have HZ1 := Lib.hid hz1000
    have HX1 := Lib.hid hx1000
    rw [hW3]
    clear hW3 c1 c2 c3 c4 htx hbx hzx hz1000 hx1000
    go_wp2
    go_region_law (first
      | (go_simp; go_at_call 12; go_fit (direTwice_is false _ _ [[37, 66, 65, 82], X] ⟨Z.toArray⟩ _ HTX.out (by rw [HZX.out]; exact Nat.le_refl _) HZ1.out HX1.out HP1.out); rintro e w4 ⟨rfl, hb4⟩; have g4 : w4.cell? ⟨w.heap.size, z, none⟩ = some (.string ⟨Z.toArray⟩) := (hb4.cell (p := ⟨w.heap.size, z, none⟩) (by rw [HZX.out]; show w.heap.size < _; omega)).trans G3.out)
      | (go_simp; go_at_call 12; go_fit (direTwice_is false 0 (.slice none 0 0) [] ⟨Z.toArray⟩ _ (texts_none _ _) (Nat.zero_le _) HZ1.out (fun x hx => by cases hx) HP0.out); rintro e w5 ⟨rfl, hb5⟩)
      | (go_simp; go_at_call 8; go_fit (awake10_true _ (Utf8Tabs_below HTT.out (hb4.trans (hb5.mono hb4.size)))); rintro e w6 ⟨rfl, hb6⟩))
    all_goals
      go_wp2
      go_ret
      exact ⟨rfl, HBX.out.trans ((hb4.trans ((hb5.trans (hb6.mono hb5.size)).mono hb4.size)).mono HBX.out.size)⟩

end Go.Proofs.YtckdhidcbkbeoaaDoor
