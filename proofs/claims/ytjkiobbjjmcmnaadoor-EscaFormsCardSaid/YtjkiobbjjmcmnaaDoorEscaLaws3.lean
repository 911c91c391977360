/- The statement on package esca: the walk of EscaForms: for every input the law returns true. Conditions: what three of the library's variables hold (Env). -/
import Derived.Test.YtjkiobbjjmcmnaaDoorEscaLaws
import Derived.Test.YtjkiobbjjmcmnaaDoorWord
namespace Go.Proofs.YtjkiobbjjmcmnaaDoor
open Go.RowKit

theorem size_three (ah : ByteArray) (a b : UInt8) : (ah ++ (⟨#[a]⟩ : ByteArray) ++ (⟨#[b]⟩ : ByteArray)).size = ah.size + 2 := by
  rw [ByteArray.size_append, ByteArray.size_append]
  rfl
theorem size_ext (S X : ByteArray) (y : Nat) : (S ++ X.extract y (y + 1)).size ≤ S.size + 1 := by
  rw [ByteArray.size_append, ByteArray.size_extract]
  omega
def formS : ByteArray := ⟨#[120, 117, 85, 48, 97, 98, 116, 110, 118, 102, 114, 101]⟩
theorem Low_as (y : Int) (x n : Int) (w : World) (h1 : 1 ≤ n) (h2 : n ≤ 9223372036854775807) (hy : lowZ x n = y) :
    Calls Tryd.prog 10 #[.int .i64 x, .int .i64 n] w fun e w' => e = .returned (.int .i64 y) ∧ w' = w := by
  refine (Low_is y x n w h1 h2 hy).mono ?_
  rintro e w' ⟨rfl, rfl⟩
  exact ⟨rfl, rfl⟩
set_option maxRecDepth 100000 in
set_option maxHeartbeats 4000000 in
theorem EscaForms_walk (w : World) (c0 : Int) (hc0 : 0 ≤ c0) (hc1 : c0 ≤ 255) (v : Value) (xs : List Int) (hv : IsInts .i64 w.heap.size w v xs) (ah be : ByteArray) (hE : Env w) :
    Calls Tryd.prog 4 #[.int .u8 c0, v, .string ah, .string be] w fun e w' => e = .returned (.bool true) ∧ Below w.heap.size w w' := by
  obtain ⟨ao, cap, rfl, k1, d1⟩ := hv.slice
  unfold maxLen at d1
  obtain ⟨L, hL⟩ : ∃ L, L = xs.length := ⟨_, rfl⟩
  rw [← hL] at hv k1 ⊢
  have HL := Lib.hid hL
  clear hL
  have bz := (Below.refl w.heap.size w).alloc (Nat.le_refl _) (.cells #[.string ah, .string be] 9)
  cases hlong : longB 40 [ah.size, be.size] with
  | true =>
    have HLG := Lib.hid hlong
    clear hlong
    go_enter Tryd.func4, Tryd.ntmps4
    go_wp2_with fail
    refine (Long_any true _ 40 _ _ _ (by decide) (by decide) (IsStrs_two w ah be) HLG.out).mono ?_
    rintro e w' ⟨rfl, rfl⟩
    go_wp2_with fail
    refine (awake5_any _ (hE.below bz)).mono ?_
    rintro e w1 ⟨rfl, b1⟩
    go_wp2
    go_ret
    exact ⟨rfl, tb2 bz b1⟩
  | false =>
    have hsz : ah.size ≤ 40 ∧ be.size ≤ 40 := by
      unfold longB at hlong
      unfold longB at hlong
      split at hlong
      · cases hlong
      · split at hlong
        · cases hlong
        · omega
    obtain ⟨ha40, hb40⟩ := hsz
    have HLG := Lib.hid hlong
    clear hlong
    by_cases hl8 : 8 < L
    · go_enter Tryd.func4, Tryd.ntmps4
      go_wp2_with fail
      refine (Long_any false _ 40 _ _ _ (by decide) (by decide) (IsStrs_two w ah be) HLG.out).mono ?_
      rintro e w' ⟨rfl, rfl⟩
      go_wp2_with fail
      refine (awake5_any _ (hE.below bz)).mono ?_
      rintro e w1 ⟨rfl, b1⟩
      go_wp2
      go_ret
      exact ⟨rfl, tb2 bz b1⟩
    · go_enter Tryd.func4, Tryd.ntmps4
      go_wp2_with fail
      refine (Long_any false _ 40 _ _ _ (by decide) (by decide) (IsStrs_two w ah be) HLG.out).mono ?_
      rintro e w' ⟨rfl, rfl⟩
      go_wp2
      go_loopw [0, 9] (fun vc vi wr => ∃ (c k : Nat), vc = .int .u8 (c : Int) ∧ c < 256 ∧ vi = .int .i64 (k : Int) ∧ k ≤ 2 ∧ Below w.heap.size w wr) (fun _ vi _ => 2 - (intOf vi).toNat)
      case atStart => exact ⟨c0.toNat, 0, by congr 1; omega, by omega, rfl, by omega, bz⟩
      case round =>
        obtain ⟨c, k, rfl, hc, rfl, hk, hb⟩ := hrel
        have hws := hb.size
        by_cases hk2 : k < 2
        · have hcv : (convert 33 9 (.slice (some ⟨wr.heap.size, 0, none⟩) 1 1)).run Tryd.prog (wr.alloc (.cells #[.int .u8 (c : Int)] 5)) = _ :=
            conv_cells _ _ 1 1 [(c : Int)] [c.toUInt8] rfl (by simp; omega) (cells_new _ _ _)
          go_wp2
          go_loopw [10, 11] (fun vs vj wr' => ∃ (S : ByteArray) (j : Nat), vs = .string S ∧ vj = .int .i64 (j : Int) ∧ j ≤ L ∧ S.size ≤ 42 + j ∧ Below w.heap.size w wr') (fun _ vj _ => L - (intOf vj).toNat)
          case atStart => exact ⟨_, 0, rfl, rfl, Nat.zero_le _, by rw [size_three]; omega, hb.alloc hb.size _⟩
          case round =>
            rename World => wq
            obtain ⟨S, j, rfl, rfl, hj, hS, hbq⟩ := hrel
            by_cases hj2 : j < L
            · obtain ⟨bb, oo, rfl, hlt, hcc⟩ := IsInts.at hv HL.out.symm (by omega)
              have g1 := hcc j hj2
              rw [← hbq.cell (p := ⟨bb, oo + j, none⟩) hlt] at g1
              obtain ⟨x, hx⟩ : ∃ x, x = xs.getD j 0 := ⟨_, rfl⟩
              rw [← hx] at g1
              have hyr := lowZ_range x 32 (by omega)
              obtain ⟨y, hy⟩ : ∃ y : Nat, lowZ x 32 = (y : Int) := ⟨(lowZ x 32).toNat, by omega⟩
              rw [hy] at hyr
              have hy32 : y < 32 := by omega
              have HY := Lib.hid hy
              clear hy hyr hcc hx
              go_wp2_with fail
              go_quiet (first | exact (Low_as (y : Int) x 32 _ (by omega) (by omega) HY.out).mono (by rintro e w' ⟨rfl, rfl⟩; exact ⟨rfl, _, rfl⟩))
              go_wp2
              go_roundw
              case rel => exact ⟨_, j + 1, rfl, by go_num, by omega, Nat.le_trans (size_ext _ _ _) (by omega), below_drewN hbq _⟩
              case measure => simp [intOf]; omega
            · obtain ⟨T, hT⟩ : ∃ T : ByteArray, T = S ++ be := ⟨_, rfl⟩
              have hTs : T.size ≤ 90 := by rw [hT, ByteArray.size_append]; omega
              obtain ⟨x, y, z, hx⟩ : ∃ x y z, escAt T (ah.size : Int) = (x, y, z) := ⟨_, _, _, rfl⟩
              have HX := Lib.hid hx
              have HT := Lib.hid hT
              obtain ⟨q, hq⟩ : ∃ q : Nat, q = c % 12 := ⟨_, rfl⟩
              have hq12 : q < 12 := by omega
              have hmod : (c : Int) % 12 = (q : Int) := by omega
              have hfs : formS.size = 12 := rfl
              have hix := run_byt_u formS q (by omega) .u8 (q : Int) rfl
              have hx256 : byt formS q < 256 := byt_lt _ _
              obtain ⟨x2, hx2⟩ : ∃ x2, x2 = byt formS q := ⟨_, rfl⟩
              rw [← hx2] at hix hx256
              unfold formS at hix
              clear hx hT hx2 hfs hq
              go_wp2_with fail
              rw [← HT.out]
              refine (Read_is x y z T (ah.size : Int) (by omega) HX.out wq (hE.below hbq)).mono ?_
              rintro e w1 ⟨rfl, b1⟩
              have b1' := tb2 hbq b1
              go_wp2_with fail
              refine (refEscape_is x y z T (ah.size : Int) (by omega) HX.out w1).mono ?_
              rintro e w2 ⟨rfl, b2⟩
              have b2' := tb2 b1' b2
              clear b1 b2 b1'
              go_wp2
              go_roundw
              case rel => exact ⟨x2, k + 1, rfl, hx256, by go_num, by omega, b2'⟩
              case measure => simp [intOf]; omega
        · have hk3 : k = 2 := by omega
          subst hk3
          go_wp2_with fail
          refine (awake5_any wr (hE.below hb)).mono ?_
          rintro e w1 ⟨rfl, b1⟩
          go_wp2
          go_ret
          exact ⟨rfl, tb2 hb b1⟩
theorem range8 {z : Int} (h : (Lit.int .u8 z).wf = true) : 0 ≤ z ∧ z ≤ 255 := by
  simp [Lit.wf, IntKind.min, IntKind.max, IntKind.signed, IntKind.bits] at h
  omega

end Go.Proofs.YtjkiobbjjmcmnaaDoor
