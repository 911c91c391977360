/- The statements on package note: the walk of NoteTabs, over what note.Skip and note.Within return (NoteC). Conditions: those that each theorem writes out. -/
import Derived.Test.YtomdhgbofocbbaaDoorNoteLaws
import Derived.Test.YtomdhgbofocbbaaDoorBlanks
import Derived.Test.YtomdhgbofocbbaaDoorQuotX
import Derived.Deep.RegionLaw
import Derived.Deep.DeepCutAuto
import Derived.Deep.DrawnRows
namespace Go.Proofs.YtomdhgbofocbbaaDoor
open Go.RowKit
attribute [local go_sem ↓] Go.wp_at_zero Go.wp_at_succ

theorem nt_in : ∀ (b : Fin 4) (k n : Fin 3), RowB (mkB (ntS b.val k.val n.val)) (ntS b.val k.val n.val).length (n.val + 2) ∧ RowE (mkB (ntS b.val k.val n.val)) (ntS b.val k.val n.val).length (ntS b.val k.val n.val).length ∧ InN (mkB (ntS b.val k.val n.val)) (n.val + 2) (ntS b.val k.val n.val).length b.val := by decide +kernel
theorem nt_tab (k : Nat) (h : k < 3) : (#[Value.string ⟨#[120]⟩, .string ⟨#[35, 32, 99]⟩, .string ⟨#[]⟩] : Array Value)[k]? = some (.string ⟨(ntL.getD k []).toArray⟩) := by
  match k, h with
  | 0, _ => rfl
  | 1, _ => rfl
  | 2, _ => rfl
theorem nt_len : ∀ (b : Fin 4) (k n : Fin 3), (ntS b.val k.val n.val).length ≤ 20 ∧ (ntL.getD k.val []).length ≤ 3 := by decide +kernel
/-- The three answers, and In, at each of the texts. -/
theorem nt_facts (b k n : Nat) (hb : b < 4) (hk : k < 3) (hn : n < 3) :
    (k = 0 → NoteZ (mkB (ntS b k n)) false 0 1 [] false ((n : Int) + 2 + (b : Int)) 4 ∧ NoteZ (mkB (ntS b k n)) true ((b : Int) - 1) 1 [] false ((n : Int) + 2 + (b : Int) + 1) 0 ∧ NoteZ (mkB (ntS b k n)) true (b : Int) 1 [] false ((n : Int) + 2 + (b : Int) + 1) 5) ∧
    (k ≠ 0 → NoteZ (mkB (ntS b k n)) false 0 1 (ntC k n) false ((mkB (ntS b k n)).size : Int) 0 ∧ NoteZ (mkB (ntS b k n)) true ((b : Int) - 1) 1 (ntC k n) false ((mkB (ntS b k n)).size : Int) 0 ∧ NoteZ (mkB (ntS b k n)) true (b : Int) 1 (ntC k n) false ((mkB (ntS b k n)).size : Int) 0) := by
  have h1 := NoteZ.tried (nt_skip ⟨b, hb⟩ ⟨k, hk⟩ ⟨n, hn⟩)
  have h2 := NoteZ.tried (nt_with ⟨b, hb⟩ ⟨k, hk⟩ ⟨n, hn⟩)
  have h3 := NoteZ.tried (nt_far ⟨b, hb⟩ ⟨k, hk⟩ ⟨n, hn⟩)
  dsimp only at h1 h2 h3
  refine ⟨fun h0 => ?_, fun h0 => ?_⟩
  · have e : ntC k n = [] := by rw [h0]; rfl
    rw [if_pos h0, if_pos h0, e] at h1
    rw [if_pos h0, e] at h2
    rw [if_pos h0, if_pos h0, if_pos h0] at h3
    have e1 : ((n + 2 + b : Nat) : Int) = (n : Int) + 2 + (b : Int) := by omega
    have e2 : ((n + 3 + b : Nat) : Int) = (n : Int) + 2 + (b : Int) + 1 := by omega
    rw [e1] at h1
    rw [e2] at h2 h3
    exact ⟨h1, h2, h3⟩
  · rw [if_neg h0, if_neg h0] at h1
    rw [if_neg h0] at h2
    rw [if_neg h0, if_neg h0, if_neg h0] at h3
    rw [mkB_size]
    exact ⟨h1, h2, h3⟩
theorem ntC_len (k n : Nat) (h0 : k ≠ 0) (hk : k < 3) : ((ntC k n).length : Int) = 2 - (k : Int) := by
  unfold ntC
  split
  · rename_i h; rw [h]; rfl
  · have : k = 2 := by omega
    rw [this]; rfl
set_option maxRecDepth 100000 in
set_option maxHeartbeats 6400000 in
theorem NoteTabs_walk (K : NoteC) (blanks which x : Int) (w : World) :
    Calls Tryd.prog 6 #[.int .i64 blanks, .int .i64 which, .int .i64 x] w fun e w' => e = .returned (.bool true) ∧ Below w.heap.size w w' := by
  have hr1 := lowZ_range blanks 4 (by omega)
  obtain ⟨b, hz1⟩ : ∃ z : Nat, lowZ blanks 4 = (z : Int) := ⟨(lowZ blanks 4).toNat, by omega⟩
  rw [hz1] at hr1
  have hr2 := lowZ_range which 3 (by omega)
  obtain ⟨k, hz2⟩ : ∃ z : Nat, lowZ which 3 = (z : Int) := ⟨(lowZ which 3).toNat, by omega⟩
  rw [hz2] at hr2
  have hr3 := lowZ_range x 3 (by omega)
  obtain ⟨n, hz3⟩ : ∃ z : Nat, lowZ x 3 = (z : Int) := ⟨(lowZ x 3).toNat, by omega⟩
  rw [hz3] at hr3
  have C1 := fun W => Low_is (b : Int) blanks 4 W (by omega) (by omega) hz1
  have C2 := fun W => Low_is (k : Int) which 3 W (by omega) (by omega) hz2
  have C3 := fun W => Low_is (n : Int) x 3 W (by omega) (by omega) hz3
  have hb4 : b < 4 := by omega
  have hk3 : k < 3 := by omega
  have hn3 : n < 3 := by omega
  clear hz1 hz2 hz3 hr1 hr2 hr3
  obtain ⟨G0, G1⟩ := nt_facts b k n hb4 hk3 hn3
  obtain ⟨i1, i2, i3⟩ := nt_in ⟨b, hb4⟩ ⟨k, hk3⟩ ⟨n, hn3⟩
  obtain ⟨sl, xl⟩ := nt_len ⟨b, hb4⟩ ⟨k, hk3⟩ ⟨n, hn3⟩
  dsimp only at i1 i2 i3 sl xl
  obtain ⟨SB, hSB⟩ : ∃ B : ByteArray, mkB (ntS b k n) = B := ⟨_, rfl⟩
  have hSz : SB.size = (ntS b k n).length := by rw [← hSB, mkB_size]
  rw [hSB] at G0 G1 i1 i2 i3
  rw [← hSz] at i1 i2 i3 sl
  have hcl : clampN (SB.size : Int) SB.size = SB.size := clampN_self _ _ (Nat.le_refl _)
  have CI := fun W => rowsIn_is (n + 2) SB.size b SB (SB.size : Int) W (by omega) (by rw [hcl]; exact i1) (by rw [hcl]; exact i2) i3
  obtain ⟨BB, hBB⟩ : ∃ B : ByteArray, mkB (blanksB b) = B := ⟨_, rfl⟩
  have hBs : BB.size = b := by rw [← hBB, mkB_size, blanks_len]
  have CB : ∀ W : World, Calls Tryd.prog 12 #[.int .i64 (b : Int)] W fun e w' => e = .returned (.string BB) ∧ W = w' := fun W => by rw [← hBB]; exact lawBlanks_is b _ W rfl (by omega)
  obtain ⟨X, hX⟩ : ∃ X : ByteArray, mkB (ntL.getD k []) = X := ⟨_, rfl⟩
  have hXs : X.size ≤ 3 := by rw [← hX, mkB_size]; exact xl
  have xT := nt_tab k hk3
  have xT2 : (#[Value.string ⟨#[120]⟩, .string ⟨#[35, 32, 99]⟩, .string ⟨#[]⟩] : Array Value)[k]? = some (.string X) := by rw [← hX]; exact xT
  have htab : ∀ W : World, (W.alloc (.cells #[.string ⟨#[120]⟩, .string ⟨#[35, 32, 99]⟩, .string ⟨#[]⟩] 9)).cell? ⟨W.heap.size, k, none⟩ = some (.string X) := fun W => by rw [World.cell?_alloc_mark]; exact xT2
  obtain ⟨S8, hS8⟩ : ∃ B : ByteArray, mkB ([119] ++ List.replicate (n + 1) 10) = B := ⟨_, rfl⟩
  have hS8s : S8.size = n + 2 := by rw [← hS8, mkB_size, List.length_append, List.length_replicate]; show 1 + (n + 1) = _; omega
  have hS9 : S8 ++ BB ++ (⟨#[9]⟩ : ByteArray) ++ X = SB := by
    rw [← hSB, ← hS8, ← hBB, ← hX]
    unfold ntS
    rw [← mkB_append, ← mkB_append, ← mkB_append]
    rfl
  have HS8 := Lib.hid hS8
  have GH : Hid ((k = 0 → NoteZ SB false 0 1 [] false ((n : Int) + 2 + (b : Int)) 4 ∧ NoteZ SB true ((b : Int) - 1) 1 [] false ((n : Int) + 2 + (b : Int) + 1) 0 ∧ NoteZ SB true (b : Int) 1 [] false ((n : Int) + 2 + (b : Int) + 1) 5) ∧ (k ≠ 0 → NoteZ SB false 0 1 (ntC k n) false (SB.size : Int) 0 ∧ NoteZ SB true ((b : Int) - 1) 1 (ntC k n) false (SB.size : Int) 0 ∧ NoteZ SB true (b : Int) 1 (ntC k n) false (SB.size : Int) 0)) := ⟨G0, G1⟩
  clear G0 G1 i1 i2 i3 hSB hSz hcl hBB hX xT xT2 hS8 xl
  go_enter Tryd.func6, Tryd.ntmps6
  go_wp2_with (go_at_call 9; refine (C1 _).mono ?_; rintro e w9 ⟨rfl, rfl⟩)
  go_loopw [8, 9] (fun v8 v9 wx => ∃ j : Nat, v9 = .int .i64 (j : Int) ∧ v8 = .string (mkB ([119] ++ List.replicate j 10)) ∧ j ≤ n + 1 ∧ wx = w) (fun _ v9 _ => n + 1 - (intOf v9).toNat)
  case atStart => exact ⟨0, rfl, rfl, Nat.zero_le _, (by first | rfl | trivial)⟩
  case round =>
    obtain ⟨j, rfl, rfl, hj, hwx⟩ := hrel
    by_cases hjn : j ≤ n
    · have hls : (mkB ([119] ++ List.replicate j 10)).size = j + 1 := by rw [mkB_size, List.length_append, List.length_replicate]; show 1 + j = _; omega
      have hnx : mkB ([119] ++ List.replicate j 10) ++ (⟨#[10]⟩ : ByteArray) = mkB ([119] ++ List.replicate (j + 1) 10) := by
        rw [List.replicate_succ', ← List.append_assoc]
        exact mkB_append _ [10]
      obtain ⟨SA, hSA⟩ : ∃ B : ByteArray, mkB ([119] ++ List.replicate j 10) = B := ⟨_, rfl⟩
      obtain ⟨SN, hSN⟩ : ∃ B : ByteArray, mkB ([119] ++ List.replicate (j + 1) 10) = B := ⟨_, rfl⟩
      rw [hSA] at hls hnx ⊢
      rw [hSN] at hnx
      have HSN := Lib.hid hSN
      clear hSA hSN
      go_wp2_with (go_at_call 9; refine (C3 _).mono ?_; rintro e w9 ⟨rfl, rfl⟩)
      go_roundw
      case rel => exact ⟨j + 1, by go_num, by rw [HSN.out], by omega, (by first | rfl | trivial)⟩
      case measure => simp [intOf]; omega
    · obtain rfl : j = n + 1 := by omega
      rw [HS8.out]
      have hj1 : ¬ (((n + 1 : Nat) : Int) ≤ (n : Int)) := by omega
      have hat : (S8.size : Int) + (b : Int) = (n : Int) + 2 + (b : Int) := by omega
      go_wp2_with fail
      refine (C3 _).mono ?_
      rintro e w9 ⟨rfl, rfl⟩
      go_upto_region 9 with (go_at_call 9; refine (C2 _).mono ?_; rintro e w9 ⟨rfl, rfl⟩)
      go_cut [8] (fun v8 wx => v8 = .string SB ∧ Below w.heap.size w wx)
      case first =>
        have htd := htab w
        have hbd : Below w.heap.size w (w.alloc (.cells #[.string ⟨#[120]⟩, .string ⟨#[35, 32, 99]⟩, .string ⟨#[]⟩] 9)).drew := below_drewN ((Below.refl _ w).alloc (Nat.le_refl _) _) 1
        have hki : (k : Int) < 3 := by omega
        have hnl1 : ¬ (9223372036854775807 < n + 2 + b) := by omega
        have hnl2 : ¬ (9223372036854775807 < n + 2 + b + 1) := by omega
        have hnl3 : ¬ (9223372036854775807 < n + 2 + b + 1 + X.size) := by omega
        clear htab
        go_region_law (first | (go_simp; go_at_call 12; refine (CB _).mono ?_; rintro e w9 ⟨rfl, rfl⟩))
        all_goals (go_wp2; go_meet; case rel => exact ⟨rfl, hbd⟩)
      case rest =>
        obtain ⟨rfl, hb0⟩ := hcut
        by_cases hk0 : k = 0
        · obtain ⟨z1, z2, z3⟩ := GH.out.1 hk0
          have CK1 := fun W => K.skip [] false ((n : Int) + 2 + (b : Int)) 4 SB 1 W (by omega) z1
          have CK2 := fun W => K.within [] false ((n : Int) + 2 + (b : Int) + 1) 0 SB 1 ((b : Int) - 1) W (by omega) z2
          have CK3 := fun W => K.within [] false ((n : Int) + 2 + (b : Int) + 1) 5 SB 1 (b : Int) W (by omega) z3
          have hkb : ((k : Int) == 0) = true := by simp; omega
          have hl0 : ([] : List (List UInt8 × Nat)).length = 0 := rfl
          clear z1 z2 z3 GH hk0 CI htab
          go_wp2_with fail
          refine (CK1 _).mono ?_
          rintro e w1 ⟨v1, rfl, hv1, hb1⟩
          obtain ⟨a1, p1, rfl, q1⟩ := hv1.form
          have h1 := hb0.trans (hb1.mono hb0.size)
          go_wp2_with fail
          refine (CK2 _).mono ?_
          rintro e w2 ⟨v2, rfl, hv2, hb2⟩
          obtain ⟨a2, p2, rfl, q2⟩ := hv2.form
          have h2 := h1.trans (hb2.mono h1.size)
          go_wp2_with fail
          refine (CK3 _).mono ?_
          rintro e w3 ⟨v3, rfl, hv3, hb3⟩
          obtain ⟨a3, p3, rfl, q3⟩ := hv3.form
          have h3 := h2.trans (hb3.mono h2.size)
          clear hv1 hv2 hv3 hb1 hb2 hb3 CK1 CK2 CK3
          go_wp2_with fail
          refine (awake15_true K _).mono ?_
          rintro e w4 ⟨rfl, hb4⟩
          go_wp2
          go_ret
          exact ⟨rfl, h3.trans (hb4.mono h3.size)⟩
        · obtain ⟨z1, z2, z3⟩ := GH.out.2 hk0
          have CK1 := fun W => K.skip (ntC k n) false (SB.size : Int) 0 SB 1 W (by omega) z1
          have CK2 := fun W => K.within (ntC k n) false (SB.size : Int) 0 SB 1 ((b : Int) - 1) W (by omega) z2
          have CK3 := fun W => K.within (ntC k n) false (SB.size : Int) 0 SB 1 (b : Int) W (by omega) z3
          have hkb : ((k : Int) == 0) = false := by rw [beq_eq_false_iff_ne]; omega
          have hL := ntC_len k n hk0 hk3
          clear z1 z2 z3 GH hk0 htab
          go_wp2_with fail
          refine (CK1 _).mono ?_
          rintro e w1 ⟨v1, rfl, hv1, hb1⟩
          obtain ⟨a1, p1, rfl, q1⟩ := hv1.form
          have h1 := hb0.trans (hb1.mono hb0.size)
          go_wp2_with fail
          refine (CK2 _).mono ?_
          rintro e w2 ⟨v2, rfl, hv2, hb2⟩
          obtain ⟨a2, p2, rfl, q2⟩ := hv2.form
          have h2 := h1.trans (hb2.mono h1.size)
          go_wp2_with fail
          refine (CK3 _).mono ?_
          rintro e w3 ⟨v3, rfl, hv3, hb3⟩
          obtain ⟨a3, p3, rfl, q3⟩ := hv3.form
          have h3 := h2.trans (hb3.mono h2.size)
          clear hv1 hv2 hv3 hb1 hb2 hb3 CK1 CK2 CK3
          go_wp2_with fail
          refine (CI _).mono ?_
          rintro e w9 ⟨rfl, rfl⟩
          go_wp2_with fail
          refine (awake15_true K _).mono ?_
          rintro e w4 ⟨rfl, hb4⟩
          go_wp2
          go_ret
          exact ⟨rfl, h3.trans (hb4.mono h3.size)⟩
end Go.Proofs.YtomdhgbofocbbaaDoor
