/- The document's answers of chapter 5: 'ShowRune': what it returns. Conditions: none beside those that each theorem writes out. -/
import Derived.Test.YtjkiobbjjmcmnaaDoorEscaRef
import Derived.Test.YtjkiobbjjmcmnaaDoorText
namespace Go.Proofs.YtjkiobbjjmcmnaaDoor
open Go.RowKit

theorem lett_told (j : Nat) (hj : j < 9) : U.lett ((toldN j : Nat) : Int) = some (byt letS j) := by
  have H : ∀ x : Fin 9, U.lett ((toldN x.val : Nat) : Int) = some (byt letS x.val) := by decide +kernel
  exact H ⟨j, hj⟩
theorem ext_letS (j : Nat) (hj : j < 9) : letS.extract j (j + 1) = ⟨#[(byt letS j).toUInt8]⟩ := by
  have H : ∀ x : Fin 9, letS.extract x.val (x.val + 1) = ⟨#[(byt letS x.val).toUInt8]⟩ := by decide +kernel
  exact H ⟨j, hj⟩
def hexS : ByteArray := ⟨#[48, 49, 50, 51, 52, 53, 54, 55, 56, 57, 97, 98, 99, 100, 101, 102]⟩
theorem ext_hexS (d : Nat) (hd : d < 16) : hexS.extract d (d + 1) = ⟨#[U.dig d]⟩ := by
  have H : ∀ x : Fin 16, hexS.extract x.val (x.val + 1) = ⟨#[U.dig x.val]⟩ := by decide +kernel
  exact H ⟨d, hd⟩
theorem digit_bits (r : Int) (u i : Nat) (hu : r = (u : Int)) (h : r ≤ 1114111) : bits .and .i32 (r / 2 ^ (4 * i)) 15 = ((u / 16 ^ i % 16 : Nat) : Int) := by
  have e0 : (2 : Nat) ^ (4 * i) = 16 ^ i := by rw [Nat.pow_mul]
  have h1 : u / 16 ^ i ≤ u := Nat.div_le_self _ _
  have e1 : r / 2 ^ (4 * i) = ((u / 16 ^ i : Nat) : Int) := by
    rw [hu, ← e0]
    norm_cast
  rw [e1]
  generalize u / 16 ^ i = y at h1
  have := bits_mask .i32 31 (by decide) wraps_i32 4 (by decide) (y : Int) (by omega) (by omega)
  simp at this
  omega

set_option maxRecDepth 100000 in
set_option maxHeartbeats 4000000 in
theorem refShow_num2 (r : Int) (hs : U.scalar r = true) (hn : U.lett r = none) (hp : U.prn r = false) (h1 : r ≤ 255) (w : World) :
    Calls Tryd.prog 12 #[.int .i32 r] w fun e w' => e = .returned (.string ⟨(U.numd r.toNat).toArray⟩) ∧ Below w.heap.size w w' := by
  have hr := U.scalar_range hs
  obtain ⟨r0, r1, r2⟩ := hr
  have hl := U.lett_none hn
  have g34 : (r == 34) = false := by simp; omega
  have g92 : (r == 92) = false := by simp; omega
  have hu : r = (r.toNat : Int) := by omega
  obtain ⟨u, hu2⟩ : ∃ u, u = r.toNat := ⟨_, rfl⟩
  rw [← hu2] at hu ⊢
  have hdb : ∀ i, bits .and .i32 (r / 2 ^ (4 * i)) 15 = ((u / 16 ^ i % 16 : Nat) : Int) := fun i => digit_bits r u i hu r1
  obtain ⟨out, hout⟩ : ∃ out, out = U.numd u := ⟨_, rfl⟩
  rw [← hout]
  have ho : 92 :: 120 :: U.hexM 2 u = out := by rw [hout]; unfold U.numd; rw [if_pos (by omega)]
  have HDB := Lib.hid hdb
  have HO := Lib.hid ho
  have HS := Lib.hid hs
  have HP := Lib.hid hp
  have HNE : Hid (∀ j, j < 9 → ((toldN j : Int) == r) = false) := by
    intro j hj
    have h1 := lett_told j hj
    simp
    intro e
    rw [e, hn] at h1
    cases h1
  clear hs hp hn r2 hl hu hu2 hdb hout ho
  go_enter Tryd.func12, Tryd.ntmps12
  go_wp2_with (go_at_call 23; refine (refScalar_any true _ _ HS.out).mono ?_; rintro e w' ⟨rfl, rfl⟩)
  go_loop [3] (fun vi => ∃ j : Nat, vi = .int .i64 (j : Int) ∧ j ≤ 9) (fun vi => 9 - (intOf vi).toNat)
  case atStart => exact ⟨0, rfl, by omega⟩
  case round =>
    obtain ⟨j, rfl, hj⟩ := hrel
    by_cases hj2 : j < 9
    · have hne : ((toldN j : Int) == r) = false := HNE.out j hj2
      obtain ⟨v, hv⟩ : ∃ v, v = (toldN j : Int) := ⟨_, rfl⟩
      rw [← hv] at hne
      have HV := Lib.hid hv
      clear hv
      go_wp2_with (go_at_call 21; refine (told_is j (by omega) v HV.out.symm _).mono ?_; rintro e w' ⟨rfl, rfl⟩)
      go_round
      case rel => exact ⟨j + 1, by go_num, by omega⟩
      case measure => simp [intOf]; omega
    · have hj9 : j = 9 := by omega
      subst hj9
      clear hj hj2
      go_wp2_with (go_at_call 28; refine (refPrintable_is false _ _ HP.out).mono ?_; rintro e w' ⟨rfl, rfl⟩)
      go_loop [5, 6] (fun vs vi => ∃ (m : Nat) (q : Int) (acc : List UInt8), vs = .string ⟨acc.toArray⟩ ∧ vi = .int .i64 q ∧ acc.length + m ≤ 10 ∧ m ≤ 2 ∧ Hid (q = (m : Int) - 1 ∧ acc ++ U.hexM m u = out)) (fun _ vi => (intOf vi + 1).toNat)
      case atStart => exact ⟨2, _, [92, 120], rfl, rfl, by simp, by omega, rfl, HO.out⟩
      case round =>
        obtain ⟨m, q, acc, rfl, rfl, hal, hm, HH⟩ := hrel
        by_cases hq : 0 ≤ q
        · obtain ⟨i, rfl⟩ : ∃ i : Nat, q = (i : Int) := ⟨q.toNat, by omega⟩
          obtain ⟨h1, h2⟩ := HH.out
          obtain rfl : m = i + 1 := by omega
          have hi2 : i < 2 := by omega
          have hac : acc.length ≤ 10 := by omega
          obtain ⟨d, hd⟩ : ∃ d, d = u / 16 ^ i % 16 := ⟨_, rfl⟩
          have hd16 : d < 16 := by rw [hd]; exact Nat.mod_lt _ (by decide)
          have hb := HDB.out i
          rw [← hd] at hb
          have hex := ext_hexS d hd16
          unfold hexS at hex
          rw [U.hexM, ← hd] at h2
          have H2 : Hid ((acc ++ [U.dig d]) ++ U.hexM i u = out) := by show _ = _; rw [← h2]; simp
          have HAL := Lib.hid hal
          clear h1 h2 HH hd hm hal
          go_wp2
          go_round
          case rel => exact ⟨i, _, acc ++ [U.dig d], congrArg Value.string (ByteArray.mk_append_mk acc [U.dig d]), rfl, by have := HAL.out; simp; omega, by omega, rfl, H2.out⟩
          case measure => simp [intOf]
        · obtain ⟨h1, h2⟩ := HH.out
          obtain rfl : m = 0 := by omega
          rw [U.hexM, List.append_nil] at h2
          have H2 := Lib.hid h2
          clear h1 h2 HH
          go_wp2
          go_ret
          exact ⟨by rw [← H2.out]; rfl, Below.refl _ _⟩

set_option maxRecDepth 100000 in
set_option maxHeartbeats 4000000 in
theorem refShow_num4 (r : Int) (hs : U.scalar r = true) (hn : U.lett r = none) (hp : U.prn r = false) (h1 : 255 < r) (h2 : r ≤ 65535) (w : World) :
    Calls Tryd.prog 12 #[.int .i32 r] w fun e w' => e = .returned (.string ⟨(U.numd r.toNat).toArray⟩) ∧ Below w.heap.size w w' := by
  have hr := U.scalar_range hs
  obtain ⟨r0, r1, r2⟩ := hr
  have hl := U.lett_none hn
  have g34 : (r == 34) = false := by simp; omega
  have g92 : (r == 92) = false := by simp; omega
  have hu : r = (r.toNat : Int) := by omega
  obtain ⟨u, hu2⟩ : ∃ u, u = r.toNat := ⟨_, rfl⟩
  rw [← hu2] at hu ⊢
  have hdb : ∀ i, bits .and .i32 (r / 2 ^ (4 * i)) 15 = ((u / 16 ^ i % 16 : Nat) : Int) := fun i => digit_bits r u i hu r1
  obtain ⟨out, hout⟩ : ∃ out, out = U.numd u := ⟨_, rfl⟩
  rw [← hout]
  have ho : 92 :: 117 :: U.hexM 4 u = out := by rw [hout]; unfold U.numd; rw [if_neg (by omega), if_pos (by omega)]
  have HDB := Lib.hid hdb
  have HO := Lib.hid ho
  have HS := Lib.hid hs
  have HP := Lib.hid hp
  have HNE : Hid (∀ j, j < 9 → ((toldN j : Int) == r) = false) := by
    intro j hj
    have h1 := lett_told j hj
    simp
    intro e
    rw [e, hn] at h1
    cases h1
  clear hs hp hn r2 hl hu hu2 hdb hout ho
  go_enter Tryd.func12, Tryd.ntmps12
  go_wp2_with (go_at_call 23; refine (refScalar_any true _ _ HS.out).mono ?_; rintro e w' ⟨rfl, rfl⟩)
  go_loop [3] (fun vi => ∃ j : Nat, vi = .int .i64 (j : Int) ∧ j ≤ 9) (fun vi => 9 - (intOf vi).toNat)
  case atStart => exact ⟨0, rfl, by omega⟩
  case round =>
    obtain ⟨j, rfl, hj⟩ := hrel
    by_cases hj2 : j < 9
    · have hne : ((toldN j : Int) == r) = false := HNE.out j hj2
      obtain ⟨v, hv⟩ : ∃ v, v = (toldN j : Int) := ⟨_, rfl⟩
      rw [← hv] at hne
      have HV := Lib.hid hv
      clear hv
      go_wp2_with (go_at_call 21; refine (told_is j (by omega) v HV.out.symm _).mono ?_; rintro e w' ⟨rfl, rfl⟩)
      go_round
      case rel => exact ⟨j + 1, by go_num, by omega⟩
      case measure => simp [intOf]; omega
    · have hj9 : j = 9 := by omega
      subst hj9
      clear hj hj2
      go_wp2_with (go_at_call 28; refine (refPrintable_is false _ _ HP.out).mono ?_; rintro e w' ⟨rfl, rfl⟩)
      go_loop [5, 6] (fun vs vi => ∃ (m : Nat) (q : Int) (acc : List UInt8), vs = .string ⟨acc.toArray⟩ ∧ vi = .int .i64 q ∧ acc.length + m ≤ 10 ∧ m ≤ 4 ∧ Hid (q = (m : Int) - 1 ∧ acc ++ U.hexM m u = out)) (fun _ vi => (intOf vi + 1).toNat)
      case atStart => exact ⟨4, _, [92, 117], rfl, rfl, by simp, by omega, rfl, HO.out⟩
      case round =>
        obtain ⟨m, q, acc, rfl, rfl, hal, hm, HH⟩ := hrel
        by_cases hq : 0 ≤ q
        · obtain ⟨i, rfl⟩ : ∃ i : Nat, q = (i : Int) := ⟨q.toNat, by omega⟩
          obtain ⟨h1, h2⟩ := HH.out
          obtain rfl : m = i + 1 := by omega
          have hi2 : i < 4 := by omega
          have hac : acc.length ≤ 10 := by omega
          obtain ⟨d, hd⟩ : ∃ d, d = u / 16 ^ i % 16 := ⟨_, rfl⟩
          have hd16 : d < 16 := by rw [hd]; exact Nat.mod_lt _ (by decide)
          have hb := HDB.out i
          rw [← hd] at hb
          have hex := ext_hexS d hd16
          unfold hexS at hex
          rw [U.hexM, ← hd] at h2
          have H2 : Hid ((acc ++ [U.dig d]) ++ U.hexM i u = out) := by show _ = _; rw [← h2]; simp
          have HAL := Lib.hid hal
          clear h1 h2 HH hd hm hal
          go_wp2
          go_round
          case rel => exact ⟨i, _, acc ++ [U.dig d], congrArg Value.string (ByteArray.mk_append_mk acc [U.dig d]), rfl, by have := HAL.out; simp; omega, by omega, rfl, H2.out⟩
          case measure => simp [intOf]
        · obtain ⟨h1, h2⟩ := HH.out
          obtain rfl : m = 0 := by omega
          rw [U.hexM, List.append_nil] at h2
          have H2 := Lib.hid h2
          clear h1 h2 HH
          go_wp2
          go_ret
          exact ⟨by rw [← H2.out]; rfl, Below.refl _ _⟩

set_option maxRecDepth 100000 in
set_option maxHeartbeats 4000000 in
theorem refShow_num8 (r : Int) (hs : U.scalar r = true) (hn : U.lett r = none) (hp : U.prn r = false) (h1 : 65535 < r) (w : World) :
    Calls Tryd.prog 12 #[.int .i32 r] w fun e w' => e = .returned (.string ⟨(U.numd r.toNat).toArray⟩) ∧ Below w.heap.size w w' := by
  have hr := U.scalar_range hs
  obtain ⟨r0, r1, r2⟩ := hr
  have hl := U.lett_none hn
  have g34 : (r == 34) = false := by simp; omega
  have g92 : (r == 92) = false := by simp; omega
  have hu : r = (r.toNat : Int) := by omega
  obtain ⟨u, hu2⟩ : ∃ u, u = r.toNat := ⟨_, rfl⟩
  rw [← hu2] at hu ⊢
  have hdb : ∀ i, bits .and .i32 (r / 2 ^ (4 * i)) 15 = ((u / 16 ^ i % 16 : Nat) : Int) := fun i => digit_bits r u i hu r1
  obtain ⟨out, hout⟩ : ∃ out, out = U.numd u := ⟨_, rfl⟩
  rw [← hout]
  have ho : 92 :: 85 :: U.hexM 8 u = out := by rw [hout]; unfold U.numd; rw [if_neg (by omega), if_neg (by omega)]
  have HDB := Lib.hid hdb
  have HO := Lib.hid ho
  have HS := Lib.hid hs
  have HP := Lib.hid hp
  have HNE : Hid (∀ j, j < 9 → ((toldN j : Int) == r) = false) := by
    intro j hj
    have h1 := lett_told j hj
    simp
    intro e
    rw [e, hn] at h1
    cases h1
  clear hs hp hn r2 hl hu hu2 hdb hout ho
  go_enter Tryd.func12, Tryd.ntmps12
  go_wp2_with (go_at_call 23; refine (refScalar_any true _ _ HS.out).mono ?_; rintro e w' ⟨rfl, rfl⟩)
  go_loop [3] (fun vi => ∃ j : Nat, vi = .int .i64 (j : Int) ∧ j ≤ 9) (fun vi => 9 - (intOf vi).toNat)
  case atStart => exact ⟨0, rfl, by omega⟩
  case round =>
    obtain ⟨j, rfl, hj⟩ := hrel
    by_cases hj2 : j < 9
    · have hne : ((toldN j : Int) == r) = false := HNE.out j hj2
      obtain ⟨v, hv⟩ : ∃ v, v = (toldN j : Int) := ⟨_, rfl⟩
      rw [← hv] at hne
      have HV := Lib.hid hv
      clear hv
      go_wp2_with (go_at_call 21; refine (told_is j (by omega) v HV.out.symm _).mono ?_; rintro e w' ⟨rfl, rfl⟩)
      go_round
      case rel => exact ⟨j + 1, by go_num, by omega⟩
      case measure => simp [intOf]; omega
    · have hj9 : j = 9 := by omega
      subst hj9
      clear hj hj2
      go_wp2_with (go_at_call 28; refine (refPrintable_is false _ _ HP.out).mono ?_; rintro e w' ⟨rfl, rfl⟩)
      go_loop [5, 6] (fun vs vi => ∃ (m : Nat) (q : Int) (acc : List UInt8), vs = .string ⟨acc.toArray⟩ ∧ vi = .int .i64 q ∧ acc.length + m ≤ 10 ∧ m ≤ 8 ∧ Hid (q = (m : Int) - 1 ∧ acc ++ U.hexM m u = out)) (fun _ vi => (intOf vi + 1).toNat)
      case atStart => exact ⟨8, _, [92, 85], rfl, rfl, by simp, by omega, rfl, HO.out⟩
      case round =>
        obtain ⟨m, q, acc, rfl, rfl, hal, hm, HH⟩ := hrel
        by_cases hq : 0 ≤ q
        · obtain ⟨i, rfl⟩ : ∃ i : Nat, q = (i : Int) := ⟨q.toNat, by omega⟩
          obtain ⟨h1, h2⟩ := HH.out
          obtain rfl : m = i + 1 := by omega
          have hi2 : i < 8 := by omega
          have hac : acc.length ≤ 10 := by omega
          obtain ⟨d, hd⟩ : ∃ d, d = u / 16 ^ i % 16 := ⟨_, rfl⟩
          have hd16 : d < 16 := by rw [hd]; exact Nat.mod_lt _ (by decide)
          have hb := HDB.out i
          rw [← hd] at hb
          have hex := ext_hexS d hd16
          unfold hexS at hex
          rw [U.hexM, ← hd] at h2
          have H2 : Hid ((acc ++ [U.dig d]) ++ U.hexM i u = out) := by show _ = _; rw [← h2]; simp
          have HAL := Lib.hid hal
          clear h1 h2 HH hd hm hal
          go_wp2
          go_round
          case rel => exact ⟨i, _, acc ++ [U.dig d], congrArg Value.string (ByteArray.mk_append_mk acc [U.dig d]), rfl, by have := HAL.out; simp; omega, by omega, rfl, H2.out⟩
          case measure => simp [intOf]
        · obtain ⟨h1, h2⟩ := HH.out
          obtain rfl : m = 0 := by omega
          rw [U.hexM, List.append_nil] at h2
          have H2 := Lib.hid h2
          clear h1 h2 HH
          go_wp2
          go_ret
          exact ⟨by rw [← H2.out]; rfl, Below.refl _ _⟩

set_option maxRecDepth 100000 in
set_option maxHeartbeats 4000000 in
theorem refShow_self (r : Int) (hs : U.scalar r = true) (hn : U.lett r = none) (hp : U.prn r = true) (w : World) :
    Calls Tryd.prog 12 #[.int .i32 r] w fun e w' => e = .returned (.string ⟨(Lib.encodeRune r).toArray⟩) ∧ Below w.heap.size w w' := by
  have hr := U.scalar_range hs
  obtain ⟨r0, r1, r2⟩ := hr
  have hl := U.lett_none hn
  have g34 : (r == 34) = false := by simp; omega
  have g92 : (r == 92) = false := by simp; omega
  have HS := Lib.hid hs
  have HP := Lib.hid hp
  have HNE : Hid (∀ j, j < 9 → ((toldN j : Int) == r) = false) := by
    intro j hj
    have h1 := lett_told j hj
    simp
    intro e
    rw [e, hn] at h1
    cases h1
  clear hs hp hn r2 hl
  go_enter Tryd.func12, Tryd.ntmps12
  go_wp2_with (go_at_call 23; refine (refScalar_any true _ _ HS.out).mono ?_; rintro e w' ⟨rfl, rfl⟩)
  go_loop [3] (fun vi => ∃ j : Nat, vi = .int .i64 (j : Int) ∧ j ≤ 9) (fun vi => 9 - (intOf vi).toNat)
  case atStart => exact ⟨0, rfl, by omega⟩
  case round =>
    obtain ⟨j, rfl, hj⟩ := hrel
    by_cases hj2 : j < 9
    · have hne : ((toldN j : Int) == r) = false := HNE.out j hj2
      obtain ⟨v, hv⟩ : ∃ v, v = (toldN j : Int) := ⟨_, rfl⟩
      rw [← hv] at hne
      have HV := Lib.hid hv
      clear hv
      go_wp2_with (go_at_call 21; refine (told_is j (by omega) v HV.out.symm _).mono ?_; rintro e w' ⟨rfl, rfl⟩)
      go_round
      case rel => exact ⟨j + 1, by go_num, by omega⟩
      case measure => simp [intOf]; omega
    · have hj9 : j = 9 := by omega
      subst hj9
      clear hj hj2
      go_wp2_with (first | (go_at_call 28; refine (refPrintable_is true _ _ HP.out).mono ?_; rintro e w' ⟨rfl, rfl⟩) | (go_at_call 29; refine (refBytes_any _ _ (by omega) (by omega)).mono ?_; rintro e w1 ⟨rfl, b1⟩))
      go_ret
      exact ⟨rfl, b1⟩

set_option maxRecDepth 100000 in
set_option maxHeartbeats 4000000 in
theorem refShow_bad (r : Int) (h : U.scalar r = false) (w : World) :
    Calls Tryd.prog 12 #[.int .i32 r] w fun e w' => e = .returned (.string ⟨(U.shw r).toArray⟩) ∧ Below w.heap.size w w' := by
  have ho : Lib.encodeRune 65533 = U.shw r := by
    unfold U.shw U.fix
    rw [h, if_neg (by simp)]
    decide +kernel
  have HO := Lib.hid ho
  have HS := Lib.hid h
  have hp : U.prn 65533 = true := by decide
  have HP := Lib.hid hp
  have HNE : Hid (∀ j, j < 9 → ((toldN j : Int) == 65533) = false) := by
    intro j hj
    have H : ∀ x : Fin 9, ((toldN x.val : Int) == 65533) = false := by decide +kernel
    exact H ⟨j, hj⟩
  clear ho h hp
  go_enter Tryd.func12, Tryd.ntmps12
  go_wp2_with (go_at_call 23; refine (refScalar_any false _ _ HS.out).mono ?_; rintro e w' ⟨rfl, rfl⟩)
  go_loop [3] (fun vi => ∃ j : Nat, vi = .int .i64 (j : Int) ∧ j ≤ 9) (fun vi => 9 - (intOf vi).toNat)
  case atStart => exact ⟨0, rfl, by omega⟩
  case round =>
    obtain ⟨j, rfl, hj⟩ := hrel
    by_cases hj2 : j < 9
    · have hne : ((toldN j : Int) == 65533) = false := HNE.out j hj2
      obtain ⟨v, hv⟩ : ∃ v, v = (toldN j : Int) := ⟨_, rfl⟩
      rw [← hv] at hne
      have HV := Lib.hid hv
      clear hv
      go_wp2_with (go_at_call 21; refine (told_is j (by omega) v HV.out.symm _).mono ?_; rintro e w' ⟨rfl, rfl⟩)
      go_round
      case rel => exact ⟨j + 1, by go_num, by omega⟩
      case measure => simp [intOf]; omega
    · have hj9 : j = 9 := by omega
      subst hj9
      clear hj hj2
      go_wp2_with (first | (go_at_call 28; refine (refPrintable_is true _ _ HP.out).mono ?_; rintro e w' ⟨rfl, rfl⟩) | (go_at_call 29; refine (refBytes_any _ _ (by omega) (by omega)).mono ?_; rintro e w1 ⟨rfl, b1⟩))
      go_ret
      exact ⟨by rw [← HO.out]; rfl, b1⟩

set_option maxRecDepth 100000 in
set_option maxHeartbeats 4000000 in
theorem refShow_lett (r : Int) (c : Nat) (hc : U.lett r = some c) (w : World) :
    Calls Tryd.prog 12 #[.int .i32 r] w fun e w' => e = .returned (.string ⟨([92, c.toUInt8] : List UInt8).toArray⟩) ∧ Below w.heap.size w w' := by
  by_cases h34 : r = 34
  · subst h34
    obtain rfl : c = 34 := by have := U.lett_cases hc; omega
    clear hc
    go_enter Tryd.func12, Tryd.ntmps12
    go_wp2_with (go_at_call 23; refine (refScalar_any true _ _ (by decide)).mono ?_; rintro e w' ⟨rfl, rfl⟩)
    go_ret
    exact ⟨rfl, Below.refl _ _⟩
  · by_cases h92 : r = 92
    · subst h92
      obtain rfl : c = 92 := by have := U.lett_cases hc; omega
      clear hc h34
      go_enter Tryd.func12, Tryd.ntmps12
      go_wp2_with (go_at_call 23; refine (refScalar_any true _ _ (by decide)).mono ?_; rintro e w' ⟨rfl, rfl⟩)
      go_ret
      exact ⟨rfl, Below.refl _ _⟩
    · have hr : 0 ≤ r ∧ r ≤ 27 := by have := U.lett_cases hc; omega
      obtain ⟨r0, r1⟩ := hr
      have hs : U.scalar r = true := by unfold U.scalar; rw [decide_eq_true_eq]; omega
      have g34 : (r == 34) = false := by simp; omega
      have g92 : (r == 92) = false := by simp; omega
      have hex : ¬ ∀ j, j < 9 → ((toldN j : Int) == r) = false := by
        intro hall
        have H : ∀ j, j < 9 → (toldN j : Int) ≠ r := fun j hj e => by have := hall j hj; simp at this; exact this e
        have a0 := H 0 (by decide); have a1 := H 1 (by decide); have a2 := H 2 (by decide); have a3 := H 3 (by decide); have a4 := H 4 (by decide); have a5 := H 5 (by decide); have a6 := H 6 (by decide); have a7 := H 7 (by decide); have a8 := H 8 (by decide)
        simp [toldN] at a0 a1 a2 a3 a4 a5 a6 a7 a8
        have := U.lett_cases hc
        omega
      have HEX := Lib.hid hex
      have HS := Lib.hid hs
      have HC := Lib.hid hc
      clear hex hs hc h34 h92
      go_enter Tryd.func12, Tryd.ntmps12
      go_wp2_with (go_at_call 23; refine (refScalar_any true _ _ HS.out).mono ?_; rintro e w' ⟨rfl, rfl⟩)
      go_loop [3] (fun vi => ∃ j : Nat, vi = .int .i64 (j : Int) ∧ j ≤ 9 ∧ Hid (∀ m, m < j → ((toldN m : Int) == r) = false)) (fun vi => 9 - (intOf vi).toNat)
      case atStart => exact ⟨0, rfl, by omega, fun m hm => by omega⟩
      case round =>
        obtain ⟨j, rfl, hj, HJ⟩ := hrel
        by_cases hj2 : j < 9
        · obtain ⟨v, hv⟩ : ∃ v, v = (toldN j : Int) := ⟨_, rfl⟩
          have HV := Lib.hid hv
          cases hvr : (v == r) with
          | true =>
            have hvr2 : v = r := by simpa using hvr
            have hl := lett_told j hj2
            rw [← hv, hvr2, HC.out] at hl
            have hext := ext_letS j hj2
            have hbc : byt letS j = c := (Option.some.inj hl).symm
            rw [hbc] at hext
            unfold letS at hext
            clear hv hvr2 hl hbc
            go_wp2_with (go_at_call 21; refine (told_is j (by omega) v HV.out.symm _).mono ?_; rintro e w' ⟨rfl, rfl⟩)
            go_ret
            exact ⟨rfl, Below.refl _ _⟩
          | false =>
            have HN : Hid (∀ m, m < j + 1 → ((toldN m : Int) == r) = false) := by
              intro m hm
              by_cases hmj : m < j
              · exact HJ.out m hmj
              · rw [show m = j from by omega, ← hv]; exact hvr
            clear hv
            go_wp2_with (go_at_call 21; refine (told_is j (by omega) v HV.out.symm _).mono ?_; rintro e w' ⟨rfl, rfl⟩)
            go_round
            case rel => exact ⟨j + 1, by go_num, by omega, HN.out⟩
            case measure => simp [intOf]; omega
        · have hj9 : j = 9 := by omega
          subst hj9
          exact absurd HJ.out HEX.out

theorem refShow_is (out : List UInt8) (r : Int) (h : U.shw r = out) (w : World) :
    Calls Tryd.prog 12 #[.int .i32 r] w fun e w' => e = .returned (.string ⟨out.toArray⟩) ∧ Below w.heap.size w w' := by
  subst h
  cases hs : U.scalar r with
  | false => exact refShow_bad r hs w
  | true =>
    unfold U.shw U.shc
    rw [U.fix_of hs]
    cases hl : U.lett r with
    | some c => exact refShow_lett r c hl w
    | none =>
      dsimp only
      cases hp : U.prn r with
      | true => rw [if_pos rfl]; exact refShow_self r hs hl hp w
      | false =>
        rw [if_neg (by simp)]
        by_cases h1 : r ≤ 255
        · exact refShow_num2 r hs hl hp h1 w
        · by_cases h2 : r ≤ 65535
          · exact refShow_num4 r hs hl hp (by omega) h2 w
          · exact refShow_num8 r hs hl hp (by omega) w

end Go.Proofs.YtjkiobbjjmcmnaaDoor
