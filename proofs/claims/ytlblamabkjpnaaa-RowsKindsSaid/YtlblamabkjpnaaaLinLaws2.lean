/- The statements on package rows: the walk of RowsAbove: for every input the law returns true. Conditions: none beside those that each theorem writes out. -/
import Derived.Test.YtlblamabkjpnaaaLinLaws
namespace Go.Proofs.Ytlblamabkjpnaaa
open Go.RowKit

theorem size_list (l : List UInt8) : (⟨l.toArray⟩ : ByteArray).size = l.length := by simp [ByteArray.size]
set_option maxHeartbeats 400000 in
theorem lawBlanks_is (n : Nat) (z : Int) (w : World) (hz : z = (n : Int)) (hn : n ≤ 1000000000) :
    Calls Try.prog 19 #[.int .i64 z] w fun e w' => e = .returned (.string ⟨(List.replicate n (32 : UInt8)).toArray⟩) ∧ w = w' := by
  subst hz
  go_enter Try.func19, Try.ntmps19
  go_wp2
  go_loop [3, 4] (fun s i => ∃ (k : Nat) (l : List UInt8), i = .int .i64 (k : Int) ∧ s = .string ⟨l.toArray⟩ ∧ k ≤ n ∧ l.length = k ∧ Hid (l = List.replicate k (32 : UInt8))) (fun _ i => n - (intOf i).toNat)
  case atStart => exact ⟨0, [], rfl, rfl, Nat.zero_le _, rfl, rfl⟩
  case round =>
    obtain ⟨k, l, rfl, rfl, hk, hl, H⟩ := hrel
    have hl2 := size_list l
    rw [hl] at hl2
    by_cases hk2 : k < n
    · go_wp2
      go_round
      case rel => exact ⟨k + 1, l ++ [32], by go_num, congrArg Value.string (ByteArray.mk_append_mk l [32]), by omega, by simp [hl], by show _ = _; rw [H.out, List.replicate_succ']⟩
      case measure => simp [intOf]; omega
    · obtain rfl : k = n := by omega
      have HE := H.out
      subst HE
      go_wp2
      go_ret
      exact ⟨rfl, rfl⟩

/-- Rows of blanks, as RowsAbove lays them. -/
def abvS (word : Bool) (A : Nat) : Nat → List UInt8
  | 0 => if word = true then [119, 10] else []
  | i + 1 => abvS word A i ++ List.replicate ((A + i) % 3) 32 ++ [10]
/-- What RowsAbove asks of them. -/
def abvOk (word : Bool) (A k B : Nat) : Bool :=
  let S := abvS word A k
  let U : ByteArray := ⟨(S ++ List.replicate B 32 ++ [120, 121, 10]).toArray⟩
  decide (Abv U (S.length + B) (if word = true then 1 else 0) k ∧ Abv U (S.length + B + 1) (S.length + B + 1) 0 ∧ Abv U U.size (U.size - 1) 0)
theorem abv_ok (word : Bool) (A k B : Nat) (hA : A < 3) (hk : k < 5) (hB : B < 4) : abvOk word A k B = true := by
  have H1 : ∀ (A : Fin 3) (k : Fin 5) (B : Fin 4), abvOk true A.val k.val B.val = true := by decide +kernel
  have H2 : ∀ (A : Fin 3) (k : Fin 5) (B : Fin 4), abvOk false A.val k.val B.val = true := by decide +kernel
  cases word
  · exact H2 ⟨A, hA⟩ ⟨k, hk⟩ ⟨B, hB⟩
  · exact H1 ⟨A, hA⟩ ⟨k, hk⟩ ⟨B, hB⟩
theorem low_nat (x n : Nat) (h : x < 1000) : lowZ (x : Int) (n : Int) = ((x % n : Nat) : Int) := by
  unfold lowZ
  have h1 : (x : Int) % 18446744073709551616 = (x : Int) := Int.emod_eq_of_lt (by omega) (by omega)
  rw [h1]
  exact (Int.natCast_emod x n).symm

set_option maxRecDepth 100000 in
set_option maxHeartbeats 1600000 in
theorem RowsAbove_walk (n a b : Int) (word : Bool) (w : World) :
    Calls Try.prog 6 #[.int .i64 n, .int .i64 a, .int .i64 b, .bool word] w fun e w' => e = .returned (.bool true) ∧ Below w.heap.size w w' := by
  have hn := lowZ_range n 5 (by omega)
  have ha := lowZ_range a 3 (by omega)
  have hb := lowZ_range b 4 (by omega)
  obtain ⟨k, hk⟩ : ∃ k : Nat, lowZ n 5 = (k : Int) := ⟨(lowZ n 5).toNat, by omega⟩
  obtain ⟨A, hA⟩ : ∃ A : Nat, lowZ a 3 = (A : Int) := ⟨(lowZ a 3).toNat, by omega⟩
  obtain ⟨B, hB⟩ : ∃ B : Nat, lowZ b 4 = (B : Int) := ⟨(lowZ b 4).toNat, by omega⟩
  rw [hk] at hn
  rw [hA] at ha
  rw [hB] at hb
  have hk5 : k < 5 := by omega
  have hA3 : A < 3 := by omega
  have hB4 : B < 4 := by omega
  have CN := fun W => Low_is (k : Int) n 5 W (by omega) (by omega) hk
  have CA := fun W => Low_is (A : Int) a 3 W (by omega) (by omega) hA
  have CB := fun W => Low_is (B : Int) b 4 W (by omega) (by omega) hB
  obtain ⟨S, hS⟩ : ∃ S : Nat → List UInt8, S = abvS word A := ⟨_, rfl⟩
  obtain ⟨k0, hk0⟩ : ∃ k0 : Nat, k0 = if word = true then 1 else 0 := ⟨_, rfl⟩
  have hOK := abv_ok word A k B hA3 hk5 hB4
  unfold abvOk at hOK
  rw [← hS, ← hk0] at hOK
  simp only [decide_eq_true_eq] at hOK
  have HOK := Lib.hid hOK
  have HSS : Hid (∀ i, S (i + 1) = S i ++ List.replicate ((A + i) % 3) 32 ++ [10]) := fun i => by rw [hS]; rfl
  have HS0 : Hid (S 0 = if word = true then [119, 10] else []) := by show _ = _; rw [hS]; rfl
  clear hn ha hb hk hA hB hOK hS hk0
  cases word
  all_goals
    go_enter Try.func6, Try.ntmps6
    go_wp2_with fail
    refine (CN _).mono ?_
    rintro e w1 ⟨rfl, rfl⟩
    go_wp2
    go_loop [10, 11] (fun s i => ∃ (j : Nat) (X : ByteArray), i = .int .i64 (j : Int) ∧ s = .string X ∧ j ≤ k ∧ X.size ≤ 2 + 3 * j ∧ Hid (X = ⟨(S j).toArray⟩)) (fun _ i => k - (intOf i).toNat)
    case atStart => exact ⟨0, _, rfl, rfl, Nat.zero_le _, by decide, by show _ = _; rw [HS0.out]; rfl⟩
    case round =>
      obtain ⟨j, X, rfl, rfl, hj, hX, H⟩ := hrel
      by_cases hjk : j < k
      · have ht3 := Nat.mod_lt (A + j) (show 0 < 3 by decide)
        have hlow := low_nat (A + j) 3 (by omega)
        have H2 := HSS.out j
        obtain ⟨t, ht⟩ : ∃ t, t = (A + j) % 3 := ⟨_, rfl⟩
        rw [← ht] at ht3 hlow H2
        rw [Int.natCast_add] at hlow
        have CT := fun W => Low_is (t : Int) ((A : Int) + (j : Int)) 3 W (by omega) (by omega) hlow
        obtain ⟨R, hR⟩ : ∃ R : ByteArray, R = ⟨(List.replicate t (32 : UInt8)).toArray⟩ := ⟨_, rfl⟩
        have CR := fun W => lawBlanks_is t (t : Int) W rfl (by omega)
        rw [← hR] at CR
        have hRs : R.size = t := by rw [hR, size_list, List.length_replicate]
        have HN : Hid (X ++ R ++ ⟨#[10]⟩ = ⟨(S (j + 1)).toArray⟩) := by
          show _ = _
          rw [H2, H.out, hR, ByteArray.mk_append_mk]
          exact ByteArray.mk_append_mk _ [10]
        have hNs : (X ++ R ++ (⟨#[10]⟩ : ByteArray)).size ≤ 2 + 3 * (j + 1) := by
          rw [ByteArray.size_append, ByteArray.size_append, hRs]
          have : (⟨#[10]⟩ : ByteArray).size = 1 := rfl
          omega
        clear ht hlow hR H2
        go_wp2_with fail
        refine (CA _).mono ?_
        rintro e w1 ⟨rfl, rfl⟩
        go_wp2_with fail
        refine (CT _).mono ?_
        rintro e w1 ⟨rfl, rfl⟩
        go_wp2_with fail
        refine (CR _).mono ?_
        rintro e w1 ⟨rfl, rfl⟩
        go_wp2
        go_round
        case rel => exact ⟨j + 1, X ++ R ++ ⟨#[10]⟩, by go_num, rfl, by omega, hNs, HN⟩
        case measure => simp [intOf]; omega
      · obtain rfl : j = k := by omega
        obtain ⟨R, hR⟩ : ∃ R : ByteArray, R = ⟨(List.replicate B (32 : UInt8)).toArray⟩ := ⟨_, rfl⟩
        have CR := fun W => lawBlanks_is B (B : Int) W rfl (by omega)
        rw [← hR] at CR
        have hRs : R.size = B := by rw [hR, size_list, List.length_replicate]
        obtain ⟨U, hU⟩ : ∃ U : ByteArray, X ++ R ++ ⟨#[120, 121, 10]⟩ = U := ⟨_, rfl⟩
        have hU2 : U = ⟨(S j ++ List.replicate B 32 ++ [120, 121, 10]).toArray⟩ := by
          rw [← hU, H.out, hR, ByteArray.mk_append_mk]
          exact ByteArray.mk_append_mk _ [120, 121, 10]
        have hXs : (S j).length = X.size := by rw [H.out, size_list]
        have hUs : U.size = X.size + B + 3 := by
          rw [← hU, ByteArray.size_append, ByteArray.size_append, hRs]; rfl
        have hO := HOK.out
        rw [← hU2, hXs] at hO
        obtain ⟨L, hL⟩ : ∃ L, L = X.size := ⟨_, rfl⟩
        rw [← hL] at hUs hO hX
        have C1 := rowsAbove_is j (L + B) k0 U ((L : Int) + (B : Int)) w (by omega) (by rw [← Int.natCast_add, clampN_in _ _ (by omega)]) hO.1
        have C2 := rowsAbove_is 0 (L + B + 1) _ U ((L : Int) + (B : Int) + 1) w (by omega) (by rw [show (L : Int) + (B : Int) + 1 = ((L + B + 1 : Nat) : Int) from by omega, clampN_in _ _ (by omega)]) hO.2.1
        have C3 := rowsAbove_is 0 U.size _ U ((L : Int) + (B : Int) + 3) w (by omega) (by rw [show (L : Int) + (B : Int) + 3 = (U.size : Int) from by omega, clampN_in _ _ (Nat.le_refl _)]) hO.2.2
        have HU := Lib.hid hU
        have hXL : X.size = L := hL.symm
        clear hU hU2 hXs hO hR hL
        go_wp2_with fail
        refine (CB _).mono ?_
        rintro e w1 ⟨rfl, rfl⟩
        go_wp2_with fail
        refine (CB _).mono ?_
        rintro e w1 ⟨rfl, rfl⟩
        go_wp2_with fail
        refine (CR _).mono ?_
        rintro e w1 ⟨rfl, rfl⟩
        go_wp2_with fail
        rw [HU.out]
        refine C1.mono ?_
        rintro e w1 ⟨rfl, rfl⟩
        go_wp2_with fail
        refine C2.mono ?_
        rintro e w1 ⟨rfl, rfl⟩
        go_wp2_with fail
        refine C3.mono ?_
        rintro e w1 ⟨rfl, rfl⟩
        go_wp2_with fail
        refine (awake7_any _).mono ?_
        rintro e w1 ⟨rfl, b1⟩
        go_wp2
        go_ret
        exact ⟨rfl, b1⟩

end Go.Proofs.Ytlblamabkjpnaaa
