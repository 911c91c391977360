/- The document's answer of chapter 9, its parts: units, handles, suffixes, sizes. Conditions: those that each theorem writes out (lengths that memory can hold). -/
import Derived.Test.YtjpfkddkghfdiaaHand3
namespace Go.Proofs.Ytjpfkddkghfdiaa.U

/-- Do two digits stand in front? -/
def pct : List UInt8 → Bool
  | x :: y :: _ => hx x && hx y
  | _ => false
/-- How many bytes in front are one (a % with its digits); 0: none. -/
def tU : List UInt8 → Nat
  | [] => 0
  | b :: l => if uri (b.toNat : Int) = true then (if b.toNat = 37 then (if pct l = true then 3 else 0) else 1) else 0
theorem tU_cons (b : UInt8) (l : List UInt8) : tU (b :: l) = if uri (b.toNat : Int) = true then (if b.toNat = 37 then (if pct l = true then 3 else 0) else 1) else 0 := rfl
theorem tR_unit (p : Int → Bool) (hp : ∀ c, p c = true → uri c = true) (b : UInt8) (l : List UInt8) :
    tR p 0 (b :: l) = if p (b.toNat : Int) = true ∧ tU (b :: l) ≠ 0 then tU (b :: l) + tR p 0 ((b :: l).drop (tU (b :: l))) else 0 := by
  rw [tR_zero, tU_cons]
  by_cases h : p (b.toNat : Int) = true
  · rw [if_pos h, if_pos (hp _ h)]
    by_cases h37 : b.toNat = 37
    · rw [if_pos h37, if_pos h37]
      match l with
      | [] => rw [show pct [] = false from rfl]; simp [h, tR_nil]
      | [x] => rw [show pct [x] = false from rfl, tR_two]; simp [h, tR_nil]
      | x :: y :: m =>
        rw [show pct (x :: y :: m) = (hx x && hx y) from rfl, tR_two, tR_one]
        cases hx x <;> cases hx y <;> simp [h]
        omega
    · rw [if_neg h37, if_neg h37, if_pos ⟨h, by omega⟩]
      simp
      omega
  · rw [if_neg h, if_neg (fun hh => h hh.1)]
theorem tR_word (b : UInt8) (l : List UInt8) : tR wordc 0 (b :: l) = if wordc (b.toNat : Int) = true then tR wordc 0 l + 1 else 0 := by
  rw [tR_zero]
  by_cases h : wordc (b.toNat : Int) = true
  · have := wordc_ascii h
    rw [if_pos h, if_pos h, if_neg (by omega)]
  · rw [if_neg h, if_neg h]
theorem tU_le (l : List UInt8) : tU l ≤ l.length := by
  cases l with
  | nil => exact Nat.le_refl _
  | cons b l =>
    rw [tU_cons, List.length_cons]
    split
    · split
      · split
        · match l with
          | [] => rename_i h; exact absurd h (by decide)
          | [x] => rename_i h; exact absurd h (by rw [show pct [x] = false from rfl]; decide)
          | x :: y :: m => simp only [List.length_cons]; omega
        · omega
      · omega
    · omega
/-- A handle's bytes, of what stands behind the ! in front. -/
def tH (l : List UInt8) : Nat := if (l.drop (tR wordc 0 l)).headD 0 = 33 then tR wordc 0 l + 2 else 1

end Go.Proofs.Ytjpfkddkghfdiaa.U
namespace Go.Proofs.Ytjpfkddkghfdiaa
open Go.RowKit

set_option maxHeartbeats 800000 in
theorem refHex_is (v : Int) (c : Nat) (w : World) (hc : c < 256) (h : U.cHexV c = v) :
    Calls Try.prog 43 #[.int .u8 (c : Int)] w fun e w' => e = .returned (.int .i32 v) ∧ w = w' := by
  have H := Lib.hid h
  clear h
  unfold U.cHexV at H
  rcases (show c < 48 ∨ (48 ≤ c ∧ c ≤ 57) ∨ (57 < c ∧ c < 65) ∨ (65 ≤ c ∧ c ≤ 70) ∨ (70 < c ∧ c < 97) ∨ (97 ≤ c ∧ c ≤ 102) ∨ 102 < c from by omega) with g | ⟨g, g2⟩ | ⟨g, g2⟩ | ⟨g, g2⟩ | ⟨g, g2⟩ | ⟨g, g2⟩ | g
  all_goals
    go_enter Try.func43, Try.ntmps43
    go_wp2
    go_ret
    refine ⟨congrArg (fun z : Int => Ending.returned (.int .i32 z)) (?_ : _ = v), rfl⟩
    have H2 := H.out
    repeat' split at H2
    all_goals omega

theorem byte_256 (s : ByteArray) (k : Nat) : byt s k < 256 := byt_lt s k

set_option maxHeartbeats 1600000 in
theorem refUnit_is (n : Nat) (s : ByteArray) (k : Nat) (at' : Int) (w : World) (hs : s.size ≤ 1099511627776) (hat : at' = (k : Int)) (hk : k ≤ 1099511627780) (h : U.tU (s.data.toList.drop k) = n) :
    Calls Try.prog 32 #[.string s, .int .i64 at'] w fun e w' => e = .returned (.int .i64 (n : Int)) ∧ w = w' := by
  subst hat
  by_cases hk2 : k < s.size
  · obtain ⟨b, hd, hb⟩ := drop_byte s k hk2
    have hi := run_byt s k hk2 _ rfl
    have hx2 := byte_256 s k
    rw [hd, U.tU_cons, hb] at h
    obtain ⟨x, hx⟩ : ∃ x : Nat, x = byt s k := ⟨_, rfl⟩
    rw [← hx] at hi h hx2
    clear hd hb hx
    cases hu : U.uri (x : Int) with
    | false =>
      rw [if_neg (by simp [hu])] at h
      subst h
      have HU := Lib.hid hu
      clear hu
      go_enter Try.func32, Try.ntmps32
      go_wp2_with fail
      refine (refUri_is false _ _ HU.out).mono ?_
      rintro e w1 ⟨rfl, rfl⟩
      go_wp2
      go_ret
      exact ⟨rfl, rfl⟩
    | true =>
      rw [if_pos hu] at h
      have HU := Lib.hid hu
      clear hu
      by_cases h37 : x = 37
      · rw [if_pos h37] at h
        subst h37
        by_cases h3 : s.size < k + 3
        · have hp : U.pct (s.data.toList.drop (k + 1)) = false := by
            have hl : (s.data.toList.drop (k + 1)).length < 2 := by rw [List.length_drop, ← Lib.size_eq]; omega
            match hm : s.data.toList.drop (k + 1) with
            | [] => rfl
            | [y] => rfl
            | y :: z :: m => rw [hm] at hl; simp at hl; omega
          rw [hp, if_neg (by simp)] at h
          subst h
          clear hp
          go_enter Try.func32, Try.ntmps32
          go_wp2_with fail
          refine (refUri_is true _ _ HU.out).mono ?_
          rintro e w1 ⟨rfl, rfl⟩
          go_wp2
          go_ret
          exact ⟨rfl, rfl⟩
        · obtain ⟨b1, hd1, hb1⟩ := drop_byte s (k + 1) (by omega)
          obtain ⟨b2, hd2, hb2⟩ := drop_byte s (k + 2) (by omega)
          have hi1 := run_byt s (k + 1) (by omega) ((k : Int) + 1) (by omega)
          have hi2 := run_byt s (k + 2) (by omega) ((k : Int) + 2) (by omega)
          have hy2 := byte_256 s (k + 1)
          have hz2 := byte_256 s (k + 2)
          rw [hd1, show k + 1 + 1 = k + 2 from rfl, hd2] at h
          have hpc : ∀ m, U.pct (b1 :: b2 :: m) = (U.hx b1 && U.hx b2) := fun m => rfl
          rw [hpc] at h
          have h1i := U.hx_iff b1
          have h2i := U.hx_iff b2
          rw [hb1] at h1i
          rw [hb2] at h2i
          obtain ⟨y, hy⟩ : ∃ y : Nat, y = byt s (k + 1) := ⟨_, rfl⟩
          obtain ⟨z, hz⟩ : ∃ z : Nat, z = byt s (k + 2) := ⟨_, rfl⟩
          obtain ⟨v1, hv1⟩ : ∃ v : Int, U.cHexV y = v := ⟨_, rfl⟩
          obtain ⟨v2, hv2⟩ : ∃ v : Int, U.cHexV z = v := ⟨_, rfl⟩
          rw [← hy] at hi1 hy2 h1i
          rw [← hz] at hi2 hz2 h2i
          rw [hv1] at h1i
          rw [hv2] at h2i
          have r1 := U.hexV_le y
          have r2 := U.hexV_le z
          rw [hv1] at r1
          rw [hv2] at r2
          have HV1 := Lib.hid hv1
          have HV2 := Lib.hid hv2
          clear hd1 hd2 hb1 hb2 hy hz hv1 hv2 hpc
          cases g1 : U.hx b1 with
          | false =>
            rw [g1, Bool.false_and, if_neg (by simp)] at h
            subst h
            have g1n : v1 < 0 := by
              have : ¬ 0 ≤ v1 := fun hh => by rw [h1i.2 hh] at g1; cases g1
              omega
            clear h1i h2i g1 HV2
            go_enter Try.func32, Try.ntmps32
            go_wp2_with fail
            refine (refUri_is true _ _ HU.out).mono ?_
            rintro e w1 ⟨rfl, rfl⟩
            go_wp2_with fail
            refine (refHex_is v1 y _ hy2 HV1.out).mono ?_
            rintro e w1 ⟨rfl, rfl⟩
            go_wp2
            go_ret
            exact ⟨rfl, rfl⟩
          | true =>
            have g1p := h1i.1 g1
            cases g2 : U.hx b2 with
            | false =>
              rw [g1, g2, Bool.and_false, if_neg (by simp)] at h
              subst h
              have g2n : v2 < 0 := by
                have : ¬ 0 ≤ v2 := fun hh => by rw [h2i.2 hh] at g2; cases g2
                omega
              clear h1i h2i g1 g2
              go_enter Try.func32, Try.ntmps32
              go_wp2_with fail
              refine (refUri_is true _ _ HU.out).mono ?_
              rintro e w1 ⟨rfl, rfl⟩
              go_wp2_with fail
              refine (refHex_is v1 y _ hy2 HV1.out).mono ?_
              rintro e w1 ⟨rfl, rfl⟩
              go_wp2_with fail
              refine (refHex_is v2 z _ hz2 HV2.out).mono ?_
              rintro e w1 ⟨rfl, rfl⟩
              go_wp2
              go_ret
              exact ⟨rfl, rfl⟩
            | true =>
              have g2p := h2i.1 g2
              rw [g1, g2, Bool.and_true, if_pos rfl] at h
              subst h
              clear h1i h2i g1 g2
              go_enter Try.func32, Try.ntmps32
              go_wp2_with fail
              refine (refUri_is true _ _ HU.out).mono ?_
              rintro e w1 ⟨rfl, rfl⟩
              go_wp2_with fail
              refine (refHex_is v1 y _ hy2 HV1.out).mono ?_
              rintro e w1 ⟨rfl, rfl⟩
              go_wp2_with fail
              refine (refHex_is v2 z _ hz2 HV2.out).mono ?_
              rintro e w1 ⟨rfl, rfl⟩
              go_wp2
              go_ret
              exact ⟨rfl, rfl⟩
      · rw [if_neg h37] at h
        subst h
        have hxb : ((x : Int) != 37) = true := by simp; omega
        clear h37
        go_enter Try.func32, Try.ntmps32
        go_wp2_with fail
        refine (refUri_is true _ _ HU.out).mono ?_
        rintro e w1 ⟨rfl, rfl⟩
        go_wp2
        go_ret
        exact ⟨rfl, rfl⟩
  · rw [List.drop_eq_nil_of_le (by rw [← Lib.size_eq]; omega)] at h
    subst h
    go_enter Try.func32, Try.ntmps32
    go_wp2
    go_ret
    exact ⟨rfl, rfl⟩

end Go.Proofs.Ytjpfkddkghfdiaa
