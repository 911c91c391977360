/- The document's answer of chapter 9, its parts: units, handles, suffixes, sizes. Conditions: those that each theorem writes out (lengths that memory can hold). -/
import Derived.Test.YtckdhidcbkbeoaaDoorHand3
namespace Go.Proofs.YtckdhidcbkbeoaaDoor.U

/-- Do two digits stand in front? -/
def pct : List UInt8 → Bool
  | x :: y :: _ => hx x && hx y
  | _ => false
/-- How many bytes in front are one (a % with its digits); 0: none. -/
def tU : List UInt8 → Nat
  | [] => 0
  | b :: l => if uri (b.toNat : Int) = true then (if b.toNat = 37 then (if pct l = true then 3 else 0) else 1) else 0
theorem tU_cons (b : UInt8) (l : List UInt8) : tU (b :: l) = if uri (b.toNat : Int) = true then (if b.toNat = 37 then (if pct l = true then 3 else 0) else 1) else 0 := rfl
theorem tR_unit (p : Int → Bool) (hp : ∀ c, p c = true → uri c = true) (b : UInt8) (l : List UInt8) :
    tR p 0 (b :: l) = if p (b.toNat : Int) = true ∧ tU (b :: l) ≠ 0 then tU (b :: l) + tR p 0 ((b :: l).drop (tU (b :: l))) else 0 := by
  rw [tR_zero, tU_cons]
  by_cases h : p (b.toNat : Int) = true
  · rw [if_pos h, if_pos (hp _ h)]
    by_cases h37 : b.toNat = 37
    · rw [if_pos h37, if_pos h37]
      match l with
      | [] => rw [show pct [] = false from rfl]; simp [h, tR_nil]
      | [x] => rw [show pct [x] = false from rfl, tR_two]; simp [h, tR_nil]
      | x :: y :: m =>
        rw [show pct (x :: y :: m) = (hx x && hx y) from rfl, tR_two, tR_one]
        cases hx x <;> cases hx y <;> simp [h]
        omega
    · rw [if_neg h37, if_neg h37, if_pos ⟨h, by omega⟩]
      simp
      omega
  · rw [if_neg h, if_neg (fun hh => h hh.1)]
theorem tR_word (b : UInt8) (l : List UInt8) : tR wordc 0 (b :: l) = if wordc (b.toNat : Int) = true then tR wordc 0 l + 1 else 0 := by
  rw [tR_zero]
  by_cases h : wordc (b.toNat : Int) = true
  · have := wordc_ascii h
    rw [if_pos h, if_pos h, if_neg (by omega)]
  · rw [if_neg h, if_neg h]
theorem tU_le (l : List UInt8) : tU l ≤ l.length := by
  cases l with
  | nil => exact Nat.le_refl _
  | cons b l =>
    rw [tU_cons, List.length_cons]
    split
    · split
      · split
        · match l with
          | [] => rename_i h; exact absurd h (by decide)
          | [x] => rename_i h; exact absurd h (by rw [show pct [x] = false from rfl]; decide)
          | x :: y :: m => simp only [List.length_cons]; omega
        · omega
      · omega
    · omega
/-- A handle's bytes, of what stands behind the ! in front. -/
def tH (l : List UInt8) : Nat := if (l.drop (tR wordc 0 l)).headD 0 = 33 then tR wordc 0 l + 2 else 1

end Go.Proofs.YtckdhidcbkbeoaaDoor.U
namespace Go.Proofs.YtckdhidcbkbeoaaDoor
open Go.RowKit

set_option maxHeartbeats 800000 in
theorem refHex_is (v : Int) (c : Nat) (w : World) (hc : c < 256) (h : U.cHexV c = v) :
    Calls Tryd.prog 69 #[.int .u8 (c : Int)] w fun e w' => e = .returned (.int .i32 v) ∧ w = w' := by
  have H := Lib.hid h
  clear h
  unfold U.cHexV at H
  rcases (show c < 48 ∨ (48 ≤ c ∧ c ≤ 57) ∨ (57 < c ∧ c < 65) ∨ (65 ≤ c ∧ c ≤ 70) ∨ (70 < c ∧ c < 97) ∨ (97 ≤ c ∧ c ≤ 102) ∨ 102 < c from by omega) with g | ⟨g, g2⟩ | ⟨g, g2⟩ | ⟨g, g2⟩ | ⟨g, g2⟩ | ⟨g, g2⟩ | g
  all_goals
    go_enter Tryd.func69, Tryd.ntmps69
    go_wp2
    go_ret
    refine ⟨congrArg (fun z : Int => Ending.returned (.int .i32 z)) (?_ : _ = v), rfl⟩
    have H2 := H.out
    repeat' split at H2
    all_goals omega

theorem byte_256 (s : ByteArray) (k : Nat) : byt s k < 256 := byt_lt s k

end Go.Proofs.YtckdhidcbkbeoaaDoor
