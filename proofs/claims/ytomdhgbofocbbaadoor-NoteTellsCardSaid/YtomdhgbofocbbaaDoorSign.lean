/- The program's package sign, and the document's answers of chapter 4: what each of these functions returns. Conditions: those that each theorem writes out (lengths that memory can hold). -/
import Derived.Test.YtomdhgbofocbbaaDoorLaw0
namespace Go.Proofs.YtomdhgbofocbbaaDoor.U

/-! ### Classes of bytes (nothing of the program) -/
def white (c : Int) : Bool := decide (c = 32 ∨ c = 9)
def flow (c : Int) : Bool := decide (c = 44 ∨ c = 91 ∨ c = 93 ∨ c = 123 ∨ c = 125)
def indic (c : Int) : Bool := decide (flow c = true ∨ c = 45 ∨ c = 63 ∨ c = 58 ∨ c = 35 ∨ c = 38 ∨ c = 42 ∨ c = 33 ∨ c = 124 ∨ c = 62 ∨ c = 39 ∨ c = 34 ∨ c = 37 ∨ c = 64 ∨ c = 96)
def wordc (c : Int) : Bool := decide ((97 ≤ c ∧ c ≤ 122) ∨ (65 ≤ c ∧ c ≤ 90) ∨ (48 ≤ c ∧ c ≤ 57) ∨ c = 45)
def uri (c : Int) : Bool := decide (wordc c = true ∨ c = 35 ∨ c = 59 ∨ c = 47 ∨ c = 63 ∨ c = 58 ∨ c = 64 ∨ c = 38 ∨ c = 61 ∨ c = 43 ∨ c = 36 ∨ c = 95 ∨ c = 46 ∨ c = 33 ∨ c = 126 ∨ c = 42 ∨ c = 39 ∨ c = 40 ∨ c = 41 ∨ c = 37 ∨ c = 44 ∨ c = 91 ∨ c = 93)
/-- White, or the end of a row. -/
def endc (c : Int) : Bool := decide (c = 32 ∨ c = 9 ∨ c = 10)
/-- Does a name go on over a byte? -/
def keeps (b : UInt8) : Bool := !(endc (b.toNat : Int)) && !(flow (b.toNat : Int))
/-- How long is the name in front? -/
def nameL (l : List UInt8) : Nat := (l.takeWhile keeps).length
theorem nameL_nil : nameL [] = 0 := rfl
theorem nameL_cons (b : UInt8) (l : List UInt8) : nameL (b :: l) = if keeps b = true then nameL l + 1 else 0 := by
  unfold nameL
  rw [List.takeWhile_cons]
  split <;> simp
theorem nameL_le (l : List UInt8) : nameL l ≤ l.length := by
  induction l with
  | nil => exact Nat.le_refl _
  | cons b l ih => rw [nameL_cons, List.length_cons]; split <;> omega
/-- Is a byte one of a text? -/
def hasL (l : List UInt8) (c : Int) : Bool := l.any (fun b => (b.toNat : Int) == c)

end Go.Proofs.YtomdhgbofocbbaaDoor.U
namespace Go.Proofs.YtomdhgbofocbbaaDoor
open Go.RowKit

theorem drop_byte (s : ByteArray) (k : Nat) (h : k < s.size) : ∃ b : UInt8, s.data.toList.drop k = b :: s.data.toList.drop (k + 1) ∧ b.toNat = byt s k := by
  have hl : k < s.data.toList.length := by rw [← Lib.size_eq]; exact h
  refine ⟨_, List.drop_eq_getElem_cons hl, ?_⟩
  have e : s.get! k = s[k]'h := by
    simp [ByteArray.get!, getElem!_pos, h]
    rfl
  unfold byt
  rw [e]
  simp [ByteArray.getElem_eq_getElem_data]

set_option maxHeartbeats 400000 in
theorem White_any (c : Int) (w : World) :
    Calls Tryd.prog 36 #[.int .u8 c] w fun e w' => e = .returned (.bool (U.white c)) ∧ w = w' := by
  go_enter Tryd.func36, Tryd.ntmps36
  go_wp2
  all_goals go_ret
  all_goals
    refine ⟨congrArg (fun b : Bool => Ending.returned (.bool b)) ?_, rfl⟩
    unfold U.white
    rw [Bool.eq_iff_iff]
    simp at *
    try omega
theorem White_is (q : Bool) (c : Int) (w : World) (h : U.white c = q) :
    Calls Tryd.prog 36 #[.int .u8 c] w fun e w' => e = .returned (.bool q) ∧ w = w' := by
  subst h; exact White_any c w

set_option maxHeartbeats 400000 in
theorem refWhite_any (c : Int) (w : World) :
    Calls Tryd.prog 42 #[.int .u8 c] w fun e w' => e = .returned (.bool (U.white c)) ∧ w = w' := by
  go_enter Tryd.func42, Tryd.ntmps42
  go_wp2
  all_goals go_ret
  all_goals
    refine ⟨congrArg (fun b : Bool => Ending.returned (.bool b)) ?_, rfl⟩
    unfold U.white
    rw [Bool.eq_iff_iff]
    simp at *
    try omega
theorem refWhite_is (q : Bool) (c : Int) (w : World) (h : U.white c = q) :
    Calls Tryd.prog 42 #[.int .u8 c] w fun e w' => e = .returned (.bool q) ∧ w = w' := by
  subst h; exact refWhite_any c w

/-! ### Ends, Name -/
/-- Does what stands ahead of a place end there? -/
def endsB (s : ByteArray) (at' : Int) : Bool := if at' < 0 ∨ (s.size : Int) ≤ at' then true else U.endc (byt s at'.toNat : Int)
theorem endsB_in (s : ByteArray) (k : Nat) (h : k < s.size) : endsB s (k : Int) = U.endc (byt s k : Int) := by
  unfold endsB
  rw [if_neg (by omega)]
  rfl
theorem endsB_out (s : ByteArray) (at' : Int) (h : at' < 0 ∨ (s.size : Int) ≤ at') : endsB s at' = true := by
  unfold endsB
  rw [if_pos h]
/-- How long the name is that begins at a place. -/
def nameAt (s : ByteArray) (at' : Int) : Nat := if at' < 0 then 0 else U.nameL (s.data.toList.drop at'.toNat)
theorem nameAt_in (s : ByteArray) (k : Nat) : nameAt s (k : Int) = U.nameL (s.data.toList.drop k) := by
  unfold nameAt
  rw [if_neg (by omega)]
  rfl
theorem nameAt_out (s : ByteArray) (at' : Int) (h : at' < 0 ∨ (s.size : Int) ≤ at') : nameAt s at' = 0 := by
  unfold nameAt
  split
  · rfl
  · rw [List.drop_eq_nil_of_le (by rw [← Lib.size_eq]; omega)]; rfl
theorem white_endc {b : Int} : U.endc b = (U.white b || b == 10) := by
  unfold U.endc U.white
  rw [Bool.eq_iff_iff]
  simp
  omega

set_option maxHeartbeats 400000 in
theorem Ends_is (q : Bool) (s : ByteArray) (at' : Int) (w : World) (_hs : s.size ≤ 1099511627776) (h : endsB s at' = q) :
    Calls Tryd.prog 54 #[.string s, .int .i64 at'] w fun e w' => e = .returned (.bool q) ∧ w = w' := by
  by_cases h1 : at' < 0
  · rw [endsB_out s at' (.inl h1)] at h
    subst h
    go_enter Tryd.func54, Tryd.ntmps54
    go_wp2
    go_ret
    exact ⟨rfl, rfl⟩
  by_cases h2 : (s.size : Int) ≤ at'
  · rw [endsB_out s at' (.inr h2)] at h
    subst h
    go_enter Tryd.func54, Tryd.ntmps54
    go_wp2
    go_ret
    exact ⟨rfl, rfl⟩
  obtain ⟨k, rfl⟩ : ∃ k : Nat, at' = (k : Int) := ⟨at'.toNat, by omega⟩
  have hk : k < s.size := by omega
  rw [endsB_in s k hk] at h
  have hi := run_byt s k hk _ rfl
  obtain ⟨b, hb⟩ : ∃ b : Nat, b = byt s k := ⟨_, rfl⟩
  rw [← hb] at h hi
  rw [white_endc] at h
  clear hb h1 h2
  have HQ := Lib.hid h
  clear h
  cases h10 : ((b : Int) == 10) with
  | true =>
    have F := Lib.hid (show q = true by rw [← HQ.out, h10]; simp)
    go_enter Tryd.func54, Tryd.ntmps54
    go_wp2
    go_ret
    exact ⟨by rw [F.out]; rfl, rfl⟩
  | false =>
    have F := Lib.hid (show U.white (b : Int) = q by rw [← HQ.out, h10]; simp)
    go_enter Tryd.func54, Tryd.ntmps54
    go_wp2_with (go_at_call 36; refine (White_is q _ _ F.out).mono ?_; rintro e w' ⟨rfl, rfl⟩)
    go_ret
    exact ⟨rfl, rfl⟩

set_option maxHeartbeats 400000 in
theorem refEnds_is (q : Bool) (s : ByteArray) (at' : Int) (w : World) (_hs : s.size ≤ 1099511627776) (h : endsB s at' = q) :
    Calls Tryd.prog 56 #[.string s, .int .i64 at'] w fun e w' => e = .returned (.bool q) ∧ w = w' := by
  by_cases h1 : at' < 0
  · rw [endsB_out s at' (.inl h1)] at h
    subst h
    go_enter Tryd.func56, Tryd.ntmps56
    go_wp2
    go_ret
    exact ⟨rfl, rfl⟩
  by_cases h2 : (s.size : Int) ≤ at'
  · rw [endsB_out s at' (.inr h2)] at h
    subst h
    go_enter Tryd.func56, Tryd.ntmps56
    go_wp2
    go_ret
    exact ⟨rfl, rfl⟩
  obtain ⟨k, rfl⟩ : ∃ k : Nat, at' = (k : Int) := ⟨at'.toNat, by omega⟩
  have hk : k < s.size := by omega
  rw [endsB_in s k hk] at h
  have hi := run_byt s k hk _ rfl
  obtain ⟨b, hb⟩ : ∃ b : Nat, b = byt s k := ⟨_, rfl⟩
  rw [← hb] at h hi
  rw [white_endc] at h
  clear hb h1 h2
  have HQ := Lib.hid h
  clear h
  cases hw : U.white (b : Int) with
  | true =>
    have F := Lib.hid (show q = true by rw [← HQ.out, hw]; rfl)
    have HW := Lib.hid hw
    clear hw
    go_enter Tryd.func56, Tryd.ntmps56
    go_wp2_with (go_at_call 42; refine (refWhite_is true _ _ HW.out).mono ?_; rintro e w' ⟨rfl, rfl⟩)
    go_ret
    exact ⟨by rw [F.out]; rfl, rfl⟩
  | false =>
    have F : ((b : Int) == 10) = q := by rw [← HQ.out, hw]; simp
    have HW := Lib.hid hw
    clear hw
    go_enter Tryd.func56, Tryd.ntmps56
    go_wp2_with (go_at_call 42; refine (refWhite_is false _ _ HW.out).mono ?_; rintro e w' ⟨rfl, rfl⟩)
    go_ret
    exact ⟨congrArg (fun b : Bool => Ending.returned (.bool b)) (show (decide ((k : Int) < 0) || decide (s.size ≤ k) || q) = q by rw [decide_eq_false (by omega), decide_eq_false (by omega)]; rfl), rfl⟩

theorem name_stop (s : ByteArray) (e : Nat) (h : e < s.size) (hb : U.endc (byt s e : Int) = true ∨ U.flow (byt s e : Int) = true) : U.nameL (s.data.toList.drop e) = 0 := by
  obtain ⟨b, hd, hb2⟩ := drop_byte s e h
  rw [hd, U.nameL_cons, if_neg]
  unfold U.keeps
  rw [hb2]
  rcases hb with hb | hb <;> simp [hb]
theorem name_go (s : ByteArray) (e : Nat) (h : e < s.size) (h1 : U.endc (byt s e : Int) = false) (h2 : U.flow (byt s e : Int) = false) : U.nameL (s.data.toList.drop e) = U.nameL (s.data.toList.drop (e + 1)) + 1 := by
  obtain ⟨b, hd, hb2⟩ := drop_byte s e h
  rw [hd, U.nameL_cons, if_pos]
  unfold U.keeps
  rw [hb2, h1, h2]
  rfl
theorem name_over (s : ByteArray) (e : Nat) (h : ¬ e < s.size) : U.nameL (s.data.toList.drop e) = 0 := by
  rw [List.drop_eq_nil_of_le (by rw [← Lib.size_eq]; omega)]; rfl

end Go.Proofs.YtomdhgbofocbbaaDoor
