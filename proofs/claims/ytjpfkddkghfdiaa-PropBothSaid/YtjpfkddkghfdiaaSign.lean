/- The program's package sign, and the document's answers of chapter 4: what each of these functions returns. Conditions: those that each theorem writes out (lengths that memory can hold). -/
import Derived.Test.YtjpfkddkghfdiaaLaw0
namespace Go.Proofs.Ytjpfkddkghfdiaa.U

/-! ### Classes of bytes (nothing of the program) -/
def white (c : Int) : Bool := decide (c = 32 ∨ c = 9)
def flow (c : Int) : Bool := decide (c = 44 ∨ c = 91 ∨ c = 93 ∨ c = 123 ∨ c = 125)
def indic (c : Int) : Bool := decide (flow c = true ∨ c = 45 ∨ c = 63 ∨ c = 58 ∨ c = 35 ∨ c = 38 ∨ c = 42 ∨ c = 33 ∨ c = 124 ∨ c = 62 ∨ c = 39 ∨ c = 34 ∨ c = 37 ∨ c = 64 ∨ c = 96)
def wordc (c : Int) : Bool := decide ((97 ≤ c ∧ c ≤ 122) ∨ (65 ≤ c ∧ c ≤ 90) ∨ (48 ≤ c ∧ c ≤ 57) ∨ c = 45)
def uri (c : Int) : Bool := decide (wordc c = true ∨ c = 35 ∨ c = 59 ∨ c = 47 ∨ c = 63 ∨ c = 58 ∨ c = 64 ∨ c = 38 ∨ c = 61 ∨ c = 43 ∨ c = 36 ∨ c = 95 ∨ c = 46 ∨ c = 33 ∨ c = 126 ∨ c = 42 ∨ c = 39 ∨ c = 40 ∨ c = 41 ∨ c = 37 ∨ c = 44 ∨ c = 91 ∨ c = 93)
/-- White, or the end of a row. -/
def endc (c : Int) : Bool := decide (c = 32 ∨ c = 9 ∨ c = 10)
/-- Does a name go on over a byte? -/
def keeps (b : UInt8) : Bool := !(endc (b.toNat : Int)) && !(flow (b.toNat : Int))
/-- How long is the name in front? -/
def nameL (l : List UInt8) : Nat := (l.takeWhile keeps).length
theorem nameL_nil : nameL [] = 0 := rfl
theorem nameL_cons (b : UInt8) (l : List UInt8) : nameL (b :: l) = if keeps b = true then nameL l + 1 else 0 := by
  unfold nameL
  rw [List.takeWhile_cons]
  split <;> simp
theorem nameL_le (l : List UInt8) : nameL l ≤ l.length := by
  induction l with
  | nil => exact Nat.le_refl _
  | cons b l ih => rw [nameL_cons, List.length_cons]; split <;> omega
/-- Is a byte one of a text? -/
def hasL (l : List UInt8) (c : Int) : Bool := l.any (fun b => (b.toNat : Int) == c)

end Go.Proofs.Ytjpfkddkghfdiaa.U
namespace Go.Proofs.Ytjpfkddkghfdiaa
open Go.RowKit

theorem drop_byte (s : ByteArray) (k : Nat) (h : k < s.size) : ∃ b : UInt8, s.data.toList.drop k = b :: s.data.toList.drop (k + 1) ∧ b.toNat = byt s k := by
  have hl : k < s.data.toList.length := by rw [← Lib.size_eq]; exact h
  refine ⟨_, List.drop_eq_getElem_cons hl, ?_⟩
  have e : s.get! k = s[k]'h := by
    simp [ByteArray.get!, getElem!_pos, h]
    rfl
  unfold byt
  rw [e]
  simp [ByteArray.getElem_eq_getElem_data]

set_option maxHeartbeats 400000 in
theorem White_any (c : Int) (w : World) :
    Calls Try.prog 21 #[.int .u8 c] w fun e w' => e = .returned (.bool (U.white c)) ∧ w = w' := by
  go_enter Try.func21, Try.ntmps21
  go_wp2
  all_goals go_ret
  all_goals
    refine ⟨congrArg (fun b : Bool => Ending.returned (.bool b)) ?_, rfl⟩
    unfold U.white
    rw [Bool.eq_iff_iff]
    simp at *
    try omega
theorem White_is (q : Bool) (c : Int) (w : World) (h : U.white c = q) :
    Calls Try.prog 21 #[.int .u8 c] w fun e w' => e = .returned (.bool q) ∧ w = w' := by
  subst h; exact White_any c w

set_option maxHeartbeats 400000 in
theorem Flow_any (c : Int) (w : World) :
    Calls Try.prog 12 #[.int .u8 c] w fun e w' => e = .returned (.bool (U.flow c)) ∧ w = w' := by
  go_enter Try.func12, Try.ntmps12
  go_wp2
  all_goals go_ret
  all_goals
    refine ⟨congrArg (fun b : Bool => Ending.returned (.bool b)) ?_, rfl⟩
    unfold U.flow
    rw [Bool.eq_iff_iff]
    simp at *
    try omega
theorem Flow_is (q : Bool) (c : Int) (w : World) (h : U.flow c = q) :
    Calls Try.prog 12 #[.int .u8 c] w fun e w' => e = .returned (.bool q) ∧ w = w' := by
  subst h; exact Flow_any c w

set_option maxHeartbeats 400000 in
theorem Word_any (c : Int) (w : World) :
    Calls Try.prog 40 #[.int .u8 c] w fun e w' => e = .returned (.bool (U.wordc c)) ∧ w = w' := by
  go_enter Try.func40, Try.ntmps40
  go_wp2
  all_goals go_ret
  all_goals
    refine ⟨congrArg (fun b : Bool => Ending.returned (.bool b)) ?_, rfl⟩
    unfold U.wordc
    rw [Bool.eq_iff_iff]
    simp at *
    try omega
theorem Word_is (q : Bool) (c : Int) (w : World) (h : U.wordc c = q) :
    Calls Try.prog 40 #[.int .u8 c] w fun e w' => e = .returned (.bool q) ∧ w = w' := by
  subst h; exact Word_any c w

set_option maxHeartbeats 1600000 in
theorem Uri_any (c : Int) (w : World) :
    Calls Try.prog 39 #[.int .u8 c] w fun e w' => e = .returned (.bool (U.uri c)) ∧ w = w' := by
  go_enter Try.func39, Try.ntmps39
  go_wp2_with (go_at_call 40; refine (Word_any _ _).mono ?_; rintro e w' ⟨rfl, rfl⟩)
  all_goals go_ret
  all_goals
    refine ⟨congrArg (fun b : Bool => Ending.returned (.bool b)) ?_, rfl⟩
    unfold U.uri
    rw [Bool.eq_iff_iff]
    simp at *
    try omega
theorem Uri_is (q : Bool) (c : Int) (w : World) (h : U.uri c = q) :
    Calls Try.prog 39 #[.int .u8 c] w fun e w' => e = .returned (.bool q) ∧ w = w' := by
  subst h; exact Uri_any c w

set_option maxHeartbeats 400000 in
theorem refWhite_any (c : Int) (w : World) :
    Calls Try.prog 35 #[.int .u8 c] w fun e w' => e = .returned (.bool (U.white c)) ∧ w = w' := by
  go_enter Try.func35, Try.ntmps35
  go_wp2
  all_goals go_ret
  all_goals
    refine ⟨congrArg (fun b : Bool => Ending.returned (.bool b)) ?_, rfl⟩
    unfold U.white
    rw [Bool.eq_iff_iff]
    simp at *
    try omega
theorem refWhite_is (q : Bool) (c : Int) (w : World) (h : U.white c = q) :
    Calls Try.prog 35 #[.int .u8 c] w fun e w' => e = .returned (.bool q) ∧ w = w' := by
  subst h; exact refWhite_any c w

set_option maxHeartbeats 400000 in
theorem refWord_any (c : Int) (w : World) :
    Calls Try.prog 44 #[.int .u8 c] w fun e w' => e = .returned (.bool (U.wordc c)) ∧ w = w' := by
  go_enter Try.func44, Try.ntmps44
  go_wp2
  all_goals go_ret
  all_goals
    refine ⟨congrArg (fun b : Bool => Ending.returned (.bool b)) ?_, rfl⟩
    unfold U.wordc
    rw [Bool.eq_iff_iff]
    simp at *
    try omega
theorem refWord_is (q : Bool) (c : Int) (w : World) (h : U.wordc c = q) :
    Calls Try.prog 44 #[.int .u8 c] w fun e w' => e = .returned (.bool q) ∧ w = w' := by
  subst h; exact refWord_any c w

set_option maxHeartbeats 400000 in
theorem has_is (q : Bool) (s : ByteArray) (c : Int) (w : World) (hs : s.size ≤ 1099511627776) (h : U.hasL s.data.toList c = q) :
    Calls Try.prog 36 #[.string s, .int .u8 c] w fun e w' => e = .returned (.bool q) ∧ w = w' := by
  have HQ := Lib.hid h
  clear h
  go_enter Try.func36, Try.ntmps36
  go_wp2
  go_loop [5] (fun i => ∃ k : Nat, i = .int .i64 (k : Int) ∧ k ≤ s.size ∧ Hid (U.hasL (s.data.toList.drop k) c = q)) (fun i => s.size - (intOf i).toNat)
  case atStart => exact ⟨0, rfl, Nat.zero_le _, HQ.out⟩
  case round =>
    obtain ⟨k, rfl, hk, H⟩ := hrel
    by_cases hk2 : k < s.size
    · obtain ⟨b, hd, hb⟩ := drop_byte s k hk2
      have hi := run_byt s k hk2 _ rfl
      have H2 := H.out
      rw [hd] at H2
      obtain ⟨x, hx⟩ : ∃ x : Nat, x = byt s k := ⟨_, rfl⟩
      rw [← hx] at hi hb
      clear hx hd
      by_cases hc : (x : Int) = c
      · have F := Lib.hid (show q = true by rw [← H2, U.hasL, List.any_cons, hb]; simp [hc])
        have hc2 : ((x : Int) == c) = true := by simp [hc]
        clear H2 hc
        go_wp2
        go_ret
        exact ⟨by rw [F.out]; rfl, rfl⟩
      · have F := Lib.hid (show U.hasL (s.data.toList.drop (k + 1)) c = q by rw [← H2, U.hasL, U.hasL, List.any_cons, hb]; simp [hc])
        have hc2 : ((x : Int) == c) = false := by simp [hc]
        clear H2 hc
        go_wp2
        go_round
        case rel => exact ⟨k + 1, by go_num, by omega, F.out⟩
        case measure => simp [intOf]; omega
    · have H2 := H.out
      rw [List.drop_eq_nil_of_le (by rw [← Lib.size_eq]; omega)] at H2
      have F := Lib.hid (show q = false by rw [← H2]; rfl)
      clear H2
      go_wp2
      go_ret
      exact ⟨by rw [F.out]; rfl, rfl⟩

set_option maxHeartbeats 800000 in
theorem refFlow_any (c : Int) (w : World) :
    Calls Try.prog 25 #[.int .u8 c] w fun e w' => e = .returned (.bool (U.flow c)) ∧ w = w' := by
  go_enter Try.func25, Try.ntmps25
  go_wp2_with (go_at_call 36; refine (has_is (U.hasL _ c) _ c _ (by decide) rfl).mono ?_; rintro e w' ⟨rfl, rfl⟩)
  all_goals go_ret
  all_goals
    refine ⟨congrArg (fun b : Bool => Ending.returned (.bool b)) ?_, rfl⟩
    unfold U.flow
    rw [Bool.eq_iff_iff]
    simp [U.hasL] at *
    try omega
theorem refFlow_is (q : Bool) (c : Int) (w : World) (h : U.flow c = q) :
    Calls Try.prog 25 #[.int .u8 c] w fun e w' => e = .returned (.bool q) ∧ w = w' := by
  subst h; exact refFlow_any c w

set_option maxHeartbeats 800000 in
theorem refUri_any (c : Int) (w : World) :
    Calls Try.prog 42 #[.int .u8 c] w fun e w' => e = .returned (.bool (U.uri c)) ∧ w = w' := by
  go_enter Try.func42, Try.ntmps42
  go_wp2_with (first | (go_at_call 44; refine (refWord_any _ _).mono ?_; rintro e w' ⟨rfl, rfl⟩) | (go_at_call 36; refine (has_is (U.hasL _ c) _ c _ (by decide) rfl).mono ?_; rintro e w' ⟨rfl, rfl⟩))
  all_goals go_ret
  all_goals
    refine ⟨congrArg (fun b : Bool => Ending.returned (.bool b)) ?_, rfl⟩
    unfold U.uri
    rw [Bool.eq_iff_iff]
    simp [U.hasL, *]
    try omega
theorem refUri_is (q : Bool) (c : Int) (w : World) (h : U.uri c = q) :
    Calls Try.prog 42 #[.int .u8 c] w fun e w' => e = .returned (.bool q) ∧ w = w' := by
  subst h; exact refUri_any c w

/-! ### Ends, Name -/
/-- Does what stands ahead of a place end there? -/
def endsB (s : ByteArray) (at' : Int) : Bool := if at' < 0 ∨ (s.size : Int) ≤ at' then true else U.endc (byt s at'.toNat : Int)
theorem endsB_in (s : ByteArray) (k : Nat) (h : k < s.size) : endsB s (k : Int) = U.endc (byt s k : Int) := by
  unfold endsB
  rw [if_neg (by omega)]
  rfl
theorem endsB_out (s : ByteArray) (at' : Int) (h : at' < 0 ∨ (s.size : Int) ≤ at') : endsB s at' = true := by
  unfold endsB
  rw [if_pos h]
/-- How long the name is that begins at a place. -/
def nameAt (s : ByteArray) (at' : Int) : Nat := if at' < 0 then 0 else U.nameL (s.data.toList.drop at'.toNat)
theorem nameAt_in (s : ByteArray) (k : Nat) : nameAt s (k : Int) = U.nameL (s.data.toList.drop k) := by
  unfold nameAt
  rw [if_neg (by omega)]
  rfl
theorem nameAt_out (s : ByteArray) (at' : Int) (h : at' < 0 ∨ (s.size : Int) ≤ at') : nameAt s at' = 0 := by
  unfold nameAt
  split
  · rfl
  · rw [List.drop_eq_nil_of_le (by rw [← Lib.size_eq]; omega)]; rfl
theorem white_endc {b : Int} : U.endc b = (U.white b || b == 10) := by
  unfold U.endc U.white
  rw [Bool.eq_iff_iff]
  simp
  omega

set_option maxHeartbeats 400000 in
theorem Ends_is (q : Bool) (s : ByteArray) (at' : Int) (w : World) (_hs : s.size ≤ 1099511627776) (h : endsB s at' = q) :
    Calls Try.prog 11 #[.string s, .int .i64 at'] w fun e w' => e = .returned (.bool q) ∧ w = w' := by
  by_cases h1 : at' < 0
  · rw [endsB_out s at' (.inl h1)] at h
    subst h
    go_enter Try.func11, Try.ntmps11
    go_wp2
    go_ret
    exact ⟨rfl, rfl⟩
  by_cases h2 : (s.size : Int) ≤ at'
  · rw [endsB_out s at' (.inr h2)] at h
    subst h
    go_enter Try.func11, Try.ntmps11
    go_wp2
    go_ret
    exact ⟨rfl, rfl⟩
  obtain ⟨k, rfl⟩ : ∃ k : Nat, at' = (k : Int) := ⟨at'.toNat, by omega⟩
  have hk : k < s.size := by omega
  rw [endsB_in s k hk] at h
  have hi := run_byt s k hk _ rfl
  obtain ⟨b, hb⟩ : ∃ b : Nat, b = byt s k := ⟨_, rfl⟩
  rw [← hb] at h hi
  rw [white_endc] at h
  clear hb h1 h2
  have HQ := Lib.hid h
  clear h
  cases h10 : ((b : Int) == 10) with
  | true =>
    have F := Lib.hid (show q = true by rw [← HQ.out, h10]; simp)
    go_enter Try.func11, Try.ntmps11
    go_wp2
    go_ret
    exact ⟨by rw [F.out]; rfl, rfl⟩
  | false =>
    have F := Lib.hid (show U.white (b : Int) = q by rw [← HQ.out, h10]; simp)
    go_enter Try.func11, Try.ntmps11
    go_wp2_with (go_at_call 21; refine (White_is q _ _ F.out).mono ?_; rintro e w' ⟨rfl, rfl⟩)
    go_ret
    exact ⟨rfl, rfl⟩

set_option maxHeartbeats 400000 in
theorem refEnds_is (q : Bool) (s : ByteArray) (at' : Int) (w : World) (_hs : s.size ≤ 1099511627776) (h : endsB s at' = q) :
    Calls Try.prog 24 #[.string s, .int .i64 at'] w fun e w' => e = .returned (.bool q) ∧ w = w' := by
  by_cases h1 : at' < 0
  · rw [endsB_out s at' (.inl h1)] at h
    subst h
    go_enter Try.func24, Try.ntmps24
    go_wp2
    go_ret
    exact ⟨rfl, rfl⟩
  by_cases h2 : (s.size : Int) ≤ at'
  · rw [endsB_out s at' (.inr h2)] at h
    subst h
    go_enter Try.func24, Try.ntmps24
    go_wp2
    go_ret
    exact ⟨rfl, rfl⟩
  obtain ⟨k, rfl⟩ : ∃ k : Nat, at' = (k : Int) := ⟨at'.toNat, by omega⟩
  have hk : k < s.size := by omega
  rw [endsB_in s k hk] at h
  have hi := run_byt s k hk _ rfl
  obtain ⟨b, hb⟩ : ∃ b : Nat, b = byt s k := ⟨_, rfl⟩
  rw [← hb] at h hi
  rw [white_endc] at h
  clear hb h1 h2
  have HQ := Lib.hid h
  clear h
  cases hw : U.white (b : Int) with
  | true =>
    have F := Lib.hid (show q = true by rw [← HQ.out, hw]; rfl)
    have HW := Lib.hid hw
    clear hw
    go_enter Try.func24, Try.ntmps24
    go_wp2_with (go_at_call 35; refine (refWhite_is true _ _ HW.out).mono ?_; rintro e w' ⟨rfl, rfl⟩)
    go_ret
    exact ⟨by rw [F.out]; rfl, rfl⟩
  | false =>
    have F : ((b : Int) == 10) = q := by rw [← HQ.out, hw]; simp
    have HW := Lib.hid hw
    clear hw
    go_enter Try.func24, Try.ntmps24
    go_wp2_with (go_at_call 35; refine (refWhite_is false _ _ HW.out).mono ?_; rintro e w' ⟨rfl, rfl⟩)
    go_ret
    exact ⟨congrArg (fun b : Bool => Ending.returned (.bool b)) (show (decide ((k : Int) < 0) || decide (s.size ≤ k) || q) = q by rw [decide_eq_false (by omega), decide_eq_false (by omega)]; rfl), rfl⟩

theorem name_stop (s : ByteArray) (e : Nat) (h : e < s.size) (hb : U.endc (byt s e : Int) = true ∨ U.flow (byt s e : Int) = true) : U.nameL (s.data.toList.drop e) = 0 := by
  obtain ⟨b, hd, hb2⟩ := drop_byte s e h
  rw [hd, U.nameL_cons, if_neg]
  unfold U.keeps
  rw [hb2]
  rcases hb with hb | hb <;> simp [hb]
theorem name_go (s : ByteArray) (e : Nat) (h : e < s.size) (h1 : U.endc (byt s e : Int) = false) (h2 : U.flow (byt s e : Int) = false) : U.nameL (s.data.toList.drop e) = U.nameL (s.data.toList.drop (e + 1)) + 1 := by
  obtain ⟨b, hd, hb2⟩ := drop_byte s e h
  rw [hd, U.nameL_cons, if_pos]
  unfold U.keeps
  rw [hb2, h1, h2]
  rfl
theorem name_over (s : ByteArray) (e : Nat) (h : ¬ e < s.size) : U.nameL (s.data.toList.drop e) = 0 := by
  rw [List.drop_eq_nil_of_le (by rw [← Lib.size_eq]; omega)]; rfl

set_option maxHeartbeats 800000 in
theorem Name_is (n : Nat) (s : ByteArray) (at' : Int) (w : World) (hs : s.size ≤ 1099511627776) (h : nameAt s at' = n) :
    Calls Try.prog 28 #[.string s, .int .i64 at'] w fun e w' => e = .returned (.int .i64 (n : Int)) ∧ w = w' := by
  by_cases h1 : at' < 0 ∨ (s.size : Int) ≤ at'
  · rw [nameAt_out s at' h1] at h
    subst h
    have HE := Lib.hid (endsB_out s at' h1)
    clear h1
    go_enter Try.func28, Try.ntmps28
    go_wp2
    refine wp_loop_rounds 1 ?_
    rw [rounds_succ]
    go_wp2_with (go_at_call 11; refine (Ends_is true s _ _ hs HE.out).mono ?_; rintro e w' ⟨rfl, rfl⟩)
    go_ret
    exact ⟨by simp, rfl⟩
  obtain ⟨p, rfl⟩ : ∃ p : Nat, at' = (p : Int) := ⟨at'.toNat, by omega⟩
  have hp : p < s.size := by omega
  rw [nameAt_in] at h
  clear h1
  have HN := Lib.hid h
  clear h
  go_enter Try.func28, Try.ntmps28
  go_wp2
  go_loop [5] (fun i => ∃ e : Nat, i = .int .i64 (e : Int) ∧ p ≤ e ∧ e ≤ s.size ∧ Hid (U.nameL (s.data.toList.drop e) + (e - p) = n)) (fun i => s.size - (intOf i).toNat)
  case atStart => exact ⟨p, rfl, Nat.le_refl _, by omega, by show _ = _; rw [HN.out]; omega⟩
  case round =>
    obtain ⟨e, rfl, he1, he2, H⟩ := hrel
    by_cases hk : e < s.size
    · have hi := run_byt s e hk _ rfl
      have hin := endsB_in s e hk
      have hst := name_stop s e hk
      have hgo := name_go s e hk
      have H2 := H.out
      obtain ⟨b, hb⟩ : ∃ b : Nat, b = byt s e := ⟨_, rfl⟩
      rw [← hb] at hi hin hst hgo
      clear hb
      cases hE : U.endc (b : Int) with
      | true =>
        rw [hE] at hin
        have HE := Lib.hid hin
        rw [hst (.inl hE)] at H2
        have F := Lib.hid (show ((e : Int) - (p : Int)) = (n : Int) by omega)
        clear hin hst hgo H2 hE
        go_wp2_with (go_at_call 11; refine (Ends_is true s _ _ hs HE.out).mono ?_; rintro e w' ⟨rfl, rfl⟩)
        go_ret
        exact ⟨by rw [← F.out]; rfl, rfl⟩
      | false =>
        rw [hE] at hin
        have HE := Lib.hid hin
        cases hF : U.flow (b : Int) with
        | true =>
          have HF := Lib.hid hF
          rw [hst (.inr hF)] at H2
          have F := Lib.hid (show ((e : Int) - (p : Int)) = (n : Int) by omega)
          clear hin hst hgo H2 hE hF
          go_wp2_with (first | (go_at_call 11; refine (Ends_is false s _ _ hs HE.out).mono ?_; rintro e w' ⟨rfl, rfl⟩) | (go_at_call 12; refine (Flow_is true _ _ HF.out).mono ?_; rintro e w' ⟨rfl, rfl⟩))
          go_ret
          exact ⟨by rw [← F.out]; rfl, rfl⟩
        | false =>
          have HF := Lib.hid hF
          rw [hgo hE hF] at H2
          have F := Lib.hid H2
          clear hin hst hgo H2 hE hF
          go_wp2_with (first | (go_at_call 11; refine (Ends_is false s _ _ hs HE.out).mono ?_; rintro e w' ⟨rfl, rfl⟩) | (go_at_call 12; refine (Flow_is false _ _ HF.out).mono ?_; rintro e w' ⟨rfl, rfl⟩))
          go_round
          case rel => exact ⟨e + 1, by go_num, by omega, by omega, by show _ = _; have := F.out; omega⟩
          case measure => simp [intOf]; omega
    · have HE := Lib.hid (endsB_out s (e : Int) (.inr (by omega)))
      have H2 := H.out
      rw [name_over s e hk] at H2
      have F := Lib.hid (show ((e : Int) - (p : Int)) = (n : Int) by omega)
      clear H2
      go_wp2_with (go_at_call 11; refine (Ends_is true s _ _ hs HE.out).mono ?_; rintro e w' ⟨rfl, rfl⟩)
      go_ret
      exact ⟨by rw [← F.out]; rfl, rfl⟩

set_option maxHeartbeats 800000 in
theorem refName_is (n : Nat) (s : ByteArray) (at' : Int) (w : World) (hs : s.size ≤ 1099511627776) (h : nameAt s at' = n) :
    Calls Try.prog 22 #[.string s, .int .i64 at'] w fun e w' => e = .returned (.int .i64 (n : Int)) ∧ w = w' := by
  by_cases h1 : at' < 0
  · rw [nameAt_out s at' (.inl h1)] at h
    subst h
    go_enter Try.func22, Try.ntmps22
    go_wp2
    go_ret
    exact ⟨rfl, rfl⟩
  obtain ⟨p, rfl⟩ : ∃ p : Nat, at' = (p : Int) := ⟨at'.toNat, by omega⟩
  rw [nameAt_in] at h
  clear h1
  have HN := Lib.hid h
  clear h
  go_enter Try.func22, Try.ntmps22
  go_wp2
  go_loop [5] (fun i => ∃ k : Nat, i = .int .i64 (k : Int) ∧ k ≤ s.size ∧ Hid (U.nameL (s.data.toList.drop (p + k)) + k = n)) (fun i => s.size - (intOf i).toNat)
  case atStart => exact ⟨0, rfl, Nat.zero_le _, by show _ = _; rw [Nat.add_zero, Nat.add_zero, HN.out]⟩
  case round =>
    obtain ⟨k, rfl, hk0, H⟩ := hrel
    by_cases hk : p + k < s.size
    · have hi := run_byt s (p + k) hk ((p : Int) + (k : Int)) (by omega)
      have hin := endsB_in s (p + k) hk
      have hst := name_stop s (p + k) hk
      have hgo := name_go s (p + k) hk
      have H2 := H.out
      obtain ⟨b, hb⟩ : ∃ b : Nat, b = byt s (p + k) := ⟨_, rfl⟩
      rw [← hb] at hi hin hst hgo
      rw [show ((p + k : Nat) : Int) = (p : Int) + (k : Int) from by omega] at hin
      clear hb
      cases hE : U.endc (b : Int) with
      | true =>
        rw [hE] at hin
        have HE := Lib.hid hin
        rw [hst (.inl hE)] at H2
        have F := Lib.hid (show (k : Int) = (n : Int) by omega)
        clear hin hst hgo H2 hE
        go_wp2_with (go_at_call 24; refine (refEnds_is true s _ _ hs HE.out).mono ?_; rintro e w' ⟨rfl, rfl⟩)
        go_ret
        exact ⟨by rw [← F.out]; rfl, rfl⟩
      | false =>
        rw [hE] at hin
        have HE := Lib.hid hin
        cases hF : U.flow (b : Int) with
        | true =>
          have HF := Lib.hid hF
          rw [hst (.inr hF)] at H2
          have F := Lib.hid (show (k : Int) = (n : Int) by omega)
          clear hin hst hgo H2 hE hF
          go_wp2_with (first | (go_at_call 24; refine (refEnds_is false s _ _ hs HE.out).mono ?_; rintro e w' ⟨rfl, rfl⟩) | (go_at_call 25; refine (refFlow_is true _ _ HF.out).mono ?_; rintro e w' ⟨rfl, rfl⟩))
          go_ret
          exact ⟨by rw [← F.out]; rfl, rfl⟩
        | false =>
          have HF := Lib.hid hF
          rw [hgo hE hF] at H2
          have F := Lib.hid H2
          clear hin hst hgo H2 hE hF
          go_wp2_with (first | (go_at_call 24; refine (refEnds_is false s _ _ hs HE.out).mono ?_; rintro e w' ⟨rfl, rfl⟩) | (go_at_call 25; refine (refFlow_is false _ _ HF.out).mono ?_; rintro e w' ⟨rfl, rfl⟩))
          go_round
          case rel => exact ⟨k + 1, by go_num, by omega, by show _ = _; have := F.out; rw [show p + (k + 1) = p + k + 1 from rfl]; omega⟩
          case measure => simp [intOf]; omega
    · have H2 := H.out
      rw [name_over s (p + k) hk] at H2
      have F := Lib.hid (show (k : Int) = (n : Int) by omega)
      clear H2
      go_wp2
      go_ret
      exact ⟨by rw [← F.out]; rfl, rfl⟩

end Go.Proofs.Ytjpfkddkghfdiaa
