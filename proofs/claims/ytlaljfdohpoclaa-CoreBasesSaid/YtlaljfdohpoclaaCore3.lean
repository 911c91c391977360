/- The program's package core: matchers by what a scalar is, Tag and Long. Conditions: those that each theorem writes out (lengths that memory can hold). -/
import Derived.Test.YtlaljfdohpoclaaCore2
import Derived.Stop.Asserts
namespace Go.Proofs.Ytlaljfdohpoclaa
open Go.RowKit

/-! ### Which matchers each kind has -/
theorem has_name_null (v : Value) (w : World) : (Instr.typeAssert (.iface 51 v) 20 40 true).run Try.prog w = .ok (.tuple #[.iface 51 v, .bool true]) w := run_typeAssert_hasB Try.underlying40 (by kernel_rfl) v 20 w
theorem method_name_null (s : ByteArray) (w : World) : (method 177 51 (.string s) "bosket/core.null").run Try.prog w = .ok (39, .string s) w := by kernel_rfl
theorem has_name_boolean (v : Value) (w : World) : (Instr.typeAssert (.iface 51 v) 20 43 true).run Try.prog w = .ok (.tuple #[.iface 51 v, .bool true]) w := run_typeAssert_hasB Try.underlying43 (by kernel_rfl) v 20 w
theorem method_name_boolean (s : ByteArray) (w : World) : (method 177 51 (.string s) "bosket/core.boolean").run Try.prog w = .ok (38, .string s) w := by kernel_rfl
theorem has_name_integer (v : Value) (w : World) : (Instr.typeAssert (.iface 51 v) 20 46 true).run Try.prog w = .ok (.tuple #[.nilIface, .bool false]) w := run_typeAssert_lacksB Try.underlying46 (by kernel_rfl) (by kernel_rfl) v 20 w
theorem has_name_float (v : Value) (w : World) : (Instr.typeAssert (.iface 51 v) 20 49 true).run Try.prog w = .ok (.tuple #[.nilIface, .bool false]) w := run_typeAssert_lacksB Try.underlying49 (by kernel_rfl) (by kernel_rfl) v 20 w
theorem has_signed_null (v : Value) (w : World) : (Instr.typeAssert (.iface 53 v) 20 40 true).run Try.prog w = .ok (.tuple #[.nilIface, .bool false]) w := run_typeAssert_lacksB Try.underlying40 (by kernel_rfl) (by kernel_rfl) v 20 w
theorem has_signed_boolean (v : Value) (w : World) : (Instr.typeAssert (.iface 53 v) 20 43 true).run Try.prog w = .ok (.tuple #[.nilIface, .bool false]) w := run_typeAssert_lacksB Try.underlying43 (by kernel_rfl) (by kernel_rfl) v 20 w
theorem has_signed_integer (v : Value) (w : World) : (Instr.typeAssert (.iface 53 v) 20 46 true).run Try.prog w = .ok (.tuple #[.iface 53 v, .bool true]) w := run_typeAssert_hasB Try.underlying46 (by kernel_rfl) v 20 w
theorem method_signed_integer (s : ByteArray) (w : World) : (method 177 53 (.string s) "bosket/core.integer").run Try.prog w = .ok (41, .string s) w := by kernel_rfl
theorem has_signed_float (v : Value) (w : World) : (Instr.typeAssert (.iface 53 v) 20 49 true).run Try.prog w = .ok (.tuple #[.iface 53 v, .bool true]) w := run_typeAssert_hasB Try.underlying49 (by kernel_rfl) v 20 w
theorem method_signed_float (s : ByteArray) (w : World) : (method 177 53 (.string s) "bosket/core.float").run Try.prog w = .ok (40, .string s) w := by kernel_rfl
theorem has_unsigned_null (v : Value) (w : World) : (Instr.typeAssert (.iface 54 v) 20 40 true).run Try.prog w = .ok (.tuple #[.nilIface, .bool false]) w := run_typeAssert_lacksB Try.underlying40 (by kernel_rfl) (by kernel_rfl) v 20 w
theorem has_unsigned_boolean (v : Value) (w : World) : (Instr.typeAssert (.iface 54 v) 20 43 true).run Try.prog w = .ok (.tuple #[.nilIface, .bool false]) w := run_typeAssert_lacksB Try.underlying43 (by kernel_rfl) (by kernel_rfl) v 20 w
theorem has_unsigned_integer (v : Value) (w : World) : (Instr.typeAssert (.iface 54 v) 20 46 true).run Try.prog w = .ok (.tuple #[.iface 54 v, .bool true]) w := run_typeAssert_hasB Try.underlying46 (by kernel_rfl) v 20 w
theorem method_unsigned_integer (s : ByteArray) (w : World) : (method 177 54 (.string s) "bosket/core.integer").run Try.prog w = .ok (47, .string s) w := by kernel_rfl
theorem has_unsigned_float (v : Value) (w : World) : (Instr.typeAssert (.iface 54 v) 20 49 true).run Try.prog w = .ok (.tuple #[.iface 54 v, .bool true]) w := run_typeAssert_hasB Try.underlying49 (by kernel_rfl) v 20 w
theorem method_unsigned_float (s : ByteArray) (w : World) : (method 177 54 (.string s) "bosket/core.float").run Try.prog w = .ok (46, .string s) w := by kernel_rfl

set_option maxHeartbeats 1600000 in
theorem coreWord_name (k : Nat) (s : ByteArray) (w : World) (_hs : s.size ≤ 1099511627776) (h : (if U.cIn U.cNulls s.data.toList = true then 0 else if U.cIn U.cBools s.data.toList = true then 1 else 4) = k) :
    Calls Try.prog 14 #[.iface 51 (.string s)] w fun e w' => e = .returned (.string ⟨(U.cWord k).toArray⟩) ∧ w = w' := by
  have f_null := has_name_null
  have f_boolean := has_name_boolean
  have f_integer := has_name_integer
  have f_float := has_name_float
  have m_null := method_name_null s
  have m_boolean := method_name_boolean s
  cases h1 : U.cIn U.cNulls s.data.toList with
  | true =>
    rw [h1, if_pos rfl] at h
    subst h
    have H1 := Lib.hid h1
    clear h1
    go_enter Try.func14, Try.ntmps14
    go_wp2_with fail
    refine (coreNull_is true s _ H1.out).mono ?_
    rintro e w1 ⟨rfl, rfl⟩
    go_wp2
    go_ret
    exact ⟨rfl, rfl⟩
  | false =>
    rw [h1, if_neg (by decide)] at h
    have H1 := Lib.hid h1
    clear h1
    cases h2 : U.cIn U.cBools s.data.toList with
    | true =>
      rw [h2, if_pos rfl] at h
      subst h
      have H2 := Lib.hid h2
      clear h2
      go_enter Try.func14, Try.ntmps14
      go_wp2_with fail
      refine (coreNull_is false s _ H1.out).mono ?_
      rintro e w1 ⟨rfl, rfl⟩
      go_wp2_with fail
      refine (coreBool_is true s _ H2.out).mono ?_
      rintro e w1 ⟨rfl, rfl⟩
      go_wp2
      go_ret
      exact ⟨rfl, rfl⟩
    | false =>
      rw [h2, if_neg (by decide)] at h
      subst h
      have H2 := Lib.hid h2
      clear h2
      go_enter Try.func14, Try.ntmps14
      go_wp2_with fail
      refine (coreNull_is false s _ H1.out).mono ?_
      rintro e w1 ⟨rfl, rfl⟩
      go_wp2_with fail
      refine (coreBool_is false s _ H2.out).mono ?_
      rintro e w1 ⟨rfl, rfl⟩
      go_wp2
      go_ret
      exact ⟨rfl, rfl⟩

set_option maxHeartbeats 1600000 in
theorem coreWord_signed (k : Nat) (s : ByteArray) (w : World) (hs : s.size ≤ 1099511627776) (h : (if U.cAll U.cDig s.data.toList = true then 2 else if (U.cIn U.cInfs s.data.toList || U.cDec s.data.toList) = true then 3 else 4) = k) :
    Calls Try.prog 14 #[.iface 53 (.string s)] w fun e w' => e = .returned (.string ⟨(U.cWord k).toArray⟩) ∧ w = w' := by
  have f_null := has_signed_null
  have f_boolean := has_signed_boolean
  have f_integer := has_signed_integer
  have f_float := has_signed_float
  have m_integer := method_signed_integer s
  have m_float := method_signed_float s
  cases h1 : U.cAll U.cDig s.data.toList with
  | true =>
    rw [h1, if_pos rfl] at h
    subst h
    have H1 := Lib.hid h1
    clear h1
    go_enter Try.func14, Try.ntmps14
    go_wp2_with fail
    refine (coreSInteger_is true s _ hs H1.out).mono ?_
    rintro e w1 ⟨rfl, rfl⟩
    go_wp2
    go_ret
    exact ⟨rfl, rfl⟩
  | false =>
    rw [h1, if_neg (by decide)] at h
    have H1 := Lib.hid h1
    clear h1
    cases h2 : (U.cIn U.cInfs s.data.toList || U.cDec s.data.toList) with
    | true =>
      rw [h2, if_pos rfl] at h
      subst h
      have H2 := Lib.hid h2
      clear h2
      go_enter Try.func14, Try.ntmps14
      go_wp2_with fail
      refine (coreSInteger_is false s _ hs H1.out).mono ?_
      rintro e w1 ⟨rfl, rfl⟩
      go_wp2_with fail
      refine (coreSFloat_is true s _ hs H2.out).mono ?_
      rintro e w1 ⟨rfl, rfl⟩
      go_wp2
      go_ret
      exact ⟨rfl, rfl⟩
    | false =>
      rw [h2, if_neg (by decide)] at h
      subst h
      have H2 := Lib.hid h2
      clear h2
      go_enter Try.func14, Try.ntmps14
      go_wp2_with fail
      refine (coreSInteger_is false s _ hs H1.out).mono ?_
      rintro e w1 ⟨rfl, rfl⟩
      go_wp2_with fail
      refine (coreSFloat_is false s _ hs H2.out).mono ?_
      rintro e w1 ⟨rfl, rfl⟩
      go_wp2
      go_ret
      exact ⟨rfl, rfl⟩

set_option maxHeartbeats 1600000 in
theorem coreWord_unsigned (k : Nat) (s : ByteArray) (w : World) (hs : s.size ≤ 1099511627776) (h : (if (U.cAll U.cDig s.data.toList || U.cBase s.data.toList) = true then 2 else if (U.cIn U.cNans s.data.toList || (U.cIn U.cInfs s.data.toList || U.cDec s.data.toList)) = true then 3 else 4) = k) :
    Calls Try.prog 14 #[.iface 54 (.string s)] w fun e w' => e = .returned (.string ⟨(U.cWord k).toArray⟩) ∧ w = w' := by
  have f_null := has_unsigned_null
  have f_boolean := has_unsigned_boolean
  have f_integer := has_unsigned_integer
  have f_float := has_unsigned_float
  have m_integer := method_unsigned_integer s
  have m_float := method_unsigned_float s
  cases h1 : (U.cAll U.cDig s.data.toList || U.cBase s.data.toList) with
  | true =>
    rw [h1, if_pos rfl] at h
    subst h
    have H1 := Lib.hid h1
    clear h1
    go_enter Try.func14, Try.ntmps14
    go_wp2_with fail
    refine (coreUInteger_is true s _ hs H1.out).mono ?_
    rintro e w1 ⟨rfl, rfl⟩
    go_wp2
    go_ret
    exact ⟨rfl, rfl⟩
  | false =>
    rw [h1, if_neg (by decide)] at h
    have H1 := Lib.hid h1
    clear h1
    cases h2 : (U.cIn U.cNans s.data.toList || (U.cIn U.cInfs s.data.toList || U.cDec s.data.toList)) with
    | true =>
      rw [h2, if_pos rfl] at h
      subst h
      have H2 := Lib.hid h2
      clear h2
      go_enter Try.func14, Try.ntmps14
      go_wp2_with fail
      refine (coreUInteger_is false s _ hs H1.out).mono ?_
      rintro e w1 ⟨rfl, rfl⟩
      go_wp2_with fail
      refine (coreUFloat_is true s _ hs H2.out).mono ?_
      rintro e w1 ⟨rfl, rfl⟩
      go_wp2
      go_ret
      exact ⟨rfl, rfl⟩
    | false =>
      rw [h2, if_neg (by decide)] at h
      subst h
      have H2 := Lib.hid h2
      clear h2
      go_enter Try.func14, Try.ntmps14
      go_wp2_with fail
      refine (coreUInteger_is false s _ hs H1.out).mono ?_
      rintro e w1 ⟨rfl, rfl⟩
      go_wp2_with fail
      refine (coreUFloat_is false s _ hs H2.out).mono ?_
      rintro e w1 ⟨rfl, rfl⟩
      go_wp2
      go_ret
      exact ⟨rfl, rfl⟩

/-- The head of all tags. -/
def tagP : ByteArray := ⟨#[116, 97, 103, 58, 121, 97, 109, 108, 46, 111, 114, 103, 44, 50, 48, 48, 50, 58]⟩
/-- The tag of a word. -/
def tagS (k : Nat) : ByteArray := tagP ++ ⟨(U.cWord k).toArray⟩

set_option maxHeartbeats 400000 in
theorem coreLong_is (t s : ByteArray) (w : World) (hs : s.size ≤ 1099511627776) (h : tagP ++ s = t) :
    Calls Try.prog 11 #[.string s] w fun e w' => e = .returned (.string t) ∧ w = w' := by
  subst h
  go_enter Try.func11, Try.ntmps11
  go_wp2
  go_ret
  exact ⟨rfl, rfl⟩

end Go.Proofs.Ytlaljfdohpoclaa
