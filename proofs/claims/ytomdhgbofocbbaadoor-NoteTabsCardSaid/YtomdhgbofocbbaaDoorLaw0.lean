/- What the statements share (package bosketlaw0), and the document's Text: what each of these functions returns. Conditions: those that each theorem writes out. -/
import Derived.Test.YtomdhgbofocbbaaDoorRef2
import Derived.Laws.AppendOwnNone
namespace Go.Proofs.YtomdhgbofocbbaaDoor
open Go.RowKit

/-- The cell of a number. -/
theorem Is32.cell {B : Nat} {w : World} {v : Value} {xs : List Int} (h : Is32 B w v xs) (hp : 0 < xs.length) :
    ∃ b o cap, v = .slice (some ⟨b, o, none⟩) xs.length cap ∧ xs.length ≤ cap ∧ cap ≤ maxLen ∧ b < B ∧ ∀ j, j < xs.length → w.cell? ⟨b, o + j, none⟩ = some (.int .i32 (xs.getD j 0)) := by
  obtain ⟨ao, cap, rfl, h1, h2, _, h3⟩ := h
  obtain ⟨b, o, rfl, hlt, hc⟩ := h3 hp
  exact ⟨b, o, cap, rfl, h1, h2, hlt, hc⟩
theorem below_drewN' {B : Nat} (w : World) (n : Nat) : Below B w (w.drewN n) := below_drewN (Below.refl B w) n

/-- An operation whose guard says yes. -/
theorem wpList_open {P : Program} {ops : Array Oper} {rest : List Oper} {d : Option Nat} {op : Op} {ty : TypeId} {ps : String} {af : Array Edge} {g : Option (Nat × Bool)} {a : Act} {Q : Exit → Act → World → Prop} {w : World}
    (h : Region.wanted ⟨d, op, ty, ps, af, g⟩ (yielded ops a.tmps) = true) (hl : wpList P ops Q (⟨d, op, ty, ps, af, none⟩ :: rest) a w) : wpList P ops Q (⟨d, op, ty, ps, af, g⟩ :: rest) a w := by
  unfold wpList at hl ⊢
  rw [if_pos h]
  rw [if_pos (by simp [Region.wanted])] at hl
  exact hl

theorem Out32.fresh {B : Nat} {w w' : World} {v : Value} {xs : List Int} (h : Out32 B w v xs) {row : Option Nat} (hg : w.grownBy w' row) (hr : ∀ k, row = some k → w.heap.size ≤ k ∨ k < B) : Out32 B w' v xs := by
  refine World.ownsRow.kept h hg ?_
  cases hv : v.ownBlock with
  | none => exact .inl rfl
  | some k =>
    refine .inr fun e => ?_
    have := h.lt k hv
    rcases hr k e.symm with hh | hh <;> omega

/-- A number held below another. -/
def lowZ (x n : Int) : Int := x % 18446744073709551616 % n
theorem lowZ_range (x n : Int) (h : 1 ≤ n) : 0 ≤ lowZ x n ∧ lowZ x n < n :=
  ⟨Int.emod_nonneg _ (by omega), Int.emod_lt_of_pos _ (by omega)⟩
theorem low_eq (x n : Int) (h1 : 1 ≤ n) (h2 : n ≤ 9223372036854775807) : wrap64 ((IntKind.u64.wrap x).tmod n) = lowZ x n := by
  have hu : IntKind.u64.wrap x = x % 18446744073709551616 := by simp [IntKind.wrap, IntKind.bits, IntKind.signed]
  have h0 : 0 ≤ x % 18446744073709551616 := Int.emod_nonneg _ (by omega)
  have hr := lowZ_range x n h1
  rw [hu, Int.tmod_eq_emod_of_nonneg h0]
  change wrap64 (lowZ x n) = lowZ x n
  unfold wrap64
  omega
set_option maxHeartbeats 400000 in
/-- Low. -/
theorem Low_any (x n : Int) (w : World) (h1 : 1 ≤ n) (h2 : n ≤ 9223372036854775807) :
    Calls Tryd.prog 9 #[.int .i64 x, .int .i64 n] w fun e w' => e = .returned (.int .i64 (lowZ x n)) ∧ w = w' := by
  have H := Lib.hid (low_eq x n h1 h2)
  go_enter Tryd.func9, Tryd.ntmps9
  go_wp2
  go_ret
  exact ⟨by rw [← H.out]; rfl, rfl⟩

theorem Low_is (y : Int) (x n : Int) (w : World) (h1 : 1 ≤ n) (h2 : n ≤ 9223372036854775807) (hy : lowZ x n = y) :
    Calls Tryd.prog 9 #[.int .i64 x, .int .i64 n] w fun e w' => e = .returned (.int .i64 y) ∧ w = w' := by
  subst hy; exact Low_any x n w h1 h2

/-- The code point that Scalar makes of a number. -/
def scalZ (x : Int) : Int := if 55296 ≤ lowZ x 1114112 ∧ lowZ x 1114112 ≤ 57343 then lowZ x 1114112 - 55296 else lowZ x 1114112
theorem scalZ_scalar (x : Int) : U.scalar (scalZ x) = true := by
  have := lowZ_range x 1114112 (by omega)
  unfold U.scalar scalZ
  rw [decide_eq_true_eq]
  split <;> omega
/-- Are texts of such lengths, and a place each, longer than so many bytes? -/
def longB : Int → List Nat → Bool
  | _, [] => false
  | n, l :: r => if n ≤ (l : Int) then true else longB (n - l - 1) r
/-- A slice value that holds the strings ss in blocks below B. -/
def IsStrs (B : Nat) (w : World) (v : Value) (ss : List ByteArray) : Prop :=
  ∃ b o cap, v = .slice (some ⟨b, o, none⟩) ss.length cap ∧ ss.length ≤ cap ∧ cap ≤ maxLen ∧ b < B ∧ ∀ j, j < ss.length → w.cell? ⟨b, o + j, none⟩ = some (.string (ss.getD j ByteArray.empty))

theorem drop_getD {α : Type} (l : List α) (d : α) (k : Nat) (h : k < l.length) : l.drop k = l.getD k d :: l.drop (k + 1) := by
  rw [List.drop_eq_getElem_cons h]
  simp [List.getD, List.getElem?_eq_getElem h]

/-- A slice of two strings that the call has just laid. -/
theorem IsStrs_two (w : World) (a b : ByteArray) : IsStrs (w.heap.size + 1) (w.alloc (.cells #[.string a, .string b] 9)) (.slice (some ⟨w.heap.size, 0, none⟩) 2 2) [a, b] := by
  refine ⟨_, _, 2, rfl, Nat.le_refl _, by decide, Nat.lt_succ_self _, fun j hj => ?_⟩
  rw [Nat.zero_add, World.cell?_alloc_mark]
  match j, hj with
  | 0, _ => rfl
  | 1, _ => rfl

theorem tb2 {a b c : World} (h : Below a.heap.size a b) (k : Below b.heap.size b c) : Below a.heap.size a c := h.trans (k.mono h.size)

theorem calls_below {P : Program} {f : FuncId} {args : Array Value} {w : World} {R : Ending} (h : Calls P f args w fun e w' => e = R ∧ w = w') : Calls P f args w fun e w' => e = R ∧ Below w.heap.size w w' :=
  h.mono (by rintro e w' ⟨rfl, rfl⟩; exact ⟨rfl, Below.refl _ _⟩)

end Go.Proofs.YtomdhgbofocbbaaDoor
