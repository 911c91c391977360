/- What the statements share (package bosketlaw0), and the document's Text: what each of these functions returns. Conditions: those that each theorem writes out. -/
import Derived.Test.YthleebnfbdcobaaGreatDoorRef2
import Derived.Laws.AppendOwnNone
namespace Go.Proofs.YthleebnfbdcobaaGreatDoor
open Go.RowKit

/-- The cell of a number. -/
theorem Is32.cell {B : Nat} {w : World} {v : Value} {xs : List Int} (h : Is32 B w v xs) (hp : 0 < xs.length) :
    ∃ b o cap, v = .slice (some ⟨b, o, none⟩) xs.length cap ∧ xs.length ≤ cap ∧ cap ≤ maxLen ∧ b < B ∧ ∀ j, j < xs.length → w.cell? ⟨b, o + j, none⟩ = some (.int .i32 (xs.getD j 0)) := by
  obtain ⟨ao, cap, rfl, h1, h2, _, h3⟩ := h
  obtain ⟨b, o, rfl, hlt, hc⟩ := h3 hp
  exact ⟨b, o, cap, rfl, h1, h2, hlt, hc⟩
theorem below_drewN' {B : Nat} (w : World) (n : Nat) : Below B w (w.drewN n) := below_drewN (Below.refl B w) n

/-- An operation whose guard says yes. -/
theorem wpList_open {P : Program} {ops : Array Oper} {rest : List Oper} {d : Option Nat} {op : Op} {ty : TypeId} {ps : String} {af : Array Edge} {g : Option (Nat × Bool)} {a : Act} {Q : Exit → Act → World → Prop} {w : World}
    (h : Region.wanted ⟨d, op, ty, ps, af, g⟩ (yielded ops a.tmps) = true) (hl : wpList P ops Q (⟨d, op, ty, ps, af, none⟩ :: rest) a w) : wpList P ops Q (⟨d, op, ty, ps, af, g⟩ :: rest) a w := by
  unfold wpList at hl ⊢
  rw [if_pos h]
  rw [if_pos (by simp [Region.wanted])] at hl
  exact hl

/-- 'append(v, ys...)' of slices of numbers, v nil or the call's own, ys whatever. -/
theorem append32 {ops : Array Oper} {rest : List Oper} {o : Oper} {a : Act} {Q : Exit → Act → World → Prop} {w : World} (hgd : o.guard = none) (s x : Operand)
    (ho : o.op = .call { callee := .builtin .append, args := #[s, x], argTypes := #[76, 76] })
    (B B2 : Nat) (v v2 : Value) (xs ys : List Int) (hs : a.eval s = v) (hx : a.eval x = v2) (hv : Out32 B w v xs) (hv2 : Is32 B2 w v2 ys) (hn : xs.length + ys.length ≤ 1099511627776) (hB : B ≤ w.heap.size)
    (h : ∀ v' w', Out32 B w' v' (xs ++ ys) → w.grownBy w' v.ownBlock → wpList Tryz.prog ops Q rest (a.put o.dst v') w') : wpList Tryz.prog ops Q (o :: rest) a w := by
  obtain ⟨i0, hi, hz0, hz1, hz2⟩ := info_parts info32
  obtain ⟨ao, cap, rfl, k1, k2, k3, k4⟩ := hv2
  have key : ∀ (ad : Addr), ao = some ad → wpList Tryz.prog ops Q (o :: rest) a w := fun ad had => by
    refine wpList_append_own _ hgd s x 76 ho B 21 i0 (.int .i32 0) 1 4 Tryz.underlying76 hi hz0 hz1 hz2 rfl (by decide) v xs.length (xs.map (Value.int .i32)) hs hv ad ys.length cap (ys.map (Value.int .i32)) (by rw [hx, had]) (by simp) ?_ (ints_oneCell _ _) (by unfold maxLen; omega) (by omega) hB ?_
    · intro j u hu
      have hj : j < ys.length := by
        have := (List.getElem?_eq_some_iff.1 hu).1
        simpa using this
      obtain ⟨b, o, e, _, hc⟩ := k4 (by omega)
      rw [had] at e
      obtain rfl := Option.some.inj e
      rw [Addr.add_lit, hc j hj]
      rw [← hu]
      simp [List.getD, hj]
    · intro v' w' h1 h2 _
      refine h v' w' ?_ h2
      unfold Out32
      rw [List.length_append, List.map_append]
      exact h1
  cases ao with
  | some ad => exact key ad rfl
  | none =>
    have hc := k3 rfl
    subst hc
    have hy : ys = [] := List.eq_nil_of_length_eq_zero (by omega)
    subst hy
    refine wpList_append_own_none hgd s x 76 ho B 21 i0 1 Tryz.underlying76 hi v xs.length (xs.map (Value.int .i32)) hs hv hx ?_
    exact h v w (by rw [List.append_nil]; exact hv) (World.grownBy.refl _ _)
theorem Out32.fresh {B : Nat} {w w' : World} {v : Value} {xs : List Int} (h : Out32 B w v xs) {row : Option Nat} (hg : w.grownBy w' row) (hr : ∀ k, row = some k → w.heap.size ≤ k ∨ k < B) : Out32 B w' v xs := by
  refine World.ownsRow.kept h hg ?_
  cases hv : v.ownBlock with
  | none => exact .inl rfl
  | some k =>
    refine .inr fun e => ?_
    have := h.lt k hv
    rcases hr k e.symm with hh | hh <;> omega

/-- A number held below another. -/
def lowZ (x n : Int) : Int := x % 18446744073709551616 % n
theorem lowZ_range (x n : Int) (h : 1 ≤ n) : 0 ≤ lowZ x n ∧ lowZ x n < n :=
  ⟨Int.emod_nonneg _ (by omega), Int.emod_lt_of_pos _ (by omega)⟩
theorem low_eq (x n : Int) (h1 : 1 ≤ n) (h2 : n ≤ 9223372036854775807) : wrap64 ((IntKind.u64.wrap x).tmod n) = lowZ x n := by
  have hu : IntKind.u64.wrap x = x % 18446744073709551616 := by simp [IntKind.wrap, IntKind.bits, IntKind.signed]
  have h0 : 0 ≤ x % 18446744073709551616 := Int.emod_nonneg _ (by omega)
  have hr := lowZ_range x n h1
  rw [hu, Int.tmod_eq_emod_of_nonneg h0]
  change wrap64 (lowZ x n) = lowZ x n
  unfold wrap64
  omega
set_option maxHeartbeats 400000 in
/-- Low. -/
theorem Low_any (x n : Int) (w : World) (h1 : 1 ≤ n) (h2 : n ≤ 9223372036854775807) :
    Calls Tryz.prog 5 #[.int .i64 x, .int .i64 n] w fun e w' => e = .returned (.int .i64 (lowZ x n)) ∧ w = w' := by
  have H := Lib.hid (low_eq x n h1 h2)
  go_enter Tryz.func5, Tryz.ntmps5
  go_wp2
  go_ret
  exact ⟨by rw [← H.out]; rfl, rfl⟩

theorem Low_is (y : Int) (x n : Int) (w : World) (h1 : 1 ≤ n) (h2 : n ≤ 9223372036854775807) (hy : lowZ x n = y) :
    Calls Tryz.prog 5 #[.int .i64 x, .int .i64 n] w fun e w' => e = .returned (.int .i64 y) ∧ w = w' := by
  subst hy; exact Low_any x n w h1 h2

/-- The code point that Scalar makes of a number. -/
def scalZ (x : Int) : Int := if 55296 ≤ lowZ x 1114112 ∧ lowZ x 1114112 ≤ 57343 then lowZ x 1114112 - 55296 else lowZ x 1114112
theorem scalZ_scalar (x : Int) : U.scalar (scalZ x) = true := by
  have := lowZ_range x 1114112 (by omega)
  unfold U.scalar scalZ
  rw [decide_eq_true_eq]
  split <;> omega
set_option maxHeartbeats 400000 in
/-- Scalar. -/
theorem Scalar_any (x : Int) (w : World) :
    Calls Tryz.prog 6 #[.int .i64 x] w fun e w' => e = .returned (.int .i32 (scalZ x)) ∧ w = w' := by
  have hr := lowZ_range x 1114112 (by omega)
  obtain ⟨y, hy⟩ : ∃ y, y = lowZ x 1114112 := ⟨_, rfl⟩
  have F : Hid (scalZ x = if 55296 ≤ y ∧ y ≤ 57343 then y - 55296 else y) := by
    show _ = _
    rw [hy]; rfl
  rw [← hy] at hr
  have HY := Lib.hid hy
  clear hy
  by_cases h1 : 55296 ≤ y ∧ y ≤ 57343
  · have G : Hid (scalZ x = y - 55296) := by show _ = _; rw [F.out, if_pos h1]
    clear F
    obtain ⟨h2, h3⟩ := h1
    go_enter Tryz.func6, Tryz.ntmps6
    go_wp2_with (go_at_call 5; refine (Low_is y _ _ _ (by omega) (by omega) HY.out.symm).mono ?_; rintro e w' ⟨rfl, rfl⟩)
    go_ret
    exact ⟨by rw [G.out]; rfl, rfl⟩
  · have G : Hid (scalZ x = y) := by show _ = _; rw [F.out, if_neg h1]
    clear F
    rcases (show y < 55296 ∨ 57343 < y from by omega) with h2 | h2
    · go_enter Tryz.func6, Tryz.ntmps6
      go_wp2_with (go_at_call 5; refine (Low_is y _ _ _ (by omega) (by omega) HY.out.symm).mono ?_; rintro e w' ⟨rfl, rfl⟩)
      go_ret
      exact ⟨by rw [G.out]; rfl, rfl⟩
    · go_enter Tryz.func6, Tryz.ntmps6
      go_wp2_with (go_at_call 5; refine (Low_is y _ _ _ (by omega) (by omega) HY.out.symm).mono ?_; rintro e w' ⟨rfl, rfl⟩)
      go_ret
      exact ⟨by rw [G.out]; rfl, rfl⟩

theorem Scalar_is (y x : Int) (w : World) (h : scalZ x = y) :
    Calls Tryz.prog 6 #[.int .i64 x] w fun e w' => e = .returned (.int .i32 y) ∧ w = w' := by
  subst h; exact Scalar_any x w

/-- Are texts of such lengths, and a place each, longer than so many bytes? -/
def longB : Int → List Nat → Bool
  | _, [] => false
  | n, l :: r => if n ≤ (l : Int) then true else longB (n - l - 1) r
/-- A slice value that holds the strings ss in blocks below B. -/
def IsStrs (B : Nat) (w : World) (v : Value) (ss : List ByteArray) : Prop :=
  ∃ b o cap, v = .slice (some ⟨b, o, none⟩) ss.length cap ∧ ss.length ≤ cap ∧ cap ≤ maxLen ∧ b < B ∧ ∀ j, j < ss.length → w.cell? ⟨b, o + j, none⟩ = some (.string (ss.getD j ByteArray.empty))

theorem drop_getD {α : Type} (l : List α) (d : α) (k : Nat) (h : k < l.length) : l.drop k = l.getD k d :: l.drop (k + 1) := by
  rw [List.drop_eq_getElem_cons h]
  simp [List.getD, List.getElem?_eq_getElem h]

/-- A slice of two strings that the call has just laid. -/
theorem IsStrs_two (w : World) (a b : ByteArray) : IsStrs (w.heap.size + 1) (w.alloc (.cells #[.string a, .string b] 9)) (.slice (some ⟨w.heap.size, 0, none⟩) 2 2) [a, b] := by
  refine ⟨_, _, 2, rfl, Nat.le_refl _, by decide, Nat.lt_succ_self _, fun j hj => ?_⟩
  rw [Nat.zero_add, World.cell?_alloc_mark]
  match j, hj with
  | 0, _ => rfl
  | 1, _ => rfl

theorem tb2 {a b c : World} (h : Below a.heap.size a b) (k : Below b.heap.size b c) : Below a.heap.size a c := h.trans (k.mono h.size)

theorem calls_below {P : Program} {f : FuncId} {args : Array Value} {w : World} {R : Ending} (h : Calls P f args w fun e w' => e = R ∧ w = w') : Calls P f args w fun e w' => e = R ∧ Below w.heap.size w w' :=
  h.mono (by rintro e w' ⟨rfl, rfl⟩; exact ⟨rfl, Below.refl _ _⟩)

end Go.Proofs.YthleebnfbdcobaaGreatDoor
