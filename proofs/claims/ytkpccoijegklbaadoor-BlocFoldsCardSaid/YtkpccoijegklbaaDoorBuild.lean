/- The library's strings.Builder at this translation: what WriteByte, WriteString and String do to a builder that the call has made: applications of the library's contracts. Conditions: those that each theorem writes out. -/
import Derived.Test.YtkpccoijegklbaaDoorUtfs
import Derived.Shelf.Strings.BuilderK
namespace Go.Proofs.YtkpccoijegklbaaDoor
open Go.RowKit Go.Shelf

def bld_ren167 : Ren := ⟨fun n => match n with | 167 => 49 | 240 => 52 | 276 => 70 | n => n, fun n => match n with | 0 => 0 | 4 => 4 | 5 => 5 | 9 => 9 | 20 => 20 | 37 => 59 | 70 => 58 | 72 => 61 | 75 => 64 | 80 => 67 | 164 => 94 | n => n, fun n => n⟩
theorem bld_lays167 : Go.Proofs.Lays.n167 Tryd.prog bld_ren167 :=
  { mixed := by kernel_rfl
    f167 := Tryd.func49.trans (congrArg some (by kernel_rfl))
    f240 := Tryd.func52.trans (congrArg some (by kernel_rfl))
    f276 := Tryd.func70.trans (congrArg some (by kernel_rfl))
    t0 := Tryd.underlying0
    a0 := Tryd.isAgg0
    z0 := Tryd.sizeOf0
    v0 := Tryd.zeroValue0
    t4 := Tryd.underlying4
    a4 := Tryd.isAgg4
    z4 := Tryd.sizeOf4
    v4 := Tryd.zeroValue4
    t5 := Tryd.underlying5
    a5 := Tryd.isAgg5
    z5 := Tryd.sizeOf5
    v5 := Tryd.zeroValue5
    t9 := Tryd.underlying9
    a9 := Tryd.isAgg9
    z9 := Tryd.sizeOf9
    v9 := Tryd.zeroValue9
    t20 := Tryd.underlying20
    a20 := Tryd.isAgg20
    z20 := Tryd.sizeOf20
    v20 := Tryd.zeroValue20
    t37 := Tryd.underlying59
    a37 := Tryd.isAgg59
    z37 := Tryd.sizeOf59
    v37 := Tryd.zeroValue59
    t70 := Tryd.underlying58
    a70 := Tryd.isAgg58
    z70 := Tryd.sizeOf58
    v70 := Tryd.zeroValue58
    t72 := Tryd.underlying61
    a72 := Tryd.isAgg61
    z72 := Tryd.sizeOf61
    v72 := Tryd.zeroValue61
    t75 := Tryd.underlying64
    a75 := Tryd.isAgg64
    z75 := Tryd.sizeOf64
    v75 := Tryd.zeroValue64
    t164 := Tryd.underlying94
    a164 := Tryd.isAgg94
    z164 := Tryd.sizeOf94
    v164 := Tryd.zeroValue94 }
theorem bld_extra167 : Builder.Extra Tryd.prog bld_ren167 :=
  { sizeBuilder := by kernel_rfl
    liesBuilder := by kernel_rfl
    t5 := Tryd.underlying5
    a5 := Tryd.isAgg5
    z5 := Tryd.sizeOf5
    v5 := Tryd.zeroValue5
    infoByte := by kernel_rfl
    cellsByte := by kernel_rfl
    sizeByte := by kernel_rfl
    neB5 := by decide }
def bld_ren166 : Ren := ⟨fun n => match n with | 166 => 28 | 240 => 52 | 276 => 70 | n => n, fun n => match n with | 0 => 0 | 3 => 3 | 4 => 4 | 5 => 5 | 9 => 9 | 20 => 20 | 37 => 59 | 70 => 58 | 72 => 61 | 75 => 64 | 80 => 67 | 164 => 94 | n => n, fun n => n⟩
theorem bld_lays166 : Go.Proofs.Lays.n166 Tryd.prog bld_ren166 :=
  { mixed := by kernel_rfl
    f166 := Tryd.func28.trans (congrArg some (by kernel_rfl))
    f240 := Tryd.func52.trans (congrArg some (by kernel_rfl))
    f276 := Tryd.func70.trans (congrArg some (by kernel_rfl))
    t0 := Tryd.underlying0
    a0 := Tryd.isAgg0
    z0 := Tryd.sizeOf0
    v0 := Tryd.zeroValue0
    t3 := Tryd.underlying3
    a3 := Tryd.isAgg3
    z3 := Tryd.sizeOf3
    v3 := Tryd.zeroValue3
    t4 := Tryd.underlying4
    a4 := Tryd.isAgg4
    z4 := Tryd.sizeOf4
    v4 := Tryd.zeroValue4
    t9 := Tryd.underlying9
    a9 := Tryd.isAgg9
    z9 := Tryd.sizeOf9
    v9 := Tryd.zeroValue9
    t20 := Tryd.underlying20
    a20 := Tryd.isAgg20
    z20 := Tryd.sizeOf20
    v20 := Tryd.zeroValue20
    t37 := Tryd.underlying59
    a37 := Tryd.isAgg59
    z37 := Tryd.sizeOf59
    v37 := Tryd.zeroValue59
    t70 := Tryd.underlying58
    a70 := Tryd.isAgg58
    z70 := Tryd.sizeOf58
    v70 := Tryd.zeroValue58
    t72 := Tryd.underlying61
    a72 := Tryd.isAgg61
    z72 := Tryd.sizeOf61
    v72 := Tryd.zeroValue61
    t75 := Tryd.underlying64
    a75 := Tryd.isAgg64
    z75 := Tryd.sizeOf64
    v75 := Tryd.zeroValue64
    t164 := Tryd.underlying94
    a164 := Tryd.isAgg94
    z164 := Tryd.sizeOf94
    v164 := Tryd.zeroValue94 }
theorem bld_extra166 : Builder.Extra Tryd.prog bld_ren166 :=
  { sizeBuilder := by kernel_rfl
    liesBuilder := by kernel_rfl
    t5 := Tryd.underlying5
    a5 := Tryd.isAgg5
    z5 := Tryd.sizeOf5
    v5 := Tryd.zeroValue5
    infoByte := by kernel_rfl
    cellsByte := by kernel_rfl
    sizeByte := by kernel_rfl
    neB5 := by decide }
def bld_ren169 : Ren := ⟨fun n => match n with | 169 => 29 | n => n, fun n => match n with | 0 => 0 | 3 => 3 | 5 => 5 | 9 => 9 | 37 => 59 | 70 => 58 | 72 => 61 | 127 => 79 | n => n, fun n => n⟩
theorem bld_lays169 : Go.Proofs.Lays.n169 Tryd.prog bld_ren169 :=
  { mixed := by kernel_rfl
    f169 := Tryd.func29.trans (congrArg some (by kernel_rfl))
    t0 := Tryd.underlying0
    a0 := Tryd.isAgg0
    z0 := Tryd.sizeOf0
    v0 := Tryd.zeroValue0
    t3 := Tryd.underlying3
    a3 := Tryd.isAgg3
    z3 := Tryd.sizeOf3
    v3 := Tryd.zeroValue3
    t9 := Tryd.underlying9
    a9 := Tryd.isAgg9
    z9 := Tryd.sizeOf9
    v9 := Tryd.zeroValue9
    t37 := Tryd.underlying59
    a37 := Tryd.isAgg59
    z37 := Tryd.sizeOf59
    v37 := Tryd.zeroValue59
    t70 := Tryd.underlying58
    a70 := Tryd.isAgg58
    z70 := Tryd.sizeOf58
    v70 := Tryd.zeroValue58
    t72 := Tryd.underlying61
    a72 := Tryd.isAgg61
    z72 := Tryd.sizeOf61
    v72 := Tryd.zeroValue61
    t127 := Tryd.underlying79
    a127 := Tryd.isAgg79
    z127 := Tryd.sizeOf79
    v127 := Tryd.zeroValue79 }
theorem bld_extra169 : Builder.Extra Tryd.prog bld_ren169 :=
  { sizeBuilder := by kernel_rfl
    liesBuilder := by kernel_rfl
    t5 := Tryd.underlying5
    a5 := Tryd.isAgg5
    z5 := Tryd.sizeOf5
    v5 := Tryd.zeroValue5
    infoByte := by kernel_rfl
    cellsByte := by kernel_rfl
    sizeByte := by kernel_rfl
    neB5 := by decide }

/-- The cells of a text. -/
abbrev IsB (B b : Nat) (l : List UInt8) (w : World) : Prop := Lib.IsBuilderF 61 5 B b (Lib.byteCells l) w
theorem IsB.below {B b : Nat} {l : List UInt8} {w w' : World} (h : IsB B b l w) (hb : Below w.heap.size w w') : IsB B b l w' := by
  have key : ∀ p, Lib.BuilderAtF 61 5 B b p (Lib.byteCells l) w → Lib.BuilderAtF 61 5 B b p (Lib.byteCells l) w' := by
    rintro p ⟨hB, v, hv, hown, hne⟩
    refine ⟨hB, v, ?_, ⟨hown.1, ?_⟩, hne⟩
    · rw [hb.block b (Array.getElem?_eq_some_iff.1 hv).1]; exact hv
    · rcases hown.2 with h2 | ⟨g, cap, cur, fz, hv2, hg, hh, r⟩
      · exact .inl h2
      · exact .inr ⟨g, cap, cur, fz, hv2, hg, by rw [hb.block g (Array.getElem?_eq_some_iff.1 hh).1]; exact hh, r⟩
  exact h.elim (fun x => .inl (key _ x)) (fun x => .inr (key _ x))
theorem IsB.fresh (w : World) : IsB w.heap.size w.heap.size [] (w.alloc (.cells #[.pointer none, .slice none 0 0] 61)) :=
  Lib.IsBuilderF.of (Lib.fresh_isBuilder 61 5 w)

theorem WriteByte_k (B b : Nat) (l : List UInt8) (c : UInt8) (z : Int) (hz : z = (c.toNat : Int)) (w : World) (h : IsB B b l w) (hlen : l.length + 1 ≤ 140737488355328) (hBw : B ≤ w.heap.size) :
    Calls Tryd.prog 49 #[.pointer (some ⟨b, 0, none⟩), .int .u8 z] w fun e w' => e = .returned .nilIface ∧ IsB B b (l ++ [c]) w' ∧ Below B w w' ∧ Lib.OthersKept 5 (some b) w w' := by
  subst hz
  refine (Any.Builder_WriteByte_k bld_lays167 bld_extra167 B b (Lib.byteCells l) (c.toNat : Int) w h (by rw [Lib.byteCells_length]; exact hlen) hBw).mono ?_
  rintro e w' ⟨rfl, h1, h2, h3⟩
  refine ⟨rfl, ?_, h2, h3⟩
  unfold IsB
  rw [Lib.byteCells_append]
  exact .inr h1
theorem WriteString_k (B b : Nat) (l m : List UInt8) (w : World) (h : IsB B b l w) (hlen : l.length + m.length ≤ 140737488355328) (hBw : B ≤ w.heap.size) :
    Calls Tryd.prog 28 #[.pointer (some ⟨b, 0, none⟩), .string ⟨m.toArray⟩] w fun e w' => e = .returned (.tuple #[.int .i64 (m.length : Int), .nilIface]) ∧ IsB B b (l ++ m) w' ∧ Below B w w' ∧ Lib.OthersKept 5 (some b) w w' := by
  have hs : (⟨m.toArray⟩ : ByteArray).size = m.length := by simp [ByteArray.size]
  refine (Any.Builder_WriteString_k bld_lays166 bld_extra166 B b (Lib.byteCells l) ⟨m.toArray⟩ w h (by rw [Lib.byteCells_length, hs]; exact hlen) hBw).mono ?_
  rintro e w' ⟨rfl, h1, h2, h3⟩
  rw [hs]
  refine ⟨rfl, ?_, h2, h3⟩
  unfold IsB
  rw [Lib.byteCells_append]
  exact .inr h1
theorem String_k (B b : Nat) (l : List UInt8) (w : World) (h : IsB B b l w) (hBw : B ≤ w.heap.size) :
    Calls Tryd.prog 29 #[.pointer (some ⟨b, 0, none⟩)] w fun e w' => e = .returned (.string ⟨l.toArray⟩) ∧ Below B w w' := by
  refine (Any.Builder_String_any_k bld_lays169 bld_extra169 B b l w h hBw).mono ?_
  rintro e w' ⟨rfl, _, h2, _⟩
  exact ⟨rfl, h2⟩

end Go.Proofs.YtkpccoijegklbaaDoor
