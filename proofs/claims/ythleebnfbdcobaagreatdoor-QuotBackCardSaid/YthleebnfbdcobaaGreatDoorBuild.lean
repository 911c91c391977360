/- The library's strings.Builder at this translation: what WriteByte, WriteString and String do to a builder that the call has made: applications of the library's contracts. Conditions: those that each theorem writes out. -/
import Derived.Test.YthleebnfbdcobaaGreatDoorUtfs
import Derived.Shelf.Strings.BuilderK
namespace Go.Proofs.YthleebnfbdcobaaGreatDoor
open Go.RowKit Go.Shelf

def bld_ren167 : Ren := ⟨fun n => match n with | 167 => 11 | 240 => 21 | 276 => 41 | n => n, fun n => match n with | 0 => 0 | 4 => 4 | 5 => 5 | 9 => 9 | 20 => 20 | 37 => 36 | 70 => 35 | 72 => 38 | 75 => 40 | 80 => 45 | 164 => 72 | n => n, fun n => n⟩
theorem bld_lays167 : Go.Proofs.Lays.n167 Tryz.prog bld_ren167 :=
  { mixed := by kernel_rfl
    f167 := Tryz.func11.trans (congrArg some (by kernel_rfl))
    f240 := Tryz.func21.trans (congrArg some (by kernel_rfl))
    f276 := Tryz.func41.trans (congrArg some (by kernel_rfl))
    t0 := Tryz.underlying0
    a0 := Tryz.isAgg0
    z0 := Tryz.sizeOf0
    v0 := Tryz.zeroValue0
    t4 := Tryz.underlying4
    a4 := Tryz.isAgg4
    z4 := Tryz.sizeOf4
    v4 := Tryz.zeroValue4
    t5 := Tryz.underlying5
    a5 := Tryz.isAgg5
    z5 := Tryz.sizeOf5
    v5 := Tryz.zeroValue5
    t9 := Tryz.underlying9
    a9 := Tryz.isAgg9
    z9 := Tryz.sizeOf9
    v9 := Tryz.zeroValue9
    t20 := Tryz.underlying20
    a20 := Tryz.isAgg20
    z20 := Tryz.sizeOf20
    v20 := Tryz.zeroValue20
    t37 := Tryz.underlying36
    a37 := Tryz.isAgg36
    z37 := Tryz.sizeOf36
    v37 := Tryz.zeroValue36
    t70 := Tryz.underlying35
    a70 := Tryz.isAgg35
    z70 := Tryz.sizeOf35
    v70 := Tryz.zeroValue35
    t72 := Tryz.underlying38
    a72 := Tryz.isAgg38
    z72 := Tryz.sizeOf38
    v72 := Tryz.zeroValue38
    t75 := Tryz.underlying40
    a75 := Tryz.isAgg40
    z75 := Tryz.sizeOf40
    v75 := Tryz.zeroValue40
    t164 := Tryz.underlying72
    a164 := Tryz.isAgg72
    z164 := Tryz.sizeOf72
    v164 := Tryz.zeroValue72 }
theorem bld_extra167 : Builder.Extra Tryz.prog bld_ren167 :=
  { sizeBuilder := by kernel_rfl
    liesBuilder := by kernel_rfl
    t5 := Tryz.underlying5
    a5 := Tryz.isAgg5
    z5 := Tryz.sizeOf5
    v5 := Tryz.zeroValue5
    infoByte := by kernel_rfl
    cellsByte := by kernel_rfl
    sizeByte := by kernel_rfl
    neB5 := by decide }
def bld_ren166 : Ren := ⟨fun n => match n with | 166 => 12 | 240 => 21 | 276 => 41 | n => n, fun n => match n with | 0 => 0 | 3 => 3 | 4 => 4 | 5 => 5 | 9 => 9 | 20 => 20 | 37 => 36 | 70 => 35 | 72 => 38 | 75 => 40 | 80 => 45 | 164 => 72 | n => n, fun n => n⟩
theorem bld_lays166 : Go.Proofs.Lays.n166 Tryz.prog bld_ren166 :=
  { mixed := by kernel_rfl
    f166 := Tryz.func12.trans (congrArg some (by kernel_rfl))
    f240 := Tryz.func21.trans (congrArg some (by kernel_rfl))
    f276 := Tryz.func41.trans (congrArg some (by kernel_rfl))
    t0 := Tryz.underlying0
    a0 := Tryz.isAgg0
    z0 := Tryz.sizeOf0
    v0 := Tryz.zeroValue0
    t3 := Tryz.underlying3
    a3 := Tryz.isAgg3
    z3 := Tryz.sizeOf3
    v3 := Tryz.zeroValue3
    t4 := Tryz.underlying4
    a4 := Tryz.isAgg4
    z4 := Tryz.sizeOf4
    v4 := Tryz.zeroValue4
    t9 := Tryz.underlying9
    a9 := Tryz.isAgg9
    z9 := Tryz.sizeOf9
    v9 := Tryz.zeroValue9
    t20 := Tryz.underlying20
    a20 := Tryz.isAgg20
    z20 := Tryz.sizeOf20
    v20 := Tryz.zeroValue20
    t37 := Tryz.underlying36
    a37 := Tryz.isAgg36
    z37 := Tryz.sizeOf36
    v37 := Tryz.zeroValue36
    t70 := Tryz.underlying35
    a70 := Tryz.isAgg35
    z70 := Tryz.sizeOf35
    v70 := Tryz.zeroValue35
    t72 := Tryz.underlying38
    a72 := Tryz.isAgg38
    z72 := Tryz.sizeOf38
    v72 := Tryz.zeroValue38
    t75 := Tryz.underlying40
    a75 := Tryz.isAgg40
    z75 := Tryz.sizeOf40
    v75 := Tryz.zeroValue40
    t164 := Tryz.underlying72
    a164 := Tryz.isAgg72
    z164 := Tryz.sizeOf72
    v164 := Tryz.zeroValue72 }
theorem bld_extra166 : Builder.Extra Tryz.prog bld_ren166 :=
  { sizeBuilder := by kernel_rfl
    liesBuilder := by kernel_rfl
    t5 := Tryz.underlying5
    a5 := Tryz.isAgg5
    z5 := Tryz.sizeOf5
    v5 := Tryz.zeroValue5
    infoByte := by kernel_rfl
    cellsByte := by kernel_rfl
    sizeByte := by kernel_rfl
    neB5 := by decide }
def bld_ren169 : Ren := ⟨fun n => match n with | 169 => 14 | n => n, fun n => match n with | 0 => 0 | 3 => 3 | 5 => 5 | 9 => 9 | 37 => 36 | 70 => 35 | 72 => 38 | 127 => 57 | n => n, fun n => n⟩
theorem bld_lays169 : Go.Proofs.Lays.n169 Tryz.prog bld_ren169 :=
  { mixed := by kernel_rfl
    f169 := Tryz.func14.trans (congrArg some (by kernel_rfl))
    t0 := Tryz.underlying0
    a0 := Tryz.isAgg0
    z0 := Tryz.sizeOf0
    v0 := Tryz.zeroValue0
    t3 := Tryz.underlying3
    a3 := Tryz.isAgg3
    z3 := Tryz.sizeOf3
    v3 := Tryz.zeroValue3
    t9 := Tryz.underlying9
    a9 := Tryz.isAgg9
    z9 := Tryz.sizeOf9
    v9 := Tryz.zeroValue9
    t37 := Tryz.underlying36
    a37 := Tryz.isAgg36
    z37 := Tryz.sizeOf36
    v37 := Tryz.zeroValue36
    t70 := Tryz.underlying35
    a70 := Tryz.isAgg35
    z70 := Tryz.sizeOf35
    v70 := Tryz.zeroValue35
    t72 := Tryz.underlying38
    a72 := Tryz.isAgg38
    z72 := Tryz.sizeOf38
    v72 := Tryz.zeroValue38
    t127 := Tryz.underlying57
    a127 := Tryz.isAgg57
    z127 := Tryz.sizeOf57
    v127 := Tryz.zeroValue57 }
theorem bld_extra169 : Builder.Extra Tryz.prog bld_ren169 :=
  { sizeBuilder := by kernel_rfl
    liesBuilder := by kernel_rfl
    t5 := Tryz.underlying5
    a5 := Tryz.isAgg5
    z5 := Tryz.sizeOf5
    v5 := Tryz.zeroValue5
    infoByte := by kernel_rfl
    cellsByte := by kernel_rfl
    sizeByte := by kernel_rfl
    neB5 := by decide }

/-- The cells of a text. -/
abbrev IsB (B b : Nat) (l : List UInt8) (w : World) : Prop := Lib.IsBuilderF 38 5 B b (Lib.byteCells l) w
theorem IsB.below {B b : Nat} {l : List UInt8} {w w' : World} (h : IsB B b l w) (hb : Below w.heap.size w w') : IsB B b l w' := by
  have key : ∀ p, Lib.BuilderAtF 38 5 B b p (Lib.byteCells l) w → Lib.BuilderAtF 38 5 B b p (Lib.byteCells l) w' := by
    rintro p ⟨hB, v, hv, hown, hne⟩
    refine ⟨hB, v, ?_, ⟨hown.1, ?_⟩, hne⟩
    · rw [hb.block b (Array.getElem?_eq_some_iff.1 hv).1]; exact hv
    · rcases hown.2 with h2 | ⟨g, cap, cur, fz, hv2, hg, hh, r⟩
      · exact .inl h2
      · exact .inr ⟨g, cap, cur, fz, hv2, hg, by rw [hb.block g (Array.getElem?_eq_some_iff.1 hh).1]; exact hh, r⟩
  exact h.elim (fun x => .inl (key _ x)) (fun x => .inr (key _ x))
theorem IsB.fresh (w : World) : IsB w.heap.size w.heap.size [] (w.alloc (.cells #[.pointer none, .slice none 0 0] 38)) :=
  Lib.IsBuilderF.of (Lib.fresh_isBuilder 38 5 w)

theorem WriteByte_k (B b : Nat) (l : List UInt8) (c : UInt8) (z : Int) (hz : z = (c.toNat : Int)) (w : World) (h : IsB B b l w) (hlen : l.length + 1 ≤ 140737488355328) (hBw : B ≤ w.heap.size) :
    Calls Tryz.prog 11 #[.pointer (some ⟨b, 0, none⟩), .int .u8 z] w fun e w' => e = .returned .nilIface ∧ IsB B b (l ++ [c]) w' ∧ Below B w w' ∧ Lib.OthersKept 5 (some b) w w' := by
  subst hz
  refine (Any.Builder_WriteByte_k bld_lays167 bld_extra167 B b (Lib.byteCells l) (c.toNat : Int) w h (by rw [Lib.byteCells_length]; exact hlen) hBw).mono ?_
  rintro e w' ⟨rfl, h1, h2, h3⟩
  refine ⟨rfl, ?_, h2, h3⟩
  unfold IsB
  rw [Lib.byteCells_append]
  exact .inr h1
theorem WriteString_k (B b : Nat) (l m : List UInt8) (w : World) (h : IsB B b l w) (hlen : l.length + m.length ≤ 140737488355328) (hBw : B ≤ w.heap.size) :
    Calls Tryz.prog 12 #[.pointer (some ⟨b, 0, none⟩), .string ⟨m.toArray⟩] w fun e w' => e = .returned (.tuple #[.int .i64 (m.length : Int), .nilIface]) ∧ IsB B b (l ++ m) w' ∧ Below B w w' ∧ Lib.OthersKept 5 (some b) w w' := by
  have hs : (⟨m.toArray⟩ : ByteArray).size = m.length := by simp [ByteArray.size]
  refine (Any.Builder_WriteString_k bld_lays166 bld_extra166 B b (Lib.byteCells l) ⟨m.toArray⟩ w h (by rw [Lib.byteCells_length, hs]; exact hlen) hBw).mono ?_
  rintro e w' ⟨rfl, h1, h2, h3⟩
  rw [hs]
  refine ⟨rfl, ?_, h2, h3⟩
  unfold IsB
  rw [Lib.byteCells_append]
  exact .inr h1
theorem String_k (B b : Nat) (l : List UInt8) (w : World) (h : IsB B b l w) (hBw : B ≤ w.heap.size) :
    Calls Tryz.prog 14 #[.pointer (some ⟨b, 0, none⟩)] w fun e w' => e = .returned (.string ⟨l.toArray⟩) ∧ Below B w w' := by
  refine (Any.Builder_String_any_k bld_lays169 bld_extra169 B b l w h hBw).mono ?_
  rintro e w' ⟨rfl, _, h2, _⟩
  exact ⟨rfl, h2⟩

end Go.Proofs.YthleebnfbdcobaaGreatDoor
