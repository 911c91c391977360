/- The library's strings.Builder at this translation: what WriteRune does to a builder that the call has made: an application of the library's contract. Conditions: those that each theorem writes out. -/
import Derived.Test.YthleebnfbdcobaaDoorBuild
import Derived.Shelf.Strings.BuilderRune
namespace Go.Proofs.YthleebnfbdcobaaDoor
open Go.RowKit Go.Shelf

def bld_ren168 : Ren := ⟨fun n => match n with | 168 => 19 | 240 => 31 | 242 => 33 | 276 => 46 | 278 => 49 | n => n, fun n => match n with | 0 => 0 | 3 => 3 | 4 => 4 | 5 => 5 | 9 => 9 | 20 => 20 | 21 => 21 | 37 => 41 | 46 => 33 | 51 => 81 | 70 => 40 | 72 => 43 | 75 => 48 | 80 => 44 | 164 => 76 | n => n, fun n => n⟩
theorem bld_lays168 : Go.Proofs.Lays.n168 Tryd.prog bld_ren168 :=
  { mixed := by kernel_rfl
    f168 := Tryd.func19.trans (congrArg some (by kernel_rfl))
    f240 := Tryd.func31.trans (congrArg some (by kernel_rfl))
    f242 := Tryd.func33.trans (congrArg some (by kernel_rfl))
    f276 := Tryd.func46.trans (congrArg some (by kernel_rfl))
    f278 := Tryd.func49.trans (congrArg some (by kernel_rfl))
    t0 := Tryd.underlying0
    a0 := Tryd.isAgg0
    z0 := Tryd.sizeOf0
    v0 := Tryd.zeroValue0
    t3 := Tryd.underlying3
    a3 := Tryd.isAgg3
    z3 := Tryd.sizeOf3
    v3 := Tryd.zeroValue3
    t4 := Tryd.underlying4
    a4 := Tryd.isAgg4
    z4 := Tryd.sizeOf4
    v4 := Tryd.zeroValue4
    t5 := Tryd.underlying5
    a5 := Tryd.isAgg5
    z5 := Tryd.sizeOf5
    v5 := Tryd.zeroValue5
    t9 := Tryd.underlying9
    a9 := Tryd.isAgg9
    z9 := Tryd.sizeOf9
    v9 := Tryd.zeroValue9
    t20 := Tryd.underlying20
    a20 := Tryd.isAgg20
    z20 := Tryd.sizeOf20
    v20 := Tryd.zeroValue20
    t21 := Tryd.underlying21
    a21 := Tryd.isAgg21
    z21 := Tryd.sizeOf21
    v21 := Tryd.zeroValue21
    t37 := Tryd.underlying41
    a37 := Tryd.isAgg41
    z37 := Tryd.sizeOf41
    v37 := Tryd.zeroValue41
    t46 := Tryd.underlying33
    a46 := Tryd.isAgg33
    z46 := Tryd.sizeOf33
    v46 := Tryd.zeroValue33
    t51 := Tryd.underlying81
    a51 := Tryd.isAgg81
    z51 := Tryd.sizeOf81
    v51 := Tryd.zeroValue81
    t70 := Tryd.underlying40
    a70 := Tryd.isAgg40
    z70 := Tryd.sizeOf40
    v70 := Tryd.zeroValue40
    t72 := Tryd.underlying43
    a72 := Tryd.isAgg43
    z72 := Tryd.sizeOf43
    v72 := Tryd.zeroValue43
    t75 := Tryd.underlying48
    a75 := Tryd.isAgg48
    z75 := Tryd.sizeOf48
    v75 := Tryd.zeroValue48
    t164 := Tryd.underlying76
    a164 := Tryd.isAgg76
    z164 := Tryd.sizeOf76
    v164 := Tryd.zeroValue76 }
theorem bld_extra168 : Builder.Extra Tryd.prog bld_ren168 :=
  { sizeBuilder := by kernel_rfl
    liesBuilder := by kernel_rfl
    t5 := Tryd.underlying5
    a5 := Tryd.isAgg5
    z5 := Tryd.sizeOf5
    v5 := Tryd.zeroValue5
    infoByte := by kernel_rfl
    cellsByte := by kernel_rfl
    sizeByte := by kernel_rfl
    neB5 := by decide }
theorem WriteRune_k (B b : Nat) (l : List UInt8) (c : Nat) (hc : c ≤ 1114111) (w : World) (h : IsB B b l w) (hlen : l.length + 4 ≤ 140737488355328) (hBw : B ≤ w.heap.size) :
    Calls Tryd.prog 19 #[.pointer (some ⟨b, 0, none⟩), .int .i32 (c : Int)] w fun e w' => ∃ n, e = .returned (.tuple #[.int .i64 n, .nilIface]) ∧ IsB B b (l ++ Lib.encodeRune (c : Int)) w' ∧ Below B w w' ∧ Lib.OthersKept 5 (some b) w w' := by
  refine (Any.Builder_WriteRune_k bld_lays168 bld_extra168 B b (Lib.byteCells l) (c : Int) (by omega) (by omega) w h (by rw [Lib.byteCells_length]; exact hlen) hBw).mono ?_
  rintro e w' ⟨rfl, h1, h2, h3⟩
  refine ⟨_, rfl, ?_, h2, h3⟩
  unfold IsB
  rw [Lib.byteCells_append, Lib.byteCells_encodeRune]
  exact .inr h1
end Go.Proofs.YthleebnfbdcobaaDoor
