/- The library's strings.Builder at this translation: what WriteRune does to a builder that the call has made: an application of the library's contract. Conditions: those that each theorem writes out. -/
import Derived.Test.YthleebnfbdcobaaGreatDoorBuild
import Derived.Shelf.Strings.BuilderRune
namespace Go.Proofs.YthleebnfbdcobaaGreatDoor
open Go.RowKit Go.Shelf

def bld_ren168 : Ren := ⟨fun n => match n with | 168 => 29 | 240 => 21 | 242 => 52 | 276 => 41 | 278 => 74 | n => n, fun n => match n with | 0 => 0 | 3 => 3 | 4 => 4 | 5 => 5 | 9 => 9 | 20 => 20 | 21 => 21 | 37 => 36 | 46 => 32 | 51 => 96 | 70 => 35 | 72 => 38 | 75 => 40 | 80 => 45 | 164 => 72 | n => n, fun n => n⟩
theorem bld_lays168 : Go.Proofs.Lays.n168 Tryz.prog bld_ren168 :=
  { mixed := by kernel_rfl
    f168 := Tryz.func29.trans (congrArg some (by kernel_rfl))
    f240 := Tryz.func21.trans (congrArg some (by kernel_rfl))
    f242 := Tryz.func52.trans (congrArg some (by kernel_rfl))
    f276 := Tryz.func41.trans (congrArg some (by kernel_rfl))
    f278 := Tryz.func74.trans (congrArg some (by kernel_rfl))
    t0 := Tryz.underlying0
    a0 := Tryz.isAgg0
    z0 := Tryz.sizeOf0
    v0 := Tryz.zeroValue0
    t3 := Tryz.underlying3
    a3 := Tryz.isAgg3
    z3 := Tryz.sizeOf3
    v3 := Tryz.zeroValue3
    t4 := Tryz.underlying4
    a4 := Tryz.isAgg4
    z4 := Tryz.sizeOf4
    v4 := Tryz.zeroValue4
    t5 := Tryz.underlying5
    a5 := Tryz.isAgg5
    z5 := Tryz.sizeOf5
    v5 := Tryz.zeroValue5
    t9 := Tryz.underlying9
    a9 := Tryz.isAgg9
    z9 := Tryz.sizeOf9
    v9 := Tryz.zeroValue9
    t20 := Tryz.underlying20
    a20 := Tryz.isAgg20
    z20 := Tryz.sizeOf20
    v20 := Tryz.zeroValue20
    t21 := Tryz.underlying21
    a21 := Tryz.isAgg21
    z21 := Tryz.sizeOf21
    v21 := Tryz.zeroValue21
    t37 := Tryz.underlying36
    a37 := Tryz.isAgg36
    z37 := Tryz.sizeOf36
    v37 := Tryz.zeroValue36
    t46 := Tryz.underlying32
    a46 := Tryz.isAgg32
    z46 := Tryz.sizeOf32
    v46 := Tryz.zeroValue32
    t51 := Tryz.underlying96
    a51 := Tryz.isAgg96
    z51 := Tryz.sizeOf96
    v51 := Tryz.zeroValue96
    t70 := Tryz.underlying35
    a70 := Tryz.isAgg35
    z70 := Tryz.sizeOf35
    v70 := Tryz.zeroValue35
    t72 := Tryz.underlying38
    a72 := Tryz.isAgg38
    z72 := Tryz.sizeOf38
    v72 := Tryz.zeroValue38
    t75 := Tryz.underlying40
    a75 := Tryz.isAgg40
    z75 := Tryz.sizeOf40
    v75 := Tryz.zeroValue40
    t164 := Tryz.underlying72
    a164 := Tryz.isAgg72
    z164 := Tryz.sizeOf72
    v164 := Tryz.zeroValue72 }
theorem bld_extra168 : Builder.Extra Tryz.prog bld_ren168 :=
  { sizeBuilder := by kernel_rfl
    liesBuilder := by kernel_rfl
    t5 := Tryz.underlying5
    a5 := Tryz.isAgg5
    z5 := Tryz.sizeOf5
    v5 := Tryz.zeroValue5
    infoByte := by kernel_rfl
    cellsByte := by kernel_rfl
    sizeByte := by kernel_rfl
    neB5 := by decide }
theorem WriteRune_k (B b : Nat) (l : List UInt8) (c : Nat) (hc : c ≤ 1114111) (w : World) (h : IsB B b l w) (hlen : l.length + 4 ≤ 140737488355328) (hBw : B ≤ w.heap.size) :
    Calls Tryz.prog 29 #[.pointer (some ⟨b, 0, none⟩), .int .i32 (c : Int)] w fun e w' => ∃ n, e = .returned (.tuple #[.int .i64 n, .nilIface]) ∧ IsB B b (l ++ Lib.encodeRune (c : Int)) w' ∧ Below B w w' ∧ Lib.OthersKept 5 (some b) w w' := by
  refine (Any.Builder_WriteRune_k bld_lays168 bld_extra168 B b (Lib.byteCells l) (c : Int) (by omega) (by omega) w h (by rw [Lib.byteCells_length]; exact hlen) hBw).mono ?_
  rintro e w' ⟨rfl, h1, h2, h3⟩
  refine ⟨_, rfl, ?_, h2, h3⟩
  unfold IsB
  rw [Lib.byteCells_append, Lib.byteCells_encodeRune]
  exact .inr h1
end Go.Proofs.YthleebnfbdcobaaGreatDoor
