/- The library's strings.Builder at this translation: what WriteByte, WriteString and String do to a builder that the call has made: applications of the library's contracts. Conditions: those that each theorem writes out. -/
import Derived.Test.YtcmdhodncmgmcaaUtfs
import Derived.Shelf.Strings.BuilderK
namespace Go.Proofs.Ytcmdhodncmgmcaa
open Go.RowKit Go.Shelf

def bld_ren167 : Ren := ⟨fun n => match n with | 167 => 50 | 240 => 52 | 276 => 56 | n => n, fun n => match n with | 0 => 0 | 4 => 4 | 5 => 5 | 9 => 9 | 20 => 20 | 37 => 35 | 70 => 50 | 72 => 52 | 75 => 55 | 80 => 58 | 164 => 62 | n => n, fun n => n⟩
theorem bld_lays167 : Go.Proofs.Lays.n167 Try.prog bld_ren167 :=
  { mixed := by kernel_rfl
    f167 := Try.func50.trans (congrArg some (by kernel_rfl))
    f240 := Try.func52.trans (congrArg some (by kernel_rfl))
    f276 := Try.func56.trans (congrArg some (by kernel_rfl))
    t0 := Try.underlying0
    a0 := Try.isAgg0
    z0 := Try.sizeOf0
    v0 := Try.zeroValue0
    t4 := Try.underlying4
    a4 := Try.isAgg4
    z4 := Try.sizeOf4
    v4 := Try.zeroValue4
    t5 := Try.underlying5
    a5 := Try.isAgg5
    z5 := Try.sizeOf5
    v5 := Try.zeroValue5
    t9 := Try.underlying9
    a9 := Try.isAgg9
    z9 := Try.sizeOf9
    v9 := Try.zeroValue9
    t20 := Try.underlying20
    a20 := Try.isAgg20
    z20 := Try.sizeOf20
    v20 := Try.zeroValue20
    t37 := Try.underlying35
    a37 := Try.isAgg35
    z37 := Try.sizeOf35
    v37 := Try.zeroValue35
    t70 := Try.underlying50
    a70 := Try.isAgg50
    z70 := Try.sizeOf50
    v70 := Try.zeroValue50
    t72 := Try.underlying52
    a72 := Try.isAgg52
    z72 := Try.sizeOf52
    v72 := Try.zeroValue52
    t75 := Try.underlying55
    a75 := Try.isAgg55
    z75 := Try.sizeOf55
    v75 := Try.zeroValue55
    t164 := Try.underlying62
    a164 := Try.isAgg62
    z164 := Try.sizeOf62
    v164 := Try.zeroValue62 }
theorem bld_extra167 : Builder.Extra Try.prog bld_ren167 :=
  { sizeBuilder := by kernel_rfl
    liesBuilder := by kernel_rfl
    t5 := Try.underlying5
    a5 := Try.isAgg5
    z5 := Try.sizeOf5
    v5 := Try.zeroValue5
    infoByte := by kernel_rfl
    cellsByte := by kernel_rfl
    sizeByte := by kernel_rfl
    neB5 := by decide }
def bld_ren166 : Ren := ⟨fun n => match n with | 166 => 42 | 240 => 52 | 276 => 56 | n => n, fun n => match n with | 0 => 0 | 3 => 3 | 4 => 4 | 5 => 5 | 9 => 9 | 20 => 20 | 37 => 35 | 70 => 50 | 72 => 52 | 75 => 55 | 80 => 58 | 164 => 62 | n => n, fun n => n⟩
theorem bld_lays166 : Go.Proofs.Lays.n166 Try.prog bld_ren166 :=
  { mixed := by kernel_rfl
    f166 := Try.func42.trans (congrArg some (by kernel_rfl))
    f240 := Try.func52.trans (congrArg some (by kernel_rfl))
    f276 := Try.func56.trans (congrArg some (by kernel_rfl))
    t0 := Try.underlying0
    a0 := Try.isAgg0
    z0 := Try.sizeOf0
    v0 := Try.zeroValue0
    t3 := Try.underlying3
    a3 := Try.isAgg3
    z3 := Try.sizeOf3
    v3 := Try.zeroValue3
    t4 := Try.underlying4
    a4 := Try.isAgg4
    z4 := Try.sizeOf4
    v4 := Try.zeroValue4
    t9 := Try.underlying9
    a9 := Try.isAgg9
    z9 := Try.sizeOf9
    v9 := Try.zeroValue9
    t20 := Try.underlying20
    a20 := Try.isAgg20
    z20 := Try.sizeOf20
    v20 := Try.zeroValue20
    t37 := Try.underlying35
    a37 := Try.isAgg35
    z37 := Try.sizeOf35
    v37 := Try.zeroValue35
    t70 := Try.underlying50
    a70 := Try.isAgg50
    z70 := Try.sizeOf50
    v70 := Try.zeroValue50
    t72 := Try.underlying52
    a72 := Try.isAgg52
    z72 := Try.sizeOf52
    v72 := Try.zeroValue52
    t75 := Try.underlying55
    a75 := Try.isAgg55
    z75 := Try.sizeOf55
    v75 := Try.zeroValue55
    t164 := Try.underlying62
    a164 := Try.isAgg62
    z164 := Try.sizeOf62
    v164 := Try.zeroValue62 }
theorem bld_extra166 : Builder.Extra Try.prog bld_ren166 :=
  { sizeBuilder := by kernel_rfl
    liesBuilder := by kernel_rfl
    t5 := Try.underlying5
    a5 := Try.isAgg5
    z5 := Try.sizeOf5
    v5 := Try.zeroValue5
    infoByte := by kernel_rfl
    cellsByte := by kernel_rfl
    sizeByte := by kernel_rfl
    neB5 := by decide }
def bld_ren169 : Ren := ⟨fun n => match n with | 169 => 43 | n => n, fun n => match n with | 0 => 0 | 3 => 3 | 5 => 5 | 9 => 9 | 37 => 35 | 70 => 50 | 72 => 52 | 127 => 60 | n => n, fun n => n⟩
theorem bld_lays169 : Go.Proofs.Lays.n169 Try.prog bld_ren169 :=
  { mixed := by kernel_rfl
    f169 := Try.func43.trans (congrArg some (by kernel_rfl))
    t0 := Try.underlying0
    a0 := Try.isAgg0
    z0 := Try.sizeOf0
    v0 := Try.zeroValue0
    t3 := Try.underlying3
    a3 := Try.isAgg3
    z3 := Try.sizeOf3
    v3 := Try.zeroValue3
    t9 := Try.underlying9
    a9 := Try.isAgg9
    z9 := Try.sizeOf9
    v9 := Try.zeroValue9
    t37 := Try.underlying35
    a37 := Try.isAgg35
    z37 := Try.sizeOf35
    v37 := Try.zeroValue35
    t70 := Try.underlying50
    a70 := Try.isAgg50
    z70 := Try.sizeOf50
    v70 := Try.zeroValue50
    t72 := Try.underlying52
    a72 := Try.isAgg52
    z72 := Try.sizeOf52
    v72 := Try.zeroValue52
    t127 := Try.underlying60
    a127 := Try.isAgg60
    z127 := Try.sizeOf60
    v127 := Try.zeroValue60 }
theorem bld_extra169 : Builder.Extra Try.prog bld_ren169 :=
  { sizeBuilder := by kernel_rfl
    liesBuilder := by kernel_rfl
    t5 := Try.underlying5
    a5 := Try.isAgg5
    z5 := Try.sizeOf5
    v5 := Try.zeroValue5
    infoByte := by kernel_rfl
    cellsByte := by kernel_rfl
    sizeByte := by kernel_rfl
    neB5 := by decide }

/-- The cells of a text. -/
abbrev IsB (B b : Nat) (l : List UInt8) (w : World) : Prop := Lib.IsBuilderF 52 5 B b (Lib.byteCells l) w
theorem IsB.below {B b : Nat} {l : List UInt8} {w w' : World} (h : IsB B b l w) (hb : Below w.heap.size w w') : IsB B b l w' := by
  have key : ∀ p, Lib.BuilderAtF 52 5 B b p (Lib.byteCells l) w → Lib.BuilderAtF 52 5 B b p (Lib.byteCells l) w' := by
    rintro p ⟨hB, v, hv, hown, hne⟩
    refine ⟨hB, v, ?_, ⟨hown.1, ?_⟩, hne⟩
    · rw [hb.block b (Array.getElem?_eq_some_iff.1 hv).1]; exact hv
    · rcases hown.2 with h2 | ⟨g, cap, cur, fz, hv2, hg, hh, r⟩
      · exact .inl h2
      · exact .inr ⟨g, cap, cur, fz, hv2, hg, by rw [hb.block g (Array.getElem?_eq_some_iff.1 hh).1]; exact hh, r⟩
  exact h.elim (fun x => .inl (key _ x)) (fun x => .inr (key _ x))
theorem IsB.fresh (w : World) : IsB w.heap.size w.heap.size [] (w.alloc (.cells #[.pointer none, .slice none 0 0] 52)) :=
  Lib.IsBuilderF.of (Lib.fresh_isBuilder 52 5 w)

theorem WriteByte_k (B b : Nat) (l : List UInt8) (c : UInt8) (z : Int) (hz : z = (c.toNat : Int)) (w : World) (h : IsB B b l w) (hlen : l.length + 1 ≤ 140737488355328) (hBw : B ≤ w.heap.size) :
    Calls Try.prog 50 #[.pointer (some ⟨b, 0, none⟩), .int .u8 z] w fun e w' => e = .returned .nilIface ∧ IsB B b (l ++ [c]) w' ∧ Below B w w' ∧ Lib.OthersKept 5 (some b) w w' := by
  subst hz
  refine (Any.Builder_WriteByte_k bld_lays167 bld_extra167 B b (Lib.byteCells l) (c.toNat : Int) w h (by rw [Lib.byteCells_length]; exact hlen) hBw).mono ?_
  rintro e w' ⟨rfl, h1, h2, h3⟩
  refine ⟨rfl, ?_, h2, h3⟩
  unfold IsB
  rw [Lib.byteCells_append]
  exact .inr h1
theorem WriteString_k (B b : Nat) (l m : List UInt8) (w : World) (h : IsB B b l w) (hlen : l.length + m.length ≤ 140737488355328) (hBw : B ≤ w.heap.size) :
    Calls Try.prog 42 #[.pointer (some ⟨b, 0, none⟩), .string ⟨m.toArray⟩] w fun e w' => e = .returned (.tuple #[.int .i64 (m.length : Int), .nilIface]) ∧ IsB B b (l ++ m) w' ∧ Below B w w' ∧ Lib.OthersKept 5 (some b) w w' := by
  have hs : (⟨m.toArray⟩ : ByteArray).size = m.length := by simp [ByteArray.size]
  refine (Any.Builder_WriteString_k bld_lays166 bld_extra166 B b (Lib.byteCells l) ⟨m.toArray⟩ w h (by rw [Lib.byteCells_length, hs]; exact hlen) hBw).mono ?_
  rintro e w' ⟨rfl, h1, h2, h3⟩
  rw [hs]
  refine ⟨rfl, ?_, h2, h3⟩
  unfold IsB
  rw [Lib.byteCells_append]
  exact .inr h1
theorem String_k (B b : Nat) (l : List UInt8) (w : World) (h : IsB B b l w) (hBw : B ≤ w.heap.size) :
    Calls Try.prog 43 #[.pointer (some ⟨b, 0, none⟩)] w fun e w' => e = .returned (.string ⟨l.toArray⟩) ∧ Below B w w' := by
  refine (Any.Builder_String_any_k bld_lays169 bld_extra169 B b l w h hBw).mono ?_
  rintro e w' ⟨rfl, _, h2, _⟩
  exact ⟨rfl, h2⟩

end Go.Proofs.Ytcmdhodncmgmcaa
