/- Parts of the proof, put together from smaller texts (blanks that Lean does not want are struck). Conditions: those that each theorem writes out. -/
import Derived.BigQuiet
import Derived.Deep.DeepCutAuto
import Derived.Deep.DrawnRows
import Derived.Deep.LoopGhost
import Derived.Deep.RegionHeld3
import Derived.Laws.IdiomStrings
import Derived.Laws.Tables
import Derived.Lib.AppendStr
import Derived.Lib.ConvBytes
import Derived.Lib.CountLaws
import Derived.Lib.Replace
import Derived.Test.YtncngeamdechmaaGreatDoorZ00
import Derived.Test.YtncngeamdechmaaGreatDoorZ01
import Derived.Test.YtncngeamdechmaaGreatDoorZ02
import Derived.Test.YtncngeamdechmaaGreatDoorZ03
import Derived.Test.YtncngeamdechmaaGreatDoorZ05
import Derived.Test.YtncngeamdechmaaGreatDoorZ08
import Derived.Test.YtncngeamdechmaaGreatDoorZ11
namespace Go.Proofs.YtncngeamdechmaaGreatDoor
open Go.RowKit
def wsp (b:UInt8):Bool:=decide (b=32∨b=9)
def rtr (c:List UInt8):List UInt8:=(c.reverse.dropWhile wsp).reverse
def wN (n:Int):Nat→List UInt8→Bool→Bool→Bool→List (List UInt8)→Bool→Option (List (List UInt8) × Bool × Nat)
 | 0,_,_,_,_,_,_=>none
 | g+1,l,m,pv,f,o,b=>
  if m=true then
   match l.dropWhile wsp with
   | []=>none
   | x :: _=>
    if x=10∨x=35 then wN n g l false true f o b
    else if (l.dropWhile wsp≠l∨(x≠45∧x≠46))∧n<((l.takeWhile (·=32)).length:Int) then wN n g l false true f o b else none
  else match l with
   | []=>none
   | x :: l'=>
    if wsp x=true then (wN n g l' false true f o b).map fun r=>(r.1,r.2.1,r.2.2+1)
    else if x=10 then (wN n g l' true true false o b).map fun r=>(r.1,r.2.1,r.2.2+1)
    else if x=35∧pv=true then
     match l'.dropWhile (·≠10) with
     | []=>none
     | y :: r=>(wN n g (y :: r) false false f (o++[rtr (l'.takeWhile (·≠10))]) (if o=[] then f else b)).map fun r=>(r.1,r.2.1,r.2.2+(1+(l'.takeWhile (·≠10)).length))
    else some (o,b,0)
end Go.Proofs.YtncngeamdechmaaGreatDoor
namespace Go.Proofs.YtncngeamdechmaaGreatDoor
open Go.RowKit
attribute [local go_sem ↓] Go.wp_at_zero Go.wp_at_succ
def Cells12 (cs:List Value):Prop:=∃ (i1 i2 i3 i4:Int) (s1 s2 s3:ByteArray) (a1:Option Addr) (n1 c1:Nat) (a2:Option Addr) (n2 c2:Nat) (a3:Option Addr) (n3 c3:Nat) (b:Bool) (s4:ByteArray),
 cs=[.int .i64 i1,.int .i64 i2,.int .i64 i3,.int .i64 i4,.string s1,.string s2,.string s3,.slice a1 n1 c1,.slice a2 n2 c2,.slice a3 n3 c3,.bool b,.string s4]
structure FlowC (Ev:World→Prop):Prop where
 keep:∀ w w',Ev w→Below w.heap.size w w'→Ev w'
 read:∀ (x:Option NT) (E C:Int) (s:ByteArray) (at' n deep:Int) (w:World),s.size≤10000→Ev w→FlowZ s at' n deep x E C →
  Calls Tryz.prog 10 #[.string s,.int .i64 at',.int .i64 n,.int .i64 deep] w fun e w'=>∃ cs:List Value,e=.returned (.tuple #[.agg cs.toArray,.int .i64 E,.int .i64 C])∧Cells12 cs∧(∀ t,x=some t→IsN (Lo w'.heap.size) w' t cs)∧Below w.heap.size w w'
end Go.Proofs.YtncngeamdechmaaGreatDoor
namespace Go.Proofs.YtncngeamdechmaaGreatDoor
open Go.RowKit
theorem row12_set (w:World) (g:Nat) (T:TypeId) (c0 c1 c2 c3 c4 c5 c6 c7 c8 c9 c10 c11 u0 u1 u2 u3 u4 u5 u6 u7 u8 u9 u10 u11:Value) (hg:w.heap[g]?=some (.cells #[c0,c1,c2,c3,c4,c5,c6,c7,c8,c9,c10,c11] T (0,0))) :
  ((((((((((((w.setCell ⟨g,0,none⟩ u0).setCell ⟨g,1,none⟩ u1).setCell ⟨g,2,none⟩ u2).setCell ⟨g,3,none⟩ u3).setCell ⟨g,4,none⟩ u4).setCell ⟨g,5,none⟩ u5).setCell ⟨g,6,none⟩ u6).setCell ⟨g,7,none⟩ u7).setCell ⟨g,8,none⟩ u8).setCell ⟨g,9,none⟩ u9).setCell ⟨g,10,none⟩ u10).setCell ⟨g,11,none⟩ u11).heap[g]?=some (.cells #[u0,u1,u2,u3,u4,u5,u6,u7,u8,u9,u10,u11] T (0,0)):=by
 have h0:(w.setCell ⟨g,0,none⟩ u0).heap[g]?=some (.cells #[u0,c1,c2,c3,c4,c5,c6,c7,c8,c9,c10,c11] T (0,0)):=heap_setCell_same _ g 0 _ T u0 hg
 have h1:((w.setCell ⟨g,0,none⟩ u0).setCell ⟨g,1,none⟩ u1).heap[g]?=some (.cells #[u0,u1,c2,c3,c4,c5,c6,c7,c8,c9,c10,c11] T (0,0)):=heap_setCell_same _ g 1 _ T u1 h0
 have h2:(((w.setCell ⟨g,0,none⟩ u0).setCell ⟨g,1,none⟩ u1).setCell ⟨g,2,none⟩ u2).heap[g]?=some (.cells #[u0,u1,u2,c3,c4,c5,c6,c7,c8,c9,c10,c11] T (0,0)):=heap_setCell_same _ g 2 _ T u2 h1
 have h3:((((w.setCell ⟨g,0,none⟩ u0).setCell ⟨g,1,none⟩ u1).setCell ⟨g,2,none⟩ u2).setCell ⟨g,3,none⟩ u3).heap[g]?=some (.cells #[u0,u1,u2,u3,c4,c5,c6,c7,c8,c9,c10,c11] T (0,0)):=heap_setCell_same _ g 3 _ T u3 h2
 have h4:(((((w.setCell ⟨g,0,none⟩ u0).setCell ⟨g,1,none⟩ u1).setCell ⟨g,2,none⟩ u2).setCell ⟨g,3,none⟩ u3).setCell ⟨g,4,none⟩ u4).heap[g]?=some (.cells #[u0,u1,u2,u3,u4,c5,c6,c7,c8,c9,c10,c11] T (0,0)):=heap_setCell_same _ g 4 _ T u4 h3
 have h5:((((((w.setCell ⟨g,0,none⟩ u0).setCell ⟨g,1,none⟩ u1).setCell ⟨g,2,none⟩ u2).setCell ⟨g,3,none⟩ u3).setCell ⟨g,4,none⟩ u4).setCell ⟨g,5,none⟩ u5).heap[g]?=some (.cells #[u0,u1,u2,u3,u4,u5,c6,c7,c8,c9,c10,c11] T (0,0)):=heap_setCell_same _ g 5 _ T u5 h4
 have h6:(((((((w.setCell ⟨g,0,none⟩ u0).setCell ⟨g,1,none⟩ u1).setCell ⟨g,2,none⟩ u2).setCell ⟨g,3,none⟩ u3).setCell ⟨g,4,none⟩ u4).setCell ⟨g,5,none⟩ u5).setCell ⟨g,6,none⟩ u6).heap[g]?=some (.cells #[u0,u1,u2,u3,u4,u5,u6,c7,c8,c9,c10,c11] T (0,0)):=heap_setCell_same _ g 6 _ T u6 h5
 have h7:((((((((w.setCell ⟨g,0,none⟩ u0).setCell ⟨g,1,none⟩ u1).setCell ⟨g,2,none⟩ u2).setCell ⟨g,3,none⟩ u3).setCell ⟨g,4,none⟩ u4).setCell ⟨g,5,none⟩ u5).setCell ⟨g,6,none⟩ u6).setCell ⟨g,7,none⟩ u7).heap[g]?=some (.cells #[u0,u1,u2,u3,u4,u5,u6,u7,c8,c9,c10,c11] T (0,0)):=heap_setCell_same _ g 7 _ T u7 h6
 have h8:(((((((((w.setCell ⟨g,0,none⟩ u0).setCell ⟨g,1,none⟩ u1).setCell ⟨g,2,none⟩ u2).setCell ⟨g,3,none⟩ u3).setCell ⟨g,4,none⟩ u4).setCell ⟨g,5,none⟩ u5).setCell ⟨g,6,none⟩ u6).setCell ⟨g,7,none⟩ u7).setCell ⟨g,8,none⟩ u8).heap[g]?=some (.cells #[u0,u1,u2,u3,u4,u5,u6,u7,u8,c9,c10,c11] T (0,0)):=heap_setCell_same _ g 8 _ T u8 h7
 have h9:((((((((((w.setCell ⟨g,0,none⟩ u0).setCell ⟨g,1,none⟩ u1).setCell ⟨g,2,none⟩ u2).setCell ⟨g,3,none⟩ u3).setCell ⟨g,4,none⟩ u4).setCell ⟨g,5,none⟩ u5).setCell ⟨g,6,none⟩ u6).setCell ⟨g,7,none⟩ u7).setCell ⟨g,8,none⟩ u8).setCell ⟨g,9,none⟩ u9).heap[g]?=some (.cells #[u0,u1,u2,u3,u4,u5,u6,u7,u8,u9,c10,c11] T (0,0)):=heap_setCell_same _ g 9 _ T u9 h8
 have h10:(((((((((((w.setCell ⟨g,0,none⟩ u0).setCell ⟨g,1,none⟩ u1).setCell ⟨g,2,none⟩ u2).setCell ⟨g,3,none⟩ u3).setCell ⟨g,4,none⟩ u4).setCell ⟨g,5,none⟩ u5).setCell ⟨g,6,none⟩ u6).setCell ⟨g,7,none⟩ u7).setCell ⟨g,8,none⟩ u8).setCell ⟨g,9,none⟩ u9).setCell ⟨g,10,none⟩ u10).heap[g]?=some (.cells #[u0,u1,u2,u3,u4,u5,u6,u7,u8,u9,u10,c11] T (0,0)):=heap_setCell_same _ g 10 _ T u10 h9
 have h11:((((((((((((w.setCell ⟨g,0,none⟩ u0).setCell ⟨g,1,none⟩ u1).setCell ⟨g,2,none⟩ u2).setCell ⟨g,3,none⟩ u3).setCell ⟨g,4,none⟩ u4).setCell ⟨g,5,none⟩ u5).setCell ⟨g,6,none⟩ u6).setCell ⟨g,7,none⟩ u7).setCell ⟨g,8,none⟩ u8).setCell ⟨g,9,none⟩ u9).setCell ⟨g,10,none⟩ u10).setCell ⟨g,11,none⟩ u11).heap[g]?=some (.cells #[u0,u1,u2,u3,u4,u5,u6,u7,u8,u9,u10,u11] T (0,0)):=heap_setCell_same _ g 11 _ T u11 h10
 exact h11
theorem row12_below (w:World) (g B:Nat) (hB:B≤g) (u0 u1 u2 u3 u4 u5 u6 u7 u8 u9 u10 u11:Value):Below B w ((((((((((((w.setCell ⟨g,0,none⟩ u0).setCell ⟨g,1,none⟩ u1).setCell ⟨g,2,none⟩ u2).setCell ⟨g,3,none⟩ u3).setCell ⟨g,4,none⟩ u4).setCell ⟨g,5,none⟩ u5).setCell ⟨g,6,none⟩ u6).setCell ⟨g,7,none⟩ u7).setCell ⟨g,8,none⟩ u8).setCell ⟨g,9,none⟩ u9).setCell ⟨g,10,none⟩ u10).setCell ⟨g,11,none⟩ u11):=(((((((((((((Below.refl B w).setCell (p:=⟨g,0,none⟩) hB u0).setCell (p:=⟨g,1,none⟩) hB u1).setCell (p:=⟨g,2,none⟩) hB u2).setCell (p:=⟨g,3,none⟩) hB u3).setCell (p:=⟨g,4,none⟩) hB u4).setCell (p:=⟨g,5,none⟩) hB u5).setCell (p:=⟨g,6,none⟩) hB u6).setCell (p:=⟨g,7,none⟩) hB u7).setCell (p:=⟨g,8,none⟩) hB u8).setCell (p:=⟨g,9,none⟩) hB u9).setCell (p:=⟨g,10,none⟩) hB u10).setCell (p:=⟨g,11,none⟩) hB u11)
theorem row12_size (w:World) (g:Nat) (u0 u1 u2 u3 u4 u5 u6 u7 u8 u9 u10 u11:Value):((((((((((((w.setCell ⟨g,0,none⟩ u0).setCell ⟨g,1,none⟩ u1).setCell ⟨g,2,none⟩ u2).setCell ⟨g,3,none⟩ u3).setCell ⟨g,4,none⟩ u4).setCell ⟨g,5,none⟩ u5).setCell ⟨g,6,none⟩ u6).setCell ⟨g,7,none⟩ u7).setCell ⟨g,8,none⟩ u8).setCell ⟨g,9,none⟩ u9).setCell ⟨g,10,none⟩ u10).setCell ⟨g,11,none⟩ u11).heap.size=w.heap.size:=by
 simp only[World.setCell,Array.size_modify]
end Go.Proofs.YtncngeamdechmaaGreatDoor
namespace Go.Proofs.YtncngeamdechmaaGreatDoor
open Go.RowKit
def MaxIs (w:World):Prop:=∃ m:Int,w.cell? ⟨0,0,none⟩=some (.int .i64 m)
theorem maxIs_shaped (w:World) (h:w.ShapedOpen Tryz.prog):MaxIs w:=
 Go.Proofs.cell_of_shapedOpen_int (zero:=#[.int .i64 0]) (t:=3) h (of_decide_eq_true (by kernel_rfl)) (by kernel_rfl) rfl (by kernel_rfl) (by kernel_rfl) Tryz.underlying3
theorem MaxIs.below {w w':World} (h:MaxIs w) (hb:Below w.heap.size w w'):MaxIs w':=by
 obtain ⟨m,hm⟩:=h
 exact ⟨m,by rw[hb.cell (World.block_lt_of_cell? w _ hm)];exact hm⟩
end Go.Proofs.YtncngeamdechmaaGreatDoor
