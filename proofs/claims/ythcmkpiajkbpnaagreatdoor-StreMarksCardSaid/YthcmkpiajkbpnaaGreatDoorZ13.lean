/- Parts of the proof, put together from smaller texts (blanks that Lean does not want are struck). Conditions: those that each theorem writes out. -/
import Derived.Deep.AppendLies
import Derived.Test.YthcmkpiajkbpnaaGreatDoorZ05
import Derived.Test.YthcmkpiajkbpnaaGreatDoorZ06
import Derived.Test.YthcmkpiajkbpnaaGreatDoorZ09
import Derived.Test.YthcmkpiajkbpnaaGreatDoorZ10
import Derived.Test.YthcmkpiajkbpnaaGreatDoorZ12
namespace Go.Proofs.YthcmkpiajkbpnaaGreatDoor
open Go.RowKit
theorem IsN.cells12 {R:Nat→Prop} {w:World} {x:NT} {cs:List Value} (h:IsN R w x cs):Cells12 cs:=by
 obtain ⟨kv,lv,fv,rfl,⟨ao,cap,rfl,_⟩,⟨ao2,cap2,rfl,_⟩,⟨ao3,cap3,rfl,_⟩⟩:=h.open
 exact ⟨_,_,_,_,_,_,_,_,_,_,_,_,_,_,_,_,_,_,rfl⟩
end Go.Proofs.YthcmkpiajkbpnaaGreatDoor
namespace Go.Proofs.YthcmkpiajkbpnaaGreatDoor
open Go.RowKit
def rdMap {α β:Type} (f:α→β):Rd α→Rd β
 | .ok x=>.ok (f x)
 | .bad q c=>.bad q c
section
variable (s:ByteArray) (n:Int)
end
section
variable {s:ByteArray} {n:Int}
variable {col col':Nat→Nat→Rd (NT × Nat)→Prop}
end
end Go.Proofs.YthcmkpiajkbpnaaGreatDoor
