/- Parts of the proof, put together from smaller texts (blanks that Lean does not want are struck). Conditions: those that each theorem writes out. -/
import Derived.Deep.AppendLies
import Derived.Deep.DrawnRows
import Derived.KernelRfl
import Derived.Laws.Closers25
import Derived.Laws.Closers25b
import Derived.Laws.IdiomStrings
import Derived.Laws.Strings3
import Derived.Lib.AppendStr
import Derived.Lib.AtoiErrMem
import Derived.Lib.ConvBytes
import Derived.Lib.CountLaws
import Derived.Lib.Replace
import Derived.Lib.SlTrimSet
import Derived.Lib.Strings
import Derived.OneCell
import Derived.OwnWalk
import Derived.Shelf.Strings.BuilderRune
import Derived.Test.YtafhgbokdfhapaaGreatDoorZ00
import Derived.Test.YtafhgbokdfhapaaGreatDoorZ01
import Derived.Test.YtafhgbokdfhapaaGreatDoorZ02
import Derived.Test.YtafhgbokdfhapaaGreatDoorZ05
import Derived.Test.YtafhgbokdfhapaaGreatDoorZ06
import Derived.Test.YtafhgbokdfhapaaGreatDoorZ08
import Derived.Test.YtafhgbokdfhapaaGreatDoorZ10
import Derived.Test.YtafhgbokdfhapaaGreatDoorZ11
import Derived.Test.YtafhgbokdfhapaaGreatDoorZ12
import Derived.Test.YtafhgbokdfhapaaGreatDoorZ13
namespace Go.Proofs.YtafhgbokdfhapaaGreatDoor
open Go.RowKit
theorem IsN.cells12 {R:Nat→Prop} {w:World} {x:NT} {cs:List Value} (h:IsN R w x cs):Cells12 cs:=by
 obtain ⟨kv,lv,fv,rfl,⟨ao,cap,rfl,_⟩,⟨ao2,cap2,rfl,_⟩,⟨ao3,cap3,rfl,_⟩⟩:=h.open
 exact ⟨_,_,_,_,_,_,_,_,_,_,_,_,_,_,_,_,_,_,rfl⟩
theorem row12_other (w:World) (g k:Nat) (hk:¬ k=g) (u0 u1 u2 u3 u4 u5 u6 u7 u8 u9 u10 u11:Value):(((((((((((((w.setCell ⟨g,0,none⟩ u0).setCell ⟨g,1,none⟩ u1).setCell ⟨g,2,none⟩ u2).setCell ⟨g,3,none⟩ u3).setCell ⟨g,4,none⟩ u4).setCell ⟨g,5,none⟩ u5).setCell ⟨g,6,none⟩ u6).setCell ⟨g,7,none⟩ u7).setCell ⟨g,8,none⟩ u8).setCell ⟨g,9,none⟩ u9).setCell ⟨g,10,none⟩ u10).setCell ⟨g,11,none⟩ u11).heap)[k]?=w.heap[k]?:=by
 simp only[heap_setCell_other _ _ _ _ (show k≠(Addr.mk g _ none).block from hk)]
end Go.Proofs.YtafhgbokdfhapaaGreatDoor
