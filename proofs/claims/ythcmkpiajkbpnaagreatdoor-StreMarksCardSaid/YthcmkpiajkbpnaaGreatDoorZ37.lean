/- Parts of the proof, put together from smaller texts (blanks that Lean does not want are struck). Conditions: those that each theorem writes out. -/
import Derived.Test.YthcmkpiajkbpnaaGreatDoorZ36
namespace Go.Proofs.YthcmkpiajkbpnaaGreatDoor
open Go.RowKit
def TabsE (w:World):Prop:=Lib.Utf8Tabs 1 2 w
theorem cntT:CntC TabsE Smp:=⟨fun _ _ h hb=>Utf8Tabs_below h hb,cntS.cut,fun _ h=>h,fun s q n deep o w hs hP hq _ ho=>cntS.cnt s q n deep o w hs hP hq trivial ho⟩
theorem streS:StreC TabsE Smp:=⟨fun _ _ h hb=>Utf8Tabs_below h hb,fun _ h=>h,fun D T E C s w hs hP hE hZ=>stParse_is cntT (fun _ h=>h) D T E C s w hs hP hE hZ⟩
end Go.Proofs.YthcmkpiajkbpnaaGreatDoor
