/- Parts of the proof, put together from smaller texts (blanks that Lean does not want are struck). Conditions: those that each theorem writes out. -/
import Derived.Deep.DeepCutAuto
import Derived.Deep.LoopGhost
import Derived.Test.YtafhgbokdfhapaaGreatDoorZ00
import Derived.Test.YtafhgbokdfhapaaGreatDoorZ01
import Derived.Test.YtafhgbokdfhapaaGreatDoorZ02
import Derived.Test.YtafhgbokdfhapaaGreatDoorZ06
namespace Go.Proofs.YtafhgbokdfhapaaGreatDoor
open Go.RowKit
theorem OutC.form {B:Nat} {w:World} {v:Value} {cs:List (List UInt8 × Nat)} (h:OutC B w v cs):∃ ao cap,v=.slice ao cs.length cap:=by
 rcases h.2 with ⟨rfl,hn⟩|⟨g,cap,cur,rfl,_⟩
 ·exact ⟨none,0,by rw[hn]⟩
 ·exact ⟨_,_,rfl⟩
end Go.Proofs.YtafhgbokdfhapaaGreatDoor
