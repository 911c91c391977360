/- Parts of the proof, put together from smaller texts (blanks that Lean does not want are struck). Conditions: those that each theorem writes out. -/
import Derived.Test.YthcmkpiajkbpnaaGreatDoorZ00
import Derived.Test.YthcmkpiajkbpnaaGreatDoorZ04
import Derived.Test.YthcmkpiajkbpnaaGreatDoorZ07
import Derived.Test.YthcmkpiajkbpnaaGreatDoorZ10
import Derived.Test.YthcmkpiajkbpnaaGreatDoorZ11
import Derived.Test.YthcmkpiajkbpnaaGreatDoorZ12
import Derived.Test.YthcmkpiajkbpnaaGreatDoorZ19
import Derived.Test.YthcmkpiajkbpnaaGreatDoorZ32
namespace Go.Proofs.YthcmkpiajkbpnaaGreatDoor
open Go.RowKit
attribute [local go_sem ↓] Go.wp_at_zero Go.wp_at_succ
structure StreC (Ev:World→Prop) (P:ByteArray→Prop):Prop where
 keep:∀ w w',Ev w→Below w.heap.size w w'→Ev w'
 smp:∀ s,Smp s→P s
 parse:∀ (D:List DT) (T:Coms) (E C:Int) (s:ByteArray) (w:World),s.size≤10000→P s→Ev w→StreZ s D T E C →
  Calls Tryz.prog 13 #[.string s] w fun e w'=>∃ (kv tv:Value),e=.returned (.tuple #[.agg #[kv,tv],.int .i64 E,.int .i64 C])∧DocsR (Lo w'.heap.size) w' kv D∧ComsR (Lo w'.heap.size) w' tv T∧Below w.heap.size w w'
end Go.Proofs.YthcmkpiajkbpnaaGreatDoor
