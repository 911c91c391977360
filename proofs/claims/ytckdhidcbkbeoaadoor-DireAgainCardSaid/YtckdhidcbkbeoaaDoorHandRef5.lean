/- The document's answer of chapter 9: full forms, all ways. Conditions: those that each theorem writes out (lengths that memory can hold). -/
import Derived.Test.YtckdhidcbkbeoaaDoorHandRef4
namespace Go.Proofs.YtckdhidcbkbeoaaDoor
open Go.RowKit

end Go.Proofs.YtckdhidcbkbeoaaDoor
