/-
  Proved: errandlaw.Types returns true for every text, of any length, and leaves its argument as it was: the landed Check answers, error and place, what the document's own Check answers. No condition.
-/
import Derived.Test.YtblomippkddgiaaVTypes
namespace Go.Proofs.Ytblomippkddgiaa

theorem types_holds : Rows.TypesSaid := V.types_holds
#print axioms types_holds
end Go.Proofs.Ytblomippkddgiaa
