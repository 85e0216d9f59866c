/-
  For every text and every list of items: the landed Marshal answers the document's bytes and error, leaves the list that was lent as it was, its spare room too ('errandlaw.Marshals', MarshalsSaid). No condition.
-/
import Derived.Test.YtblomippkddgiaaVMarshals
namespace Go.Proofs.Ytblomippkddgiaa

theorem marshals_holds : Rows.MarshalsSaid := V.marshals_holds
#print axioms marshals_holds
end Go.Proofs.Ytblomippkddgiaa
