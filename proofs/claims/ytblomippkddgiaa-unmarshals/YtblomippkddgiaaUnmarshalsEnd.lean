/-
  For every text and every bytes: the landed Unmarshal answers the document's items and error; the list that came out stays apart from all that is done later ('errandlaw.Unmarshals', UnmarshalsSaid). No condition.
-/
import Derived.Test.YtblomippkddgiaaVUnmarshals
namespace Go.Proofs.Ytblomippkddgiaa

theorem unmarshals_holds : Rows.UnmarshalsSaid := V.unmarshals_holds
#print axioms unmarshals_holds
end Go.Proofs.Ytblomippkddgiaa
