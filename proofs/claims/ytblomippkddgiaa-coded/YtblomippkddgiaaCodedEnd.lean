/-
  Proved: errandkeep.Coded returns true for every list of raw numbers, and leaves it as it was: the type that is grown out of them is one, the value's bytes are as many as its items need (or too many are refused), they come back as this value, and with a byte less or a byte more they are refused. No condition.
-/
import Derived.Test.YtblomippkddgiaaVCoded
namespace Go.Proofs.Ytblomippkddgiaa

theorem coded_holds : Rows.CodedSaid := V.coded_holds
#print axioms coded_holds
end Go.Proofs.Ytblomippkddgiaa
