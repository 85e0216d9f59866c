/-
  No cell of these rows narrows 'for every input' (looked for: loops, veiled, ifaces, maps, wideKeys, modest, calm, conditions, laid).
  DERIVED. THE GIVEN ROWS OF THIS SEAT. 6 by the template 'for every input the law returns true; each argument reads behind the call as it read before'; 0 by the template 'total and deterministic' (their statements: YtblomippkddgiaaTotals.lean).
  GIVEN WITH THE SEED: the statements are not yours to turn. If you find one false, say at which input.
  Laid BY PROGRAM, IN A SANDBOX (cutbox-rows.mjs): the forced cells as the released guide's own fill.sh prints them over the translation d88e8facaaec3e9c… (all of the seat's roots in one cut). By AI agents, Wed Nov 11 2026. No macro, syntax, notation, axiom, sorry.
-/
import Derived.Test.YtblomippkddgiaaChecked
import GoSem.Claim
import GoSem.ClaimJoined
import GoSem.ClaimMapViews
import Derived.JoinedTies
import Derived.KernelRfl
namespace Go.Proofs.Ytblomippkddgiaa
/- THE CELL 'sum', in the pinned program and in every row, IS THE sha256 OF THE DUMP (.gsa) THAT YtblomippkddgiaaProg.lean LOADS. Nothing in Lean hashes anything: it is a label: what it is worth is what the hold of that sum in a sandbox is worth. -/
noncomputable def Try.pinned : Pinned := { name := "ytblomippkddgiaa", sum := "d88e8facaaec3e9ce5f40a371e81e99ef2c296602086e39ad7a86e7002f1efde", checked := Try.checked }
namespace Rows
def none {H : Type} : Left H := { results := [], args := [] }

/-- 'errandlaw.Types': WHATEVER THE INPUT: true; the input reads as it did. -/
def typesSpec : ChangeSpec := { name := "types", fn := fun _ => fun
  | [d] => { results := [.lit (.bool true)], args := [d] }
  | _ => none }
def typesRow : OpenClaim := { program := "ytblomippkddgiaa", sum := "d88e8facaaec3e9ce5f40a371e81e99ef2c296602086e39ad7a86e7002f1efde", func := "errand/errandlaw.Types", spec := "types", unfollowed := true, recurses := true, apart := false }
def TypesSaid : Prop := typesRow.holds Try.pinned (OpenSpec.ofChange typesSpec)

/-- ITS FALSE NEIGHBOUR: 'it returns false'. Refute it at one input. -/
def typesWrong : ChangeSpec := { name := "types", fn := fun _ => fun
  | [d] => { results := [.lit (.bool false)], args := [d] }
  | _ => none }
def TypesWrongFalsely : Prop := typesRow.holds Try.pinned (OpenSpec.ofChange typesWrong)

/-- 'errandlaw.Marshals': WHATEVER THE INPUT: true; the input reads as it did. -/
def marshalsSpec : ChangeSpec := { name := "marshals", fn := fun _ => fun
  | [d1, d2] => { results := [.lit (.bool true)], args := [d1, d2] }
  | _ => none }
def marshalsRow : OpenClaim := { program := "ytblomippkddgiaa", sum := "d88e8facaaec3e9ce5f40a371e81e99ef2c296602086e39ad7a86e7002f1efde", func := "errand/errandlaw.Marshals", spec := "marshals", unfollowed := true, recurses := true, apart := false }
def MarshalsSaid : Prop := marshalsRow.holds Try.pinned (OpenSpec.ofChange marshalsSpec)

/-- ITS FALSE NEIGHBOUR: 'it returns false'. Refute it at one input. -/
def marshalsWrong : ChangeSpec := { name := "marshals", fn := fun _ => fun
  | [d1, d2] => { results := [.lit (.bool false)], args := [d1, d2] }
  | _ => none }
def MarshalsWrongFalsely : Prop := marshalsRow.holds Try.pinned (OpenSpec.ofChange marshalsWrong)

/-- 'errandlaw.Unmarshals': WHATEVER THE INPUT: true; the input reads as it did. -/
def unmarshalsSpec : ChangeSpec := { name := "unmarshals", fn := fun _ => fun
  | [d1, d2] => { results := [.lit (.bool true)], args := [d1, d2] }
  | _ => none }
def unmarshalsRow : OpenClaim := { program := "ytblomippkddgiaa", sum := "d88e8facaaec3e9ce5f40a371e81e99ef2c296602086e39ad7a86e7002f1efde", func := "errand/errandlaw.Unmarshals", spec := "unmarshals", unfollowed := true, recurses := true, apart := false }
def UnmarshalsSaid : Prop := unmarshalsRow.holds Try.pinned (OpenSpec.ofChange unmarshalsSpec)

/-- ITS FALSE NEIGHBOUR: 'it returns false'. Refute it at one input. -/
def unmarshalsWrong : ChangeSpec := { name := "unmarshals", fn := fun _ => fun
  | [d1, d2] => { results := [.lit (.bool false)], args := [d1, d2] }
  | _ => none }
def UnmarshalsWrongFalsely : Prop := unmarshalsRow.holds Try.pinned (OpenSpec.ofChange unmarshalsWrong)

/-- 'errandkeep.Coded': WHATEVER THE INPUT: true; the input reads as it did. -/
def codedSpec : ChangeSpec := { name := "coded", fn := fun _ => fun
  | [d] => { results := [.lit (.bool true)], args := [d] }
  | _ => none }
def codedRow : OpenClaim := { program := "ytblomippkddgiaa", sum := "d88e8facaaec3e9ce5f40a371e81e99ef2c296602086e39ad7a86e7002f1efde", func := "errand/errandkeep.Coded", spec := "coded", unfollowed := true, recurses := true, apart := false }
def CodedSaid : Prop := codedRow.holds Try.pinned (OpenSpec.ofChange codedSpec)

/-- ITS FALSE NEIGHBOUR: 'it returns false'. Refute it at one input. -/
def codedWrong : ChangeSpec := { name := "coded", fn := fun _ => fun
  | [d] => { results := [.lit (.bool false)], args := [d] }
  | _ => none }
def CodedWrongFalsely : Prop := codedRow.holds Try.pinned (OpenSpec.ofChange codedWrong)

/-- 'errandlaw.Packets': WHATEVER THE INPUT: true; the input reads as it did. -/
def packetsSpec : ChangeSpec := { name := "packets", fn := fun _ => fun
  | [d1, d2] => { results := [.lit (.bool true)], args := [d1, d2] }
  | _ => none }
def packetsRow : OpenClaim := { program := "ytblomippkddgiaa", sum := "d88e8facaaec3e9ce5f40a371e81e99ef2c296602086e39ad7a86e7002f1efde", func := "errand/errandlaw.Packets", spec := "packets", unfollowed := true, recurses := true, apart := false }
def PacketsSaid : Prop := packetsRow.holds Try.pinned (OpenSpec.ofChange packetsSpec)

/-- ITS FALSE NEIGHBOUR: 'it returns false'. Refute it at one input. -/
def packetsWrong : ChangeSpec := { name := "packets", fn := fun _ => fun
  | [d1, d2] => { results := [.lit (.bool false)], args := [d1, d2] }
  | _ => none }
def PacketsWrongFalsely : Prop := packetsRow.holds Try.pinned (OpenSpec.ofChange packetsWrong)

/-- 'errandkeep.Sealed': WHATEVER THE INPUT: true; the input reads as it did. -/
def sealedSpec : ChangeSpec := { name := "sealed", fn := fun _ => fun
  | [d1, d2, d3] => { results := [.lit (.bool true)], args := [d1, d2, d3] }
  | _ => none }
def sealedRow : OpenClaim := { program := "ytblomippkddgiaa", sum := "d88e8facaaec3e9ce5f40a371e81e99ef2c296602086e39ad7a86e7002f1efde", func := "errand/errandkeep.Sealed", spec := "sealed", unfollowed := true, recurses := true, apart := false }
def SealedSaid : Prop := sealedRow.holds Try.pinned (OpenSpec.ofChange sealedSpec)

/-- ITS FALSE NEIGHBOUR: 'it returns false'. Refute it at one input. -/
def sealedWrong : ChangeSpec := { name := "sealed", fn := fun _ => fun
  | [d1, d2, d3] => { results := [.lit (.bool false)], args := [d1, d2, d3] }
  | _ => none }
def SealedWrongFalsely : Prop := sealedRow.holds Try.pinned (OpenSpec.ofChange sealedWrong)

/- THE SECOND FORM. 'bulk': how many values and letters a reading holds, each counted each time it is reached (what is shared counts as often as it is met; a slice's spare places count too). A statement '..UptoSaid' is the law's where the arguments, and the package variables that the reading takes, are together of bulk at most 1048576: NARROWER than '..Said'. Prove '..Said' where nothing that the law and all that it calls make is longer than what came in: it says more and counts as full. Else prove '..UptoSaid'. A law counts once. -/
mutual
def uptoBulk {H : Type} : DataW H → Nat
  | .lit (.string bytes) => bytes.length + 1
  | .lit _ => 1
  | .nil => 1
  | .ptr d => uptoBulk d + 1
  | .slice elems spare => uptoBulkAll elems + uptoBulkAll spare + 1
  | .agg parts => uptoBulkAll parts + 1
  | .iface _ d => uptoBulk d + 1
  | .map entries => uptoBulkEntries entries + 1
  | .held _ => 1
def uptoBulkAll {H : Type} : List (DataW H) → Nat
  | [] => 0
  | d :: r => uptoBulk d + uptoBulkAll r
def uptoBulkEntries {H : Type} : List (Lit × DataW H) → Nat
  | [] => 0
  | x :: r => uptoBulkEntry x + uptoBulkEntries r
def uptoBulkEntry {H : Type} : Lit × DataW H → Nat
  | (.string bytes, d) => bytes.length + uptoBulk d + 1
  | (_, d) => uptoBulk d + 1
 end
def uptoSmall : (H : Type) → List (DataW H) → Bool := fun _ ds => decide (uptoBulkAll ds ≤ 1048576)
def OpenSpec.upto (s : _root_.Go.ChangeSpec) : _root_.Go.OpenSpec := { _root_.Go.OpenSpec.ofChange s with cond := some uptoSmall }

/-- 'errandlaw.Types', WHERE WHAT IT READS IS OF BULK AT MOST 1048576: true; the input reads as it did. -/
def typesUptoRow : OpenClaim := { program := "ytblomippkddgiaa", sum := "d88e8facaaec3e9ce5f40a371e81e99ef2c296602086e39ad7a86e7002f1efde", func := "errand/errandlaw.Types", spec := "types", unfollowed := true, recurses := true, apart := false, narrowed := true }
def TypesUptoSaid : Prop := typesUptoRow.holds Try.pinned (OpenSpec.upto typesSpec)

/-- 'errandlaw.Marshals', WHERE WHAT IT READS IS OF BULK AT MOST 1048576: true; the input reads as it did. -/
def marshalsUptoRow : OpenClaim := { program := "ytblomippkddgiaa", sum := "d88e8facaaec3e9ce5f40a371e81e99ef2c296602086e39ad7a86e7002f1efde", func := "errand/errandlaw.Marshals", spec := "marshals", unfollowed := true, recurses := true, apart := false, narrowed := true }
def MarshalsUptoSaid : Prop := marshalsUptoRow.holds Try.pinned (OpenSpec.upto marshalsSpec)

/-- 'errandlaw.Unmarshals', WHERE WHAT IT READS IS OF BULK AT MOST 1048576: true; the input reads as it did. -/
def unmarshalsUptoRow : OpenClaim := { program := "ytblomippkddgiaa", sum := "d88e8facaaec3e9ce5f40a371e81e99ef2c296602086e39ad7a86e7002f1efde", func := "errand/errandlaw.Unmarshals", spec := "unmarshals", unfollowed := true, recurses := true, apart := false, narrowed := true }
def UnmarshalsUptoSaid : Prop := unmarshalsUptoRow.holds Try.pinned (OpenSpec.upto unmarshalsSpec)

/-- 'errandkeep.Coded', WHERE WHAT IT READS IS OF BULK AT MOST 1048576: true; the input reads as it did. -/
def codedUptoRow : OpenClaim := { program := "ytblomippkddgiaa", sum := "d88e8facaaec3e9ce5f40a371e81e99ef2c296602086e39ad7a86e7002f1efde", func := "errand/errandkeep.Coded", spec := "coded", unfollowed := true, recurses := true, apart := false, narrowed := true }
def CodedUptoSaid : Prop := codedUptoRow.holds Try.pinned (OpenSpec.upto codedSpec)

/-- 'errandlaw.Packets', WHERE WHAT IT READS IS OF BULK AT MOST 1048576: true; the input reads as it did. -/
def packetsUptoRow : OpenClaim := { program := "ytblomippkddgiaa", sum := "d88e8facaaec3e9ce5f40a371e81e99ef2c296602086e39ad7a86e7002f1efde", func := "errand/errandlaw.Packets", spec := "packets", unfollowed := true, recurses := true, apart := false, narrowed := true }
def PacketsUptoSaid : Prop := packetsUptoRow.holds Try.pinned (OpenSpec.upto packetsSpec)

/-- 'errandkeep.Sealed', WHERE WHAT IT READS IS OF BULK AT MOST 1048576: true; the input reads as it did. -/
def sealedUptoRow : OpenClaim := { program := "ytblomippkddgiaa", sum := "d88e8facaaec3e9ce5f40a371e81e99ef2c296602086e39ad7a86e7002f1efde", func := "errand/errandkeep.Sealed", spec := "sealed", unfollowed := true, recurses := true, apart := false, narrowed := true }
def SealedUptoSaid : Prop := sealedUptoRow.holds Try.pinned (OpenSpec.upto sealedSpec)

end Rows
end Go.Proofs.Ytblomippkddgiaa
