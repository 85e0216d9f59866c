/-
  NARROWER THAN 'FOR EVERY INPUT', by the rows' own cells (each row's printed sentence says how): Once: laid · Told: laid · All: laid.
  DERIVED. THE GIVEN ROWS OF THIS SEAT. 3 by the template 'for every input the law returns true; each argument reads behind the call as it read before'; 0 by the template 'total and deterministic' (their statements: YtblomippkddgiabGreatDoorTotals.lean).
  GIVEN WITH THE SEED: the statements are not yours to turn. If you find one false, say at which input.
  Laid BY PROGRAM, IN A SANDBOX (cutbox-rows.mjs): the forced cells as the released guide's own fill.sh prints them over the translation 817aaeeaed25da56… (all of the seat's roots in one cut). By AI agents, Wed Nov 11 2026. No macro, syntax, notation, axiom, sorry.
-/
import Derived.Test.YtblomippkddgiabGreatDoorChecked
import GoSem.Claim
import GoSem.ClaimJoined
import GoSem.ClaimMapViews
import Derived.JoinedTies
import Derived.KernelRfl
namespace Go.Proofs.YtblomippkddgiabGreatDoor
/- THE CELL 'sum', in the pinned program and in every row, IS THE sha256 OF THE DUMP (.gsa) THAT YtblomippkddgiabGreatDoorProg.lean LOADS. Nothing in Lean hashes anything: it is a label: what it is worth is what the hold of that sum in a sandbox is worth. -/
noncomputable def Tryz.pinned : Pinned := { name := "ytblomippkddgiabgreatdoor", sum := "817aaeeaed25da565f18e002f4a325551f776f497c0ffb57caf4b044090d183c", checked := Tryz.checked }
namespace Rows
def none {H : Type} : Left H := { results := [], args := [] }

/- WHAT THE LISTED PACKAGE-LEVEL VARIABLES READ AS WHEN THE CALL BEGINS. Each datum BY PROGRAM (the guide's laid-datum.mjs) off the statement by which the dump's own 'gosem.cut.vars' lays the variable. In a bare row this is a premise. The card (YtblomippkddgiabGreatDoorCards.lean) ties it to the program's text. -/
def laid_errand_service_signatures {H : Type} : DataW H := .agg [.agg [.lit (.int .i64 0), .lit (.int .i64 0), .lit (.string [105]), .lit (.string [99])], .agg [.lit (.int .i64 0), .lit (.int .i64 1), .lit (.string [98]), .lit (.string [99])], .agg [.lit (.int .i64 1), .lit (.int .i64 0), .lit (.string [115]), .lit (.string [99])], .agg [.lit (.int .i64 1), .lit (.int .i64 1), .lit (.string [99]), .lit (.string [113, 52, 115])], .agg [.lit (.int .i64 2), .lit (.int .i64 0), .lit (.string [114, 40, 101, 51, 113, 51, 105, 41]), .lit (.string [117, 40, 98, 113, 51, 105, 41])]]

/-- 'errandkeep.Once': WHATEVER THE INPUT: true; the input reads as it did. -/
def onceSpec : ChangeSpec := { name := "once", fn := fun _ => fun
  | [d1, d2] => { results := [.lit (.bool true)], args := [d1, d2] }
  | _ => none }
def onceRow : OpenClaim := { program := "ytblomippkddgiabgreatdoor", sum := "817aaeeaed25da565f18e002f4a325551f776f497c0ffb57caf4b044090d183c", func := "errand/errandkeep.Once", spec := "once", unfollowed := true, recurses := true, named := ["errand/service.signatures"], apart := false, laid := [("errand/service.signatures", laid_errand_service_signatures)] }
def OnceSaid : Prop := onceRow.holds Tryz.pinned (OpenSpec.ofChange onceSpec)

/-- ITS FALSE NEIGHBOUR: 'it returns false'. Refute it at one input. -/
def onceWrong : ChangeSpec := { name := "once", fn := fun _ => fun
  | [d1, d2] => { results := [.lit (.bool false)], args := [d1, d2] }
  | _ => none }
def OnceWrongFalsely : Prop := onceRow.holds Tryz.pinned (OpenSpec.ofChange onceWrong)

/-- 'errandkeep.Told': WHATEVER THE INPUT: true; the input reads as it did. -/
def toldSpec : ChangeSpec := { name := "told", fn := fun _ => fun
  | [d1, d2] => { results := [.lit (.bool true)], args := [d1, d2] }
  | _ => none }
def toldRow : OpenClaim := { program := "ytblomippkddgiabgreatdoor", sum := "817aaeeaed25da565f18e002f4a325551f776f497c0ffb57caf4b044090d183c", func := "errand/errandkeep.Told", spec := "told", unfollowed := true, recurses := true, named := ["errand/service.signatures"], apart := false, laid := [("errand/service.signatures", laid_errand_service_signatures)] }
def ToldSaid : Prop := toldRow.holds Tryz.pinned (OpenSpec.ofChange toldSpec)

/-- ITS FALSE NEIGHBOUR: 'it returns false'. Refute it at one input. -/
def toldWrong : ChangeSpec := { name := "told", fn := fun _ => fun
  | [d1, d2] => { results := [.lit (.bool false)], args := [d1, d2] }
  | _ => none }
def ToldWrongFalsely : Prop := toldRow.holds Tryz.pinned (OpenSpec.ofChange toldWrong)

/-- 'errandlaw.All': WHATEVER THE INPUT: true; the input reads as it did. -/
def allSpec : ChangeSpec := { name := "all", fn := fun _ => fun
  | [d] => { results := [.lit (.bool true)], args := [d] }
  | _ => none }
def allRow : OpenClaim := { program := "ytblomippkddgiabgreatdoor", sum := "817aaeeaed25da565f18e002f4a325551f776f497c0ffb57caf4b044090d183c", func := "errand/errandlaw.All", spec := "all", unfollowed := true, recurses := true, named := ["errand/service.signatures"], apart := false, laid := [("errand/service.signatures", laid_errand_service_signatures)] }
def AllSaid : Prop := allRow.holds Tryz.pinned (OpenSpec.ofChange allSpec)

/-- ITS FALSE NEIGHBOUR: 'it returns false'. Refute it at one input. -/
def allWrong : ChangeSpec := { name := "all", fn := fun _ => fun
  | [d] => { results := [.lit (.bool false)], args := [d] }
  | _ => none }
def AllWrongFalsely : Prop := allRow.holds Tryz.pinned (OpenSpec.ofChange allWrong)

/- THE SECOND FORM. 'bulk': how many values and letters a reading holds, each counted each time it is reached (what is shared counts as often as it is met; a slice's spare places count too). A statement '..UptoSaid' is the law's where the arguments, and the package variables that the reading takes, are together of bulk at most 1048576: NARROWER than '..Said'. Prove '..Said' where nothing that the law and all that it calls make is longer than what came in: it says more and counts as full. Else prove '..UptoSaid'. A law counts once. -/
mutual
def uptoBulk {H : Type} : DataW H → Nat
  | .lit (.string bytes) => bytes.length + 1
  | .lit _ => 1
  | .nil => 1
  | .ptr d => uptoBulk d + 1
  | .slice elems spare => uptoBulkAll elems + uptoBulkAll spare + 1
  | .agg parts => uptoBulkAll parts + 1
  | .iface _ d => uptoBulk d + 1
  | .map entries => uptoBulkEntries entries + 1
  | .held _ => 1
def uptoBulkAll {H : Type} : List (DataW H) → Nat
  | [] => 0
  | d :: r => uptoBulk d + uptoBulkAll r
def uptoBulkEntries {H : Type} : List (Lit × DataW H) → Nat
  | [] => 0
  | x :: r => uptoBulkEntry x + uptoBulkEntries r
def uptoBulkEntry {H : Type} : Lit × DataW H → Nat
  | (.string bytes, d) => bytes.length + uptoBulk d + 1
  | (_, d) => uptoBulk d + 1
 end
def uptoSmall : (H : Type) → List (DataW H) → Bool := fun _ ds => decide (uptoBulkAll ds ≤ 1048576)
def OpenSpec.upto (s : _root_.Go.ChangeSpec) : _root_.Go.OpenSpec := { _root_.Go.OpenSpec.ofChange s with cond := some uptoSmall }

/-- 'errandkeep.Once', WHERE WHAT IT READS IS OF BULK AT MOST 1048576: true; the input reads as it did. -/
def onceUptoRow : OpenClaim := { program := "ytblomippkddgiabgreatdoor", sum := "817aaeeaed25da565f18e002f4a325551f776f497c0ffb57caf4b044090d183c", func := "errand/errandkeep.Once", spec := "once", unfollowed := true, recurses := true, named := ["errand/service.signatures"], apart := false, laid := [("errand/service.signatures", laid_errand_service_signatures)], narrowed := true }
def OnceUptoSaid : Prop := onceUptoRow.holds Tryz.pinned (OpenSpec.upto onceSpec)

/-- 'errandkeep.Told', WHERE WHAT IT READS IS OF BULK AT MOST 1048576: true; the input reads as it did. -/
def toldUptoRow : OpenClaim := { program := "ytblomippkddgiabgreatdoor", sum := "817aaeeaed25da565f18e002f4a325551f776f497c0ffb57caf4b044090d183c", func := "errand/errandkeep.Told", spec := "told", unfollowed := true, recurses := true, named := ["errand/service.signatures"], apart := false, laid := [("errand/service.signatures", laid_errand_service_signatures)], narrowed := true }
def ToldUptoSaid : Prop := toldUptoRow.holds Tryz.pinned (OpenSpec.upto toldSpec)

/-- 'errandlaw.All', WHERE WHAT IT READS IS OF BULK AT MOST 1048576: true; the input reads as it did. -/
def allUptoRow : OpenClaim := { program := "ytblomippkddgiabgreatdoor", sum := "817aaeeaed25da565f18e002f4a325551f776f497c0ffb57caf4b044090d183c", func := "errand/errandlaw.All", spec := "all", unfollowed := true, recurses := true, named := ["errand/service.signatures"], apart := false, laid := [("errand/service.signatures", laid_errand_service_signatures)], narrowed := true }
def AllUptoSaid : Prop := allUptoRow.holds Tryz.pinned (OpenSpec.upto allSpec)

end Rows
end Go.Proofs.YtblomippkddgiabGreatDoor
