/-
  NARROWER THAN 'FOR EVERY INPUT', by the rows' own cells (each row's printed sentence says how): Sends: laid · Patience: laid · Answers: laid · Calm: laid · Stubborn: laid.
  DERIVED. THE GIVEN ROWS OF THIS SEAT. 5 by the template 'for every input the law returns true; each argument reads behind the call as it read before'; 0 by the template 'total and deterministic' (their statements: YtblomippkddgiaaGreatDoorTotals.lean).
  GIVEN WITH THE SEED: the statements are not yours to turn. If you find one false, say at which input.
  Laid BY PROGRAM, IN A SANDBOX (cutbox-rows.mjs): the forced cells as the released guide's own fill.sh prints them over the translation a9e6c98e8fe72390… (all of the seat's roots in one cut). By AI agents, Wed Nov 11 2026. No macro, syntax, notation, axiom, sorry.
-/
import Derived.Test.YtblomippkddgiaaGreatDoorChecked
import GoSem.Claim
import GoSem.ClaimJoined
import GoSem.ClaimMapViews
import Derived.JoinedTies
import Derived.KernelRfl
namespace Go.Proofs.YtblomippkddgiaaGreatDoor
/- THE CELL 'sum', in the pinned program and in every row, IS THE sha256 OF THE DUMP (.gsa) THAT YtblomippkddgiaaGreatDoorProg.lean LOADS. Nothing in Lean hashes anything: it is a label: what it is worth is what the hold of that sum in a sandbox is worth. -/
noncomputable def Tryz.pinned : Pinned := { name := "ytblomippkddgiaagreatdoor", sum := "a9e6c98e8fe72390ef8801a93565c443700ab6fd88bb20c9f5f08031e0b111ed", checked := Tryz.checked }
namespace Rows
def none {H : Type} : Left H := { results := [], args := [] }

/- WHAT THE LISTED PACKAGE-LEVEL VARIABLES READ AS WHEN THE CALL BEGINS. Each datum BY PROGRAM (the guide's laid-datum.mjs) off the statement by which the dump's own 'gosem.cut.vars' lays the variable. In a bare row this is a premise. The card (YtblomippkddgiaaGreatDoorCards.lean) ties it to the program's text. -/
def laid_errand_service_signatures {H : Type} : DataW H := .agg [.agg [.lit (.int .i64 0), .lit (.int .i64 0), .lit (.string [105]), .lit (.string [99])], .agg [.lit (.int .i64 0), .lit (.int .i64 1), .lit (.string [98]), .lit (.string [99])], .agg [.lit (.int .i64 1), .lit (.int .i64 0), .lit (.string [115]), .lit (.string [99])], .agg [.lit (.int .i64 1), .lit (.int .i64 1), .lit (.string [99]), .lit (.string [113, 52, 115])], .agg [.lit (.int .i64 2), .lit (.int .i64 0), .lit (.string [114, 40, 101, 51, 113, 51, 105, 41]), .lit (.string [117, 40, 98, 113, 51, 105, 41])]]

/-- 'errandlaw.Sends': WHATEVER THE INPUT: true; the input reads as it did. -/
def sendsSpec : ChangeSpec := { name := "sends", fn := fun _ => fun
  | [d] => { results := [.lit (.bool true)], args := [d] }
  | _ => none }
def sendsRow : OpenClaim := { program := "ytblomippkddgiaagreatdoor", sum := "a9e6c98e8fe72390ef8801a93565c443700ab6fd88bb20c9f5f08031e0b111ed", func := "errand/errandlaw.Sends", spec := "sends", unfollowed := true, recurses := true, named := ["errand/service.signatures"], apart := false, laid := [("errand/service.signatures", laid_errand_service_signatures)] }
def SendsSaid : Prop := sendsRow.holds Tryz.pinned (OpenSpec.ofChange sendsSpec)

/-- ITS FALSE NEIGHBOUR: 'it returns false'. Refute it at one input. -/
def sendsWrong : ChangeSpec := { name := "sends", fn := fun _ => fun
  | [d] => { results := [.lit (.bool false)], args := [d] }
  | _ => none }
def SendsWrongFalsely : Prop := sendsRow.holds Tryz.pinned (OpenSpec.ofChange sendsWrong)

/-- 'errandkeep.Patience': WHATEVER THE INPUT: true; the input reads as it did. -/
def patienceSpec : ChangeSpec := { name := "patience", fn := fun _ => fun
  | [d1, d2, d3, d4] => { results := [.lit (.bool true)], args := [d1, d2, d3, d4] }
  | _ => none }
def patienceRow : OpenClaim := { program := "ytblomippkddgiaagreatdoor", sum := "a9e6c98e8fe72390ef8801a93565c443700ab6fd88bb20c9f5f08031e0b111ed", func := "errand/errandkeep.Patience", spec := "patience", unfollowed := true, recurses := true, named := ["errand/service.signatures"], apart := false, laid := [("errand/service.signatures", laid_errand_service_signatures)] }
def PatienceSaid : Prop := patienceRow.holds Tryz.pinned (OpenSpec.ofChange patienceSpec)

/-- ITS FALSE NEIGHBOUR: 'it returns false'. Refute it at one input. -/
def patienceWrong : ChangeSpec := { name := "patience", fn := fun _ => fun
  | [d1, d2, d3, d4] => { results := [.lit (.bool false)], args := [d1, d2, d3, d4] }
  | _ => none }
def PatienceWrongFalsely : Prop := patienceRow.holds Tryz.pinned (OpenSpec.ofChange patienceWrong)

/-- 'errandlaw.Answers': WHATEVER THE INPUT: true; the input reads as it did. -/
def answersSpec : ChangeSpec := { name := "answers", fn := fun _ => fun
  | [d] => { results := [.lit (.bool true)], args := [d] }
  | _ => none }
def answersRow : OpenClaim := { program := "ytblomippkddgiaagreatdoor", sum := "a9e6c98e8fe72390ef8801a93565c443700ab6fd88bb20c9f5f08031e0b111ed", func := "errand/errandlaw.Answers", spec := "answers", unfollowed := true, recurses := true, named := ["errand/service.signatures"], apart := false, laid := [("errand/service.signatures", laid_errand_service_signatures)] }
def AnswersSaid : Prop := answersRow.holds Tryz.pinned (OpenSpec.ofChange answersSpec)

/-- ITS FALSE NEIGHBOUR: 'it returns false'. Refute it at one input. -/
def answersWrong : ChangeSpec := { name := "answers", fn := fun _ => fun
  | [d] => { results := [.lit (.bool false)], args := [d] }
  | _ => none }
def AnswersWrongFalsely : Prop := answersRow.holds Tryz.pinned (OpenSpec.ofChange answersWrong)

/-- 'errandkeep.Calm': WHATEVER THE INPUT: true; the input reads as it did. -/
def calmSpec : ChangeSpec := { name := "calm", fn := fun _ => fun
  | [d1, d2] => { results := [.lit (.bool true)], args := [d1, d2] }
  | _ => none }
def calmRow : OpenClaim := { program := "ytblomippkddgiaagreatdoor", sum := "a9e6c98e8fe72390ef8801a93565c443700ab6fd88bb20c9f5f08031e0b111ed", func := "errand/errandkeep.Calm", spec := "calm", unfollowed := true, recurses := true, named := ["errand/service.signatures"], apart := false, laid := [("errand/service.signatures", laid_errand_service_signatures)] }
def CalmSaid : Prop := calmRow.holds Tryz.pinned (OpenSpec.ofChange calmSpec)

/-- ITS FALSE NEIGHBOUR: 'it returns false'. Refute it at one input. -/
def calmWrong : ChangeSpec := { name := "calm", fn := fun _ => fun
  | [d1, d2] => { results := [.lit (.bool false)], args := [d1, d2] }
  | _ => none }
def CalmWrongFalsely : Prop := calmRow.holds Tryz.pinned (OpenSpec.ofChange calmWrong)

/-- 'errandkeep.Stubborn': WHATEVER THE INPUT: true; the input reads as it did. -/
def stubbornSpec : ChangeSpec := { name := "stubborn", fn := fun _ => fun
  | [d1, d2, d3, d4, d5] => { results := [.lit (.bool true)], args := [d1, d2, d3, d4, d5] }
  | _ => none }
def stubbornRow : OpenClaim := { program := "ytblomippkddgiaagreatdoor", sum := "a9e6c98e8fe72390ef8801a93565c443700ab6fd88bb20c9f5f08031e0b111ed", func := "errand/errandkeep.Stubborn", spec := "stubborn", unfollowed := true, recurses := true, named := ["errand/service.signatures"], apart := false, laid := [("errand/service.signatures", laid_errand_service_signatures)] }
def StubbornSaid : Prop := stubbornRow.holds Tryz.pinned (OpenSpec.ofChange stubbornSpec)

/-- ITS FALSE NEIGHBOUR: 'it returns false'. Refute it at one input. -/
def stubbornWrong : ChangeSpec := { name := "stubborn", fn := fun _ => fun
  | [d1, d2, d3, d4, d5] => { results := [.lit (.bool false)], args := [d1, d2, d3, d4, d5] }
  | _ => none }
def StubbornWrongFalsely : Prop := stubbornRow.holds Tryz.pinned (OpenSpec.ofChange stubbornWrong)

/- THE SECOND FORM. 'bulk': how many values and letters a reading holds, each counted each time it is reached (what is shared counts as often as it is met; a slice's spare places count too). A statement '..UptoSaid' is the law's where the arguments, and the package variables that the reading takes, are together of bulk at most 1048576: NARROWER than '..Said'. Prove '..Said' where nothing that the law and all that it calls make is longer than what came in: it says more and counts as full. Else prove '..UptoSaid'. A law counts once. -/
mutual
def uptoBulk {H : Type} : DataW H → Nat
  | .lit (.string bytes) => bytes.length + 1
  | .lit _ => 1
  | .nil => 1
  | .ptr d => uptoBulk d + 1
  | .slice elems spare => uptoBulkAll elems + uptoBulkAll spare + 1
  | .agg parts => uptoBulkAll parts + 1
  | .iface _ d => uptoBulk d + 1
  | .map entries => uptoBulkEntries entries + 1
  | .held _ => 1
def uptoBulkAll {H : Type} : List (DataW H) → Nat
  | [] => 0
  | d :: r => uptoBulk d + uptoBulkAll r
def uptoBulkEntries {H : Type} : List (Lit × DataW H) → Nat
  | [] => 0
  | x :: r => uptoBulkEntry x + uptoBulkEntries r
def uptoBulkEntry {H : Type} : Lit × DataW H → Nat
  | (.string bytes, d) => bytes.length + uptoBulk d + 1
  | (_, d) => uptoBulk d + 1
 end
def uptoSmall : (H : Type) → List (DataW H) → Bool := fun _ ds => decide (uptoBulkAll ds ≤ 1048576)
def OpenSpec.upto (s : _root_.Go.ChangeSpec) : _root_.Go.OpenSpec := { _root_.Go.OpenSpec.ofChange s with cond := some uptoSmall }

/-- 'errandlaw.Sends', WHERE WHAT IT READS IS OF BULK AT MOST 1048576: true; the input reads as it did. -/
def sendsUptoRow : OpenClaim := { program := "ytblomippkddgiaagreatdoor", sum := "a9e6c98e8fe72390ef8801a93565c443700ab6fd88bb20c9f5f08031e0b111ed", func := "errand/errandlaw.Sends", spec := "sends", unfollowed := true, recurses := true, named := ["errand/service.signatures"], apart := false, laid := [("errand/service.signatures", laid_errand_service_signatures)], narrowed := true }
def SendsUptoSaid : Prop := sendsUptoRow.holds Tryz.pinned (OpenSpec.upto sendsSpec)

/-- 'errandkeep.Patience', WHERE WHAT IT READS IS OF BULK AT MOST 1048576: true; the input reads as it did. -/
def patienceUptoRow : OpenClaim := { program := "ytblomippkddgiaagreatdoor", sum := "a9e6c98e8fe72390ef8801a93565c443700ab6fd88bb20c9f5f08031e0b111ed", func := "errand/errandkeep.Patience", spec := "patience", unfollowed := true, recurses := true, named := ["errand/service.signatures"], apart := false, laid := [("errand/service.signatures", laid_errand_service_signatures)], narrowed := true }
def PatienceUptoSaid : Prop := patienceUptoRow.holds Tryz.pinned (OpenSpec.upto patienceSpec)

/-- 'errandlaw.Answers', WHERE WHAT IT READS IS OF BULK AT MOST 1048576: true; the input reads as it did. -/
def answersUptoRow : OpenClaim := { program := "ytblomippkddgiaagreatdoor", sum := "a9e6c98e8fe72390ef8801a93565c443700ab6fd88bb20c9f5f08031e0b111ed", func := "errand/errandlaw.Answers", spec := "answers", unfollowed := true, recurses := true, named := ["errand/service.signatures"], apart := false, laid := [("errand/service.signatures", laid_errand_service_signatures)], narrowed := true }
def AnswersUptoSaid : Prop := answersUptoRow.holds Tryz.pinned (OpenSpec.upto answersSpec)

/-- 'errandkeep.Calm', WHERE WHAT IT READS IS OF BULK AT MOST 1048576: true; the input reads as it did. -/
def calmUptoRow : OpenClaim := { program := "ytblomippkddgiaagreatdoor", sum := "a9e6c98e8fe72390ef8801a93565c443700ab6fd88bb20c9f5f08031e0b111ed", func := "errand/errandkeep.Calm", spec := "calm", unfollowed := true, recurses := true, named := ["errand/service.signatures"], apart := false, laid := [("errand/service.signatures", laid_errand_service_signatures)], narrowed := true }
def CalmUptoSaid : Prop := calmUptoRow.holds Tryz.pinned (OpenSpec.upto calmSpec)

/-- 'errandkeep.Stubborn', WHERE WHAT IT READS IS OF BULK AT MOST 1048576: true; the input reads as it did. -/
def stubbornUptoRow : OpenClaim := { program := "ytblomippkddgiaagreatdoor", sum := "a9e6c98e8fe72390ef8801a93565c443700ab6fd88bb20c9f5f08031e0b111ed", func := "errand/errandkeep.Stubborn", spec := "stubborn", unfollowed := true, recurses := true, named := ["errand/service.signatures"], apart := false, laid := [("errand/service.signatures", laid_errand_service_signatures)], narrowed := true }
def StubbornUptoSaid : Prop := stubbornUptoRow.holds Tryz.pinned (OpenSpec.upto stubbornSpec)

end Rows
end Go.Proofs.YtblomippkddgiaaGreatDoor
