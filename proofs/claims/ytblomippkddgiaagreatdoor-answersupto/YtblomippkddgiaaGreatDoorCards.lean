/-
  DERIVED. GIVEN WITH THE SEED: THE CARDS: each row of YtblomippkddgiaaGreatDoorRows.lean that lists a variable, with what it lists TIED to the program's text (the seventh form; the later family's looks); each row that meets fmt, with fmt's text TOLD by the authors' own Lean function (tested against real Go, not proved from fmt's source: count such statements apart). THE CARD IS WHAT COUNTS. Prove the row's statement (the work); the ties are given (YtblomippkddgiaaGreatDoorTie.lean); close each card by the builder's one call (the guide's Derived/Test/ToyasCard.lean, 'card_holds'). Laid BY PROGRAM, IN A SANDBOX (cutbox-door.mjs). By AI agents, Wed Nov 11 2026. No macro, syntax, notation, axiom, sorry.
-/
import Derived.Test.YtblomippkddgiaaGreatDoorRows
import GoSem.ClaimSeven
namespace Go.Proofs.YtblomippkddgiaaGreatDoor
namespace Rows

/-- THE TIED CARD OF 'errandlaw.Sends'. -/
def sendsCard : Claim7 := { stood := { row := sendsRow, standIns := [], harness := (true, "9a6d02868193b5666cab5a7656a3f1e1677eef58c447526782d14dddf1ab8fb6"), looks := true }, kinds := [], alts := [], laidByText := true, laidKinds := [.data], laidTests := true, laidLooks := .later }
def SendsCardSaid : Prop := Claim7.holds Tryz.pinned (.plain (OpenSpec.ofChange sendsSpec)) sendsCard

/-- THE TIED CARD OF 'errandkeep.Patience'. -/
def patienceCard : Claim7 := { stood := { row := patienceRow, standIns := [], harness := (true, "9a6d02868193b5666cab5a7656a3f1e1677eef58c447526782d14dddf1ab8fb6"), looks := true }, kinds := [], alts := [], laidByText := true, laidKinds := [.data], laidTests := true, laidLooks := .later }
def PatienceCardSaid : Prop := Claim7.holds Tryz.pinned (.plain (OpenSpec.ofChange patienceSpec)) patienceCard

/-- THE TIED CARD OF 'errandlaw.Answers'. -/
def answersCard : Claim7 := { stood := { row := answersRow, standIns := [], harness := (true, "9a6d02868193b5666cab5a7656a3f1e1677eef58c447526782d14dddf1ab8fb6"), looks := true }, kinds := [], alts := [], laidByText := true, laidKinds := [.data], laidTests := true, laidLooks := .later }
def AnswersCardSaid : Prop := Claim7.holds Tryz.pinned (.plain (OpenSpec.ofChange answersSpec)) answersCard

/-- THE TIED CARD OF 'errandkeep.Calm'. -/
def calmCard : Claim7 := { stood := { row := calmRow, standIns := [], harness := (true, "9a6d02868193b5666cab5a7656a3f1e1677eef58c447526782d14dddf1ab8fb6"), looks := true }, kinds := [], alts := [], laidByText := true, laidKinds := [.data], laidTests := true, laidLooks := .later }
def CalmCardSaid : Prop := Claim7.holds Tryz.pinned (.plain (OpenSpec.ofChange calmSpec)) calmCard

/-- THE TIED CARD OF 'errandkeep.Stubborn'. -/
def stubbornCard : Claim7 := { stood := { row := stubbornRow, standIns := [], harness := (true, "9a6d02868193b5666cab5a7656a3f1e1677eef58c447526782d14dddf1ab8fb6"), looks := true }, kinds := [], alts := [], laidByText := true, laidKinds := [.data], laidTests := true, laidLooks := .later }
def StubbornCardSaid : Prop := Claim7.holds Tryz.pinned (.plain (OpenSpec.ofChange stubbornSpec)) stubbornCard

/-- THE SECOND FORM's CARD OF 'errandlaw.Sends'. -/
def sendsUptoCard : Claim7 := { stood := { row := sendsUptoRow, standIns := [], harness := (true, "9a6d02868193b5666cab5a7656a3f1e1677eef58c447526782d14dddf1ab8fb6"), looks := true }, kinds := [], alts := [], laidByText := true, laidKinds := [.data], laidTests := true, laidLooks := .later }
def SendsUptoCardSaid : Prop := Claim7.holds Tryz.pinned (.plain (OpenSpec.upto sendsSpec)) sendsUptoCard

/-- THE SECOND FORM's CARD OF 'errandkeep.Patience'. -/
def patienceUptoCard : Claim7 := { stood := { row := patienceUptoRow, standIns := [], harness := (true, "9a6d02868193b5666cab5a7656a3f1e1677eef58c447526782d14dddf1ab8fb6"), looks := true }, kinds := [], alts := [], laidByText := true, laidKinds := [.data], laidTests := true, laidLooks := .later }
def PatienceUptoCardSaid : Prop := Claim7.holds Tryz.pinned (.plain (OpenSpec.upto patienceSpec)) patienceUptoCard

/-- THE SECOND FORM's CARD OF 'errandlaw.Answers'. -/
def answersUptoCard : Claim7 := { stood := { row := answersUptoRow, standIns := [], harness := (true, "9a6d02868193b5666cab5a7656a3f1e1677eef58c447526782d14dddf1ab8fb6"), looks := true }, kinds := [], alts := [], laidByText := true, laidKinds := [.data], laidTests := true, laidLooks := .later }
def AnswersUptoCardSaid : Prop := Claim7.holds Tryz.pinned (.plain (OpenSpec.upto answersSpec)) answersUptoCard

/-- THE SECOND FORM's CARD OF 'errandkeep.Calm'. -/
def calmUptoCard : Claim7 := { stood := { row := calmUptoRow, standIns := [], harness := (true, "9a6d02868193b5666cab5a7656a3f1e1677eef58c447526782d14dddf1ab8fb6"), looks := true }, kinds := [], alts := [], laidByText := true, laidKinds := [.data], laidTests := true, laidLooks := .later }
def CalmUptoCardSaid : Prop := Claim7.holds Tryz.pinned (.plain (OpenSpec.upto calmSpec)) calmUptoCard

/-- THE SECOND FORM's CARD OF 'errandkeep.Stubborn'. -/
def stubbornUptoCard : Claim7 := { stood := { row := stubbornUptoRow, standIns := [], harness := (true, "9a6d02868193b5666cab5a7656a3f1e1677eef58c447526782d14dddf1ab8fb6"), looks := true }, kinds := [], alts := [], laidByText := true, laidKinds := [.data], laidTests := true, laidLooks := .later }
def StubbornUptoCardSaid : Prop := Claim7.holds Tryz.pinned (.plain (OpenSpec.upto stubbornSpec)) stubbornUptoCard
end Rows
end Go.Proofs.YtblomippkddgiaaGreatDoor
