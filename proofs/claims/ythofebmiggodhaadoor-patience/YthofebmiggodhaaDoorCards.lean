/-
  DERIVED. GIVEN WITH THE SEED: THE CARDS: each row of YthofebmiggodhaaDoorRows.lean that lists a variable, with what it lists TIED to the program's text (the seventh form; the later family's looks); each row that meets fmt, with fmt's text TOLD by the authors' own Lean function (tested against real Go, not proved from fmt's source: count such statements apart). THE CARD IS WHAT COUNTS. Prove the row's statement (the work); the ties are given (YthofebmiggodhaaDoorTie.lean); close each card by the builder's one call (the guide's Derived/Test/ToyasCard.lean, 'card_holds'). Laid BY PROGRAM, IN A SANDBOX (cutbox-door.mjs). By AI agents, Wed Nov 11 2026. No macro, syntax, notation, axiom, sorry.
-/
import Derived.Test.YthofebmiggodhaaDoorRows
import GoSem.ClaimSeven
namespace Go.Proofs.YthofebmiggodhaaDoor
namespace Rows

/-- THE TIED CARD OF 'errandlaw.Signatures'. -/
def signaturesCard : Claim7 := { stood := { row := signaturesRow, standIns := [], harness := (true, "fad9ce300c6c6e5e7c506cd6c63693f02fc4f003a48154be627193c238bf13ff"), looks := true }, kinds := [], alts := [], laidByText := true, laidKinds := [.data], laidTests := true, laidLooks := .later }
def SignaturesCardSaid : Prop := Claim7.holds Tryd.pinned (.plain (OpenSpec.ofChange signaturesSpec)) signaturesCard

/-- THE TIED CARD OF 'errandkeep.Patience'. -/
def patienceCard : Claim7 := { stood := { row := patienceRow, standIns := [], harness := (true, "fad9ce300c6c6e5e7c506cd6c63693f02fc4f003a48154be627193c238bf13ff"), looks := true }, kinds := [], alts := [], laidByText := true, laidKinds := [.data], laidTests := true, laidLooks := .later }
def PatienceCardSaid : Prop := Claim7.holds Tryd.pinned (.plain (OpenSpec.ofChange patienceSpec)) patienceCard

/-- THE SECOND FORM's CARD OF 'errandlaw.Signatures'. -/
def signaturesUptoCard : Claim7 := { stood := { row := signaturesUptoRow, standIns := [], harness := (true, "fad9ce300c6c6e5e7c506cd6c63693f02fc4f003a48154be627193c238bf13ff"), looks := true }, kinds := [], alts := [], laidByText := true, laidKinds := [.data], laidTests := true, laidLooks := .later }
def SignaturesUptoCardSaid : Prop := Claim7.holds Tryd.pinned (.plain (OpenSpec.upto signaturesSpec)) signaturesUptoCard

/-- THE SECOND FORM's CARD OF 'errandkeep.Patience'. -/
def patienceUptoCard : Claim7 := { stood := { row := patienceUptoRow, standIns := [], harness := (true, "fad9ce300c6c6e5e7c506cd6c63693f02fc4f003a48154be627193c238bf13ff"), looks := true }, kinds := [], alts := [], laidByText := true, laidKinds := [.data], laidTests := true, laidLooks := .later }
def PatienceUptoCardSaid : Prop := Claim7.holds Tryd.pinned (.plain (OpenSpec.upto patienceSpec)) patienceUptoCard
end Rows
end Go.Proofs.YthofebmiggodhaaDoor
