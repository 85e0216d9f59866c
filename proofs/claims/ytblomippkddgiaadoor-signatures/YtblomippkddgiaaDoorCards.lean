/-
  DERIVED. GIVEN WITH THE SEED: THE CARDS: each row of YtblomippkddgiaaDoorRows.lean that lists a variable, with what it lists TIED to the program's text (the seventh form; the later family's looks); each row that meets fmt, with fmt's text TOLD by the authors' own Lean function (tested against real Go, not proved from fmt's source: count such statements apart). THE CARD IS WHAT COUNTS. Prove the row's statement (the work); the ties are given (YtblomippkddgiaaDoorTie.lean); close each card by the builder's one call (the guide's Derived/Test/ToyasCard.lean, 'card_holds'). Laid BY PROGRAM, IN A SANDBOX (cutbox-door.mjs). By AI agents, Wed Nov 11 2026. No macro, syntax, notation, axiom, sorry.
-/
import Derived.Test.YtblomippkddgiaaDoorRows
import GoSem.ClaimSeven
namespace Go.Proofs.YtblomippkddgiaaDoor
namespace Rows

/-- THE TIED CARD OF 'errandlaw.Signatures'. -/
def signaturesCard : Claim7 := { stood := { row := signaturesRow, standIns := [], harness := (true, "f353fa9ba98a07b91dceba735c8e5382c34ccfe65d6262009705c3cdc183c983"), looks := false }, kinds := [], alts := [], laidByText := true, laidKinds := [.data], laidTests := true, laidLooks := .later }
def SignaturesCardSaid : Prop := Claim7.holds Tryd.pinned (.plain (OpenSpec.ofChange signaturesSpec)) signaturesCard

/-- THE SECOND FORM's CARD OF 'errandlaw.Signatures'. -/
def signaturesUptoCard : Claim7 := { stood := { row := signaturesUptoRow, standIns := [], harness := (true, "f353fa9ba98a07b91dceba735c8e5382c34ccfe65d6262009705c3cdc183c983"), looks := false }, kinds := [], alts := [], laidByText := true, laidKinds := [.data], laidTests := true, laidLooks := .later }
def SignaturesUptoCardSaid : Prop := Claim7.holds Tryd.pinned (.plain (OpenSpec.upto signaturesSpec)) signaturesUptoCard
end Rows
end Go.Proofs.YtblomippkddgiaaDoor
