/-
  DERIVED. GIVEN WITH THE SEED: THE CARDS: each row of YtmjldphagbobpaaGreatDoorRows.lean that lists a variable, with what it lists TIED to the program's text (the seventh form; the later family's looks); each row that meets fmt, with fmt's text TOLD by the authors' own Lean function (tested against real Go, not proved from fmt's source: count such statements apart). THE CARD IS WHAT COUNTS. Prove the row's statement (the work); the ties are given (YtmjldphagbobpaaGreatDoorTie.lean); close each card by the builder's one call (the guide's Derived/Test/ToyasCard.lean, 'card_holds'). Laid BY PROGRAM, IN A SANDBOX (cutbox-door.mjs). By AI agents, Wed Nov 11 2026. No macro, syntax, notation, axiom, sorry.
-/
import Derived.Test.YtmjldphagbobpaaGreatDoorRows
import GoSem.ClaimSeven
namespace Go.Proofs.YtmjldphagbobpaaGreatDoor
namespace Rows

/-- THE TIED CARD OF 'tamislaw08.IdnaTells'. -/
def idnaTellsCard : Claim7 := { stood := { row := idnaTellsRow, standIns := [], harness := (true, "db6cc9aaf349bcbbd37df24bca9e9ed4891227e84588b0feab0bcdb1742cc438"), looks := false }, kinds := [], alts := [], laidByText := true, laidKinds := [.data, .pinned], laidTests := true, laidLooks := .later }
def IdnaTellsCardSaid : Prop := Claim7.holds Tryz.pinned (.plain (OpenSpec.ofChange idnaTellsSpec)) idnaTellsCard

/-- THE SECOND FORM's CARD OF 'tamislaw08.IdnaTells'. -/
def idnaTellsUptoCard : Claim7 := { stood := { row := idnaTellsUptoRow, standIns := [], harness := (true, "db6cc9aaf349bcbbd37df24bca9e9ed4891227e84588b0feab0bcdb1742cc438"), looks := false }, kinds := [], alts := [], laidByText := true, laidKinds := [.data, .pinned], laidTests := true, laidLooks := .later }
def IdnaTellsUptoCardSaid : Prop := Claim7.holds Tryz.pinned (.plain (OpenSpec.upto idnaTellsSpec)) idnaTellsUptoCard
end Rows
end Go.Proofs.YtmjldphagbobpaaGreatDoor
