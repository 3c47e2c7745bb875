/-
  DERIVED. GIVEN WITH THE SEED: THE CARDS: each row of YtfnappdgiomiiaaDoorRows.lean that lists a variable, with what it lists TIED to the program's text (the seventh form; the later family's looks); each row that meets fmt, with fmt's text TOLD by the authors' own Lean function (tested against real Go, not proved from fmt's source: count such statements apart). THE CARD IS WHAT COUNTS. Prove the row's statement (the work); the ties are given (YtfnappdgiomiiaaDoorTie.lean); close each card by the builder's one call (the guide's Derived/Test/ToyasCard.lean, 'card_holds'). Laid BY PROGRAM, IN A SANDBOX (cutbox-door.mjs). By AI agents, Wed Nov 11 2026. No macro, syntax, notation, axiom, sorry.
-/
import Derived.Test.YtfnappdgiomiiaaDoorRows
import GoSem.ClaimSeven
namespace Go.Proofs.YtfnappdgiomiiaaDoor
namespace Rows

/-- THE TIED CARD OF 'tamislaw06.EscapeTells'. -/
def escapeTellsCard : Claim7 := { stood := { row := escapeTellsRow, standIns := [], harness := (true, "e3b9bbad75279f24e6a4afeb83c5b308dd1e5590a4ff30056f3d5db5772563b0"), looks := false }, kinds := [], alts := [], laidByText := true, laidKinds := [.data], laidTests := true, laidLooks := .later }
def EscapeTellsCardSaid : Prop := Claim7.holds Tryd.pinned (.plain (OpenSpec.ofChange escapeTellsSpec)) escapeTellsCard

/-- THE TIED CARD OF 'tamislaw06.EscapeBack'. -/
def escapeBackCard : Claim7 := { stood := { row := escapeBackRow, standIns := [], harness := (true, "e3b9bbad75279f24e6a4afeb83c5b308dd1e5590a4ff30056f3d5db5772563b0"), looks := false }, kinds := [], alts := [], laidByText := true, laidKinds := [.data], laidTests := true, laidLooks := .later }
def EscapeBackCardSaid : Prop := Claim7.holds Tryd.pinned (.plain (OpenSpec.ofChange escapeBackSpec)) escapeBackCard

/-- THE TIED CARD OF 'tamislaw06.EscapePlain'. -/
def escapePlainCard : Claim7 := { stood := { row := escapePlainRow, standIns := [], harness := (true, "e3b9bbad75279f24e6a4afeb83c5b308dd1e5590a4ff30056f3d5db5772563b0"), looks := false }, kinds := [], alts := [], laidByText := true, laidKinds := [.data], laidTests := true, laidLooks := .later }
def EscapePlainCardSaid : Prop := Claim7.holds Tryd.pinned (.plain (OpenSpec.ofChange escapePlainSpec)) escapePlainCard

/-- THE TIED CARD OF 'tamislaw06.EscapeAhead'. -/
def escapeAheadCard : Claim7 := { stood := { row := escapeAheadRow, standIns := [], harness := (true, "e3b9bbad75279f24e6a4afeb83c5b308dd1e5590a4ff30056f3d5db5772563b0"), looks := false }, kinds := [], alts := [], laidByText := true, laidKinds := [.data], laidTests := true, laidLooks := .later }
def EscapeAheadCardSaid : Prop := Claim7.holds Tryd.pinned (.plain (OpenSpec.ofChange escapeAheadSpec)) escapeAheadCard

/-- THE TIED CARD OF 'tamislaw06.EscapeCounts'. -/
def escapeCountsCard : Claim7 := { stood := { row := escapeCountsRow, standIns := [], harness := (true, "e3b9bbad75279f24e6a4afeb83c5b308dd1e5590a4ff30056f3d5db5772563b0"), looks := false }, kinds := [], alts := [], laidByText := true, laidKinds := [.data], laidTests := true, laidLooks := .later }
def EscapeCountsCardSaid : Prop := Claim7.holds Tryd.pinned (.plain (OpenSpec.ofChange escapeCountsSpec)) escapeCountsCard

/-- THE SECOND FORM's CARD OF 'tamislaw06.EscapeTells'. -/
def escapeTellsUptoCard : Claim7 := { stood := { row := escapeTellsUptoRow, standIns := [], harness := (true, "e3b9bbad75279f24e6a4afeb83c5b308dd1e5590a4ff30056f3d5db5772563b0"), looks := false }, kinds := [], alts := [], laidByText := true, laidKinds := [.data], laidTests := true, laidLooks := .later }
def EscapeTellsUptoCardSaid : Prop := Claim7.holds Tryd.pinned (.plain (OpenSpec.upto escapeTellsSpec)) escapeTellsUptoCard

/-- THE SECOND FORM's CARD OF 'tamislaw06.EscapeBack'. -/
def escapeBackUptoCard : Claim7 := { stood := { row := escapeBackUptoRow, standIns := [], harness := (true, "e3b9bbad75279f24e6a4afeb83c5b308dd1e5590a4ff30056f3d5db5772563b0"), looks := false }, kinds := [], alts := [], laidByText := true, laidKinds := [.data], laidTests := true, laidLooks := .later }
def EscapeBackUptoCardSaid : Prop := Claim7.holds Tryd.pinned (.plain (OpenSpec.upto escapeBackSpec)) escapeBackUptoCard

/-- THE SECOND FORM's CARD OF 'tamislaw06.EscapePlain'. -/
def escapePlainUptoCard : Claim7 := { stood := { row := escapePlainUptoRow, standIns := [], harness := (true, "e3b9bbad75279f24e6a4afeb83c5b308dd1e5590a4ff30056f3d5db5772563b0"), looks := false }, kinds := [], alts := [], laidByText := true, laidKinds := [.data], laidTests := true, laidLooks := .later }
def EscapePlainUptoCardSaid : Prop := Claim7.holds Tryd.pinned (.plain (OpenSpec.upto escapePlainSpec)) escapePlainUptoCard

/-- THE SECOND FORM's CARD OF 'tamislaw06.EscapeAhead'. -/
def escapeAheadUptoCard : Claim7 := { stood := { row := escapeAheadUptoRow, standIns := [], harness := (true, "e3b9bbad75279f24e6a4afeb83c5b308dd1e5590a4ff30056f3d5db5772563b0"), looks := false }, kinds := [], alts := [], laidByText := true, laidKinds := [.data], laidTests := true, laidLooks := .later }
def EscapeAheadUptoCardSaid : Prop := Claim7.holds Tryd.pinned (.plain (OpenSpec.upto escapeAheadSpec)) escapeAheadUptoCard

/-- THE SECOND FORM's CARD OF 'tamislaw06.EscapeCounts'. -/
def escapeCountsUptoCard : Claim7 := { stood := { row := escapeCountsUptoRow, standIns := [], harness := (true, "e3b9bbad75279f24e6a4afeb83c5b308dd1e5590a4ff30056f3d5db5772563b0"), looks := false }, kinds := [], alts := [], laidByText := true, laidKinds := [.data], laidTests := true, laidLooks := .later }
def EscapeCountsUptoCardSaid : Prop := Claim7.holds Tryd.pinned (.plain (OpenSpec.upto escapeCountsSpec)) escapeCountsUptoCard
end Rows
end Go.Proofs.YtfnappdgiomiiaaDoor
