/-
  NARROWER THAN 'FOR EVERY INPUT', by the rows' own cells (each row's printed sentence says how): EscapeTells: laid · EscapeBack: laid · EscapePlain: laid · EscapeAhead: laid · EscapeCounts: laid.
  DERIVED. THE GIVEN ROWS OF THIS SEAT. 5 by the template 'for every input the law returns true; each argument reads behind the call as it read before'; 0 by the template 'total and deterministic' (their statements: YtfnappdgiomiiaaDoorTotals.lean).
  GIVEN WITH THE SEED: the statements are not yours to turn. If you find one false, say at which input.
  Laid BY PROGRAM, IN A SANDBOX (cutbox-rows.mjs): the forced cells as the released guide's own fill.sh prints them over the translation 9583528934064e3b… (all of the seat's roots in one cut). By AI agents, Wed Nov 11 2026. No macro, syntax, notation, axiom, sorry.
-/
import Derived.Test.YtfnappdgiomiiaaDoorChecked
import GoSem.Claim
import GoSem.ClaimJoined
import GoSem.ClaimMapViews
import Derived.JoinedTies
import Derived.KernelRfl
namespace Go.Proofs.YtfnappdgiomiiaaDoor
/- THE CELL 'sum', in the pinned program and in every row, IS THE sha256 OF THE DUMP (.gsa) THAT YtfnappdgiomiiaaDoorProg.lean LOADS. Nothing in Lean hashes anything: it is a label: what it is worth is what the hold of that sum in a sandbox is worth. -/
noncomputable def Tryd.pinned : Pinned := { name := "ytfnappdgiomiiaadoor", sum := "9583528934064e3bb2f64b5c6b0b345d203be016fafdc4da3b27604c9629e740", checked := Tryd.checked }
namespace Rows
def none {H : Type} : Left H := { results := [], args := [] }

/- WHAT THE LISTED PACKAGE-LEVEL VARIABLES READ AS WHEN THE CALL BEGINS. Each datum BY PROGRAM (the guide's laid-datum.mjs) off the statement by which the dump's own 'gosem.cut.vars' lays the variable. In a bare row this is a premise. The card (YtfnappdgiomiiaaDoorCards.lean) ties it to the program's text. -/
def laid_tamis_entity_moved {H : Type} : DataW H := .agg [.lit (.int .u16 8364), .lit (.int .u16 0), .lit (.int .u16 8218), .lit (.int .u16 402), .lit (.int .u16 8222), .lit (.int .u16 8230), .lit (.int .u16 8224), .lit (.int .u16 8225), .lit (.int .u16 710), .lit (.int .u16 8240), .lit (.int .u16 352), .lit (.int .u16 8249), .lit (.int .u16 338), .lit (.int .u16 0), .lit (.int .u16 381), .lit (.int .u16 0), .lit (.int .u16 0), .lit (.int .u16 8216), .lit (.int .u16 8217), .lit (.int .u16 8220), .lit (.int .u16 8221), .lit (.int .u16 8226), .lit (.int .u16 8211), .lit (.int .u16 8212), .lit (.int .u16 732), .lit (.int .u16 8482), .lit (.int .u16 353), .lit (.int .u16 8250), .lit (.int .u16 339), .lit (.int .u16 0), .lit (.int .u16 382), .lit (.int .u16 376)]

/-- 'tamislaw06.EscapeTells': WHATEVER THE INPUT: true; the input reads as it did. -/
def escapeTellsSpec : ChangeSpec := { name := "escapeTells", fn := fun _ => fun
  | [d1, d2] => { results := [.lit (.bool true)], args := [d1, d2] }
  | _ => none }
def escapeTellsRow : OpenClaim := { program := "ytfnappdgiomiiaadoor", sum := "9583528934064e3bb2f64b5c6b0b345d203be016fafdc4da3b27604c9629e740", func := "tamis/tamislaw06.EscapeTells", spec := "escapeTells", inPlace := ["internal/abi.NoEscape", "internal/bytealg.MakeNoZero", "internal/bytealg.IndexByteString", "internal/bytealg.IndexString"], named := ["internal/bytealg.MaxLen", "tamis/entity.moved"], apart := false, laid := [("tamis/entity.moved", laid_tamis_entity_moved)] }
def EscapeTellsSaid : Prop := escapeTellsRow.holds Tryd.pinned (OpenSpec.ofChange escapeTellsSpec)

/-- ITS FALSE NEIGHBOUR: 'it returns false'. Refute it at one input. -/
def escapeTellsWrong : ChangeSpec := { name := "escapeTells", fn := fun _ => fun
  | [d1, d2] => { results := [.lit (.bool false)], args := [d1, d2] }
  | _ => none }
def EscapeTellsWrongFalsely : Prop := escapeTellsRow.holds Tryd.pinned (OpenSpec.ofChange escapeTellsWrong)

/-- 'tamislaw06.EscapeBack': WHATEVER THE INPUT: true; the input reads as it did. -/
def escapeBackSpec : ChangeSpec := { name := "escapeBack", fn := fun _ => fun
  | [d1, d2] => { results := [.lit (.bool true)], args := [d1, d2] }
  | _ => none }
def escapeBackRow : OpenClaim := { program := "ytfnappdgiomiiaadoor", sum := "9583528934064e3bb2f64b5c6b0b345d203be016fafdc4da3b27604c9629e740", func := "tamis/tamislaw06.EscapeBack", spec := "escapeBack", inPlace := ["internal/abi.NoEscape", "internal/bytealg.MakeNoZero", "internal/bytealg.IndexByteString", "internal/bytealg.IndexString"], named := ["internal/bytealg.MaxLen", "tamis/entity.moved"], apart := false, laid := [("tamis/entity.moved", laid_tamis_entity_moved)] }
def EscapeBackSaid : Prop := escapeBackRow.holds Tryd.pinned (OpenSpec.ofChange escapeBackSpec)

/-- ITS FALSE NEIGHBOUR: 'it returns false'. Refute it at one input. -/
def escapeBackWrong : ChangeSpec := { name := "escapeBack", fn := fun _ => fun
  | [d1, d2] => { results := [.lit (.bool false)], args := [d1, d2] }
  | _ => none }
def EscapeBackWrongFalsely : Prop := escapeBackRow.holds Tryd.pinned (OpenSpec.ofChange escapeBackWrong)

/-- 'tamislaw06.EscapePlain': WHATEVER THE INPUT: true; the input reads as it did. -/
def escapePlainSpec : ChangeSpec := { name := "escapePlain", fn := fun _ => fun
  | [d] => { results := [.lit (.bool true)], args := [d] }
  | _ => none }
def escapePlainRow : OpenClaim := { program := "ytfnappdgiomiiaadoor", sum := "9583528934064e3bb2f64b5c6b0b345d203be016fafdc4da3b27604c9629e740", func := "tamis/tamislaw06.EscapePlain", spec := "escapePlain", inPlace := ["internal/abi.NoEscape", "internal/bytealg.MakeNoZero", "internal/bytealg.IndexByteString", "internal/bytealg.IndexString"], named := ["internal/bytealg.MaxLen", "tamis/entity.moved"], apart := false, laid := [("tamis/entity.moved", laid_tamis_entity_moved)] }
def EscapePlainSaid : Prop := escapePlainRow.holds Tryd.pinned (OpenSpec.ofChange escapePlainSpec)

/-- ITS FALSE NEIGHBOUR: 'it returns false'. Refute it at one input. -/
def escapePlainWrong : ChangeSpec := { name := "escapePlain", fn := fun _ => fun
  | [d] => { results := [.lit (.bool false)], args := [d] }
  | _ => none }
def EscapePlainWrongFalsely : Prop := escapePlainRow.holds Tryd.pinned (OpenSpec.ofChange escapePlainWrong)

/-- 'tamislaw06.EscapeAhead': WHATEVER THE INPUT: true; the input reads as it did. -/
def escapeAheadSpec : ChangeSpec := { name := "escapeAhead", fn := fun _ => fun
  | [d1, d2, d3] => { results := [.lit (.bool true)], args := [d1, d2, d3] }
  | _ => none }
def escapeAheadRow : OpenClaim := { program := "ytfnappdgiomiiaadoor", sum := "9583528934064e3bb2f64b5c6b0b345d203be016fafdc4da3b27604c9629e740", func := "tamis/tamislaw06.EscapeAhead", spec := "escapeAhead", inPlace := ["internal/abi.NoEscape", "internal/bytealg.MakeNoZero", "internal/bytealg.IndexByteString", "internal/bytealg.IndexString"], named := ["internal/bytealg.MaxLen", "tamis/entity.moved"], apart := false, laid := [("tamis/entity.moved", laid_tamis_entity_moved)] }
def EscapeAheadSaid : Prop := escapeAheadRow.holds Tryd.pinned (OpenSpec.ofChange escapeAheadSpec)

/-- ITS FALSE NEIGHBOUR: 'it returns false'. Refute it at one input. -/
def escapeAheadWrong : ChangeSpec := { name := "escapeAhead", fn := fun _ => fun
  | [d1, d2, d3] => { results := [.lit (.bool false)], args := [d1, d2, d3] }
  | _ => none }
def EscapeAheadWrongFalsely : Prop := escapeAheadRow.holds Tryd.pinned (OpenSpec.ofChange escapeAheadWrong)

/-- 'tamislaw06.EscapeCounts': WHATEVER THE INPUT: true; the input reads as it did. -/
def escapeCountsSpec : ChangeSpec := { name := "escapeCounts", fn := fun _ => fun
  | [d] => { results := [.lit (.bool true)], args := [d] }
  | _ => none }
def escapeCountsRow : OpenClaim := { program := "ytfnappdgiomiiaadoor", sum := "9583528934064e3bb2f64b5c6b0b345d203be016fafdc4da3b27604c9629e740", func := "tamis/tamislaw06.EscapeCounts", spec := "escapeCounts", inPlace := ["internal/abi.NoEscape", "internal/bytealg.MakeNoZero", "internal/bytealg.IndexByteString", "internal/bytealg.IndexString"], named := ["internal/bytealg.MaxLen", "tamis/entity.moved"], apart := false, laid := [("tamis/entity.moved", laid_tamis_entity_moved)] }
def EscapeCountsSaid : Prop := escapeCountsRow.holds Tryd.pinned (OpenSpec.ofChange escapeCountsSpec)

/-- ITS FALSE NEIGHBOUR: 'it returns false'. Refute it at one input. -/
def escapeCountsWrong : ChangeSpec := { name := "escapeCounts", fn := fun _ => fun
  | [d] => { results := [.lit (.bool false)], args := [d] }
  | _ => none }
def EscapeCountsWrongFalsely : Prop := escapeCountsRow.holds Tryd.pinned (OpenSpec.ofChange escapeCountsWrong)

/- THE SECOND FORM. 'bulk': how many values and letters a reading holds, each counted each time it is reached (what is shared counts as often as it is met; a slice's spare places count too). A statement '..UptoSaid' is the law's where the arguments, and the package variables that the reading takes, are together of bulk at most 1048576: NARROWER than '..Said'. Prove '..Said' where nothing that the law and all that it calls make is longer than what came in: it says more and counts as full. Else prove '..UptoSaid'. A law counts once. -/
mutual
def uptoBulk {H : Type} : DataW H → Nat
  | .lit (.string bytes) => bytes.length + 1
  | .lit _ => 1
  | .nil => 1
  | .ptr d => uptoBulk d + 1
  | .slice elems spare => uptoBulkAll elems + uptoBulkAll spare + 1
  | .agg parts => uptoBulkAll parts + 1
  | .iface _ d => uptoBulk d + 1
  | .map entries => uptoBulkEntries entries + 1
  | .held _ => 1
def uptoBulkAll {H : Type} : List (DataW H) → Nat
  | [] => 0
  | d :: r => uptoBulk d + uptoBulkAll r
def uptoBulkEntries {H : Type} : List (Lit × DataW H) → Nat
  | [] => 0
  | x :: r => uptoBulkEntry x + uptoBulkEntries r
def uptoBulkEntry {H : Type} : Lit × DataW H → Nat
  | (.string bytes, d) => bytes.length + uptoBulk d + 1
  | (_, d) => uptoBulk d + 1
 end
def uptoSmall : (H : Type) → List (DataW H) → Bool := fun _ ds => decide (uptoBulkAll ds ≤ 1048576)
def OpenSpec.upto (s : _root_.Go.ChangeSpec) : _root_.Go.OpenSpec := { _root_.Go.OpenSpec.ofChange s with cond := some uptoSmall }

/-- 'tamislaw06.EscapeTells', WHERE WHAT IT READS IS OF BULK AT MOST 1048576: true; the input reads as it did. -/
def escapeTellsUptoRow : OpenClaim := { program := "ytfnappdgiomiiaadoor", sum := "9583528934064e3bb2f64b5c6b0b345d203be016fafdc4da3b27604c9629e740", func := "tamis/tamislaw06.EscapeTells", spec := "escapeTells", inPlace := ["internal/abi.NoEscape", "internal/bytealg.MakeNoZero", "internal/bytealg.IndexByteString", "internal/bytealg.IndexString"], named := ["internal/bytealg.MaxLen", "tamis/entity.moved"], apart := false, laid := [("tamis/entity.moved", laid_tamis_entity_moved)], narrowed := true }
def EscapeTellsUptoSaid : Prop := escapeTellsUptoRow.holds Tryd.pinned (OpenSpec.upto escapeTellsSpec)

/-- 'tamislaw06.EscapeBack', WHERE WHAT IT READS IS OF BULK AT MOST 1048576: true; the input reads as it did. -/
def escapeBackUptoRow : OpenClaim := { program := "ytfnappdgiomiiaadoor", sum := "9583528934064e3bb2f64b5c6b0b345d203be016fafdc4da3b27604c9629e740", func := "tamis/tamislaw06.EscapeBack", spec := "escapeBack", inPlace := ["internal/abi.NoEscape", "internal/bytealg.MakeNoZero", "internal/bytealg.IndexByteString", "internal/bytealg.IndexString"], named := ["internal/bytealg.MaxLen", "tamis/entity.moved"], apart := false, laid := [("tamis/entity.moved", laid_tamis_entity_moved)], narrowed := true }
def EscapeBackUptoSaid : Prop := escapeBackUptoRow.holds Tryd.pinned (OpenSpec.upto escapeBackSpec)

/-- 'tamislaw06.EscapePlain', WHERE WHAT IT READS IS OF BULK AT MOST 1048576: true; the input reads as it did. -/
def escapePlainUptoRow : OpenClaim := { program := "ytfnappdgiomiiaadoor", sum := "9583528934064e3bb2f64b5c6b0b345d203be016fafdc4da3b27604c9629e740", func := "tamis/tamislaw06.EscapePlain", spec := "escapePlain", inPlace := ["internal/abi.NoEscape", "internal/bytealg.MakeNoZero", "internal/bytealg.IndexByteString", "internal/bytealg.IndexString"], named := ["internal/bytealg.MaxLen", "tamis/entity.moved"], apart := false, laid := [("tamis/entity.moved", laid_tamis_entity_moved)], narrowed := true }
def EscapePlainUptoSaid : Prop := escapePlainUptoRow.holds Tryd.pinned (OpenSpec.upto escapePlainSpec)

/-- 'tamislaw06.EscapeAhead', WHERE WHAT IT READS IS OF BULK AT MOST 1048576: true; the input reads as it did. -/
def escapeAheadUptoRow : OpenClaim := { program := "ytfnappdgiomiiaadoor", sum := "9583528934064e3bb2f64b5c6b0b345d203be016fafdc4da3b27604c9629e740", func := "tamis/tamislaw06.EscapeAhead", spec := "escapeAhead", inPlace := ["internal/abi.NoEscape", "internal/bytealg.MakeNoZero", "internal/bytealg.IndexByteString", "internal/bytealg.IndexString"], named := ["internal/bytealg.MaxLen", "tamis/entity.moved"], apart := false, laid := [("tamis/entity.moved", laid_tamis_entity_moved)], narrowed := true }
def EscapeAheadUptoSaid : Prop := escapeAheadUptoRow.holds Tryd.pinned (OpenSpec.upto escapeAheadSpec)

/-- 'tamislaw06.EscapeCounts', WHERE WHAT IT READS IS OF BULK AT MOST 1048576: true; the input reads as it did. -/
def escapeCountsUptoRow : OpenClaim := { program := "ytfnappdgiomiiaadoor", sum := "9583528934064e3bb2f64b5c6b0b345d203be016fafdc4da3b27604c9629e740", func := "tamis/tamislaw06.EscapeCounts", spec := "escapeCounts", inPlace := ["internal/abi.NoEscape", "internal/bytealg.MakeNoZero", "internal/bytealg.IndexByteString", "internal/bytealg.IndexString"], named := ["internal/bytealg.MaxLen", "tamis/entity.moved"], apart := false, laid := [("tamis/entity.moved", laid_tamis_entity_moved)], narrowed := true }
def EscapeCountsUptoSaid : Prop := escapeCountsUptoRow.holds Tryd.pinned (OpenSpec.upto escapeCountsSpec)

end Rows
end Go.Proofs.YtfnappdgiomiiaaDoor
