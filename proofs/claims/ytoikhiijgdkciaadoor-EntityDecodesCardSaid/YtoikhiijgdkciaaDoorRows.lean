/-
  NARROWER THAN 'FOR EVERY INPUT', by the rows' own cells (each row's printed sentence says how): EntityTells: laid · EntityDecodes: laid · EntityNumbers: laid · EntityNames: laid · EntityPlain: laid.
  DERIVED. THE GIVEN ROWS OF THIS SEAT. 5 by the template 'for every input the law returns true; each argument reads behind the call as it read before'; 0 by the template 'total and deterministic' (their statements: YtoikhiijgdkciaaDoorTotals.lean).
  GIVEN WITH THE SEED: the statements are not yours to turn. If you find one false, say at which input.
  Laid BY PROGRAM, IN A SANDBOX (cutbox-rows.mjs): the forced cells as the released guide's own fill.sh prints them over the translation 2dada248f1284124… (all of the seat's roots in one cut). By AI agents, Wed Nov 11 2026. No macro, syntax, notation, axiom, sorry.
-/
import Derived.Test.YtoikhiijgdkciaaDoorChecked
import GoSem.Claim
import GoSem.ClaimJoined
import GoSem.ClaimMapViews
import Derived.JoinedTies
import Derived.KernelRfl
namespace Go.Proofs.YtoikhiijgdkciaaDoor
/- THE CELL 'sum', in the pinned program and in every row, IS THE sha256 OF THE DUMP (.gsa) THAT YtoikhiijgdkciaaDoorProg.lean LOADS. Nothing in Lean hashes anything: it is a label: what it is worth is what the hold of that sum in a sandbox is worth. -/
noncomputable def Tryd.pinned : Pinned := { name := "ytoikhiijgdkciaadoor", sum := "2dada248f128412465ab10bf3ccf4aee9793855330120892b303f1e2664382cf", checked := Tryd.checked }
namespace Rows
def none {H : Type} : Left H := { results := [], args := [] }

/- WHAT THE LISTED PACKAGE-LEVEL VARIABLES READ AS WHEN THE CALL BEGINS. Each datum BY PROGRAM (the guide's laid-datum.mjs) off the statement by which the dump's own 'gosem.cut.vars' lays the variable. In a bare row this is a premise. The card (YtoikhiijgdkciaaDoorCards.lean) ties it to the program's text. -/
def laid_tamis_entity_moved {H : Type} : DataW H := .agg [.lit (.int .u16 8364), .lit (.int .u16 0), .lit (.int .u16 8218), .lit (.int .u16 402), .lit (.int .u16 8222), .lit (.int .u16 8230), .lit (.int .u16 8224), .lit (.int .u16 8225), .lit (.int .u16 710), .lit (.int .u16 8240), .lit (.int .u16 352), .lit (.int .u16 8249), .lit (.int .u16 338), .lit (.int .u16 0), .lit (.int .u16 381), .lit (.int .u16 0), .lit (.int .u16 0), .lit (.int .u16 8216), .lit (.int .u16 8217), .lit (.int .u16 8220), .lit (.int .u16 8221), .lit (.int .u16 8226), .lit (.int .u16 8211), .lit (.int .u16 8212), .lit (.int .u16 732), .lit (.int .u16 8482), .lit (.int .u16 353), .lit (.int .u16 8250), .lit (.int .u16 339), .lit (.int .u16 0), .lit (.int .u16 382), .lit (.int .u16 376)]

/-- 'tamislaw05.EntityTells': WHATEVER THE INPUT: true; the input reads as it did. -/
def entityTellsSpec : ChangeSpec := { name := "entityTells", fn := fun _ => fun
  | [d1, d2] => { results := [.lit (.bool true)], args := [d1, d2] }
  | _ => none }
def entityTellsRow : OpenClaim := { program := "ytoikhiijgdkciaadoor", sum := "2dada248f128412465ab10bf3ccf4aee9793855330120892b303f1e2664382cf", func := "tamis/tamislaw05.EntityTells", spec := "entityTells", inPlace := ["internal/abi.NoEscape", "internal/bytealg.MakeNoZero", "internal/bytealg.IndexByteString", "internal/bytealg.IndexString"], named := ["tamis/entity.moved", "internal/bytealg.MaxLen"], apart := false, laid := [("tamis/entity.moved", laid_tamis_entity_moved)] }
def EntityTellsSaid : Prop := entityTellsRow.holds Tryd.pinned (OpenSpec.ofChange entityTellsSpec)

/-- ITS FALSE NEIGHBOUR: 'it returns false'. Refute it at one input. -/
def entityTellsWrong : ChangeSpec := { name := "entityTells", fn := fun _ => fun
  | [d1, d2] => { results := [.lit (.bool false)], args := [d1, d2] }
  | _ => none }
def EntityTellsWrongFalsely : Prop := entityTellsRow.holds Tryd.pinned (OpenSpec.ofChange entityTellsWrong)

/-- 'tamislaw05.EntityDecodes': WHATEVER THE INPUT: true; the input reads as it did. -/
def entityDecodesSpec : ChangeSpec := { name := "entityDecodes", fn := fun _ => fun
  | [d] => { results := [.lit (.bool true)], args := [d] }
  | _ => none }
def entityDecodesRow : OpenClaim := { program := "ytoikhiijgdkciaadoor", sum := "2dada248f128412465ab10bf3ccf4aee9793855330120892b303f1e2664382cf", func := "tamis/tamislaw05.EntityDecodes", spec := "entityDecodes", inPlace := ["internal/abi.NoEscape", "internal/bytealg.MakeNoZero", "internal/bytealg.IndexByteString", "internal/bytealg.IndexString"], named := ["tamis/entity.moved", "internal/bytealg.MaxLen"], apart := false, laid := [("tamis/entity.moved", laid_tamis_entity_moved)] }
def EntityDecodesSaid : Prop := entityDecodesRow.holds Tryd.pinned (OpenSpec.ofChange entityDecodesSpec)

/-- ITS FALSE NEIGHBOUR: 'it returns false'. Refute it at one input. -/
def entityDecodesWrong : ChangeSpec := { name := "entityDecodes", fn := fun _ => fun
  | [d] => { results := [.lit (.bool false)], args := [d] }
  | _ => none }
def EntityDecodesWrongFalsely : Prop := entityDecodesRow.holds Tryd.pinned (OpenSpec.ofChange entityDecodesWrong)

/-- 'tamislaw05.EntityNumbers': WHATEVER THE INPUT: true; the input reads as it did. -/
def entityNumbersSpec : ChangeSpec := { name := "entityNumbers", fn := fun _ => fun
  | [d1, d2, d3, d4] => { results := [.lit (.bool true)], args := [d1, d2, d3, d4] }
  | _ => none }
def entityNumbersRow : OpenClaim := { program := "ytoikhiijgdkciaadoor", sum := "2dada248f128412465ab10bf3ccf4aee9793855330120892b303f1e2664382cf", func := "tamis/tamislaw05.EntityNumbers", spec := "entityNumbers", inPlace := ["internal/abi.NoEscape", "internal/bytealg.MakeNoZero", "internal/bytealg.IndexByteString", "internal/bytealg.IndexString"], named := ["tamis/entity.moved", "internal/bytealg.MaxLen"], apart := false, laid := [("tamis/entity.moved", laid_tamis_entity_moved)] }
def EntityNumbersSaid : Prop := entityNumbersRow.holds Tryd.pinned (OpenSpec.ofChange entityNumbersSpec)

/-- ITS FALSE NEIGHBOUR: 'it returns false'. Refute it at one input. -/
def entityNumbersWrong : ChangeSpec := { name := "entityNumbers", fn := fun _ => fun
  | [d1, d2, d3, d4] => { results := [.lit (.bool false)], args := [d1, d2, d3, d4] }
  | _ => none }
def EntityNumbersWrongFalsely : Prop := entityNumbersRow.holds Tryd.pinned (OpenSpec.ofChange entityNumbersWrong)

/-- 'tamislaw05.EntityNames': WHATEVER THE INPUT: true; the input reads as it did. -/
def entityNamesSpec : ChangeSpec := { name := "entityNames", fn := fun _ => fun
  | [d1, d2] => { results := [.lit (.bool true)], args := [d1, d2] }
  | _ => none }
def entityNamesRow : OpenClaim := { program := "ytoikhiijgdkciaadoor", sum := "2dada248f128412465ab10bf3ccf4aee9793855330120892b303f1e2664382cf", func := "tamis/tamislaw05.EntityNames", spec := "entityNames", inPlace := ["internal/abi.NoEscape", "internal/bytealg.MakeNoZero", "internal/bytealg.IndexByteString", "internal/bytealg.IndexString"], named := ["tamis/entity.moved", "internal/bytealg.MaxLen"], apart := false, laid := [("tamis/entity.moved", laid_tamis_entity_moved)] }
def EntityNamesSaid : Prop := entityNamesRow.holds Tryd.pinned (OpenSpec.ofChange entityNamesSpec)

/-- ITS FALSE NEIGHBOUR: 'it returns false'. Refute it at one input. -/
def entityNamesWrong : ChangeSpec := { name := "entityNames", fn := fun _ => fun
  | [d1, d2] => { results := [.lit (.bool false)], args := [d1, d2] }
  | _ => none }
def EntityNamesWrongFalsely : Prop := entityNamesRow.holds Tryd.pinned (OpenSpec.ofChange entityNamesWrong)

/-- 'tamislaw05.EntityPlain': WHATEVER THE INPUT: true; the input reads as it did. -/
def entityPlainSpec : ChangeSpec := { name := "entityPlain", fn := fun _ => fun
  | [d1, d2, d3] => { results := [.lit (.bool true)], args := [d1, d2, d3] }
  | _ => none }
def entityPlainRow : OpenClaim := { program := "ytoikhiijgdkciaadoor", sum := "2dada248f128412465ab10bf3ccf4aee9793855330120892b303f1e2664382cf", func := "tamis/tamislaw05.EntityPlain", spec := "entityPlain", inPlace := ["internal/abi.NoEscape", "internal/bytealg.MakeNoZero", "internal/bytealg.IndexByteString", "internal/bytealg.IndexString"], named := ["tamis/entity.moved", "internal/bytealg.MaxLen"], apart := false, laid := [("tamis/entity.moved", laid_tamis_entity_moved)] }
def EntityPlainSaid : Prop := entityPlainRow.holds Tryd.pinned (OpenSpec.ofChange entityPlainSpec)

/-- ITS FALSE NEIGHBOUR: 'it returns false'. Refute it at one input. -/
def entityPlainWrong : ChangeSpec := { name := "entityPlain", fn := fun _ => fun
  | [d1, d2, d3] => { results := [.lit (.bool false)], args := [d1, d2, d3] }
  | _ => none }
def EntityPlainWrongFalsely : Prop := entityPlainRow.holds Tryd.pinned (OpenSpec.ofChange entityPlainWrong)

/- THE SECOND FORM. 'bulk': how many values and letters a reading holds, each counted each time it is reached (what is shared counts as often as it is met; a slice's spare places count too). A statement '..UptoSaid' is the law's where the arguments, and the package variables that the reading takes, are together of bulk at most 1048576: NARROWER than '..Said'. Prove '..Said' where nothing that the law and all that it calls make is longer than what came in: it says more and counts as full. Else prove '..UptoSaid'. A law counts once. -/
mutual
def uptoBulk {H : Type} : DataW H → Nat
  | .lit (.string bytes) => bytes.length + 1
  | .lit _ => 1
  | .nil => 1
  | .ptr d => uptoBulk d + 1
  | .slice elems spare => uptoBulkAll elems + uptoBulkAll spare + 1
  | .agg parts => uptoBulkAll parts + 1
  | .iface _ d => uptoBulk d + 1
  | .map entries => uptoBulkEntries entries + 1
  | .held _ => 1
def uptoBulkAll {H : Type} : List (DataW H) → Nat
  | [] => 0
  | d :: r => uptoBulk d + uptoBulkAll r
def uptoBulkEntries {H : Type} : List (Lit × DataW H) → Nat
  | [] => 0
  | x :: r => uptoBulkEntry x + uptoBulkEntries r
def uptoBulkEntry {H : Type} : Lit × DataW H → Nat
  | (.string bytes, d) => bytes.length + uptoBulk d + 1
  | (_, d) => uptoBulk d + 1
 end
def uptoSmall : (H : Type) → List (DataW H) → Bool := fun _ ds => decide (uptoBulkAll ds ≤ 1048576)
def OpenSpec.upto (s : _root_.Go.ChangeSpec) : _root_.Go.OpenSpec := { _root_.Go.OpenSpec.ofChange s with cond := some uptoSmall }

/-- 'tamislaw05.EntityTells', WHERE WHAT IT READS IS OF BULK AT MOST 1048576: true; the input reads as it did. -/
def entityTellsUptoRow : OpenClaim := { program := "ytoikhiijgdkciaadoor", sum := "2dada248f128412465ab10bf3ccf4aee9793855330120892b303f1e2664382cf", func := "tamis/tamislaw05.EntityTells", spec := "entityTells", inPlace := ["internal/abi.NoEscape", "internal/bytealg.MakeNoZero", "internal/bytealg.IndexByteString", "internal/bytealg.IndexString"], named := ["tamis/entity.moved", "internal/bytealg.MaxLen"], apart := false, laid := [("tamis/entity.moved", laid_tamis_entity_moved)], narrowed := true }
def EntityTellsUptoSaid : Prop := entityTellsUptoRow.holds Tryd.pinned (OpenSpec.upto entityTellsSpec)

/-- 'tamislaw05.EntityDecodes', WHERE WHAT IT READS IS OF BULK AT MOST 1048576: true; the input reads as it did. -/
def entityDecodesUptoRow : OpenClaim := { program := "ytoikhiijgdkciaadoor", sum := "2dada248f128412465ab10bf3ccf4aee9793855330120892b303f1e2664382cf", func := "tamis/tamislaw05.EntityDecodes", spec := "entityDecodes", inPlace := ["internal/abi.NoEscape", "internal/bytealg.MakeNoZero", "internal/bytealg.IndexByteString", "internal/bytealg.IndexString"], named := ["tamis/entity.moved", "internal/bytealg.MaxLen"], apart := false, laid := [("tamis/entity.moved", laid_tamis_entity_moved)], narrowed := true }
def EntityDecodesUptoSaid : Prop := entityDecodesUptoRow.holds Tryd.pinned (OpenSpec.upto entityDecodesSpec)

/-- 'tamislaw05.EntityNumbers', WHERE WHAT IT READS IS OF BULK AT MOST 1048576: true; the input reads as it did. -/
def entityNumbersUptoRow : OpenClaim := { program := "ytoikhiijgdkciaadoor", sum := "2dada248f128412465ab10bf3ccf4aee9793855330120892b303f1e2664382cf", func := "tamis/tamislaw05.EntityNumbers", spec := "entityNumbers", inPlace := ["internal/abi.NoEscape", "internal/bytealg.MakeNoZero", "internal/bytealg.IndexByteString", "internal/bytealg.IndexString"], named := ["tamis/entity.moved", "internal/bytealg.MaxLen"], apart := false, laid := [("tamis/entity.moved", laid_tamis_entity_moved)], narrowed := true }
def EntityNumbersUptoSaid : Prop := entityNumbersUptoRow.holds Tryd.pinned (OpenSpec.upto entityNumbersSpec)

/-- 'tamislaw05.EntityNames', WHERE WHAT IT READS IS OF BULK AT MOST 1048576: true; the input reads as it did. -/
def entityNamesUptoRow : OpenClaim := { program := "ytoikhiijgdkciaadoor", sum := "2dada248f128412465ab10bf3ccf4aee9793855330120892b303f1e2664382cf", func := "tamis/tamislaw05.EntityNames", spec := "entityNames", inPlace := ["internal/abi.NoEscape", "internal/bytealg.MakeNoZero", "internal/bytealg.IndexByteString", "internal/bytealg.IndexString"], named := ["tamis/entity.moved", "internal/bytealg.MaxLen"], apart := false, laid := [("tamis/entity.moved", laid_tamis_entity_moved)], narrowed := true }
def EntityNamesUptoSaid : Prop := entityNamesUptoRow.holds Tryd.pinned (OpenSpec.upto entityNamesSpec)

/-- 'tamislaw05.EntityPlain', WHERE WHAT IT READS IS OF BULK AT MOST 1048576: true; the input reads as it did. -/
def entityPlainUptoRow : OpenClaim := { program := "ytoikhiijgdkciaadoor", sum := "2dada248f128412465ab10bf3ccf4aee9793855330120892b303f1e2664382cf", func := "tamis/tamislaw05.EntityPlain", spec := "entityPlain", inPlace := ["internal/abi.NoEscape", "internal/bytealg.MakeNoZero", "internal/bytealg.IndexByteString", "internal/bytealg.IndexString"], named := ["tamis/entity.moved", "internal/bytealg.MaxLen"], apart := false, laid := [("tamis/entity.moved", laid_tamis_entity_moved)], narrowed := true }
def EntityPlainUptoSaid : Prop := entityPlainUptoRow.holds Tryd.pinned (OpenSpec.upto entityPlainSpec)

end Rows
end Go.Proofs.YtoikhiijgdkciaaDoor
