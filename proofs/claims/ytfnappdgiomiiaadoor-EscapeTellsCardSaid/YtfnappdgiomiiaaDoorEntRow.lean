/- The world in which the rows' table lies; what a listed table gives. -/
import Derived.Test.YtfnappdgiomiiaaDoorBas
import Derived.Test.YtfnappdgiomiiaaDoorTie
import Derived.Test.YtfnappdgiomiiaaDoorCards
import Derived.ProofKit
import Derived.LaidMore
import Derived.OpenShut
import Derived.Stop.Joined
import Derived.Lib.LaidIn
import Derived.Lib.LaidU8
import Derived.ChangeOld
import Derived.Below
namespace Go.Proofs.YtfnappdgiomiiaaDoor
open Go.Proofs Go.Shelf Go.ChangeShapes Go.WideShapes Go.ChangeAt Go.RowKit
set_option linter.unusedSimpArgs false
set_option linter.unusedVariables false

theorem own : ownKnob Tryd.prog.godebug = none := by kernel_rfl

/-- The table of the rows. -/
abbrev tabL : List (String × DataW Unit) := Rows.escapeTellsRow.laid

noncomputable def tabW (os : Os) : World :=
  let w0 := World.holding Tryd.prog os ⟨#[], #[], []⟩
  let put (h : Array Obj) (g : Nat) (cs : Array Value) : Array Obj := h.modify g fun
    | .cells _ t frozen => .cells cs t frozen
    | o => o
  { w0 with heap := put w0.heap 1 (movedZ.map fun z => Value.int .u16 z).toArray }

theorem tab_met (os : Os) (args : Array Value) : laidMetH Tryd.prog tabL ((tabW os).forCall (fun _ _ => 0) ⟨#[], args, []⟩).memory :=
  laidMetH_of_parts3 (fuel := 8) (laidMet_of_run' 8 (by kernel_rfl) (by kernel_rfl)) (by kernel_rfl) (by kernel_rfl)

theorem tab_moved : (Rows.laid_tamis_entity_moved : DataW Unit) = Lib.tabData .u16 movedZ := by kernel_rfl

theorem glOK_laid {W : World} (h : laidMetH Tryd.prog tabL W) : GlOK Tryd.prog W := by
  rw [MakeChecks.laidMetH_plain _ _ _ (by kernel_rfl)] at h
  have h1 := Lib.laidMet.reads h (.head _)
  rw [tab_moved] at h1
  obtain ⟨g, t, cs, fuel, p, hg, hty, hvar, hd⟩ := h1
  have hg2 : Tryd.prog.globalNamed "tamis/entity.moved" = some 1 := by kernel_rfl
  obtain rfl := Option.some.inj (hg2.symm.trans hg)
  obtain rfl := Option.some.inj ((show (Tryd.prog.globals[1]?).map (·.type) = some 66 by kernel_rfl).symm.trans hty)
  have hcs := Lib.cells_of_tab (n := 32) Tryd.underlying66 Tryd.underlying65 (by kernel_rfl) (by kernel_rfl) hd
  refine glOK_of fun x hx => ?_
  rcases List.mem_append.1 hx with hx | hx
  · cases hx
  · obtain rfl := List.mem_singleton.1 hx
    refine glAt_ints (by decide) fun j hj => ?_
    rw [World.var?_cell hg2 hvar j, ← Array.getElem?_toList, hcs]
    simp [List.getD, hj]

end Go.Proofs.YtfnappdgiomiiaaDoor
