import Derived.Test.YtmjldphagbobpaaDoorBas
import Derived.Lib.LaidU8T
import Derived.Test.YtmjldphagbobpaaDoorTie
import Derived.Test.YtmjldphagbobpaaDoorCards
import Derived.ProofKit
import Derived.LaidMore
import Derived.OpenShut
import Derived.Stop.Joined
import Derived.Lib.LaidIn
import Derived.ChangeOld
import Derived.Below
set_option linter.unusedVariables false
set_option linter.unusedSimpArgs false
namespace Go.Proofs.YtmjldphagbobpaaDoor
open _root_.Go.Proofs.Tryd renaming prog→p_
open Go.Proofs Go.Shelf Go.ChangeShapes Go.WideShapes Go.ChangeAt Go.RowKit
theorem own:ownKnob p_.godebug=none:=by kernel_rfl
abbrev tabL:List (String×DataW Unit):=Rows.idnaMapsRow.laid
noncomputable def tabW (os:Os):World:=
  let w0:=World.holding p_ os ⟨#[],#[],[]⟩
  let put (h:Array Obj) (g:Nat) (cs:Array Value):Array Obj:=h.modify g fun
    | .cells _ t frozen=> .cells cs t frozen
    |o=>o
  let h1:=put w0.heap 0 (Lib.firstTab.map fun z=>Value.int .u8 z).toArray
  let h2:=put h1 1 ((List.range 16).flatMap fun i=>[Value.int .u8 (Lib.accLo i),Value.int .u8 (Lib.accHi i)]).toArray
  { w0 with heap:=h2}
theorem tab_met (os:Os)(args:Array Value):laidMetH p_ tabL ((tabW os).forCall (fun _ _=>0) ⟨#[],args,[]⟩).memory:=
  laidMetH_of_parts3 (fuel:=8) (laidMet_of_run' 8 (by kernel_rfl) (by kernel_rfl)) (by kernel_rfl) (by kernel_rfl)
theorem tabs_first:Rows.laid_unicode_utf8_first=Lib.firstData:=by kernel_rfl
theorem tabs_accept:(Rows.laid_unicode_utf8_acceptRanges:DataW Unit)=Lib.acceptData:=by kernel_rfl
def renU:Go.Shelf.Ren:=⟨fun x=>x,fun x=>if x=5 then 5 else if x=119 then 85 else if x=138 then 87 else 88,fun x=>if x=3 then 0 else 1⟩
theorem tabs_laid {W:World}(h:laidMetH p_ tabL W):Lib.Utf8Tabs 0 1 W:=by
  rw[MakeChecks.laidMetH_plain _ _ _ (by kernel_rfl)]at h
  have h1:=Lib.laidMet.reads h (.head _)
  have h2:=Lib.laidMet.reads h (.tail _ (.head _))
  rw[tabs_accept]at h1
  rw[tabs_first]at h2
  exact open Go.Lib in utf8Tabs_of_readsT (ρ:=renU) ⟨by kernel_rfl,by kernel_rfl,by kernel_rfl,by kernel_rfl⟩ ⟨by kernel_rfl,by kernel_rfl,by kernel_rfl,by kernel_rfl,by kernel_rfl,by kernel_rfl,by kernel_rfl⟩ h2 h1
theorem glOK_laid {W:World}(h:laidMetH p_ tabL W):GlOK p_ W:=glOK_of fun x hx=>(List.mem_append.1 hx).elim (glU (tabs_laid h) x) (fun h=>by cases h)
end Go.Proofs.YtmjldphagbobpaaDoor
