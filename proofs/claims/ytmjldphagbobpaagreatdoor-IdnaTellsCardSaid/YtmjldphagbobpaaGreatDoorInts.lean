import Derived.Test.YtmjldphagbobpaaGreatDoorBas
set_option linter.unusedVariables false
set_option linter.unusedSimpArgs false
namespace Go.Proofs.YtmjldphagbobpaaGreatDoor
open Go.RowKit
def unI (l:List AV):List Int:=l.map fun x=>match x with
  | .c (.int .i64 n)=>n
  |_=>0
def z4_ (L:List Int):List AV:=L.map fun n=> .c (.int .i64 n)
abbrev ints (L:List Int):List AV:=z4_ L
abbrev unints (l:List AV):List Int:=unI l
theorem ints_length (L:List Int):(ints L).length=L.length:=by simp[z4_]
theorem v0_ (L:List Int):(z4_ L).length=L.length:=by simp[z4_]
theorem v8_ (L:List Int):unI (z4_ L)=L:=by
  unfold unI z4_
  rw[List.map_map]
  conv=>rhs;rw[←List.map_id L]
  apply List.map_congr_left
  intro n _
  rfl
theorem f8_ (L:List Int)(i:Nat)(h:i<L.length):((z4_ L).drop i).headD .any= .c (.int .i64 (L.getD i 0)):=by
  unfold z4_
  rw[←List.map_drop,List.drop_eq_getElem_cons h]
  simp[List.getD,h]
theorem ints_headD (a:List Int)(i:Nat)(h:i<a.length):((ints a).drop i).headD .any= .c (.int .i64 (a.getD i 0)):=f8_ a i h
end Go.Proofs.YtmjldphagbobpaaGreatDoor
