import Derived.Test.YtmjldphagbobpaaGreatDoorBas
set_option linter.unusedVariables false
set_option linter.unusedSimpArgs false
namespace Go.Proofs.YtmjldphagbobpaaGreatDoor
open _root_.Go.Proofs.Tryz renaming prog→p_
open Go.RowKit
def worthI (n:Int):Int:=if 48≤n∧n≤57 then n-48 else if 97≤n∧n≤122 then n-87 else if 65≤n∧n≤90 then n-55 else-1
def m5_ (n b:Int):Int:=if worthI n<b then worthI n else-1
def digitSpec:Spec
  | [.c (.int .u8 n),.c (.int .i64 b)]=>some (.c (.int .i64 (m5_ n b)),[0≤n,n<256])
  |_=>none
theorem rdigit_ok:x8_ p_ 94 digitSpec:=by
  refine w1_ mixed w4_ fun args r q hs hq=>?_
  unfold digitSpec at hs
  split at hs
  ·rename_i n b
   simp only[oi_]at hs
   obtain⟨rfl,rfl⟩:=hs
   obtain⟨h0,h1,_⟩:=hq
   have en:Int.ofNat n.toNat=n:=Int.toNat_of_nonneg h0
   by_cases hb:worthI n<b
   ·have e:m5_ n b=worthI n:=if_pos hb
    rw[e]
    have hall:(List.range 256).map (fun n=>y0_ p_ 94 (z9_ p_ cl0 ⟨false,bs [(37,false)]⟩ (y1_ []) 60 94 [.c (.int .u8 (Int.ofNat n)),.c (.int .i64 b)] []))=(List.range 256).map (fun n=>some (.c (.int .i64 (worthI (Int.ofNat n))),[decide (worthI (Int.ofNat n)≥b)=false])):=by kernel_rfl
    have hh:=byAll 256 hall n.toNat (by omega)
    simp only[en]at hh
    exact⟨_,y1_ [],60,_,z3_,hh,decide_eq_false (by omega),trivial⟩
   ·have e:m5_ n b= -1:=if_neg hb
    rw[e]
    have hall:(List.range 256).map (fun n=>y0_ p_ 94 (z9_ p_ cl0 ⟨false,bs [(37,true)]⟩ (y1_ []) 60 94 [.c (.int .u8 (Int.ofNat n)),.c (.int .i64 b)] []))=(List.range 256).map (fun n=>some (.c (.int .i64 (-1)),[decide (worthI (Int.ofNat n)≥b)=true])):=by kernel_rfl
    have hh:=byAll 256 hall n.toNat (by omega)
    simp only[en]at hh
    exact⟨_,y1_ [],60,_,z3_,hh,decide_eq_true (by omega),trivial⟩
  ·simp at hs
end Go.Proofs.YtmjldphagbobpaaGreatDoor
