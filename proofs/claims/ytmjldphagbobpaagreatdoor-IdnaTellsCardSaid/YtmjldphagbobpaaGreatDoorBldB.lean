import Derived.Test.YtmjldphagbobpaaGreatDoorGrowB
set_option linter.unusedVariables false
set_option linter.unusedSimpArgs false
namespace Go.Proofs.YtmjldphagbobpaaGreatDoor
open IntKind (i64 u8 i32 u32 u64)
open _root_.Go.Proofs.Tryz renaming prog→p_
open Go.RowKit
set_option maxRecDepth 100000
noncomputable def hsg3:HSpecs:=n0_ [(58,growSpec)]
noncomputable def cl3:CallT:=q7_ p_ (t4_ []) hsg3 500 8
theorem cl3_ok:x3_ p_ cl3:=s1_ mixed w3_ (w9_ grow_ok s5_) 500 8
noncomputable def gro_X (n:Int)(h_:List (Nat×Bool)):=x0_ [] (z9_ p_ cl3 ⟨true,bs h_++([])⟩ (y1_ ([])) 60 37 ([.pt 0 0,.c (.int .i64 n)]) ([some ⟨43,true,[.c (.pointer none),.c (.slice none 0 0)]⟩]))
theorem gro_1 (n:Int):gro_X n [(7,false),(21,true)]=some ((AV.tu []),[(.some ⟨43,true,[(AV.pt 0 0),
 (AV.sl 1 0 0)]⟩),
 (.some ⟨5,false,[]⟩)],[decide ((n:Int)<0)=false,
 (((0:Nat):Nat)<((1:Nat))),
 (((0:Nat):Nat)<((1:Nat))),
 (i64.min:Int)≤↑(0:Nat)-↑(0:Nat),
 (↑(0:Nat)-↑(0:Nat):Int)≤i64.max,
 decide ((↑(0:Nat)-↑(0:Nat):Int)<n)=true,
 (0:Int)≤n,
 (n:Int)≤281474976710656]):=by kernel_rfl
theorem gro_all (n:Int)(h1:0<n)(h2:n≤281474976710656):∃(h:Hints) (p:List Prop),x0_ [] (z9_ p_ cl3 h (y1_ ([])) 60 37 ([.pt 0 0,.c (.int .i64 n)]) ([some ⟨43,true,[.c (.pointer none),.c (.slice none 0 0)]⟩]))=some (.tu [],[some ⟨43,true,[.pt 0 0,.sl 1 0 0]⟩,some ⟨5,false,[]⟩],p)∧z7_ p:=by
  have eR:=gro_1 n
  refine⟨_,_,eR.trans (congrArg (fun r:AV×Heap=>some (r.1,r.2,_)) (a₁:=(_,_)) (a₂:=(_,_)) ?_),?_⟩
  ·rfl
  ·try simp only[dz]at*
   try simp(disch:=omega) only[std,u3_,u6_]
   repeat' apply And.intro
   all_goals first|exact True.intro|omega|assumption|rfl|exact x5_ _
def groSpec:HSpec
  | [.pt 0 0,.c (.int .i64 n)],[some ⟨t,true,[.c (.pointer none),.c (.slice none 0 0)]⟩]=>if t=43 then
      some (.tu [],[some ⟨43,true,[.pt 0 0,.sl 1 0 0]⟩,some ⟨5,false,[]⟩],[0<n,n≤281474976710656])else none
  |_,_=>none
theorem gro_ok:u1_ p_ 37 groSpec:=by
  refine m1_ mixed cl3_ok fun args hp r hp' q hs hq=>?_
  unfold groSpec at hs
  split at hs
  ·rename_i n t
   split at hs
   ·rename_i ht
    subst ht
    simp only[oi_]at hs
    obtain⟨rfl,rfl,rfl⟩:=hs
    obtain⟨h1,h2,_⟩:=hq
    obtain⟨h,p,e,hp⟩:=gro_all n h1 h2
    exact⟨[],_,_,_,e,hp⟩
   ·simp at hs
  ·simp at hs
def gro0Spec:HSpec
  | [.pt 0 0,.c (.int .i64 0)],[some ⟨t,true,[.c (.pointer none),.c (.slice none 0 0)]⟩]=>if t=43 then
      some (.tu [],[some ⟨43,true,[.pt 0 0,.c (.slice none 0 0)]⟩],[])else none
  |_,_=>none
noncomputable def gro0_X (h_:List (Nat×Bool)):=x0_ [] (z9_ p_ cl3 ⟨true,bs h_++([])⟩ (y1_ ([])) 60 37 ([.pt 0 0,.c (.int .i64 0)]) ([some ⟨43,true,[.c (.pointer none),.c (.slice none 0 0)]⟩]))
theorem gro0_1:gro0_X []=some ((AV.tu []),[(.some ⟨43,true,[(AV.pt 0 0),
 (AV.c ((Value.slice .none 0 0)))]⟩)],[(((0:Nat):Nat)<((1:Nat))),
 (((0:Nat):Nat)<((1:Nat))),
 (i64.min:Int)≤↑(0:Nat)-↑(0:Nat),
 (↑(0:Nat)-↑(0:Nat):Int)≤i64.max]):=by kernel_rfl
theorem gro0_all:∃(h:Hints) (p:List Prop),x0_ [] (z9_ p_ cl3 h (y1_ ([])) 60 37 ([.pt 0 0,.c (.int .i64 0)]) ([some ⟨43,true,[.c (.pointer none),.c (.slice none 0 0)]⟩]))=some (.tu [],[some ⟨43,true,[.pt 0 0,.c (.slice none 0 0)]⟩],p)∧z7_ p:=by
  have eR:=gro0_1
  refine⟨_,_,eR.trans (congrArg (fun r:AV×Heap=>some (r.1,r.2,_)) (a₁:=(_,_)) (a₂:=(_,_)) ?_),?_⟩
  ·rfl
  ·simp[z7_,q8_,q9_]
theorem gro0_ok:u1_ p_ 37 gro0Spec:=by
  refine m1_ mixed cl3_ok fun args hp r hp' q hs hq=>?_
  unfold gro0Spec at hs
  split at hs
  ·rename_i t
   split at hs
   ·rename_i ht
    subst ht
    simp only[oi_]at hs
    obtain⟨rfl,rfl,rfl⟩:=hs
    obtain⟨h,p,e,hp⟩:=gro0_all
    exact⟨[],_,_,_,e,hp⟩
   ·simp at hs
  ·simp at hs
end Go.Proofs.YtmjldphagbobpaaGreatDoor
