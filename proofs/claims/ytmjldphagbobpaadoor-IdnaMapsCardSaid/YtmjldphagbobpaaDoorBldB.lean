import Derived.Test.YtmjldphagbobpaaDoorGrowB
set_option linter.unusedVariables false
set_option linter.unusedSimpArgs false
namespace Go.Proofs.YtmjldphagbobpaaDoor
open IntKind (i64 u8 i32 u32 u64)
open _root_.Go.Proofs.Tryd renaming prog→p_
open Go.RowKit
noncomputable def hsg3:HSpecs:=m0_ [(49,growSpec)]
noncomputable def cl3:CallT:=p3_ p_ (r4_ []) hsg3 500 8
theorem cl3_ok:x7_ p_ cl3:=s3_ mixed v2_ (w5_ grow_ok s8_) 500 8
noncomputable def gro_X (n:Int)(h_:List (Nat×Bool)):=y5_ [] (z8_ p_ cl3 ⟨true,bs h_++([])⟩ (y1_ ([])) 60 34 ([.pt 0 0,.c (.int .i64 n)]) ([some ⟨56,true,[.c (.pointer none),.c (.slice none 0 0)]⟩]))
theorem gro_1 (n:Int):gro_X n [(7,false),(21,true)]=some ((AV.tu []),[(.some ⟨56,true,[(AV.pt 0 0),
 (AV.sl 1 0 0)]⟩),
 (.some ⟨5,false,[]⟩)],[decide ((n:Int)<0)=false,
 (((0:Nat):Nat)<((1:Nat))),
 (((0:Nat):Nat)<((1:Nat))),
 (i64.min:Int)≤↑(0:Nat)-↑(0:Nat),
 (↑(0:Nat)-↑(0:Nat):Int)≤i64.max,
 decide ((↑(0:Nat)-↑(0:Nat):Int)<n)=true,
 (0:Int)≤n,
 (n:Int)≤281474976710656]):=by kernel_rfl
theorem gro_all (n:Int)(h1:0<n)(h2:n≤281474976710656):∃(h:Hints) (p:List Prop),y5_ [] (z8_ p_ cl3 h (y1_ ([])) 60 34 ([.pt 0 0,.c (.int .i64 n)]) ([some ⟨56,true,[.c (.pointer none),.c (.slice none 0 0)]⟩]))=some (.tu [],[some ⟨56,true,[.pt 0 0,.sl 1 0 0]⟩,some ⟨5,false,[]⟩],p)∧z7_ p:=by
  have eR:=gro_1 n
  refine⟨_,_,eR.trans (congrArg (fun r:AV×Heap=>some (r.1,r.2,_)) (a₁:=(_,_)) (a₂:=(_,_)) ?_),?_⟩
  ·rfl
  ·try simp only[dz]at*
   try simp(disch:=omega) only[std,bytesOK_cons,bytesOK_nil]
   repeat' apply And.intro
   all_goals first|exact True.intro|omega|assumption|rfl|exact u3_ _
def groSpec:HSpec
  | [.pt 0 0,.c (.int .i64 n)],[some ⟨t,true,[.c (.pointer none),.c (.slice none 0 0)]⟩]=>if t=56 then
      some (.tu [],[some ⟨56,true,[.pt 0 0,.sl 1 0 0]⟩,some ⟨5,false,[]⟩],[0<n,n≤281474976710656])else none
  |_,_=>none
theorem gro_ok:u0_ p_ 34 groSpec:=by
  refine n6_ mixed cl3_ok fun args hp r hp' q hs hq=>?_
  unfold groSpec at hs
  split at hs
  ·rename_i n t
   split at hs
   ·rename_i ht
    subst ht
    simp only[oi_]at hs
    obtain⟨rfl,rfl,rfl⟩:=hs
    obtain⟨h1,h2,_⟩:=hq
    obtain⟨h,p,e,hp⟩:=gro_all n h1 h2
    exact⟨[],_,_,_,e,hp⟩
   ·simp at hs
  ·simp at hs
def gro0Spec:HSpec
  | [.pt 0 0,.c (.int .i64 0)],[some ⟨t,true,[.c (.pointer none),.c (.slice none 0 0)]⟩]=>if t=56 then
      some (.tu [],[some ⟨56,true,[.pt 0 0,.c (.slice none 0 0)]⟩],[])else none
  |_,_=>none
noncomputable def gro0_X (h_:List (Nat×Bool)):=y5_ [] (z8_ p_ cl3 ⟨true,bs h_++([])⟩ (y1_ ([])) 60 34 ([.pt 0 0,.c (.int .i64 0)]) ([some ⟨56,true,[.c (.pointer none),.c (.slice none 0 0)]⟩]))
theorem gro0_1:gro0_X []=some ((AV.tu []),[(.some ⟨56,true,[(AV.pt 0 0),
 (AV.c ((Value.slice .none 0 0)))]⟩)],[(((0:Nat):Nat)<((1:Nat))),
 (((0:Nat):Nat)<((1:Nat))),
 (i64.min:Int)≤↑(0:Nat)-↑(0:Nat),
 (↑(0:Nat)-↑(0:Nat):Int)≤i64.max]):=by kernel_rfl
theorem gro0_all:∃(h:Hints) (p:List Prop),y5_ [] (z8_ p_ cl3 h (y1_ ([])) 60 34 ([.pt 0 0,.c (.int .i64 0)]) ([some ⟨56,true,[.c (.pointer none),.c (.slice none 0 0)]⟩]))=some (.tu [],[some ⟨56,true,[.pt 0 0,.c (.slice none 0 0)]⟩],p)∧z7_ p:=by
  have eR:=gro0_1
  refine⟨_,_,eR.trans (congrArg (fun r:AV×Heap=>some (r.1,r.2,_)) (a₁:=(_,_)) (a₂:=(_,_)) ?_),?_⟩
  ·rfl
  ·simp[z7_,j5_,j4_]
theorem gro0_ok:u0_ p_ 34 gro0Spec:=by
  refine n6_ mixed cl3_ok fun args hp r hp' q hs hq=>?_
  unfold gro0Spec at hs
  split at hs
  ·rename_i t
   split at hs
   ·rename_i ht
    subst ht
    simp only[oi_]at hs
    obtain⟨rfl,rfl,rfl⟩:=hs
    obtain⟨h,p,e,hp⟩:=gro0_all
    exact⟨[],_,_,_,e,hp⟩
   ·simp at hs
  ·simp at hs
end Go.Proofs.YtmjldphagbobpaaDoor
