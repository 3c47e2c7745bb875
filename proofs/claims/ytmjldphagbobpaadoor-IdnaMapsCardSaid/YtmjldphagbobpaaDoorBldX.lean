import Derived.Test.YtmjldphagbobpaaDoorBldS
set_option linter.unusedVariables false
set_option linter.unusedSimpArgs false
namespace Go.Proofs.YtmjldphagbobpaaDoor
open _root_.Go.Proofs.Tryd renaming prog→p_
open Go.RowKit
noncomputable def bwsG_X (h_:List (Nat×Bool)):=y5_ [] (z8_ p_ cl0 ⟨true,bs h_++([(14,⟨.c (.slice none 0 0),none⟩)])⟩ (y1_ ([])) 60 38 ([.pt 0 0,.c (str [])]) ([some ⟨56,true,[.c (.pointer none),.c (.slice none 0 0)]⟩]))
theorem bwsG_1:bwsG_X []=some ((AV.tu [(AV.c ((Value.int .i64 0))),
 (AV.c Value.nilIface)]),[(.some ⟨56,true,[(AV.pt 0 0),
 (AV.c ((Value.slice .none 0 0)))]⟩)],[(((0:Nat):Nat)<((1:Nat))),
 y0_ ((AV.c ((Value.slice .none 0 0)))) ((AV.c ((Value.slice .none 0 0)))),
 (((2:Nat):Nat)≤((2:Nat)))]):=by kernel_rfl
theorem bwsG_all:∃(h:Hints) (p:List Prop),y5_ [] (z8_ p_ cl0 h (y1_ ([])) 60 38 ([.pt 0 0,.c (str [])]) ([some ⟨56,true,[.c (.pointer none),.c (.slice none 0 0)]⟩]))=some (.tu [.c (.int .i64 0),.c .nilIface],[some ⟨56,true,[.pt 0 0,.c (.slice none 0 0)]⟩],p)∧z7_ p:=by
  have eR:=bwsG_1
  refine⟨_,_,eR.trans (congrArg (fun r:AV×Heap=>some (r.1,r.2,_)) (a₁:=(_,_)) (a₂:=(_,_)) ?_),?_⟩
  ·rfl
  ·try clear eR
   simp only[z7_,and_true,true_and]
   repeat' apply And.intro
   all_goals first|exact True.intro|omega|rfl
def ws1Spec:HSpec
  | [.pt 0 0,.c (.string s)],[some ⟨t,true,[.c (.pointer none),.c (.slice none 0 0)]⟩]=>if t=56 then
      some (.tu [.c (.int .i64 0),.c .nilIface],[some ⟨56,true,[.pt 0 0,.c (.slice none 0 0)]⟩],[sb s=[]])
    else none
  |_,_=>none
theorem ws1_ok:u0_ p_ 38 ws1Spec:=by
  refine n6_ mixed w6_ fun args hp r hp' q hs hq=>?_
  unfold ws1Spec at hs
  split at hs
  ·rename_i s t
   split at hs
   ·rename_i ht
    subst ht
    simp only[oi_]at hs
    obtain⟨rfl,rfl,rfl⟩:=hs
    obtain⟨⟨⟨x⟩⟩,rfl⟩:∃b:ByteArray,b=s:=⟨s,rfl⟩
    obtain rfl:x=[]:=hq.1
    obtain⟨h,p,e,hp⟩:=bwsG_all
    exact⟨_,_,_,_,e,hp⟩
   ·simp at hs
  ·simp at hs
def wsxSpec:HSpec:=fun args hp=>match args with
  | [p,.c (.string s)]=>match sb s with
    | []=>match ws0Spec [p,.c (.string s)] hp with
      |some r=>some r
      |none=>match ws1Spec [p,.c (.string s)] hp with
       |some r=>some r
       |none=>wsSpec [p,.c (.string s)] hp
    |_::_=>wsSpec [p,.c (.string s)] hp
  |_=>none
theorem wsx_ok:u0_ p_ 38 wsxSpec:=by
  intro args hp r hp' q hs hq
  unfold wsxSpec at hs
  split at hs
  ·rename_i p s
   split at hs
   ·split at hs
    ·rename_i x h
     obtain rfl:=Option.some.inj hs
     exact ws0_ok _ _ _ _ _ h hq
    ·split at hs
     ·rename_i x h
      obtain rfl:=Option.some.inj hs
      exact ws1_ok _ _ _ _ _ h hq
     ·exact ws_ok _ _ _ _ _ hs hq
   ·exact ws_ok _ _ _ _ _ hs hq
  ·cases hs
end Go.Proofs.YtmjldphagbobpaaDoor
