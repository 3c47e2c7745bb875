import Derived.Test.YtmjldphagbobpaaDoorTextD
import Derived.Test.YtmjldphagbobpaaDoorBldS
set_option linter.unusedVariables false
set_option linter.unusedSimpArgs false
namespace Go.Proofs.YtmjldphagbobpaaDoor
open IntKind (i64 u8 i32 u32 u64)
open _root_.Go.Proofs.Tryd renaming prog→p_
open Go.RowKit
noncomputable def hsg2:HSpecs:=m0_ [(51,aprSpec)]
noncomputable def cl2:CallT:=p3_ p_ (r4_ []) hsg2 500 8
theorem cl2_ok:x7_ p_ cl2:=s3_ mixed v2_ (w5_ apr_ok s8_) 500 8
theorem p7_ (r:Int):1≤(y2_ (sgn r)).length∧(y2_ (sgn r)).length≤4:=by
  generalize sgn r=c
  unfold y2_
  split
  ·simp
  ·split
   ·simp
   ·split<;>simp
noncomputable def wrU_X (r:Int)(n:Nat)(l:List AV)(h_:List (Nat×Bool)):=y5_ [] (z8_ p_ cl2 ⟨true,bs h_++([(29,⟨.c (.int .i64 (y2_ (sgn r)).length),none⟩)])⟩ (y1_ ([])) 60 36 ([.pt 0 0,.c (.int .i32 r)]) ([some ⟨56,true,[.pt 0 0,.sl 1 0 n]⟩,some ⟨5,false,l⟩]))
theorem wrU_1 (r:Int)(n:Nat)(l:List AV):wrU_X r n l []=some ((AV.tu [(AV.c ((Value.int .i64 ((↑(y2_ (sgn r)).length:Int))))),
 (AV.c Value.nilIface)]),[(.some ⟨56,true,[(AV.pt 0 0),
 (AV.sl 3 0 (n+(y2_ (sgn r)).length))]⟩),
 .none,
 .none,
 (.some ⟨5,false,(List.take n l++z6_ (y2_ (sgn r)))⟩)],[(((0:Nat):Nat)<((1:Nat))),
 (((0:Nat):Nat)<((1:Nat))),
 (-2147483648:Int)≤r,
 (r:Int)≤2147483647,
 ((n+(4:Nat):Nat)≤((140737488355328:Nat))),
 ((n:Nat)≤(l.length)),
 (((2:Nat):Nat)≤((2:Nat))),
 (((0:Nat):Nat)<((1:Nat))),
 ((i64.min:Int)≤((↑(n+(y2_ (sgn r)).length):Int)-(↑n:Int))),
 (((↑(n+(y2_ (sgn r)).length):Int)-(↑n:Int):Int)≤(i64.max)),
 (((↑(n+(y2_ (sgn r)).length):Int)-(↑n:Int):Int))=((↑(y2_ (sgn r)).length:Int))]):=by kernel_rfl
theorem wrU_all (r:Int)(n:Nat)(l:List AV)(h1: -2147483648≤r)(h2:r≤2147483647)(hb:n+4≤140737488355328)(hn:n≤l.length):∃(h:Hints) (p:List Prop),y5_ [] (z8_ p_ cl2 h (y1_ ([])) 60 36 ([.pt 0 0,.c (.int .i32 r)]) ([some ⟨56,true,[.pt 0 0,.sl 1 0 n]⟩,some ⟨5,false,l⟩]))=some (.tu [.c (.int .i64 (y2_ (sgn r)).length),.c .nilIface],[some ⟨56,true,[.pt 0 0,.sl 3 0 (n+(y2_ (sgn r)).length)]⟩,none,none,some ⟨5,false,l.take n++z6_ (y2_ (sgn r))⟩],p)∧z7_ p:=by
  have eR:=wrU_1 r n l
  refine⟨_,_,eR.trans (congrArg (fun r:AV×Heap=>some (r.1,r.2,_)) (a₁:=(_,_)) (a₂:=(_,_)) ?_),?_⟩
  ·rfl
  ·have hl:=p7_ r
   simp only[z7_,j5_,j4_,and_true,true_and]
   repeat' apply And.intro
   all_goals first|omega|decide
noncomputable def wrE_X (r:Int)(h_:List (Nat×Bool)):=y5_ [] (z8_ p_ cl2 ⟨true,bs h_++([(29,⟨.c (.int .i64 (y2_ (sgn r)).length),none⟩)])⟩ (y1_ ([])) 60 36 ([.pt 0 0,.c (.int .i32 r)]) ([some ⟨56,true,[.pt 0 0,.c (.slice none 0 0)]⟩]))
theorem wrE_1 (r:Int):wrE_X r []=some ((AV.tu [(AV.c ((Value.int .i64 ((↑(y2_ (sgn r)).length:Int))))),
 (AV.c Value.nilIface)]),[(.some ⟨56,true,[(AV.pt 0 0),
 (AV.sl 2 0 ((y2_ (sgn r)).length))]⟩),
 .none,
 (.some ⟨5,false,(z6_ (y2_ (sgn r)))⟩)],[(((0:Nat):Nat)<((1:Nat))),
 (((0:Nat):Nat)<((1:Nat))),
 (-2147483648:Int)≤r,
 (r:Int)≤2147483647,
 (((2:Nat):Nat)≤((2:Nat))),
 (((0:Nat):Nat)<((1:Nat))),
 ((i64.min:Int)≤((↑(y2_ (sgn r)).length:Int)-(↑(0:Nat):Int))),
 (((↑(y2_ (sgn r)).length:Int)-(↑(0:Nat):Int):Int)≤(i64.max)),
 (((↑(y2_ (sgn r)).length:Int)-(↑(0:Nat):Int):Int))=((↑(y2_ (sgn r)).length:Int))]):=by kernel_rfl
theorem wrE_all (r:Int)(h1: -2147483648≤r)(h2:r≤2147483647):∃(h:Hints) (p:List Prop),y5_ [] (z8_ p_ cl2 h (y1_ ([])) 60 36 ([.pt 0 0,.c (.int .i32 r)]) ([some ⟨56,true,[.pt 0 0,.c (.slice none 0 0)]⟩]))=some (.tu [.c (.int .i64 (y2_ (sgn r)).length),.c .nilIface],[some ⟨56,true,[.pt 0 0,.sl 2 0 (y2_ (sgn r)).length]⟩,none,some ⟨5,false,z6_ (y2_ (sgn r))⟩],p)∧z7_ p:=by
  have eR:=wrE_1 r
  refine⟨_,_,eR.trans (congrArg (fun r:AV×Heap=>some (r.1,r.2,_)) (a₁:=(_,_)) (a₂:=(_,_)) ?_),?_⟩
  ·rfl
  ·have hl:=p7_ r
   simp only[z7_,j5_,j4_,and_true,true_and]
   repeat' apply And.intro
   all_goals first|omega|decide
noncomputable def wrF_X (r:Int)(h_:List (Nat×Bool)):=y5_ [] (z8_ p_ cl2 ⟨true,bs h_++([(29,⟨.c (.int .i64 (y2_ (sgn r)).length),none⟩)])⟩ (y1_ ([])) 60 36 ([.pt 0 0,.c (.int .i32 r)]) ([some ⟨56,true,[.c (.pointer none),.c (.slice none 0 0)]⟩]))
theorem wrF_1 (r:Int):wrF_X r []=some ((AV.tu [(AV.c ((Value.int .i64 ((↑(y2_ (sgn r)).length:Int))))),
 (AV.c Value.nilIface)]),[(.some ⟨56,true,[(AV.pt 0 0),
 (AV.sl 2 0 ((y2_ (sgn r)).length))]⟩),
 .none,
 (.some ⟨5,false,(z6_ (y2_ (sgn r)))⟩)],[(((0:Nat):Nat)<((1:Nat))),
 (((0:Nat):Nat)<((1:Nat))),
 (-2147483648:Int)≤r,
 (r:Int)≤2147483647,
 (((2:Nat):Nat)≤((2:Nat))),
 (((0:Nat):Nat)<((1:Nat))),
 ((i64.min:Int)≤((↑(y2_ (sgn r)).length:Int)-(↑(0:Nat):Int))),
 (((↑(y2_ (sgn r)).length:Int)-(↑(0:Nat):Int):Int)≤(i64.max)),
 (((↑(y2_ (sgn r)).length:Int)-(↑(0:Nat):Int):Int))=((↑(y2_ (sgn r)).length:Int))]):=by kernel_rfl
theorem wrF_all (r:Int)(h1: -2147483648≤r)(h2:r≤2147483647):∃(h:Hints) (p:List Prop),y5_ [] (z8_ p_ cl2 h (y1_ ([])) 60 36 ([.pt 0 0,.c (.int .i32 r)]) ([some ⟨56,true,[.c (.pointer none),.c (.slice none 0 0)]⟩]))=some (.tu [.c (.int .i64 (y2_ (sgn r)).length),.c .nilIface],[some ⟨56,true,[.pt 0 0,.sl 2 0 (y2_ (sgn r)).length]⟩,none,some ⟨5,false,z6_ (y2_ (sgn r))⟩],p)∧z7_ p:=by
  have eR:=wrF_1 r
  refine⟨_,_,eR.trans (congrArg (fun r:AV×Heap=>some (r.1,r.2,_)) (a₁:=(_,_)) (a₂:=(_,_)) ?_),?_⟩
  ·rfl
  ·have hl:=p7_ r
   simp only[z7_,j5_,j4_,and_true,true_and]
   repeat' apply And.intro
   all_goals first|omega|decide
def wruSpec:HSpec
  | [.pt 0 0,.c (.int .i32 r)],[some ⟨t,true,[.pt 0 0,.sl 1 0 n]⟩,some ⟨u,false,l⟩]=>if t=56∧u=5 then
      some (.tu [.c (.int .i64 (y2_ (sgn r)).length),.c .nilIface],[some ⟨56,true,[.pt 0 0,.sl 3 0 (n+(y2_ (sgn r)).length)]⟩,none,none,some ⟨5,false,l.take n++z6_ (y2_ (sgn r))⟩],[-2147483648≤r,r≤2147483647,n+4≤140737488355328,n≤l.length])
    else none
  | [.pt 0 0,.c (.int .i32 r)],[some ⟨t,true,[.pt 0 0,.c (.slice none 0 0)]⟩]=>if t=56 then
      some (.tu [.c (.int .i64 (y2_ (sgn r)).length),.c .nilIface],[some ⟨56,true,[.pt 0 0,.sl 2 0 (y2_ (sgn r)).length]⟩,none,some ⟨5,false,z6_ (y2_ (sgn r))⟩],[-2147483648≤r,r≤2147483647])
    else none
  | [.pt 0 0,.c (.int .i32 r)],[some ⟨t,true,[.c (.pointer none),.c (.slice none 0 0)]⟩]=>if t=56 then
      some (.tu [.c (.int .i64 (y2_ (sgn r)).length),.c .nilIface],[some ⟨56,true,[.pt 0 0,.sl 2 0 (y2_ (sgn r)).length]⟩,none,some ⟨5,false,z6_ (y2_ (sgn r))⟩],[-2147483648≤r,r≤2147483647])
    else none
  |_,_=>none
theorem wr_ok:u0_ p_ 36 wruSpec:=by
  refine n6_ mixed cl2_ok fun args hp r hp' q hs hq=>?_
  unfold wruSpec at hs
  split at hs
  ·rename_i r0 t n u l
   split at hs
   ·rename_i ht
    obtain⟨rfl,rfl⟩:=ht
    simp only[oi_]at hs
    obtain⟨rfl,rfl,rfl⟩:=hs
    obtain⟨h1,h2,h3,h4,_⟩:=hq
    obtain⟨h,p,e,hp⟩:=wrU_all r0 n l h1 h2 h3 h4
    exact⟨_,_,_,_,e,hp⟩
   ·simp at hs
  ·rename_i r0 t
   split at hs
   ·rename_i ht
    subst ht
    simp only[oi_]at hs
    obtain⟨rfl,rfl,rfl⟩:=hs
    obtain⟨h1,h2,_⟩:=hq
    obtain⟨h,p,e,hp⟩:=wrE_all r0 h1 h2
    exact⟨_,_,_,_,e,hp⟩
   ·simp at hs
  ·rename_i r0 t
   split at hs
   ·rename_i ht
    subst ht
    simp only[oi_]at hs
    obtain⟨rfl,rfl,rfl⟩:=hs
    obtain⟨h1,h2,_⟩:=hq
    obtain⟨h,p,e,hp⟩:=wrF_all r0 h1 h2
    exact⟨_,_,_,_,e,hp⟩
   ·simp at hs
  ·simp at hs
end Go.Proofs.YtmjldphagbobpaaDoor
