import Derived.Test.YtmjldphagbobpaaDoorTextC
set_option linter.unusedVariables false
set_option linter.unusedSimpArgs false
namespace Go.Proofs.YtmjldphagbobpaaDoor
open IntKind (i64 u8 i32 u32 u64)
open _root_.Go.Proofs.Tryd renaming prog→p_
open Go.RowKit
def laidRune (pre:List Prop):HSpec
  | [.sl 0 0 n,.c (.int .i32 r)],[some ⟨t,false,l⟩]=>if t=5 then some (.sl 2 0 (n+(y2_ (sgn r)).length),[none,none,some ⟨5,false,l.take n++z6_ (y2_ (sgn r))⟩],pre++[-2147483648≤r,r≤2147483647,n+4≤140737488355328,n≤l.length])else none
  | [.c (.slice none 0 0),.c (.int .i32 r)],[]=>some (.sl 1 0 (y2_ (sgn r)).length,[none,some ⟨5,false,z6_ (y2_ (sgn r))⟩],pre++[-2147483648≤r,r≤2147483647])
  |_,_=>none
def anaSpec:HSpec:=fun args hp=>match args with
  | [_,.c (.int .i32 r)]=>laidRune [r<0∨128≤r] args hp
  |_=>none
theorem ana_ok:u0_ p_ 66 anaSpec:=by
  refine n6_ mixed w6_ fun args hp r hp' q hs hq=>?_
  unfold anaSpec at hs
  split at hs
  ·rename_i x r0
   unfold laidRune at hs
   split at hs
   ·rename_i n r1 t l heq
    simp only[List.cons.injEq,AV.c.injEq,Value.int.injEq,true_and,and_true]at heq
    obtain⟨rfl,rfl⟩:=heq
    split at hs
    ·rename_i ht
     subst ht
     simp only[oi_]at hs
     obtain⟨rfl,rfl,rfl⟩:=hs
     obtain⟨h0,h1,h2,h3,h4,_⟩:=hq
     rcases h0 with h0|h0
     ·obtain⟨h,p,e,hp⟩:=anaSN_all r0 n l h0 h1 h3 h4
      exact⟨_,_,_,_,e,hp⟩
     ·obtain⟨h,p,e,hp⟩:=anaSP_all r0 n l h0 h2 h3 h4
      exact⟨_,_,_,_,e,hp⟩
    ·simp at hs
   ·rename_i r1 heq
    simp only[List.cons.injEq,AV.c.injEq,Value.int.injEq,true_and,and_true]at heq
    obtain⟨rfl,rfl⟩:=heq
    simp only[oi_]at hs
    obtain⟨rfl,rfl,rfl⟩:=hs
    obtain⟨h0,h1,h2,_⟩:=hq
    rcases h0 with h0|h0
    ·obtain⟨h,p,e,hp⟩:=ana0N_all r0 h0 h1
     exact⟨_,_,_,_,e,hp⟩
    ·obtain⟨h,p,e,hp⟩:=ana0P_all r0 h0 h2
     exact⟨_,_,_,_,e,hp⟩
   ·simp at hs
  ·simp at hs
noncomputable def hsg1:HSpecs:=m0_ [(66,anaSpec)]
noncomputable def cl1:CallT:=p3_ p_ (r4_ []) hsg1 500 8
theorem cl1_ok:x7_ p_ cl1:=s3_ mixed v2_ (w5_ ana_ok s8_) 500 8
noncomputable def aprSP_X (r:Int)(n:Nat)(l:List AV)(h_:List (Nat×Bool)):=y5_ [1] (z8_ p_ cl1 ⟨true,bs h_++([(6,⟨.c (.int .u32 r),none⟩),(10,⟨.c (.int .u8 r),none⟩)])⟩ (y1_ ([])) 60 51 ([.sl 0 0 n,.c (.int .i32 r)]) ([some ⟨5,false,l⟩]))
theorem aprSP_1 (r:Int)(n:Nat)(l:List AV):aprSP_X r n l [(7,true)]=some ((AV.sl 2 0 (n+(1:Nat))),[.none,
 .none,
 (.some ⟨5,false,(List.take n l++List.take (1:Nat) (List.drop (0:Nat) ([AV.c (Value.int IntKind.u8 r)]++[])))⟩)],[((u32.wrap r:Int))=(r),
 decide ((r:Int)≤127)=true,
 ((u8.wrap r:Int))=(r),
 (((1:Nat):Nat)≤((1:Nat))),
 (((n+(1:Nat))*(1:Nat):Nat)≤((140737488355328:Nat))),
 ((n+(1:Nat):Nat)≤((4611686018427387904:Nat))),
 ((n:Nat)≤(l.length))]):=by kernel_rfl
theorem aprSP_2 (r:Int)(n:Nat)(l:List AV):aprSP_X r n l [(7,false)]=some ((AV.sl 2 0 (n+(y2_ (sgn r)).length)),[.none,
 .none,
 (.some ⟨5,false,(List.take n l++z6_ (y2_ (sgn r)))⟩)],[((u32.wrap r:Int))=(r),
 decide ((r:Int)≤127)=false,
 r<(0:Int)∨(128:Int)≤r,
 (-2147483648:Int)≤r,
 (r:Int)≤2147483647,
 ((n+(4:Nat):Nat)≤((140737488355328:Nat))),
 ((n:Nat)≤(l.length))]):=by kernel_rfl
theorem aprSP_all (r:Int)(n:Nat)(l:List AV)(h0:0≤r)(h1:r≤2147483647)(hb:n+4≤140737488355328)(hn:n≤l.length):∃(h:Hints) (p:List Prop),y5_ [1] (z8_ p_ cl1 h (y1_ ([])) 60 51 ([.sl 0 0 n,.c (.int .i32 r)]) ([some ⟨5,false,l⟩]))=some (.sl 2 0 (n+(y2_ (sgn r)).length),[none,none,some ⟨5,false,l.take n++z6_ (y2_ (sgn r))⟩],p)∧z7_ p:=by
  cases hc7:(decide (r≤(127:Int)):Bool)with
  |true=>
   have eR:=aprSP_1 r n l
   refine⟨_,_,eR.trans (congrArg (fun r:AV×Heap=>some (r.1,r.2,_)) (a₁:=(_,_)) (a₂:=(_,_)) ?_),?_⟩
   ·first
      |(simp only[decide_eq_true_eq,decide_eq_false_iff_not]at *;rw[x3_ _ (g2_ (r:=r) (by omega) (by omega)),g2_ (by omega) (by omega)];rfl)
      |rfl
   ·simp only[decide_eq_true_eq,decide_eq_false_iff_not]at*
    simp(disch:=omega) only[z7_,p6_,q8_,decide_eq_true_eq,decide_eq_false_iff_not,and_true,true_and]
    repeat' apply And.intro
    all_goals omega
  |false=>
   have eR:=aprSP_2 r n l
   refine⟨_,_,eR.trans (congrArg (fun r:AV×Heap=>some (r.1,r.2,_)) (a₁:=(_,_)) (a₂:=(_,_)) ?_),?_⟩
   ·first
      |(simp only[decide_eq_true_eq,decide_eq_false_iff_not]at *;rw[x3_ _ (g2_ (r:=r) (by omega) (by omega)),g2_ (by omega) (by omega)];rfl)
      |rfl
   ·simp only[decide_eq_true_eq,decide_eq_false_iff_not]at*
    simp(disch:=omega) only[z7_,p6_,q8_,decide_eq_true_eq,decide_eq_false_iff_not,and_true,true_and]
    repeat' apply And.intro
    all_goals omega
noncomputable def aprSN_X (r:Int)(n:Nat)(l:List AV)(h_:List (Nat×Bool)):=y5_ [1] (z8_ p_ cl1 ⟨true,bs h_++([(6,⟨.c (.int .u32 (r+4294967296)),none⟩)])⟩ (y1_ ([])) 60 51 ([.sl 0 0 n,.c (.int .i32 r)]) ([some ⟨5,false,l⟩]))
theorem aprSN_1 (r:Int)(n:Nat)(l:List AV):aprSN_X r n l [(7,false)]=some ((AV.sl 2 0 (n+(y2_ (sgn r)).length)),[.none,
 .none,
 (.some ⟨5,false,(List.take n l++z6_ (y2_ (sgn r)))⟩)],[((u32.wrap r:Int))=(r+(4294967296:Int)),
 decide ((r+4294967296:Int)≤127)=false,
 r<(0:Int)∨(128:Int)≤r,
 (-2147483648:Int)≤r,
 (r:Int)≤2147483647,
 ((n+(4:Nat):Nat)≤((140737488355328:Nat))),
 ((n:Nat)≤(l.length))]):=by kernel_rfl
theorem aprSN_all (r:Int)(n:Nat)(l:List AV)(h0:r<0)(h1: -2147483648≤r)(hb:n+4≤140737488355328)(hn:n≤l.length):∃(h:Hints) (p:List Prop),y5_ [1] (z8_ p_ cl1 h (y1_ ([])) 60 51 ([.sl 0 0 n,.c (.int .i32 r)]) ([some ⟨5,false,l⟩]))=some (.sl 2 0 (n+(y2_ (sgn r)).length),[none,none,some ⟨5,false,l.take n++z6_ (y2_ (sgn r))⟩],p)∧z7_ p:=by
  have eR:=aprSN_1 r n l
  refine⟨_,_,eR.trans (congrArg (fun r:AV×Heap=>some (r.1,r.2,_)) (a₁:=(_,_)) (a₂:=(_,_)) ?_),?_⟩
  ·rfl
  ·have w0:u32.wrap r=r+4294967296:=by simp only[IntKind.wrap,IntKind.bits,IntKind.signed];simp;omega
   simp only[decide_eq_true_eq,decide_eq_false_iff_not]at*
   simp(disch:=omega) only[z7_,w0,decide_eq_true_eq,decide_eq_false_iff_not,and_true,true_and]
   repeat' apply And.intro
   all_goals omega
noncomputable def apr0P_X (r:Int)(h_:List (Nat×Bool)):=y5_ [0] (z8_ p_ cl1 ⟨true,bs h_++([(6,⟨.c (.int .u32 r),none⟩),(10,⟨.c (.int .u8 r),none⟩)])⟩ (y1_ ([])) 60 51 ([.c (.slice none 0 0),.c (.int .i32 r)]) ([]))
theorem apr0P_1 (r:Int):apr0P_X r [(7,true)]=some ((AV.sl 1 0 1),[.none,
 (.some ⟨5,false,[(AV.c ((Value.int .u8 r)))]⟩)],[((u32.wrap r:Int))=(r),
 decide ((r:Int)≤127)=true,
 ((u8.wrap r:Int))=(r),
 (((1:Nat):Nat)≤((1:Nat))),
 (((1:Nat):Nat)≤((140737488355328:Nat))),
 (((1:Nat):Nat)≤((4611686018427387904:Nat)))]):=by kernel_rfl
theorem apr0P_2 (r:Int):apr0P_X r [(7,false)]=some ((AV.sl 1 0 ((y2_ (sgn r)).length)),[.none,
 (.some ⟨5,false,(z6_ (y2_ (sgn r)))⟩)],[((u32.wrap r:Int))=(r),
 decide ((r:Int)≤127)=false,
 r<(0:Int)∨(128:Int)≤r,
 (-2147483648:Int)≤r,
 (r:Int)≤2147483647]):=by kernel_rfl
theorem apr0P_all (r:Int)(h0:0≤r)(h1:r≤2147483647):∃(h:Hints) (p:List Prop),y5_ [0] (z8_ p_ cl1 h (y1_ ([])) 60 51 ([.c (.slice none 0 0),.c (.int .i32 r)]) ([]))=some (.sl 1 0 (y2_ (sgn r)).length,[none,some ⟨5,false,z6_ (y2_ (sgn r))⟩],p)∧z7_ p:=by
  cases hc7:(decide (r≤(127:Int)):Bool)with
  |true=>
   have eR:=apr0P_1 r
   refine⟨_,_,eR.trans (congrArg (fun r:AV×Heap=>some (r.1,r.2,_)) (a₁:=(_,_)) (a₂:=(_,_)) ?_),?_⟩
   ·first
      |(simp only[decide_eq_true_eq,decide_eq_false_iff_not]at *;rw[x3_ _ (g2_ (r:=r) (by omega) (by omega)),g2_ (by omega) (by omega)];rfl)
      |rfl
   ·simp only[decide_eq_true_eq,decide_eq_false_iff_not]at*
    simp(disch:=omega) only[z7_,p6_,q8_,decide_eq_true_eq,decide_eq_false_iff_not,and_true,true_and]
    repeat' apply And.intro
    all_goals omega
  |false=>
   have eR:=apr0P_2 r
   refine⟨_,_,eR.trans (congrArg (fun r:AV×Heap=>some (r.1,r.2,_)) (a₁:=(_,_)) (a₂:=(_,_)) ?_),?_⟩
   ·first
      |(simp only[decide_eq_true_eq,decide_eq_false_iff_not]at *;rw[x3_ _ (g2_ (r:=r) (by omega) (by omega)),g2_ (by omega) (by omega)];rfl)
      |rfl
   ·simp only[decide_eq_true_eq,decide_eq_false_iff_not]at*
    simp(disch:=omega) only[z7_,p6_,q8_,decide_eq_true_eq,decide_eq_false_iff_not,and_true,true_and]
    repeat' apply And.intro
    all_goals omega
noncomputable def apr0N_X (r:Int)(h_:List (Nat×Bool)):=y5_ [0] (z8_ p_ cl1 ⟨true,bs h_++([(6,⟨.c (.int .u32 (r+4294967296)),none⟩)])⟩ (y1_ ([])) 60 51 ([.c (.slice none 0 0),.c (.int .i32 r)]) ([]))
theorem apr0N_1 (r:Int):apr0N_X r [(7,false)]=some ((AV.sl 1 0 ((y2_ (sgn r)).length)),[.none,
 (.some ⟨5,false,(z6_ (y2_ (sgn r)))⟩)],[((u32.wrap r:Int))=(r+(4294967296:Int)),
 decide ((r+4294967296:Int)≤127)=false,
 r<(0:Int)∨(128:Int)≤r,
 (-2147483648:Int)≤r,
 (r:Int)≤2147483647]):=by kernel_rfl
theorem apr0N_all (r:Int)(h0:r<0)(h1: -2147483648≤r):∃(h:Hints) (p:List Prop),y5_ [0] (z8_ p_ cl1 h (y1_ ([])) 60 51 ([.c (.slice none 0 0),.c (.int .i32 r)]) ([]))=some (.sl 1 0 (y2_ (sgn r)).length,[none,some ⟨5,false,z6_ (y2_ (sgn r))⟩],p)∧z7_ p:=by
  have eR:=apr0N_1 r
  refine⟨_,_,eR.trans (congrArg (fun r:AV×Heap=>some (r.1,r.2,_)) (a₁:=(_,_)) (a₂:=(_,_)) ?_),?_⟩
  ·rfl
  ·have w0:u32.wrap r=r+4294967296:=by simp only[IntKind.wrap,IntKind.bits,IntKind.signed];simp;omega
   simp only[decide_eq_true_eq,decide_eq_false_iff_not]at*
   simp(disch:=omega) only[z7_,w0,decide_eq_true_eq,decide_eq_false_iff_not,and_true,true_and]
   repeat' apply And.intro
   all_goals omega
def aprSpec:HSpec:=laidRune []
theorem apr_ok:u0_ p_ 51 aprSpec:=by
  refine n6_ mixed cl1_ok fun args hp r hp' q hs hq=>?_
  unfold aprSpec laidRune at hs
  split at hs
  ·rename_i n r0 t l
   split at hs
   ·rename_i ht
    subst ht
    simp only[oi_]at hs
    obtain⟨rfl,rfl,rfl⟩:=hs
    obtain⟨h1,h2,h3,h4,_⟩:=hq
    by_cases h0:r0<0
    ·obtain⟨h,p,e,hp⟩:=aprSN_all r0 n l h0 h1 h3 h4
     exact⟨_,_,_,_,e,hp⟩
    ·obtain⟨h,p,e,hp⟩:=aprSP_all r0 n l (by omega) h2 h3 h4
     exact⟨_,_,_,_,e,hp⟩
   ·simp at hs
  ·rename_i r0
   simp only[oi_]at hs
   obtain⟨rfl,rfl,rfl⟩:=hs
   obtain⟨h1,h2,_⟩:=hq
   by_cases h0:r0<0
   ·obtain⟨h,p,e,hp⟩:=apr0N_all r0 h0 h1
    exact⟨_,_,_,_,e,hp⟩
   ·obtain⟨h,p,e,hp⟩:=apr0P_all r0 (by omega) h2
    exact⟨_,_,_,_,e,hp⟩
  ·simp at hs
end Go.Proofs.YtmjldphagbobpaaDoor
