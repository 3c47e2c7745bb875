import Derived.Test.YtmjldphagbobpaaDoorBas
set_option linter.unusedVariables false
set_option linter.unusedSimpArgs false
namespace Go.Proofs.YtmjldphagbobpaaDoor
open _root_.Go.Proofs.Tryd renaming prog→p_
open Go.RowKit
noncomputable def bstU_X (a:AV)(n:Nat)(l:List AV)(h_:List (Nat×Bool)):=y5_ [] (z8_ p_ cl0 ⟨true,bs h_++([])⟩ (y1_ ([])) 60 37 ([.pt 0 0]) ([some ⟨56,true,[a,.sl 1 0 n]⟩,some ⟨5,false,l⟩]))
theorem bstU_1 (a:AV)(n:Nat)(l:List AV):bstU_X a n l []=some ((AV.c ((str (x8_ (List.take n l))))),[(.some ⟨56,true,[a,
 (AV.sl 1 0 n)]⟩),
 .none],[(((0:Nat):Nat)<((1:Nat))),
 (((0:Nat):Nat)<(n)),
 (((0:Nat):Nat)<((1:Nat))),
 (0:Int)<↑n,
 (↑n:Int)≤↑l.length,
 u4_ (List.take n l),
 (↑n:Int)≤4611686018427387904]):=by kernel_rfl
theorem bstU_all (a:AV)(n:Nat)(l:List AV)(h0:0<n)(h1:n≤l.length)(h2:u4_ (l.take n))(h3:n≤4611686018427387904):∃(h:Hints) (p:List Prop),y5_ [] (z8_ p_ cl0 h (y1_ ([])) 60 37 ([.pt 0 0]) ([some ⟨56,true,[a,.sl 1 0 n]⟩,some ⟨5,false,l⟩]))=some (.c (str (x8_ (l.take n))),[some ⟨56,true,[a,.sl 1 0 n]⟩,none],p)∧z7_ p:=by
  have eR:=bstU_1 a n l
  refine⟨_,_,eR.trans (congrArg (fun r:AV×Heap=>some (r.1,r.2,_)) (a₁:=(_,_)) (a₂:=(_,_)) ?_),?_⟩
  ·rfl
  ·simp only[z7_,and_true,true_and,Int.toNat_natCast]
   repeat' apply And.intro
   all_goals first|omega|decide|assumption|exact Int.toNat_natCast _▸h2
noncomputable def bstE_X (a:AV)(h_:List (Nat×Bool)):=y5_ [] (z8_ p_ cl0 ⟨true,bs h_++([])⟩ (y1_ ([])) 60 37 ([.pt 0 0]) ([some ⟨56,true,[a,.c (.slice none 0 0)]⟩]))
theorem bstE_1 (a:AV):bstE_X a []=some ((AV.c ((str ([])))),[(.some ⟨56,true,[a,
 (AV.c ((Value.slice .none 0 0)))]⟩)],[(((0:Nat):Nat)<((1:Nat))),
 (((0:Nat):Nat)<((1:Nat)))]):=by kernel_rfl
theorem bstE_all (a:AV):∃(h:Hints) (p:List Prop),y5_ [] (z8_ p_ cl0 h (y1_ ([])) 60 37 ([.pt 0 0]) ([some ⟨56,true,[a,.c (.slice none 0 0)]⟩]))=some (.c (str []),[some ⟨56,true,[a,.c (.slice none 0 0)]⟩],p)∧z7_ p:=by
  have eR:=bstE_1 a
  refine⟨_,_,eR.trans (congrArg (fun r:AV×Heap=>some (r.1,r.2,_)) (a₁:=(_,_)) (a₂:=(_,_)) ?_),?_⟩
  ·rfl
  ·simp only[z7_,and_true,true_and,Int.toNat_natCast]
   repeat' apply And.intro
   all_goals first|omega|decide|assumption|exact Int.toNat_natCast _▸h2
def bstSpec:HSpec
  | [.pt 0 0],[some ⟨t,true,[a,.sl 1 0 n]⟩,some ⟨u,false,l⟩]=>if t=56∧u=5 then
      some (.c (str (x8_ (l.take n))),[some ⟨56,true,[a,.sl 1 0 n]⟩,none],[0<n,n≤l.length,u4_ (l.take n),n≤4611686018427387904])else none
  | [.pt 0 0],[some ⟨t,true,[a,.c (.slice none 0 0)]⟩]=>if t=56 then some (.c (str []),[some ⟨56,true,[a,.c (.slice none 0 0)]⟩],[])else none
  |_,_=>none
theorem bst_ok:u0_ p_ 37 bstSpec:=by
  refine n6_ mixed w6_ fun args hp r hp' q hs hq=>?_
  unfold bstSpec at hs
  split at hs
  ·rename_i t a n u l
   split at hs
   ·rename_i ht
    obtain⟨rfl,rfl⟩:=ht
    simp only[oi_]at hs
    obtain⟨rfl,rfl,rfl⟩:=hs
    obtain⟨h1,h2,h3,h4,_⟩:=hq
    obtain⟨h,p,e,hp⟩:=bstU_all a n l h1 h2 h3 h4
    exact⟨_,_,_,_,e,hp⟩
   ·simp at hs
  ·rename_i t a
   split at hs
   ·rename_i ht
    subst ht
    simp only[oi_]at hs
    obtain⟨rfl,rfl,rfl⟩:=hs
    obtain⟨h,p,e,hp⟩:=bstE_all a
    exact⟨_,_,_,_,e,hp⟩
   ·simp at hs
  ·simp at hs
noncomputable def bwsU_X (x:List UInt8)(n:Nat)(l:List AV)(h_:List (Nat×Bool)):=y5_ [] (z8_ p_ cl0 ⟨true,bs h_++([])⟩ (y1_ ([])) 60 38 ([.pt 0 0,.c (str x)]) ([some ⟨56,true,[.pt 0 0,.sl 1 0 n]⟩,some ⟨5,false,l⟩]))
theorem bwsU_1 (x:List UInt8)(n:Nat)(l:List AV):bwsU_X x n l []=some ((AV.tu [(AV.c ((Value.int .i64 ((↑x.length:Int))))),
 (AV.c Value.nilIface)]),[(.some ⟨56,true,[(AV.pt 0 0),
 (AV.sl 2 0 (n+x.length))]⟩),
 .none,
 (.some ⟨5,false,(List.take n l++z6_ x)⟩)],[(((0:Nat):Nat)<((1:Nat))),
 (((n+x.length)*(1:Nat):Nat)≤((140737488355328:Nat))),
 ((n+x.length:Nat)≤((4611686018427387904:Nat))),
 ((n:Nat)≤(l.length)),
 (((2:Nat):Nat)≤((2:Nat)))]):=by kernel_rfl
theorem bwsU_all (x:List UInt8)(n:Nat)(l:List AV)(hn:n≤l.length)(hb:n+x.length≤140737488355328):∃(h:Hints) (p:List Prop),y5_ [] (z8_ p_ cl0 h (y1_ ([])) 60 38 ([.pt 0 0,.c (str x)]) ([some ⟨56,true,[.pt 0 0,.sl 1 0 n]⟩,some ⟨5,false,l⟩]))=some (.tu [.c (.int .i64 x.length),.c .nilIface],[some ⟨56,true,[.pt 0 0,.sl 2 0 (n+x.length)]⟩,none,some ⟨5,false,l.take n++z6_ x⟩],p)∧z7_ p:=by
  have eR:=bwsU_1 x n l
  refine⟨_,_,eR.trans (congrArg (fun r:AV×Heap=>some (r.1,r.2,_)) (a₁:=(_,_)) (a₂:=(_,_)) ?_),?_⟩
  ·rfl
  ·try clear eR
   simp only[z7_,p5_,and_true,true_and]
   repeat' apply And.intro
   all_goals first|exact True.intro|omega|rfl
noncomputable def bwsE_X (x:List UInt8)(h_:List (Nat×Bool)):=y5_ [] (z8_ p_ cl0 ⟨true,bs h_++([])⟩ (y1_ ([])) 60 38 ([.pt 0 0,.c (str x)]) ([some ⟨56,true,[.pt 0 0,.c (.slice none 0 0)]⟩]))
theorem bwsE_1 (x:List UInt8):bwsE_X x []=some ((AV.tu [(AV.c ((Value.int .i64 ((↑x.length:Int))))),
 (AV.c Value.nilIface)]),[(.some ⟨56,true,[(AV.pt 0 0),
 (AV.sl 1 0 x.length)]⟩),
 (.some ⟨5,false,(z6_ x)⟩)],[(((0:Nat):Nat)<((1:Nat))),
 ((x.length*(1:Nat):Nat)≤((140737488355328:Nat))),
 ((x.length:Nat)≤((4611686018427387904:Nat))),
 (((2:Nat):Nat)≤((2:Nat)))]):=by kernel_rfl
theorem bwsE_all (x:List UInt8)(hb:x.length≤140737488355328):∃(h:Hints) (p:List Prop),y5_ [] (z8_ p_ cl0 h (y1_ ([])) 60 38 ([.pt 0 0,.c (str x)]) ([some ⟨56,true,[.pt 0 0,.c (.slice none 0 0)]⟩]))=some (.tu [.c (.int .i64 x.length),.c .nilIface],[some ⟨56,true,[.pt 0 0,.sl 1 0 x.length]⟩,some ⟨5,false,z6_ x⟩],p)∧z7_ p:=by
  have eR:=bwsE_1 x
  refine⟨_,_,eR.trans (congrArg (fun r:AV×Heap=>some (r.1,r.2,_)) (a₁:=(_,_)) (a₂:=(_,_)) ?_),?_⟩
  ·rfl
  ·try clear eR
   simp only[z7_,p5_,and_true,true_and]
   repeat' apply And.intro
   all_goals first|exact True.intro|omega|rfl
noncomputable def bwsF_X (x:List UInt8)(h_:List (Nat×Bool)):=y5_ [] (z8_ p_ cl0 ⟨true,bs h_++([])⟩ (y1_ ([])) 60 38 ([.pt 0 0,.c (str x)]) ([some ⟨56,true,[.c (.pointer none),.c (.slice none 0 0)]⟩]))
theorem bwsF_1 (x:List UInt8):bwsF_X x []=some ((AV.tu [(AV.c ((Value.int .i64 ((↑x.length:Int))))),
 (AV.c Value.nilIface)]),[(.some ⟨56,true,[(AV.pt 0 0),
 (AV.sl 1 0 x.length)]⟩),
 (.some ⟨5,false,(z6_ x)⟩)],[(((0:Nat):Nat)<((1:Nat))),
 ((x.length*(1:Nat):Nat)≤((140737488355328:Nat))),
 ((x.length:Nat)≤((4611686018427387904:Nat))),
 (((2:Nat):Nat)≤((2:Nat)))]):=by kernel_rfl
theorem bwsF_all (x:List UInt8)(hb:x.length≤140737488355328):∃(h:Hints) (p:List Prop),y5_ [] (z8_ p_ cl0 h (y1_ ([])) 60 38 ([.pt 0 0,.c (str x)]) ([some ⟨56,true,[.c (.pointer none),.c (.slice none 0 0)]⟩]))=some (.tu [.c (.int .i64 x.length),.c .nilIface],[some ⟨56,true,[.pt 0 0,.sl 1 0 x.length]⟩,some ⟨5,false,z6_ x⟩],p)∧z7_ p:=by
  have eR:=bwsF_1 x
  refine⟨_,_,eR.trans (congrArg (fun r:AV×Heap=>some (r.1,r.2,_)) (a₁:=(_,_)) (a₂:=(_,_)) ?_),?_⟩
  ·rfl
  ·try clear eR
   simp only[z7_,p5_,and_true,true_and]
   repeat' apply And.intro
   all_goals first|exact True.intro|omega|rfl
noncomputable def bwsN_X (h_:List (Nat×Bool)):=y5_ [] (z8_ p_ cl0 ⟨true,bs h_++([(14,⟨.c (.slice none 0 0),none⟩)])⟩ (y1_ ([])) 60 38 ([.pt 0 0,.c (str [])]) ([some ⟨56,true,[.pt 0 0,.c (.slice none 0 0)]⟩]))
theorem bwsN_1:bwsN_X []=some ((AV.tu [(AV.c ((Value.int .i64 0))),
 (AV.c Value.nilIface)]),[(.some ⟨56,true,[(AV.pt 0 0),
 (AV.c ((Value.slice .none 0 0)))]⟩)],[(((0:Nat):Nat)<((1:Nat))),
 y0_ ((AV.c ((Value.slice .none 0 0)))) ((AV.c ((Value.slice .none 0 0)))),
 (((2:Nat):Nat)≤((2:Nat)))]):=by kernel_rfl
theorem bwsN_all:∃(h:Hints) (p:List Prop),y5_ [] (z8_ p_ cl0 h (y1_ ([])) 60 38 ([.pt 0 0,.c (str [])]) ([some ⟨56,true,[.pt 0 0,.c (.slice none 0 0)]⟩]))=some (.tu [.c (.int .i64 0),.c .nilIface],[some ⟨56,true,[.pt 0 0,.c (.slice none 0 0)]⟩],p)∧z7_ p:=by
  have eR:=bwsN_1
  refine⟨_,_,eR.trans (congrArg (fun r:AV×Heap=>some (r.1,r.2,_)) (a₁:=(_,_)) (a₂:=(_,_)) ?_),?_⟩
  ·rfl
  ·try clear eR
   simp only[z7_,and_true,true_and]
   repeat' apply And.intro
   all_goals first|exact True.intro|omega|rfl
def wsSpec:HSpec
  | [.pt 0 0,.c (.string s)],[some ⟨t,true,[.pt 0 0,.sl 1 0 n]⟩,some ⟨u,false,l⟩]=>if t=56∧u=5 then
      some (.tu [.c (.int .i64 (sb s).length),.c .nilIface],[some ⟨56,true,[.pt 0 0,.sl 2 0 (n+(sb s).length)]⟩,none,some ⟨5,false,l.take n++z6_ (sb s)⟩],[n≤l.length,n+(sb s).length≤140737488355328])
    else none
  | [.pt 0 0,.c (.string s)],[some ⟨t,true,[.pt 0 0,.c (.slice none 0 0)]⟩]=>if t=56 then
      some (.tu [.c (.int .i64 (sb s).length),.c .nilIface],[some ⟨56,true,[.pt 0 0,.sl 1 0 (sb s).length]⟩,some ⟨5,false,z6_ (sb s)⟩],[(sb s).length≤140737488355328])
    else none
  | [.pt 0 0,.c (.string s)],[some ⟨t,true,[.c (.pointer none),.c (.slice none 0 0)]⟩]=>if t=56 then
      some (.tu [.c (.int .i64 (sb s).length),.c .nilIface],[some ⟨56,true,[.pt 0 0,.sl 1 0 (sb s).length]⟩,some ⟨5,false,z6_ (sb s)⟩],[(sb s).length≤140737488355328])
    else none
  |_,_=>none
theorem ws_ok:u0_ p_ 38 wsSpec:=by
  refine n6_ mixed w6_ fun args hp r hp' q hs hq=>?_
  unfold wsSpec at hs
  split at hs
  ·rename_i s t n u l
   split at hs
   ·rename_i ht
    obtain⟨rfl,rfl⟩:=ht
    simp only[oi_]at hs
    obtain⟨rfl,rfl,rfl⟩:=hs
    obtain⟨h1,h2,_⟩:=hq
    obtain⟨⟨⟨x⟩⟩,rfl⟩:∃b:ByteArray,b=s:=⟨s,rfl⟩
    obtain⟨h,p,e,hp⟩:=bwsU_all x n l h1 h2
    exact⟨_,_,_,_,e,hp⟩
   ·simp at hs
  ·rename_i s t
   split at hs
   ·rename_i ht
    subst ht
    simp only[oi_]at hs
    obtain⟨rfl,rfl,rfl⟩:=hs
    obtain⟨⟨⟨x⟩⟩,rfl⟩:∃b:ByteArray,b=s:=⟨s,rfl⟩
    obtain⟨h,p,e,hp⟩:=bwsE_all x hq.1
    exact⟨_,_,_,_,e,hp⟩
   ·simp at hs
  ·rename_i s t
   split at hs
   ·rename_i ht
    subst ht
    simp only[oi_]at hs
    obtain⟨rfl,rfl,rfl⟩:=hs
    obtain⟨⟨⟨x⟩⟩,rfl⟩:∃b:ByteArray,b=s:=⟨s,rfl⟩
    obtain⟨h,p,e,hp⟩:=bwsF_all x hq.1
    exact⟨_,_,_,_,e,hp⟩
   ·simp at hs
  ·simp at hs
def ws0Spec:HSpec
  | [.pt 0 0,.c (.string s)],[some ⟨t,true,[.pt 0 0,.c (.slice none 0 0)]⟩]=>if t=56 then
      some (.tu [.c (.int .i64 0),.c .nilIface],[some ⟨56,true,[.pt 0 0,.c (.slice none 0 0)]⟩],[sb s=[]])
    else none
  |_,_=>none
theorem ws0_ok:u0_ p_ 38 ws0Spec:=by
  refine n6_ mixed w6_ fun args hp r hp' q hs hq=>?_
  unfold ws0Spec at hs
  split at hs
  ·rename_i s t
   split at hs
   ·rename_i ht
    subst ht
    simp only[oi_]at hs
    obtain⟨rfl,rfl,rfl⟩:=hs
    obtain⟨⟨⟨x⟩⟩,rfl⟩:∃b:ByteArray,b=s:=⟨s,rfl⟩
    obtain rfl:x=[]:=hq.1
    obtain⟨h,p,e,hp⟩:=bwsN_all
    exact⟨_,_,_,_,e,hp⟩
   ·simp at hs
  ·simp at hs
noncomputable def bwbU_X (c:UInt8)(n:Nat)(l:List AV)(h_:List (Nat×Bool)):=y5_ [2] (z8_ p_ cl0 ⟨true,bs h_++([])⟩ (y1_ ([])) 60 56 ([.pt 0 0,t4_ c]) ([some ⟨56,true,[.pt 0 0,.sl 1 0 n]⟩,some ⟨5,false,l⟩]))
theorem bwbU_1 (c:UInt8)(n:Nat)(l:List AV):bwbU_X c n l []=some ((AV.c Value.nilIface),[(.some ⟨56,true,[(AV.pt 0 0),
 (AV.sl 3 0 (n+(1:Nat)))]⟩),
 .none,
 .none,
 (.some ⟨5,false,(List.take n l++List.take (1:Nat) (List.drop (0:Nat) ([AV.c (Value.int IntKind.u8 (↑c.toNat:Int))]++[])))⟩)],[(((0:Nat):Nat)<((1:Nat))),
 (((1:Nat):Nat)≤((1:Nat))),
 (((n+(1:Nat))*(1:Nat):Nat)≤((140737488355328:Nat))),
 ((n+(1:Nat):Nat)≤((4611686018427387904:Nat))),
 ((n:Nat)≤(l.length)),
 (((2:Nat):Nat)≤((2:Nat)))]):=by kernel_rfl
theorem bwbU_all (c:UInt8)(n:Nat)(l:List AV)(hn:n≤l.length)(hb:n+1≤140737488355328):∃(h:Hints) (p:List Prop),y5_ [2] (z8_ p_ cl0 h (y1_ ([])) 60 56 ([.pt 0 0,t4_ c]) ([some ⟨56,true,[.pt 0 0,.sl 1 0 n]⟩,some ⟨5,false,l⟩]))=some (.c .nilIface,[some ⟨56,true,[.pt 0 0,.sl 3 0 (n+1)]⟩,none,none,some ⟨5,false,l.take n++z6_ [c]⟩],p)∧z7_ p:=by
  have eR:=bwbU_1 c n l
  refine⟨_,_,eR.trans (congrArg (fun r:AV×Heap=>some (r.1,r.2,_)) (a₁:=(_,_)) (a₂:=(_,_)) ?_),?_⟩
  ·rfl
  ·try clear eR
   simp only[z7_,p5_,and_true,true_and]
   repeat' apply And.intro
   all_goals first|exact True.intro|omega|rfl
noncomputable def bwbE_X (c:UInt8)(h_:List (Nat×Bool)):=y5_ [1] (z8_ p_ cl0 ⟨true,bs h_++([])⟩ (y1_ ([])) 60 56 ([.pt 0 0,t4_ c]) ([some ⟨56,true,[.pt 0 0,.c (.slice none 0 0)]⟩]))
theorem bwbE_1 (c:UInt8):bwbE_X c []=some ((AV.c Value.nilIface),[(.some ⟨56,true,[(AV.pt 0 0),
 (AV.sl 2 0 1)]⟩),
 .none,
 (.some ⟨5,false,[(AV.c ((Value.int .u8 ((↑c.toNat:Int)))))]⟩)],[(((0:Nat):Nat)<((1:Nat))),
 (((1:Nat):Nat)≤((1:Nat))),
 (((1:Nat):Nat)≤((140737488355328:Nat))),
 (((1:Nat):Nat)≤((4611686018427387904:Nat))),
 (((2:Nat):Nat)≤((2:Nat)))]):=by kernel_rfl
theorem bwbE_all (c:UInt8):∃(h:Hints) (p:List Prop),y5_ [1] (z8_ p_ cl0 h (y1_ ([])) 60 56 ([.pt 0 0,t4_ c]) ([some ⟨56,true,[.pt 0 0,.c (.slice none 0 0)]⟩]))=some (.c .nilIface,[some ⟨56,true,[.pt 0 0,.sl 2 0 1]⟩,none,some ⟨5,false,z6_ [c]⟩],p)∧z7_ p:=by
  have eR:=bwbE_1 c
  refine⟨_,_,eR.trans (congrArg (fun r:AV×Heap=>some (r.1,r.2,_)) (a₁:=(_,_)) (a₂:=(_,_)) ?_),?_⟩
  ·rfl
  ·try clear eR
   simp only[z7_,p5_,and_true,true_and]
   repeat' apply And.intro
   all_goals first|exact True.intro|omega|rfl
noncomputable def bwbF_X (c:UInt8)(h_:List (Nat×Bool)):=y5_ [1] (z8_ p_ cl0 ⟨true,bs h_++([])⟩ (y1_ ([])) 60 56 ([.pt 0 0,t4_ c]) ([some ⟨56,true,[.c (.pointer none),.c (.slice none 0 0)]⟩]))
theorem bwbF_1 (c:UInt8):bwbF_X c []=some ((AV.c Value.nilIface),[(.some ⟨56,true,[(AV.pt 0 0),
 (AV.sl 2 0 1)]⟩),
 .none,
 (.some ⟨5,false,[(AV.c ((Value.int .u8 ((↑c.toNat:Int)))))]⟩)],[(((0:Nat):Nat)<((1:Nat))),
 (((1:Nat):Nat)≤((1:Nat))),
 (((1:Nat):Nat)≤((140737488355328:Nat))),
 (((1:Nat):Nat)≤((4611686018427387904:Nat))),
 (((2:Nat):Nat)≤((2:Nat)))]):=by kernel_rfl
theorem bwbF_all (c:UInt8):∃(h:Hints) (p:List Prop),y5_ [1] (z8_ p_ cl0 h (y1_ ([])) 60 56 ([.pt 0 0,t4_ c]) ([some ⟨56,true,[.c (.pointer none),.c (.slice none 0 0)]⟩]))=some (.c .nilIface,[some ⟨56,true,[.pt 0 0,.sl 2 0 1]⟩,none,some ⟨5,false,z6_ [c]⟩],p)∧z7_ p:=by
  have eR:=bwbF_1 c
  refine⟨_,_,eR.trans (congrArg (fun r:AV×Heap=>some (r.1,r.2,_)) (a₁:=(_,_)) (a₂:=(_,_)) ?_),?_⟩
  ·rfl
  ·try clear eR
   simp only[z7_,p5_,and_true,true_and]
   repeat' apply And.intro
   all_goals first|exact True.intro|omega|rfl
def wbSpec:HSpec
  | [.pt 0 0,.c (.int .u8 z)],[some ⟨t,true,[.pt 0 0,.sl 1 0 n]⟩,some ⟨u,false,l⟩]=>if t=56∧u=5 then
      some (.c .nilIface,[some ⟨56,true,[.pt 0 0,.sl 3 0 (n+1)]⟩,none,none,some ⟨5,false,l.take n++z6_ [UInt8.ofNat z.toNat]⟩],[0≤z,z<256,n≤l.length,n+1≤140737488355328])
    else none
  | [.pt 0 0,.c (.int .u8 z)],[some ⟨t,true,[.pt 0 0,.c (.slice none 0 0)]⟩]=>if t=56 then
      some (.c .nilIface,[some ⟨56,true,[.pt 0 0,.sl 2 0 1]⟩,none,some ⟨5,false,z6_ [UInt8.ofNat z.toNat]⟩],[0≤z,z<256])
    else none
  | [.pt 0 0,.c (.int .u8 z)],[some ⟨t,true,[.c (.pointer none),.c (.slice none 0 0)]⟩]=>if t=56 then
      some (.c .nilIface,[some ⟨56,true,[.pt 0 0,.sl 2 0 1]⟩,none,some ⟨5,false,z6_ [UInt8.ofNat z.toNat]⟩],[0≤z,z<256])
    else none
  |_,_=>none
theorem wb_ok:u0_ p_ 56 wbSpec:=by
  refine n6_ mixed w6_ fun args hp r hp' q hs hq=>?_
  unfold wbSpec at hs
  split at hs
  ·rename_i z t n u l
   split at hs
   ·rename_i ht
    obtain⟨rfl,rfl⟩:=ht
    simp only[oi_]at hs
    obtain⟨rfl,rfl,rfl⟩:=hs
    obtain⟨h0,h1,h2,h3,_⟩:=hq
    obtain⟨c,rfl⟩:=u8_cast h0 h1
    rw[Int.toNat_natCast,UInt8.ofNat_toNat]
    obtain⟨h,p,e,hp⟩:=bwbU_all c n l h2 h3
    exact⟨_,_,_,_,e,hp⟩
   ·simp at hs
  ·rename_i z t
   split at hs
   ·rename_i ht
    subst ht
    simp only[oi_]at hs
    obtain⟨rfl,rfl,rfl⟩:=hs
    obtain⟨h0,h1,_⟩:=hq
    obtain⟨c,rfl⟩:=u8_cast h0 h1
    rw[Int.toNat_natCast,UInt8.ofNat_toNat]
    obtain⟨h,p,e,hp⟩:=bwbE_all c
    exact⟨_,_,_,_,e,hp⟩
   ·simp at hs
  ·rename_i z t
   split at hs
   ·rename_i ht
    subst ht
    simp only[oi_]at hs
    obtain⟨rfl,rfl,rfl⟩:=hs
    obtain⟨h0,h1,_⟩:=hq
    obtain⟨c,rfl⟩:=u8_cast h0 h1
    rw[Int.toNat_natCast,UInt8.ofNat_toNat]
    obtain⟨h,p,e,hp⟩:=bwbF_all c
    exact⟨_,_,_,_,e,hp⟩
   ·simp at hs
  ·simp at hs
end Go.Proofs.YtmjldphagbobpaaDoor
