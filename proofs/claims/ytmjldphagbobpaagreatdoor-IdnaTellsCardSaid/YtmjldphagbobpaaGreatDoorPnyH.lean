import Derived.Test.YtmjldphagbobpaaGreatDoorPnyD
import Derived.Test.YtmjldphagbobpaaGreatDoorLevQ
import Derived.Test.YtmjldphagbobpaaGreatDoorInts
set_option linter.unusedVariables false
set_option linter.unusedSimpArgs false
namespace Go.Proofs.YtmjldphagbobpaaGreatDoor
open IntKind (i64 u8 i32 u32 u64)
open _root_.Go.Proofs.Tryz renaming prog→p_
open Go.RowKit Pny
set_option maxRecDepth 100000
noncomputable def clWd:CallT:=q4_ p_ (t4_ [(94,digitSpec)]) 500 8
theorem clWd_ok:x3_ p_ clWd:=t3_ mixed (y4_ rdigit_ok w3_) 500 8
def woI (n:Int):Int:=if m5_ n 36≥10 then m5_ n 36-10 else if m5_ n 36≥0 then m5_ n 36+26 else-1
def woSpec:Spec:=byteSpec fun n=> .int .i64 (woI n)
theorem rwo_all (n d:Int)(h0:0≤n)(h1:n<256)(hd:m5_ n 36=d)(d0: -1≤d)(d1:d≤35):∃(h:Hints) (p:List Prop),y0_ p_ 81 (z9_ p_ clWd h (y1_ ([])) 60 81 ([.c (.int .u8 n)]) ([]))=some (.c (.int .i64 (woI n)),p)∧z7_ p:=by
  refine y9_ (decide (d≥(10:Int))) (fun hc7=>⟨⟨true,bs [(7,true)]++([(5,⟨.c (.int .i64 d),none⟩)])⟩,[(0:Int)≤n,
 (n:Int)<256,
 ((m5_ n (36:Int):Int))=(d),
 decide ((d:Int)≥10)=true,
 (i64.min:Int)≤d-10,
 (d-10:Int)≤i64.max],Eq.trans (b:=some ((AV.c ((Value.int .i64 (d-(10:Int))))),_)) (by kernel_rfl) (congrArg (fun r=>some (r,_)) ?_),?_⟩)
   (fun hc7=>y9_ (decide (d≥(0:Int))) (fun hc11=>⟨⟨true,bs [(7,false),(11,true)]++([(5,⟨.c (.int .i64 d),none⟩)])⟩,[(0:Int)≤n,
 (n:Int)<256,
 ((m5_ n (36:Int):Int))=(d),
 decide ((d:Int)≥10)=false,
 decide ((d:Int)≥0)=true,
 (i64.min:Int)≤d+26,
 (d+26:Int)≤i64.max],Eq.trans (b:=some ((AV.c ((Value.int .i64 (d+(26:Int))))),_)) (by kernel_rfl) (congrArg (fun r=>some (r,_)) ?_),?_⟩)
   (fun hc11=>⟨⟨true,bs [(7,false),(11,false)]++([(5,⟨.c (.int .i64 d),none⟩)])⟩,[(0:Int)≤n,
 (n:Int)<256,
 ((m5_ n (36:Int):Int))=(d),
 decide ((d:Int)≥10)=false,
 decide ((d:Int)≥0)=false],Eq.trans (b:=some ((AV.c ((Value.int .i64 (-1)))),_)) (by kernel_rfl) (congrArg (fun r=>some (r,_)) ?_),?_⟩))
  all_goals try simp only[dz]at hc7
  all_goals try simp only[dz]at hc11
  any_goals(
    unfold woI
    rw[hd]
    first
      |(rw[if_pos hc7];done)
      |(rw[if_neg hc7,if_pos hc11];done)
      |(rw[if_neg hc7,if_neg hc11];done)
    done)
  all_goals try simp(disch:=omega) only[std]
  all_goals repeat' apply And.intro
  all_goals first|exact True.intro|omega|with_reducible (first|rfl|assumption)|exact hd|rfl
theorem digit_bd (n:Int): -1≤m5_ n 36∧m5_ n 36≤35:=by
  unfold m5_ worthI
  repeat' split
  all_goals omega
theorem pwo_ok:x8_ p_ 81 woSpec:=by
  refine w1_ mixed clWd_ok fun args r q hs hq=>?_
  unfold woSpec byteSpec at hs
  split at hs
  ·rename_i n
   simp only[oi_]at hs
   obtain⟨rfl,rfl⟩:=hs
   obtain⟨h0,h1,_⟩:=hq
   obtain⟨hh,q,e,hp⟩:=rwo_all n _ h0 h1 rfl (digit_bd n).1 (digit_bd n).2
   exact⟨_,_,_,_,z3_,e,hp⟩
  ·simp at hs
def bndSpec:Spec
  | [.c (.int .i64 j),.c (.int .i64 b)]=>some (.c (.int .i64 (bnd j.toNat b.toNat)),[0≤j,j≤200000,0≤b,b≤100000])
  |_=>none
noncomputable def rbd_X (j b:Nat)(h_:List (Nat×Bool)):=y0_ p_ 82 (z9_ p_ cl0 ⟨true,bs h_++([(10,⟨.c (.int .i64 (min 26 (36*(j+1)-b):Int)),none⟩),(11,⟨.c (.int .i64 (bnd j b)),none⟩)])⟩ (y1_ ([])) 60 82 ([.c (.int .i64 j),.c (.int .i64 b)]) ([]))
theorem rbd_1 (j b:Nat):rbd_X j b []=some ((AV.c ((Value.int .i64 ((↑(bnd j b):Int))))),[(i64.min:Int)≤↑j+1,
 (↑j+1:Int)≤i64.max,
 (i64.min:Int)≤36*(↑j+1),
 (36*(↑j+1):Int)≤i64.max,
 (i64.min:Int)≤36*(↑j+1)-↑b,
 (36*(↑j+1)-↑b:Int)≤i64.max,
 ((if(36:Int)*((↑j:Int)+(1:Int))-(↑b:Int)<(26:Int)then(36:Int)*((↑j:Int)+(1:Int))-(↑b:Int)else(26:Int):Int))=(min (26:Int) ((36:Int)*((↑j:Int)+(1:Int))-(↑b:Int))),
 ((if min (26:Int) ((36:Int)*((↑j:Int)+(1:Int))-(↑b:Int))>(1:Int)then min (26:Int) ((36:Int)*((↑j:Int)+(1:Int))-(↑b:Int))else(1:Int):Int))=((↑(bnd j b):Int))]):=by kernel_rfl
theorem rbd_all (j b:Nat)(hj:j≤200000)(hb:b≤100000):∃(h:Hints) (p:List Prop),y0_ p_ 82 (z9_ p_ cl0 h (y1_ ([])) 60 82 ([.c (.int .i64 j),.c (.int .i64 b)]) ([]))=some (.c (.int .i64 (bnd j b)),p)∧z7_ p:=by
  have eR:=rbd_1 j b
  refine⟨_,_,eR.trans (congrArg (fun r=>some (r,_)) ?_),?_⟩
  ·rfl
  ·try clear eR
   unfold bnd
   simp only[z7_,q8_,q9_]
   repeat' apply And.intro
   all_goals first|exact True.intro|omega|(split<;>omega)
theorem rbnd_ok:x8_ p_ 82 bndSpec:=by
  refine w1_ mixed w4_ fun args r q hs hq=>?_
  unfold bndSpec at hs
  split at hs
  ·rename_i j b
   simp only[oi_]at hs
   obtain⟨rfl,rfl⟩:=hs
   simp only[z7_,and_true]at hq ⊢
   obtain⟨h0,h1,h2,h3⟩:=hq
   obtain⟨j,rfl⟩:∃k:Nat,j=(k:Int):=⟨j.toNat,by omega⟩
   obtain⟨b,rfl⟩:∃k:Nat,b=(k:Int):=⟨b.toNat,by omega⟩
   obtain⟨hh,q,e,hp⟩:=rbd_all j b (by omega) (by omega)
   exact⟨_,_,_,_,z3_,e,hp⟩
  ·simp at hs
def okI (c:Int):Bool:=decide (0≤c)&&okC c.toNat
def g3_:Spec
  | [.c (.int .i64 c)]=>some (.c (.bool (okI c)),[])
  |_=>none
theorem okI_eq (c:Int):okI c=(decide (c≥0)&&(decide (c≤1114111)&&(decide (c<55296)||decide (c>57343)))):=by
  rw[Bool.eq_iff_iff]
  unfold okI okC
  simp only[Bool.and_eq_true,Bool.or_eq_true,Bool.not_eq_true',Bool.and_eq_false_iff,decide_eq_true_eq,decide_eq_false_iff_not]
  omega
theorem rsg_all (c:Int):∃(h:Hints) (p:List Prop),y0_ p_ 61 (z9_ p_ cl0 h (y1_ ([])) 60 61 ([.c (.int .i64 c)]) ([]))=some (.c (.bool (okI c)),p)∧z7_ p:=by
  refine y9_ (decide (c≥(0:Int))) (fun hc4=>y9_ (decide (c≤(1114111:Int))) (fun hc7=>y9_ (decide (c<(55296:Int))) (fun hc11=>⟨⟨true,bs [(4,true),(7,true),(11,true)]⟩,[decide ((c:Int)≥0)=true,
 decide ((c:Int)≤1114111)=true,
 decide ((c:Int)<55296)=true],Eq.trans (b:=some ((AV.c ((Value.bool true))),_)) (by kernel_rfl) (congrArg (fun r=>some (r,_)) ?_),?_⟩)
    (fun hc11=>⟨⟨true,bs [(4,true),(7,true),(11,false)]⟩,[decide ((c:Int)≥0)=true,
 decide ((c:Int)≤1114111)=true,
 decide ((c:Int)<55296)=false],Eq.trans (b:=some ((AV.c ((Value.bool (decide (c>(57343:Int)))))),_)) (by kernel_rfl) (congrArg (fun r=>some (r,_)) ?_),?_⟩))
    (fun hc7=>⟨⟨true,bs [(4,true),(7,false)]⟩,[decide ((c:Int)≥0)=true,
 decide ((c:Int)≤1114111)=false],Eq.trans (b:=some ((AV.c ((Value.bool false))),_)) (by kernel_rfl) (congrArg (fun r=>some (r,_)) ?_),?_⟩))
    (fun hc4=>⟨⟨true,bs [(4,false)]⟩,[decide ((c:Int)≥0)=false],Eq.trans (b:=some ((AV.c ((Value.bool false))),_)) (by kernel_rfl) (congrArg (fun r=>some (r,_)) ?_),?_⟩)
  all_goals try simp only[dz]at hc4
  all_goals try simp only[dz]at hc7
  all_goals try simp only[dz]at hc11
  any_goals(
    rw[okI_eq]
    first
      |(rw[decide_eq_true hc4,decide_eq_true hc7,decide_eq_true hc11];rfl)
      |(rw[decide_eq_true hc4,decide_eq_true hc7,decide_eq_false hc11];rfl)
      |(rw[decide_eq_true hc4,decide_eq_false hc7];rfl)
      |(rw[decide_eq_false hc4];rfl)
    done)
  all_goals try simp(disch:=omega) only[std]
  all_goals repeat' apply And.intro
  all_goals first|exact True.intro|omega|with_reducible (first|rfl|assumption)|rfl
theorem rsg_ok:x8_ p_ 61 g3_:=by
  refine w1_ mixed w4_ fun args r q hs hq=>?_
  unfold g3_ at hs
  split at hs
  ·rename_i c
   simp only[oi_]at hs
   obtain⟨rfl,rfl⟩:=hs
   simp only[z7_,and_true]at hq ⊢
   obtain⟨hh,q,e,hp⟩:=rsg_all c
   exact⟨_,_,_,_,z3_,e,hp⟩
  ·simp at hs
def rdV (x:Option (Nat×Nat)):Nat×Nat:=x.getD (0,0)
def rdSpec:Spec
  | [.c (.string s),.c (.int .i64 b)]=>some (.tu [.c (.int .i64 (rdV (rdB b.toNat 0 1 0 (sb s))).1),.c (.int .i64 (rdV (rdB b.toNat 0 1 0 (sb s))).2)],[0≤b,b≤100000,(sb s).length≤100000])
  |_=>none
noncomputable def clNb:CallT:=q4_ p_ (t4_ [(81,woSpec),(82,bndSpec)]) 500 8
theorem clNb_ok:x3_ p_ clNb:=t3_ mixed (y4_ pwo_ok (y4_ rbnd_ok w3_)) 500 8
def nbS (l:List UInt8)(b a w j:Nat):St:=⟨frame 43 [(0,.c (str l)),(1,.c (.int .i64 b)),(6,.c (.int .i64 a)),(7,.c (.int .i64 w)),(8,.c (.int .i64 j))],[]⟩
def nbR (v k:Nat):St:=⟨frame 43 [(4,.c (.int .i64 v)),(5,.c (.int .i64 k))],[]⟩
noncomputable def nbA_X (l:List UInt8)(b a w j d t a1 w1:Nat)(h_:List (Nat×Bool)):=s4_ (⟨[],[4,5],[]⟩) (r3_ p_ clNb ⟨true,bs h_++(bs [(14,true),(22,true)]++[(20,⟨.c (.int .i64 (-1)),none⟩),(27,⟨.c (.int .i64 a1),none⟩),(32,⟨.c (.int .i64 t),none⟩),(42,⟨.c (.int .i64 w1),none⟩)])⟩ (y1_ ([])) 60 (z2_ p_ 60 4) (nbS l b a w j))
theorem nbA_1 (l:List UInt8)(b a w j d t a1 w1:Nat):nbA_X l b a w j d t a1 w1 []=some (.ret,nbR 0 0,[decide ((↑j:Int)<↑l.length)=true,
 (0:Int)≤↑j,
 (↑j:Int)<↑l.length,
 (((0:Int):Int)≤((↑(l.getD j 0).toNat:Int))),
 (((↑(l.getD j 0).toNat:Int):Int)<((256:Int))),
 ((woI (↑(l.getD j 0).toNat:Int):Int))=(-1),
 (true)=true]):=by kernel_rfl
noncomputable def nbB_X (l:List UInt8)(b a w j d t a1 w1:Nat)(h_:List (Nat×Bool)):=s4_ (⟨[],[4,5],[]⟩) (r3_ p_ clNb ⟨true,bs h_++(bs [(14,true),(22,false),(29,true)]++[(20,⟨.c (.int .i64 d),none⟩),(27,⟨.c (.int .i64 a1),none⟩),(32,⟨.c (.int .i64 t),none⟩),(42,⟨.c (.int .i64 w1),none⟩)])⟩ (y1_ ([])) 60 (z2_ p_ 60 4) (nbS l b a w j))
theorem nbB_1 (l:List UInt8)(b a w j d t a1 w1:Nat):nbB_X l b a w j d t a1 w1 []=some (.ret,nbR 0 0,[decide ((↑j:Int)<↑l.length)=true,
 (0:Int)≤↑j,
 (↑j:Int)<↑l.length,
 (((0:Int):Int)≤((↑(l.getD j 0).toNat:Int))),
 (((↑(l.getD j 0).toNat:Int):Int)<((256:Int))),
 ((woI (↑(l.getD j 0).toNat:Int):Int))=((↑d:Int)),
 (false)=false,
 (i64.min:Int)≤↑d*↑w,
 (↑d*↑w:Int)≤i64.max,
 (i64.min:Int)≤↑a+↑d*↑w,
 (↑a+↑d*↑w:Int)≤i64.max,
 (↑a+↑d*↑w:Int)=↑a1,
 decide ((↑a1:Int)>2147483647)=true]):=by kernel_rfl
noncomputable def nbC_X (l:List UInt8)(b a w j d t a1 w1:Nat)(h_:List (Nat×Bool)):=s4_ (⟨[],[4,5],[]⟩) (r3_ p_ clNb ⟨true,bs h_++(bs [(14,true),(22,false),(29,false),(35,true)]++[(20,⟨.c (.int .i64 d),none⟩),(27,⟨.c (.int .i64 a1),none⟩),(32,⟨.c (.int .i64 t),none⟩),(42,⟨.c (.int .i64 w1),none⟩)])⟩ (y1_ ([])) 60 (z2_ p_ 60 4) (nbS l b a w j))
theorem nbC_1 (l:List UInt8)(b a w j d t a1 w1:Nat):nbC_X l b a w j d t a1 w1 []=some (.ret,nbR a1 (j+1),[decide ((↑j:Int)<↑l.length)=true,
 (0:Int)≤↑j,
 (↑j:Int)<↑l.length,
 (((0:Int):Int)≤((↑(l.getD j 0).toNat:Int))),
 (((↑(l.getD j 0).toNat:Int):Int)<((256:Int))),
 ((woI (↑(l.getD j 0).toNat:Int):Int))=((↑d:Int)),
 (false)=false,
 (i64.min:Int)≤↑d*↑w,
 (↑d*↑w:Int)≤i64.max,
 (i64.min:Int)≤↑a+↑d*↑w,
 (↑a+↑d*↑w:Int)≤i64.max,
 (↑a+↑d*↑w:Int)=↑a1,
 decide ((↑a1:Int)>2147483647)=false,
 (0:Int)≤↑j,
 (↑j:Int)≤200000,
 (0:Int)≤↑b,
 (↑b:Int)≤100000,
 (((↑(bnd j b):Int):Int))=((↑t:Int)),
 decide ((↑d:Int)<↑t)=true,
 (i64.min:Int)≤↑j+1,
 (↑j+1:Int)≤i64.max]):=by kernel_rfl
noncomputable def nbD_X (l:List UInt8)(b a w j d t a1 w1:Nat)(h_:List (Nat×Bool)):=s4_ (⟨[],[0,1,6,7,8],[]⟩) (r3_ p_ clNb ⟨true,bs h_++(bs [(14,true),(22,false),(29,false),(35,false)]++[(20,⟨.c (.int .i64 d),none⟩),(27,⟨.c (.int .i64 a1),none⟩),(32,⟨.c (.int .i64 t),none⟩),(42,⟨.c (.int .i64 w1),none⟩)])⟩ (y1_ ([])) 60 (z2_ p_ 60 4) (nbS l b a w j))
theorem nbD_1 (l:List UInt8)(b a w j d t a1 w1:Nat):nbD_X l b a w j d t a1 w1 []=some (.normal,nbS l b a1 w1 (j+1),[decide ((↑j:Int)<↑l.length)=true,
 (0:Int)≤↑j,
 (↑j:Int)<↑l.length,
 (((0:Int):Int)≤((↑(l.getD j 0).toNat:Int))),
 (((↑(l.getD j 0).toNat:Int):Int)<((256:Int))),
 ((woI (↑(l.getD j 0).toNat:Int):Int))=((↑d:Int)),
 (false)=false,
 (i64.min:Int)≤↑d*↑w,
 (↑d*↑w:Int)≤i64.max,
 (i64.min:Int)≤↑a+↑d*↑w,
 (↑a+↑d*↑w:Int)≤i64.max,
 (↑a+↑d*↑w:Int)=↑a1,
 decide ((↑a1:Int)>2147483647)=false,
 (0:Int)≤↑j,
 (↑j:Int)≤200000,
 (0:Int)≤↑b,
 (↑b:Int)≤100000,
 (((↑(bnd j b):Int):Int))=((↑t:Int)),
 decide ((↑d:Int)<↑t)=false,
 (i64.min:Int)≤36-↑t,
 (36-↑t:Int)≤i64.max,
 (i64.min:Int)≤↑w*(36-↑t),
 (↑w*(36-↑t):Int)≤i64.max,
 (↑w*(36-↑t):Int)=↑w1,
 (i64.min:Int)≤↑j+1,
 (↑j+1:Int)≤i64.max]):=by kernel_rfl
noncomputable def nbZ_X (l:List UInt8)(b a w j d t a1 w1:Nat)(h_:List (Nat×Bool)):=s4_ (⟨[],[],[]⟩) (r3_ p_ clNb ⟨true,bs h_++(bs [(14,false)]++[(20,⟨.c (.int .i64 d),none⟩),(27,⟨.c (.int .i64 a1),none⟩),(32,⟨.c (.int .i64 t),none⟩),(42,⟨.c (.int .i64 w1),none⟩)])⟩ (y1_ ([])) 60 (z2_ p_ 60 4) (nbS l b a w j))
theorem nbZ_1 (l:List UInt8)(b a w j d t a1 w1:Nat):nbZ_X l b a w j d t a1 w1 []=some (.exit 0,⟨frame 43 [],[]⟩,[decide ((↑j:Int)<↑l.length)=false]):=by kernel_rfl
def nbEnd (b:Nat):Nat→Nat→Nat→List UInt8→Exit×St
  |_,_,_,[]=>(.exit 0,⟨frame 43 [],[]⟩)
  |j,w,a,c::r=>
   if wo c<0 then(.ret,nbR 0 0)
   else if a+(wo c).toNat*w>2147483647 then(.ret,nbR 0 0)
   else if(wo c).toNat<bnd j b then(.ret,nbR (a+(wo c).toNat*w) (j+1))
   else nbEnd b (j+1) (w*(36-bnd j b)) (a+(wo c).toNat*w) r
theorem nbEnd_cons (b j w a:Nat)(c:UInt8)(r:List UInt8):nbEnd b j w a (c::r)=if wo c<0 then(.ret,nbR 0 0)
    else if a+(wo c).toNat*w>2147483647 then(.ret,nbR 0 0)
    else if(wo c).toNat<bnd j b then(.ret,nbR (a+(wo c).toNat*w) (j+1))
    else nbEnd b (j+1) (w*(36-bnd j b)) (a+(wo c).toNat*w) r:=rfl
theorem nbEnd_is (b:Nat):∀(s:List UInt8) (j w a:Nat),(nbEnd b j w a s=(.exit 0,⟨frame 43 [],[]⟩)∧rdB b j w a s=none)∨(nbEnd b j w a s=(.ret,nbR 0 0)∧rdB b j w a s=none)∨∃v k,nbEnd b j w a s=(.ret,nbR v (k+j))∧rdB b j w a s=some (v,k)
  | [],j,w,a=> .inl ⟨rfl,rfl⟩
  |c::r,j,w,a=>by
   rw[nbEnd_cons,rdB_cons]
   split
   ·exact .inr (.inl ⟨rfl,rfl⟩)
   ·split
    ·exact .inr (.inl ⟨rfl,rfl⟩)
    ·split
     ·exact .inr (.inr ⟨_,1,by rw[Nat.add_comm 1 j],rfl⟩)
     ·rcases nbEnd_is b r (j+1) (w*(36-bnd j b)) (a+(wo c).toNat*w)with⟨e1,e2⟩|⟨e1,e2⟩|⟨v,k,e1,e2⟩
      ·rw[e1,e2];exact .inl ⟨rfl,rfl⟩
      ·rw[e1,e2];exact .inr (.inl ⟨rfl,rfl⟩)
      ·rw[e1,e2];exact .inr (.inr ⟨v,k+1,by rw[show k+(j+1)=k+1+j by omega],rfl⟩)
theorem nb_walk (b:Nat)(hb:b≤100000)(l:List UInt8)(hl:l.length≤100000):Tri Ext0 p_ (.loop (z2_ p_ 60 4)) (nbS l b 0 1 0) (nbEnd b 0 1 0 l).1 (nbEnd b 0 1 0 l).2:=by
  refine t7_ mixed clNb_ok (fun x:Nat×Nat×Nat=>nbS l b x.1 x.2.1 x.2.2) (fun x=>x.2.2≤l.length∧x.1≤2147483647∧x.2.1≤75161927680∧nbEnd b x.2.2 x.2.1 x.1 (l.drop x.2.2)=nbEnd b 0 1 0 l) (fun x=>l.length-x.2.2) (fun x hx=>?_) (0,1,0) ⟨Nat.zero_le _,by simp,by simp,rfl⟩
  obtain⟨a,w,j⟩:=x
  obtain⟨h1,h2,h3,h4⟩:=hx
  simp only at h1 h2 h3 h4 ⊢
  by_cases hj:j<l.length
  ·rw[e9_ l j hj,nbEnd_cons]at h4
   have h5:=(l.getD j 0).toNat_lt
   obtain⟨t1,t2⟩:=bnd_bd j b
   obtain⟨w1,w2⟩:=wo_bd (l.getD j 0)
   have hwo:woI (((l.getD j 0).toNat:Nat):Int)=wo (l.getD j 0):=rfl
   by_cases c1:wo (l.getD j 0)<0
   ·rw[if_pos c1]at h4
    rw[←h4]
    refine .inr ⟨by simp,_,_,_,_,_,z3_,by decide,nbA_1 l b a w j 0 0 0 0,?_⟩
    simp only[z7_,and_true,decide_eq_true_eq,Int.toNat_natCast,hwo]
    repeat' apply And.intro
    all_goals first|exact True.intro|omega|rfl
   ·rw[if_neg c1]at h4
    obtain⟨d,hd⟩:∃d:Nat,wo (l.getD j 0)=d:=⟨(wo (l.getD j 0)).toNat,by omega⟩
    rw[hd,Int.toNat_natCast]at h4
    have hd35:d≤35:=by omega
    have hdw:d*w≤35*75161927680:=Nat.mul_le_mul hd35 h3
    have e1:((d:Int)*(w:Int))=((d*w:Nat):Int):=by simp
    generalize hp:d*w=p at*
    by_cases c2:a+p>2147483647
    ·rw[if_pos c2]at h4
     rw[←h4]
     refine .inr ⟨by simp,_,_,_,_,_,z3_,by decide,nbB_1 l b a w j d 0 (a+p) 0,?_⟩
     simp only[z7_,and_true,decide_eq_true_eq,decide_eq_false_iff_not,Int.toNat_natCast,hwo,hd,e1,q8_,q9_]
     repeat' apply And.intro
     all_goals first|exact True.intro|omega|rfl
    ·rw[if_neg c2]at h4
     by_cases c3:d<bnd j b
     ·rw[if_pos c3]at h4
      rw[←h4]
      refine .inr ⟨by simp,_,_,_,_,_,z3_,by decide,nbC_1 l b a w j d (bnd j b) (a+p) 0,?_⟩
      simp only[z7_,and_true,decide_eq_true_eq,decide_eq_false_iff_not,Int.toNat_natCast,hwo,hd,e1,q8_,q9_]
      repeat' apply And.intro
      all_goals first|exact True.intro|omega|rfl
     ·rw[if_neg c3]at h4
      have hd1:1≤d:=by omega
      have hwp:w≤p:=by rw[←hp];exact Nat.le_mul_of_pos_left _ hd1
      have hww:w*(36-bnd j b)≤2147483647*35:=Nat.mul_le_mul (by omega) (by omega)
      have e2:((w:Int)*(36-(bnd j b:Int)))=((w*(36-bnd j b):Nat):Int):=by
        rw[show(36-(bnd j b:Int))=((36-bnd j b:Nat):Int)by omega]
        simp
      generalize hq:w*(36-bnd j b)=q at*
      refine .inl ⟨(a+p,q,j+1),⟨hj,by simp only;omega,by simp only;omega,h4⟩,by simp only;omega,_,_,_,_,_,z3_,by decide,nbD_1 l b a w j d (bnd j b) (a+p) q,?_⟩
      simp only[z7_,and_true,decide_eq_true_eq,decide_eq_false_iff_not,Int.toNat_natCast,hwo,hd,e1,e2,q8_,q9_]
      repeat' apply And.intro
      all_goals first|exact True.intro|omega|rfl
  ·rw[List.drop_of_length_le (by omega)]at h4
   rw[←h4]
   refine .inr ⟨by simp[nbEnd],_,_,_,_,_,z3_,by decide,nbZ_1 l b a w j 0 0 0 0,?_⟩
   simp only[z7_,and_true,decide_eq_false_iff_not]
   omega
noncomputable def nbLp (l:List UInt8)(b:Nat)(e:Exit)(R:St):List (Nat×Lp):=[(4,⟨z2_ p_ 60 4,⟨[],[0,1,6,7,8],[]⟩,nbS l b 0 1 0,e,R⟩)]
noncomputable def nbm1_X (l:List UInt8)(b v k:Nat)(h_:List (Nat×Bool)):=y0_ p_ 60 (z9_ p_ clNb ⟨true,bs h_++([])⟩ (y1_ (nbLp l b (.exit 0) ⟨frame 43 [],[]⟩)) 60 60 ([.c (str l),.c (.int .i64 b)]) ([]))
theorem nbm1_1 (l:List UInt8)(b v k:Nat):nbm1_X l b v k []=some ((AV.tu [(AV.c ((Value.int .i64 0))),
 (AV.c ((Value.int .i64 0)))]),[((z2_ p_ (60:FuncId) (4:Nat):Go.Code))=(z2_ p_ (60:FuncId) (4:Nat)),
 ((nbS l b (0:Nat) (1:Nat) (0:Nat):St))=(nbS l b (0:Nat) (1:Nat) (0:Nat))]):=by kernel_rfl
theorem nbm1_all (l:List UInt8)(b v k:Nat):∃(h:Hints) (p:List Prop),y0_ p_ 60 (z9_ p_ clNb h (y1_ (nbLp l b (.exit 0) ⟨frame 43 [],[]⟩)) 60 60 ([.c (str l),.c (.int .i64 b)]) ([]))=some (.tu [.c (.int .i64 0),.c (.int .i64 0)],p)∧z7_ p:=by
  have eR:=nbm1_1 l b v k
  refine⟨_,_,eR.trans (congrArg (fun r=>some (r,_)) ?_),?_⟩
  ·rfl
  ·try simp only[dz]at*
   try simp(disch:=omega) only[std,u3_,u6_]
   repeat' apply And.intro
   all_goals first|exact True.intro|omega|assumption|rfl|exact x5_ _
noncomputable def nbm2_X (l:List UInt8)(b v k:Nat)(h_:List (Nat×Bool)):=y0_ p_ 60 (z9_ p_ clNb ⟨true,bs h_++([])⟩ (y1_ (nbLp l b .ret (nbR v k))) 60 60 ([.c (str l),.c (.int .i64 b)]) ([]))
theorem nbm2_1 (l:List UInt8)(b v k:Nat):nbm2_X l b v k []=some ((AV.tu [(AV.c ((Value.int .i64 ((↑v:Int))))),
 (AV.c ((Value.int .i64 ((↑k:Int)))))]),[((z2_ p_ (60:FuncId) (4:Nat):Go.Code))=(z2_ p_ (60:FuncId) (4:Nat)),
 ((nbS l b (0:Nat) (1:Nat) (0:Nat):St))=(nbS l b (0:Nat) (1:Nat) (0:Nat))]):=by kernel_rfl
theorem nbm2_all (l:List UInt8)(b v k:Nat):∃(h:Hints) (p:List Prop),y0_ p_ 60 (z9_ p_ clNb h (y1_ (nbLp l b .ret (nbR v k))) 60 60 ([.c (str l),.c (.int .i64 b)]) ([]))=some (.tu [.c (.int .i64 v),.c (.int .i64 k)],p)∧z7_ p:=by
  have eR:=nbm2_1 l b v k
  refine⟨_,_,eR.trans (congrArg (fun r=>some (r,_)) ?_),?_⟩
  ·rfl
  ·try simp only[dz]at*
   try simp(disch:=omega) only[std,u3_,u6_]
   repeat' apply And.intro
   all_goals first|exact True.intro|omega|assumption|rfl|exact x5_ _
theorem rnb_ok:x8_ p_ 60 rdSpec:=by
  refine w1_ mixed clNb_ok fun args r q hs hq=>?_
  unfold rdSpec at hs
  split at hs
  ·rename_i l b
   simp only[oi_]at hs
   obtain⟨rfl,rfl⟩:=hs
   obtain⟨⟨⟨l⟩⟩,rfl⟩:∃b:ByteArray,b=l:=⟨l,rfl⟩
   simp only[q2_,z7_,and_true]at hq ⊢
   obtain⟨h0,h1,h2⟩:=hq
   obtain⟨b,rfl⟩:∃k:Nat,b=(k:Int):=⟨b.toNat,by omega⟩
   rw[Int.toNat_natCast]
   have hw:=nb_walk b (by omega) l h2
   rcases nbEnd_is b l 0 1 0 with⟨e1,e2⟩|⟨e1,e2⟩|⟨v,k,e1,e2⟩
   ·rw[e1]at hw
    rw[e2]
    obtain⟨hh,p,e,hp⟩:=nbm1_all l b 0 0
    exact⟨_,_,_,_,y3_ z3_ List.nodup_nil hw,e,hp⟩
   ·rw[e1]at hw
    rw[e2]
    obtain⟨hh,p,e,hp⟩:=nbm2_all l b 0 0
    exact⟨_,_,_,_,y3_ z3_ List.nodup_nil hw,e,hp⟩
   ·rw[e1]at hw
    rw[e2]
    obtain⟨hh,p,e,hp⟩:=nbm2_all l b v k
    exact⟨_,_,_,_,y3_ z3_ List.nodup_nil hw,e,hp⟩
  ·simp at hs
theorem s3_ (i:Nat):((i:Int)+1).toNat=i+1:=by omega
theorem a4_ {m:Nat}(n:Nat)(h:m≤9223372036854775807):i64.wrap ((m:Int).tdiv (n:Int))=((m/n:Nat):Int):=by
  rw[tdN (by omega),←Int.natCast_ediv]
  have:=Nat.div_le_self m n
  generalize m/n=q at*
  exact t9_ (by omega) (by omega)
theorem tmNat (m n:Nat):(m:Int).tmod (n:Int)=((m%n:Nat):Int):=by
  rw[tmN (by omega),←Int.natCast_emod]
def n7_:List UInt8:=[97,98,99,100,101,102,103,104,105,106,107,108,109,110,111,112,113,114,115,116,117,118,119,120,121,122,48,49,50,51,52,53,54,55,56,57]
theorem digL_at {d:Nat}(h:d<36):List.drop d (List.take (d+1) n7_)=[chr d]:=by
  have k:∀y:Fin 36,List.drop y.val (List.take (y.val+1) n7_)=[chr y.val]:=by decide+kernel
  exact k ⟨d,h⟩
noncomputable def clLb:CallT:=q4_ p_ (t4_ [(82,bndSpec)]) 500 8
theorem clLb_ok:x3_ p_ clLb:=t3_ mixed (y4_ rbnd_ok w3_) 500 8
def lbS (d b:Nat)(out:List UInt8)(j:Nat):St:=⟨frame 49 [(0,.c (.int .i64 d)),(1,.c (.int .i64 b)),(5,.c (str n7_)),(6,.c (str out)),(7,.c (.int .i64 j))],[]⟩
def lbR (z:List UInt8):St:=⟨frame 49 [(4,.c (str z))],[]⟩
theorem lbA_all (d b t r q c j:Nat)(out:List UInt8)(x:UInt8)(hj:j<40)(hb:b≤100000)(ht:bnd j b=t)(t1:1≤t)(t2:t≤26)(hdl:d≤2147483647)(hol:out.length≤1000)(hdg:n7_.length=36)(hd:d<t)(hx:List.drop d (List.take (d+1) n7_)=[x]):y7_ Ext0 p_ clLb (z2_ p_ 64 4) (lbS d b out j) (.ret) (lbR (out++[x])):=by
  refine⟨⟨true,(bs [(11,true),(19,true)]++[(16,⟨.c (.int .i64 t),none⟩)]++[(24,⟨.c (.int .i64 (d+1:Nat)),none⟩),(25,⟨.c (str [x]),none⟩)])⟩,_,60,⟨[],[4],[]⟩,[decide ((↑j:Int)<40)=true,
 (0:Int)≤↑j,
 (↑j:Int)≤200000,
 (0:Int)≤↑b,
 (↑b:Int)≤100000,
 (((↑(bnd j b):Int):Int))=((↑t:Int)),
 decide ((↑d:Int)<↑t)=true,
 (i64.min:Int)≤↑d+1,
 (↑d+1:Int)≤i64.max,
 (↑d+1:Int)=↑(d+1),
 (0:Int)≤↑d,
 (↑d:Int)≤↑(d+1),
 (↑(d+1):Int)≤↑(36:Nat),
 ((List.drop d (List.take (d+(1:Nat)) n7_):List UInt8))=([x]),
 ((out.length+(1:Nat):Nat)≤((9223372036854775807:Nat)))],z3_,by decide,by kernel_rfl,?_⟩
  all_goals try simp(disch:=omega) only[std,s3_,hdg]
  all_goals repeat' apply And.intro
  all_goals first|exact True.intro|omega|with_reducible (first|rfl|assumption)|exact congrArg (fun z:Nat=>(z:Int)) ht|exact hr|exact hq|exact ht|exact hdg|exact hx|rfl
theorem lbB_all (d b t r q c j:Nat)(out:List UInt8)(x:UInt8)(hj:j<40)(hb:b≤100000)(ht:bnd j b=t)(t1:1≤t)(t2:t≤26)(hdl:d≤2147483647)(hol:out.length≤1000)(hdg:n7_.length=36)(hd:¬d<t)(hr:((d-t:Nat):Int).tmod ((36-t:Nat):Int)=(r:Nat))(hq:i64.wrap (((d-t:Nat):Int).tdiv ((36-t:Nat):Int))=(q:Nat))(hc:t+r=c)(hc36:c<36)(hx:List.drop c (List.take (c+1) n7_)=[x]):y7_ Ext0 p_ clLb (z2_ p_ 64 4) (lbS d b out j) (.normal) (lbS q b (out++[x]) (j+1)):=by
  refine⟨⟨true,(bs [(11,true),(19,false)]++[(16,⟨.c (.int .i64 t),none⟩)]++[(30,⟨.c (.int .i64 (d-t:Nat)),none⟩),(32,⟨.c (.int .i64 (36-t:Nat)),none⟩),(33,⟨.c (.int .i64 r),some []⟩),(34,⟨.c (.int .i64 c),none⟩),(39,⟨.c (.int .i64 (c+1:Nat)),none⟩),(40,⟨.c (str [x]),none⟩),(44,⟨.c (.int .i64 (d-t:Nat)),none⟩),(46,⟨.c (.int .i64 (36-t:Nat)),none⟩),(47,⟨.c (.int .i64 q),some []⟩)])⟩,_,60,⟨[],[0,1,5,6,7],[]⟩,[decide ((↑j:Int)<40)=true,
 (0:Int)≤↑j,
 (↑j:Int)≤200000,
 (0:Int)≤↑b,
 (↑b:Int)≤100000,
 (((↑(bnd j b):Int):Int))=((↑t:Int)),
 decide ((↑d:Int)<↑t)=false,
 (i64.min:Int)≤↑d-↑t,
 (↑d-↑t:Int)≤i64.max,
 (↑d-↑t:Int)=↑(d-t),
 (i64.min:Int)≤36-↑t,
 (36-↑t:Int)≤i64.max,
 (36-↑t:Int)=↑(36-t),
 (↑((36:Nat)-t):Int)≠(0:Int),
 (((↑(d-t):Int).tmod (↑((36:Nat)-t):Int):Int))=((↑r:Int)),
 ((([ck ((↑((36:Nat)-t):Int)≠(0:Int))],AV.c (Value.int IntKind.i64 ((↑(d-t):Int).tmod (↑((36:Nat)-t):Int))),Cmd.nop).snd.snd.cells:List AV))=([]),
 (i64.min:Int)≤↑t+↑r,
 (↑t+↑r:Int)≤i64.max,
 (↑t+↑r:Int)=↑c,
 (i64.min:Int)≤↑c+1,
 (↑c+1:Int)≤i64.max,
 (↑c+1:Int)=↑(c+1),
 (0:Int)≤↑c,
 (↑c:Int)≤↑(c+1),
 (↑(c+1):Int)≤↑(36:Nat),
 ((List.drop c (List.take (c+(1:Nat)) n7_):List UInt8))=([x]),
 ((out.length+(1:Nat):Nat)≤((9223372036854775807:Nat))),
 (i64.min:Int)≤↑d-↑t,
 (↑d-↑t:Int)≤i64.max,
 (↑d-↑t:Int)=↑(d-t),
 (i64.min:Int)≤36-↑t,
 (36-↑t:Int)≤i64.max,
 (36-↑t:Int)=↑(36-t),
 (↑((36:Nat)-t):Int)≠(0:Int),
 ((i64.wrap ((↑(d-t):Int).tdiv (↑((36:Nat)-t):Int)):Int))=((↑q:Int)),
 ((([ck ((↑((36:Nat)-t):Int)≠(0:Int))],AV.c (Value.int IntKind.i64 (i64.wrap ((↑(d-t):Int).tdiv (↑((36:Nat)-t):Int)))),Cmd.nop).snd.snd.cells:List AV))=([]),
 (i64.min:Int)≤↑j+1,
 (↑j+1:Int)≤i64.max],z3_,by decide,by kernel_rfl,?_⟩
  all_goals try simp(disch:=omega) only[std,s3_,hdg]
  all_goals repeat' apply And.intro
  all_goals first|exact True.intro|omega|with_reducible (first|rfl|assumption)|exact congrArg (fun z:Nat=>(z:Int)) ht|exact hr|exact hq|exact ht|exact hdg|exact hc|exact hx|rfl
theorem lb_walk (b d0:Nat)(hb:b≤100000)(hd0:d0≤2147483647):Tri Ext0 p_ (.loop (z2_ p_ 64 4)) (lbS d0 b [] 0) .ret (lbR (leB b 40 0 d0)):=by
  refine t7_ mixed clLb_ok (fun x:Nat×List UInt8×Nat=>lbS x.1 b x.2.1 x.2.2) (fun x=>x.2.2<40∧x.1≤2147483647∧x.1<10^(39-x.2.2)∧x.2.1.length≤x.2.2∧x.2.1++leB b (40-x.2.2) x.2.2 x.1=leB b 40 0 d0) (fun x=>40-x.2.2) (fun x hx=>?_) (d0,[],0) ⟨by simp,hd0,Nat.lt_of_le_of_lt hd0 (show 2147483647<10^39 by decide),by simp,rfl⟩
  obtain⟨d,out,j⟩:=x
  obtain⟨h1,h2,h3,h4,h5⟩:=hx
  simp only at h1 h2 h3 h4 h5 ⊢
  obtain⟨t1,t2⟩:=bnd_bd j b
  obtain⟨f,hf⟩:∃f,40-j=f+1:=⟨39-j,by omega⟩
  have hf':39-j=f:=by omega
  rw[hf,m6_]at h5
  rw[hf']at h3
  by_cases hd:d<bnd j b
  ·rw[if_pos hd]at h5
   rw[←h5]
   exact .inr ⟨by simp,lbA_all d b (bnd j b) 0 0 0 j out (chr d) h1 hb rfl t1 t2 h2 (by omega) rfl hd (digL_at (by omega))⟩
  ·rw[if_neg hd]at h5
   have hm:(d-bnd j b)%(36-bnd j b)<36-bnd j b:=Nat.mod_lt _ (by omega)
   obtain⟨f,rfl⟩:∃g,f=g+1:=⟨f-1,by
     cases f with
     |zero=>simp at h3;omega
     |succ f=>omega⟩
   have hlt:=quo_lt (m:=10^f) t1 t2 (by rw[Nat.pow_succ]at h3;omega:d<10*10^f)
   have hq2:(d-bnd j b)/(36-bnd j b)≤d-bnd j b:=Nat.div_le_self _ _
   refine .inl ⟨((d-bnd j b)/(36-bnd j b),out++[chr (bnd j b+(d-bnd j b)%(36-bnd j b))],j+1),⟨by simp only;omega,by simp only;omega,by simp only;rw[show 39-(j+1)=f by omega];exact hlt,by simp only[List.length_append,List.length_singleton];omega,?_⟩,by simp only;omega,?_⟩
   ·simp only
    rw[←h5,show 40-(j+1)=f+1 by omega,List.append_assoc]
    rfl
   ·exact lbB_all d b (bnd j b) ((d-bnd j b)%(36-bnd j b)) _ _ j out _ h1 hb rfl t1 t2 h2 (by omega) rfl hd (tmNat _ _) (a4_ _ (by omega)) rfl (by omega) (digL_at (by omega))
noncomputable def lbLp (d b:Nat):List (Nat×Lp):=[(4,⟨z2_ p_ 64 4,⟨[],[0,1,5,6,7],[]⟩,lbS d b [] 0,.ret,lbR (leB b 40 0 d)⟩)]
noncomputable def lbm_X (d b:Nat)(h_:List (Nat×Bool)):=y0_ p_ 64 (z9_ p_ clLb ⟨true,bs h_++([])⟩ (y1_ (lbLp d b)) 60 64 ([.c (.int .i64 d),.c (.int .i64 b)]) ([]))
theorem lbm_1 (d b:Nat):lbm_X d b []=some ((AV.c ((str (leB b (40:Nat) (0:Nat) d)))),[((z2_ p_ (64:FuncId) (4:Nat):Go.Code))=(z2_ p_ (64:FuncId) (4:Nat)),
 ((lbS d b [] (0:Nat):St))=(lbS d b [] (0:Nat))]):=by kernel_rfl
theorem lbm_all (d b:Nat):∃(h:Hints) (p:List Prop),y0_ p_ 64 (z9_ p_ clLb h (y1_ (lbLp d b)) 60 64 ([.c (.int .i64 d),.c (.int .i64 b)]) ([]))=some (.c (str (leB b 40 0 d)),p)∧z7_ p:=by
  have eR:=lbm_1 d b
  refine⟨_,_,eR.trans (congrArg (fun r=>some (r,_)) ?_),?_⟩
  ·rfl
  ·try simp only[dz]at*
   try simp(disch:=omega) only[std,u3_,u6_]
   repeat' apply And.intro
   all_goals first|exact True.intro|omega|assumption|rfl|exact x5_ _
def leSpec:Spec
  | [.c (.int .i64 d),.c (.int .i64 b)]=>some (.c (str (leB b.toNat 40 0 d.toNat)),[0≤d,d≤2147483647,0≤b,b≤100000])
  |_=>none
theorem rle_ok:x8_ p_ 64 leSpec:=by
  refine w1_ mixed clLb_ok fun args r q hs hq=>?_
  unfold leSpec at hs
  split at hs
  ·rename_i d b
   simp only[oi_]at hs
   obtain⟨rfl,rfl⟩:=hs
   simp only[z7_,and_true]at hq ⊢
   obtain⟨h0,h1,h2,h3⟩:=hq
   obtain⟨d,rfl⟩:∃k:Nat,d=(k:Int):=⟨d.toNat,by omega⟩
   obtain⟨b,rfl⟩:∃k:Nat,b=(k:Int):=⟨b.toNat,by omega⟩
   obtain⟨hh,q,e,hp⟩:=lbm_all d b
   exact⟨_,_,_,_,y3_ z3_ List.nodup_nil (lb_walk b d (by omega) (by omega)),e,hp⟩
  ·simp at hs
def adS (e k:Nat):St:=⟨frame 32 [(7,.c (.int .i64 e)),(8,.c (.int .i64 k))],[]⟩
theorem adA_all (e k q:Nat)(he:¬e≤455)(hq:q=e/35)(hel:e≤4294967294)(hk:k≤1000000):y7_ Ext0 p_ cl0 (z2_ p_ 62 6) (adS e k) (.normal) (adS q (k+36)):=by
  refine⟨⟨true,(bs [(20,true)]++[(22,⟨.c (.int .i64 q),none⟩)])⟩,_,60,⟨[],[7,8],[]⟩,[decide ((↑e:Int)>455)=true,
 ((i64.wrap ((↑e:Int).tdiv (35:Int)):Int))=((↑q:Int)),
 (i64.min:Int)≤↑k+36,
 (↑k+36:Int)≤i64.max],z3_,by decide,by kernel_rfl,?_⟩
  all_goals try simp(disch:=omega) only[std]
  all_goals repeat' apply And.intro
  all_goals first|exact True.intro|omega|with_reducible (first|rfl|assumption)|exact hq|rfl
theorem adZ_all (e k q:Nat)(he:e≤455)(hel:e≤4294967294)(hk:k≤1000000):y7_ Ext0 p_ cl0 (z2_ p_ 62 6) (adS e k) (.exit 0) (adS e k):=by
  refine⟨⟨true,(bs [(20,false)]++[(22,⟨.c (.int .i64 q),none⟩)])⟩,_,60,⟨[],[7,8],[]⟩,[decide ((↑e:Int)>455)=false],z3_,by decide,by kernel_rfl,?_⟩
  all_goals try simp(disch:=omega) only[std]
  all_goals repeat' apply And.intro
  all_goals first|exact True.intro|omega|with_reducible (first|rfl|assumption)|rfl
def r4_:Nat→Nat→Nat→Nat×Nat
  |0,e,k=>(e,k)
  |f+1,e,k=>if e>455 then r4_ f (e/35) (k+36)else(e,k)
theorem adEnd_is:∀(f e k:Nat),adG f e k=(r4_ f e k).2+36*(r4_ f e k).1/((r4_ f e k).1+38)∧(r4_ f e k).1≤e∧(r4_ f e k).2≤k+36*f
  |0,e,k=>⟨rfl,Nat.le_refl _,by unfold r4_;omega⟩
  |f+1,e,k=>by
   unfold adG r4_
   split
   ·obtain⟨h1,h2,h3⟩:=adEnd_is f (e/35) (k+36)
    exact⟨h1,by omega,by omega⟩
   ·exact⟨rfl,Nat.le_refl _,by simp only;omega⟩
theorem ad_walk (e0:Nat)(h:e0≤4294967294):Tri Ext0 p_ (.loop (z2_ p_ 62 6)) (adS e0 0) (.exit 0) (adS (r4_ 20 e0 0).1 (r4_ 20 e0 0).2):=by
  refine t7_ mixed w4_ (fun x:Nat×Nat×Nat=>adS x.1 x.2.1) (fun x=>x.1≤4294967294∧x.1≤455*35^x.2.2∧x.2.2≤20∧x.2.1+36*x.2.2≤720∧r4_ x.2.2 x.1 x.2.1=r4_ 20 e0 0) (fun x=>x.2.2) (fun x hx=>?_) (e0,0,20) ⟨h,show e0≤455*35^20 from Nat.le_trans h (by decide),Nat.le_refl _,by simp,rfl⟩
  obtain⟨e,k,f⟩:=x
  obtain⟨h1,h2,h3,h4,h5⟩:=hx
  simp only at h1 h2 h3 h4 h5 ⊢
  by_cases he:e≤455
  ·have:r4_ f e k=(e,k):=by
     cases f with
     |zero=>rfl
     |succ f=>unfold r4_;rw[if_neg (by omega)]
   rw[this]at h5
   rw[←h5]
   exact .inr ⟨by simp,adZ_all e k 0 he h1 (by omega)⟩
  ·obtain⟨f,rfl⟩:∃g,f=g+1:=⟨f-1,by
     cases f with
     |zero=>simp at h2;omega
     |succ f=>omega⟩
   have h5:r4_ f (e/35) (k+36)=r4_ 20 e0 0:=by
     rw[←h5]
     show _=(if e>455 then _ else _)
     rw[if_pos (by omega)]
   exact .inl ⟨(e/35,k+36,f),⟨by simp only;omega,by simp only;rw[Nat.pow_succ]at h2;omega,by simp only;omega,by simp only;omega,h5⟩,by simp only;omega,adA_all e k (e/35) he rfl h1 (by omega)⟩
theorem adaT_all (d n e0 q e x y r v:Nat)(hd:d≤2147483647)(n1:1≤n)(n2:n≤1000)(he0:d/700=e0)(hq:i64.wrap ((e0:Int).tdiv (n:Int))=(q:Nat))(hql:q≤2147483647)(he:e0+q=e)(hx:x≤4294967294)(hy:y≤720)(hr:i64.wrap ((36*(x:Int)).tdiv ((x:Int)+38))=(r:Nat))(hv:y+r=v)(hrl:r≤4294967294*36):∃(h:Hints) (p:List Prop),y0_ p_ 62 (z9_ p_ cl0 h (y1_ ([(6,⟨z2_ p_ 62 6,⟨[],[7,8],[]⟩,adS e 0,.exit 0,adS x y⟩)])) 60 62 ([.c (.int .i64 d),.c (.int .i64 n),.c (.bool true)]) ([]))=some (.c (.int .i64 v),p)∧z7_ p:=by
  refine⟨⟨true,([(10,⟨.c (.int .i64 (d/2:Nat)),none⟩),(13,⟨.c (.int .i64 e0),none⟩),(17,⟨.c (.int .i64 q),some []⟩),(18,⟨.c (.int .i64 e),none⟩),(30,⟨.c (.int .i64 r),some []⟩),(31,⟨.c (.int .i64 v),none⟩)])⟩,[((i64.wrap ((↑d:Int).tdiv (2:Int)):Int))=((↑(d/(2:Nat)):Int)),
 ((i64.wrap ((↑d:Int).tdiv (700:Int)):Int))=((↑e0:Int)),
 (↑n:Int)≠(0:Int),
 ((i64.wrap ((↑e0:Int).tdiv (↑n:Int)):Int))=((↑q:Int)),
 ((([ck ((↑n:Int)≠(0:Int))],AV.c (Value.int IntKind.i64 (i64.wrap ((↑e0:Int).tdiv (↑n:Int)))),Cmd.nop).snd.snd.cells:List AV))=([]),
 (i64.min:Int)≤↑e0+↑q,
 (↑e0+↑q:Int)≤i64.max,
 (↑e0+↑q:Int)=↑e,
 ((z2_ p_ (62:FuncId) (6:Nat):Go.Code))=(z2_ p_ (62:FuncId) (6:Nat)),
 ((adS e (0:Nat):St))=(adS e (0:Nat)),
 (i64.min:Int)≤36*↑x,
 (36*↑x:Int)≤i64.max,
 (i64.min:Int)≤↑x+38,
 (↑x+38:Int)≤i64.max,
 (↑x:Int)+(38:Int)≠(0:Int),
 ((i64.wrap (((36:Int)*(↑x:Int)).tdiv ((↑x:Int)+(38:Int))):Int))=((↑r:Int)),
 ((([ck ((↑x:Int)+(38:Int)≠(0:Int))],AV.c (Value.int IntKind.i64 (i64.wrap (((36:Int)*(↑x:Int)).tdiv ((↑x:Int)+(38:Int))))),Cmd.nop).snd.snd.cells:List AV))=([]),
 (i64.min:Int)≤↑y+↑r,
 (↑y+↑r:Int)≤i64.max,
 (↑y+↑r:Int)=↑v],by kernel_rfl,?_⟩
  all_goals try simp(disch:=omega) only[std]
  all_goals repeat' apply And.intro
  all_goals first|exact True.intro|omega|with_reducible (first|rfl|assumption)|exact hq|exact hr|(rw[he0]at *;exact hq)|(rw[he0];exact hq)|rfl|exact he0|exact he|exact hv
theorem adaF_all (d n e0 q e x y r v:Nat)(hd:d≤2147483647)(n1:1≤n)(n2:n≤1000)(he0:d/2=e0)(hq:i64.wrap ((e0:Int).tdiv (n:Int))=(q:Nat))(hql:q≤2147483647)(he:e0+q=e)(hx:x≤4294967294)(hy:y≤720)(hr:i64.wrap ((36*(x:Int)).tdiv ((x:Int)+38))=(r:Nat))(hv:y+r=v)(hrl:r≤4294967294*36):∃(h:Hints) (p:List Prop),y0_ p_ 62 (z9_ p_ cl0 h (y1_ ([(6,⟨z2_ p_ 62 6,⟨[],[7,8],[]⟩,adS e 0,.exit 0,adS x y⟩)])) 60 62 ([.c (.int .i64 d),.c (.int .i64 n),.c (.bool false)]) ([]))=some (.c (.int .i64 v),p)∧z7_ p:=by
  refine⟨⟨true,([(10,⟨.c (.int .i64 (d/2:Nat)),none⟩),(13,⟨.c (.int .i64 e0),none⟩),(17,⟨.c (.int .i64 q),some []⟩),(18,⟨.c (.int .i64 e),none⟩),(30,⟨.c (.int .i64 r),some []⟩),(31,⟨.c (.int .i64 v),none⟩)])⟩,[((i64.wrap ((↑d:Int).tdiv (2:Int)):Int))=((↑(d/(2:Nat)):Int)),
 (↑n:Int)≠(0:Int),
 ((i64.wrap ((↑(d/(2:Nat)):Int).tdiv (↑n:Int)):Int))=((↑q:Int)),
 ((([ck ((↑n:Int)≠(0:Int))],AV.c (Value.int IntKind.i64 (i64.wrap ((↑(d/(2:Nat)):Int).tdiv (↑n:Int)))),Cmd.nop).snd.snd.cells:List AV))=([]),
 (i64.min:Int)≤↑(d/2)+↑q,
 (↑(d/2)+↑q:Int)≤i64.max,
 (↑(d/2)+↑q:Int)=↑e,
 ((z2_ p_ (62:FuncId) (6:Nat):Go.Code))=(z2_ p_ (62:FuncId) (6:Nat)),
 ((adS e (0:Nat):St))=(adS e (0:Nat)),
 (i64.min:Int)≤36*↑x,
 (36*↑x:Int)≤i64.max,
 (i64.min:Int)≤↑x+38,
 (↑x+38:Int)≤i64.max,
 (↑x:Int)+(38:Int)≠(0:Int),
 ((i64.wrap (((36:Int)*(↑x:Int)).tdiv ((↑x:Int)+(38:Int))):Int))=((↑r:Int)),
 ((([ck ((↑x:Int)+(38:Int)≠(0:Int))],AV.c (Value.int IntKind.i64 (i64.wrap (((36:Int)*(↑x:Int)).tdiv ((↑x:Int)+(38:Int))))),Cmd.nop).snd.snd.cells:List AV))=([]),
 (i64.min:Int)≤↑y+↑r,
 (↑y+↑r:Int)≤i64.max,
 (↑y+↑r:Int)=↑v],by kernel_rfl,?_⟩
  all_goals try simp(disch:=omega) only[std]
  all_goals repeat' apply And.intro
  all_goals first|exact True.intro|omega|with_reducible (first|rfl|assumption)|exact hq|exact hr|(rw[he0]at *;exact hq)|(rw[he0];exact hq)|rfl|exact he0|exact he|exact hv
def adSpec:Spec
  | [.c (.int .i64 d),.c (.int .i64 n),.c (.bool f)]=>some (.c (.int .i64 (adp d.toNat n.toNat f)),[0≤d,d≤2147483647,1≤n,n≤1000])
  |_=>none
theorem adp_eq (d n:Nat)(f:Bool):adp d n f=(r4_ 20 (adE d n f) 0).2+36*(r4_ 20 (adE d n f) 0).1/((r4_ 20 (adE d n f) 0).1+38):=(adEnd_is 20 _ 0).1
theorem rad_ok:x8_ p_ 62 adSpec:=by
  refine w1_ mixed w4_ fun args r q hs hq=>?_
  unfold adSpec at hs
  split at hs
  ·rename_i d n f
   simp only[oi_]at hs
   obtain⟨rfl,rfl⟩:=hs
   simp only[z7_,and_true]at hq ⊢
   obtain⟨h0,h1,h2,h3⟩:=hq
   obtain⟨d,rfl⟩:∃k:Nat,d=(k:Int):=⟨d.toNat,by omega⟩
   obtain⟨n,rfl⟩:∃k:Nat,n=(k:Int):=⟨n.toNat,by omega⟩
   rw[Int.toNat_natCast,Int.toNat_natCast,adp_eq]
   have hE:adE d n f=(if f=true then d/700 else d/2)+(if f=true then d/700 else d/2)/n:=rfl
   have he0:(if f=true then d/700 else d/2)≤1073741823:=by split<;>omega
   have hq:=Nat.div_le_self (if f=true then d/700 else d/2) n
   obtain⟨k1,k2,k3⟩:=adEnd_is 20 (adE d n f) 0
   have hw:=ad_walk (adE d n f) (by omega)
   generalize hx:(r4_ 20 (adE d n f) 0).1=x at*
   generalize hy:(r4_ 20 (adE d n f) 0).2=y at*
   have hr:i64.wrap ((36*(x:Int)).tdiv ((x:Int)+38))=((36*x/(x+38):Nat):Int):=by
     have:=a4_ (m:=36*x) (x+38) (by omega)
     rw[←this]
     simp
   have hrl:=Nat.div_le_self (36*x) (x+38)
   cases f with
   |true=>
    simp only[if_true]at hE he0 hq
    obtain⟨hh,p,e,hp⟩:=adaT_all d n _ _ _ x y _ _ (by omega) (by omega) (by omega) rfl (a4_ n (by omega)) (by omega) hE.symm (by omega) (by omega) hr rfl (by omega)
    exact⟨_,_,_,_,y3_ z3_ List.nodup_nil hw,e,hp⟩
   |false=>
    simp only[Bool.false_eq_true,if_false]at hE he0 hq
    obtain⟨hh,p,e,hp⟩:=adaF_all d n _ _ _ x y _ _ (by omega) (by omega) (by omega) rfl (a4_ n (by omega)) (by omega) hE.symm (by omega) (by omega) hr rfl (by omega)
    exact⟨_,_,_,_,y3_ z3_ List.nodup_nil hw,e,hp⟩
  ·simp at hs
end Go.Proofs.YtmjldphagbobpaaGreatDoor
namespace Go.Proofs.YtmjldphagbobpaaGreatDoor
open IntKind (i64 u8 i32 u32 u64)
open _root_.Go.Proofs.Tryz renaming prog→p_
open Go.RowKit Pny
set_option maxRecDepth 100000
def z0_ (L:List Nat):List AV:=L.map fun n=> .c (.int .i64 (n:Nat))
def z5_ (l:List AV):List Nat:=l.map fun x=>match x with
  | .c (.int .i64 n)=>n.toNat
  |_=>0
theorem y6_ (L:List Nat):(z0_ L).length=L.length:=by simp[z0_]
theorem v2_ (L:List Nat):z5_ (z0_ L)=L:=by
  unfold z5_ z0_
  rw[List.map_map]
  conv=>rhs;rw[←List.map_id L]
  apply List.map_congr_left
  intro n _
  rfl
theorem j9_ (L:List Nat)(i:Nat)(h:i<L.length):((z0_ L).drop i).headD .any= .c (.int .i64 (L.getD i 0:Nat)):=by
  unfold z0_
  rw[←List.map_drop,List.drop_eq_getElem_cons h]
  simp[List.getD,h]
def rlS (L:List Nat)(c m i:Nat):St:=⟨frame 26 [(0,.fs 1 L.length (z0_ L)),(1,.c (.int .i64 c)),(5,.c (.int .i64 m)),(6,.c (.int .i64 i))],[]⟩
theorem rlA_all (L:List Nat)(c m x m1 i:Nat)(hi:i<L.length)(hat:y2_ (((z0_ L).drop i).headD .any) (.c (.int .i64 x)))(hx:c≤x)(hm:min m x=m1)(hl:L.length≤1000)(hnl:(z0_ L).length=L.length):y7_ Ext0 p_ cl0 (z2_ p_ 63 3) (rlS L c m i) (.normal) (rlS L c m1 (i+1)):=by
  refine⟨⟨true,(bs [(10,true),(18,true)]++[(16,⟨.c (.int .i64 x),none⟩),(23,⟨.c (.int .i64 x),none⟩),(24,⟨.c (.int .i64 m1),none⟩)])⟩,_,60,⟨[],[0,1,5,6],[]⟩,[decide ((↑i:Int)<↑L.length)=true,
 (0:Int)≤↑i,
 (↑i:Int)<↑L.length,
 (((0:Nat):Nat)<((List.drop i (z0_ L)).length)),
 y2_ ((List.drop i (z0_ L)).headD AV.any) ((AV.c ((Value.int .i64 ((↑x:Int)))))),
 decide ((↑x:Int)≥↑c)=true,
 (0:Int)≤↑i,
 (↑i:Int)<↑L.length,
 (((0:Nat):Nat)<((List.drop i (z0_ L)).length)),
 y2_ ((List.drop i (z0_ L)).headD AV.any) ((AV.c ((Value.int .i64 ((↑x:Int)))))),
 ((if(↑x:Int)<(↑m:Int)then(↑x:Int)else(↑m:Int):Int))=((↑m1:Int)),
 (i64.min:Int)≤↑i+1,
 (↑i+1:Int)≤i64.max],z3_,by decide,by kernel_rfl,?_⟩
  all_goals try simp(disch:=omega) only[std,List.length_drop,hnl]
  all_goals repeat' apply And.intro
  all_goals first|exact True.intro|omega|with_reducible (first|rfl|assumption)|(split<;>omega)|exact hat|exact hm|exact hnl|rfl
theorem rlB_all (L:List Nat)(c m x m1 i:Nat)(hi:i<L.length)(hat:y2_ (((z0_ L).drop i).headD .any) (.c (.int .i64 x)))(hx:¬c≤x)(hl:L.length≤1000)(hnl:(z0_ L).length=L.length):y7_ Ext0 p_ cl0 (z2_ p_ 63 3) (rlS L c m i) (.normal) (rlS L c m (i+1)):=by
  refine⟨⟨true,(bs [(10,true),(18,false)]++[(16,⟨.c (.int .i64 x),none⟩),(23,⟨.c (.int .i64 x),none⟩),(24,⟨.c (.int .i64 m1),none⟩)])⟩,_,60,⟨[],[0,1,5,6],[]⟩,[decide ((↑i:Int)<↑L.length)=true,
 (0:Int)≤↑i,
 (↑i:Int)<↑L.length,
 (((0:Nat):Nat)<((List.drop i (z0_ L)).length)),
 y2_ ((List.drop i (z0_ L)).headD AV.any) ((AV.c ((Value.int .i64 ((↑x:Int)))))),
 decide ((↑x:Int)≥↑c)=false,
 (i64.min:Int)≤↑i+1,
 (↑i+1:Int)≤i64.max],z3_,by decide,by kernel_rfl,?_⟩
  all_goals try simp(disch:=omega) only[std,List.length_drop,hnl]
  all_goals repeat' apply And.intro
  all_goals first|exact True.intro|omega|with_reducible (first|rfl|assumption)|(split<;>omega)|exact hat|exact hnl|rfl
theorem rlZ_all (L:List Nat)(c m x m1 i:Nat)(hi:i=L.length)(hl:L.length≤1000)(hnl:(z0_ L).length=L.length):y7_ Ext0 p_ cl0 (z2_ p_ 63 3) (rlS L c m i) (.exit 0) (rlS L c m i):=by
  refine⟨⟨true,(bs [(10,false)]++[(16,⟨.c (.int .i64 x),none⟩),(23,⟨.c (.int .i64 x),none⟩),(24,⟨.c (.int .i64 m1),none⟩)])⟩,_,60,⟨[],[0,1,5,6],[]⟩,[decide ((↑i:Int)<↑L.length)=false],z3_,by decide,by kernel_rfl,?_⟩
  all_goals try simp(disch:=omega) only[std,List.length_drop,hnl]
  all_goals repeat' apply And.intro
  all_goals first|exact True.intro|omega|with_reducible (first|rfl|assumption)|(split<;>omega)|exact hi|exact hnl|rfl
theorem least_snoc (l:List Nat)(c i:Nat)(h:i<l.length):t5_ (l.take (i+1)) c=if c≤l.getD i 0 then min (t5_ (l.take i) c) (l.getD i 0)else t5_ (l.take i) c:=by
  have e:l.take (i+1)=l.take i++[l.getD i 0]:=by
    rw[List.take_succ_eq_append_getElem h]
    simp[List.getD,h]
  rw[e]
  unfold t5_
  rw[List.foldl_append]
  rfl
theorem rl_walk (L:List Nat)(c:Nat)(hl:L.length≤1000):Tri Ext0 p_ (.loop (z2_ p_ 63 3)) (rlS L c 1114112 0) (.exit 0) (rlS L c (t5_ L c) L.length):=by
  have h:=c3_ mixed w4_ (b:=z2_ p_ 63 3) (fun i=>rlS L c (t5_ (L.take i) c) i) L.length (e:= .exit 0) (R:=rlS L c (t5_ L c) L.length) (by simp) (fun i hi=>by
    have ha:y2_ (((z0_ L).drop i).headD .any) (.c (.int .i64 (L.getD i 0:Nat))):=by rw[j9_ L i hi];exact x5_ _
    rw[least_snoc L c i hi]
    by_cases hc:c≤L.getD i 0
    ·rw[if_pos hc]
     exact rlA_all L c _ _ _ i hi ha hc rfl hl (y6_ L)
    ·rw[if_neg hc]
     exact rlB_all L c _ _ 0 i hi ha hc hl (y6_ L)) (by
    rw[List.take_length]
    exact rlZ_all L c _ 0 0 L.length rfl hl (y6_ L)) 0 (Nat.zero_le _)
  exact h
noncomputable def rlLp (L:List Nat)(c:Nat):List (Nat×Lp):=[(3,⟨z2_ p_ 63 3,⟨[],[0,1,5,6],[]⟩,rlS L c 1114112 0,.exit 0,rlS L c (t5_ L c) L.length⟩)]
noncomputable def rlm_X (L:List Nat)(c:Nat)(h_:List (Nat×Bool)):=y0_ p_ 63 (z9_ p_ cl0 ⟨true,bs h_++([])⟩ (y1_ (rlLp L c)) 60 63 ([.fs 1 L.length (z0_ L),.c (.int .i64 c)]) ([]))
theorem rlm_1 (L:List Nat)(c:Nat):rlm_X L c []=some ((AV.c ((Value.int .i64 ((↑(t5_ L c):Int))))),[((z2_ p_ (63:FuncId) (3:Nat):Go.Code))=(z2_ p_ (63:FuncId) (3:Nat)),
 ((rlS L c (1114112:Nat) (0:Nat):St))=(rlS L c (1114112:Nat) (0:Nat))]):=by kernel_rfl
theorem rlm_all (L:List Nat)(c:Nat):∃(h:Hints) (p:List Prop),y0_ p_ 63 (z9_ p_ cl0 h (y1_ (rlLp L c)) 60 63 ([.fs 1 L.length (z0_ L),.c (.int .i64 c)]) ([]))=some (.c (.int .i64 (t5_ L c)),p)∧z7_ p:=by
  have eR:=rlm_1 L c
  refine⟨_,_,eR.trans (congrArg (fun r=>some (r,_)) ?_),?_⟩
  ·rfl
  ·try simp only[dz]at*
   try simp(disch:=omega) only[std,u3_,u6_]
   repeat' apply And.intro
   all_goals first|exact True.intro|omega|assumption|rfl|exact x5_ _
def leastSpec:Spec
  | [.fs s n l,.c (.int .i64 c)]=>some (.c (.int .i64 (t5_ (z5_ l) c.toNat)),[s=1,l=z0_ (z5_ l),n=(z5_ l).length,n≤1000,0≤c])
  |_=>none
theorem rleast_ok:x8_ p_ 63 leastSpec:=by
  refine w1_ mixed w4_ fun args r q hs hq=>?_
  unfold leastSpec at hs
  split at hs
  ·rename_i s n l c
   simp only[oi_]at hs
   obtain⟨rfl,rfl⟩:=hs
   obtain⟨rfl,h2,h3,h4,h5,_⟩:=hq
   obtain⟨c,rfl⟩:∃k:Nat,c=(k:Int):=⟨c.toNat,by omega⟩
   rw[Int.toNat_natCast]
   generalize z5_ l=L at*
   subst h2 h3
   obtain⟨hh,p,e,hp⟩:=rlm_all L c
   exact⟨_,_,_,_,y3_ z3_ List.nodup_nil (rl_walk L c h4),e,hp⟩
  ·simp at hs
end Go.Proofs.YtmjldphagbobpaaGreatDoor
namespace Go.Proofs.YtmjldphagbobpaaGreatDoor
open IntKind (i64 u8 i32 u32 u64)
open _root_.Go.Proofs.Tryz renaming prog→p_
open Go.RowKit Pny
set_option maxRecDepth 100000
theorem nats_app (a b:List Nat):z0_ (a++b)=z0_ a++z0_ b:=by simp[z0_]
theorem nats_take (a:List Nat)(n:Nat):(z0_ a).take n=z0_ (a.take n):=by simp[z0_,List.map_take]
theorem nats_drop (a:List Nat)(n:Nat):(z0_ a).drop n=z0_ (a.drop n):=by simp[z0_,List.map_drop]
def dcA (l:List UInt8)(cut i:Nat):St:=⟨frame 111 [(0,.c (str l)),(4,.c (.slice none 0 0)),(5,.c (.int .i64 cut)),(6,.c (.int .i64 i))],[]⟩
def dcB (l:List UInt8)(cut:Nat):St:=⟨frame 111 [(0,.c (str l)),(4,.c (.slice none 0 0)),(5,.c (.int .i64 cut))],[]⟩
theorem dcaA_all (l:List UInt8)(cut i:Nat)(hi:i<l.length)(hc:(((l.getD i 0).toNat:Nat):Int)=45)(hl:l.length≤100000)(hi2:i≤200000):y7_ Ext0 p_ cl0 (z2_ p_ 39 4) (dcA l cut i) (.normal) (dcA l i (i+1)):=by
  refine⟨⟨true,(bs [(19,true),(25,true)])⟩,_,60,⟨[],[0,4,5,6],[]⟩,[decide ((↑i:Int)<↑l.length)=true,
 (0:Int)≤↑i,
 (↑i:Int)<↑l.length,
 ((↑(l.getD i 0).toNat:Int)==(45:Int))=true,
 (i64.min:Int)≤↑i+1,
 (↑i+1:Int)≤i64.max],z3_,by decide,by kernel_rfl,?_⟩
  all_goals try simp(disch:=omega) only[std]
  all_goals repeat' apply And.intro
  all_goals first|exact True.intro|omega|with_reducible (first|rfl|assumption)|exact hc|rfl
theorem dcaB_all (l:List UInt8)(cut i:Nat)(hi:i<l.length)(hc:¬(((l.getD i 0).toNat:Nat):Int)=45)(hl:l.length≤100000)(hi2:i≤200000):y7_ Ext0 p_ cl0 (z2_ p_ 39 4) (dcA l cut i) (.normal) (dcA l cut (i+1)):=by
  refine⟨⟨true,(bs [(19,true),(25,false)])⟩,_,60,⟨[],[0,4,5,6],[]⟩,[decide ((↑i:Int)<↑l.length)=true,
 (0:Int)≤↑i,
 (↑i:Int)<↑l.length,
 ((↑(l.getD i 0).toNat:Int)==(45:Int))=false,
 (i64.min:Int)≤↑i+1,
 (↑i+1:Int)≤i64.max],z3_,by decide,by kernel_rfl,?_⟩
  all_goals try simp(disch:=omega) only[std]
  all_goals repeat' apply And.intro
  all_goals first|exact True.intro|omega|with_reducible (first|rfl|assumption)|exact hc|rfl
theorem dcaZ_all (l:List UInt8)(cut i:Nat)(hi:¬i<l.length)(hl:l.length≤100000)(hi2:i≤200000):y7_ Ext0 p_ cl0 (z2_ p_ 39 4) (dcA l cut i) (.exit 0) (dcB l cut):=by
  refine⟨⟨true,(bs [(19,false)])⟩,_,60,⟨[],[0,4,5],[]⟩,[decide ((↑i:Int)<↑l.length)=false],z3_,by decide,by kernel_rfl,?_⟩
  all_goals try simp(disch:=omega) only[std]
  all_goals repeat' apply And.intro
  all_goals first|exact True.intro|omega|with_reducible (first|rfl|assumption)|rfl
theorem cutG_cons (c:UInt8)(r:List UInt8)(i cur:Nat):b1_ (c::r) i cur=b1_ r (i+1) (if c=45∧1≤i then i else cur):=rfl
theorem cutG_one (l:List UInt8):b1_ (l.drop 1) 1 0=v5_ l:=by
  cases l with
  |nil=>rfl
  |cons c r=>
   unfold v5_
   rw[cutG_cons,if_neg (by omega)]
   rfl
theorem dca_walk (l:List UInt8)(hl:l.length≤100000):Tri Ext0 p_ (.loop (z2_ p_ 39 4)) (dcA l 0 1) (.exit 0) (dcB l (v5_ l)):=by
  refine t7_ mixed w4_ (fun x:Nat×Nat=>dcA l x.1 x.2) (fun x=>1≤x.2∧x.2≤100001∧b1_ (l.drop x.2) x.2 x.1=v5_ l) (fun x=>l.length-x.2) (fun x hx=>?_) (0,1) ⟨Nat.le_refl _,by simp only;omega,cutG_one l⟩
  obtain⟨cut,i⟩:=x
  obtain⟨h1,h2,h3⟩:=hx
  simp only at h1 h2 h3 ⊢
  by_cases hi:i<l.length
  ·rw[e9_ l i hi,cutG_cons]at h3
   by_cases hc:l.getD i 0=45
   ·rw[if_pos ⟨hc,h1⟩]at h3
    exact .inl ⟨(i,i+1),⟨by simp only;omega,by simp only;omega,h3⟩,by simp only;omega,dcaA_all l cut i hi (by rw[hc];rfl) hl (by omega)⟩
   ·rw[if_neg (fun e=>hc e.1)]at h3
    exact .inl ⟨(cut,i+1),⟨by simp only;omega,by simp only;omega,h3⟩,by simp only;omega,dcaB_all l cut i hi (u8_ne (k:=45) (by decide) hc) hl (by omega)⟩
  ·rw[List.drop_of_length_le (by omega)]at h3
   have h3:cut=v5_ l:=h3
   rw[←h3]
   exact .inr ⟨by simp,dcaZ_all l cut i hi hl (by omega)⟩
def dcC (l:List UInt8)(cut i:Nat):St:=⟨frame 111 [(0,.c (str l)),(4,.sl 0 0 i),(5,.c (.int .i64 cut)),(7,.c (.int .i64 i))],[some ⟨3,false,z0_ ((l.take i).map UInt8.toNat)⟩]⟩
def dcD (l:List UInt8)(cut:Nat)(out:List Nat):St:=⟨frame 111 [(0,.c (str l)),(4,.sl 0 0 out.length),(5,.c (.int .i64 cut))],[some ⟨3,false,z0_ out⟩]⟩
def dcN:St:=⟨frame 111 [(2,.sl 0 0 0),(3,.c (.bool false))],[some ⟨3,false,[]⟩]⟩
theorem take_cells (l:List UInt8)(i:Nat)(h:i<l.length):List.take i (z0_ ((l.take i).map UInt8.toNat))++[.c (.int .i64 ((l.getD i 0).toNat:Nat))]=z0_ ((l.take (i+1)).map UInt8.toNat):=by
  rw[v1_ l i 0 h,List.map_append,nats_app,List.take_of_length_le (by simp[z0_,List.length_take];omega)]
  rfl
theorem dccA_all (l:List UInt8)(cut i:Nat)(hi:i<cut)(hc:¬(((l.getD i 0).toNat:Nat):Int)>127)(ht:List.take i (z0_ ((l.take i).map UInt8.toNat))++[.c (.int .i64 ((l.getD i 0).toNat:Nat))]=z0_ ((l.take (i+1)).map UInt8.toNat))(hl:l.length≤100000)(hcl:cut≤l.length)(hw:i64.wrap ((l.getD i 0).toNat:Nat)=((l.getD i 0).toNat:Nat))(hnl:(z0_ ((l.take i).map UInt8.toNat)).length=i):y7_ Ext0 p_ cl0 (z2_ p_ 39 9) (dcC l cut i) (.normal) (dcC l cut (i+1)):=by
  refine⟨⟨true,(bs [(29,true),(35,false)]++[(42,⟨.sl 2 0 (i+1),some (z0_ ((l.take (i+1)).map UInt8.toNat))⟩)])⟩,_,60,⟨[],[0,4,5,7],[2]⟩,[decide ((↑i:Int)<↑cut)=true,
 (0:Int)≤↑i,
 (↑i:Int)<↑l.length,
 (decide ((↑(l.getD i 0).toNat:Int)>(127:Int)))=false,
 (0:Int)≤↑i,
 (↑i:Int)<↑l.length,
 (((1:Nat):Nat)≤((1:Nat))),
 (((i+(1:Nat))*(8:Nat):Nat)≤((140737488355328:Nat))),
 ((i+(1:Nat):Nat)≤((4611686018427387904:Nat))),
 ((i:Nat)≤((z0_ (List.map UInt8.toNat (List.take i l))).length)),
 y2_ ((AV.sl 2 0 (i+(1:Nat)))) ((AV.sl 2 0 (i+(1:Nat)))),
 ((List.take i (z0_ (List.map UInt8.toNat (List.take i l)))++List.take (1:Nat) (List.drop (0:Nat) ([AV.c (Value.int IntKind.i64 (i64.wrap (↑(l.getD i 0).toNat:Int)))]++[])):List AV))=(z0_ (List.map UInt8.toNat (List.take (i+(1:Nat)) l))),
 (i64.min:Int)≤↑i+1,
 (↑i+1:Int)≤i64.max],z3_,by decide,Eq.trans (b:=some ((.normal:Exit),⟨frame 111 [(0,(AV.c ((str (l))))),(4,(AV.sl 0 0 (i+(1:Nat)))),(5,(AV.c ((Value.int .i64 ((↑cut:Int)))))),(7,(AV.c ((Value.int .i64 ((↑i:Int)+(1:Int))))))],[(.some ⟨3,false,(z0_ (List.map UInt8.toNat (List.take (i+(1:Nat)) l)))⟩)]⟩,_)) (by kernel_rfl) (congrArg (fun S:St=>some ((.normal:Exit),S,_)) ?_),?_⟩
  any_goals(
    rfl
    done)
  all_goals try simp(disch:=omega) only[std,hw,hnl]
  all_goals repeat' apply And.intro
  all_goals first|exact True.intro|omega|with_reducible (first|rfl|assumption)|exact ht|exact hw|exact hnl|rfl
theorem dccB_all (l:List UInt8)(cut i:Nat)(hi:i<cut)(hc:(((l.getD i 0).toNat:Nat):Int)>127)(hl:l.length≤100000)(hcl:cut≤l.length)(hw:i64.wrap ((l.getD i 0).toNat:Nat)=((l.getD i 0).toNat:Nat))(hnl:(z0_ ((l.take i).map UInt8.toNat)).length=i):y7_ Ext0 p_ cl0 (z2_ p_ 39 9) (dcC l cut i) (.ret) (dcN):=by
  refine⟨⟨true,(bs [(29,true),(35,true)]++[])⟩,_,60,⟨[(2,3)],[2,3],[1]⟩,[decide ((↑i:Int)<↑cut)=true,
 (0:Int)≤↑i,
 (↑i:Int)<↑l.length,
 (decide ((↑(l.getD i 0).toNat:Int)>(127:Int)))=true],z3_,by decide,Eq.trans (b:=some ((.ret:Exit),⟨frame 111 [(2,(AV.sl 0 0 0)),(3,(AV.c ((Value.bool false))))],[(.some ⟨3,false,[]⟩)]⟩,_)) (by kernel_rfl) (congrArg (fun S:St=>some ((.ret:Exit),S,_)) ?_),?_⟩
  any_goals(
    rfl
    done)
  all_goals try simp(disch:=omega) only[std,hw,hnl]
  all_goals repeat' apply And.intro
  all_goals first|exact True.intro|omega|with_reducible (first|rfl|assumption)|exact hw|exact hnl|rfl
theorem dccZ_all (l:List UInt8)(cut i:Nat)(hi:i=cut)(hn2:(List.map UInt8.toNat (List.take i l)).length=i)(hl:l.length≤100000)(hcl:cut≤l.length)(hw:i64.wrap ((l.getD i 0).toNat:Nat)=((l.getD i 0).toNat:Nat))(hnl:(z0_ ((l.take i).map UInt8.toNat)).length=i):y7_ Ext0 p_ cl0 (z2_ p_ 39 9) (dcC l cut i) (.exit 2) (dcD l cut (List.map UInt8.toNat (List.take i l))):=by
  refine⟨⟨true,(bs [(29,false)]++[])⟩,_,60,⟨[],[0,4,5],[0]⟩,[decide ((↑i:Int)<↑cut)=false],z3_,by decide,Eq.trans (b:=some ((.exit 2:Exit),⟨frame 111 [(0,(AV.c ((str (l))))),(4,(AV.sl 0 0 i)),(5,(AV.c ((Value.int .i64 ((↑cut:Int))))))],[(.some ⟨3,false,(z0_ (List.map UInt8.toNat (List.take i l)))⟩)]⟩,_)) (by kernel_rfl) (congrArg (fun S:St=>some ((.exit 2:Exit),S,_)) ?_),?_⟩
  any_goals(
    (unfold dcD;rw[hn2])
    done)
  all_goals try simp(disch:=omega) only[std,hw,hnl]
  all_goals repeat' apply And.intro
  all_goals first|exact True.intro|omega|with_reducible (first|rfl|assumption)|exact hi|exact hn2|exact hw|exact hnl|rfl
def loB (l:List UInt8)(cut:Nat):Bool:=(l.take cut).all fun c=>decide (c.toNat<128)
theorem all_at {l:List UInt8}{cut i:Nat}(h:loB l cut=true)(hi:i<cut)(hl:cut≤l.length):(l.getD i 0).toNat<128:=by
  have:=List.all_eq_true.1 h (l.getD i 0) (by
    have e:(l.take cut)[i]'(by rw[List.length_take];omega)=l.getD i 0:=by simp[List.getD,show i<l.length by omega]
    rw[←e]
    exact List.getElem_mem _)
  simpa using this
theorem dcc_walk (l:List UInt8)(cut:Nat)(hl:l.length≤100000)(hc:cut≤l.length):Tri Ext0 p_ (.loop (z2_ p_ 39 9)) (dcC l cut 0) (if loB l cut=true then .exit 2 else .ret) (if loB l cut=true then dcD l cut ((l.take cut).map UInt8.toNat)else dcN):=by
  have hw:∀i,i64.wrap ((l.getD i 0).toNat:Nat)=((l.getD i 0).toNat:Nat):=fun i=>by
    have:=(l.getD i 0).toNat_lt
    exact t9_ (by omega) (by omega)
  have hnl:∀i,i≤cut→(z0_ ((l.take i).map UInt8.toNat)).length=i:=fun i hi=>by
    simp only[y6_,List.length_map,List.length_take];omega
  refine t7_ mixed w4_ (fun i=>dcC l cut i) (fun i=>i≤cut∧∀j,j<i→(l.getD j 0).toNat<128) (fun i=>cut-i) (fun i hx=>?_) 0 ⟨Nat.zero_le _,fun j hj=>absurd hj (Nat.not_lt_zero _)⟩
  obtain⟨h1,h2⟩:=hx
  by_cases hi:i<cut
  ·have ht:=take_cells l i (by omega)
   by_cases hb:(((l.getD i 0).toNat:Nat):Int)>127
   ·have:loB l cut=false:=by
      cases h:loB l cut with
      |false=>rfl
      |true=>have:=all_at h hi hc;omega
    rw[this]
    exact .inr ⟨by simp,dccB_all l cut i hi hb hl hc (hw i) (hnl i h1)⟩
   ·refine .inl ⟨i+1,⟨hi,fun j hj=>?_⟩,by omega,dccA_all l cut i hi hb ht hl hc (hw i) (hnl i h1)⟩
    by_cases hj2:j<i
    ·exact h2 j hj2
    ·have:j=i:=by omega
     subst this;omega
  ·have he:i=cut:=by omega
   subst he
   have:loB l i=true:=by
     refine List.all_eq_true.2 fun c hc=>?_
     obtain⟨j,hj,rfl⟩:=List.getElem_of_mem hc
     rw[List.length_take]at hj
     have:=h2 j (by omega)
     simpa [List.getD,show j<l.length by omega]using this
   rw[this]
   exact .inr ⟨by simp,dccZ_all l i i rfl (by simp only[List.length_map,List.length_take];omega) hl hc (hw i) (hnl i (Nat.le_refl _))⟩
noncomputable def clDc:CallT:=q4_ p_ (t4_ [(60,rdSpec),(61,g3_),(62,adSpec)]) 500 8
theorem clDc_ok:x3_ p_ clDc:=t3_ mixed (y4_ rnb_ok (y4_ rsg_ok (y4_ rad_ok w3_))) 500 8
def dcS (l:List UInt8)(cut:Nat)(out:List Nat)(p c b:Nat)(f:Bool):St:=⟨frame 111 [(0,.c (str l)),(4,.sl 0 0 out.length),(5,.c (.int .i64 cut)),(8,.c (.int .i64 p)),(9,.c (.int .i64 c)),(10,.c (.int .i64 b)),(11,.c (.bool f))],[some ⟨3,false,z0_ out⟩]⟩
def dcE (out:List Nat):St:=⟨frame 111 [(4,.sl 0 0 out.length)],[some ⟨3,false,z0_ out⟩]⟩
theorem notb1 {b:Bool}(h:(!b)=false):b=true:=by cases b<;>simp_all
theorem dcsA_all (l:List UInt8)(cut:Nat)(out o2:List Nat)(p c b:Nat)(f:Bool)(d k c2 p2 q b2:Nat)(hi:cut<l.length)(hk:k=0)(hl:l.length≤100000)(hol:out.length≤100000)(hcl:cut≤100000)(hp:p≤100000)(hc:c≤1114112)(hb:b≤100000)(hd:(rdV (rdB b 0 1 0 (l.drop cut))).1=d)(hk2:(rdV (rdB b 0 1 0 (l.drop cut))).2=k)(hd2:d≤2147483647)(hkl:k≤100000)(hnl:(z0_ out).length=out.length):y7_ Ext0 p_ clDc (z2_ p_ 39 20) (dcS l cut out p c b f) (.ret) (dcN):=by
  refine⟨⟨true,(bs [(50,true),(62,true)]++[(57,⟨.c (.int .i64 d),none⟩),(58,⟨.c (.int .i64 k),none⟩),(65,⟨.c (.int .i64 (cut+k:Nat)),none⟩),(68,⟨.c (.int .i64 (p+d:Nat)),none⟩),(73,⟨.c (.int .i64 q),some []⟩),(74,⟨.c (.int .i64 c2),none⟩),(78,⟨.c (.int .i64 p2),some []⟩),(106,⟨.c (.int .i64 b2),none⟩),(90,⟨.sl 2 0 p2,some (z0_ (out.take p2))⟩),(94,⟨.sl 4 0 (p2+1),some (z0_ (out.take p2++[c2]))⟩),(99,⟨.sl 5 0 o2.length,some (z0_ o2)⟩)]++[])⟩,_,60,⟨[(2,3)],[2,3],[1]⟩,[decide ((↑cut:Int)<↑l.length)=true,
 (0:Int)≤↑cut,
 (↑cut:Int)≤↑l.length,
 (↑l.length:Int)≤↑l.length,
 (0:Int)≤↑b,
 (↑b:Int)≤100000,
 (((List.drop cut (List.take l.length l)).length:Nat)≤((100000:Nat))),
 (((↑(rdV (rdB (↑b:Int).toNat (0:Nat) (1:Nat) (0:Nat) (sb { data:= { toList:=List.drop (↑cut:Int).toNat (List.take (↑(sb { data:= { toList:=l}}).length:Int).toNat (sb { data:= { toList:=l}}))}}))).fst:Int):Int))=((↑d:Int)),
 (((↑(rdV (rdB (↑b:Int).toNat (0:Nat) (1:Nat) (0:Nat) (sb { data:= { toList:=List.drop (↑cut:Int).toNat (List.take (↑(sb { data:= { toList:=l}}).length:Int).toNat (sb { data:= { toList:=l}}))}}))).snd:Int):Int))=((↑k:Int)),
 ((↑k:Int)==(0:Int))=true],z3_,by decide,by kernel_rfl,?_⟩
  all_goals try simp(disch:=omega) only[std,hd,hk2,hnl,List.length_drop,List.nil_append,List.append_nil,Nat.sub_zero,Nat.zero_add,Nat.add_zero,s3_]
  all_goals repeat' apply And.intro
  all_goals first|exact True.intro|omega|with_reducible (first|rfl|assumption)|exact congrArg (fun n:Nat=>(n:Int)) hb2|exact hok (notb1 hc81)|exact sl_eq (by omega)|exact hk|exact hd|exact hk2|exact hnl|rfl
theorem dcsB_all (l:List UInt8)(cut:Nat)(out o2:List Nat)(p c b:Nat)(f:Bool)(d k c2 p2 q b2:Nat)(hi:cut<l.length)(hk:¬k=0)(hl:l.length≤100000)(hol:out.length≤100000)(hcl:cut≤100000)(hp:p≤100000)(hc:c≤1114112)(hb:b≤100000)(hd:(rdV (rdB b 0 1 0 (l.drop cut))).1=d)(hk2:(rdV (rdB b 0 1 0 (l.drop cut))).2=k)(hd2:d≤2147483647)(hkl:k≤100000)(hnl:(z0_ out).length=out.length)(hq:i64.wrap (((p+d:Nat):Int).tdiv ((out.length+1:Nat):Int))=(q:Nat))(hq2:q≤2147583647)(hcq:c+q=c2)(hr:(((p+d:Nat):Int).tmod ((out.length+1:Nat):Int))=(p2:Nat))(hok:okI (c2:Nat)=true→(out.length:Int)≥255):y7_ Ext0 p_ clDc (z2_ p_ 39 20) (dcS l cut out p c b f) (.ret) (dcN):=by
  refine y9_ (!okI (↑c2:Int)) (fun hc81=>⟨⟨true,bs [(81,true)]++(bs [(50,true),(62,false),(85,true)]++[(57,⟨.c (.int .i64 d),none⟩),(58,⟨.c (.int .i64 k),none⟩),(65,⟨.c (.int .i64 (cut+k:Nat)),none⟩),(68,⟨.c (.int .i64 (p+d:Nat)),none⟩),(73,⟨.c (.int .i64 q),some []⟩),(74,⟨.c (.int .i64 c2),none⟩),(78,⟨.c (.int .i64 p2),some []⟩),(106,⟨.c (.int .i64 b2),none⟩),(90,⟨.sl 2 0 p2,some (z0_ (out.take p2))⟩),(94,⟨.sl 4 0 (p2+1),some (z0_ (out.take p2++[c2]))⟩),(99,⟨.sl 5 0 o2.length,some (z0_ o2)⟩)]++[])⟩,_,60,⟨[(2,3)],[2,3],[1]⟩,[decide ((↑cut:Int)<↑l.length)=true,
 (0:Int)≤↑cut,
 (↑cut:Int)≤↑l.length,
 (↑l.length:Int)≤↑l.length,
 (0:Int)≤↑b,
 (↑b:Int)≤100000,
 (((List.drop cut (List.take l.length l)).length:Nat)≤((100000:Nat))),
 (((↑(rdV (rdB (↑b:Int).toNat (0:Nat) (1:Nat) (0:Nat) (sb { data:= { toList:=List.drop (↑cut:Int).toNat (List.take (↑(sb { data:= { toList:=l}}).length:Int).toNat (sb { data:= { toList:=l}}))}}))).fst:Int):Int))=((↑d:Int)),
 (((↑(rdV (rdB (↑b:Int).toNat (0:Nat) (1:Nat) (0:Nat) (sb { data:= { toList:=List.drop (↑cut:Int).toNat (List.take (↑(sb { data:= { toList:=l}}).length:Int).toNat (sb { data:= { toList:=l}}))}}))).snd:Int):Int))=((↑k:Int)),
 ((↑k:Int)==(0:Int))=false,
 (i64.min:Int)≤↑cut+↑k,
 (↑cut+↑k:Int)≤i64.max,
 (↑cut+↑k:Int)=↑(cut+k),
 (i64.min:Int)≤↑p+↑d,
 (↑p+↑d:Int)≤i64.max,
 (↑p+↑d:Int)=↑(p+d),
 (i64.min:Int)≤↑out.length+1,
 (↑out.length+1:Int)≤i64.max,
 (↑out.length:Int)+(1:Int)≠(0:Int),
 ((i64.wrap ((↑(p+d):Int).tdiv ((↑out.length:Int)+(1:Int))):Int))=((↑q:Int)),
 ((([ck ((↑out.length:Int)+(1:Int)≠(0:Int))],AV.c (Value.int IntKind.i64 (i64.wrap ((↑(p+d):Int).tdiv ((↑out.length:Int)+(1:Int))))),Cmd.nop).snd.snd.cells:List AV))=([]),
 (i64.min:Int)≤↑c+↑q,
 (↑c+↑q:Int)≤i64.max,
 (↑c+↑q:Int)=↑c2,
 (i64.min:Int)≤↑out.length+1,
 (↑out.length+1:Int)≤i64.max,
 (↑out.length:Int)+(1:Int)≠(0:Int),
 (((↑(p+d):Int).tmod ((↑out.length:Int)+(1:Int)):Int))=((↑p2:Int)),
 ((([ck ((↑out.length:Int)+(1:Int)≠(0:Int))],AV.c (Value.int IntKind.i64 ((↑(p+d):Int).tmod ((↑out.length:Int)+(1:Int)))),Cmd.nop).snd.snd.cells:List AV))=([]),
 (!okI (↑c2:Int))=true,
 (true)=true],z3_,by decide,by kernel_rfl,?_⟩)
    (fun hc81=>⟨⟨true,bs [(81,false)]++(bs [(50,true),(62,false),(85,true)]++[(57,⟨.c (.int .i64 d),none⟩),(58,⟨.c (.int .i64 k),none⟩),(65,⟨.c (.int .i64 (cut+k:Nat)),none⟩),(68,⟨.c (.int .i64 (p+d:Nat)),none⟩),(73,⟨.c (.int .i64 q),some []⟩),(74,⟨.c (.int .i64 c2),none⟩),(78,⟨.c (.int .i64 p2),some []⟩),(106,⟨.c (.int .i64 b2),none⟩),(90,⟨.sl 2 0 p2,some (z0_ (out.take p2))⟩),(94,⟨.sl 4 0 (p2+1),some (z0_ (out.take p2++[c2]))⟩),(99,⟨.sl 5 0 o2.length,some (z0_ o2)⟩)]++[])⟩,_,60,⟨[(2,3)],[2,3],[1]⟩,[decide ((↑cut:Int)<↑l.length)=true,
 (0:Int)≤↑cut,
 (↑cut:Int)≤↑l.length,
 (↑l.length:Int)≤↑l.length,
 (0:Int)≤↑b,
 (↑b:Int)≤100000,
 (((List.drop cut (List.take l.length l)).length:Nat)≤((100000:Nat))),
 (((↑(rdV (rdB (↑b:Int).toNat (0:Nat) (1:Nat) (0:Nat) (sb { data:= { toList:=List.drop (↑cut:Int).toNat (List.take (↑(sb { data:= { toList:=l}}).length:Int).toNat (sb { data:= { toList:=l}}))}}))).fst:Int):Int))=((↑d:Int)),
 (((↑(rdV (rdB (↑b:Int).toNat (0:Nat) (1:Nat) (0:Nat) (sb { data:= { toList:=List.drop (↑cut:Int).toNat (List.take (↑(sb { data:= { toList:=l}}).length:Int).toNat (sb { data:= { toList:=l}}))}}))).snd:Int):Int))=((↑k:Int)),
 ((↑k:Int)==(0:Int))=false,
 (i64.min:Int)≤↑cut+↑k,
 (↑cut+↑k:Int)≤i64.max,
 (↑cut+↑k:Int)=↑(cut+k),
 (i64.min:Int)≤↑p+↑d,
 (↑p+↑d:Int)≤i64.max,
 (↑p+↑d:Int)=↑(p+d),
 (i64.min:Int)≤↑out.length+1,
 (↑out.length+1:Int)≤i64.max,
 (↑out.length:Int)+(1:Int)≠(0:Int),
 ((i64.wrap ((↑(p+d):Int).tdiv ((↑out.length:Int)+(1:Int))):Int))=((↑q:Int)),
 ((([ck ((↑out.length:Int)+(1:Int)≠(0:Int))],AV.c (Value.int IntKind.i64 (i64.wrap ((↑(p+d):Int).tdiv ((↑out.length:Int)+(1:Int))))),Cmd.nop).snd.snd.cells:List AV))=([]),
 (i64.min:Int)≤↑c+↑q,
 (↑c+↑q:Int)≤i64.max,
 (↑c+↑q:Int)=↑c2,
 (i64.min:Int)≤↑out.length+1,
 (↑out.length+1:Int)≤i64.max,
 (↑out.length:Int)+(1:Int)≠(0:Int),
 (((↑(p+d):Int).tmod ((↑out.length:Int)+(1:Int)):Int))=((↑p2:Int)),
 ((([ck ((↑out.length:Int)+(1:Int)≠(0:Int))],AV.c (Value.int IntKind.i64 ((↑(p+d):Int).tmod ((↑out.length:Int)+(1:Int)))),Cmd.nop).snd.snd.cells:List AV))=([]),
 (!okI (↑c2:Int))=false,
 decide ((↑out.length:Int)≥255)=true],z3_,by decide,by kernel_rfl,?_⟩)
  all_goals try simp only[dz]at hc81
  all_goals try simp(disch:=omega) only[std,hd,hk2,hnl,List.length_drop,List.nil_append,List.append_nil,Nat.sub_zero,Nat.zero_add,Nat.add_zero,s3_]
  all_goals repeat' apply And.intro
  all_goals first|exact True.intro|omega|with_reducible (first|rfl|assumption)|exact congrArg (fun n:Nat=>(n:Int)) hb2|exact hok (notb1 hc81)|exact sl_eq (by omega)|exact hk|exact hd|exact hk2|exact hnl|exact hq|exact hcq|exact hr|rfl
theorem dcsC_all (l:List UInt8)(cut:Nat)(out o2:List Nat)(p c b:Nat)(f:Bool)(d k c2 p2 q b2:Nat)(hi:cut<l.length)(hk:¬k=0)(hl:l.length≤100000)(hol:out.length≤100000)(hcl:cut≤100000)(hp:p≤100000)(hc:c≤1114112)(hb:b≤100000)(hd:(rdV (rdB b 0 1 0 (l.drop cut))).1=d)(hk2:(rdV (rdB b 0 1 0 (l.drop cut))).2=k)(hd2:d≤2147483647)(hkl:k≤100000)(hnl:(z0_ out).length=out.length)(hq:i64.wrap (((p+d:Nat):Int).tdiv ((out.length+1:Nat):Int))=(q:Nat))(hq2:q≤2147583647)(hcq:c+q=c2)(hr:(((p+d:Nat):Int).tmod ((out.length+1:Nat):Int))=(p2:Nat))(hok:okI (c2:Nat)=true)(h255:out.length<255)(hpl:p2≤out.length)(h1:(z0_ out).take p2=z0_ (out.take p2))(h2:(z0_ (out.take p2)).take p2++[.c (.int .i64 (c2:Nat))]=z0_ (out.take p2++[c2]))(h3:(z0_ (out.take p2++[c2])).take (p2+1)++((z0_ out).drop p2).take (out.length-p2)=z0_ o2)(h4:(z0_ (out.take p2)).length=p2)(h5:(z0_ (out.take p2++[c2])).length=p2+1)(ho2:out.length+1=o2.length)(hb2:adp d (out.length+1) f=b2):y7_ Ext0 p_ clDc (z2_ p_ 39 20) (dcS l cut out p c b f) (.normal) (dcS l (cut+k) o2 (p2+1) c2 b2 false):=by
  refine⟨⟨true,(bs [(50,true),(62,false),(80,true),(84,false)]++[(57,⟨.c (.int .i64 d),none⟩),(58,⟨.c (.int .i64 k),none⟩),(65,⟨.c (.int .i64 (cut+k:Nat)),none⟩),(68,⟨.c (.int .i64 (p+d:Nat)),none⟩),(73,⟨.c (.int .i64 q),some []⟩),(74,⟨.c (.int .i64 c2),none⟩),(78,⟨.c (.int .i64 p2),some []⟩),(106,⟨.c (.int .i64 b2),none⟩),(90,⟨.sl 2 0 p2,some (z0_ (out.take p2))⟩),(94,⟨.sl 4 0 (p2+1),some (z0_ (out.take p2++[c2]))⟩),(99,⟨.sl 5 0 o2.length,some (z0_ o2)⟩)]++[])⟩,_,60,⟨[],[0,4,5,8,9,10,11],[5]⟩,[decide ((↑cut:Int)<↑l.length)=true,
 (0:Int)≤↑cut,
 (↑cut:Int)≤↑l.length,
 (↑l.length:Int)≤↑l.length,
 (0:Int)≤↑b,
 (↑b:Int)≤100000,
 (((List.drop cut (List.take l.length l)).length:Nat)≤((100000:Nat))),
 (((↑(rdV (rdB (↑b:Int).toNat (0:Nat) (1:Nat) (0:Nat) (sb { data:= { toList:=List.drop (↑cut:Int).toNat (List.take (↑(sb { data:= { toList:=l}}).length:Int).toNat (sb { data:= { toList:=l}}))}}))).fst:Int):Int))=((↑d:Int)),
 (((↑(rdV (rdB (↑b:Int).toNat (0:Nat) (1:Nat) (0:Nat) (sb { data:= { toList:=List.drop (↑cut:Int).toNat (List.take (↑(sb { data:= { toList:=l}}).length:Int).toNat (sb { data:= { toList:=l}}))}}))).snd:Int):Int))=((↑k:Int)),
 ((↑k:Int)==(0:Int))=false,
 (i64.min:Int)≤↑cut+↑k,
 (↑cut+↑k:Int)≤i64.max,
 (↑cut+↑k:Int)=↑(cut+k),
 (i64.min:Int)≤↑p+↑d,
 (↑p+↑d:Int)≤i64.max,
 (↑p+↑d:Int)=↑(p+d),
 (i64.min:Int)≤↑out.length+1,
 (↑out.length+1:Int)≤i64.max,
 (↑out.length:Int)+(1:Int)≠(0:Int),
 ((i64.wrap ((↑(p+d):Int).tdiv ((↑out.length:Int)+(1:Int))):Int))=((↑q:Int)),
 ((([ck ((↑out.length:Int)+(1:Int)≠(0:Int))],AV.c (Value.int IntKind.i64 (i64.wrap ((↑(p+d):Int).tdiv ((↑out.length:Int)+(1:Int))))),Cmd.nop).snd.snd.cells:List AV))=([]),
 (i64.min:Int)≤↑c+↑q,
 (↑c+↑q:Int)≤i64.max,
 (↑c+↑q:Int)=↑c2,
 (i64.min:Int)≤↑out.length+1,
 (↑out.length+1:Int)≤i64.max,
 (↑out.length:Int)+(1:Int)≠(0:Int),
 (((↑(p+d):Int).tmod ((↑out.length:Int)+(1:Int)):Int))=((↑p2:Int)),
 ((([ck ((↑out.length:Int)+(1:Int)≠(0:Int))],AV.c (Value.int IntKind.i64 ((↑(p+d):Int).tmod ((↑out.length:Int)+(1:Int)))),Cmd.nop).snd.snd.cells:List AV))=([]),
 (okI (↑c2:Int))=true,
 decide ((↑out.length:Int)≥255)=false,
 (0:Int)≤0,
 (0:Int)≤↑p2,
 (↑p2:Int)≤↑out.length,
 ((p2-Int.toNat (0:Int)+(0:Nat):Nat)≤((z0_ out).length)),
 ((((0:Nat)+(p2-Int.toNat (0:Int)))*(8:Nat):Nat)≤((140737488355328:Nat))),
 (((0:Nat)+(p2-Int.toNat (0:Int)):Nat)≤((4611686018427387904:Nat))),
 (((0:Nat):Nat)≤((0:Nat))),
 y2_ ((AV.sl 2 0 ((0:Nat)+(p2-Int.toNat (0:Int))))) ((AV.sl 2 0 p2)),
 ((List.take (0:Nat) []++List.take (p2-Int.toNat (0:Int)) (List.drop (0:Nat) (z0_ out)):List AV))=(z0_ (List.take p2 out)),
 (((1:Nat):Nat)≤((1:Nat))),
 (((p2+(1:Nat))*(8:Nat):Nat)≤((140737488355328:Nat))),
 ((p2+(1:Nat):Nat)≤((4611686018427387904:Nat))),
 ((p2:Nat)≤((z0_ (List.take p2 out)).length)),
 y2_ ((AV.sl 4 0 (p2+(1:Nat)))) ((AV.sl 4 0 (p2+(1:Nat)))),
 ((List.take p2 (z0_ (List.take p2 out))++List.take (1:Nat) (List.drop (0:Nat) ([AV.c (Value.int IntKind.i64 (↑c2:Int))]++[])):List AV))=(z0_ (List.take p2 out++[c2])),
 (0:Int)≤↑p2,
 (↑p2:Int)≤↑out.length,
 (↑out.length:Int)≤↑out.length,
 ((out.length-p2+(p2+(0:Nat)):Nat)≤((z0_ out).length)),
 (((p2+(1:Nat)+(out.length-p2))*(8:Nat):Nat)≤((140737488355328:Nat))),
 ((p2+(1:Nat)+(out.length-p2):Nat)≤((4611686018427387904:Nat))),
 ((p2+(1:Nat):Nat)≤((z0_ (List.take p2 out++[c2])).length)),
 y2_ ((AV.sl 5 0 (p2+(1:Nat)+(out.length-p2)))) ((AV.sl 5 0 o2.length)),
 ((List.take (p2+(1:Nat)) (z0_ (List.take p2 out++[c2]))++List.take (out.length-p2) (List.drop (p2+(0:Nat)) (z0_ out)):List AV))=(z0_ o2),
 (i64.min:Int)≤↑p2+1,
 (↑p2+1:Int)≤i64.max,
 (i64.min:Int)≤↑out.length+1,
 (↑out.length+1:Int)≤i64.max,
 (0:Int)≤↑d,
 (↑d:Int)≤2147483647,
 (1:Int)≤↑out.length+1,
 (↑out.length+1:Int)≤1000,
 (((↑(adp d ((↑out.length:Int)+(1:Int)).toNat f):Int):Int))=((↑b2:Int))],z3_,by decide,by kernel_rfl,?_⟩
  all_goals try simp(disch:=omega) only[std,hd,hk2,hnl,List.length_drop,List.nil_append,List.append_nil,Nat.sub_zero,Nat.zero_add,Nat.add_zero,s3_,h1,h4,h5]
  all_goals repeat' apply And.intro
  all_goals first|exact True.intro|omega|with_reducible (first|rfl|assumption)|exact congrArg (fun n:Nat=>(n:Int)) hb2|exact hok (notb1 hc81)|exact sl_eq (by omega)|exact hk|exact hd|exact hk2|exact hnl|exact hq|exact hcq|exact hr|exact hok|exact h1|exact h2|exact h3|exact h4|exact h5|exact ho2|exact hb2|rfl
theorem dcsZ_all (l:List UInt8)(cut:Nat)(out o2:List Nat)(p c b:Nat)(f:Bool)(d k c2 p2 q b2:Nat)(hi:¬cut<l.length)(hl:l.length≤100000)(hol:out.length≤100000)(hcl:cut≤100000)(hp:p≤100000)(hc:c≤1114112)(hb:b≤100000)(hd:(rdV (rdB b 0 1 0 (l.drop cut))).1=d)(hk2:(rdV (rdB b 0 1 0 (l.drop cut))).2=k)(hd2:d≤2147483647)(hkl:k≤100000)(hnl:(z0_ out).length=out.length):y7_ Ext0 p_ clDc (z2_ p_ 39 20) (dcS l cut out p c b f) (.exit 4) (dcE out):=by
  refine⟨⟨true,(bs [(50,false)]++[(57,⟨.c (.int .i64 d),none⟩),(58,⟨.c (.int .i64 k),none⟩),(65,⟨.c (.int .i64 (cut+k:Nat)),none⟩),(68,⟨.c (.int .i64 (p+d:Nat)),none⟩),(73,⟨.c (.int .i64 q),some []⟩),(74,⟨.c (.int .i64 c2),none⟩),(78,⟨.c (.int .i64 p2),some []⟩),(106,⟨.c (.int .i64 b2),none⟩),(90,⟨.sl 2 0 p2,some (z0_ (out.take p2))⟩),(94,⟨.sl 4 0 (p2+1),some (z0_ (out.take p2++[c2]))⟩),(99,⟨.sl 5 0 o2.length,some (z0_ o2)⟩)]++[])⟩,_,60,⟨[],[4],[0]⟩,[decide ((↑cut:Int)<↑l.length)=false],z3_,by decide,by kernel_rfl,?_⟩
  all_goals try simp(disch:=omega) only[std,hd,hk2,hnl,List.length_drop,List.nil_append,List.append_nil,Nat.sub_zero,Nat.zero_add,Nat.add_zero,s3_]
  all_goals repeat' apply And.intro
  all_goals first|exact True.intro|omega|with_reducible (first|rfl|assumption)|exact congrArg (fun n:Nat=>(n:Int)) hb2|exact hok (notb1 hc81)|exact sl_eq (by omega)|exact hd|exact hk2|exact hnl|rfl
theorem put_cells1 (out:List Nat)(p c:Nat)(h:(z0_ out).length=p):(z0_ out).take p++[.c (.int .i64 (c:Nat))]=z0_ (out++[c]):=by
  rw[List.take_of_length_le (by omega),nats_app];rfl
theorem put_cells (out:List Nat)(p c:Nat)(h:p≤out.length):(z0_ (out.take p++[c])).take (p+1)++((z0_ out).drop p).take (out.length-p)=z0_ (out.take p++c::out.drop p):=by
  have e1:(z0_ (out.take p++[c])).take (p+1)=z0_ (out.take p++[c]):=List.take_of_length_le (by rw[y6_,List.length_append,List.length_take,List.length_singleton];omega)
  have e2:((z0_ out).drop p).take (out.length-p)=z0_ (out.drop p):=by rw[nats_drop];exact List.take_of_length_le (by rw[y6_,List.length_drop];exact Nat.le_refl _)
  rw[e1,e2,←nats_app,List.append_assoc]
  rfl
theorem okI_nat (c:Nat):okI ((c:Nat):Int)=okC c:=by
  unfold okI
  rw[Int.toNat_natCast,decide_eq_true (Int.natCast_nonneg c),Bool.true_and]
theorem rdV_some {b:Nat}{s:List UInt8}{d k:Nat}(h:rdB b 0 1 0 s=some (d,k)):rdV (rdB b 0 1 0 s)=(d,k)∧d≤2147483647∧1≤k∧k≤s.length:=by
  obtain⟨e,h1,h2,h3,_,h5⟩:=le_rd b s s.length 0 1 0 d k (Nat.le_refl _) h
  have:=h5 (Nat.le_refl _)
  exact⟨by rw[h];rfl,by omega,h2,h3⟩
def dcX (o:Option (List Nat)):Exit:=if o.isSome=true then .exit 4 else .ret
def dcY (o:Option (List Nat)):St:=if o.isSome=true then dcE (o.getD [])else dcN
theorem decT_nil (g:Nat)(x:Stt)(b:Nat)(f:Bool):g7_ g x b f []=some x.out:=by cases g<;>rfl
theorem dcs_walk (l:List UInt8)(hl:l.length≤100000)(cut0 b0:Nat)(x0:Stt)(f0:Bool)(h1:cut0≤l.length)(h2:x0.p≤x0.out.length)(h3:x0.out.length≤100000)(h4:x0.c≤1114111)(h5:b0≤100000){o:Option (List Nat)}(ho:g7_ l.length x0 b0 f0 (l.drop cut0)=o):
    Tri Ext0 p_ (.loop (z2_ p_ 39 20)) (dcS l cut0 x0.out x0.p x0.c b0 f0) (dcX o) (dcY o):=by
  refine t7_ mixed clDc_ok (fun x:Nat×Stt×Nat×Bool×Nat=>dcS l x.1 x.2.1.out x.2.1.p x.2.1.c x.2.2.1 x.2.2.2.1) (fun x=>x.1≤l.length∧x.2.1.p≤x.2.1.out.length∧x.2.1.out.length≤100000∧x.2.1.c≤1114111∧x.2.2.1≤100000∧(l.drop x.1).length≤x.2.2.2.2∧g7_ x.2.2.2.2 x.2.1 x.2.2.1 x.2.2.2.1 (l.drop x.1)=o) (fun x=>l.length-x.1) (fun x hx=>?_) (cut0,x0,b0,f0,l.length) ⟨h1,h2,h3,h4,h5,by simp only[List.length_drop];omega,ho⟩
  clear ho h1 h2 h3 h4 h5
  obtain⟨cut,x,b,f,g⟩:=x
  obtain⟨h1,h2,h3,h4,h5,h6,h7⟩:=hx
  simp only at h1 h2 h3 h4 h5 h6 h7 ⊢
  have hnl:=y6_ x.out
  by_cases hi:cut<l.length
  ·have hne:l.drop cut≠[]:=by
     intro e
     have:=congrArg List.length e
     simp only[List.length_drop,List.length_nil]at this
     omega
   obtain⟨g,rfl⟩:∃m,g=m+1:=⟨g-1,by simp only[List.length_drop]at h6;omega⟩
   rw[decT_cons _ _ _ _ hne]at h7
   cases hr:rdB b 0 1 0 (l.drop cut)with
   |none=>
    rw[hr]at h7
    subst h7
    exact .inr ⟨by simp[dcX],dcsA_all l cut x.out [] x.p x.c b f 0 0 0 0 0 0 hi rfl hl h3 (by omega) (by omega) (by omega) h5 (by rw[hr];rfl) (by rw[hr];rfl) (by omega) (by omega) hnl⟩
   |some y=>
    obtain⟨d,k⟩:=y
    rw[hr]at h7
    simp only at h7
    obtain⟨r1,r2,r3,r4⟩:=rdV_some hr
    simp only[List.length_drop]at r4 h6
    have hq2:=Nat.div_le_self (x.p+d) (x.out.length+1)
    have hp2:=Nat.mod_lt (x.p+d) (show 0<x.out.length+1 by omega)
    have hD:=okI_nat (x.c+(x.p+d)/(x.out.length+1))
    cases hok:okD x d with
    |false=>
     rw[hok,if_neg (by simp)]at h7
     subst h7
     refine .inr ⟨by simp[dcX],dcsB_all l cut x.out [] x.p x.c b f d k _ _ _ 0 hi (by omega) hl h3 (by omega) (by omega) (by omega) h5 (by rw[r1]) (by rw[r1]) r2 (by omega) hnl (a4_ _ (by omega)) (by omega) rfl (tmNat _ _) (fun e=>?_)⟩
     rw[hD]at e
     unfold okD at hok
     rw[e,Bool.true_and]at hok
     have:=of_decide_eq_false hok
     omega
    |true=>
     rw[hok,if_pos rfl]at h7
     have hok2:=hok
     unfold okD at hok2
     rw[Bool.and_eq_true,decide_eq_true_eq]at hok2
     obtain⟨k1,k2⟩:=hok2
     have kc:x.c+(x.p+d)/(x.out.length+1)≤1114111:=by
       unfold okC at k1
       rw[Bool.and_eq_true,decide_eq_true_eq]at k1
       exact k1.1
     have hb2:=adp_le f (okD_le hok).1 (n:=x.out.length+1)
     have hlen:=c0_ x d
     refine .inl ⟨(cut+k,stD x d,adp d (x.out.length+1) f,false,g),⟨by simp only;omega,by simp only;rw[hlen];show(x.p+d)%(x.out.length+1)+1≤_;omega,by simp only;omega,kc,by simp only;omega,by simp only[List.length_drop];omega,by simp only;rw[←List.drop_drop];exact h7⟩,by simp only;omega,?_⟩
     simp only
     have e1:List.take ((x.p+d)%(x.out.length+1)) (z0_ x.out)=z0_ (x.out.take ((x.p+d)%(x.out.length+1))):=nats_take _ _
     have e0:(x.out.take ((x.p+d)%(x.out.length+1))).length=(x.p+d)%(x.out.length+1):=by rw[List.length_take];omega
     have e4:(z0_ (x.out.take ((x.p+d)%(x.out.length+1)))).length=(x.p+d)%(x.out.length+1):=by rw[y6_,e0]
     have e5:(z0_ (x.out.take ((x.p+d)%(x.out.length+1))++[x.c+(x.p+d)/(x.out.length+1)])).length=(x.p+d)%(x.out.length+1)+1:=by rw[y6_,List.length_append,e0];rfl
     exact dcsC_all l cut x.out (stD x d).out x.p x.c b f d k _ _ _ _ hi (by omega) hl h3 (by omega) (by omega) (by omega) h5 (by rw[r1]) (by rw[r1]) r2 (by omega) hnl (a4_ _ (by omega)) (by omega) rfl (tmNat _ _) (hD.trans k1) k2 (by omega) e1
       (put_cells1 _ _ _ e4) (put_cells x.out _ _ (by omega)) e4 e5 (by omega) rfl
  ·rw[List.drop_of_length_le (by omega),decT_nil]at h7
   subst h7
   exact .inr ⟨by simp[dcX],dcsZ_all l cut x.out [] x.p x.c b f 0 (rdV (rdB b 0 1 0 (l.drop cut))).2 0 0 0 0 hi hl h3 (by omega) (by omega) (by omega) h5 (by rw[List.drop_of_length_le (by omega)];rfl) rfl (by omega) (by rw[List.drop_of_length_le (by omega)];show 0≤100000;omega) hnl⟩
def x7_ (s:List UInt8):List Nat:=(p9_ s).getD []
noncomputable def dcLp (l:List UInt8)(cut:Nat)(e2:Exit)(R2:St)(cut1:Nat)(out:List Nat)(e3:Exit)(R3:St):List (Nat×Lp):=
  [(4,⟨z2_ p_ 39 4,⟨[],[0,4,5,6],[]⟩,dcA l 0 1,.exit 0,dcB l cut⟩),
   (9,⟨z2_ p_ 39 9,⟨[(4,3)],[0,4,5,7],[0]⟩,dcC l cut 0,e2,R2⟩),
   (20,⟨z2_ p_ 39 20,⟨[],[0,4,5,8,9,10,11],[0]⟩,dcS l cut1 out 0 128 72 true,e3,R3⟩)]
theorem dcm1_all (l:List UInt8)(cut:Nat)(out o2:List Nat)(e3:Exit)(R3:St)(hl:l.length≤100000):∃(h:Hints) (p:List Prop),o0_ (⟨[],[0,1],[0]⟩) (z9_ p_ clDc h (y1_ (dcLp l cut .ret dcN l.length out e3 R3)) 60 39 ([.c (str l)]) [])=some (.tu [.sl 0 0 0,.c (.bool false)],[some ⟨3,false,[]⟩],p)∧z7_ p:=by
  refine⟨⟨true,bs []⟩,[((z2_ p_ (39:FuncId) (4:Nat):Go.Code))=(z2_ p_ (39:FuncId) (4:Nat)),
 ((dcA l (0:Nat) (1:Nat):St))=(dcA l (0:Nat) (1:Nat)),
 ((z2_ p_ (39:FuncId) (9:Nat):Go.Code))=(z2_ p_ (39:FuncId) (9:Nat)),
 ((dcC l cut (0:Nat):St))=(dcC l cut (0:Nat))],by kernel_rfl,?_⟩
  all_goals try simp(disch:=omega) only[std]
  all_goals repeat' apply And.intro
  all_goals first|exact True.intro|omega|with_reducible (first|rfl|assumption)|rfl
theorem dcm2T_all (l:List UInt8)(cut:Nat)(out o2:List Nat)(e3:Exit)(R3:St)(hl:l.length≤100000)(hcl:cut≤100000)(h0:0<cut):∃(h:Hints) (p:List Prop),o0_ (⟨[],[0,1],[0]⟩) (z9_ p_ clDc h (y1_ (dcLp l cut (.exit 2) (dcD l cut out) (cut+1) out .ret dcN)) 60 39 ([.c (str l)]) [])=some (.tu [.sl 0 0 0,.c (.bool false)],[some ⟨3,false,[]⟩],p)∧z7_ p:=by
  refine⟨⟨true,(bs [(44,true)])⟩,[((z2_ p_ (39:FuncId) (4:Nat):Go.Code))=(z2_ p_ (39:FuncId) (4:Nat)),
 ((dcA l (0:Nat) (1:Nat):St))=(dcA l (0:Nat) (1:Nat)),
 ((z2_ p_ (39:FuncId) (9:Nat):Go.Code))=(z2_ p_ (39:FuncId) (9:Nat)),
 ((dcC l cut (0:Nat):St))=(dcC l cut (0:Nat)),
 decide ((↑cut:Int)>0)=true,
 (i64.min:Int)≤↑cut+1,
 (↑cut+1:Int)≤i64.max,
 ((z2_ p_ (39:FuncId) (20:Nat):Go.Code))=(z2_ p_ (39:FuncId) (20:Nat)),
 ((dcS l (cut+(1:Nat)) out (0:Nat) (128:Nat) (72:Nat) true:St))=(dcS l (cut+(1:Nat)) out (0:Nat) (128:Nat) (72:Nat) true)],by kernel_rfl,?_⟩
  all_goals try simp(disch:=omega) only[std]
  all_goals repeat' apply And.intro
  all_goals first|exact True.intro|omega|with_reducible (first|rfl|assumption)|rfl
theorem dcm3T_all (l:List UInt8)(cut:Nat)(out o2:List Nat)(e3:Exit)(R3:St)(hl:l.length≤100000)(hcl:cut≤100000)(h0:0<cut)(ho:(o2.length:Int)>255):∃(h:Hints) (p:List Prop),o0_ (⟨[(0,3)],[0,1],[1]⟩) (z9_ p_ clDc h (y1_ (dcLp l cut (.exit 2) (dcD l cut out) (cut+1) out (.exit 4) (dcE o2))) 60 39 ([.c (str l)]) [])=some (.tu [.sl 0 0 0,.c (.bool false)],[some ⟨3,false,[]⟩],p)∧z7_ p:=by
  refine⟨⟨true,(bs [(44,true),(109,true)])⟩,[((z2_ p_ (39:FuncId) (4:Nat):Go.Code))=(z2_ p_ (39:FuncId) (4:Nat)),
 ((dcA l (0:Nat) (1:Nat):St))=(dcA l (0:Nat) (1:Nat)),
 ((z2_ p_ (39:FuncId) (9:Nat):Go.Code))=(z2_ p_ (39:FuncId) (9:Nat)),
 ((dcC l cut (0:Nat):St))=(dcC l cut (0:Nat)),
 decide ((↑cut:Int)>0)=true,
 (i64.min:Int)≤↑cut+1,
 (↑cut+1:Int)≤i64.max,
 ((z2_ p_ (39:FuncId) (20:Nat):Go.Code))=(z2_ p_ (39:FuncId) (20:Nat)),
 ((dcS l (cut+(1:Nat)) out (0:Nat) (128:Nat) (72:Nat) true:St))=(dcS l (cut+(1:Nat)) out (0:Nat) (128:Nat) (72:Nat) true),
 decide ((↑o2.length:Int)>255)=true],by kernel_rfl,?_⟩
  all_goals try simp(disch:=omega) only[std]
  all_goals repeat' apply And.intro
  all_goals first|exact True.intro|omega|with_reducible (first|rfl|assumption)|rfl
theorem dcm4T_all (l:List UInt8)(cut:Nat)(out o2:List Nat)(e3:Exit)(R3:St)(hl:l.length≤100000)(hcl:cut≤100000)(h0:0<cut)(ho:¬(o2.length:Int)>255):∃(h:Hints) (p:List Prop),o0_ (⟨[],[0,1],[0]⟩) (z9_ p_ clDc h (y1_ (dcLp l cut (.exit 2) (dcD l cut out) (cut+1) out (.exit 4) (dcE o2))) 60 39 ([.c (str l)]) [])=some (.tu [.sl 0 0 o2.length,.c (.bool true)],[some ⟨3,false,z0_ o2⟩],p)∧z7_ p:=by
  refine⟨⟨true,(bs [(44,true),(109,false)])⟩,[((z2_ p_ (39:FuncId) (4:Nat):Go.Code))=(z2_ p_ (39:FuncId) (4:Nat)),
 ((dcA l (0:Nat) (1:Nat):St))=(dcA l (0:Nat) (1:Nat)),
 ((z2_ p_ (39:FuncId) (9:Nat):Go.Code))=(z2_ p_ (39:FuncId) (9:Nat)),
 ((dcC l cut (0:Nat):St))=(dcC l cut (0:Nat)),
 decide ((↑cut:Int)>0)=true,
 (i64.min:Int)≤↑cut+1,
 (↑cut+1:Int)≤i64.max,
 ((z2_ p_ (39:FuncId) (20:Nat):Go.Code))=(z2_ p_ (39:FuncId) (20:Nat)),
 ((dcS l (cut+(1:Nat)) out (0:Nat) (128:Nat) (72:Nat) true:St))=(dcS l (cut+(1:Nat)) out (0:Nat) (128:Nat) (72:Nat) true),
 decide ((↑o2.length:Int)>255)=false],by kernel_rfl,?_⟩
  all_goals try simp(disch:=omega) only[std]
  all_goals repeat' apply And.intro
  all_goals first|exact True.intro|omega|with_reducible (first|rfl|assumption)|rfl
theorem dcm2F_all (l:List UInt8)(cut:Nat)(out o2:List Nat)(e3:Exit)(R3:St)(hl:l.length≤100000)(hcl:cut≤100000)(h0:cut=0):∃(h:Hints) (p:List Prop),o0_ (⟨[],[0,1],[0]⟩) (z9_ p_ clDc h (y1_ (dcLp l cut (.exit 2) (dcD l cut out) cut out .ret dcN)) 60 39 ([.c (str l)]) [])=some (.tu [.sl 0 0 0,.c (.bool false)],[some ⟨3,false,[]⟩],p)∧z7_ p:=by
  refine⟨⟨true,(bs [(44,false)])⟩,[((z2_ p_ (39:FuncId) (4:Nat):Go.Code))=(z2_ p_ (39:FuncId) (4:Nat)),
 ((dcA l (0:Nat) (1:Nat):St))=(dcA l (0:Nat) (1:Nat)),
 ((z2_ p_ (39:FuncId) (9:Nat):Go.Code))=(z2_ p_ (39:FuncId) (9:Nat)),
 ((dcC l cut (0:Nat):St))=(dcC l cut (0:Nat)),
 decide ((↑cut:Int)>0)=false,
 ((z2_ p_ (39:FuncId) (20:Nat):Go.Code))=(z2_ p_ (39:FuncId) (20:Nat)),
 ((dcS l cut out (0:Nat) (128:Nat) (72:Nat) true:St))=(dcS l cut out (0:Nat) (128:Nat) (72:Nat) true)],by kernel_rfl,?_⟩
  all_goals try simp(disch:=omega) only[std]
  all_goals repeat' apply And.intro
  all_goals first|exact True.intro|omega|with_reducible (first|rfl|assumption)|exact h0|rfl
theorem dcm3F_all (l:List UInt8)(cut:Nat)(out o2:List Nat)(e3:Exit)(R3:St)(hl:l.length≤100000)(hcl:cut≤100000)(h0:cut=0)(ho:(o2.length:Int)>255):∃(h:Hints) (p:List Prop),o0_ (⟨[(0,3)],[0,1],[1]⟩) (z9_ p_ clDc h (y1_ (dcLp l cut (.exit 2) (dcD l cut out) cut out (.exit 4) (dcE o2))) 60 39 ([.c (str l)]) [])=some (.tu [.sl 0 0 0,.c (.bool false)],[some ⟨3,false,[]⟩],p)∧z7_ p:=by
  refine⟨⟨true,(bs [(44,false),(109,true)])⟩,[((z2_ p_ (39:FuncId) (4:Nat):Go.Code))=(z2_ p_ (39:FuncId) (4:Nat)),
 ((dcA l (0:Nat) (1:Nat):St))=(dcA l (0:Nat) (1:Nat)),
 ((z2_ p_ (39:FuncId) (9:Nat):Go.Code))=(z2_ p_ (39:FuncId) (9:Nat)),
 ((dcC l cut (0:Nat):St))=(dcC l cut (0:Nat)),
 decide ((↑cut:Int)>0)=false,
 ((z2_ p_ (39:FuncId) (20:Nat):Go.Code))=(z2_ p_ (39:FuncId) (20:Nat)),
 ((dcS l cut out (0:Nat) (128:Nat) (72:Nat) true:St))=(dcS l cut out (0:Nat) (128:Nat) (72:Nat) true),
 decide ((↑o2.length:Int)>255)=true],by kernel_rfl,?_⟩
  all_goals try simp(disch:=omega) only[std]
  all_goals repeat' apply And.intro
  all_goals first|exact True.intro|omega|with_reducible (first|rfl|assumption)|exact h0|rfl
theorem dcm4F_all (l:List UInt8)(cut:Nat)(out o2:List Nat)(e3:Exit)(R3:St)(hl:l.length≤100000)(hcl:cut≤100000)(h0:cut=0)(ho:¬(o2.length:Int)>255):∃(h:Hints) (p:List Prop),o0_ (⟨[],[0,1],[0]⟩) (z9_ p_ clDc h (y1_ (dcLp l cut (.exit 2) (dcD l cut out) cut out (.exit 4) (dcE o2))) 60 39 ([.c (str l)]) [])=some (.tu [.sl 0 0 o2.length,.c (.bool true)],[some ⟨3,false,z0_ o2⟩],p)∧z7_ p:=by
  refine⟨⟨true,(bs [(44,false),(109,false)])⟩,[((z2_ p_ (39:FuncId) (4:Nat):Go.Code))=(z2_ p_ (39:FuncId) (4:Nat)),
 ((dcA l (0:Nat) (1:Nat):St))=(dcA l (0:Nat) (1:Nat)),
 ((z2_ p_ (39:FuncId) (9:Nat):Go.Code))=(z2_ p_ (39:FuncId) (9:Nat)),
 ((dcC l cut (0:Nat):St))=(dcC l cut (0:Nat)),
 decide ((↑cut:Int)>0)=false,
 ((z2_ p_ (39:FuncId) (20:Nat):Go.Code))=(z2_ p_ (39:FuncId) (20:Nat)),
 ((dcS l cut out (0:Nat) (128:Nat) (72:Nat) true:St))=(dcS l cut out (0:Nat) (128:Nat) (72:Nat) true),
 decide ((↑o2.length:Int)>255)=false],by kernel_rfl,?_⟩
  all_goals try simp(disch:=omega) only[std]
  all_goals repeat' apply And.intro
  all_goals first|exact True.intro|omega|with_reducible (first|rfl|assumption)|exact h0|rfl
theorem cutD_le (l:List UInt8):v5_ l=0∨v5_ l<l.length:=by
  rcases cutG_spec l 0 0 with h|⟨j,h1,h2,_,_⟩
  ·exact .inl h
  ·unfold v5_;exact .inr (by omega)
def dec7Spec:HSpec
  | [.c (.string s)],[]=>some (.tu [.sl 0 0 (x7_ (sb s)).length,.c (.bool (p9_ (sb s)).isSome)],[some ⟨3,false,z0_ (x7_ (sb s))⟩],[(sb s).length≤100000])
  |_,_=>none
theorem nd0:[0].Nodup:=by decide
theorem rdec_ok:u1_ p_ 39 dec7Spec:=by
  refine hspec_new mixed clDc_ok fun args hp r hp' q hs hq=>?_
  unfold dec7Spec at hs
  split at hs
  ·rename_i s
   obtain⟨⟨⟨l⟩⟩,rfl⟩:∃b:ByteArray,b=s:=⟨s,rfl⟩
   simp only[oi_]at hs
   obtain⟨rfl,rfl,rfl⟩:=hs
   have hl:l.length≤100000:=hq.1
   refine⟨rfl,?_⟩
   simp only[q2_]
   have hc:=cutD_le l
   have hcl:v5_ l≤l.length:=by omega
   have w1:=dca_walk l hl
   have w2:=dcc_walk l (v5_ l) hl hcl
   have hb:p9_ l=if loB l (v5_ l)=true then(match g7_ l.length ⟨(l.take (v5_ l)).map UInt8.toNat,0,128⟩ 72 true (if 0<v5_ l then l.drop (v5_ l+1)else l)with
     |some l=>if l.length≤255 then some l else none
     |none=>none)else none:=rfl
   unfold x7_
   cases h2:loB l (v5_ l)with
   |false=>
    rw[h2]at w2 hb
    rw[hb]
    have w3:=dcs_walk l hl l.length 72 ⟨[],0,128⟩ true (Nat.le_refl _) (Nat.le_refl _) (by simp) (by simp) (by omega) (o:=some []) (by rw[List.drop_length,decT_nil])
    obtain⟨hh,p,e,hp⟩:=dcm1_all l (v5_ l) [] [] _ _ hl
    exact⟨_,_,_,_,_,(by decide),y3_ (y3_ (y3_ z3_ nd0 w3) nd0 w2) List.nodup_nil w1,e,hp⟩
   |true=>
    rw[h2]at w2 hb
    have hx:(⟨(l.take (v5_ l)).map UInt8.toNat,0,128⟩:Stt).out.length≤100000:=by simp only[List.length_map,List.length_take];omega
    by_cases hz:0<v5_ l
    ·rw[if_pos rfl,if_pos hz]at hb
     have w3:=dcs_walk l hl (v5_ l+1) 72 ⟨(l.take (v5_ l)).map UInt8.toNat,0,128⟩ true (by omega) (Nat.zero_le _) hx (by simp) (by omega) rfl
     cases ho:g7_ l.length ⟨(l.take (v5_ l)).map UInt8.toNat,0,128⟩ 72 true (l.drop (v5_ l+1))with
     |none=>
      rw[ho]at hb w3
      rw[hb]
      obtain⟨hh,p,e,hp⟩:=dcm2T_all l (v5_ l) ((l.take (v5_ l)).map UInt8.toNat) [] .ret dcN hl (by omega) hz
      exact⟨_,_,_,_,_,(by decide),y3_ (y3_ (y3_ z3_ nd0 w3) nd0 w2) List.nodup_nil w1,e,hp⟩
     |some o2=>
      rw[ho]at hb w3
      by_cases h255:o2.length≤255
      ·have hb:p9_ l=some o2:=hb.trans (if_pos h255)
       rw[hb]
       obtain⟨hh,p,e,hp⟩:=dcm4T_all l (v5_ l) ((l.take (v5_ l)).map UInt8.toNat) o2 .ret dcN hl (by omega) hz (by omega)
       exact⟨_,_,_,_,_,(by decide),y3_ (y3_ (y3_ z3_ nd0 w3) nd0 w2) List.nodup_nil w1,e,hp⟩
      ·have hb:p9_ l=none:=hb.trans (if_neg h255)
       rw[hb]
       obtain⟨hh,p,e,hp⟩:=dcm3T_all l (v5_ l) ((l.take (v5_ l)).map UInt8.toNat) o2 .ret dcN hl (by omega) hz (by omega)
       exact⟨_,_,_,_,_,(by decide),y3_ (y3_ (y3_ z3_ nd0 w3) nd0 w2) List.nodup_nil w1,e,hp⟩
    ·rw[if_pos rfl,if_neg hz]at hb
     have hz:v5_ l=0:=by omega
     have w3:=dcs_walk l hl (v5_ l) 72 ⟨(l.take (v5_ l)).map UInt8.toNat,0,128⟩ true (by omega) (Nat.zero_le _) hx (by simp) (by omega) rfl
     have hd:l.drop (v5_ l)=l:=by rw[hz];rfl
     rw[hd]at w3
     cases ho:g7_ l.length ⟨(l.take (v5_ l)).map UInt8.toNat,0,128⟩ 72 true l with
     |none=>
      rw[ho]at hb w3
      rw[hb]
      obtain⟨hh,p,e,hp⟩:=dcm2F_all l (v5_ l) ((l.take (v5_ l)).map UInt8.toNat) [] .ret dcN hl (by omega) hz
      exact⟨_,_,_,_,_,(by decide),y3_ (y3_ (y3_ z3_ nd0 w3) nd0 w2) List.nodup_nil w1,e,hp⟩
     |some o2=>
      rw[ho]at hb w3
      by_cases h255:o2.length≤255
      ·have hb:p9_ l=some o2:=hb.trans (if_pos h255)
       rw[hb]
       obtain⟨hh,p,e,hp⟩:=dcm4F_all l (v5_ l) ((l.take (v5_ l)).map UInt8.toNat) o2 .ret dcN hl (by omega) hz (by omega)
       exact⟨_,_,_,_,_,(by decide),y3_ (y3_ (y3_ z3_ nd0 w3) nd0 w2) List.nodup_nil w1,e,hp⟩
      ·have hb:p9_ l=none:=hb.trans (if_neg h255)
       rw[hb]
       obtain⟨hh,p,e,hp⟩:=dcm3F_all l (v5_ l) ((l.take (v5_ l)).map UInt8.toNat) o2 .ret dcN hl (by omega) hz (by omega)
       exact⟨_,_,_,_,_,(by decide),y3_ (y3_ (y3_ z3_ nd0 w3) nd0 w2) List.nodup_nil w1,e,hp⟩
  ·simp at hs
end Go.Proofs.YtmjldphagbobpaaGreatDoor
namespace Go.Proofs.YtmjldphagbobpaaGreatDoor
open IntKind (i64 u8 i32 u32 u64)
open _root_.Go.Proofs.Tryz renaming prog→p_
open Go.RowKit Pny
set_option maxRecDepth 100000
def wrB:List Nat→Nat→Nat→Bool→Nat×Bool
  | [],_,b,f=>(b,f)
  |d::r,n,b,f=>wrB r (n+1) (adp d (n+1) f) false
theorem wrT_app:∀(A B:List Nat) (n b:Nat) (f:Bool),wrT (A++B) n b f=wrT A n b f++wrT B (n+A.length) (wrB A n b f).1 (wrB A n b f).2
  | [],B,n,b,f=>rfl
  |d::A,B,n,b,f=>by
   show leB b 40 0 d++wrT (A++B) (n+1) (adp d (n+1) f) false=(leB b 40 0 d++wrT A (n+1) (adp d (n+1) f) false)++wrT B (n+(A.length+1)) (wrB A (n+1) (adp d (n+1) f) false).1 (wrB A (n+1) (adp d (n+1) f) false).2
   rw[wrT_app A B (n+1),List.append_assoc,show n+1+A.length=n+(A.length+1)by omega]
theorem adp_any (d n:Nat)(f:Bool):adp d n f≤1000:=by
  obtain⟨h1,h2,h3⟩:=adEnd_is 20 (adE d n f) 0
  rw[adp_eq]
  have:=Nat.div_le_of_le_mul (m:=36*(r4_ 20 (adE d n f) 0).1) (k:=(r4_ 20 (adE d n f) 0).1+38) (n:=36) (by omega)
  omega
theorem leB_le (b:Nat):∀(f j d:Nat),(leB b f j d).length≤f
  |0,j,d=>by simp[leB]
  |f+1,j,d=>by
   rw[m6_]
   split
   ·simp
   ·have:=leB_le b f (j+1) ((d-bnd j b)/(36-bnd j b))
    simp only[List.length_cons];omega
structure Wst where
  s:List UInt8
  n:Nat
  b:Nat
  f:Bool
  d:Nat
def scS (c z:Nat)(x:Wst):Wst:=if z<c then⟨x.s,x.n,x.b,x.f,x.d+1⟩else if z=c then⟨x.s++leB x.b 40 0 x.d,x.n+1,adp x.d (x.n+1) x.f,false,0⟩else x
def scT (c:Nat):List Nat→Wst→Wst
  | [],x=>x
  |z::r,x=>scT c r (scS c z x)
theorem scT_is (c:Nat):∀(r:List Nat) (x:Wst),scT c r x=⟨x.s++wrT (s8_ c r x.n x.d).1 x.n x.b x.f,(s8_ c r x.n x.d).2.1,(wrB (s8_ c r x.n x.d).1 x.n x.b x.f).1,(wrB (s8_ c r x.n x.d).1 x.n x.b x.f).2,(s8_ c r x.n x.d).2.2⟩∧(s8_ c r x.n x.d).2.1=x.n+(s8_ c r x.n x.d).1.length
  | [],x=>⟨by show x=_;simp[s8_,wrT,wrB],by simp[s8_]⟩
  |z::r,x=>by
   unfold scT scS s8_
   split
   ·exact scT_is c r _
   ·split
    ·obtain⟨h1,h2⟩:=scT_is c r ⟨x.s++leB x.b 40 0 x.d,x.n+1,adp x.d (x.n+1) x.f,false,0⟩
     refine⟨?_,?_⟩
     ·rw[h1]
      simp only[Wst.mk.injEq]
      refine⟨?_,trivial,rfl,rfl,trivial⟩
      rw[List.append_assoc];rfl
     ·simp only[List.length_cons]at h2 ⊢
      omega
    ·exact scT_is c r x
theorem scT_snoc (c:Nat):∀(a:List Nat) (z:Nat) (x:Wst),scT c (a++[z]) x=scS c z (scT c a x)
  | [],z,x=>rfl
  |y::a,z,x=>scT_snoc c a z (scS c y x)
structure Bd (x:Wst) (i:Nat) (n0 d0:Nat):Prop where
  hn:x.n≤n0+i
  hd:x.d≤d0+i
  hb:x.b≤1000
  hs:x.s.length≤300+40*x.n
theorem scS_bd {c z i n0 d0:Nat}{x:Wst}(h:Bd x i n0 d0)(hd0:d0+i≤300000000):Bd (scS c z x) (i+1) n0 d0:=by
  obtain⟨h1,h2,h3,h4⟩:=h
  unfold scS
  split
  ·exact⟨by simp only;omega,by simp only;omega,h3,h4⟩
  ·split
   ·have:=leB_le x.b 40 0 x.d
    exact⟨by simp only;omega,by simp only;omega,adp_any _ _ _,by simp only[List.length_append];omega⟩
   ·exact⟨by omega,by omega,h3,h4⟩
theorem scT_bd {c n0 d0:Nat}{x:Wst} :∀(a:List Nat) (k:Nat),Bd x k n0 d0→d0+(k+a.length)≤300000000→Bd (scT c a x) (k+a.length) n0 d0
  | [],k,h,_=>h
  |z::a,k,h,hd=>by
   simp only[List.length_cons]at hd ⊢
   have h2:=scS_bd (c:=c) (z:=z) h (by omega)
   have:=scT_bd (x:=scS c z x) (c:=c) a (k+1) h2 (by omega)
   rw[show k+(a.length+1)=k+1+a.length by omega]
   exact this
noncomputable def b0_:CallT:=q4_ p_ (t4_ [(61,g3_),(64,leSpec),(62,adSpec),(63,leastSpec)]) 500 8
theorem clEn_ok:x3_ p_ b0_:=t3_ mixed (y4_ rsg_ok (y4_ rle_ok (y4_ rad_ok (y4_ rleast_ok w3_)))) 500 8
def en3 (N:List Nat)(c:Nat)(x:Wst)(i:Nat):St:=⟨frame 100 [(0,.fs 1 N.length (z0_ N)),(4,.c (str x.s)),(5,.c (.int .i64 x.n)),(7,.c (.int .i64 x.b)),(8,.c (.int .i64 c)),(9,.c (.int .i64 x.d)),(10,.c (.bool x.f)),(12,.c (.int .i64 i))],[]⟩
def en2 (N:List Nat)(c:Nat)(x:Wst):St:=⟨frame 100 [(0,.fs 1 N.length (z0_ N)),(4,.c (str x.s)),(5,.c (.int .i64 x.n)),(7,.c (.int .i64 x.b)),(8,.c (.int .i64 c)),(9,.c (.int .i64 x.d)),(10,.c (.bool x.f))],[]⟩
theorem eiA_all (N:List Nat)(c i z:Nat)(s w:List UInt8)(n b d b2:Nat)(f:Bool)(hi:i<N.length)(hat:y2_ (((z0_ N).drop i).headD .any) (.c (.int .i64 z)))(hz:z<c)(hl:N.length≤255)(hc:c≤1114112)(hn:n≤600)(hd:d≤300000000)(hb:b≤1000)(hs:s.length≤100000)(hwl:w.length≤40)(hnl:(z0_ N).length=N.length):y7_ Ext0 p_ b0_ (z2_ p_ 40 24) (en3 N c ⟨s,n,b,f,d⟩ i) (.normal) (en3 N c ⟨s,n,b,f,d+1⟩ (i+1)):=by
  refine⟨⟨true,(bs [(67,true),(75,true),(83,false)]++[(73,⟨.c (.int .i64 z),none⟩),(81,⟨.c (.int .i64 z),none⟩),(87,⟨.c (str w),none⟩),(94,⟨.c (.int .i64 b2),none⟩)])⟩,_,60,⟨[],[0,4,5,7,8,9,10,12],[]⟩,[decide ((↑i:Int)<↑N.length)=true,
 (0:Int)≤↑i,
 (↑i:Int)<↑N.length,
 (((0:Nat):Nat)<((List.drop i (z0_ N)).length)),
 y2_ ((List.drop i (z0_ N)).headD AV.any) ((AV.c ((Value.int .i64 ((↑z:Int)))))),
 decide ((↑z:Int)<↑c)=true,
 (i64.min:Int)≤↑d+1,
 (↑d+1:Int)≤i64.max,
 (0:Int)≤↑i,
 (↑i:Int)<↑N.length,
 (((0:Nat):Nat)<((List.drop i (z0_ N)).length)),
 y2_ ((List.drop i (z0_ N)).headD AV.any) ((AV.c ((Value.int .i64 ((↑z:Int)))))),
 ((↑z:Int)==(↑c:Int))=false,
 (i64.min:Int)≤↑i+1,
 (↑i+1:Int)≤i64.max],z3_,by decide,by kernel_rfl,?_⟩
  all_goals try simp(disch:=omega) only[std,List.length_drop,hnl,s3_]
  all_goals repeat' apply And.intro
  all_goals first|exact True.intro|omega|with_reducible (first|rfl|assumption)|exact congrArg (fun n:Nat=>(n:Int)) hb2|exact hat|exact hnl|rfl
theorem eiB_all (N:List Nat)(c i z:Nat)(s w:List UInt8)(n b d b2:Nat)(f:Bool)(hi:i<N.length)(hat:y2_ (((z0_ N).drop i).headD .any) (.c (.int .i64 z)))(hz:z=c)(hw:leB b 40 0 d=w)(hb2:adp d (n+1) f=b2)(hl:N.length≤255)(hc:c≤1114112)(hn:n≤600)(hd:d≤300000000)(hb:b≤1000)(hs:s.length≤100000)(hwl:w.length≤40)(hnl:(z0_ N).length=N.length):y7_ Ext0 p_ b0_ (z2_ p_ 40 24) (en3 N c ⟨s,n,b,f,d⟩ i) (.normal) (en3 N c ⟨s++w,n+1,b2,false,0⟩ (i+1)):=by
  refine⟨⟨true,(bs [(67,true),(75,false),(83,true)]++[(73,⟨.c (.int .i64 z),none⟩),(81,⟨.c (.int .i64 z),none⟩),(87,⟨.c (str w),none⟩),(94,⟨.c (.int .i64 b2),none⟩)])⟩,_,60,⟨[],[0,4,5,7,8,9,10,12],[]⟩,[decide ((↑i:Int)<↑N.length)=true,
 (0:Int)≤↑i,
 (↑i:Int)<↑N.length,
 (((0:Nat):Nat)<((List.drop i (z0_ N)).length)),
 y2_ ((List.drop i (z0_ N)).headD AV.any) ((AV.c ((Value.int .i64 ((↑z:Int)))))),
 decide ((↑z:Int)<↑c)=false,
 (0:Int)≤↑i,
 (↑i:Int)<↑N.length,
 (((0:Nat):Nat)<((List.drop i (z0_ N)).length)),
 y2_ ((List.drop i (z0_ N)).headD AV.any) ((AV.c ((Value.int .i64 ((↑z:Int)))))),
 ((↑z:Int)==(↑c:Int))=true,
 (0:Int)≤↑d,
 (↑d:Int)≤2147483647,
 (0:Int)≤↑b,
 (↑b:Int)≤100000,
 ((leB b (40:Nat) (0:Nat) d:List UInt8))=(w),
 ((s.length+w.length:Nat)≤((9223372036854775807:Nat))),
 (i64.min:Int)≤↑n+1,
 (↑n+1:Int)≤i64.max,
 (0:Int)≤↑d,
 (↑d:Int)≤2147483647,
 (1:Int)≤↑n+1,
 (↑n+1:Int)≤1000,
 (((↑(adp d ((↑n:Int)+(1:Int)).toNat f):Int):Int))=((↑b2:Int)),
 (i64.min:Int)≤↑i+1,
 (↑i+1:Int)≤i64.max],z3_,by decide,by kernel_rfl,?_⟩
  all_goals try simp(disch:=omega) only[std,List.length_drop,hnl,s3_]
  all_goals repeat' apply And.intro
  all_goals first|exact True.intro|omega|with_reducible (first|rfl|assumption)|exact congrArg (fun n:Nat=>(n:Int)) hb2|exact hat|exact hz|exact hw|exact hb2|exact hnl|rfl
theorem eiC_all (N:List Nat)(c i z:Nat)(s w:List UInt8)(n b d b2:Nat)(f:Bool)(hi:i<N.length)(hat:y2_ (((z0_ N).drop i).headD .any) (.c (.int .i64 z)))(hz:c<z)(hl:N.length≤255)(hc:c≤1114112)(hn:n≤600)(hd:d≤300000000)(hb:b≤1000)(hs:s.length≤100000)(hwl:w.length≤40)(hnl:(z0_ N).length=N.length):y7_ Ext0 p_ b0_ (z2_ p_ 40 24) (en3 N c ⟨s,n,b,f,d⟩ i) (.normal) (en3 N c ⟨s,n,b,f,d⟩ (i+1)):=by
  refine⟨⟨true,(bs [(67,true),(75,false),(83,false)]++[(73,⟨.c (.int .i64 z),none⟩),(81,⟨.c (.int .i64 z),none⟩),(87,⟨.c (str w),none⟩),(94,⟨.c (.int .i64 b2),none⟩)])⟩,_,60,⟨[],[0,4,5,7,8,9,10,12],[]⟩,[decide ((↑i:Int)<↑N.length)=true,
 (0:Int)≤↑i,
 (↑i:Int)<↑N.length,
 (((0:Nat):Nat)<((List.drop i (z0_ N)).length)),
 y2_ ((List.drop i (z0_ N)).headD AV.any) ((AV.c ((Value.int .i64 ((↑z:Int)))))),
 decide ((↑z:Int)<↑c)=false,
 (0:Int)≤↑i,
 (↑i:Int)<↑N.length,
 (((0:Nat):Nat)<((List.drop i (z0_ N)).length)),
 y2_ ((List.drop i (z0_ N)).headD AV.any) ((AV.c ((Value.int .i64 ((↑z:Int)))))),
 ((↑z:Int)==(↑c:Int))=false,
 (i64.min:Int)≤↑i+1,
 (↑i+1:Int)≤i64.max],z3_,by decide,by kernel_rfl,?_⟩
  all_goals try simp(disch:=omega) only[std,List.length_drop,hnl,s3_]
  all_goals repeat' apply And.intro
  all_goals first|exact True.intro|omega|with_reducible (first|rfl|assumption)|exact congrArg (fun n:Nat=>(n:Int)) hb2|exact hat|exact hnl|rfl
theorem eiZ_all (N:List Nat)(c i z:Nat)(s w:List UInt8)(n b d b2:Nat)(f:Bool)(hi:i=N.length)(hl:N.length≤255)(hc:c≤1114112)(hn:n≤600)(hd:d≤300000000)(hb:b≤1000)(hs:s.length≤100000)(hwl:w.length≤40)(hnl:(z0_ N).length=N.length):y7_ Ext0 p_ b0_ (z2_ p_ 40 24) (en3 N c ⟨s,n,b,f,d⟩ i) (.exit 4) (en2 N c ⟨s,n,b,f,d⟩):=by
  refine⟨⟨true,(bs [(67,false)]++[(73,⟨.c (.int .i64 z),none⟩),(81,⟨.c (.int .i64 z),none⟩),(87,⟨.c (str w),none⟩),(94,⟨.c (.int .i64 b2),none⟩)])⟩,_,60,⟨[],[0,4,5,7,8,9,10],[]⟩,[decide ((↑i:Int)<↑N.length)=false],z3_,by decide,by kernel_rfl,?_⟩
  all_goals try simp(disch:=omega) only[std,List.length_drop,hnl,s3_]
  all_goals repeat' apply And.intro
  all_goals first|exact True.intro|omega|with_reducible (first|rfl|assumption)|exact congrArg (fun n:Nat=>(n:Int)) hb2|exact hi|exact hnl|rfl
theorem ei_walk (N:List Nat)(c n0 d0:Nat)(x:Wst)(hl:N.length≤255)(hc:c≤1114112)(hx:Bd x 0 n0 d0)(hd:d0+255≤300000000)(hn:n0≤255):Tri Ext0 p_ (.loop (z2_ p_ 40 24)) (en3 N c x 0) (.exit 4) (en2 N c (scT c N x)):=by
  have hbd:∀i,i≤N.length→Bd (scT c (N.take i) x) i n0 d0:=fun i hi=>by
    have e:(N.take i).length=i:=by rw[List.length_take];omega
    have:=scT_bd (c:=c) (N.take i) 0 hx (by omega)
    rw[e,Nat.zero_add]at this
    exact this
  have h:=c3_ mixed clEn_ok (b:=z2_ p_ 40 24) (fun i=>en3 N c (scT c (N.take i) x) i) N.length (e:= .exit 4) (R:=en2 N c (scT c N x)) (by simp) (fun i hi=>by
    obtain⟨b1,b2,b3,b4⟩:=hbd i (by omega)
    have ht:N.take (i+1)=N.take i++[N.getD i 0]:=v1_ N i 0 hi
    have ha:y2_ (((z0_ N).drop i).headD .any) (.c (.int .i64 (N.getD i 0:Nat))):=by rw[j9_ N i hi];exact x5_ _
    rw[ht,scT_snoc]
    generalize scT c (N.take i) x=y at*
    obtain⟨s,n,b,f,d⟩:=y
    simp only at b1 b2 b3 b4
    have hw:=leB_le b 40 0 d
    unfold scS
    by_cases h1:N.getD i 0<c
    ·rw[if_pos h1]
     exact eiA_all N c i _ s (leB b 40 0 d) n b d 0 f hi ha h1 hl hc (by omega) (by omega) b3 (by omega) hw (y6_ N)
    ·rw[if_neg h1]
     by_cases h2:N.getD i 0=c
     ·rw[if_pos h2]
      exact eiB_all N c i _ s _ n b d _ f hi ha h2 rfl rfl hl hc (by omega) (by omega) b3 (by omega) hw (y6_ N)
     ·rw[if_neg h2]
      exact eiC_all N c i _ s (leB b 40 0 d) n b d 0 f hi ha (by omega) hl hc (by omega) (by omega) b3 (by omega) hw (y6_ N)) (by
    obtain⟨b1,b2,b3,b4⟩:=hbd N.length (Nat.le_refl _)
    rw[List.take_length]at*
    generalize scT c N x=y at*
    obtain⟨s,n,b,f,d⟩:=y
    simp only at b1 b2 b3 b4
    exact eiZ_all N c N.length 0 s [] n b d 0 f rfl hl hc (by omega) (by omega) b3 (by omega) (by simp) (y6_ N)) 0 (Nat.zero_le _)
  exact h
noncomputable def eiLp (N:List Nat)(c:Nat)(x y:Wst):List (Nat×Lp):=[(24,⟨z2_ p_ 40 24,⟨[],[0,4,5,7,8,9,10,12],[]⟩,en3 N c x 0,.exit 4,en2 N c y⟩)]
def enE (s:List UInt8):St:=⟨frame 100 [(4,.c (str s))],[]⟩
theorem eoA_all (N:List Nat)(c m k:Nat)(s s2:List UInt8)(n b d n2 b2 d2:Nat)(f f2:Bool)(hi:n<N.length)(hlp:p8_ Ext0 p_ (y1_ (eiLp N m ⟨s,n,b,f,d+k⟩ ⟨s2,n2,b2,f2,d2⟩)))(hc:c≤m)(hm:m≤1114111)(hle:t5_ N c=m)(hd:d≤300000000)(hk:(((m-c:Nat):Int)*((n:Int)+1))=(k:Nat))(hkl:k≤300000000)(hd2:d2≤300000000)(hun:z0_ N=z0_ (z5_ (z0_ N)))(hun2:z5_ (z0_ N)=N)(hl:N.length≤255):y7_ Ext0 p_ b0_ (z2_ p_ 40 19) (en2 N c ⟨s,n,b,f,d⟩) (.normal) (en2 N (m+1) ⟨s2,n2,b2,f2,d2+1⟩):=by
  refine⟨⟨true,(bs [(51,true)]++[(54,⟨.c (.int .i64 m),none⟩),(58,⟨.c (.int .i64 (m-c:Nat)),none⟩),(61,⟨.c (.int .i64 k),none⟩)])⟩,_,60,⟨[],[0,4,5,7,8,9,10],[]⟩,[decide ((↑n:Int)<↑N.length)=true,
 (((1:Nat):Nat))=((1:Nat)),
 ((z0_ N:List AV))=(z0_ (z5_ (z0_ N))),
 ((N.length:Nat))=((z5_ (z0_ N)).length),
 ((N.length:Nat)≤((1000:Nat))),
 (0:Int)≤↑c,
 (((↑(t5_ (z5_ (z0_ N)) c):Int):Int))=((↑m:Int)),
 (i64.min:Int)≤↑m-↑c,
 (↑m-↑c:Int)≤i64.max,
 (↑m-↑c:Int)=↑(m-c),
 (i64.min:Int)≤↑n+1,
 (↑n+1:Int)≤i64.max,
 (i64.min:Int)≤↑(m-c)*(↑n+1),
 (↑(m-c)*(↑n+1):Int)≤i64.max,
 (↑(m-c)*(↑n+1):Int)=↑k,
 (i64.min:Int)≤↑d+↑k,
 (↑d+↑k:Int)≤i64.max,
 ((z2_ p_ (40:FuncId) (24:Nat):Go.Code))=(z2_ p_ (40:FuncId) (24:Nat)),
 ((en3 N m { s:=s,n:=n,b:=b,f:=f,d:=d+k} (0:Nat):St))=(en3 N m { s:=s,n:=n,b:=b,f:=f,d:=d+k} (0:Nat)),
 (i64.min:Int)≤↑d2+1,
 (↑d2+1:Int)≤i64.max,
 (i64.min:Int)≤↑m+1,
 (↑m+1:Int)≤i64.max],hlp,by decide,by kernel_rfl,?_⟩
  all_goals try simp(disch:=omega) only[std,hun2,s3_]
  all_goals repeat' apply And.intro
  all_goals first|exact True.intro|omega|with_reducible (first|rfl|assumption)|exact hlp|exact hle|exact hk|exact hun|exact hun2|rfl
theorem eoZ_all (N:List Nat)(c m k:Nat)(s s2:List UInt8)(n b d n2 b2 d2:Nat)(f f2:Bool)(hi:¬n<N.length)(hl:N.length≤255):y7_ Ext0 p_ b0_ (z2_ p_ 40 19) (en2 N c ⟨s,n,b,f,d⟩) (.exit 2) (enE s):=by
  refine⟨⟨true,(bs [(51,false)]++[(54,⟨.c (.int .i64 m),none⟩),(58,⟨.c (.int .i64 (m-c:Nat)),none⟩),(61,⟨.c (.int .i64 k),none⟩)])⟩,_,60,⟨[],[4],[]⟩,[decide ((↑n:Int)<↑N.length)=false],z3_,by decide,by kernel_rfl,?_⟩
  all_goals try simp(disch:=omega) only[std]
  all_goals repeat' apply And.intro
  all_goals first|exact True.intro|omega|with_reducible (first|rfl|assumption)|rfl
theorem okC_le {c:Nat}(h:okC c=true):c≤1114111:=by
  unfold okC at h
  rw[Bool.and_eq_true,decide_eq_true_eq]at h
  exact h.1
theorem filter_same {N:List Nat}{c m:Nat}(hcm:c≤m)(h:∀x∈N,c≤x→m≤x):N.filter (fun z=>decide (z<c))=N.filter (fun z=>decide (z<m)):=by
  apply List.filter_congr
  intro x hx
  rw[decide_eq_decide]
  constructor
  ·omega
  ·intro h1
   apply Classical.byContradiction
   intro h2
   have:=h x hx (by omega)
   omega
theorem scan_len (c:Nat):∀(r:List Nat) (n d:Nat),(s8_ c r n d).2.1=n+(r.filter (fun z=>decide (z=c))).length
  | [],n,d=>rfl
  |z::r,n,d=>by
   unfold s8_
   rw[List.filter_cons]
   split
   ·rw[scan_len c r,if_neg (by simp;omega)]
   ·split
    ·rename_i h
     show(s8_ c r (n+1) 0).2.1=_
     rw[scan_len c r,if_pos (by simpa using h),List.length_cons];omega
    ·rename_i h
     rw[scan_len c r,if_neg (by simpa using h)]
theorem filter_step (N:List Nat)(m:Nat):(N.filter (fun z=>decide (z<m+1))).length=(N.filter (fun z=>decide (z<m))).length+(N.filter (fun z=>decide (z=m))).length:=by
  induction N with
  |nil=>rfl
  |cons z r ih=>
   simp only[List.filter_cons]
   by_cases h1:z<m
   ·rw[if_pos (by simp;omega),if_pos (by simpa using h1),if_neg (by simp;omega)]
    simp only[List.length_cons];omega
   ·by_cases h2:z=m
    ·rw[if_pos (by simp;omega),if_neg (by simpa using h1),if_pos (by simpa using h2)]
     simp only[List.length_cons];omega
    ·rw[if_neg (by simp;omega),if_neg (by simpa using h1),if_neg (by simpa using h2)]
     exact ih
theorem encE_succ (l:List Nat)(f c n d:Nat):e7_ l (f+1) c n d=if n<l.length then
      (s8_ (t5_ l c) l n (d+(t5_ l c-c)*(n+1))).1++e7_ l f (t5_ l c+1) (s8_ (t5_ l c) l n (d+(t5_ l c-c)*(n+1))).2.1 ((s8_ (t5_ l c) l n (d+(t5_ l c-c)*(n+1))).2.2+1)
    else []:=rfl
structure EoI (N:List Nat) (T:List UInt8) (c:Nat) (x:Wst) (g:Nat):Prop where
  he:x.s++wrT (e7_ N g c x.n x.d) x.n x.b x.f=T
  hn:x.n=(N.filter (fun z=>decide (z<c))).length
  c1:128≤c
  c2:c≤1114112
  hd:x.d≤256*(c-128)
  hb:x.b≤1000
  hs:x.s.length≤300+40*x.n
  hg:N.length<x.n+g
theorem eo_walk (N:List Nat)(hl:N.length≤255)(hs:∀x∈N,okC x=true)(s0:List UInt8)(h0:s0.length≤300):
    Tri Ext0 p_ (.loop (z2_ p_ 40 19)) (en2 N 128 ⟨s0,(bas N).length,72,true,0⟩) (.exit 2) (enE (s0++wrT (e7_ N (N.length+1) 128 (bas N).length 0) (bas N).length 72 true)):=by
  have hun:=v2_ N
  refine t7_ mixed clEn_ok (fun y:Nat×Wst×Nat=>en2 N y.1 y.2.1) (fun y=>EoI N (s0++wrT (e7_ N (N.length+1) 128 (bas N).length 0) (bas N).length 72 true) y.1 y.2.1 y.2.2) (fun y=>N.length-y.2.1.n) (fun y hy=>?_) (128,⟨s0,(bas N).length,72,true,0⟩,N.length+1)
    ⟨rfl,rfl,Nat.le_refl _,by simp,by simp,by simp,by simp only;omega,by simp only;omega⟩
  generalize s0++wrT (e7_ N (N.length+1) 128 (bas N).length 0) (bas N).length 72 true=T at*
  obtain⟨c,x,g⟩:=y
  obtain⟨s,n,b,f,d⟩:=x
  obtain⟨he,hn,c1,c2,hd,hb,hs2,hg⟩:=hy
  simp only at he hn c1 c2 hd hb hs2 hg ⊢
  by_cases hi:n<N.length
  ·obtain⟨m1,m2,m3⟩:=least_of (fun x hx=>okC_le (hs x hx)) (filter_lt_len (c:=c) (by omega))
   have hm:=okC_le (hs _ m1)
   obtain⟨g,rfl⟩:∃k,g=k+1:=⟨g-1,by omega⟩
   rw[encE_succ,if_pos hi]at he
   have hsame:=filter_same m2 m3
   rw[hsame]at hn
   generalize hk:t5_ N c=m at*
   have hkk:(m-c)*(n+1)≤(m-c)*255:=Nat.mul_le_mul_left _ (by omega)
   obtain⟨e1,e2⟩:=scT_is m N ⟨s,n,b,f,d+(m-c)*(n+1)⟩
   have e3:=scan_len m N n (d+(m-c)*(n+1))
   have e4:=filter_step N m
   have hbd:=scT_bd (x:=⟨s,n,b,f,d+(m-c)*(n+1)⟩) (c:=m) (n0:=n) (d0:=d+(m-c)*(n+1)) N 0 ⟨by simp,by simp,hb,hs2⟩ (by omega)
   have hw:=ei_walk N m n (d+(m-c)*(n+1)) ⟨s,n,b,f,d+(m-c)*(n+1)⟩ hl (by omega) ⟨by simp,by simp,hb,hs2⟩ (by omega) (by omega)
   have hpos:0<(N.filter (fun z=>decide (z=m))).length:=List.length_pos_iff.2 (List.ne_nil_of_mem (List.mem_filter.2 ⟨m1,by simp⟩))
   simp only at e1 e2
   have hsn:(scT m N ⟨s,n,b,f,d+(m-c)*(n+1)⟩).n=n+(N.filter (fun z=>decide (z=m))).length:=by rw[e1];exact e3
   have hkey:(scT m N ⟨s,n,b,f,d+(m-c)*(n+1)⟩).s++wrT (e7_ N g (m+1) (scT m N ⟨s,n,b,f,d+(m-c)*(n+1)⟩).n ((scT m N ⟨s,n,b,f,d+(m-c)*(n+1)⟩).d+1)) (scT m N ⟨s,n,b,f,d+(m-c)*(n+1)⟩).n (scT m N ⟨s,n,b,f,d+(m-c)*(n+1)⟩).b (scT m N ⟨s,n,b,f,d+(m-c)*(n+1)⟩).f=T:=by
     rw[←he,wrT_app,e1]
     simp only
     rw[List.append_assoc,←e2]
   have hx:((m-c:Nat):Int)*((n:Int)+1)=(((m-c)*(n+1):Nat):Int):=by simp
   clear e1 he
   generalize hy:scT m N ⟨s,n,b,f,d+(m-c)*(n+1)⟩=y at*
   obtain⟨s2,n2,b2,f2,d2⟩:=y
   obtain⟨q1,q2,q3,q4⟩:=hbd
   simp only at q1 q2 q3 q4 hsn hkey
   refine .inl ⟨(m+1,⟨s2,n2,b2,f2,d2+1⟩,g),⟨hkey,by simp only;omega,by simp only;omega,by simp only;omega,by simp only;omega,q3,by simp only;omega,by simp only;omega⟩,by simp only;omega,?_⟩
   exact eoA_all N c m ((m-c)*(n+1)) s s2 n b d n2 b2 d2 f f2 hi (y3_ z3_ List.nodup_nil hw) m2 hm hk (by omega) hx (by omega) (by omega) (by rw[hun]) hun hl
  ·obtain⟨g,rfl⟩:∃k,g=k+1:=⟨g-1,by
     have:(N.filter (fun z=>decide (z<c))).length≤N.length:=List.length_filter_le _ _
     omega⟩
   rw[encE_succ,if_neg hi]at he
   have he:s=T:=by rw[←he];show s=s++[];rw[List.append_nil]
   subst he
   exact .inr ⟨by simp,eoZ_all N c 0 0 s [] n b d 0 0 0 f true hi hl⟩
def en1 (C:List AV)(k:Nat)(s:List UInt8)(n i:Nat):St:=⟨frame 100 [(0,.fs 1 k C),(4,.c (str s)),(5,.c (.int .i64 n)),(6,.c (.int .i64 i))],[]⟩
def en0 (C:List AV)(k:Nat)(s:List UInt8)(n:Nat):St:=⟨frame 100 [(0,.fs 1 k C),(4,.c (str s)),(5,.c (.int .i64 n))],[]⟩
def enN:St:=⟨frame 100 [(2,.c (str [])),(3,.c (.bool false))],[]⟩
theorem efA_all (C:List AV)(k i n:Nat)(s:List UInt8)(z:Int)(w:UInt8)(hi:i<k)(hat:y2_ ((C.drop i).headD .any) (.c (.int .i64 z)))(hok:okI z=true)(hz0:0≤z)(hz:z<128)(hw:UInt8.ofNat z.toNat=w)(hk:k≤255)(hC:C.length=k)(hn:n≤600)(hs:s.length≤600):y7_ Ext0 p_ b0_ (z2_ p_ 40 6) (en1 C k s n i) (.normal) (en1 C k (s++[w]) (n+1) (i+1)):=by
  refine⟨⟨true,(bs [(19,true),(26,true),(32,true)]++[(40,⟨.c (str [w]),none⟩)]++[(25,⟨.c (.int .i64 z),none⟩),(31,⟨.c (.int .i64 z),none⟩),(37,⟨.c (.int .i64 z),none⟩)])⟩,_,60,⟨[],[0,4,5,6],[]⟩,[decide ((↑i:Int)<↑k)=true,
 (0:Int)≤↑i,
 (↑i:Int)<↑k,
 (((0:Nat):Nat)<((List.drop i C).length)),
 y2_ ((List.drop i C).headD AV.any) ((AV.c ((Value.int .i64 z)))),
 (okI z)=true,
 (0:Int)≤↑i,
 (↑i:Int)<↑k,
 (((0:Nat):Nat)<((List.drop i C).length)),
 y2_ ((List.drop i C).headD AV.any) ((AV.c ((Value.int .i64 z)))),
 decide ((z:Int)<128)=true,
 (0:Int)≤↑i,
 (↑i:Int)<↑k,
 (((0:Nat):Nat)<((List.drop i C).length)),
 y2_ ((List.drop i C).headD AV.any) ((AV.c ((Value.int .i64 z)))),
 (((1:Nat):Nat)≤((1:Nat))),
 u2_ ([(AV.c ((Value.int .u8 (u8.wrap z))))]),
 (([UInt8.ofNat (Int.toNat (u8.wrap z))]:List UInt8))=([w]),
 ((s.length+(1:Nat):Nat)≤((9223372036854775807:Nat))),
 (i64.min:Int)≤↑n+1,
 (↑n+1:Int)≤i64.max,
 (i64.min:Int)≤↑i+1,
 (↑i+1:Int)≤i64.max],z3_,by decide,by kernel_rfl,?_⟩
  all_goals try simp(disch:=omega) only[std,List.length_drop,hC,u3_,u6_]
  all_goals repeat' apply And.intro
  all_goals first|exact True.intro|omega|with_reducible (first|rfl|assumption)|exact congrArg (fun c:UInt8=>[c]) hw|exact hat|exact hok|exact hw|exact hC|rfl
theorem efB_all (C:List AV)(k i n:Nat)(s:List UInt8)(z:Int)(w:UInt8)(hi:i<k)(hat:y2_ ((C.drop i).headD .any) (.c (.int .i64 z)))(hok:okI z=true)(hz:¬z<128)(hk:k≤255)(hC:C.length=k)(hn:n≤600)(hs:s.length≤600):y7_ Ext0 p_ b0_ (z2_ p_ 40 6) (en1 C k s n i) (.normal) (en1 C k s n (i+1)):=by
  refine⟨⟨true,(bs [(19,true),(26,true),(32,false)]++[]++[(25,⟨.c (.int .i64 z),none⟩),(31,⟨.c (.int .i64 z),none⟩),(37,⟨.c (.int .i64 z),none⟩)])⟩,_,60,⟨[],[0,4,5,6],[]⟩,[decide ((↑i:Int)<↑k)=true,
 (0:Int)≤↑i,
 (↑i:Int)<↑k,
 (((0:Nat):Nat)<((List.drop i C).length)),
 y2_ ((List.drop i C).headD AV.any) ((AV.c ((Value.int .i64 z)))),
 (okI z)=true,
 (0:Int)≤↑i,
 (↑i:Int)<↑k,
 (((0:Nat):Nat)<((List.drop i C).length)),
 y2_ ((List.drop i C).headD AV.any) ((AV.c ((Value.int .i64 z)))),
 decide ((z:Int)<128)=false,
 (i64.min:Int)≤↑i+1,
 (↑i+1:Int)≤i64.max],z3_,by decide,by kernel_rfl,?_⟩
  all_goals try simp(disch:=omega) only[std,List.length_drop,hC,u3_,u6_]
  all_goals repeat' apply And.intro
  all_goals first|exact True.intro|omega|with_reducible (first|rfl|assumption)|exact congrArg (fun c:UInt8=>[c]) hw|exact hat|exact hok|exact hC|rfl
theorem efF_all (C:List AV)(k i n:Nat)(s:List UInt8)(z:Int)(w:UInt8)(hi:i<k)(hat:y2_ ((C.drop i).headD .any) (.c (.int .i64 z)))(hok:okI z=false)(hk:k≤255)(hC:C.length=k)(hn:n≤600)(hs:s.length≤600):y7_ Ext0 p_ b0_ (z2_ p_ 40 6) (en1 C k s n i) (.ret) (enN):=by
  refine⟨⟨true,(bs [(19,true),(26,false)]++[]++[(25,⟨.c (.int .i64 z),none⟩),(31,⟨.c (.int .i64 z),none⟩),(37,⟨.c (.int .i64 z),none⟩)])⟩,_,60,⟨[],[2,3],[]⟩,[decide ((↑i:Int)<↑k)=true,
 (0:Int)≤↑i,
 (↑i:Int)<↑k,
 (((0:Nat):Nat)<((List.drop i C).length)),
 y2_ ((List.drop i C).headD AV.any) ((AV.c ((Value.int .i64 z)))),
 (okI z)=false],z3_,by decide,by kernel_rfl,?_⟩
  all_goals try simp(disch:=omega) only[std,List.length_drop,hC,u3_,u6_]
  all_goals repeat' apply And.intro
  all_goals first|exact True.intro|omega|with_reducible (first|rfl|assumption)|exact congrArg (fun c:UInt8=>[c]) hw|exact hat|exact hok|exact hC|rfl
theorem efZ_all (C:List AV)(k i n:Nat)(s:List UInt8)(z:Int)(w:UInt8)(hi:i=k)(hk:k≤255)(hC:C.length=k)(hn:n≤600)(hs:s.length≤600):y7_ Ext0 p_ b0_ (z2_ p_ 40 6) (en1 C k s n i) (.exit 0) (en0 C k s n):=by
  refine⟨⟨true,(bs [(19,false)]++[]++[(25,⟨.c (.int .i64 z),none⟩),(31,⟨.c (.int .i64 z),none⟩),(37,⟨.c (.int .i64 z),none⟩)])⟩,_,60,⟨[],[0,4,5],[]⟩,[decide ((↑i:Int)<↑k)=false],z3_,by decide,by kernel_rfl,?_⟩
  all_goals try simp(disch:=omega) only[std,List.length_drop,hC,u3_,u6_]
  all_goals repeat' apply And.intro
  all_goals first|exact True.intro|omega|with_reducible (first|rfl|assumption)|exact congrArg (fun c:UInt8=>[c]) hw|exact hi|exact hC|rfl
def w0_ (L:List Int):List Nat:=L.map Int.toNat
theorem okI_ge {z:Int}(h:okI z=true):0≤z:=by
  unfold okI at h
  rw[Bool.and_eq_true,decide_eq_true_eq]at h
  exact h.1
theorem okI_toNat {z:Int}(h:okI z=true):okC z.toNat=true:=by
  unfold okI at h
  rw[Bool.and_eq_true]at h
  exact h.2
theorem rowN_nats {L:List Int}(h:L.all okI=true):z4_ L=z0_ (w0_ L):=by
  unfold z4_ z0_ w0_
  rw[List.map_map]
  apply List.map_congr_left
  intro z hz
  have:=okI_ge (List.all_eq_true.1 h z hz)
  show _=AV.c (.int .i64 ((z.toNat:Nat):Int))
  rw[Int.toNat_of_nonneg this]
theorem natL_ok {L:List Int}(h:L.all okI=true):∀x∈w0_ L,okC x=true:=by
  intro x hx
  obtain⟨z,hz,rfl⟩:=List.mem_map.1 hx
  exact okI_toNat (List.all_eq_true.1 h z hz)
def fsB (L:List Int):List UInt8:=byt (bas (w0_ L))
theorem fsB_snoc (L:List Int)(i:Nat)(h:i<L.length)(hz:0≤L.getD i 0):fsB (L.take (i+1))=if L.getD i 0<128 then fsB (L.take i)++[UInt8.ofNat (L.getD i 0).toNat]else fsB (L.take i):=by
  unfold fsB w0_ bas byt
  rw[v1_ L i 0 h,List.map_append,List.filter_append,List.map_append]
  generalize L.getD i 0=z at*
  split
  ·rename_i hlt
   simp only[List.map_cons,List.map_nil,List.filter_cons,List.filter_nil]
   rw[if_pos (by simp;omega)]
   rfl
  ·rename_i hlt
   simp only[List.map_cons,List.map_nil,List.filter_cons,List.filter_nil]
   rw[if_neg (by simp;omega)]
   simp
theorem fsB_len (L:List Int)(i:Nat):(fsB (L.take i)).length≤i:=by
  unfold fsB w0_ bas byt
  rw[List.length_map]
  have h1:=List.length_filter_le (fun z:Nat=>decide (z<128)) ((L.take i).map Int.toNat)
  rw[List.length_map,List.length_take]at h1
  omega
theorem ef_walk (L:List Int)(hl:L.length≤255):Tri Ext0 p_ (.loop (z2_ p_ 40 6)) (en1 (z4_ L) L.length [] 0 0) (if L.all okI=true then .exit 0 else .ret) (if L.all okI=true then en0 (z4_ L) L.length (fsB L) (fsB L).length else enN):=by
  refine t7_ mixed clEn_ok (fun i=>en1 (z4_ L) L.length (fsB (L.take i)) (fsB (L.take i)).length i) (fun i=>i≤L.length∧(L.take i).all okI=true) (fun i=>L.length-i) (fun i hx=>?_) 0 ⟨Nat.zero_le _,rfl⟩
  obtain⟨h1,h2⟩:=hx
  have hb:=fsB_len L i
  by_cases hi:i<L.length
  ·have ha:y2_ (((z4_ L).drop i).headD .any) (.c (.int .i64 (L.getD i 0))):=by rw[f8_ L i hi];exact x5_ _
   have htk:(L.take (i+1)).all okI=((L.take i).all okI&&okI (L.getD i 0)):=by
     rw[v1_ L i 0 hi,List.all_append];simp
   cases hok:okI (L.getD i 0)with
   |false=>
    have:L.all okI=false:=by
      rw[←List.take_append_drop (i+1) L,List.all_append,htk,hok];simp
    rw[this]
    exact .inr ⟨by simp,efF_all (z4_ L) L.length i _ _ _ 0 hi ha hok hl (v0_ L) (by omega) (by omega)⟩
   |true=>
    have h0:=okI_ge hok
    refine .inl ⟨i+1,⟨hi,by rw[htk,h2,hok];rfl⟩,by omega,?_⟩
    rw[fsB_snoc L i hi h0]
    by_cases hz:L.getD i 0<128
    ·rw[if_pos hz,List.length_append]
     exact efA_all (z4_ L) L.length i _ _ _ _ hi ha hok h0 hz rfl hl (v0_ L) (by omega) (by omega)
    ·rw[if_neg hz]
     exact efB_all (z4_ L) L.length i _ _ _ 0 hi ha hok hz hl (v0_ L) (by omega) (by omega)
  ·have he:i=L.length:=by omega
   subst he
   rw[List.take_length]at*
   rw[h2]
   exact .inr ⟨by simp,efZ_all (z4_ L) L.length L.length _ _ 0 0 rfl hl (v0_ L) (by omega) (by omega)⟩
noncomputable def enLp1 (C:List AV)(k:Nat)(e:Exit)(R:St):Nat×Lp:=(6,⟨z2_ p_ 40 6,⟨[],[0,4,5,6],[]⟩,en1 C k [] 0 0,e,R⟩)
noncomputable def enLp2 (N:List Nat)(s:List UInt8)(n:Nat)(R:St):Nat×Lp:=(19,⟨z2_ p_ 40 19,⟨[],[0,4,5,7,8,9,10],[]⟩,en2 N 128 ⟨s,n,72,true,0⟩,.exit 2,R⟩)
theorem enm1_all (C:List AV)(k:Nat)(hk:255<k):∃(h:Hints) (p:List Prop),y0_ p_ 40 (z9_ p_ b0_ h (y1_ ([])) 60 40 ([.fs 1 k C]) ([]))=some (.tu [.c (str []),.c (.bool false)],p)∧z7_ p:=by
  refine⟨⟨true,(bs [(15,true)])⟩,[decide ((↑k:Int)>255)=true],by kernel_rfl,?_⟩
  all_goals try simp(disch:=omega) only[std]
  all_goals repeat' apply And.intro
  all_goals first|exact True.intro|omega|with_reducible (first|rfl|assumption)|rfl
theorem enm2_all (C:List AV)(k:Nat)(hk:k≤255):∃(h:Hints) (p:List Prop),y0_ p_ 40 (z9_ p_ b0_ h (y1_ ([enLp1 C k .ret enN])) 60 40 ([.fs 1 k C]) ([]))=some (.tu [.c (str []),.c (.bool false)],p)∧z7_ p:=by
  refine⟨⟨true,(bs [(15,false)])⟩,[decide ((↑k:Int)>255)=false,
 ((z2_ p_ (40:FuncId) (6:Nat):Go.Code))=(z2_ p_ (40:FuncId) (6:Nat)),
 ((en1 C k [] (0:Nat) (0:Nat):St))=(en1 C k [] (0:Nat) (0:Nat))],by kernel_rfl,?_⟩
  all_goals try simp(disch:=omega) only[std]
  all_goals repeat' apply And.intro
  all_goals first|exact True.intro|omega|with_reducible (first|rfl|assumption)|rfl
theorem enm3T_all (N:List Nat)(s t:List UInt8)(n:Nat)(hk:N.length≤255)(hn:0<n)(hs:s.length≤255):∃(h:Hints) (p:List Prop),y0_ p_ 40 (z9_ p_ b0_ h (y1_ ([enLp1 (z0_ N) N.length (.exit 0) (en0 (z0_ N) N.length s n),enLp2 N (s++[45]) n (enE t)])) 60 40 ([.fs 1 N.length (z0_ N)]) ([]))=some (.tu [.c (str t),.c (.bool true)],p)∧z7_ p:=by
  refine⟨⟨true,(bs [(15,false),(45,true)])⟩,[decide ((↑N.length:Int)>255)=false,
 ((z2_ p_ (40:FuncId) (6:Nat):Go.Code))=(z2_ p_ (40:FuncId) (6:Nat)),
 ((en1 (z0_ N) N.length [] (0:Nat) (0:Nat):St))=(en1 (z0_ N) N.length [] (0:Nat) (0:Nat)),
 decide ((↑n:Int)>0)=true,
 ((s.length+(1:Nat):Nat)≤((9223372036854775807:Nat))),
 ((z2_ p_ (40:FuncId) (19:Nat):Go.Code))=(z2_ p_ (40:FuncId) (19:Nat)),
 ((en2 N (128:Nat) { s:=s++[(45:UInt8)],n:=n,b:=(72:Nat),f:=true,d:=(0:Nat)} :St))=(en2 N (128:Nat) { s:=s++[(45:UInt8)],n:=n,b:=(72:Nat),f:=true,d:=(0:Nat)})],by kernel_rfl,?_⟩
  all_goals try simp(disch:=omega) only[std]
  all_goals repeat' apply And.intro
  all_goals first|exact True.intro|omega|with_reducible (first|rfl|assumption)|rfl
theorem enm3F_all (N:List Nat)(s t:List UInt8)(n:Nat)(hk:N.length≤255)(hn:n=0)(hs:s.length≤255):∃(h:Hints) (p:List Prop),y0_ p_ 40 (z9_ p_ b0_ h (y1_ ([enLp1 (z0_ N) N.length (.exit 0) (en0 (z0_ N) N.length s n),enLp2 N s n (enE t)])) 60 40 ([.fs 1 N.length (z0_ N)]) ([]))=some (.tu [.c (str t),.c (.bool true)],p)∧z7_ p:=by
  refine⟨⟨true,(bs [(15,false),(45,false)])⟩,[decide ((↑N.length:Int)>255)=false,
 ((z2_ p_ (40:FuncId) (6:Nat):Go.Code))=(z2_ p_ (40:FuncId) (6:Nat)),
 ((en1 (z0_ N) N.length [] (0:Nat) (0:Nat):St))=(en1 (z0_ N) N.length [] (0:Nat) (0:Nat)),
 decide ((↑n:Int)>0)=false,
 ((z2_ p_ (40:FuncId) (19:Nat):Go.Code))=(z2_ p_ (40:FuncId) (19:Nat)),
 ((en2 N (128:Nat) { s:=s,n:=n,b:=(72:Nat),f:=true,d:=(0:Nat)} :St))=(en2 N (128:Nat) { s:=s,n:=n,b:=(72:Nat),f:=true,d:=(0:Nat)})],by kernel_rfl,?_⟩
  all_goals try simp(disch:=omega) only[std]
  all_goals repeat' apply And.intro
  all_goals first|exact True.intro|omega|with_reducible (first|rfl|assumption)|exact hn|rfl
def l6_ (L:List Int):Bool:=decide (L.length≤255)&&L.all okI
def l3_ (L:List Int):List UInt8:=if l6_ L=true then j4_ (w0_ L)else []
def enc7Spec:Spec
  | [.fs s n l]=>some (.tu [.c (str (l3_ (unI l))),.c (.bool (l6_ (unI l)))],[s=1,l=z4_ (unI l),n=(unI l).length])
  |_=>none
theorem enc_at (L:List Int):∃hs lp fuel p,p8_ Ext0 p_ lp∧y0_ p_ 40 (z9_ p_ b0_ hs lp fuel 40 [.fs 1 L.length (z4_ L)] [])=some (.tu [.c (str (l3_ L)),.c (.bool (l6_ L))],p)∧z7_ p:=by
  unfold l3_ l6_
  by_cases hl:L.length≤255
  ·rw[decide_eq_true hl,Bool.true_and]
   have w1:=ef_walk L hl
   cases hok:L.all okI with
   |false=>
    rw[hok]at w1
    obtain⟨hh,p,e,hp⟩:=enm2_all (z4_ L) L.length hl
    exact⟨_,_,_,_,y3_ z3_ List.nodup_nil w1,e,hp⟩
   |true=>
    rw[hok]at w1
    have hN:=rowN_nats hok
    have hlen:(w0_ L).length=L.length:=by simp[w0_]
    rw[hN,←hlen]at w1 ⊢
    have hs:=natL_ok hok
    have hf:(fsB L).length=(bas (w0_ L)).length:=by simp[fsB,byt]
    have hfl:=fsB_len L L.length
    rw[List.take_length]at hfl
    rw[hf]at w1 hfl
    have hE:j4_ (w0_ L)=fsB L++(hyp (bas (w0_ L)).length++wrT (e7_ (w0_ L) ((w0_ L).length+1) 128 (bas (w0_ L)).length 0) (bas (w0_ L)).length 72 true):=rfl
    by_cases hp:0<(bas (w0_ L)).length
    ·have w2:=eo_walk (w0_ L) (by omega) hs (fsB L++[45]) (by simp only[List.length_append,List.length_singleton];omega)
     obtain⟨hh,p,e,hq⟩:=enm3T_all (w0_ L) (fsB L) (j4_ (w0_ L)) (bas (w0_ L)).length (by omega) hp (by omega)
     have:fsB L++[45]++wrT (e7_ (w0_ L) ((w0_ L).length+1) 128 (bas (w0_ L)).length 0) (bas (w0_ L)).length 72 true=j4_ (w0_ L):=by
       rw[hE];unfold hyp;rw[if_pos hp,List.append_assoc]
     rw[this]at w2
     exact⟨_,_,_,_,y3_ (y3_ z3_ List.nodup_nil w2) List.nodup_nil w1,e,hq⟩
    ·have w2:=eo_walk (w0_ L) (by omega) hs (fsB L) (by omega)
     obtain⟨hh,p,e,hq⟩:=enm3F_all (w0_ L) (fsB L) (j4_ (w0_ L)) (bas (w0_ L)).length (by omega) (by omega) (by omega)
     have:fsB L++wrT (e7_ (w0_ L) ((w0_ L).length+1) 128 (bas (w0_ L)).length 0) (bas (w0_ L)).length 72 true=j4_ (w0_ L):=by
       rw[hE];unfold hyp;rw[if_neg hp,List.nil_append]
     rw[this]at w2
     exact⟨_,_,_,_,y3_ (y3_ z3_ List.nodup_nil w2) List.nodup_nil w1,e,hq⟩
  ·rw[decide_eq_false hl,Bool.false_and]
   obtain⟨hh,p,e,hp⟩:=enm1_all (z4_ L) L.length (by omega)
   exact⟨_,_,_,_,z3_,e,hp⟩
theorem renc_ok:x8_ p_ 40 enc7Spec:=by
  refine w1_ mixed clEn_ok fun args r q hs hq=>?_
  unfold enc7Spec at hs
  split at hs
  ·rename_i s n l
   simp only[oi_]at hs
   obtain⟨rfl,rfl⟩:=hs
   obtain⟨rfl,h2,h3,_⟩:=hq
   generalize unI l=L at*
   subst h2 h3
   exact enc_at L
  ·simp at hs
end Go.Proofs.YtmjldphagbobpaaGreatDoor
