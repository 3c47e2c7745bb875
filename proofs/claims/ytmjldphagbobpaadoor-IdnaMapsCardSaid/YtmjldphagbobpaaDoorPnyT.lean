import Derived.Test.YtmjldphagbobpaaDoorPnyH
import Derived.Test.YtmjldphagbobpaaDoorLevQ
import Derived.Test.YtmjldphagbobpaaDoorBldS
import Derived.Test.YtmjldphagbobpaaDoorSrtH
import Derived.Test.YtmjldphagbobpaaDoorInsE
set_option linter.unusedVariables false
set_option linter.unusedSimpArgs false
namespace Go.Proofs.YtmjldphagbobpaaDoor
open IntKind (i64 u8 i32 u32 u64)
open _root_.Go.Proofs.Tryd renaming prog→p_
open Go.RowKit Pny
theorem qwo_ok:w2_ p_ 44 (byteSpec fun n=> .int .i64 (woI n)):=byteSpec_ok mixed w6_ (by kernel_rfl)
noncomputable def qbd_X (j b:Nat)(h_:List (Nat×Bool)):=y3_ p_ 45 (z8_ p_ cl0 ⟨true,bs h_++([(10,⟨.c (.int .i64 (max (36*(j+1)-b) 1:Int)),none⟩),(11,⟨.c (.int .i64 (bnd j b)),none⟩)])⟩ (y1_ ([])) 60 45 ([.c (.int .i64 j),.c (.int .i64 b)]) ([]))
theorem qbd_1 (j b:Nat):qbd_X j b []=some ((AV.c ((Value.int .i64 ((↑(bnd j b):Int))))),[(i64.min:Int)≤↑j+1,
 (↑j+1:Int)≤i64.max,
 (i64.min:Int)≤36*(↑j+1),
 (36*(↑j+1):Int)≤i64.max,
 (i64.min:Int)≤36*(↑j+1)-↑b,
 (36*(↑j+1)-↑b:Int)≤i64.max,
 ((if(1:Int)>(36:Int)*((↑j:Int)+(1:Int))-(↑b:Int)then(1:Int)else(36:Int)*((↑j:Int)+(1:Int))-(↑b:Int):Int))=(max ((36:Int)*((↑j:Int)+(1:Int))-(↑b:Int)) (1:Int)),
 ((if(26:Int)<max ((36:Int)*((↑j:Int)+(1:Int))-(↑b:Int)) (1:Int)then(26:Int)else max ((36:Int)*((↑j:Int)+(1:Int))-(↑b:Int)) (1:Int):Int))=((↑(bnd j b):Int))]):=by kernel_rfl
theorem qbd_all (j b:Nat)(hj:j≤200000)(hb:b≤100000):∃(h:Hints) (p:List Prop),y3_ p_ 45 (z8_ p_ cl0 h (y1_ ([])) 60 45 ([.c (.int .i64 j),.c (.int .i64 b)]) ([]))=some (.c (.int .i64 (bnd j b)),p)∧z7_ p:=by
  have eR:=qbd_1 j b
  refine⟨_,_,eR.trans (congrArg (fun r=>some (r,_)) ?_),?_⟩
  ·rfl
  ·try clear eR
   unfold bnd
   simp only[z7_,j5_,j4_]
   repeat' apply And.intro
   all_goals first|exact True.intro|omega|(split<;>omega)
theorem qbnd_ok:w2_ p_ 45 bndSpec:=by
  refine v5_ mixed w6_ fun args r q hs hq=>?_
  unfold bndSpec at hs
  split at hs
  ·rename_i j b
   simp only[oi_]at hs
   obtain⟨rfl,rfl⟩:=hs
   simp only[z7_,and_true]at hq ⊢
   obtain⟨h0,h1,h2,h3⟩:=hq
   obtain⟨j,rfl⟩:∃k:Nat,j=(k:Int):=⟨j.toNat,by omega⟩
   obtain⟨b,rfl⟩:∃k:Nat,b=(k:Int):=⟨b.toNat,by omega⟩
   obtain⟨hh,q,e,hp⟩:=qbd_all j b (by omega) (by omega)
   exact⟨_,_,_,_,z4_,e,hp⟩
  ·simp at hs
theorem okI_if (c:Int)(b:Bool)(h:b=true↔(0≤c∧c<55296)∨(57343<c∧c≤1114111)):b=okI c:=by
  rw[okI_eq,Bool.eq_iff_iff,h]
  simp only[Bool.and_eq_true,Bool.or_eq_true,decide_eq_true_eq]
  omega
theorem qsg_all (c:Int):∃(h:Hints) (p:List Prop),y3_ p_ 30 (z8_ p_ cl0 h (y1_ ([])) 60 30 ([.c (.int .i64 c)]) ([]))=some (.c (.bool (okI c)),p)∧z7_ p:=by
  refine v0_ (decide ((0:Int)≤c)) (fun hc4=>v0_ (decide (c<(55296:Int))) (fun hc7=>⟨⟨true,bs [(4,true),(7,true)]⟩,[decide ((0:Int)≤c)=true,
 decide ((c:Int)<55296)=true],Eq.trans (b:=some ((AV.c ((Value.bool true))),_)) (by kernel_rfl) (congrArg (fun r=>some (r,_)) ?_),?_⟩)
    (fun hc7=>v0_ (decide ((57343:Int)<c)) (fun hc11=>⟨⟨true,bs [(4,true),(7,false),(11,true)]⟩,[decide ((0:Int)≤c)=true,
 decide ((c:Int)<55296)=false,
 decide ((57343:Int)<c)=true],Eq.trans (b:=some ((AV.c ((Value.bool (decide (c≤(1114111:Int)))))),_)) (by kernel_rfl) (congrArg (fun r=>some (r,_)) ?_),?_⟩)
    (fun hc11=>⟨⟨true,bs [(4,true),(7,false),(11,false)]⟩,[decide ((0:Int)≤c)=true,
 decide ((c:Int)<55296)=false,
 decide ((57343:Int)<c)=false],Eq.trans (b:=some ((AV.c ((Value.bool false))),_)) (by kernel_rfl) (congrArg (fun r=>some (r,_)) ?_),?_⟩)))
    (fun hc4=>⟨⟨true,bs [(4,false),(11,false)]⟩,[decide ((0:Int)≤c)=false,
 decide ((57343:Int)<c)=false],Eq.trans (b:=some ((AV.c ((Value.bool false))),_)) (by kernel_rfl) (congrArg (fun r=>some (r,_)) ?_),?_⟩)
  all_goals try simp only[dz]at hc4
  all_goals try simp only[dz]at hc7
  all_goals try simp only[dz]at hc11
  any_goals(
    refine congrArg (fun b=>AV.c (.bool b)) (okI_if c _ ?_)
    simp only[decide_eq_true_eq,Bool.or_eq_true,Bool.and_eq_true,true_iff,false_iff,Bool.false_eq_true]
    omega
    done)
  all_goals try simp(disch:=omega) only[std]
  all_goals repeat' apply And.intro
  all_goals first|exact True.intro|omega|with_reducible (first|rfl|assumption)|rfl
theorem qsg_ok:w2_ p_ 30 signISpec:=by
  refine v5_ mixed w6_ fun args r q hs hq=>?_
  unfold signISpec at hs
  split at hs
  ·rename_i c
   simp only[oi_]at hs
   obtain⟨rfl,rfl⟩:=hs
   simp only[z7_,and_true]at hq ⊢
   obtain⟨hh,q,e,hp⟩:=qsg_all c
   exact⟨_,_,_,_,z4_,e,hp⟩
  ·simp at hs
def qrSpec:Spec
  | [.c (.string s),.c (.int .i64 b)]=>some (.tu [.c (.int .i64 (rdV (rdB b.toNat 0 1 0 (sb s))).1),.c (.int .i64 (rdV (rdB b.toNat 0 1 0 (sb s))).2),.c (.bool (rdB b.toNat 0 1 0 (sb s)).isSome)],[0≤b,b≤100000,(sb s).length≤100000])
  |_=>none
noncomputable def clQr:CallT:=l3_ p_ (r4_ [(44,woSpec),(45,bndSpec)]) 500 8
theorem clQr_ok:x7_ p_ clQr:=q7_ mixed (y8_ qwo_ok (y8_ qbnd_ok v2_)) 500 8
def qrS (l:List UInt8)(b a w j:Nat):St:=⟨frame 43 [(0,.c (str l)),(1,.c (.int .i64 b)),(4,.c (.int .i64 a)),(7,.c (.int .i64 w)),(8,.c (.int .i64 j))],[]⟩
def qrR (v k:Nat)(o:Bool):St:=⟨frame 43 [(4,.c (.int .i64 v)),(5,.c (.int .i64 k)),(6,.c (.bool o))],[]⟩
noncomputable def qrA_X (l:List UInt8)(b a w j d t a1 w1:Nat)(h_:List (Nat×Bool)):=o8_ (⟨[],[4,5,6],[]⟩) (o6_ p_ clQr ⟨true,bs h_++(bs [(14,true),(22,true)]++[(20,⟨.c (.int .i64 (-1)),none⟩),(27,⟨.c (.int .i64 a1),none⟩),(32,⟨.c (.int .i64 t),none⟩),(42,⟨.c (.int .i64 w1),none⟩)])⟩ (y1_ ([])) 60 (z1_ p_ 29 3) (qrS l b a w j))
theorem qrA_1 (l:List UInt8)(b a w j d t a1 w1:Nat):qrA_X l b a w j d t a1 w1 []=some (.ret,qrR 0 0 false,[decide ((↑j:Int)<↑l.length)=true,
 (0:Int)≤↑j,
 (↑j:Int)<↑l.length,
 (((0:Int):Int)≤((↑(l.getD j 0).toNat:Int))),
 (((↑(l.getD j 0).toNat:Int):Int)<((256:Int))),
 ((woI (↑(l.getD j 0).toNat:Int):Int))=(-1),
 (true)=true]):=by kernel_rfl
noncomputable def qrB_X (l:List UInt8)(b a w j d t a1 w1:Nat)(h_:List (Nat×Bool)):=o8_ (⟨[],[4,5,6],[]⟩) (o6_ p_ clQr ⟨true,bs h_++(bs [(14,true),(22,false),(29,true)]++[(20,⟨.c (.int .i64 d),none⟩),(27,⟨.c (.int .i64 a1),none⟩),(32,⟨.c (.int .i64 t),none⟩),(42,⟨.c (.int .i64 w1),none⟩)])⟩ (y1_ ([])) 60 (z1_ p_ 29 3) (qrS l b a w j))
theorem qrB_1 (l:List UInt8)(b a w j d t a1 w1:Nat):qrB_X l b a w j d t a1 w1 []=some (.ret,qrR 0 0 false,[decide ((↑j:Int)<↑l.length)=true,
 (0:Int)≤↑j,
 (↑j:Int)<↑l.length,
 (((0:Int):Int)≤((↑(l.getD j 0).toNat:Int))),
 (((↑(l.getD j 0).toNat:Int):Int)<((256:Int))),
 ((woI (↑(l.getD j 0).toNat:Int):Int))=((↑d:Int)),
 (false)=false,
 (i64.min:Int)≤↑d*↑w,
 (↑d*↑w:Int)≤i64.max,
 (i64.min:Int)≤↑a+↑d*↑w,
 (↑a+↑d*↑w:Int)≤i64.max,
 (↑a+↑d*↑w:Int)=↑a1,
 decide ((↑a1:Int)>2147483647)=true]):=by kernel_rfl
noncomputable def qrC_X (l:List UInt8)(b a w j d t a1 w1:Nat)(h_:List (Nat×Bool)):=o8_ (⟨[],[4,5,6],[]⟩) (o6_ p_ clQr ⟨true,bs h_++(bs [(14,true),(22,false),(29,false),(35,true)]++[(20,⟨.c (.int .i64 d),none⟩),(27,⟨.c (.int .i64 a1),none⟩),(32,⟨.c (.int .i64 t),none⟩),(42,⟨.c (.int .i64 w1),none⟩)])⟩ (y1_ ([])) 60 (z1_ p_ 29 3) (qrS l b a w j))
theorem qrC_1 (l:List UInt8)(b a w j d t a1 w1:Nat):qrC_X l b a w j d t a1 w1 []=some (.ret,qrR a1 (j+1) true,[decide ((↑j:Int)<↑l.length)=true,
 (0:Int)≤↑j,
 (↑j:Int)<↑l.length,
 (((0:Int):Int)≤((↑(l.getD j 0).toNat:Int))),
 (((↑(l.getD j 0).toNat:Int):Int)<((256:Int))),
 ((woI (↑(l.getD j 0).toNat:Int):Int))=((↑d:Int)),
 (false)=false,
 (i64.min:Int)≤↑d*↑w,
 (↑d*↑w:Int)≤i64.max,
 (i64.min:Int)≤↑a+↑d*↑w,
 (↑a+↑d*↑w:Int)≤i64.max,
 (↑a+↑d*↑w:Int)=↑a1,
 decide ((↑a1:Int)>2147483647)=false,
 (0:Int)≤↑j,
 (↑j:Int)≤200000,
 (0:Int)≤↑b,
 (↑b:Int)≤100000,
 (((↑(bnd j b):Int):Int))=((↑t:Int)),
 decide ((↑d:Int)<↑t)=true,
 (i64.min:Int)≤↑j+1,
 (↑j+1:Int)≤i64.max]):=by kernel_rfl
noncomputable def qrD_X (l:List UInt8)(b a w j d t a1 w1:Nat)(h_:List (Nat×Bool)):=o8_ (⟨[],[0,1,4,7,8],[]⟩) (o6_ p_ clQr ⟨true,bs h_++(bs [(14,true),(22,false),(29,false),(35,false)]++[(20,⟨.c (.int .i64 d),none⟩),(27,⟨.c (.int .i64 a1),none⟩),(32,⟨.c (.int .i64 t),none⟩),(42,⟨.c (.int .i64 w1),none⟩)])⟩ (y1_ ([])) 60 (z1_ p_ 29 3) (qrS l b a w j))
theorem qrD_1 (l:List UInt8)(b a w j d t a1 w1:Nat):qrD_X l b a w j d t a1 w1 []=some (.normal,qrS l b a1 w1 (j+1),[decide ((↑j:Int)<↑l.length)=true,
 (0:Int)≤↑j,
 (↑j:Int)<↑l.length,
 (((0:Int):Int)≤((↑(l.getD j 0).toNat:Int))),
 (((↑(l.getD j 0).toNat:Int):Int)<((256:Int))),
 ((woI (↑(l.getD j 0).toNat:Int):Int))=((↑d:Int)),
 (false)=false,
 (i64.min:Int)≤↑d*↑w,
 (↑d*↑w:Int)≤i64.max,
 (i64.min:Int)≤↑a+↑d*↑w,
 (↑a+↑d*↑w:Int)≤i64.max,
 (↑a+↑d*↑w:Int)=↑a1,
 decide ((↑a1:Int)>2147483647)=false,
 (0:Int)≤↑j,
 (↑j:Int)≤200000,
 (0:Int)≤↑b,
 (↑b:Int)≤100000,
 (((↑(bnd j b):Int):Int))=((↑t:Int)),
 decide ((↑d:Int)<↑t)=false,
 (i64.min:Int)≤36-↑t,
 (36-↑t:Int)≤i64.max,
 (i64.min:Int)≤↑w*(36-↑t),
 (↑w*(36-↑t):Int)≤i64.max,
 (↑w*(36-↑t):Int)=↑w1,
 (i64.min:Int)≤↑j+1,
 (↑j+1:Int)≤i64.max]):=by kernel_rfl
noncomputable def qrZ_X (l:List UInt8)(b a w j d t a1 w1:Nat)(h_:List (Nat×Bool)):=o8_ (⟨[],[],[]⟩) (o6_ p_ clQr ⟨true,bs h_++(bs [(14,false)]++[(20,⟨.c (.int .i64 d),none⟩),(27,⟨.c (.int .i64 a1),none⟩),(32,⟨.c (.int .i64 t),none⟩),(42,⟨.c (.int .i64 w1),none⟩)])⟩ (y1_ ([])) 60 (z1_ p_ 29 3) (qrS l b a w j))
theorem qrZ_1 (l:List UInt8)(b a w j d t a1 w1:Nat):qrZ_X l b a w j d t a1 w1 []=some (.exit 0,⟨frame 43 [],[]⟩,[decide ((↑j:Int)<↑l.length)=false]):=by kernel_rfl
def qrEnd (b:Nat):Nat→Nat→Nat→List UInt8→Exit×St
  |_,_,_,[]=>(.exit 0,⟨frame 43 [],[]⟩)
  |j,w,a,c::r=>
   if wo c<0 then(.ret,qrR 0 0 false)
   else if a+(wo c).toNat*w>2147483647 then(.ret,qrR 0 0 false)
   else if(wo c).toNat<bnd j b then(.ret,qrR (a+(wo c).toNat*w) (j+1) true)
   else qrEnd b (j+1) (w*(36-bnd j b)) (a+(wo c).toNat*w) r
theorem qrEnd_cons (b j w a:Nat)(c:UInt8)(r:List UInt8):qrEnd b j w a (c::r)=if wo c<0 then(.ret,qrR 0 0 false)
    else if a+(wo c).toNat*w>2147483647 then(.ret,qrR 0 0 false)
    else if(wo c).toNat<bnd j b then(.ret,qrR (a+(wo c).toNat*w) (j+1) true)
    else qrEnd b (j+1) (w*(36-bnd j b)) (a+(wo c).toNat*w) r:=rfl
theorem qrEnd_is (b:Nat):∀(s:List UInt8) (j w a:Nat),(qrEnd b j w a s=(.exit 0,⟨frame 43 [],[]⟩)∧rdB b j w a s=none)∨(qrEnd b j w a s=(.ret,qrR 0 0 false)∧rdB b j w a s=none)∨∃v k,qrEnd b j w a s=(.ret,qrR v (k+j) true)∧rdB b j w a s=some (v,k)
  | [],j,w,a=> .inl ⟨rfl,rfl⟩
  |c::r,j,w,a=>by
   rw[qrEnd_cons,rdB_cons]
   split
   ·exact .inr (.inl ⟨rfl,rfl⟩)
   ·split
    ·exact .inr (.inl ⟨rfl,rfl⟩)
    ·split
     ·exact .inr (.inr ⟨_,1,by rw[Nat.add_comm 1 j],rfl⟩)
     ·rcases qrEnd_is b r (j+1) (w*(36-bnd j b)) (a+(wo c).toNat*w)with⟨e1,e2⟩|⟨e1,e2⟩|⟨v,k,e1,e2⟩
      ·rw[e1,e2];exact .inl ⟨rfl,rfl⟩
      ·rw[e1,e2];exact .inr (.inl ⟨rfl,rfl⟩)
      ·rw[e1,e2];exact .inr (.inr ⟨v,k+1,by rw[show k+(j+1)=k+1+j by omega],rfl⟩)
theorem qr_walk (b:Nat)(hb:b≤100000)(l:List UInt8)(hl:l.length≤100000):Tri Ext0 p_ (.loop (z1_ p_ 29 3)) (qrS l b 0 1 0) (qrEnd b 0 1 0 l).1 (qrEnd b 0 1 0 l).2:=by
  refine n9_ mixed clQr_ok (fun x:Nat×Nat×Nat=>qrS l b x.1 x.2.1 x.2.2) (fun x=>x.2.2≤l.length∧x.1≤2147483647∧x.2.1≤75161927680∧qrEnd b x.2.2 x.2.1 x.1 (l.drop x.2.2)=qrEnd b 0 1 0 l) (fun x=>l.length-x.2.2) (fun x hx=>?_) (0,1,0) ⟨Nat.zero_le _,by simp,by simp,rfl⟩
  obtain⟨a,w,j⟩:=x
  obtain⟨h1,h2,h3,h4⟩:=hx
  simp only at h1 h2 h3 h4 ⊢
  by_cases hj:j<l.length
  ·rw[drop_cons l j hj,qrEnd_cons]at h4
   have h5:=(l.getD j 0).toNat_lt
   obtain⟨t1,t2⟩:=bnd_bd j b
   obtain⟨w1,w2⟩:=wo_bd (l.getD j 0)
   have hwo:woI (((l.getD j 0).toNat:Nat):Int)=wo (l.getD j 0):=rfl
   by_cases c1:wo (l.getD j 0)<0
   ·rw[if_pos c1]at h4
    rw[←h4]
    refine .inr ⟨by simp,_,_,_,_,_,z4_,by decide,qrA_1 l b a w j 0 0 0 0,?_⟩
    simp only[z7_,and_true,decide_eq_true_eq,Int.toNat_natCast,hwo]
    repeat' apply And.intro
    all_goals first|exact True.intro|omega|rfl
   ·rw[if_neg c1]at h4
    obtain⟨d,hd⟩:∃d:Nat,wo (l.getD j 0)=d:=⟨(wo (l.getD j 0)).toNat,by omega⟩
    rw[hd,Int.toNat_natCast]at h4
    have hd35:d≤35:=by omega
    have hdw:d*w≤35*75161927680:=Nat.mul_le_mul hd35 h3
    have e1:((d:Int)*(w:Int))=((d*w:Nat):Int):=by simp
    generalize hp:d*w=p at*
    by_cases c2:a+p>2147483647
    ·rw[if_pos c2]at h4
     rw[←h4]
     refine .inr ⟨by simp,_,_,_,_,_,z4_,by decide,qrB_1 l b a w j d 0 (a+p) 0,?_⟩
     simp only[z7_,and_true,decide_eq_true_eq,decide_eq_false_iff_not,Int.toNat_natCast,hwo,hd,e1,j5_,j4_]
     repeat' apply And.intro
     all_goals first|exact True.intro|omega|rfl
    ·rw[if_neg c2]at h4
     by_cases c3:d<bnd j b
     ·rw[if_pos c3]at h4
      rw[←h4]
      refine .inr ⟨by simp,_,_,_,_,_,z4_,by decide,qrC_1 l b a w j d (bnd j b) (a+p) 0,?_⟩
      simp only[z7_,and_true,decide_eq_true_eq,decide_eq_false_iff_not,Int.toNat_natCast,hwo,hd,e1,j5_,j4_]
      repeat' apply And.intro
      all_goals first|exact True.intro|omega|rfl
     ·rw[if_neg c3]at h4
      have hd1:1≤d:=by omega
      have hwp:w≤p:=by rw[←hp];exact Nat.le_mul_of_pos_left _ hd1
      have hww:w*(36-bnd j b)≤2147483647*35:=Nat.mul_le_mul (by omega) (by omega)
      have e2:((w:Int)*(36-(bnd j b:Int)))=((w*(36-bnd j b):Nat):Int):=by
        rw[show(36-(bnd j b:Int))=((36-bnd j b:Nat):Int)by omega]
        simp
      generalize hq:w*(36-bnd j b)=q at*
      refine .inl ⟨(a+p,q,j+1),⟨hj,by simp only;omega,by simp only;omega,h4⟩,by simp only;omega,_,_,_,_,_,z4_,by decide,qrD_1 l b a w j d (bnd j b) (a+p) q,?_⟩
      simp only[z7_,and_true,decide_eq_true_eq,decide_eq_false_iff_not,Int.toNat_natCast,hwo,hd,e1,e2,j5_,j4_]
      repeat' apply And.intro
      all_goals first|exact True.intro|omega|rfl
  ·rw[List.drop_of_length_le (by omega)]at h4
   rw[←h4]
   refine .inr ⟨by simp[qrEnd],_,_,_,_,_,z4_,by decide,qrZ_1 l b a w j 0 0 0 0,?_⟩
   simp only[z7_,and_true,decide_eq_false_iff_not]
   omega
noncomputable def qrLp (l:List UInt8)(b:Nat)(e:Exit)(R:St):List (Nat×Lp):=[(3,⟨z1_ p_ 29 3,⟨[],[0,1,4,7,8],[]⟩,qrS l b 0 1 0,e,R⟩)]
noncomputable def qrm1_X (l:List UInt8)(b v k:Nat)(o:Bool)(h_:List (Nat×Bool)):=y3_ p_ 29 (z8_ p_ clQr ⟨true,bs h_++([])⟩ (y1_ (qrLp l b (.exit 0) ⟨frame 43 [],[]⟩)) 60 29 ([.c (str l),.c (.int .i64 b)]) ([]))
theorem qrm1_1 (l:List UInt8)(b v k:Nat)(o:Bool):qrm1_X l b v k o []=some ((AV.tu [(AV.c ((Value.int .i64 0))),
 (AV.c ((Value.int .i64 0))),
 (AV.c ((Value.bool false)))]),[((z1_ p_ (29:FuncId) (3:Nat):Go.Code))=(z1_ p_ (29:FuncId) (3:Nat)),
 ((qrS l b (0:Nat) (1:Nat) (0:Nat):St))=(qrS l b (0:Nat) (1:Nat) (0:Nat))]):=by kernel_rfl
theorem qrm1_all (l:List UInt8)(b v k:Nat)(o:Bool):∃(h:Hints) (p:List Prop),y3_ p_ 29 (z8_ p_ clQr h (y1_ (qrLp l b (.exit 0) ⟨frame 43 [],[]⟩)) 60 29 ([.c (str l),.c (.int .i64 b)]) ([]))=some (.tu [.c (.int .i64 0),.c (.int .i64 0),.c (.bool false)],p)∧z7_ p:=by
  have eR:=qrm1_1 l b v k o
  refine⟨_,_,eR.trans (congrArg (fun r=>some (r,_)) ?_),?_⟩
  ·rfl
  ·try simp only[dz]at*
   try simp(disch:=omega) only[std,bytesOK_cons,bytesOK_nil]
   repeat' apply And.intro
   all_goals first|exact True.intro|omega|assumption|rfl|exact u3_ _
noncomputable def qrm2_X (l:List UInt8)(b v k:Nat)(o:Bool)(h_:List (Nat×Bool)):=y3_ p_ 29 (z8_ p_ clQr ⟨true,bs h_++([])⟩ (y1_ (qrLp l b .ret (qrR v k o))) 60 29 ([.c (str l),.c (.int .i64 b)]) ([]))
theorem qrm2_1 (l:List UInt8)(b v k:Nat)(o:Bool):qrm2_X l b v k o []=some ((AV.tu [(AV.c ((Value.int .i64 ((↑v:Int))))),
 (AV.c ((Value.int .i64 ((↑k:Int))))),
 (AV.c ((Value.bool o)))]),[((z1_ p_ (29:FuncId) (3:Nat):Go.Code))=(z1_ p_ (29:FuncId) (3:Nat)),
 ((qrS l b (0:Nat) (1:Nat) (0:Nat):St))=(qrS l b (0:Nat) (1:Nat) (0:Nat))]):=by kernel_rfl
theorem qrm2_all (l:List UInt8)(b v k:Nat)(o:Bool):∃(h:Hints) (p:List Prop),y3_ p_ 29 (z8_ p_ clQr h (y1_ (qrLp l b .ret (qrR v k o))) 60 29 ([.c (str l),.c (.int .i64 b)]) ([]))=some (.tu [.c (.int .i64 v),.c (.int .i64 k),.c (.bool o)],p)∧z7_ p:=by
  have eR:=qrm2_1 l b v k o
  refine⟨_,_,eR.trans (congrArg (fun r=>some (r,_)) ?_),?_⟩
  ·rfl
  ·try simp only[dz]at*
   try simp(disch:=omega) only[std,bytesOK_cons,bytesOK_nil]
   repeat' apply And.intro
   all_goals first|exact True.intro|omega|assumption|rfl|exact u3_ _
theorem qrd_ok:w2_ p_ 29 qrSpec:=by
  refine v5_ mixed clQr_ok fun args r q hs hq=>?_
  unfold qrSpec at hs
  split at hs
  ·rename_i l b
   simp only[oi_]at hs
   obtain⟨rfl,rfl⟩:=hs
   obtain⟨⟨⟨l⟩⟩,rfl⟩:∃b:ByteArray,b=l:=⟨l,rfl⟩
   simp only[p5_,z7_,and_true]at hq ⊢
   obtain⟨h0,h1,h2⟩:=hq
   obtain⟨b,rfl⟩:∃k:Nat,b=(k:Int):=⟨b.toNat,by omega⟩
   rw[Int.toNat_natCast]
   have hw:=qr_walk b (by omega) l h2
   rcases qrEnd_is b l 0 1 0 with⟨e1,e2⟩|⟨e1,e2⟩|⟨v,k,e1,e2⟩
   ·rw[e1]at hw
    rw[e2]
    obtain⟨hh,p,e,hp⟩:=qrm1_all l b 0 0 false
    exact⟨_,_,_,_,x4_ z4_ List.nodup_nil hw,e,hp⟩
   ·rw[e1]at hw
    rw[e2]
    obtain⟨hh,p,e,hp⟩:=qrm2_all l b 0 0 false
    exact⟨_,_,_,_,x4_ z4_ List.nodup_nil hw,e,hp⟩
   ·rw[e1]at hw
    rw[e2]
    obtain⟨hh,p,e,hp⟩:=qrm2_all l b v k true
    exact⟨_,_,_,_,x4_ z4_ List.nodup_nil hw,e,hp⟩
  ·simp at hs
end Go.Proofs.YtmjldphagbobpaaDoor
namespace Go.Proofs.YtmjldphagbobpaaDoor
open IntKind (i64 u8 i32 u32 u64)
open _root_.Go.Proofs.Tryd renaming prog→p_
open Go.RowKit Pny
def toH (a b c:Nat)(f:Bool):Heap:=[some ⟨47,true,[.c (.int .i64 a),.c (.int .i64 b),.c (.int .i64 c),.c (.bool f)]⟩]
def toS (e k a b c:Nat):St:=⟨frame 41 [(0,.pt 0 0),(6,.c (.int .i64 e)),(7,.c (.int .i64 k))],toH a b c true⟩
theorem toA_all (e k q a b c:Nat)(he:¬e≤455)(hq:q=e/35)(hel:e≤4294967294)(hk:k≤1000000):x9_ 1 p_ cl0 (z1_ p_ 32 6) (toS e k a b c) (.normal) (toS q (k+36) a b c):=by
  refine⟨⟨true,(bs [(26,true)]++[(28,⟨.c (.int .i64 q),none⟩)])⟩,_,60,⟨[],[0,6,7],[0]⟩,[decide ((↑e:Int)>455)=true,
 ((i64.wrap ((↑e:Int).tdiv (35:Int)):Int))=((↑q:Int)),
 (i64.min:Int)≤↑k+36,
 (↑k+36:Int)≤i64.max],y4_,by decide,by kernel_rfl,?_⟩
  all_goals try simp(disch:=omega) only[std]
  all_goals repeat' apply And.intro
  all_goals first|exact True.intro|omega|with_reducible (first|rfl|assumption)|exact hq|rfl
theorem toZ_all (e k q a b c:Nat)(he:e≤455)(hel:e≤4294967294)(hk:k≤1000000):x9_ 1 p_ cl0 (z1_ p_ 32 6) (toS e k a b c) (.exit 0) (toS e k a b c):=by
  refine⟨⟨true,(bs [(26,false)]++[(28,⟨.c (.int .i64 q),none⟩)])⟩,_,60,⟨[],[0,6,7],[0]⟩,[decide ((↑e:Int)>455)=false],y4_,by decide,by kernel_rfl,?_⟩
  all_goals try simp(disch:=omega) only[std]
  all_goals repeat' apply And.intro
  all_goals first|exact True.intro|omega|with_reducible (first|rfl|assumption)|rfl
theorem to_walk (e0:Nat)(h:e0≤4294967294)(a b c:Nat):Tri (ExtK 1) p_ (.loop (z1_ p_ 32 6)) (toS e0 0 a b c) (.exit 0) (toS (n4_ 20 e0 0).1 (n4_ 20 e0 0).2 a b c):=by
  refine i1_ mixed w6_ (fun x:Nat×Nat×Nat=>toS x.1 x.2.1 a b c) (fun x=>x.1≤4294967294∧x.1≤455*35^x.2.2∧x.2.2≤20∧x.2.1+36*x.2.2≤720∧n4_ x.2.2 x.1 x.2.1=n4_ 20 e0 0) (fun x=>x.2.2) (fun x hx=>?_) (e0,0,20) ⟨h,show e0≤455*35^20 from Nat.le_trans h (by decide),Nat.le_refl _,by simp,rfl⟩
  obtain⟨e,k,f⟩:=x
  obtain⟨h1,h2,h3,h4,h5⟩:=hx
  simp only at h1 h2 h3 h4 h5 ⊢
  by_cases he:e≤455
  ·have:n4_ f e k=(e,k):=by
     cases f with
     |zero=>rfl
     |succ f=>unfold n4_;rw[if_neg (by omega)]
   rw[this]at h5
   rw[←h5]
   exact .inr ⟨by simp,toZ_all e k 0 a b c he h1 (by omega)⟩
  ·obtain⟨f,rfl⟩:∃g,f=g+1:=⟨f-1,by
     cases f with
     |zero=>simp at h2;omega
     |succ f=>omega⟩
   have h5:n4_ f (e/35) (k+36)=n4_ 20 e0 0:=by
     rw[←h5]
     show _=(if e>455 then _ else _)
     rw[if_pos (by omega)]
   exact .inl ⟨(e/35,k+36,f),⟨by simp only;omega,by simp only;rw[Nat.pow_succ]at h2;omega,by simp only;omega,by simp only;omega,h5⟩,by simp only;omega,toA_all e k (e/35) a b c he rfl h1 (by omega)⟩
theorem toldT_all (d n e0 q e x y r v a b c:Nat)(hd:d≤2147483647)(n1:1≤n)(n2:n≤1000)(he0:d/700=e0)(hq:i64.wrap ((e0:Int).tdiv (n:Int))=(q:Nat))(hql:q≤2147483647)(he:e0+q=e)(hx:x≤4294967294)(hy:y≤720)(hr:i64.wrap ((36*(x:Int)).tdiv ((x:Int)+38))=(r:Nat))(hv:y+r=v)(hrl:r≤4294967294*36):∃(h:Hints) (p:List Prop),y5_ [] (z8_ p_ cl0 h (y1_ ([(6,⟨z1_ p_ 32 6,⟨[],[0,6,7],[0]⟩,toS e 0 a b c,.exit 0,toS x y a b c⟩)])) 60 32 ([.pt 0 0,.c (.int .i64 d),.c (.int .i64 n)]) (toH a b c false))=some (.tu [],toH v b c true,p)∧z7_ p:=by
  refine⟨⟨true,([(9,⟨.c (.int .i64 (d/2:Nat)),none⟩),(16,⟨.c (.int .i64 e0),none⟩),(23,⟨.c (.int .i64 q),some []⟩),(24,⟨.c (.int .i64 e),none⟩),(37,⟨.c (.int .i64 r),some []⟩),(38,⟨.c (.int .i64 v),none⟩)])⟩,[((i64.wrap ((↑d:Int).tdiv (2:Int)):Int))=((↑(d/(2:Nat)):Int)),
 (((0:Nat):Nat)<((1:Nat))),
 ((i64.wrap ((↑d:Int).tdiv (700:Int)):Int))=((↑e0:Int)),
 (((4:Nat):Nat)≤((4:Nat))),
 (↑n:Int)≠(0:Int),
 ((i64.wrap ((↑e0:Int).tdiv (↑n:Int)):Int))=((↑q:Int)),
 ((([ck ((↑n:Int)≠(0:Int))],AV.c (Value.int IntKind.i64 (i64.wrap ((↑e0:Int).tdiv (↑n:Int)))),Cmd.nop).snd.snd.cells:List AV))=([]),
 (i64.min:Int)≤↑e0+↑q,
 (↑e0+↑q:Int)≤i64.max,
 (↑e0+↑q:Int)=↑e,
 ((z1_ p_ (32:FuncId) (6:Nat):Go.Code))=(z1_ p_ (32:FuncId) (6:Nat)),
 ((toS e (0:Nat) a b c:St))=(toS e (0:Nat) a b c),
 (i64.min:Int)≤36*↑x,
 (36*↑x:Int)≤i64.max,
 (i64.min:Int)≤↑x+38,
 (↑x+38:Int)≤i64.max,
 (↑x:Int)+(38:Int)≠(0:Int),
 ((i64.wrap (((36:Int)*(↑x:Int)).tdiv ((↑x:Int)+(38:Int))):Int))=((↑r:Int)),
 ((([ck ((↑x:Int)+(38:Int)≠(0:Int))],AV.c (Value.int IntKind.i64 (i64.wrap (((36:Int)*(↑x:Int)).tdiv ((↑x:Int)+(38:Int))))),Cmd.nop).snd.snd.cells:List AV))=([]),
 (i64.min:Int)≤↑y+↑r,
 (↑y+↑r:Int)≤i64.max,
 (↑y+↑r:Int)=↑v,
 (((1:Nat):Nat)≤((4:Nat)))],by kernel_rfl,?_⟩
  all_goals try simp(disch:=omega) only[std]
  all_goals repeat' apply And.intro
  all_goals first|exact True.intro|omega|with_reducible (first|rfl|assumption)|exact hq|exact hr|(rw[he0]at *;exact hq)|(rw[he0];exact hq)|rfl|exact he0|exact he|exact hv
theorem toldF_all (d n e0 q e x y r v a b c:Nat)(hd:d≤2147483647)(n1:1≤n)(n2:n≤1000)(he0:d/2=e0)(hq:i64.wrap ((e0:Int).tdiv (n:Int))=(q:Nat))(hql:q≤2147483647)(he:e0+q=e)(hx:x≤4294967294)(hy:y≤720)(hr:i64.wrap ((36*(x:Int)).tdiv ((x:Int)+38))=(r:Nat))(hv:y+r=v)(hrl:r≤4294967294*36):∃(h:Hints) (p:List Prop),y5_ [] (z8_ p_ cl0 h (y1_ ([(6,⟨z1_ p_ 32 6,⟨[],[0,6,7],[0]⟩,toS e 0 a b c,.exit 0,toS x y a b c⟩)])) 60 32 ([.pt 0 0,.c (.int .i64 d),.c (.int .i64 n)]) (toH a b c true))=some (.tu [],toH v b c true,p)∧z7_ p:=by
  refine⟨⟨true,([(9,⟨.c (.int .i64 (d/2:Nat)),none⟩),(16,⟨.c (.int .i64 e0),none⟩),(23,⟨.c (.int .i64 q),some []⟩),(24,⟨.c (.int .i64 e),none⟩),(37,⟨.c (.int .i64 r),some []⟩),(38,⟨.c (.int .i64 v),none⟩)])⟩,[((i64.wrap ((↑d:Int).tdiv (2:Int)):Int))=((↑(d/(2:Nat)):Int)),
 (((0:Nat):Nat)<((1:Nat))),
 (↑n:Int)≠(0:Int),
 ((i64.wrap ((↑(d/(2:Nat)):Int).tdiv (↑n:Int)):Int))=((↑q:Int)),
 ((([ck ((↑n:Int)≠(0:Int))],AV.c (Value.int IntKind.i64 (i64.wrap ((↑(d/(2:Nat)):Int).tdiv (↑n:Int)))),Cmd.nop).snd.snd.cells:List AV))=([]),
 (i64.min:Int)≤↑(d/2)+↑q,
 (↑(d/2)+↑q:Int)≤i64.max,
 (↑(d/2)+↑q:Int)=↑e,
 ((z1_ p_ (32:FuncId) (6:Nat):Go.Code))=(z1_ p_ (32:FuncId) (6:Nat)),
 ((toS e (0:Nat) a b c:St))=(toS e (0:Nat) a b c),
 (i64.min:Int)≤36*↑x,
 (36*↑x:Int)≤i64.max,
 (i64.min:Int)≤↑x+38,
 (↑x+38:Int)≤i64.max,
 (↑x:Int)+(38:Int)≠(0:Int),
 ((i64.wrap (((36:Int)*(↑x:Int)).tdiv ((↑x:Int)+(38:Int))):Int))=((↑r:Int)),
 ((([ck ((↑x:Int)+(38:Int)≠(0:Int))],AV.c (Value.int IntKind.i64 (i64.wrap (((36:Int)*(↑x:Int)).tdiv ((↑x:Int)+(38:Int))))),Cmd.nop).snd.snd.cells:List AV))=([]),
 (i64.min:Int)≤↑y+↑r,
 (↑y+↑r:Int)≤i64.max,
 (↑y+↑r:Int)=↑v,
 (((1:Nat):Nat)≤((4:Nat)))],by kernel_rfl,?_⟩
  all_goals try simp(disch:=omega) only[std]
  all_goals repeat' apply And.intro
  all_goals first|exact True.intro|omega|with_reducible (first|rfl|assumption)|exact hq|exact hr|(rw[he0]at *;exact hq)|(rw[he0];exact hq)|rfl|exact he0|exact he|exact hv
def tdSpec:HSpec
  | [.pt 0 0,.c (.int .i64 d),.c (.int .i64 n)],[some ⟨t,true,[.c (.int .i64 a),.c (.int .i64 b),.c (.int .i64 c),.c (.bool f)]⟩]=>if t=47 then
      some (.tu [],toH (adp d.toNat n.toNat (!f)) b.toNat c.toNat true,[0≤d,d≤2147483647,1≤n,n≤1000,0≤a,0≤b,0≤c])else none
  |_,_=>none
theorem told_ok:u0_ p_ 32 tdSpec:=by
  refine zb0_ mixed w6_ fun args hp r hp' q hs hq=>?_
  unfold tdSpec at hs
  split at hs
  ·rename_i d n t a b c f
   split at hs
   ·rename_i ht
    subst ht
    simp only[oi_]at hs
    obtain⟨rfl,rfl,rfl⟩:=hs
    obtain⟨h0,h1,h2,h3,a0,b0,c0,_⟩:=hq
    obtain⟨d,rfl⟩:∃k:Nat,d=(k:Int):=⟨d.toNat,by omega⟩
    obtain⟨n,rfl⟩:∃k:Nat,n=(k:Int):=⟨n.toNat,by omega⟩
    obtain⟨a,rfl⟩:∃k:Nat,a=(k:Int):=⟨a.toNat,by omega⟩
    obtain⟨b,rfl⟩:∃k:Nat,b=(k:Int):=⟨b.toNat,by omega⟩
    obtain⟨c,rfl⟩:∃k:Nat,c=(k:Int):=⟨c.toNat,by omega⟩
    rw[Int.toNat_natCast,Int.toNat_natCast,Int.toNat_natCast,Int.toNat_natCast,adp_eq]
    have hE:adE d n (!f)=(if(!f)=true then d/700 else d/2)+(if(!f)=true then d/700 else d/2)/n:=rfl
    have he0:(if(!f)=true then d/700 else d/2)≤1073741823:=by split<;>omega
    have hq:=Nat.div_le_self (if(!f)=true then d/700 else d/2) n
    obtain⟨k1,k2,k3⟩:=adEnd_is 20 (adE d n (!f)) 0
    have hw:=to_walk (adE d n (!f)) (by omega) a b c
    generalize hx:(n4_ 20 (adE d n (!f)) 0).1=x at*
    generalize hy:(n4_ 20 (adE d n (!f)) 0).2=y at*
    have hr:i64.wrap ((36*(x:Int)).tdiv ((x:Int)+38))=((36*x/(x+38):Nat):Int):=by
      have:=tdNat (m:=36*x) (x+38) (by omega)
      rw[←this]
      simp
    have hrl:=Nat.div_le_self (36*x) (x+38)
    cases f with
    |false=>
     simp only[Bool.not_false,if_true]at hE he0 hq hw k2
     obtain⟨hh,p,e,hp⟩:=toldT_all d n _ _ _ x y _ _ a b c (by omega) (by omega) (by omega) rfl (tdNat n (by omega)) (by omega) hE.symm (by omega) (by omega) hr rfl (by omega)
     exact⟨_,_,_,_,_,s2_ y4_ ⟨nd0,rfl⟩ hw,e,hp⟩
    |true=>
     simp only[Bool.not_true,Bool.false_eq_true,if_false]at hE he0 hq hw k2
     obtain⟨hh,p,e,hp⟩:=toldF_all d n _ _ _ x y _ _ a b c (by omega) (by omega) (by omega) rfl (tdNat n (by omega)) (by omega) hE.symm (by omega) (by omega) hr rfl (by omega)
     exact⟨_,_,_,_,_,s2_ y4_ ⟨nd0,rfl⟩ hw,e,hp⟩
   ·simp at hs
  ·simp at hs
def l1_ (l:List UInt8):Nat→Int
  |0=> -1
  |n+1=>if l.getD n 0=45 then(n:Nat)else l1_ l n
def lsS (l:List UInt8)(z:Int):St:=⟨frame 19 [(0,.c (str l)),(1,.c (.int .u8 45)),(5,.c (.int .i64 z))],[]⟩
def lsR (z:Int):St:=⟨frame 19 [(4,.c (.int .i64 z))],[]⟩
theorem lsA_all (l:List UInt8)(i:Nat)(hi:i<l.length)(hc:(((l.getD i 0).toNat:Nat):Int)=45)(hl:l.length≤100000):x1_ Ext0 p_ cl0 (z1_ p_ 61 2) (lsS l ((i:Nat):Int)) (.ret) (lsR ((i:Nat):Int)):=by
  refine⟨⟨true,(bs [(10,true),(17,true)])⟩,_,60,⟨[],[4],[]⟩,[(true)=true,
 (0:Int)≤↑i,
 (↑i:Int)<↑l.length,
 ((↑(l.getD i 0).toNat:Int)==(45:Int))=true],z4_,by decide,by kernel_rfl,?_⟩
  all_goals try simp(disch:=omega) only[std]
  all_goals repeat' apply And.intro
  all_goals first|exact True.intro|omega|with_reducible (first|rfl|assumption)|exact hc|rfl
theorem lsB_all (l:List UInt8)(i:Nat)(hi:i<l.length)(hc:¬(((l.getD i 0).toNat:Nat):Int)=45)(hl:l.length≤100000):x1_ Ext0 p_ cl0 (z1_ p_ 61 2) (lsS l ((i:Nat):Int)) (.normal) (lsS l (((i:Nat):Int)-1)):=by
  refine⟨⟨true,(bs [(10,true),(17,false)])⟩,_,60,⟨[],[0,1,5],[]⟩,[(true)=true,
 (0:Int)≤↑i,
 (↑i:Int)<↑l.length,
 ((↑(l.getD i 0).toNat:Int)==(45:Int))=false,
 (i64.min:Int)≤↑i-1,
 (↑i-1:Int)≤i64.max],z4_,by decide,by kernel_rfl,?_⟩
  all_goals try simp(disch:=omega) only[std]
  all_goals repeat' apply And.intro
  all_goals first|exact True.intro|omega|with_reducible (first|rfl|assumption)|exact hc|rfl
theorem lsZ_all (l:List UInt8)(i:Nat)(hi:i=0)(hl:l.length≤100000):x1_ Ext0 p_ cl0 (z1_ p_ 61 2) (lsS l (-1)) (.exit 0) (⟨frame 19 [],[]⟩):=by
  refine⟨⟨true,(bs [(10,false)])⟩,_,60,⟨[],[],[]⟩,[(false)=false],z4_,by decide,by kernel_rfl,?_⟩
  all_goals try simp(disch:=omega) only[std]
  all_goals repeat' apply And.intro
  all_goals first|exact True.intro|omega|with_reducible (first|rfl|assumption)|exact hi|rfl
def lsX (z:Int):Exit:=if z= -1 then .exit 0 else .ret
def lsY (z:Int):St:=if z= -1 then⟨frame 19 [],[]⟩else lsR z
theorem ls_walk (l:List UInt8)(hl:l.length≤100000):Tri Ext0 p_ (.loop (z1_ p_ 61 2)) (lsS l ((l.length:Int)-1)) (lsX (l1_ l l.length)) (lsY (l1_ l l.length)):=by
  refine n9_ mixed w6_ (fun i:Nat=>lsS l ((i:Int)-1)) (fun i=>i≤l.length∧l1_ l i=l1_ l l.length) (fun i=>i) (fun i hx=>?_) l.length ⟨Nat.le_refl _,rfl⟩
  obtain⟨h1,h2⟩:=hx
  cases i with
  |zero=>
   have h2: -1=l1_ l l.length:=h2
   rw[←h2]
   exact .inr ⟨by simp[lsX],lsZ_all l 0 rfl hl⟩
  |succ i=>
   have e:((i+1:Nat):Int)-1=(i:Nat):=by omega
   simp only[e]
   have h2:(if l.getD i 0=45 then((i:Nat):Int)else l1_ l i)=l1_ l l.length:=h2
   by_cases hc:l.getD i 0=45
   ·rw[if_pos hc]at h2
    rw[←h2]
    have e1:lsX ((i:Nat):Int)= .ret:=if_neg (by omega)
    have e2:lsY ((i:Nat):Int)=lsR ((i:Nat):Int):=if_neg (by omega)
    rw[e1,e2]
    exact .inr ⟨by simp,lsA_all l i h1 (by rw[hc];rfl) hl⟩
   ·rw[if_neg hc]at h2
    exact .inl ⟨i,⟨by omega,h2⟩,by omega,lsB_all l i h1 (u8_ne (k:=45) (by decide) hc) hl⟩
noncomputable def lsLp (l:List UInt8)(e:Exit)(R:St):List (Nat×Lp):=[(2,⟨z1_ p_ 61 2,⟨[],[0,1,5],[]⟩,lsS l ((l.length:Int)-1),e,R⟩)]
theorem lsm1_all (l:List UInt8)(z:Int)(hl:l.length≤100000):∃(h:Hints) (p:List Prop),y3_ p_ 61 (z8_ p_ cl0 h (y1_ (lsLp l (.exit 0) ⟨frame 19 [],[]⟩)) 60 61 ([.c (str l),.c (.int .u8 45)]) ([]))=some (.c (.int .i64 (-1)),p)∧z7_ p:=by
  refine⟨⟨true,bs []⟩,[(i64.min:Int)≤↑l.length-1,
 (↑l.length-1:Int)≤i64.max,
 ((z1_ p_ (61:FuncId) (2:Nat):Go.Code))=(z1_ p_ (61:FuncId) (2:Nat)),
 ((lsS l ((↑l.length:Int)-(1:Int)):St))=(lsS l ((↑l.length:Int)-(1:Int)))],by kernel_rfl,?_⟩
  all_goals try simp(disch:=omega) only[std]
  all_goals repeat' apply And.intro
  all_goals first|exact True.intro|omega|with_reducible (first|rfl|assumption)|rfl
theorem lsm2_all (l:List UInt8)(z:Int)(hl:l.length≤100000):∃(h:Hints) (p:List Prop),y3_ p_ 61 (z8_ p_ cl0 h (y1_ (lsLp l .ret (lsR z))) 60 61 ([.c (str l),.c (.int .u8 45)]) ([]))=some (.c (.int .i64 z),p)∧z7_ p:=by
  refine⟨⟨true,bs []⟩,[(i64.min:Int)≤↑l.length-1,
 (↑l.length-1:Int)≤i64.max,
 ((z1_ p_ (61:FuncId) (2:Nat):Go.Code))=(z1_ p_ (61:FuncId) (2:Nat)),
 ((lsS l ((↑l.length:Int)-(1:Int)):St))=(lsS l ((↑l.length:Int)-(1:Int)))],by kernel_rfl,?_⟩
  all_goals try simp(disch:=omega) only[std]
  all_goals repeat' apply And.intro
  all_goals first|exact True.intro|omega|with_reducible (first|rfl|assumption)|rfl
def lsSpec:Spec
  | [.c (.string s),.c (.int .u8 z)]=>some (.c (.int .i64 (l1_ (sb s) (sb s).length)),[z=45,(sb s).length≤100000])
  |_=>none
theorem last_ok:w2_ p_ 61 lsSpec:=by
  refine v5_ mixed w6_ fun args r q hs hq=>?_
  unfold lsSpec at hs
  split at hs
  ·rename_i l z
   simp only[oi_]at hs
   obtain⟨rfl,rfl⟩:=hs
   obtain⟨⟨⟨l⟩⟩,rfl⟩:∃b:ByteArray,b=l:=⟨l,rfl⟩
   simp only[p5_,z7_,and_true]at hq ⊢
   obtain⟨rfl,h⟩:=hq
   have hw:=ls_walk l h
   by_cases hz:l1_ l l.length= -1
   ·rw[hz]at hw ⊢
    obtain⟨hh,p,e,hp⟩:=lsm1_all l 0 h
    exact⟨_,_,_,_,x4_ z4_ List.nodup_nil hw,e,hp⟩
   ·have e1:lsX (l1_ l l.length)= .ret:=if_neg hz
    have e2:lsY (l1_ l l.length)=lsR (l1_ l l.length):=if_neg hz
    rw[e1,e2]at hw
    obtain⟨hh,p,e,hp⟩:=lsm2_all l (l1_ l l.length) h
    exact⟨_,_,_,_,x4_ z4_ List.nodup_nil hw,e,hp⟩
  ·simp at hs
theorem lasG_is (l:List UInt8):∀n,n≤l.length→(l1_ l n= -1∧∀c∈l.take n,c≠45)∨∃m:Nat,l1_ l n=m∧m<n∧l.getD m 0=45∧∀c∈(l.take n).drop (m+1),c≠45
  |0,_=> .inl ⟨rfl,by simp⟩
  |n+1,h=>by
   have ht:=v9_ l n 0 h
   unfold l1_
   by_cases hc:l.getD n 0=45
   ·rw[if_pos hc]
    refine .inr ⟨n,rfl,by omega,hc,fun c hcm=>?_⟩
    rw[List.drop_of_length_le (by rw[List.length_take];omega)]at hcm
    cases hcm
   ·rw[if_neg hc]
    rcases lasG_is l n (by omega)with⟨e,k⟩|⟨m,e,k1,k2,k3⟩
    ·refine .inl ⟨e,fun c hcm=>?_⟩
     rw[ht,List.mem_append,List.mem_singleton]at hcm
     rcases hcm with hcm|rfl
     ·exact k c hcm
     ·exact hc
    ·refine .inr ⟨m,e,by omega,k2,fun c hcm=>?_⟩
     rw[ht,List.drop_append_of_le_length (by rw[List.length_take];omega),List.mem_append,List.mem_singleton]at hcm
     rcases hcm with hcm|rfl
     ·exact k3 c hcm
     ·exact hc
theorem cutD_las (l:List UInt8):r7_ l=(l1_ l l.length).toNat:=by
  rcases lasG_is l l.length (Nat.le_refl _)with⟨e,k⟩|⟨m,e,k1,k2,k3⟩
  ·rw[e]
   rw[List.take_length]at k
   exact cutG_none l 0 0 k
  ·rw[e,Int.toNat_natCast]
   rw[List.take_length]at k3
   have hl:l=l.take m++45::l.drop (m+1):=by
     have:=drop_cons l m k1
     rw[k2]at this
     rw[←this,List.take_append_drop]
   unfold r7_
   by_cases hm:m=0
   ·subst hm
    rw[hl]
    show c9_ (l.drop 1) 1 (if(45:UInt8)=45∧1≤0 then 0 else 0)=0
    rw[if_neg (by omega)]
    exact cutG_none _ 1 0 k3
   ·have h:=cutG_app (l.take m) (l.drop (m+1)) 0 0 (by rw[List.length_take];omega) k3
    rw[←hl]at h
    rw[h,List.length_take]
    omega
def ahN (N:List Nat)(i:Nat):Nat:=((N.take i).filter fun z=>decide (z≤N.getD i 0)).length
def ahC (N:List Nat)(i j:Nat):Nat:=(((N.take i).take j).filter fun z=>decide (z≤N.getD i 0)).length
theorem ahC_succ (N:List Nat)(i j:Nat)(hj:j<i)(hi:i<N.length):ahC N i (j+1)=if N.getD j 0≤N.getD i 0 then ahC N i j+1 else ahC N i j:=by
  have e:(N.take i).take (j+1)=(N.take i).take j++[N.getD j 0]:=by
    rw[List.take_take,List.take_take,Nat.min_eq_left (by omega),Nat.min_eq_left (by omega)]
    exact v9_ N j 0 (by omega)
  unfold ahC
  rw[e,List.filter_append,List.length_append]
  by_cases h:N.getD j 0≤N.getD i 0
  ·rw[if_pos h,List.filter_cons_of_pos (by rw[decide_eq_true h])];rfl
  ·rw[if_neg h,List.filter_cons_of_neg (by rw[decide_eq_false h];simp)];rfl
def ahS (N:List Nat)(i n j:Nat):St:=⟨frame 26 [(0,.fs 1 N.length (z0_ N)),(1,.c (.int .i64 i)),(5,.c (.int .i64 n)),(10,.fs 1 i (z0_ (N.take i))),(11,.c (.int .i64 i)),(12,.c (.int .i64 j))],[]⟩
def ahR (n:Nat):St:=⟨frame 26 [(5,.c (.int .i64 n))],[]⟩
theorem ahA_all (N:List Nat)(i n j x y:Nat)(hj:j<i)(hi:i<N.length)(hc:x≤y)(hx:((z0_ (N.take i)).drop j).headD .any= .c (.int .i64 x))(hy:((z0_ N).drop i).headD .any= .c (.int .i64 y))(hl:N.length≤255)(hn:n≤j)(h1:(z0_ (N.take i)).length=i)(h2:(z0_ N).length=N.length):x1_ Ext0 p_ cl0 (z1_ p_ 59 3) (ahS N i n j) (.normal) (ahS N i (n+1) (j+1)):=by
  refine⟨⟨true,(bs [(13,true),(21,true)]++[(15,⟨.c (.int .i64 x),none⟩),(20,⟨.c (.int .i64 y),none⟩)])⟩,_,60,⟨[],[0,1,5,10,11,12],[]⟩,[decide ((↑j:Int)<↑i)=true,
 (0:Int)≤↑j,
 (↑j:Int)<↑i,
 (((0:Nat):Nat)<((List.drop j (z0_ (List.take i N))).length)),
 y0_ ((List.drop j (z0_ (List.take i N))).headD AV.any) ((AV.c ((Value.int .i64 ((↑x:Int)))))),
 (0:Int)≤↑i,
 (↑i:Int)<↑N.length,
 (((0:Nat):Nat)<((List.drop i (z0_ N)).length)),
 y0_ ((List.drop i (z0_ N)).headD AV.any) ((AV.c ((Value.int .i64 ((↑y:Int)))))),
 decide ((↑x:Int)≤↑y)=true,
 (i64.min:Int)≤↑n+1,
 (↑n+1:Int)≤i64.max,
 (i64.min:Int)≤↑j+1,
 (↑j+1:Int)≤i64.max],z4_,by decide,Eq.trans (b:=some ((.normal:Exit),⟨frame 26 [(0,(AV.fs 1 N.length (z0_ N))),(1,(AV.c ((Value.int .i64 ((↑i:Int)))))),(5,(AV.c ((Value.int .i64 ((↑n:Int)+(1:Int)))))),(10,(AV.fs 1 i (z0_ (List.take i N)))),(11,(AV.c ((Value.int .i64 ((↑i:Int)))))),(12,(AV.c ((Value.int .i64 ((↑j:Int)+(1:Int))))))],[]⟩,_)) (by kernel_rfl) (congrArg (fun S:St=>some ((.normal:Exit),S,_)) (by first|rfl|(simp(disch:=omega) only[std,List.length_drop,h1,h2,hx,hy];first|done|rfl))),?_⟩
  all_goals try simp(disch:=omega) only[std,List.length_drop,h1,h2,hx,hy]
  all_goals repeat' apply And.intro
  all_goals first|exact True.intro|omega|with_reducible (first|rfl|assumption)|exact hx|exact hy|exact h1|exact h2|rfl
theorem ahB_all (N:List Nat)(i n j x y:Nat)(hj:j<i)(hi:i<N.length)(hc:¬x≤y)(hx:((z0_ (N.take i)).drop j).headD .any= .c (.int .i64 x))(hy:((z0_ N).drop i).headD .any= .c (.int .i64 y))(hl:N.length≤255)(hn:n≤j)(h1:(z0_ (N.take i)).length=i)(h2:(z0_ N).length=N.length):x1_ Ext0 p_ cl0 (z1_ p_ 59 3) (ahS N i n j) (.normal) (ahS N i n (j+1)):=by
  refine⟨⟨true,(bs [(13,true),(21,false)]++[(15,⟨.c (.int .i64 x),none⟩),(20,⟨.c (.int .i64 y),none⟩)])⟩,_,60,⟨[],[0,1,5,10,11,12],[]⟩,[decide ((↑j:Int)<↑i)=true,
 (0:Int)≤↑j,
 (↑j:Int)<↑i,
 (((0:Nat):Nat)<((List.drop j (z0_ (List.take i N))).length)),
 y0_ ((List.drop j (z0_ (List.take i N))).headD AV.any) ((AV.c ((Value.int .i64 ((↑x:Int)))))),
 (0:Int)≤↑i,
 (↑i:Int)<↑N.length,
 (((0:Nat):Nat)<((List.drop i (z0_ N)).length)),
 y0_ ((List.drop i (z0_ N)).headD AV.any) ((AV.c ((Value.int .i64 ((↑y:Int)))))),
 decide ((↑x:Int)≤↑y)=false,
 (i64.min:Int)≤↑j+1,
 (↑j+1:Int)≤i64.max],z4_,by decide,Eq.trans (b:=some ((.normal:Exit),⟨frame 26 [(0,(AV.fs 1 N.length (z0_ N))),(1,(AV.c ((Value.int .i64 ((↑i:Int)))))),(5,(AV.c ((Value.int .i64 ((↑n:Int)))))),(10,(AV.fs 1 i (z0_ (List.take i N)))),(11,(AV.c ((Value.int .i64 ((↑i:Int)))))),(12,(AV.c ((Value.int .i64 ((↑j:Int)+(1:Int))))))],[]⟩,_)) (by kernel_rfl) (congrArg (fun S:St=>some ((.normal:Exit),S,_)) (by first|rfl|(simp(disch:=omega) only[std,List.length_drop,h1,h2,hx,hy];first|done|rfl))),?_⟩
  all_goals try simp(disch:=omega) only[std,List.length_drop,h1,h2,hx,hy]
  all_goals repeat' apply And.intro
  all_goals first|exact True.intro|omega|with_reducible (first|rfl|assumption)|exact hx|exact hy|exact h1|exact h2|rfl
theorem ahZ_all (N:List Nat)(i n j x y:Nat)(hj:j=i)(hi:i<N.length)(hl:N.length≤255)(hn:n≤j)(h1:(z0_ (N.take i)).length=i)(h2:(z0_ N).length=N.length):x1_ Ext0 p_ cl0 (z1_ p_ 59 3) (ahS N i n j) (.exit 0) (ahR n):=by
  refine⟨⟨true,(bs [(13,false)]++[(15,⟨.c (.int .i64 x),none⟩),(20,⟨.c (.int .i64 y),none⟩)])⟩,_,60,⟨[],[5],[]⟩,[decide ((↑j:Int)<↑i)=false],z4_,by decide,by kernel_rfl,?_⟩
  all_goals try simp(disch:=omega) only[std,List.length_drop,h1,h2]
  all_goals repeat' apply And.intro
  all_goals first|exact True.intro|omega|with_reducible (first|rfl|assumption)|exact hj|exact h1|exact h2|rfl
theorem ah_walk (N:List Nat)(i:Nat)(hl:N.length≤255)(hi:i<N.length):Tri Ext0 p_ (.loop (z1_ p_ 59 3)) (ahS N i 0 0) (.exit 0) (ahR (ahN N i)):=by
  have e1:(z0_ (N.take i)).length=i:=by rw[y7_,List.length_take];omega
  have hle:∀j,j≤i→ahC N i j≤j:=fun j hj=>by
    unfold ahC
    refine Nat.le_trans (List.length_filter_le _ _) ?_
    rw[List.length_take];omega
  have hx:∀j,j<i→((z0_ (N.take i)).drop j).headD .any= .c (.int .i64 (N.getD j 0:Nat)):=fun j hj=>by
    rw[h7_ _ j (by rw[List.length_take];omega)]
    simp only[List.getD,List.getElem?_take_of_lt hj]
  have hend:ahC N i i=ahN N i:=by unfold ahC ahN;rw[List.take_take,Nat.min_self]
  have h:=d6_ mixed w6_ (b:=z1_ p_ 59 3) (fun j=>ahS N i (ahC N i j) j) i (e:= .exit 0) (R:=ahR (ahN N i)) (by simp) (fun j hj=>by
    rw[ahC_succ N i j hj hi]
    by_cases hc:N.getD j 0≤N.getD i 0
    ·rw[if_pos hc]
     exact ahA_all N i _ j _ _ hj hi hc (hx j hj) (h7_ N i hi) hl (hle j (by omega)) e1 (y7_ N)
    ·rw[if_neg hc]
     exact ahB_all N i _ j _ _ hj hi hc (hx j hj) (h7_ N i hi) hl (hle j (by omega)) e1 (y7_ N)) (by
    rw[←hend]
    exact ahZ_all N i _ i 0 0 rfl hi hl (hle i (Nat.le_refl _)) e1 (y7_ N)) 0 (Nat.zero_le _)
  exact h
noncomputable def ahLp (N:List Nat)(i:Nat):List (Nat×Lp):=[(3,⟨z1_ p_ 59 3,⟨[],[0,1,5,10,11,12],[]⟩,ahS N i 0 0,.exit 0,ahR (ahN N i)⟩)]
theorem ahm_all (N:List Nat)(i:Nat)(hi:i<N.length)(hl:N.length≤255):∃(h:Hints) (p:List Prop),y3_ p_ 59 (z8_ p_ cl0 h (y1_ (ahLp N i)) 60 59 ([.fs 1 N.length (z0_ N),.c (.int .i64 i)]) ([]))=some (.c (.int .i64 (ahN N i)),p)∧z7_ p:=by
  refine⟨⟨true,([(10,⟨.fs 1 i (z0_ (N.take i)),none⟩)])⟩,[(0:Int)≤0,
 (0:Int)≤↑i,
 (↑i:Int)≤↑N.length,
 y0_ ((AV.fs 1 (i-Int.toNat (0:Int)) (List.drop (Int.toNat (0:Int)) (List.take i (z0_ N))))) ((AV.fs 1 i (z0_ (List.take i N)))),
 ((z1_ p_ (59:FuncId) (3:Nat):Go.Code))=(z1_ p_ (59:FuncId) (3:Nat)),
 ((ahS N i (0:Nat) (0:Nat):St))=(ahS N i (0:Nat) (0:Nat))],Eq.trans (b:=some ((AV.c ((Value.int .i64 ((↑(ahN N i):Int))))),_)) (by kernel_rfl) (congrArg (fun r=>some (r,_)) (by first|rfl|(simp(disch:=omega) only[std,nats_take];first|done|rfl))),?_⟩
  all_goals try simp(disch:=omega) only[std,nats_take]
  all_goals repeat' apply And.intro
  all_goals first|exact True.intro|omega|with_reducible (first|rfl|assumption)|rfl
def ahSpec:Spec
  | [.fs s n l,.c (.int .i64 i)]=>some (.c (.int .i64 (ahN (z5_ l) i.toNat)),[s=1,l=z0_ (z5_ l),n=(z5_ l).length,0≤i,i<n,n≤255])
  |_=>none
theorem ahead_ok:w2_ p_ 59 ahSpec:=by
  refine v5_ mixed w6_ fun args r q hs hq=>?_
  unfold ahSpec at hs
  split at hs
  ·rename_i s n l i
   simp only[oi_]at hs
   obtain⟨rfl,rfl⟩:=hs
   obtain⟨rfl,h2,h3,h4,h5,h6,_⟩:=hq
   generalize z5_ l=N at*
   subst h2 h3
   obtain⟨i,rfl⟩:∃k:Nat,i=(k:Int):=⟨i.toNat,by omega⟩
   rw[Int.toNat_natCast]
   obtain⟨hh,p,e,hp⟩:=ahm_all N i (by omega) h6
   exact⟨_,_,_,_,x4_ z4_ List.nodup_nil (ah_walk N i h6 (by omega)),e,hp⟩
  ·simp at hs
def wrF:Heap:=[some ⟨56,true,[.c (.pointer none),.c (.slice none 0 0)]⟩]
def wrWn (n:Nat)(s:List UInt8):Heap:=[some ⟨56,true,[.pt 0 0,.sl 1 0 n]⟩,some ⟨5,false,z6_ s⟩]
abbrev wrW (s:List UInt8):Heap:=wrWn s.length s
def wrVn (n:Nat)(s:List UInt8):Heap:=[some ⟨56,true,[.pt 0 0,.sl 2 0 n]⟩,none,some ⟨5,false,z6_ s⟩]
abbrev wrV (s:List UInt8):Heap:=wrVn s.length s
def wrS (d b j:Nat)(h:Heap):St:=⟨frame 36 [(0,.pt 0 0),(1,.c (.int .i64 d)),(2,.c (.int .i64 b)),(6,.c (.int .i64 j))],h⟩
def wrR (h:Heap):St:=⟨frame 36 [],h⟩
noncomputable def clWr:CallT:=p3_ p_ (r4_ [(45,bndSpec)]) (m0_ [(56,wbSpec)]) 500 8
theorem clWr_ok:x7_ p_ clWr:=s3_ mixed (y8_ qbnd_ok v2_) (w5_ wb_ok s8_) 500 8
theorem wrFA_all (d b t r q c j:Nat)(out:List UInt8)(x:UInt8)(hj:j<40)(hb:b≤100000)(ht:bnd j b=t)(t1:1≤t)(t2:t≤26)(hdl:d≤2147483647)(hol:out.length≤100000)(hxl:x.toNat<256)(hdg:k1_.length=36)(h1:(z6_ out).take out.length++z6_ [x]=z6_ (out++[x]))(hd:d<t)(hx:(((k1_.getD d 0).toNat:Nat):Int)=(x.toNat:Nat))(ho:out=[]):x9_ 1 p_ clWr (z1_ p_ 60 2) (wrS d b j (wrF)) (.ret) (wrR (wrWn (out.length+1) (out++[x]))):=by
  refine⟨⟨true,(bs [(15,true)]++[(12,⟨.c (.int .i64 t),none⟩)]++[(18,⟨t4_ x,none⟩)])⟩,_,60,⟨[],[],[0,2]⟩,[(0:Int)≤↑j,
 (↑j:Int)≤200000,
 (0:Int)≤↑b,
 (↑b:Int)≤100000,
 (((↑(bnd j b):Int):Int))=((↑t:Int)),
 decide ((↑d:Int)<↑t)=true,
 (0:Int)≤↑d,
 (↑d:Int)<↑(36:Nat),
 (((↑([(97:UInt8),(98:UInt8),(99:UInt8),(100:UInt8),(101:UInt8),(102:UInt8),(103:UInt8),(104:UInt8),(105:UInt8),(106:UInt8),(107:UInt8),(108:UInt8),(109:UInt8),(110:UInt8),(111:UInt8),(112:UInt8),(113:UInt8),(114:UInt8),(115:UInt8),(116:UInt8),(117:UInt8),(118:UInt8),(119:UInt8),(120:UInt8),(121:UInt8),(122:UInt8),(48:UInt8),(49:UInt8),(50:UInt8),(51:UInt8),(52:UInt8),(53:UInt8),(54:UInt8),(55:UInt8),(56:UInt8),(57:UInt8)].getD d 0).toNat:Int):Int))=((↑x.toNat:Int)),
 (((0:Int):Int)≤((↑x.toNat:Int))),
 (((↑x.toNat:Int):Int)<((256:Int)))],y4_,by decide,Eq.trans (b:=some ((.ret:Exit),⟨frame 36 [],[(.some ⟨56,true,[(AV.pt 0 0),
 (AV.sl 1 0 1)]⟩),
 (.some ⟨5,false,[(AV.c ((Value.int .u8 ((↑(UInt8.ofNat x.toNat).toNat:Int)))))]⟩)]⟩,_)) (by kernel_rfl) (congrArg (fun S:St=>some ((.ret:Exit),S,_)) (by first|rfl|(simp(disch:=omega) only[std,UInt8.ofNat_toNat,Int.toNat_natCast,List.length_append,List.length_singleton,hdg,ho,List.nil_append];first|done|rfl))),?_⟩
  all_goals try simp(disch:=omega) only[std,UInt8.ofNat_toNat,Int.toNat_natCast,List.length_append,List.length_singleton,hdg,ho,List.nil_append]
  all_goals repeat' apply And.intro
  all_goals first|exact True.intro|omega|with_reducible (first|rfl|assumption)|exact congrArg (fun z:Nat=>(z:Int)) ht|(rw[hx])|rfl|exact ht|exact hdg|exact h1|exact hx|exact ho
theorem wrFB_all (d b t r q c j:Nat)(out:List UInt8)(x:UInt8)(hj:j<40)(hb:b≤100000)(ht:bnd j b=t)(t1:1≤t)(t2:t≤26)(hdl:d≤2147483647)(hol:out.length≤100000)(hxl:x.toNat<256)(hdg:k1_.length=36)(h1:(z6_ out).take out.length++z6_ [x]=z6_ (out++[x]))(hd:¬d<t)(hr:((d-t:Nat):Int).tmod ((36-t:Nat):Int)=(r:Nat))(hq:i64.wrap (((d-t:Nat):Int).tdiv ((36-t:Nat):Int))=(q:Nat))(hc:t+r=c)(hc36:c<36)(hx:(((k1_.getD c 0).toNat:Nat):Int)=(x.toNat:Nat))(ho:out=[]):x9_ 1 p_ clWr (z1_ p_ 60 2) (wrS d b j (wrF)) (.normal) (wrS q b (j+1) (wrWn (out.length+1) (out++[x]))):=by
  refine⟨⟨true,(bs [(15,false)]++[(12,⟨.c (.int .i64 t),none⟩)]++[(22,⟨.c (.int .i64 (d-t:Nat)),none⟩),(27,⟨.c (.int .i64 (36-t:Nat)),none⟩),(28,⟨.c (.int .i64 r),some []⟩),(29,⟨.c (.int .i64 c),none⟩),(30,⟨t4_ x,none⟩),(34,⟨.c (.int .i64 (36-t:Nat)),none⟩),(35,⟨.c (.int .i64 q),some []⟩)])⟩,_,60,⟨[],[0,1,2,6],[0,2]⟩,[(0:Int)≤↑j,
 (↑j:Int)≤200000,
 (0:Int)≤↑b,
 (↑b:Int)≤100000,
 (((↑(bnd j b):Int):Int))=((↑t:Int)),
 decide ((↑d:Int)<↑t)=false,
 (i64.min:Int)≤↑d-↑t,
 (↑d-↑t:Int)≤i64.max,
 (↑d-↑t:Int)=↑(d-t),
 (i64.min:Int)≤36-↑t,
 (36-↑t:Int)≤i64.max,
 (36-↑t:Int)=↑(36-t),
 (↑((36:Nat)-t):Int)≠(0:Int),
 (((↑(d-t):Int).tmod (↑((36:Nat)-t):Int):Int))=((↑r:Int)),
 ((([ck ((↑((36:Nat)-t):Int)≠(0:Int))],AV.c (Value.int IntKind.i64 ((↑(d-t):Int).tmod (↑((36:Nat)-t):Int))),Cmd.nop).snd.snd.cells:List AV))=([]),
 (i64.min:Int)≤↑t+↑r,
 (↑t+↑r:Int)≤i64.max,
 (↑t+↑r:Int)=↑c,
 (0:Int)≤↑c,
 (↑c:Int)<↑(36:Nat),
 (((↑([(97:UInt8),(98:UInt8),(99:UInt8),(100:UInt8),(101:UInt8),(102:UInt8),(103:UInt8),(104:UInt8),(105:UInt8),(106:UInt8),(107:UInt8),(108:UInt8),(109:UInt8),(110:UInt8),(111:UInt8),(112:UInt8),(113:UInt8),(114:UInt8),(115:UInt8),(116:UInt8),(117:UInt8),(118:UInt8),(119:UInt8),(120:UInt8),(121:UInt8),(122:UInt8),(48:UInt8),(49:UInt8),(50:UInt8),(51:UInt8),(52:UInt8),(53:UInt8),(54:UInt8),(55:UInt8),(56:UInt8),(57:UInt8)].getD c 0).toNat:Int):Int))=((↑x.toNat:Int)),
 (((0:Int):Int)≤((↑x.toNat:Int))),
 (((↑x.toNat:Int):Int)<((256:Int))),
 (i64.min:Int)≤36-↑t,
 (36-↑t:Int)≤i64.max,
 (36-↑t:Int)=↑(36-t),
 (↑((36:Nat)-t):Int)≠(0:Int),
 ((i64.wrap ((↑(d-t):Int).tdiv (↑((36:Nat)-t):Int)):Int))=((↑q:Int)),
 ((([ck ((↑((36:Nat)-t):Int)≠(0:Int))],AV.c (Value.int IntKind.i64 (i64.wrap ((↑(d-t):Int).tdiv (↑((36:Nat)-t):Int)))),Cmd.nop).snd.snd.cells:List AV))=([]),
 (i64.min:Int)≤↑j+1,
 (↑j+1:Int)≤i64.max],y4_,by decide,Eq.trans (b:=some ((.normal:Exit),⟨frame 36 [(0,(AV.pt 0 0)),(1,(AV.c ((Value.int .i64 ((↑q:Int)))))),(2,(AV.c ((Value.int .i64 ((↑b:Int)))))),(6,(AV.c ((Value.int .i64 ((↑j:Int)+(1:Int))))))],[(.some ⟨56,true,[(AV.pt 0 0),
 (AV.sl 1 0 1)]⟩),
 (.some ⟨5,false,[(AV.c ((Value.int .u8 ((↑(UInt8.ofNat x.toNat).toNat:Int)))))]⟩)]⟩,_)) (by kernel_rfl) (congrArg (fun S:St=>some ((.normal:Exit),S,_)) (by first|rfl|(simp(disch:=omega) only[std,UInt8.ofNat_toNat,Int.toNat_natCast,List.length_append,List.length_singleton,hdg,ho,List.nil_append];first|done|rfl))),?_⟩
  all_goals try simp(disch:=omega) only[std,UInt8.ofNat_toNat,Int.toNat_natCast,List.length_append,List.length_singleton,hdg,ho,List.nil_append]
  all_goals repeat' apply And.intro
  all_goals first|exact True.intro|omega|with_reducible (first|rfl|assumption)|exact congrArg (fun z:Nat=>(z:Int)) ht|exact hq|exact hr|(rw[hx])|rfl|exact ht|exact hdg|exact h1|exact hc|exact hx|exact ho
theorem wrWA_all (d b t r q c j:Nat)(out:List UInt8)(x:UInt8)(hj:j<40)(hb:b≤100000)(ht:bnd j b=t)(t1:1≤t)(t2:t≤26)(hdl:d≤2147483647)(hol:out.length≤100000)(hxl:x.toNat<256)(hdg:k1_.length=36)(h1:(z6_ out).take out.length++z6_ [x]=z6_ (out++[x]))(hd:d<t)(hx:(((k1_.getD d 0).toNat:Nat):Int)=(x.toNat:Nat))(h2:(z6_ out).length=out.length):x9_ 1 p_ clWr (z1_ p_ 60 2) (wrS d b j (wrW out)) (.ret) (wrR (wrWn (out.length+1) (out++[x]))):=by
  refine⟨⟨true,(bs [(15,true)]++[(12,⟨.c (.int .i64 t),none⟩)]++[(18,⟨t4_ x,none⟩)])⟩,_,60,⟨[],[],[0,3]⟩,[(0:Int)≤↑j,
 (↑j:Int)≤200000,
 (0:Int)≤↑b,
 (↑b:Int)≤100000,
 (((↑(bnd j b):Int):Int))=((↑t:Int)),
 decide ((↑d:Int)<↑t)=true,
 (0:Int)≤↑d,
 (↑d:Int)<↑(36:Nat),
 (((↑([(97:UInt8),(98:UInt8),(99:UInt8),(100:UInt8),(101:UInt8),(102:UInt8),(103:UInt8),(104:UInt8),(105:UInt8),(106:UInt8),(107:UInt8),(108:UInt8),(109:UInt8),(110:UInt8),(111:UInt8),(112:UInt8),(113:UInt8),(114:UInt8),(115:UInt8),(116:UInt8),(117:UInt8),(118:UInt8),(119:UInt8),(120:UInt8),(121:UInt8),(122:UInt8),(48:UInt8),(49:UInt8),(50:UInt8),(51:UInt8),(52:UInt8),(53:UInt8),(54:UInt8),(55:UInt8),(56:UInt8),(57:UInt8)].getD d 0).toNat:Int):Int))=((↑x.toNat:Int)),
 (((0:Int):Int)≤((↑x.toNat:Int))),
 (((↑x.toNat:Int):Int)<((256:Int))),
 ((out.length:Nat)≤((z6_ out).length)),
 ((out.length+(1:Nat):Nat)≤((140737488355328:Nat)))],y4_,by decide,Eq.trans (b:=some ((.ret:Exit),⟨frame 36 [],[(.some ⟨56,true,[(AV.pt 0 0),
 (AV.sl 1 0 (out.length+(1:Nat)))]⟩),
 (.some ⟨5,false,(List.take out.length (z6_ out)++z6_ [UInt8.ofNat x.toNat])⟩)]⟩,_)) (by kernel_rfl) (congrArg (fun S:St=>some ((.ret:Exit),S,_)) (by first|rfl|(simp(disch:=omega) only[std,UInt8.ofNat_toNat,Int.toNat_natCast,List.length_append,List.length_singleton,hdg,h1,h2];first|done|rfl))),?_⟩
  all_goals try simp(disch:=omega) only[std,UInt8.ofNat_toNat,Int.toNat_natCast,List.length_append,List.length_singleton,hdg,h1,h2]
  all_goals repeat' apply And.intro
  all_goals first|exact True.intro|omega|with_reducible (first|rfl|assumption)|exact congrArg (fun z:Nat=>(z:Int)) ht|(rw[hx])|rfl|exact ht|exact hdg|exact h1|exact hx|exact h2
theorem wrWB_all (d b t r q c j:Nat)(out:List UInt8)(x:UInt8)(hj:j<40)(hb:b≤100000)(ht:bnd j b=t)(t1:1≤t)(t2:t≤26)(hdl:d≤2147483647)(hol:out.length≤100000)(hxl:x.toNat<256)(hdg:k1_.length=36)(h1:(z6_ out).take out.length++z6_ [x]=z6_ (out++[x]))(hd:¬d<t)(hr:((d-t:Nat):Int).tmod ((36-t:Nat):Int)=(r:Nat))(hq:i64.wrap (((d-t:Nat):Int).tdiv ((36-t:Nat):Int))=(q:Nat))(hc:t+r=c)(hc36:c<36)(hx:(((k1_.getD c 0).toNat:Nat):Int)=(x.toNat:Nat))(h2:(z6_ out).length=out.length):x9_ 1 p_ clWr (z1_ p_ 60 2) (wrS d b j (wrW out)) (.normal) (wrS q b (j+1) (wrWn (out.length+1) (out++[x]))):=by
  refine⟨⟨true,(bs [(15,false)]++[(12,⟨.c (.int .i64 t),none⟩)]++[(22,⟨.c (.int .i64 (d-t:Nat)),none⟩),(27,⟨.c (.int .i64 (36-t:Nat)),none⟩),(28,⟨.c (.int .i64 r),some []⟩),(29,⟨.c (.int .i64 c),none⟩),(30,⟨t4_ x,none⟩),(34,⟨.c (.int .i64 (36-t:Nat)),none⟩),(35,⟨.c (.int .i64 q),some []⟩)])⟩,_,60,⟨[],[0,1,2,6],[0,3]⟩,[(0:Int)≤↑j,
 (↑j:Int)≤200000,
 (0:Int)≤↑b,
 (↑b:Int)≤100000,
 (((↑(bnd j b):Int):Int))=((↑t:Int)),
 decide ((↑d:Int)<↑t)=false,
 (i64.min:Int)≤↑d-↑t,
 (↑d-↑t:Int)≤i64.max,
 (↑d-↑t:Int)=↑(d-t),
 (i64.min:Int)≤36-↑t,
 (36-↑t:Int)≤i64.max,
 (36-↑t:Int)=↑(36-t),
 (↑((36:Nat)-t):Int)≠(0:Int),
 (((↑(d-t):Int).tmod (↑((36:Nat)-t):Int):Int))=((↑r:Int)),
 ((([ck ((↑((36:Nat)-t):Int)≠(0:Int))],AV.c (Value.int IntKind.i64 ((↑(d-t):Int).tmod (↑((36:Nat)-t):Int))),Cmd.nop).snd.snd.cells:List AV))=([]),
 (i64.min:Int)≤↑t+↑r,
 (↑t+↑r:Int)≤i64.max,
 (↑t+↑r:Int)=↑c,
 (0:Int)≤↑c,
 (↑c:Int)<↑(36:Nat),
 (((↑([(97:UInt8),(98:UInt8),(99:UInt8),(100:UInt8),(101:UInt8),(102:UInt8),(103:UInt8),(104:UInt8),(105:UInt8),(106:UInt8),(107:UInt8),(108:UInt8),(109:UInt8),(110:UInt8),(111:UInt8),(112:UInt8),(113:UInt8),(114:UInt8),(115:UInt8),(116:UInt8),(117:UInt8),(118:UInt8),(119:UInt8),(120:UInt8),(121:UInt8),(122:UInt8),(48:UInt8),(49:UInt8),(50:UInt8),(51:UInt8),(52:UInt8),(53:UInt8),(54:UInt8),(55:UInt8),(56:UInt8),(57:UInt8)].getD c 0).toNat:Int):Int))=((↑x.toNat:Int)),
 (((0:Int):Int)≤((↑x.toNat:Int))),
 (((↑x.toNat:Int):Int)<((256:Int))),
 ((out.length:Nat)≤((z6_ out).length)),
 ((out.length+(1:Nat):Nat)≤((140737488355328:Nat))),
 (i64.min:Int)≤36-↑t,
 (36-↑t:Int)≤i64.max,
 (36-↑t:Int)=↑(36-t),
 (↑((36:Nat)-t):Int)≠(0:Int),
 ((i64.wrap ((↑(d-t):Int).tdiv (↑((36:Nat)-t):Int)):Int))=((↑q:Int)),
 ((([ck ((↑((36:Nat)-t):Int)≠(0:Int))],AV.c (Value.int IntKind.i64 (i64.wrap ((↑(d-t):Int).tdiv (↑((36:Nat)-t):Int)))),Cmd.nop).snd.snd.cells:List AV))=([]),
 (i64.min:Int)≤↑j+1,
 (↑j+1:Int)≤i64.max],y4_,by decide,Eq.trans (b:=some ((.normal:Exit),⟨frame 36 [(0,(AV.pt 0 0)),(1,(AV.c ((Value.int .i64 ((↑q:Int)))))),(2,(AV.c ((Value.int .i64 ((↑b:Int)))))),(6,(AV.c ((Value.int .i64 ((↑j:Int)+(1:Int))))))],[(.some ⟨56,true,[(AV.pt 0 0),
 (AV.sl 1 0 (out.length+(1:Nat)))]⟩),
 (.some ⟨5,false,(List.take out.length (z6_ out)++z6_ [UInt8.ofNat x.toNat])⟩)]⟩,_)) (by kernel_rfl) (congrArg (fun S:St=>some ((.normal:Exit),S,_)) (by first|rfl|(simp(disch:=omega) only[std,UInt8.ofNat_toNat,Int.toNat_natCast,List.length_append,List.length_singleton,hdg,h1,h2];first|done|rfl))),?_⟩
  all_goals try simp(disch:=omega) only[std,UInt8.ofNat_toNat,Int.toNat_natCast,List.length_append,List.length_singleton,hdg,h1,h2]
  all_goals repeat' apply And.intro
  all_goals first|exact True.intro|omega|with_reducible (first|rfl|assumption)|exact congrArg (fun z:Nat=>(z:Int)) ht|exact hq|exact hr|(rw[hx])|rfl|exact ht|exact hdg|exact h1|exact hc|exact hx|exact h2
theorem wrUA_all (d b t r q c j:Nat)(out:List UInt8)(x:UInt8)(hj:j<40)(hb:b≤100000)(ht:bnd j b=t)(t1:1≤t)(t2:t≤26)(hdl:d≤2147483647)(hol:out.length≤100000)(hxl:x.toNat<256)(hdg:k1_.length=36)(h1:(z6_ out).take out.length++z6_ [x]=z6_ (out++[x]))(hd:d<t)(hx:(((k1_.getD d 0).toNat:Nat):Int)=(x.toNat:Nat))(h2:(z6_ out).length=out.length):x9_ 2 p_ clWr (z1_ p_ 60 2) (wrS d b j (wrW out)) (.ret) (wrR (wrVn (out.length+1) (out++[x]))):=by
  refine⟨⟨true,(bs [(15,true)]++[(12,⟨.c (.int .i64 t),none⟩)]++[(18,⟨t4_ x,none⟩)])⟩,_,60,⟨[],[],[0,1,3]⟩,[(0:Int)≤↑j,
 (↑j:Int)≤200000,
 (0:Int)≤↑b,
 (↑b:Int)≤100000,
 (((↑(bnd j b):Int):Int))=((↑t:Int)),
 decide ((↑d:Int)<↑t)=true,
 (0:Int)≤↑d,
 (↑d:Int)<↑(36:Nat),
 (((↑([(97:UInt8),(98:UInt8),(99:UInt8),(100:UInt8),(101:UInt8),(102:UInt8),(103:UInt8),(104:UInt8),(105:UInt8),(106:UInt8),(107:UInt8),(108:UInt8),(109:UInt8),(110:UInt8),(111:UInt8),(112:UInt8),(113:UInt8),(114:UInt8),(115:UInt8),(116:UInt8),(117:UInt8),(118:UInt8),(119:UInt8),(120:UInt8),(121:UInt8),(122:UInt8),(48:UInt8),(49:UInt8),(50:UInt8),(51:UInt8),(52:UInt8),(53:UInt8),(54:UInt8),(55:UInt8),(56:UInt8),(57:UInt8)].getD d 0).toNat:Int):Int))=((↑x.toNat:Int)),
 (((0:Int):Int)≤((↑x.toNat:Int))),
 (((↑x.toNat:Int):Int)<((256:Int))),
 ((out.length:Nat)≤((z6_ out).length)),
 ((out.length+(1:Nat):Nat)≤((140737488355328:Nat)))],y4_,by decide,Eq.trans (b:=some ((.ret:Exit),⟨frame 36 [],[(.some ⟨56,true,[(AV.pt 0 0),
 (AV.sl 2 0 (out.length+(1:Nat)))]⟩),
 .none,
 (.some ⟨5,false,(List.take out.length (z6_ out)++z6_ [UInt8.ofNat x.toNat])⟩)]⟩,_)) (by kernel_rfl) (congrArg (fun S:St=>some ((.ret:Exit),S,_)) (by first|rfl|(simp(disch:=omega) only[std,UInt8.ofNat_toNat,Int.toNat_natCast,List.length_append,List.length_singleton,hdg,h1,h2];first|done|rfl))),?_⟩
  all_goals try simp(disch:=omega) only[std,UInt8.ofNat_toNat,Int.toNat_natCast,List.length_append,List.length_singleton,hdg,h1,h2]
  all_goals repeat' apply And.intro
  all_goals first|exact True.intro|omega|with_reducible (first|rfl|assumption)|exact congrArg (fun z:Nat=>(z:Int)) ht|(rw[hx])|rfl|exact ht|exact hdg|exact h1|exact hx|exact h2
theorem wrUB_all (d b t r q c j:Nat)(out:List UInt8)(x:UInt8)(hj:j<40)(hb:b≤100000)(ht:bnd j b=t)(t1:1≤t)(t2:t≤26)(hdl:d≤2147483647)(hol:out.length≤100000)(hxl:x.toNat<256)(hdg:k1_.length=36)(h1:(z6_ out).take out.length++z6_ [x]=z6_ (out++[x]))(hd:¬d<t)(hr:((d-t:Nat):Int).tmod ((36-t:Nat):Int)=(r:Nat))(hq:i64.wrap (((d-t:Nat):Int).tdiv ((36-t:Nat):Int))=(q:Nat))(hc:t+r=c)(hc36:c<36)(hx:(((k1_.getD c 0).toNat:Nat):Int)=(x.toNat:Nat))(h2:(z6_ out).length=out.length):x9_ 2 p_ clWr (z1_ p_ 60 2) (wrS d b j (wrW out)) (.normal) (wrS q b (j+1) (wrVn (out.length+1) (out++[x]))):=by
  refine⟨⟨true,(bs [(15,false)]++[(12,⟨.c (.int .i64 t),none⟩)]++[(22,⟨.c (.int .i64 (d-t:Nat)),none⟩),(27,⟨.c (.int .i64 (36-t:Nat)),none⟩),(28,⟨.c (.int .i64 r),some []⟩),(29,⟨.c (.int .i64 c),none⟩),(30,⟨t4_ x,none⟩),(34,⟨.c (.int .i64 (36-t:Nat)),none⟩),(35,⟨.c (.int .i64 q),some []⟩)])⟩,_,60,⟨[],[0,1,2,6],[0,1,3]⟩,[(0:Int)≤↑j,
 (↑j:Int)≤200000,
 (0:Int)≤↑b,
 (↑b:Int)≤100000,
 (((↑(bnd j b):Int):Int))=((↑t:Int)),
 decide ((↑d:Int)<↑t)=false,
 (i64.min:Int)≤↑d-↑t,
 (↑d-↑t:Int)≤i64.max,
 (↑d-↑t:Int)=↑(d-t),
 (i64.min:Int)≤36-↑t,
 (36-↑t:Int)≤i64.max,
 (36-↑t:Int)=↑(36-t),
 (↑((36:Nat)-t):Int)≠(0:Int),
 (((↑(d-t):Int).tmod (↑((36:Nat)-t):Int):Int))=((↑r:Int)),
 ((([ck ((↑((36:Nat)-t):Int)≠(0:Int))],AV.c (Value.int IntKind.i64 ((↑(d-t):Int).tmod (↑((36:Nat)-t):Int))),Cmd.nop).snd.snd.cells:List AV))=([]),
 (i64.min:Int)≤↑t+↑r,
 (↑t+↑r:Int)≤i64.max,
 (↑t+↑r:Int)=↑c,
 (0:Int)≤↑c,
 (↑c:Int)<↑(36:Nat),
 (((↑([(97:UInt8),(98:UInt8),(99:UInt8),(100:UInt8),(101:UInt8),(102:UInt8),(103:UInt8),(104:UInt8),(105:UInt8),(106:UInt8),(107:UInt8),(108:UInt8),(109:UInt8),(110:UInt8),(111:UInt8),(112:UInt8),(113:UInt8),(114:UInt8),(115:UInt8),(116:UInt8),(117:UInt8),(118:UInt8),(119:UInt8),(120:UInt8),(121:UInt8),(122:UInt8),(48:UInt8),(49:UInt8),(50:UInt8),(51:UInt8),(52:UInt8),(53:UInt8),(54:UInt8),(55:UInt8),(56:UInt8),(57:UInt8)].getD c 0).toNat:Int):Int))=((↑x.toNat:Int)),
 (((0:Int):Int)≤((↑x.toNat:Int))),
 (((↑x.toNat:Int):Int)<((256:Int))),
 ((out.length:Nat)≤((z6_ out).length)),
 ((out.length+(1:Nat):Nat)≤((140737488355328:Nat))),
 (i64.min:Int)≤36-↑t,
 (36-↑t:Int)≤i64.max,
 (36-↑t:Int)=↑(36-t),
 (↑((36:Nat)-t):Int)≠(0:Int),
 ((i64.wrap ((↑(d-t):Int).tdiv (↑((36:Nat)-t):Int)):Int))=((↑q:Int)),
 ((([ck ((↑((36:Nat)-t):Int)≠(0:Int))],AV.c (Value.int IntKind.i64 (i64.wrap ((↑(d-t):Int).tdiv (↑((36:Nat)-t):Int)))),Cmd.nop).snd.snd.cells:List AV))=([]),
 (i64.min:Int)≤↑j+1,
 (↑j+1:Int)≤i64.max],y4_,by decide,Eq.trans (b:=some ((.normal:Exit),⟨frame 36 [(0,(AV.pt 0 0)),(1,(AV.c ((Value.int .i64 ((↑q:Int)))))),(2,(AV.c ((Value.int .i64 ((↑b:Int)))))),(6,(AV.c ((Value.int .i64 ((↑j:Int)+(1:Int))))))],[(.some ⟨56,true,[(AV.pt 0 0),
 (AV.sl 2 0 (out.length+(1:Nat)))]⟩),
 .none,
 (.some ⟨5,false,(List.take out.length (z6_ out)++z6_ [UInt8.ofNat x.toNat])⟩)]⟩,_)) (by kernel_rfl) (congrArg (fun S:St=>some ((.normal:Exit),S,_)) (by first|rfl|(simp(disch:=omega) only[std,UInt8.ofNat_toNat,Int.toNat_natCast,List.length_append,List.length_singleton,hdg,h1,h2];first|done|rfl))),?_⟩
  all_goals try simp(disch:=omega) only[std,UInt8.ofNat_toNat,Int.toNat_natCast,List.length_append,List.length_singleton,hdg,h1,h2]
  all_goals repeat' apply And.intro
  all_goals first|exact True.intro|omega|with_reducible (first|rfl|assumption)|exact congrArg (fun z:Nat=>(z:Int)) ht|exact hq|exact hr|(rw[hx])|rfl|exact ht|exact hdg|exact h1|exact hc|exact hx|exact h2
theorem wrVA_all (d b t r q c j:Nat)(out:List UInt8)(x:UInt8)(hj:j<40)(hb:b≤100000)(ht:bnd j b=t)(t1:1≤t)(t2:t≤26)(hdl:d≤2147483647)(hol:out.length≤100000)(hxl:x.toNat<256)(hdg:k1_.length=36)(h1:(z6_ out).take out.length++z6_ [x]=z6_ (out++[x]))(hd:d<t)(hx:(((k1_.getD d 0).toNat:Nat):Int)=(x.toNat:Nat))(h2:(z6_ out).length=out.length):x9_ 2 p_ clWr (z1_ p_ 60 2) (wrS d b j (wrV out)) (.ret) (wrR (wrVn (out.length+1) (out++[x]))):=by
  refine⟨⟨true,(bs [(15,true)]++[(12,⟨.c (.int .i64 t),none⟩)]++[(18,⟨t4_ x,none⟩)])⟩,_,60,⟨[],[],[0,1,4]⟩,[(0:Int)≤↑j,
 (↑j:Int)≤200000,
 (0:Int)≤↑b,
 (↑b:Int)≤100000,
 (((↑(bnd j b):Int):Int))=((↑t:Int)),
 decide ((↑d:Int)<↑t)=true,
 (0:Int)≤↑d,
 (↑d:Int)<↑(36:Nat),
 (((↑([(97:UInt8),(98:UInt8),(99:UInt8),(100:UInt8),(101:UInt8),(102:UInt8),(103:UInt8),(104:UInt8),(105:UInt8),(106:UInt8),(107:UInt8),(108:UInt8),(109:UInt8),(110:UInt8),(111:UInt8),(112:UInt8),(113:UInt8),(114:UInt8),(115:UInt8),(116:UInt8),(117:UInt8),(118:UInt8),(119:UInt8),(120:UInt8),(121:UInt8),(122:UInt8),(48:UInt8),(49:UInt8),(50:UInt8),(51:UInt8),(52:UInt8),(53:UInt8),(54:UInt8),(55:UInt8),(56:UInt8),(57:UInt8)].getD d 0).toNat:Int):Int))=((↑x.toNat:Int)),
 (((0:Int):Int)≤((↑x.toNat:Int))),
 (((↑x.toNat:Int):Int)<((256:Int))),
 ((out.length:Nat)≤((z6_ out).length)),
 ((out.length+(1:Nat):Nat)≤((140737488355328:Nat)))],y4_,by decide,Eq.trans (b:=some ((.ret:Exit),⟨frame 36 [],[(.some ⟨56,true,[(AV.pt 0 0),
 (AV.sl 2 0 (out.length+(1:Nat)))]⟩),
 .none,
 (.some ⟨5,false,(List.take out.length (z6_ out)++z6_ [UInt8.ofNat x.toNat])⟩)]⟩,_)) (by kernel_rfl) (congrArg (fun S:St=>some ((.ret:Exit),S,_)) (by first|rfl|(simp(disch:=omega) only[std,UInt8.ofNat_toNat,Int.toNat_natCast,List.length_append,List.length_singleton,hdg,h1,h2];first|done|rfl))),?_⟩
  all_goals try simp(disch:=omega) only[std,UInt8.ofNat_toNat,Int.toNat_natCast,List.length_append,List.length_singleton,hdg,h1,h2]
  all_goals repeat' apply And.intro
  all_goals first|exact True.intro|omega|with_reducible (first|rfl|assumption)|exact congrArg (fun z:Nat=>(z:Int)) ht|(rw[hx])|rfl|exact ht|exact hdg|exact h1|exact hx|exact h2
theorem wrVB_all (d b t r q c j:Nat)(out:List UInt8)(x:UInt8)(hj:j<40)(hb:b≤100000)(ht:bnd j b=t)(t1:1≤t)(t2:t≤26)(hdl:d≤2147483647)(hol:out.length≤100000)(hxl:x.toNat<256)(hdg:k1_.length=36)(h1:(z6_ out).take out.length++z6_ [x]=z6_ (out++[x]))(hd:¬d<t)(hr:((d-t:Nat):Int).tmod ((36-t:Nat):Int)=(r:Nat))(hq:i64.wrap (((d-t:Nat):Int).tdiv ((36-t:Nat):Int))=(q:Nat))(hc:t+r=c)(hc36:c<36)(hx:(((k1_.getD c 0).toNat:Nat):Int)=(x.toNat:Nat))(h2:(z6_ out).length=out.length):x9_ 2 p_ clWr (z1_ p_ 60 2) (wrS d b j (wrV out)) (.normal) (wrS q b (j+1) (wrVn (out.length+1) (out++[x]))):=by
  refine⟨⟨true,(bs [(15,false)]++[(12,⟨.c (.int .i64 t),none⟩)]++[(22,⟨.c (.int .i64 (d-t:Nat)),none⟩),(27,⟨.c (.int .i64 (36-t:Nat)),none⟩),(28,⟨.c (.int .i64 r),some []⟩),(29,⟨.c (.int .i64 c),none⟩),(30,⟨t4_ x,none⟩),(34,⟨.c (.int .i64 (36-t:Nat)),none⟩),(35,⟨.c (.int .i64 q),some []⟩)])⟩,_,60,⟨[],[0,1,2,6],[0,1,4]⟩,[(0:Int)≤↑j,
 (↑j:Int)≤200000,
 (0:Int)≤↑b,
 (↑b:Int)≤100000,
 (((↑(bnd j b):Int):Int))=((↑t:Int)),
 decide ((↑d:Int)<↑t)=false,
 (i64.min:Int)≤↑d-↑t,
 (↑d-↑t:Int)≤i64.max,
 (↑d-↑t:Int)=↑(d-t),
 (i64.min:Int)≤36-↑t,
 (36-↑t:Int)≤i64.max,
 (36-↑t:Int)=↑(36-t),
 (↑((36:Nat)-t):Int)≠(0:Int),
 (((↑(d-t):Int).tmod (↑((36:Nat)-t):Int):Int))=((↑r:Int)),
 ((([ck ((↑((36:Nat)-t):Int)≠(0:Int))],AV.c (Value.int IntKind.i64 ((↑(d-t):Int).tmod (↑((36:Nat)-t):Int))),Cmd.nop).snd.snd.cells:List AV))=([]),
 (i64.min:Int)≤↑t+↑r,
 (↑t+↑r:Int)≤i64.max,
 (↑t+↑r:Int)=↑c,
 (0:Int)≤↑c,
 (↑c:Int)<↑(36:Nat),
 (((↑([(97:UInt8),(98:UInt8),(99:UInt8),(100:UInt8),(101:UInt8),(102:UInt8),(103:UInt8),(104:UInt8),(105:UInt8),(106:UInt8),(107:UInt8),(108:UInt8),(109:UInt8),(110:UInt8),(111:UInt8),(112:UInt8),(113:UInt8),(114:UInt8),(115:UInt8),(116:UInt8),(117:UInt8),(118:UInt8),(119:UInt8),(120:UInt8),(121:UInt8),(122:UInt8),(48:UInt8),(49:UInt8),(50:UInt8),(51:UInt8),(52:UInt8),(53:UInt8),(54:UInt8),(55:UInt8),(56:UInt8),(57:UInt8)].getD c 0).toNat:Int):Int))=((↑x.toNat:Int)),
 (((0:Int):Int)≤((↑x.toNat:Int))),
 (((↑x.toNat:Int):Int)<((256:Int))),
 ((out.length:Nat)≤((z6_ out).length)),
 ((out.length+(1:Nat):Nat)≤((140737488355328:Nat))),
 (i64.min:Int)≤36-↑t,
 (36-↑t:Int)≤i64.max,
 (36-↑t:Int)=↑(36-t),
 (↑((36:Nat)-t):Int)≠(0:Int),
 ((i64.wrap ((↑(d-t):Int).tdiv (↑((36:Nat)-t):Int)):Int))=((↑q:Int)),
 ((([ck ((↑((36:Nat)-t):Int)≠(0:Int))],AV.c (Value.int IntKind.i64 (i64.wrap ((↑(d-t):Int).tdiv (↑((36:Nat)-t):Int)))),Cmd.nop).snd.snd.cells:List AV))=([]),
 (i64.min:Int)≤↑j+1,
 (↑j+1:Int)≤i64.max],y4_,by decide,Eq.trans (b:=some ((.normal:Exit),⟨frame 36 [(0,(AV.pt 0 0)),(1,(AV.c ((Value.int .i64 ((↑q:Int)))))),(2,(AV.c ((Value.int .i64 ((↑b:Int)))))),(6,(AV.c ((Value.int .i64 ((↑j:Int)+(1:Int))))))],[(.some ⟨56,true,[(AV.pt 0 0),
 (AV.sl 2 0 (out.length+(1:Nat)))]⟩),
 .none,
 (.some ⟨5,false,(List.take out.length (z6_ out)++z6_ [UInt8.ofNat x.toNat])⟩)]⟩,_)) (by kernel_rfl) (congrArg (fun S:St=>some ((.normal:Exit),S,_)) (by first|rfl|(simp(disch:=omega) only[std,UInt8.ofNat_toNat,Int.toNat_natCast,List.length_append,List.length_singleton,hdg,h1,h2];first|done|rfl))),?_⟩
  all_goals try simp(disch:=omega) only[std,UInt8.ofNat_toNat,Int.toNat_natCast,List.length_append,List.length_singleton,hdg,h1,h2]
  all_goals repeat' apply And.intro
  all_goals first|exact True.intro|omega|with_reducible (first|rfl|assumption)|exact congrArg (fun z:Nat=>(z:Int)) ht|exact hq|exact hr|(rw[hx])|rfl|exact ht|exact hdg|exact h1|exact hc|exact hx|exact h2
theorem nd01:[0,1].Nodup:=by decide
theorem digL_get {d:Nat}(h:d<36):k1_.getD d 0=chr d:=by
  have k:∀y:Fin 36,k1_.getD y.val 0=chr y.val:=by decide+kernel
  exact k ⟨d,h⟩
theorem digL_int {d:Nat}(h:d<36):(((k1_.getD d 0).toNat:Nat):Int)=((chr d).toNat:Nat):=by rw[digL_get h]
theorem k4_ (s:List UInt8)(x:UInt8):(z6_ s).take s.length++z6_ [x]=z6_ (s++[x]):=by
  rw[List.take_of_length_le (by rw[w0_];exact Nat.le_refl _)]
  simp[z6_]
theorem wr_any (k:Nat)(Pre:List UInt8→Heap→Prop)(H:Nat→List UInt8→Heap)(b d0:Nat)(hb:b≤100000)(hd0:d0≤2147483647)
    (sA:∀(d t j:Nat) (out:List UInt8) (x:UInt8) (h:Heap),Pre out h→j<40→bnd j b=t→1≤t→t≤26→d≤2147483647→out.length≤100000→d<t→(((k1_.getD d 0).toNat:Nat):Int)=(x.toNat:Nat)→x9_ k p_ clWr (z1_ p_ 60 2) (wrS d b j h) .ret (wrR (H (out.length+1) (out++[x]))))
    (sB:∀(d t j r q c:Nat) (out:List UInt8) (x:UInt8) (h:Heap),Pre out h→j<40→bnd j b=t→1≤t→t≤26→d≤2147483647→out.length≤100000→¬d<t→((d-t:Nat):Int).tmod ((36-t:Nat):Int)=(r:Nat)→i64.wrap (((d-t:Nat):Int).tdiv ((36-t:Nat):Int))=(q:Nat)→t+r=c→c<36→(((k1_.getD c 0).toNat:Nat):Int)=(x.toNat:Nat)→x9_ k p_ clWr (z1_ p_ 60 2) (wrS d b j h) .normal (wrS q b (j+1) (H (out.length+1) (out++[x]))))
    (hP:∀out,Pre out (H out.length out)) (s0:List UInt8) (h0:Heap) (hs0:Pre s0 h0) (hl0:s0.length≤90000):
    Tri (ExtK k) p_ (.loop (z1_ p_ 60 2)) (wrS d0 b 0 h0) .ret (wrR (H (s0++leB b 40 0 d0).length (s0++leB b 40 0 d0))):=by
  refine i1_ mixed clWr_ok (fun x:Nat×List UInt8×Nat×Heap=>wrS x.1 b x.2.2.1 x.2.2.2) (fun x=>Pre x.2.1 x.2.2.2∧x.2.2.1<40∧x.1≤2147483647∧x.1<10^(39-x.2.2.1)∧x.2.1.length≤90000+x.2.2.1∧x.2.1++leB b (40-x.2.2.1) x.2.2.1 x.1=s0++leB b 40 0 d0) (fun x=>40-x.2.2.1) (fun x hx=>?_) (d0,s0,0,h0) ⟨hs0,by simp,hd0,Nat.lt_of_le_of_lt hd0 (show 2147483647<10^39 by decide),hl0,rfl⟩
  obtain⟨d,out,j,h⟩:=x
  obtain⟨h0,h1,h2,h3,h4,h5⟩:=hx
  simp only at h0 h1 h2 h3 h4 h5 ⊢
  obtain⟨t1,t2⟩:=bnd_bd j b
  obtain⟨f,hf⟩:∃f,40-j=f+1:=⟨39-j,by omega⟩
  have hf':39-j=f:=by omega
  rw[hf,m4_]at h5
  rw[hf']at h3
  have hsn:∀x:UInt8,(out++[x]).length=out.length+1:=fun x=>by rw[List.length_append];rfl
  by_cases hd:d<bnd j b
  ·rw[if_pos hd]at h5
   rw[←h5,hsn]
   exact .inr ⟨by simp,sA d (bnd j b) j out (chr d) h h0 h1 rfl t1 t2 h2 (by omega) hd (digL_int (by omega))⟩
  ·rw[if_neg hd]at h5
   have hm:(d-bnd j b)%(36-bnd j b)<36-bnd j b:=Nat.mod_lt _ (by omega)
   obtain⟨f,rfl⟩:∃g,f=g+1:=⟨f-1,by
     cases f with
     |zero=>simp at h3;omega
     |succ f=>omega⟩
   have hlt:=quo_lt (m:=10^f) t1 t2 (by rw[Nat.pow_succ]at h3;omega:d<10*10^f)
   have hq2:(d-bnd j b)/(36-bnd j b)≤d-bnd j b:=Nat.div_le_self _ _
   have step:=sB d (bnd j b) j ((d-bnd j b)%(36-bnd j b)) _ _ out _ h h0 h1 rfl t1 t2 h2 (by omega) hd (tmNat _ _) (tdNat _ (by omega)) rfl (by omega) (digL_int (by omega))
   have hPn:=hP (out++[chr (bnd j b+(d-bnd j b)%(36-bnd j b))])
   rw[hsn]at hPn
   refine .inl ⟨((d-bnd j b)/(36-bnd j b),out++[chr (bnd j b+(d-bnd j b)%(36-bnd j b))],j+1,H (out.length+1) (out++[chr (bnd j b+(d-bnd j b)%(36-bnd j b))])),⟨hPn,by simp only;omega,by simp only;omega,by simp only;rw[show 39-(j+1)=f by omega];exact hlt,by simp only[List.length_append,List.length_singleton];omega,?_⟩,by simp only;omega,step⟩
   simp only
   rw[←h5,show 40-(j+1)=f+1 by omega,List.append_assoc]
   rfl
theorem wrF_walk (b d:Nat)(hb:b≤100000)(hd:d≤2147483647):Tri (ExtK 1) p_ (.loop (z1_ p_ 60 2)) (wrS d b 0 wrF) .ret (wrR (wrW (leB b 40 0 d))):=by
  refine wr_any 1 (fun out h=>(out=[]∧h=wrF)∨h=wrW out) wrWn b d hb hd ?_ ?_ (fun out=> .inr rfl) [] wrF (.inl ⟨rfl,rfl⟩) (Nat.zero_le _)
  ·rintro d t j out x h hp h1 h2 h3 h4 h5 h6 h7 h8
   rcases hp with⟨ho,rfl⟩|rfl
   ·have:=wrFA_all d b t 0 0 0 j out x h1 hb h2 h3 h4 h5 h6 (UInt8.toNat_lt x) rfl (k4_ out x) h7 h8 ho
    subst ho
    exact this
   ·exact wrWA_all d b t 0 0 0 j out x h1 hb h2 h3 h4 h5 h6 (UInt8.toNat_lt x) rfl (k4_ out x) h7 h8 (w0_ out)
  ·rintro d t j r q c out x h hp h1 h2 h3 h4 h5 h6 h7 h8 h9 h10 h11 h12
   rcases hp with⟨ho,rfl⟩|rfl
   ·have:=wrFB_all d b t r q c j out x h1 hb h2 h3 h4 h5 h6 (UInt8.toNat_lt x) rfl (k4_ out x) h7 h8 h9 h10 h11 h12 ho
    subst ho
    exact this
   ·exact wrWB_all d b t r q c j out x h1 hb h2 h3 h4 h5 h6 (UInt8.toNat_lt x) rfl (k4_ out x) h7 h8 h9 h10 h11 h12 (w0_ out)
theorem wrU_walk (b d:Nat)(hb:b≤100000)(hd:d≤2147483647)(s:List UInt8)(hs:s.length≤90000):Tri (ExtK 2) p_ (.loop (z1_ p_ 60 2)) (wrS d b 0 (wrW s)) .ret (wrR (wrV (s++leB b 40 0 d))):=by
  refine wr_any 2 (fun out h=>h=wrW out∨h=wrV out) wrVn b d hb hd ?_ ?_ (fun out=> .inr rfl) s (wrW s) (.inl rfl) hs
  ·rintro d t j out x h hp h1 h2 h3 h4 h5 h6 h7 h8
   rcases hp with rfl|rfl
   ·exact wrUA_all d b t 0 0 0 j out x h1 hb h2 h3 h4 h5 h6 (UInt8.toNat_lt x) rfl (k4_ out x) h7 h8 (w0_ out)
   ·exact wrVA_all d b t 0 0 0 j out x h1 hb h2 h3 h4 h5 h6 (UInt8.toNat_lt x) rfl (k4_ out x) h7 h8 (w0_ out)
  ·rintro d t j r q c out x h hp h1 h2 h3 h4 h5 h6 h7 h8 h9 h10 h11 h12
   rcases hp with rfl|rfl
   ·exact wrUB_all d b t r q c j out x h1 hb h2 h3 h4 h5 h6 (UInt8.toNat_lt x) rfl (k4_ out x) h7 h8 h9 h10 h11 h12 (w0_ out)
   ·exact wrVB_all d b t r q c j out x h1 hb h2 h3 h4 h5 h6 (UInt8.toNat_lt x) rfl (k4_ out x) h7 h8 h9 h10 h11 h12 (w0_ out)
theorem wrmF_all (b d:Nat)(s:List UInt8):∃(h:Hints) (p:List Prop),y5_ [] (z8_ p_ clWr h (y1_ ([(2,⟨z1_ p_ 60 2,⟨[],[0,1,2,6],[0]⟩,wrS d b 0 (wrF),.ret,wrR (wrW (leB b 40 0 d))⟩)])) 60 60 ([.pt 0 0,.c (.int .i64 d),.c (.int .i64 b)]) (wrF))=some (.tu [],wrW (leB b 40 0 d),p)∧z7_ p:=by
  refine⟨⟨true,bs []⟩,[((z1_ p_ (60:FuncId) (2:Nat):Go.Code))=(z1_ p_ (60:FuncId) (2:Nat)),
 ((wrS d b (0:Nat) wrF:St))=(wrS d b (0:Nat) wrF)],by kernel_rfl,?_⟩
  all_goals try simp(disch:=omega) only[std]
  all_goals repeat' apply And.intro
  all_goals first|exact True.intro|omega|with_reducible (first|rfl|assumption)|rfl
theorem wrmU_all (b d:Nat)(s:List UInt8):∃(h:Hints) (p:List Prop),y5_ [] (z8_ p_ clWr h (y1_ ([(2,⟨z1_ p_ 60 2,⟨[],[0,1,2,6],[0,1]⟩,wrS d b 0 (wrW s),.ret,wrR (wrV (s++leB b 40 0 d))⟩)])) 60 60 ([.pt 0 0,.c (.int .i64 d),.c (.int .i64 b)]) (wrW s))=some (.tu [],wrV (s++leB b 40 0 d),p)∧z7_ p:=by
  refine⟨⟨true,bs []⟩,[((z1_ p_ (60:FuncId) (2:Nat):Go.Code))=(z1_ p_ (60:FuncId) (2:Nat)),
 ((wrS d b (0:Nat) (wrW s):St))=(wrS d b (0:Nat) (wrW s))],by kernel_rfl,?_⟩
  all_goals try simp(disch:=omega) only[std]
  all_goals repeat' apply And.intro
  all_goals first|exact True.intro|omega|with_reducible (first|rfl|assumption)|rfl
def wrSpec:HSpec
  | [.pt 0 0,.c (.int .i64 d),.c (.int .i64 b)],[some ⟨t,true,[.c (.pointer none),.c (.slice none 0 0)]⟩]=>if t=56 then
      some (.tu [],wrW (leB b.toNat 40 0 d.toNat),[0≤d,d≤2147483647,0≤b,b≤100000])else none
  | [.pt 0 0,.c (.int .i64 d),.c (.int .i64 b)],[some ⟨t,true,[.pt 0 0,.sl 1 0 n]⟩,some ⟨u,false,l⟩]=>if t=56∧u=5 then
      some (.tu [],wrV (x8_ l++leB b.toNat 40 0 d.toNat),[0≤d,d≤2147483647,0≤b,b≤100000,l=z6_ (x8_ l),n=(x8_ l).length,n≤90000])else none
  |_,_=>none
theorem write_ok:u0_ p_ 60 wrSpec:=by
  refine zb0_ mixed clWr_ok fun args hp r hp' q hs hq=>?_
  unfold wrSpec at hs
  split at hs
  ·rename_i d b t
   split at hs
   ·rename_i ht
    subst ht
    simp only[oi_]at hs
    obtain⟨rfl,rfl,rfl⟩:=hs
    obtain⟨h0,h1,h2,h3,_⟩:=hq
    obtain⟨d,rfl⟩:∃k:Nat,d=(k:Int):=⟨d.toNat,by omega⟩
    obtain⟨b,rfl⟩:∃k:Nat,b=(k:Int):=⟨b.toNat,by omega⟩
    rw[Int.toNat_natCast,Int.toNat_natCast]
    obtain⟨hh,p,e,hp⟩:=wrmF_all b d []
    exact⟨_,_,_,_,_,s2_ y4_ ⟨nd0,rfl⟩ (wrF_walk b d (by omega) (by omega)),e,hp⟩
   ·simp at hs
  ·rename_i d b t n u l
   split at hs
   ·rename_i ht
    obtain⟨rfl,rfl⟩:=ht
    simp only[oi_]at hs
    obtain⟨rfl,rfl,rfl⟩:=hs
    obtain⟨h0,h1,h2,h3,h4,h5,h6,_⟩:=hq
    obtain⟨d,rfl⟩:∃k:Nat,d=(k:Int):=⟨d.toNat,by omega⟩
    obtain⟨b,rfl⟩:∃k:Nat,b=(k:Int):=⟨b.toNat,by omega⟩
    rw[Int.toNat_natCast,Int.toNat_natCast]
    generalize x8_ l=s at*
    subst h4 h5
    obtain⟨hh,p,e,hp⟩:=wrmU_all b d s
    exact⟨_,_,_,_,_,s2_ y4_ ⟨nd01,rfl⟩ (wrU_walk b d (by omega) (by omega) s h6),e,hp⟩
   ·simp at hs
  ·simp at hs
end Go.Proofs.YtmjldphagbobpaaDoor
namespace Go.Proofs.YtmjldphagbobpaaDoor
open IntKind (i64 u8 i32 u32 u64)
open _root_.Go.Proofs.Tryd renaming prog→p_
open Go.RowKit Pny Srt
def fiC (l:List UInt8)(cut i:Nat):St:=⟨frame 36 [(0,.c (str l)),(5,.c (.int .i64 cut)),(6,.sl 0 0 i),(7,.c (.int .i64 i))],[some ⟨3,false,z0_ ((l.take i).map UInt8.toNat)⟩]⟩
def fiD (l:List UInt8)(cut:Nat)(out:List Nat):St:=⟨frame 36 [(0,.c (str l)),(5,.c (.int .i64 cut)),(6,.sl 0 0 out.length)],[some ⟨3,false,z0_ out⟩]⟩
def fiN:St:=⟨frame 36 [(2,.sl 0 0 0),(3,.c (str [])),(4,.c (.bool false))],[some ⟨3,false,[]⟩]⟩
theorem ficA_all (l:List UInt8)(cut i:Nat)(hi:i<cut)(hc:¬(((l.getD i 0).toNat:Nat):Int)≥128)(ht:List.take i (z0_ ((l.take i).map UInt8.toNat))++[.c (.int .i64 ((l.getD i 0).toNat:Nat))]=z0_ ((l.take (i+1)).map UInt8.toNat))(hl:l.length≤100000)(hcl:cut≤l.length)(hw:i64.wrap ((l.getD i 0).toNat:Nat)=((l.getD i 0).toNat:Nat))(hnl:(z0_ ((l.take i).map UInt8.toNat)).length=i):x1_ Ext0 p_ cl0 (z1_ p_ 27 8) (fiC l cut i) (.normal) (fiC l cut (i+1)):=by
  refine⟨⟨true,(bs [(17,true),(23,false)]++[(30,⟨.sl 2 0 (i+1),some (z0_ ((l.take (i+1)).map UInt8.toNat))⟩)])⟩,_,60,⟨[],[0,5,6,7],[2]⟩,[decide ((↑i:Int)<↑cut)=true,
 (0:Int)≤↑i,
 (↑i:Int)<↑l.length,
 (decide ((↑(l.getD i 0).toNat:Int)≥(128:Int)))=false,
 (0:Int)≤↑i,
 (↑i:Int)<↑l.length,
 (((1:Nat):Nat)≤((1:Nat))),
 (((i+(1:Nat))*(8:Nat):Nat)≤((140737488355328:Nat))),
 ((i+(1:Nat):Nat)≤((4611686018427387904:Nat))),
 ((i:Nat)≤((z0_ (List.map UInt8.toNat (List.take i l))).length)),
 y0_ ((AV.sl 2 0 (i+(1:Nat)))) ((AV.sl 2 0 (i+(1:Nat)))),
 ((List.take i (z0_ (List.map UInt8.toNat (List.take i l)))++List.take (1:Nat) (List.drop (0:Nat) ([AV.c (Value.int IntKind.i64 (i64.wrap (↑(l.getD i 0).toNat:Int)))]++[])):List AV))=(z0_ (List.map UInt8.toNat (List.take (i+(1:Nat)) l))),
 (i64.min:Int)≤↑i+1,
 (↑i+1:Int)≤i64.max],z4_,by decide,Eq.trans (b:=some ((.normal:Exit),⟨frame 36 [(0,(AV.c ((str (l))))),(5,(AV.c ((Value.int .i64 ((↑cut:Int)))))),(6,(AV.sl 0 0 (i+(1:Nat)))),(7,(AV.c ((Value.int .i64 ((↑i:Int)+(1:Int))))))],[(.some ⟨3,false,(z0_ (List.map UInt8.toNat (List.take (i+(1:Nat)) l)))⟩)]⟩,_)) (by kernel_rfl) (congrArg (fun S:St=>some ((.normal:Exit),S,_)) ?_),?_⟩
  any_goals(
    rfl
    done)
  all_goals try simp(disch:=omega) only[std,hw,hnl]
  all_goals repeat' apply And.intro
  all_goals first|exact True.intro|omega|with_reducible (first|rfl|assumption)|exact ht|exact hw|exact hnl|rfl
theorem ficB_all (l:List UInt8)(cut i:Nat)(hi:i<cut)(hc:(((l.getD i 0).toNat:Nat):Int)≥128)(hl:l.length≤100000)(hcl:cut≤l.length)(hw:i64.wrap ((l.getD i 0).toNat:Nat)=((l.getD i 0).toNat:Nat))(hnl:(z0_ ((l.take i).map UInt8.toNat)).length=i):x1_ Ext0 p_ cl0 (z1_ p_ 27 8) (fiC l cut i) (.ret) (fiN):=by
  refine⟨⟨true,(bs [(17,true),(23,true)]++[])⟩,_,60,⟨[(2,3)],[2,3,4],[1]⟩,[decide ((↑i:Int)<↑cut)=true,
 (0:Int)≤↑i,
 (↑i:Int)<↑l.length,
 (decide ((↑(l.getD i 0).toNat:Int)≥(128:Int)))=true],z4_,by decide,Eq.trans (b:=some ((.ret:Exit),⟨frame 36 [(2,(AV.sl 0 0 0)),(3,(AV.c ((str ([]))))),(4,(AV.c ((Value.bool false))))],[(.some ⟨3,false,[]⟩)]⟩,_)) (by kernel_rfl) (congrArg (fun S:St=>some ((.ret:Exit),S,_)) ?_),?_⟩
  any_goals(
    rfl
    done)
  all_goals try simp(disch:=omega) only[std,hw,hnl]
  all_goals repeat' apply And.intro
  all_goals first|exact True.intro|omega|with_reducible (first|rfl|assumption)|exact hw|exact hnl|rfl
theorem ficZ_all (l:List UInt8)(cut i:Nat)(hi:i=cut)(hn2:(List.map UInt8.toNat (List.take i l)).length=i)(hl:l.length≤100000)(hcl:cut≤l.length)(hw:i64.wrap ((l.getD i 0).toNat:Nat)=((l.getD i 0).toNat:Nat))(hnl:(z0_ ((l.take i).map UInt8.toNat)).length=i):x1_ Ext0 p_ cl0 (z1_ p_ 27 8) (fiC l cut i) (.exit 0) (fiD l cut (List.map UInt8.toNat (List.take i l))):=by
  refine⟨⟨true,(bs [(17,false)]++[])⟩,_,60,⟨[],[0,5,6],[0]⟩,[decide ((↑i:Int)<↑cut)=false],z4_,by decide,Eq.trans (b:=some ((.exit 0:Exit),⟨frame 36 [(0,(AV.c ((str (l))))),(5,(AV.c ((Value.int .i64 ((↑cut:Int)))))),(6,(AV.sl 0 0 i))],[(.some ⟨3,false,(z0_ (List.map UInt8.toNat (List.take i l)))⟩)]⟩,_)) (by kernel_rfl) (congrArg (fun S:St=>some ((.exit 0:Exit),S,_)) ?_),?_⟩
  any_goals(
    (unfold fiD;rw[hn2])
    done)
  all_goals try simp(disch:=omega) only[std,hw,hnl]
  all_goals repeat' apply And.intro
  all_goals first|exact True.intro|omega|with_reducible (first|rfl|assumption)|exact hi|exact hn2|exact hw|exact hnl|rfl
theorem fic_walk (l:List UInt8)(cut:Nat)(hl:l.length≤100000)(hc:cut≤l.length):Tri Ext0 p_ (.loop (z1_ p_ 27 8)) (fiC l cut 0) (if loB l cut=true then .exit 0 else .ret) (if loB l cut=true then fiD l cut ((l.take cut).map UInt8.toNat)else fiN):=by
  have hw:∀i,i64.wrap ((l.getD i 0).toNat:Nat)=((l.getD i 0).toNat:Nat):=fun i=>by
    have:=(l.getD i 0).toNat_lt
    exact i64_wrap (by omega) (by omega)
  have hnl:∀i,i≤cut→(z0_ ((l.take i).map UInt8.toNat)).length=i:=fun i hi=>by
    simp only[y7_,List.length_map,List.length_take];omega
  refine n9_ mixed w6_ (fun i=>fiC l cut i) (fun i=>i≤cut∧∀j,j<i→(l.getD j 0).toNat<128) (fun i=>cut-i) (fun i hx=>?_) 0 ⟨Nat.zero_le _,fun j hj=>absurd hj (Nat.not_lt_zero _)⟩
  obtain⟨h1,h2⟩:=hx
  by_cases hi:i<cut
  ·have ht:=take_cells l i (by omega)
   by_cases hb:(((l.getD i 0).toNat:Nat):Int)≥128
   ·have:loB l cut=false:=by
      cases h:loB l cut with
      |false=>rfl
      |true=>have:=all_at h hi hc;omega
    rw[this]
    exact .inr ⟨by simp,ficB_all l cut i hi hb hl hc (hw i) (hnl i h1)⟩
   ·refine .inl ⟨i+1,⟨hi,fun j hj=>?_⟩,by omega,ficA_all l cut i hi hb ht hl hc (hw i) (hnl i h1)⟩
    by_cases hj2:j<i
    ·exact h2 j hj2
    ·have:j=i:=by omega
     subst this;omega
  ·have he:i=cut:=by omega
   subst he
   have:loB l i=true:=by
     refine List.all_eq_true.2 fun c hc=>?_
     obtain⟨j,hj,rfl⟩:=List.getElem_of_mem hc
     rw[List.length_take]at hj
     have:=h2 j (by omega)
     simpa [List.getD,show j<l.length by omega]using this
   rw[this]
   exact .inr ⟨by simp,ficZ_all l i i rfl (by simp only[List.length_map,List.length_take];omega) hl hc (hw i) (hnl i (Nat.le_refl _))⟩
noncomputable def clFi:CallT:=l3_ p_ (r4_ [(61,lsSpec)]) 500 8
theorem clFi_ok:x7_ p_ clFi:=q7_ mixed (y8_ last_ok v2_) 500 8
noncomputable def fiLp (l:List UInt8)(cut:Nat)(e:Exit)(R:St):List (Nat×Lp):=[(8,⟨z1_ p_ 27 8,⟨[(6,3)],[0,5,6,7],[0]⟩,fiC l cut 0,e,R⟩)]
theorem fim1_all (l:List UInt8)(z:Int)(cut:Nat)(out:List Nat)(hl:l.length≤100000)(hzz:l1_ l l.length=z)(hz:z≤0):∃(h:Hints) (p:List Prop),f7_ (⟨[(0,3)],[0,1,2],[0]⟩) (z8_ p_ clFi h (y1_ ([])) 60 27 ([.c (str l)]) [])=some (.tu [.sl 0 0 0,.c (str l),.c (.bool true)],[some ⟨3,false,[]⟩],p)∧z7_ p:=by
  refine⟨⟨true,(bs [(11,true)]++[(9,⟨.c (.int .i64 z),none⟩)])⟩,[(45:Int)=45,
 ((l.length:Nat)≤((100000:Nat))),
 ((l1_ l l.length:Int))=(z),
 decide ((z:Int)≤0)=true],by kernel_rfl,?_⟩
  all_goals try simp(disch:=omega) only[std]
  all_goals repeat' apply And.intro
  all_goals first|exact True.intro|omega|with_reducible (first|rfl|assumption)|exact hzz|rfl
theorem fim2_all (l:List UInt8)(z:Int)(cut:Nat)(out:List Nat)(hl:l.length≤100000)(hzz:l1_ l l.length=z)(hz:255<z):∃(h:Hints) (p:List Prop),f7_ (⟨[(0,3)],[0,1,2],[0]⟩) (z8_ p_ clFi h (y1_ ([])) 60 27 ([.c (str l)]) [])=some (.tu [.sl 0 0 0,.c (str []),.c (.bool false)],[some ⟨3,false,[]⟩],p)∧z7_ p:=by
  refine⟨⟨true,(bs [(11,false),(14,true)]++[(9,⟨.c (.int .i64 z),none⟩)])⟩,[(45:Int)=45,
 ((l.length:Nat)≤((100000:Nat))),
 ((l1_ l l.length:Int))=(z),
 decide ((z:Int)≤0)=false,
 decide ((z:Int)>255)=true],by kernel_rfl,?_⟩
  all_goals try simp(disch:=omega) only[std]
  all_goals repeat' apply And.intro
  all_goals first|exact True.intro|omega|with_reducible (first|rfl|assumption)|exact hzz|rfl
theorem fim3_all (l:List UInt8)(z:Int)(cut:Nat)(out:List Nat)(hl:l.length≤100000)(hzz:l1_ l l.length=((cut:Nat):Int))(hz:1≤cut)(hz2:cut≤255)(hcl:cut<l.length):∃(h:Hints) (p:List Prop),f7_ (⟨[],[0,1,2],[0]⟩) (z8_ p_ clFi h (y1_ (fiLp l cut .ret fiN)) 60 27 ([.c (str l)]) [])=some (.tu [.sl 0 0 0,.c (str []),.c (.bool false)],[some ⟨3,false,[]⟩],p)∧z7_ p:=by
  refine⟨⟨true,(bs [(11,false),(14,false)]++[(9,⟨.c (.int .i64 ((cut:Nat):Int)),none⟩)])⟩,[(45:Int)=45,
 ((l.length:Nat)≤((100000:Nat))),
 ((l1_ l l.length:Int))=((↑cut:Int)),
 decide ((↑cut:Int)≤0)=false,
 decide ((↑cut:Int)>255)=false,
 ((z1_ p_ (27:FuncId) (8:Nat):Go.Code))=(z1_ p_ (27:FuncId) (8:Nat)),
 ((fiC l cut (0:Nat):St))=(fiC l cut (0:Nat))],by kernel_rfl,?_⟩
  all_goals try simp(disch:=omega) only[std]
  all_goals repeat' apply And.intro
  all_goals first|exact True.intro|omega|with_reducible (first|rfl|assumption)|exact hzz|rfl
theorem fim4_all (l:List UInt8)(z:Int)(cut:Nat)(out:List Nat)(hl:l.length≤100000)(hzz:l1_ l l.length=((cut:Nat):Int))(hz:1≤cut)(hz2:cut≤255)(hcl:cut<l.length):∃(h:Hints) (p:List Prop),f7_ (⟨[],[0,1,2],[0]⟩) (z8_ p_ clFi h (y1_ (fiLp l cut (.exit 0) (fiD l cut out))) 60 27 ([.c (str l)]) [])=some (.tu [.sl 0 0 out.length,.c (str (l.drop (cut+1))),.c (.bool true)],[some ⟨3,false,z0_ out⟩],p)∧z7_ p:=by
  refine⟨⟨true,(bs [(11,false),(14,false)]++[(9,⟨.c (.int .i64 ((cut:Nat):Int)),none⟩)])⟩,[(45:Int)=45,
 ((l.length:Nat)≤((100000:Nat))),
 ((l1_ l l.length:Int))=((↑cut:Int)),
 decide ((↑cut:Int)≤0)=false,
 decide ((↑cut:Int)>255)=false,
 ((z1_ p_ (27:FuncId) (8:Nat):Go.Code))=(z1_ p_ (27:FuncId) (8:Nat)),
 ((fiC l cut (0:Nat):St))=(fiC l cut (0:Nat)),
 (i64.min:Int)≤↑cut+1,
 (↑cut+1:Int)≤i64.max,
 (0:Int)≤↑cut+1,
 (↑cut+1:Int)≤↑l.length,
 (↑l.length:Int)≤↑l.length],Eq.trans (b:=some ((AV.tu [(AV.sl 0 0 out.length),
 (AV.c ((str (List.drop ((↑cut:Int)+(1:Int)).toNat (List.take l.length l))))),
 (AV.c ((Value.bool true)))]),[(.some ⟨3,false,(z0_ out)⟩)],_)) (by kernel_rfl) (congrArg (fun r:AV×Heap=>some (r.1,r.2,_)) (a₁:=(_,_)) (a₂:=(_,_)) (by first|rfl|(simp(disch:=omega) only[std];first|done|rfl))),?_⟩
  all_goals try simp(disch:=omega) only[std]
  all_goals repeat' apply And.intro
  all_goals first|exact True.intro|omega|with_reducible (first|rfl|assumption)|exact hzz|rfl
def frB (l:List UInt8):Bool:=loB l (r7_ l)&&decide (r7_ l≤255)
def frL (l:List UInt8):List Nat:=if frB l=true then(l.take (r7_ l)).map UInt8.toNat else []
def frS (l:List UInt8):List UInt8:=if frB l=true then(if 0<r7_ l then l.drop (r7_ l+1)else l)else []
def frSpec:HSpec
  | [.c (.string s)],[]=>some (.tu [.sl 0 0 (frL (sb s)).length,.c (str (frS (sb s))),.c (.bool (frB (sb s)))],[some ⟨3,false,z0_ (frL (sb s))⟩],[(sb s).length≤100000])
  |_,_=>none
theorem frS_len (l:List UInt8):(frS l).length≤l.length:=by
  unfold frS
  repeat' split
  all_goals try simp only[List.length_drop,List.length_nil]
  all_goals omega
theorem first_ok:u0_ p_ 27 frSpec:=by
  refine hspec_new mixed clFi_ok fun args hp r hp' q hs hq=>?_
  unfold frSpec at hs
  split at hs
  ·rename_i s
   obtain⟨⟨⟨l⟩⟩,rfl⟩:∃b:ByteArray,b=s:=⟨s,rfl⟩
   simp only[oi_]at hs
   obtain⟨rfl,rfl,rfl⟩:=hs
   have hl:l.length≤100000:=hq.1
   refine⟨rfl,?_⟩
   simp only[p5_]
   have hc:=cutD_le l
   have hd:=cutD_las l
   have hcl:r7_ l≤l.length:=by omega
   unfold frL frS frB
   rcases lasG_is l l.length (Nat.le_refl _)with⟨e1,_⟩|⟨m,e1,k1,_,_⟩
   ·have h0:r7_ l=0:=by rw[hd,e1];rfl
    have hb:loB l (r7_ l)=true:=by rw[h0];rfl
    rw[hb,h0]
    obtain⟨hh,p,e,hp⟩:=fim1_all l (-1) 0 [] hl e1 (by omega)
    exact⟨_,_,_,_,_,(by decide),z4_,e,hp⟩
   ·have hm:r7_ l=m:=by rw[hd,e1];rfl
    by_cases h0:m=0
    ·subst h0
     have hb:loB l (r7_ l)=true:=by rw[hm];rfl
     rw[hb,hm]
     obtain⟨hh,p,e,hp⟩:=fim1_all l 0 0 [] hl e1 (by omega)
     exact⟨_,_,_,_,_,(by decide),z4_,e,hp⟩
    ·rw[hm]
     by_cases h255:m≤255
     ·rw[decide_eq_true h255,Bool.and_true]
      have w:=fic_walk l m hl (by omega)
      cases hb:loB l m with
      |false=>
       rw[hb]at w
       obtain⟨hh,p,e,hp⟩:=fim3_all l 0 m [] hl e1 (by omega) h255 k1
       exact⟨_,_,_,_,_,(by decide),x4_ z4_ nd0 w,e,hp⟩
      |true=>
       rw[hb]at w
       simp only[if_true]
       rw[if_pos (by omega)]
       obtain⟨hh,p,e,hp⟩:=fim4_all l 0 m ((l.take m).map UInt8.toNat) hl e1 (by omega) h255 k1
       exact⟨_,_,_,_,_,(by decide),x4_ z4_ nd0 w,e,hp⟩
     ·rw[decide_eq_false h255,Bool.and_false]
      obtain⟨hh,p,e,hp⟩:=fim2_all l m m [] hl e1 (by omega)
      exact⟨_,_,_,_,_,(by decide),z4_,e,hp⟩
  ·simp at hs
def plc (L:List Int)(i:Nat):List Nat:=(List.range i).filter fun j=>decide (128≤L.getD j 0)
theorem plc_len (L:List Int)(i:Nat):(plc L i).length≤i:=by
  unfold plc
  refine Nat.le_trans (List.length_filter_le _ _) ?_
  rw[List.length_range];exact Nat.le_refl _
theorem plc_succ (L:List Int)(i:Nat):plc L (i+1)=if 128≤L.getD i 0 then plc L i++[i]else plc L i:=by
  unfold plc
  rw[List.range_succ,List.filter_append]
  by_cases h:128≤L.getD i 0
  ·rw[if_pos h,List.filter_cons_of_pos (by rw[decide_eq_true h])];rfl
  ·rw[if_neg h,List.filter_cons_of_neg (by rw[decide_eq_false h];simp),List.filter_nil,List.append_nil]
theorem plc_bd (L:List Int)(i:Nat):∀z∈plc L i,z<i:=fun z hz=>by
  have:=(List.mem_filter.1 hz).1
  exact List.mem_range.1 this
theorem plc_inc (L:List Int)(i:Nat):IncA (plc L i):=List.Pairwise.filter _ List.pairwise_lt_range
def orS (X:List Nat)(n k i:Nat)(C:List AV):St:=⟨frame 24 [(1,.pt 0 0),(3,.sl 1 0 n),(6,.fs 1 k C),(7,.c (.int .i64 k)),(8,.c (.int .i64 i))],[some ⟨27,true,[.fs 1 k C]⟩,some ⟨3,false,z0_ X⟩]⟩
def orR (X:List Nat)(n k:Nat)(C:List AV):St:=⟨frame 24 [(1,.pt 0 0),(3,.sl 1 0 n)],[some ⟨27,true,[.fs 1 k C]⟩,some ⟨3,false,z0_ X⟩]⟩
theorem orA_all (X:List Nat)(n k i:Nat)(C:List AV)(z:Int)(hi:i<k)(hz:y0_ ((C.drop i).headD .any) (.c (.int .i64 z)))(hc:128≤z)(hk:k≤255)(hn:n≤i)(hC:C.length=k)(hX:(z0_ X).length=n)(h1:(z0_ X).take n++[.c (.int .i64 i)]=z0_ (X++[i])):x1_ Ext0 p_ cl0 (z1_ p_ 58 3) (orS X n k i C) (.normal) (orS (X++[i]) (n+1) k (i+1) C):=by
  refine⟨⟨true,(bs [(9,true),(14,true)]++[(12,⟨.c (.int .i64 z),none⟩),(18,⟨.sl 3 0 (n+1),some (z0_ (X++[i]))⟩)])⟩,_,60,⟨[],[1,3,6,7,8],[0,3]⟩,[decide ((↑i:Int)<↑k)=true,
 (0:Int)≤↑i,
 (↑i:Int)<↑k,
 (((0:Nat):Nat)<((List.drop i C).length)),
 y0_ ((List.drop i C).headD AV.any) ((AV.c ((Value.int .i64 z)))),
 decide ((z:Int)≥128)=true,
 (((1:Nat):Nat)≤((1:Nat))),
 (((n+(1:Nat))*(8:Nat):Nat)≤((140737488355328:Nat))),
 ((n+(1:Nat):Nat)≤((4611686018427387904:Nat))),
 ((n:Nat)≤((z0_ X).length)),
 y0_ ((AV.sl 3 0 (n+(1:Nat)))) ((AV.sl 3 0 (n+(1:Nat)))),
 ((List.take n (z0_ X)++List.take (1:Nat) (List.drop (0:Nat) ([AV.c (Value.int IntKind.i64 (↑i:Int))]++[])):List AV))=(z0_ (X++[i])),
 (i64.min:Int)≤↑i+1,
 (↑i+1:Int)≤i64.max],z4_,by decide,by kernel_rfl,?_⟩
  all_goals try simp(disch:=omega) only[std,List.length_drop,hC,hX,h1,Nat.add_zero]
  all_goals repeat' apply And.intro
  all_goals first|exact True.intro|omega|with_reducible (first|rfl|assumption)|exact hz|exact hC|exact hX|exact h1|rfl
theorem orB_all (X:List Nat)(n k i:Nat)(C:List AV)(z:Int)(hi:i<k)(hz:y0_ ((C.drop i).headD .any) (.c (.int .i64 z)))(hc:¬128≤z)(hk:k≤255)(hn:n≤i)(hC:C.length=k)(hX:(z0_ X).length=n)(h1:(z0_ X).take n++[.c (.int .i64 i)]=z0_ (X++[i])):x1_ Ext0 p_ cl0 (z1_ p_ 58 3) (orS X n k i C) (.normal) (orS X n k (i+1) C):=by
  refine⟨⟨true,(bs [(9,true),(14,false)]++[(12,⟨.c (.int .i64 z),none⟩)])⟩,_,60,⟨[],[1,3,6,7,8],[0,1]⟩,[decide ((↑i:Int)<↑k)=true,
 (0:Int)≤↑i,
 (↑i:Int)<↑k,
 (((0:Nat):Nat)<((List.drop i C).length)),
 y0_ ((List.drop i C).headD AV.any) ((AV.c ((Value.int .i64 z)))),
 decide ((z:Int)≥128)=false,
 (i64.min:Int)≤↑i+1,
 (↑i+1:Int)≤i64.max],z4_,by decide,by kernel_rfl,?_⟩
  all_goals try simp(disch:=omega) only[std,List.length_drop,hC,hX,h1,Nat.add_zero]
  all_goals repeat' apply And.intro
  all_goals first|exact True.intro|omega|with_reducible (first|rfl|assumption)|exact hz|exact hC|exact hX|exact h1|rfl
theorem orZ_all (X:List Nat)(n k i:Nat)(C:List AV)(z:Int)(hi:i=k)(hk:k≤255)(hn:n≤i)(hC:C.length=k)(hX:(z0_ X).length=n)(h1:(z0_ X).take n++[.c (.int .i64 i)]=z0_ (X++[i])):x1_ Ext0 p_ cl0 (z1_ p_ 58 3) (orS X n k i C) (.exit 0) (orR X n k C):=by
  refine⟨⟨true,(bs [(9,false)]++[])⟩,_,60,⟨[],[1,3],[0,1]⟩,[decide ((↑i:Int)<↑k)=false],z4_,by decide,by kernel_rfl,?_⟩
  all_goals try simp(disch:=omega) only[std,List.length_drop,hC,hX,h1,Nat.add_zero]
  all_goals repeat' apply And.intro
  all_goals first|exact True.intro|omega|with_reducible (first|rfl|assumption)|exact hi|exact hC|exact hX|exact h1|rfl
theorem or_walk (L:List Int)(hl:L.length≤255):Tri Ext0 p_ (.loop (z1_ p_ 58 3)) (orS [] 0 L.length 0 (z2_ L)) (.exit 0) (orR (plc L L.length) (plc L L.length).length L.length (z2_ L)):=by
  have hap:∀(X:List Nat) (i:Nat),(z0_ X).take X.length++[.c (.int .i64 (i:Nat))]=z0_ (X++[i]):=fun X i=>by
    rw[List.take_of_length_le (by rw[y7_];exact Nat.le_refl _),nats_app];rfl
  have h:=d6_ mixed w6_ (b:=z1_ p_ 58 3) (fun i=>orS (plc L i) (plc L i).length L.length i (z2_ L)) L.length (e:= .exit 0) (R:=orR (plc L L.length) (plc L L.length).length L.length (z2_ L)) (by simp) (fun i hi=>by
    have hz:y0_ (((z2_ L).drop i).headD .any) (.c (.int .i64 (L.getD i 0))):=by rw[j3_ L i hi];exact u3_ _
    rw[plc_succ]
    by_cases hc:128≤L.getD i 0
    ·rw[if_pos hc,List.length_append,List.length_singleton]
     exact orA_all (plc L i) _ L.length i (z2_ L) _ hi hz hc hl (plc_len L i) (v3_ L) (y7_ _) (hap _ i)
    ·rw[if_neg hc]
     exact orB_all (plc L i) _ L.length i (z2_ L) _ hi hz hc hl (plc_len L i) (v3_ L) (y7_ _) (hap _ i)) (orZ_all (plc L L.length) _ L.length L.length (z2_ L) 0 rfl hl (plc_len L L.length) (v3_ L) (y7_ _) (hap _ _)) 0 (Nat.zero_le _)
  exact h
noncomputable def clOr:CallT:=p3_ p_ (r4_ []) (m0_ [(72,sstSpec)]) 500 8
theorem clOr_ok:x7_ p_ clOr:=s3_ mixed v2_ (w5_ sst_ok s8_) 500 8
noncomputable def orLp (X:List Nat)(n k:Nat)(C:List AV):List (Nat×Lp):=[(3,⟨z1_ p_ 58 3,⟨[(3,3)],[1,3,6,7,8],[0,1]⟩,orS [] 0 k 0 C,.exit 0,orR X n k C⟩)]
theorem orm_all (X:List Nat)(n:Nat)(L:List Int)(hl:L.length≤255)(hn:n≤255)(hX:X.length=n)(hsm:SmI L)(hbd:BdR X L.length)(hi:IncA X):∃(h:Hints) (p:List Prop),y3_ p_ 58 (z8_ p_ clOr h (y1_ (orLp X n L.length (z2_ L))) 60 58 ([.fs 1 L.length (z2_ L)]) ([]))=some (.fs 1 n (z0_ (so (x2_ L) X)),p)∧z7_ p:=by
  refine⟨⟨true,bs []⟩,[(((0:Nat):Nat)<((1:Nat))),
 ((z1_ p_ (58:FuncId) (3:Nat):Go.Code))=(z1_ p_ (58:FuncId) (3:Nat)),
 ((orS [] (0:Nat) L.length (0:Nat) (z2_ L):St))=(orS [] (0:Nat) L.length (0:Nat) (z2_ L)),
 ((z0_ X:List AV))=(z0_ (z5_ (z0_ X))),
 (((z5_ (z0_ X)).length:Nat))=(n),
 ((n:Nat)≤((255:Nat))),
 ((z2_ L:List AV))=(z2_ (unI (z2_ L))),
 ((L.length:Nat))=((unI (z2_ L)).length),
 SmI (unI (z2_ L)),
 BdR (z5_ (z0_ X)) L.length,
 IncA (z5_ (z0_ X))],Eq.trans (b:=some ((AV.fs 1 n (z0_ (so (x2_ (unI (z2_ L))) (z5_ (z0_ X))))),_)) (by kernel_rfl) (congrArg (fun r=>some (r,_)) (by first|rfl|(simp(disch:=omega) only[std,w9_,v8_];first|done|rfl))),?_⟩
  all_goals try simp(disch:=omega) only[std,w9_,v8_]
  all_goals repeat' apply And.intro
  all_goals first|exact True.intro|omega|with_reducible (first|rfl|assumption)|exact hX|exact hsm|exact hbd|exact hi|rfl
def orO (L:List Int):List Nat:=so (x2_ L) (plc L L.length)
def orSpec:Spec
  | [.fs s n l]=>some (.fs 1 (plc (unI l) (unI l).length).length (z0_ (orO (unI l))),[s=1,l=z2_ (unI l),n=(unI l).length,n≤255,SmI (unI l)])
  |_=>none
theorem order_ok:w2_ p_ 58 orSpec:=by
  refine v5_ mixed clOr_ok fun args r q hs hq=>?_
  unfold orSpec at hs
  split at hs
  ·rename_i s n l
   simp only[oi_]at hs
   obtain⟨rfl,rfl⟩:=hs
   obtain⟨rfl,h2,h3,h4,h5,_⟩:=hq
   generalize unI l=L at*
   subst h2 h3
   have hn:=plc_len L L.length
   obtain⟨hh,p,e,hp⟩:=orm_all (plc L L.length) _ L h4 (by omega) rfl h5 (plc_bd L L.length) (plc_inc L L.length)
   exact⟨_,_,_,_,x4_ z4_ nd01 (or_walk L h4),e,hp⟩
  ·simp at hs
end Go.Proofs.YtmjldphagbobpaaDoor
namespace Go.Proofs.YtmjldphagbobpaaDoor
open IntKind (i64 u8 i32 u32 u64)
open _root_.Go.Proofs.Tryd renaming prog→p_
open Go.RowKit Pny Srt
noncomputable def clDd:CallT:=p3_ p_ (r4_ [(30,signISpec),(29,qrSpec)]) (m0_ [(27,frSpec),(31,insISpec),(32,tdSpec)]) 500 8
theorem clDd_ok:x7_ p_ clDd:=s3_ mixed (y8_ qsg_ok (y8_ qrd_ok v2_)) (w5_ first_ok (w5_ insI_ok (w5_ told_ok s8_))) 500 8
def ddH (out:List Nat)(b c p:Nat)(f:Bool):Heap:=[some ⟨3,false,z0_ out⟩,some ⟨47,true,[.c (.int .i64 b),.c (.int .i64 c),.c (.int .i64 p),.c (.bool f)]⟩]
def ddS (l:List UInt8)(out:List Nat)(n p c b:Nat)(f:Bool):St:=⟨frame 76 [(0,.c (str l)),(4,.sl 0 0 n),(6,.pt 1 0)],ddH out b c p f⟩
def ddE (out:List Nat)(n:Nat):St:=⟨frame 76 [(4,.sl 0 0 n)],[some ⟨3,false,z0_ out⟩]⟩
def ddN:St:=⟨frame 76 [(2,.sl 0 0 0),(3,.c (.bool false))],[some ⟨3,false,[]⟩]⟩
theorem ddA_all (l:List UInt8)(out o2:List Nat)(n p c b:Nat)(f:Bool)(d k c2 p2 q b2:Nat)(hi:(!(l==([]:List UInt8)))=true)(hl:l.length≤100000)(hn:out.length=n)(hnn:(z0_ out).length=n)(hp:p≤100000)(hc:c≤1114112)(hb:b≤100000)(hd:(rdV (rdB b 0 1 0 l)).1=d)(hk2:(rdV (rdB b 0 1 0 l)).2=k)(ho:(rdB b 0 1 0 l).isSome=false)(hd2:d≤2147483647)(hkl:k≤l.length):x1_ Ext0 p_ clDd (z1_ p_ 16 5) (ddS l out n p c b f) (.ret) (ddN):=by
  refine⟨⟨true,(bs [(21,true)]++[(27,⟨.c (.int .i64 d),none⟩),(28,⟨.c (.int .i64 k),none⟩),(29,⟨.c (.bool false),none⟩),(43,⟨.c (.int .i64 (p+d:Nat)),none⟩),(49,⟨.c (.int .i64 (n+1:Nat)),none⟩),(60,⟨.c (.int .i64 (n+1:Nat)),none⟩),(50,⟨.c (.int .i64 q),some []⟩),(51,⟨.c (.int .i64 c2),none⟩),(61,⟨.c (.int .i64 p2),some []⟩)])⟩,_,60,⟨[(2,3)],[2,3],[2]⟩,[(!l==[])=true,
 (((0:Nat):Nat)<((4:Nat))),
 (0:Int)≤↑b,
 (↑b:Int)≤100000,
 ((l.length:Nat)≤((100000:Nat))),
 (((↑(rdV (rdB (↑b:Int).toNat (0:Nat) (1:Nat) (0:Nat) (sb { data:= { toList:=l}}))).fst:Int):Int))=((↑d:Int)),
 (((↑(rdV (rdB (↑b:Int).toNat (0:Nat) (1:Nat) (0:Nat) (sb { data:= { toList:=l}}))).snd:Int):Int))=((↑k:Int)),
 ((rdB (↑b:Int).toNat (0:Nat) (1:Nat) (0:Nat) (sb { data:= { toList:=l}})).isSome)=false],z4_,by decide,Eq.trans (b:=some ((.ret:Exit),⟨frame 76 [(2,(AV.sl 0 0 0)),(3,(AV.c ((Value.bool false))))],[(.some ⟨3,false,[]⟩)]⟩,_)) (by kernel_rfl) (congrArg (fun S:St=>some ((.ret:Exit),S,_)) (by first|rfl|(simp(disch:=omega) only[std,hd,hk2,ho,hnn,Int.toNat_natCast];first|done|rfl))),?_⟩
  all_goals try simp(disch:=omega) only[std,hd,hk2,ho,hnn,Int.toNat_natCast]
  all_goals repeat' apply And.intro
  all_goals first|exact True.intro|omega|with_reducible (first|rfl|assumption)|rfl|exact hi|exact hr|exact hn|exact hnn|exact hd|exact hk2|exact ho
theorem ddL_all (l:List UInt8)(out o2:List Nat)(n p c b:Nat)(f:Bool)(d k c2 p2 q b2:Nat)(hi:(!(l==([]:List UInt8)))=true)(h255:n=255)(hl:l.length≤100000)(hn:out.length=n)(hnn:(z0_ out).length=n)(hp:p≤100000)(hc:c≤1114112)(hb:b≤100000)(hd:(rdV (rdB b 0 1 0 l)).1=d)(hk2:(rdV (rdB b 0 1 0 l)).2=k)(ho:(rdB b 0 1 0 l).isSome=true)(hd2:d≤2147483647)(hkl:k≤l.length):x1_ Ext0 p_ clDd (z1_ p_ 16 5) (ddS l out n p c b f) (.ret) (ddN):=by
  refine⟨⟨true,(bs [(21,true),(35,true)]++[(27,⟨.c (.int .i64 d),none⟩),(28,⟨.c (.int .i64 k),none⟩),(29,⟨.c (.bool true),none⟩),(43,⟨.c (.int .i64 (p+d:Nat)),none⟩),(49,⟨.c (.int .i64 (n+1:Nat)),none⟩),(60,⟨.c (.int .i64 (n+1:Nat)),none⟩),(50,⟨.c (.int .i64 q),some []⟩),(51,⟨.c (.int .i64 c2),none⟩),(61,⟨.c (.int .i64 p2),some []⟩)])⟩,_,60,⟨[(2,3)],[2,3],[2]⟩,[(!l==[])=true,
 (((0:Nat):Nat)<((4:Nat))),
 (0:Int)≤↑b,
 (↑b:Int)≤100000,
 ((l.length:Nat)≤((100000:Nat))),
 (((↑(rdV (rdB (↑b:Int).toNat (0:Nat) (1:Nat) (0:Nat) (sb { data:= { toList:=l}}))).fst:Int):Int))=((↑d:Int)),
 (((↑(rdV (rdB (↑b:Int).toNat (0:Nat) (1:Nat) (0:Nat) (sb { data:= { toList:=l}}))).snd:Int):Int))=((↑k:Int)),
 ((rdB (↑b:Int).toNat (0:Nat) (1:Nat) (0:Nat) (sb { data:= { toList:=l}})).isSome)=true,
 ((↑n:Int)==(255:Int))=true],z4_,by decide,Eq.trans (b:=some ((.ret:Exit),⟨frame 76 [(2,(AV.sl 0 0 0)),(3,(AV.c ((Value.bool false))))],[(.some ⟨3,false,[]⟩)]⟩,_)) (by kernel_rfl) (congrArg (fun S:St=>some ((.ret:Exit),S,_)) (by first|rfl|(simp(disch:=omega) only[std,hd,hk2,ho,hnn,Int.toNat_natCast];first|done|rfl))),?_⟩
  all_goals try simp(disch:=omega) only[std,hd,hk2,ho,hnn,Int.toNat_natCast]
  all_goals repeat' apply And.intro
  all_goals first|exact True.intro|omega|with_reducible (first|rfl|assumption)|rfl|exact hi|exact hr|exact h255|exact hn|exact hnn|exact hd|exact hk2|exact ho
theorem ddB_all (l:List UInt8)(out o2:List Nat)(n p c b:Nat)(f:Bool)(d k c2 p2 q b2:Nat)(hi:(!(l==([]:List UInt8)))=true)(h255:n<255)(hq:i64.wrap (((p+d:Nat):Int).tdiv ((n+1:Nat):Int))=(q:Nat))(hq2:q≤2147583647)(hcq:c+q=c2)(hr:(((p+d:Nat):Int).tmod ((n+1:Nat):Int))=(p2:Nat))(hok:okI (c2:Nat)=false)(hl:l.length≤100000)(hn:out.length=n)(hnn:(z0_ out).length=n)(hp:p≤100000)(hc:c≤1114112)(hb:b≤100000)(hd:(rdV (rdB b 0 1 0 l)).1=d)(hk2:(rdV (rdB b 0 1 0 l)).2=k)(ho:(rdB b 0 1 0 l).isSome=true)(hd2:d≤2147483647)(hkl:k≤l.length):x1_ Ext0 p_ clDd (z1_ p_ 16 5) (ddS l out n p c b f) (.ret) (ddN):=by
  refine⟨⟨true,(bs [(21,true),(35,false),(56,true)]++[(27,⟨.c (.int .i64 d),none⟩),(28,⟨.c (.int .i64 k),none⟩),(29,⟨.c (.bool true),none⟩),(43,⟨.c (.int .i64 (p+d:Nat)),none⟩),(49,⟨.c (.int .i64 (n+1:Nat)),none⟩),(60,⟨.c (.int .i64 (n+1:Nat)),none⟩),(50,⟨.c (.int .i64 q),some []⟩),(51,⟨.c (.int .i64 c2),none⟩),(61,⟨.c (.int .i64 p2),some []⟩)])⟩,_,60,⟨[(2,3)],[2,3],[2]⟩,[(!l==[])=true,
 (((0:Nat):Nat)<((4:Nat))),
 (0:Int)≤↑b,
 (↑b:Int)≤100000,
 ((l.length:Nat)≤((100000:Nat))),
 (((↑(rdV (rdB (↑b:Int).toNat (0:Nat) (1:Nat) (0:Nat) (sb { data:= { toList:=l}}))).fst:Int):Int))=((↑d:Int)),
 (((↑(rdV (rdB (↑b:Int).toNat (0:Nat) (1:Nat) (0:Nat) (sb { data:= { toList:=l}}))).snd:Int):Int))=((↑k:Int)),
 ((rdB (↑b:Int).toNat (0:Nat) (1:Nat) (0:Nat) (sb { data:= { toList:=l}})).isSome)=true,
 ((↑n:Int)==(255:Int))=false,
 (0:Int)≤↑k,
 (↑k:Int)≤↑l.length,
 (↑l.length:Int)≤↑l.length,
 (((0:Nat):Nat)<((2:Nat))),
 (i64.min:Int)≤↑p+↑d,
 (↑p+↑d:Int)≤i64.max,
 (↑p+↑d:Int)=↑(p+d),
 (((0:Nat):Nat)<((3:Nat))),
 (i64.min:Int)≤↑n+1,
 (↑n+1:Int)≤i64.max,
 (↑n+1:Int)=↑(n+1),
 (↑(n+(1:Nat)):Int)≠(0:Int),
 ((i64.wrap ((↑(p+d):Int).tdiv (↑(n+(1:Nat)):Int)):Int))=((↑q:Int)),
 ((([ck ((↑(n+(1:Nat)):Int)≠(0:Int))],AV.c (Value.int IntKind.i64 (i64.wrap ((↑(p+d):Int).tdiv (↑(n+(1:Nat)):Int)))),Cmd.nop).snd.snd.cells:List AV))=([]),
 (i64.min:Int)≤↑c+↑q,
 (↑c+↑q:Int)≤i64.max,
 (↑c+↑q:Int)=↑c2,
 (((2:Nat):Nat)≤((4:Nat))),
 (((0:Nat):Nat)<((3:Nat))),
 (!okI (↑c2:Int))=true],z4_,by decide,Eq.trans (b:=some ((.ret:Exit),⟨frame 76 [(2,(AV.sl 0 0 0)),(3,(AV.c ((Value.bool false))))],[(.some ⟨3,false,[]⟩)]⟩,_)) (by kernel_rfl) (congrArg (fun S:St=>some ((.ret:Exit),S,_)) (by first|rfl|(simp(disch:=omega) only[std,hd,hk2,ho,hnn,Int.toNat_natCast,hok,Bool.not_false];first|done|rfl))),?_⟩
  all_goals try simp(disch:=omega) only[std,hd,hk2,ho,hnn,Int.toNat_natCast,hok,Bool.not_false]
  all_goals repeat' apply And.intro
  all_goals first|exact True.intro|omega|with_reducible (first|rfl|assumption)|exact hq|exact hi|exact hr|exact hcq|exact hok|exact hn|exact hnn|exact hd|exact hk2|exact ho|rfl
theorem ddC_all (l:List UInt8)(out o2:List Nat)(n p c b:Nat)(f:Bool)(d k c2 p2 q b2:Nat)(hi:(!(l==([]:List UInt8)))=true)(h255:n<255)(hq:i64.wrap (((p+d:Nat):Int).tdiv ((n+1:Nat):Int))=(q:Nat))(hq2:q≤2147583647)(hcq:c+q=c2)(hr:(((p+d:Nat):Int).tmod ((n+1:Nat):Int))=(p2:Nat))(hok:okI (c2:Nat)=true)(hpl:p2≤n)(h1:k8_ (z0_ out) p2 (.c (.int .i64 c2))=z0_ o2)(hb2:adp d (n+1) (!f)=b2)(hl:l.length≤100000)(hn:out.length=n)(hnn:(z0_ out).length=n)(hp:p≤100000)(hc:c≤1114112)(hb:b≤100000)(hd:(rdV (rdB b 0 1 0 l)).1=d)(hk2:(rdV (rdB b 0 1 0 l)).2=k)(ho:(rdB b 0 1 0 l).isSome=true)(hd2:d≤2147483647)(hkl:k≤l.length):x1_ Ext0 p_ clDd (z1_ p_ 16 5) (ddS l out n p c b f) (.normal) (ddS (l.drop k) o2 (n+1) (p2+1) c2 b2 true):=by
  refine⟨⟨true,(bs [(21,true),(35,false),(56,false)]++[(27,⟨.c (.int .i64 d),none⟩),(28,⟨.c (.int .i64 k),none⟩),(29,⟨.c (.bool true),none⟩),(43,⟨.c (.int .i64 (p+d:Nat)),none⟩),(49,⟨.c (.int .i64 (n+1:Nat)),none⟩),(60,⟨.c (.int .i64 (n+1:Nat)),none⟩),(50,⟨.c (.int .i64 q),some []⟩),(51,⟨.c (.int .i64 c2),none⟩),(61,⟨.c (.int .i64 p2),some []⟩)])⟩,_,60,⟨[],[0,4,6],[3,1]⟩,[(!l==[])=true,
 (((0:Nat):Nat)<((4:Nat))),
 (0:Int)≤↑b,
 (↑b:Int)≤100000,
 ((l.length:Nat)≤((100000:Nat))),
 (((↑(rdV (rdB (↑b:Int).toNat (0:Nat) (1:Nat) (0:Nat) (sb { data:= { toList:=l}}))).fst:Int):Int))=((↑d:Int)),
 (((↑(rdV (rdB (↑b:Int).toNat (0:Nat) (1:Nat) (0:Nat) (sb { data:= { toList:=l}}))).snd:Int):Int))=((↑k:Int)),
 ((rdB (↑b:Int).toNat (0:Nat) (1:Nat) (0:Nat) (sb { data:= { toList:=l}})).isSome)=true,
 ((↑n:Int)==(255:Int))=false,
 (0:Int)≤↑k,
 (↑k:Int)≤↑l.length,
 (↑l.length:Int)≤↑l.length,
 (((0:Nat):Nat)<((2:Nat))),
 (i64.min:Int)≤↑p+↑d,
 (↑p+↑d:Int)≤i64.max,
 (↑p+↑d:Int)=↑(p+d),
 (((0:Nat):Nat)<((3:Nat))),
 (i64.min:Int)≤↑n+1,
 (↑n+1:Int)≤i64.max,
 (↑n+1:Int)=↑(n+1),
 (↑(n+(1:Nat)):Int)≠(0:Int),
 ((i64.wrap ((↑(p+d):Int).tdiv (↑(n+(1:Nat)):Int)):Int))=((↑q:Int)),
 ((([ck ((↑(n+(1:Nat)):Int)≠(0:Int))],AV.c (Value.int IntKind.i64 (i64.wrap ((↑(p+d):Int).tdiv (↑(n+(1:Nat)):Int)))),Cmd.nop).snd.snd.cells:List AV))=([]),
 (i64.min:Int)≤↑c+↑q,
 (↑c+↑q:Int)≤i64.max,
 (↑c+↑q:Int)=↑c2,
 (((2:Nat):Nat)≤((4:Nat))),
 (((0:Nat):Nat)<((3:Nat))),
 (!okI (↑c2:Int))=false,
 (i64.min:Int)≤↑n+1,
 (↑n+1:Int)≤i64.max,
 (↑n+1:Int)=↑(n+1),
 (↑(n+(1:Nat)):Int)≠(0:Int),
 (((↑(p+d):Int).tmod (↑(n+(1:Nat)):Int):Int))=((↑p2:Int)),
 ((([ck ((↑(n+(1:Nat)):Int)≠(0:Int))],AV.c (Value.int IntKind.i64 ((↑(p+d):Int).tmod (↑(n+(1:Nat)):Int))),Cmd.nop).snd.snd.cells:List AV))=([]),
 (((0:Nat):Nat)<((3:Nat))),
 (0:Int)≤↑p2,
 (↑p2:Int)≤↑n,
 ((n:Nat)≤((255:Nat))),
 (((z0_ out).length:Nat))=(n),
 (0:Int)≤↑d,
 (↑d:Int)≤2147483647,
 (1:Int)≤↑(n+1),
 (↑(n+1):Int)≤1000,
 (0:Int)≤↑b,
 (0:Int)≤↑c2,
 (0:Int)≤↑p,
 (i64.min:Int)≤↑p2+1,
 (↑p2+1:Int)≤i64.max,
 (((3:Nat):Nat)≤((4:Nat)))],z4_,by decide,Eq.trans (b:=some ((.normal:Exit),⟨frame 76 [(0,(AV.c ((str (List.drop k (List.take l.length l)))))),(4,(AV.sl 0 0 (n+(1:Nat)))),(6,(AV.pt 1 0))],[(.some ⟨3,false,(k8_ (z0_ out) p2 (AV.c (Value.int IntKind.i64 (↑c2:Int))))⟩),
 (.some ⟨47,true,[(AV.c ((Value.int .i64 ((↑(adp d (n+(1:Nat)) !f):Int))))),
 (AV.c ((Value.int .i64 ((↑c2:Int))))),
 (AV.c ((Value.int .i64 ((↑p2:Int)+(1:Int))))),
 (AV.c ((Value.bool true)))]⟩)]⟩,_)) (by kernel_rfl) (congrArg (fun S:St=>some ((.normal:Exit),S,_)) (by first|rfl|(simp(disch:=omega) only[std,hd,hk2,ho,hnn,Int.toNat_natCast,hok,Bool.not_true,h1,hb2,f6_];first|done|rfl))),?_⟩
  all_goals try simp(disch:=omega) only[std,hd,hk2,ho,hnn,Int.toNat_natCast,hok,Bool.not_true,h1,hb2,f6_]
  all_goals repeat' apply And.intro
  all_goals first|exact True.intro|omega|with_reducible (first|rfl|assumption)|exact hq|exact hi|exact hr|exact hcq|exact hok|exact h1|exact hb2|exact hn|exact hnn|exact hd|exact hk2|exact ho|rfl
theorem ddZ_all (l:List UInt8)(out o2:List Nat)(n p c b:Nat)(f:Bool)(d k c2 p2 q b2:Nat)(hi:(!(l==([]:List UInt8)))=false)(hl:l.length≤100000)(hn:out.length=n)(hnn:(z0_ out).length=n)(hp:p≤100000)(hc:c≤1114112)(hb:b≤100000)(hd:(rdV (rdB b 0 1 0 l)).1=d)(hk2:(rdV (rdB b 0 1 0 l)).2=k)(ho:(rdB b 0 1 0 l).isSome=false)(hd2:d≤2147483647)(hkl:k≤l.length):x1_ Ext0 p_ clDd (z1_ p_ 16 5) (ddS l out n p c b f) (.exit 0) (ddE out n):=by
  refine⟨⟨true,(bs [(21,false)]++[(27,⟨.c (.int .i64 d),none⟩),(28,⟨.c (.int .i64 k),none⟩),(29,⟨.c (.bool false),none⟩),(43,⟨.c (.int .i64 (p+d:Nat)),none⟩),(49,⟨.c (.int .i64 (n+1:Nat)),none⟩),(60,⟨.c (.int .i64 (n+1:Nat)),none⟩),(50,⟨.c (.int .i64 q),some []⟩),(51,⟨.c (.int .i64 c2),none⟩),(61,⟨.c (.int .i64 p2),some []⟩)])⟩,_,60,⟨[],[4],[0]⟩,[(!l==[])=false],z4_,by decide,Eq.trans (b:=some ((.exit 0:Exit),⟨frame 76 [(4,(AV.sl 0 0 n))],[(.some ⟨3,false,(z0_ out)⟩)]⟩,_)) (by kernel_rfl) (congrArg (fun S:St=>some ((.exit 0:Exit),S,_)) (by first|rfl|(simp(disch:=omega) only[std,hd,hk2,ho,hnn,Int.toNat_natCast];first|done|rfl))),?_⟩
  all_goals try simp(disch:=omega) only[std,hd,hk2,ho,hnn,Int.toNat_natCast]
  all_goals repeat' apply And.intro
  all_goals first|exact True.intro|omega|with_reducible (first|rfl|assumption)|rfl|exact hi|exact hr|exact hn|exact hnn|exact hd|exact hk2|exact ho
def ddX (o:Option (List Nat)):Exit:=if o.isSome=true then .exit 0 else .ret
def ddY (o:Option (List Nat)):St:=if o.isSome=true then ddE (o.getD []) (o.getD []).length else ddN
theorem nd02:[0,2].Nodup:=by decide
theorem rdV_le {b:Nat}{s:List UInt8} :(rdV (rdB b 0 1 0 s)).1≤2147483647∧(rdV (rdB b 0 1 0 s)).2≤s.length:=by
  cases h:rdB b 0 1 0 s with
  |none=>exact⟨Nat.zero_le _,Nat.zero_le _⟩
  |some y=>
   obtain⟨d,k⟩:=y
   obtain⟨r1,r2,r3,r4⟩:=rdV_some h
   rw[←h,r1]
   exact⟨r2,r4⟩
theorem dd_walk (l0:List UInt8)(hl0:l0.length≤100000)(b0 g0:Nat)(x0:Stt)(h2:x0.p≤x0.out.length)(h3:x0.out.length≤255)(h4:x0.c≤1114111)(h5:b0≤100000)(h6:l0.length≤g0){o:Option (List Nat)}(ho:c8_ g0 x0 b0 true l0=o):
    Tri Ext0 p_ (.loop (z1_ p_ 16 5)) (ddS l0 x0.out x0.out.length x0.p x0.c b0 false) (ddX o) (ddY o):=by
  refine n9_ mixed clDd_ok (fun x:List UInt8×Stt×Nat×Bool×Nat=>ddS x.1 x.2.1.out x.2.1.out.length x.2.1.p x.2.1.c x.2.2.1 x.2.2.2.1) (fun x=>x.1.length≤l0.length∧x.2.1.p≤x.2.1.out.length∧x.2.1.out.length≤255∧x.2.1.c≤1114111∧x.2.2.1≤100000∧x.1.length≤x.2.2.2.2∧c8_ x.2.2.2.2 x.2.1 x.2.2.1 (!x.2.2.2.1) x.1=o) (fun x=>x.1.length) (fun x hx=>?_) (l0,x0,b0,false,g0) ⟨Nat.le_refl _,h2,h3,h4,h5,h6,ho⟩
  clear ho h2 h3 h4 h5 h6
  obtain⟨l,x,b,f,g⟩:=x
  obtain⟨h1,h2,h3,h4,h5,h6,h7⟩:=hx
  simp only at h1 h2 h3 h4 h5 h6 h7 ⊢
  have hnl:=y7_ x.out
  have hrd:=rdV_le (b:=b) (s:=l)
  cases l with
  |nil=>
   rw[decT_nil]at h7
   subst h7
   exact .inr ⟨by simp[ddX],ddZ_all [] x.out [] x.out.length x.p x.c b f 0 0 0 0 0 0 rfl (by simp) rfl hnl (by omega) (by omega) h5 rfl rfl rfl (by omega) (Nat.le_refl _)⟩
  |cons ch r=>
   have hi:(!((ch::r)==([]:List UInt8)))=true:=rfl
   obtain⟨g,rfl⟩:∃m,g=m+1:=⟨g-1,by simp only[List.length_cons]at h6;omega⟩
   rw[decT_cons _ _ _ _ (by simp)]at h7
   generalize hL:ch::r=l at*
   have hpos:0<l.length:=by rw[←hL];simp
   cases hr:rdB b 0 1 0 l with
   |none=>
    rw[hr]at h7
    subst h7
    exact .inr ⟨by simp[ddX],ddA_all l x.out [] x.out.length x.p x.c b f 0 0 0 0 0 0 hi (by omega) rfl hnl (by omega) (by omega) h5 (by rw[hr];rfl) (by rw[hr];rfl) (by rw[hr];rfl) (by omega) (by omega)⟩
   |some y=>
    obtain⟨d,k⟩:=y
    rw[hr]at h7
    simp only at h7
    obtain⟨r1,r2,r3,r4⟩:=rdV_some hr
    have e1:(rdV (rdB b 0 1 0 l)).1=d:=by rw[r1]
    have e2:(rdV (rdB b 0 1 0 l)).2=k:=by rw[r1]
    have e3:(rdB b 0 1 0 l).isSome=true:=by rw[hr];rfl
    by_cases h255:x.out.length=255
    ·have hok:okD x d=false:=by unfold okD;rw[decide_eq_false (by omega),Bool.and_false]
     rw[hok,if_neg (by simp)]at h7
     subst h7
     exact .inr ⟨by simp[ddX],ddL_all l x.out [] x.out.length x.p x.c b f d k 0 0 0 0 hi h255 (by omega) rfl hnl (by omega) (by omega) h5 e1 e2 e3 r2 r4⟩
    ·have hq2:=Nat.div_le_self (x.p+d) (x.out.length+1)
     have hp2:=Nat.mod_lt (x.p+d) (show 0<x.out.length+1 by omega)
     have hD:=okI_nat (x.c+(x.p+d)/(x.out.length+1))
     cases hok:okD x d with
     |false=>
      rw[hok,if_neg (by simp)]at h7
      subst h7
      have hI:okI ((x.c+(x.p+d)/(x.out.length+1):Nat):Int)=false:=by
        rw[hD]
        unfold okD at hok
        rw[decide_eq_true (by omega),Bool.and_true]at hok
        exact hok
      exact .inr ⟨by simp[ddX],ddB_all l x.out [] x.out.length x.p x.c b f d k _ _ _ 0 hi (by omega) (tdNat _ (by omega)) (by omega) rfl (tmNat _ _) hI (by omega) rfl hnl (by omega) (by omega) h5 e1 e2 e3 r2 r4⟩
     |true=>
      rw[hok,if_pos rfl]at h7
      have hok2:=hok
      unfold okD at hok2
      rw[Bool.and_eq_true,decide_eq_true_eq]at hok2
      obtain⟨k1,k2⟩:=hok2
      have kc:=okC_le k1
      have hb2:=adp_le (!f) (okD_le hok).1 (n:=x.out.length+1)
      have hlen:=c5_ x d
      have hput:k8_ (z0_ x.out) ((x.p+d)%(x.out.length+1)) (.c (.int .i64 (x.c+(x.p+d)/(x.out.length+1):Nat)))=z0_ (stD x d).out:=by
        unfold k8_
        rw[nats_take,nats_drop]
        show _=z0_ (x.out.take ((x.p+d)%(x.out.length+1))++(x.c+(x.p+d)/(x.out.length+1))::x.out.drop ((x.p+d)%(x.out.length+1)))
        rw[nats_app]
        rfl
      refine .inl ⟨(l.drop k,stD x d,adp d (x.out.length+1) (!f),true,g),⟨by simp only[List.length_drop];omega,by simp only;rw[hlen];show(x.p+d)%(x.out.length+1)+1≤_;omega,by simp only;omega,kc,by simp only;omega,by simp only[List.length_drop];omega,h7⟩,by simp only[List.length_drop];omega,?_⟩
      simp only
      rw[hlen]
      exact ddC_all l x.out (stD x d).out x.out.length x.p x.c b f d k _ _ _ _ hi k2 (tdNat _ (by omega)) (by omega) rfl (tmNat _ _) (hD.trans k1) (by omega) hput rfl (by omega) rfl hnl (by omega) (by omega) h5 e1 e2 e3 r2 r4
theorem decT_le:∀(g:Nat) (x:Stt) (b:Nat) (f:Bool) (s:List UInt8) (l:List Nat),x.out.length≤255→c8_ g x b f s=some l→l.length≤255
  |g,x,b,f,[],l,hx,h=>by
   rw[decT_nil]at h
   cases h
   exact hx
  |0,x,b,f,c::r,l,hx,h=>by
   have:c8_ 0 x b f (c::r)=some x.out∨c8_ 0 x b f (c::r)=none:=by
     first|exact .inr rfl|exact .inl rfl
   rcases this with e|e
   ·rw[e]at h;cases h;exact hx
   ·rw[e]at h;cases h
  |g+1,x,b,f,c::r,l,hx,h=>by
   rw[decT_cons _ _ _ _ (by simp)]at h
   split at h
   ·cases h
   ·split at h
    ·rename_i hok
     have:=(okD_le hok).2.2.1
     exact decT_le g _ _ _ _ l (by rw[c5_];omega) h
    ·cases h
theorem decT_far {g:Nat}{x:Stt}{b:Nat}{f:Bool}{s:List UInt8}(hx:255<x.out.length)(hg:s.length≤g){l:List Nat}(h:c8_ g x b f s=some l):¬l.length≤255:=by
  cases s with
  |nil=>
   rw[decT_nil]at h
   cases h
   omega
  |cons c r=>
   obtain⟨g,rfl⟩:∃m,g=m+1:=⟨g-1,by simp only[List.length_cons]at hg;omega⟩
   rw[decT_cons _ _ _ _ (by simp)]at h
   split at h
   ·cases h
   ·split at h
    ·rename_i hok
     have:=(okD_le hok).2.2.1
     omega
    ·cases h
theorem decP_is (l:List UInt8):m8_ l=if frB l=true then c8_ l.length ⟨frL l,0,128⟩ 72 true (frS l)else none:=by
  have hb:m8_ l=if loB l (r7_ l)=true then(match c8_ l.length ⟨(l.take (r7_ l)).map UInt8.toNat,0,128⟩ 72 true (if 0<r7_ l then l.drop (r7_ l+1)else l)with
      |some l=>if l.length≤255 then some l else none
      |none=>none)else none:=rfl
  have hc:=cutD_le l
  have hlen:((l.take (r7_ l)).map UInt8.toNat).length=r7_ l:=by rw[List.length_map,List.length_take];omega
  rw[hb]
  unfold frL frS frB
  cases h2:loB l (r7_ l)with
  |false=>rfl
  |true=>
   rw[if_pos rfl,Bool.true_and]
   by_cases h255:r7_ l≤255
   ·rw[decide_eq_true h255]
    simp only[if_true]
    split
    ·rename_i o ho
     rw[ho,if_pos (decT_le _ _ _ _ _ _ (by simp only;omega) ho)]
    ·rename_i ho
     rw[ho]
   ·rw[decide_eq_false h255]
    simp only[Bool.false_eq_true,if_false]
    split
    ·rename_i o ho
     exact if_neg (decT_far (by simp only;omega) (by
       split
       ·rw[List.length_drop];omega
       ·exact Nat.le_refl _) ho)
    ·rfl
noncomputable def ddLp (l:List UInt8)(N:List Nat)(e:Exit)(R:St):List (Nat×Lp):=[(5,⟨z1_ p_ 16 5,⟨[],[0,4,6],[0,2]⟩,ddS l N N.length 0 128 72 false,e,R⟩)]
theorem ddm1_all (l:List UInt8)(o2:List Nat)(n:Nat)(hl:l.length≤100000)(hb:frB l=false):∃(h:Hints) (p:List Prop),f7_ (⟨[(0,3)],[0,1],[1]⟩) (z8_ p_ clDd h (y1_ ([])) 60 16 ([.c (str l)]) [])=some (.tu [.sl 0 0 0,.c (.bool false)],[some ⟨3,false,[]⟩],p)∧z7_ p:=by
  refine⟨⟨true,(bs [(18,true)])⟩,[((l.length:Nat)≤((100000:Nat))),
 (!frB l)=true],by kernel_rfl,?_⟩
  all_goals try simp(disch:=omega) only[std,hb,Bool.not_true,Bool.not_false]
  all_goals repeat' apply And.intro
  all_goals first|exact True.intro|omega|with_reducible (first|rfl|assumption)|exact hb|rfl
theorem ddm2_all (l:List UInt8)(o2:List Nat)(n:Nat)(hl:l.length≤100000)(hb:frB l=true):∃(h:Hints) (p:List Prop),f7_ (⟨[],[0,1],[0]⟩) (z8_ p_ clDd h (y1_ (ddLp (frS l) (frL l) .ret ddN)) 60 16 ([.c (str l)]) [])=some (.tu [.sl 0 0 0,.c (.bool false)],[some ⟨3,false,[]⟩],p)∧z7_ p:=by
  refine⟨⟨true,(bs [(18,false)])⟩,[((l.length:Nat)≤((100000:Nat))),
 (!frB l)=false,
 (((4:Nat):Nat)≤((4:Nat))),
 ((z1_ p_ (16:FuncId) (5:Nat):Go.Code))=(z1_ p_ (16:FuncId) (5:Nat)),
 ((ddS (frS l) (frL l) (frL l).length (0:Nat) (128:Nat) (72:Nat) false:St))=(ddS (frS l) (frL l) (frL l).length (0:Nat) (128:Nat) (72:Nat) false)],by kernel_rfl,?_⟩
  all_goals try simp(disch:=omega) only[std,hb,Bool.not_true,Bool.not_false]
  all_goals repeat' apply And.intro
  all_goals first|exact True.intro|omega|with_reducible (first|rfl|assumption)|exact hb|rfl
theorem ddm3_all (l:List UInt8)(o2:List Nat)(n:Nat)(hl:l.length≤100000)(hb:frB l=true):∃(h:Hints) (p:List Prop),f7_ (⟨[],[0,1],[0]⟩) (z8_ p_ clDd h (y1_ (ddLp (frS l) (frL l) (.exit 0) (ddE o2 n))) 60 16 ([.c (str l)]) [])=some (.tu [.sl 0 0 n,.c (.bool true)],[some ⟨3,false,z0_ o2⟩],p)∧z7_ p:=by
  refine⟨⟨true,(bs [(18,false)])⟩,[((l.length:Nat)≤((100000:Nat))),
 (!frB l)=false,
 (((4:Nat):Nat)≤((4:Nat))),
 ((z1_ p_ (16:FuncId) (5:Nat):Go.Code))=(z1_ p_ (16:FuncId) (5:Nat)),
 ((ddS (frS l) (frL l) (frL l).length (0:Nat) (128:Nat) (72:Nat) false:St))=(ddS (frS l) (frL l) (frL l).length (0:Nat) (128:Nat) (72:Nat) false)],by kernel_rfl,?_⟩
  all_goals try simp(disch:=omega) only[std,hb,Bool.not_true,Bool.not_false]
  all_goals repeat' apply And.intro
  all_goals first|exact True.intro|omega|with_reducible (first|rfl|assumption)|exact hb|rfl
theorem pdec_ok:u0_ p_ 16 dec7Spec:=by
  refine hspec_new mixed clDd_ok fun args hp r hp' q hs hq=>?_
  unfold dec7Spec at hs
  split at hs
  ·rename_i s
   obtain⟨⟨⟨l⟩⟩,rfl⟩:∃b:ByteArray,b=s:=⟨s,rfl⟩
   simp only[oi_]at hs
   obtain⟨rfl,rfl,rfl⟩:=hs
   have hl:l.length≤100000:=hq.1
   refine⟨rfl,?_⟩
   simp only[p5_]
   have hP:=decP_is l
   unfold x0_
   cases hb:frB l with
   |false=>
    rw[hb,if_neg (by simp)]at hP
    rw[hP]
    obtain⟨hh,p,e,hp⟩:=ddm1_all l [] 0 hl hb
    exact⟨_,_,_,_,_,(by decide),z4_,e,hp⟩
   |true=>
    rw[hb,if_pos rfl]at hP
    have hS:=frS_len l
    have hL:(frL l).length≤255:=by
      unfold frL
      rw[if_pos hb]
      unfold frB at hb
      rw[Bool.and_eq_true,decide_eq_true_eq]at hb
      rw[List.length_map,List.length_take]
      omega
    have w:=dd_walk (frS l) (by omega) 72 l.length ⟨frL l,0,128⟩ (Nat.zero_le _) hL (by simp) (by omega) hS hP.symm
    cases ho:m8_ l with
    |none=>
     rw[ho]at w
     obtain⟨hh,p,e,hp⟩:=ddm2_all l [] 0 hl hb
     exact⟨_,_,_,_,_,(by decide),x4_ z4_ nd02 w,e,hp⟩
    |some o2=>
     rw[ho]at w
     obtain⟨hh,p,e,hp⟩:=ddm3_all l o2 o2.length hl hb
     exact⟨_,_,_,_,_,(by decide),x4_ z4_ nd02 w,e,hp⟩
  ·simp at hs
end Go.Proofs.YtmjldphagbobpaaDoor
