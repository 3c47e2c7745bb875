import Derived.Test.YtmjldphagbobpaaDoorPnyD
import Derived.Test.YtmjldphagbobpaaDoorLevQ
import Derived.Test.YtmjldphagbobpaaDoorInts
set_option linter.unusedVariables false
set_option linter.unusedSimpArgs false
namespace Go.Proofs.YtmjldphagbobpaaDoor
open IntKind (i64 u8 i32 u32 u64)
open Go.RowKit Pny
def woI (n:Int):Int:=if f3_ n 36≥10 then f3_ n 36-10 else if f3_ n 36≥0 then f3_ n 36+26 else-1
theorem woI_at (c:UInt8):woI ((c.toNat:Nat):Int)=wo c:=rfl
def woSpec:Spec:=byteSpec fun n=> .int .i64 (woI n)
theorem digit_bd (n:Int): -1≤f3_ n 36∧f3_ n 36≤35:=by
  unfold f3_ worthI
  repeat' split
  all_goals omega
def bndSpec:Spec
  | [.c (.int .i64 j),.c (.int .i64 b)]=>some (.c (.int .i64 (bnd j.toNat b.toNat)),[0≤j,j≤200000,0≤b,b≤100000])
  |_=>none
def okI (c:Int):Bool:=decide (0≤c)&&okC c.toNat
def signISpec:Spec
  | [.c (.int .i64 c)]=>some (.c (.bool (okI c)),[])
  |_=>none
theorem okI_eq (c:Int):okI c=(decide (c≥0)&&(decide (c≤1114111)&&(decide (c<55296)||decide (c>57343)))):=by
  rw[Bool.eq_iff_iff]
  unfold okI okC
  simp only[Bool.and_eq_true,Bool.or_eq_true,Bool.not_eq_true',Bool.and_eq_false_iff,decide_eq_true_eq,decide_eq_false_iff_not]
  omega
def rdV (x:Option (Nat×Nat)):Nat×Nat:=x.getD (0,0)
def rdSpec:Spec
  | [.c (.string s),.c (.int .i64 b)]=>some (.tu [.c (.int .i64 (rdV (rdB b.toNat 0 1 0 (sb s))).1),.c (.int .i64 (rdV (rdB b.toNat 0 1 0 (sb s))).2)],[0≤b,b≤100000,(sb s).length≤100000])
  |_=>none
def nbS (l:List UInt8)(b a w j:Nat):St:=⟨frame 43 [(0,.c (str l)),(1,.c (.int .i64 b)),(6,.c (.int .i64 a)),(7,.c (.int .i64 w)),(8,.c (.int .i64 j))],[]⟩
def nbR (v k:Nat):St:=⟨frame 43 [(4,.c (.int .i64 v)),(5,.c (.int .i64 k))],[]⟩
def nbEnd (b:Nat):Nat→Nat→Nat→List UInt8→Exit×St
  |_,_,_,[]=>(.exit 0,⟨frame 43 [],[]⟩)
  |j,w,a,c::r=>
   if wo c<0 then(.ret,nbR 0 0)
   else if a+(wo c).toNat*w>2147483647 then(.ret,nbR 0 0)
   else if(wo c).toNat<bnd j b then(.ret,nbR (a+(wo c).toNat*w) (j+1))
   else nbEnd b (j+1) (w*(36-bnd j b)) (a+(wo c).toNat*w) r
theorem nbEnd_cons (b j w a:Nat)(c:UInt8)(r:List UInt8):nbEnd b j w a (c::r)=if wo c<0 then(.ret,nbR 0 0)
    else if a+(wo c).toNat*w>2147483647 then(.ret,nbR 0 0)
    else if(wo c).toNat<bnd j b then(.ret,nbR (a+(wo c).toNat*w) (j+1))
    else nbEnd b (j+1) (w*(36-bnd j b)) (a+(wo c).toNat*w) r:=rfl
theorem nbEnd_is (b:Nat):∀(s:List UInt8) (j w a:Nat),(nbEnd b j w a s=(.exit 0,⟨frame 43 [],[]⟩)∧rdB b j w a s=none)∨(nbEnd b j w a s=(.ret,nbR 0 0)∧rdB b j w a s=none)∨∃v k,nbEnd b j w a s=(.ret,nbR v (k+j))∧rdB b j w a s=some (v,k)
  | [],j,w,a=> .inl ⟨rfl,rfl⟩
  |c::r,j,w,a=>by
   rw[nbEnd_cons,rdB_cons]
   split
   ·exact .inr (.inl ⟨rfl,rfl⟩)
   ·split
    ·exact .inr (.inl ⟨rfl,rfl⟩)
    ·split
     ·exact .inr (.inr ⟨_,1,by rw[Nat.add_comm 1 j],rfl⟩)
     ·rcases nbEnd_is b r (j+1) (w*(36-bnd j b)) (a+(wo c).toNat*w)with⟨e1,e2⟩|⟨e1,e2⟩|⟨v,k,e1,e2⟩
      ·rw[e1,e2];exact .inl ⟨rfl,rfl⟩
      ·rw[e1,e2];exact .inr (.inl ⟨rfl,rfl⟩)
      ·rw[e1,e2];exact .inr (.inr ⟨v,k+1,by rw[show k+(j+1)=k+1+j by omega],rfl⟩)
theorem nbEnd_exit (b:Nat)(s:List UInt8)(j w a:Nat):(nbEnd b j w a s).1≠ .normal:=by
  rcases nbEnd_is b s j w a with⟨e,_⟩|⟨e,_⟩|⟨v,k,e,_⟩<;>rw[e]<;>simp
theorem f6_ (i:Nat):((i:Int)+1).toNat=i+1:=by omega
theorem tdNat {m:Nat}(n:Nat)(h:m≤9223372036854775807):i64.wrap ((m:Int).tdiv (n:Int))=((m/n:Nat):Int):=by
  rw[tdN (by omega),←Int.natCast_ediv]
  have:=Nat.div_le_self m n
  generalize m/n=q at*
  exact i64_wrap (by omega) (by omega)
theorem tmNat (m n:Nat):(m:Int).tmod (n:Int)=((m%n:Nat):Int):=by
  rw[tmN (by omega),←Int.natCast_emod]
def k1_:List UInt8:=[97,98,99,100,101,102,103,104,105,106,107,108,109,110,111,112,113,114,115,116,117,118,119,120,121,122,48,49,50,51,52,53,54,55,56,57]
theorem digL_at {d:Nat}(h:d<36):List.drop d (List.take (d+1) k1_)=[chr d]:=by
  have k:∀y:Fin 36,List.drop y.val (List.take (y.val+1) k1_)=[chr y.val]:=by decide+kernel
  exact k ⟨d,h⟩
def lbS (d b:Nat)(out:List UInt8)(j:Nat):St:=⟨frame 49 [(0,.c (.int .i64 d)),(1,.c (.int .i64 b)),(5,.c (str k1_)),(6,.c (str out)),(7,.c (.int .i64 j))],[]⟩
def lbR (z:List UInt8):St:=⟨frame 49 [(4,.c (str z))],[]⟩
def leSpec:Spec
  | [.c (.int .i64 d),.c (.int .i64 b)]=>some (.c (str (leB b.toNat 40 0 d.toNat)),[0≤d,d≤2147483647,0≤b,b≤100000])
  |_=>none
def adS (e k:Nat):St:=⟨frame 32 [(7,.c (.int .i64 e)),(8,.c (.int .i64 k))],[]⟩
def n4_:Nat→Nat→Nat→Nat×Nat
  |0,e,k=>(e,k)
  |f+1,e,k=>if e>455 then n4_ f (e/35) (k+36)else(e,k)
theorem adEnd_is:∀(f e k:Nat),adG f e k=(n4_ f e k).2+36*(n4_ f e k).1/((n4_ f e k).1+38)∧(n4_ f e k).1≤e∧(n4_ f e k).2≤k+36*f
  |0,e,k=>⟨rfl,Nat.le_refl _,by unfold n4_;omega⟩
  |f+1,e,k=>by
   unfold adG n4_
   split
   ·obtain⟨h1,h2,h3⟩:=adEnd_is f (e/35) (k+36)
    exact⟨h1,by omega,by omega⟩
   ·exact⟨rfl,Nat.le_refl _,by simp only;omega⟩
def adSpec:Spec
  | [.c (.int .i64 d),.c (.int .i64 n),.c (.bool f)]=>some (.c (.int .i64 (adp d.toNat n.toNat f)),[0≤d,d≤2147483647,1≤n,n≤1000])
  |_=>none
theorem adp_eq (d n:Nat)(f:Bool):adp d n f=(n4_ 20 (adE d n f) 0).2+36*(n4_ 20 (adE d n f) 0).1/((n4_ 20 (adE d n f) 0).1+38):=(adEnd_is 20 _ 0).1
end Go.Proofs.YtmjldphagbobpaaDoor
namespace Go.Proofs.YtmjldphagbobpaaDoor
open IntKind (i64 u8 i32 u32 u64)
open Go.RowKit Pny
def z0_ (L:List Nat):List AV:=L.map fun n=> .c (.int .i64 (n:Nat))
def z5_ (l:List AV):List Nat:=l.map fun x=>match x with
  | .c (.int .i64 n)=>n.toNat
  |_=>0
theorem y7_ (L:List Nat):(z0_ L).length=L.length:=by simp[z0_]
theorem w9_ (L:List Nat):z5_ (z0_ L)=L:=by
  unfold z5_ z0_
  rw[List.map_map]
  conv=>rhs;rw[←List.map_id L]
  apply List.map_congr_left
  intro n _
  rfl
theorem h7_ (L:List Nat)(i:Nat)(h:i<L.length):((z0_ L).drop i).headD .any= .c (.int .i64 (L.getD i 0:Nat)):=by
  unfold z0_
  rw[←List.map_drop,List.drop_eq_getElem_cons h]
  simp[List.getD,h]
def rlS (L:List Nat)(c m i:Nat):St:=⟨frame 26 [(0,.fs 1 L.length (z0_ L)),(1,.c (.int .i64 c)),(5,.c (.int .i64 m)),(6,.c (.int .i64 i))],[]⟩
theorem least_snoc (l:List Nat)(c i:Nat)(h:i<l.length):q1_ (l.take (i+1)) c=if c≤l.getD i 0 then min (q1_ (l.take i) c) (l.getD i 0)else q1_ (l.take i) c:=by
  have e:l.take (i+1)=l.take i++[l.getD i 0]:=by
    rw[List.take_succ_eq_append_getElem h]
    simp[List.getD,h]
  rw[e]
  unfold q1_
  rw[List.foldl_append]
  rfl
def leastSpec:Spec
  | [.fs s n l,.c (.int .i64 c)]=>some (.c (.int .i64 (q1_ (z5_ l) c.toNat)),[s=1,l=z0_ (z5_ l),n=(z5_ l).length,n≤1000,0≤c])
  |_=>none
end Go.Proofs.YtmjldphagbobpaaDoor
namespace Go.Proofs.YtmjldphagbobpaaDoor
open IntKind (i64 u8 i32 u32 u64)
open Go.RowKit Pny
theorem nats_app (a b:List Nat):z0_ (a++b)=z0_ a++z0_ b:=by simp[z0_]
theorem nats_take (a:List Nat)(n:Nat):(z0_ a).take n=z0_ (a.take n):=by simp[z0_,List.map_take]
theorem nats_drop (a:List Nat)(n:Nat):(z0_ a).drop n=z0_ (a.drop n):=by simp[z0_,List.map_drop]
def dcA (l:List UInt8)(cut i:Nat):St:=⟨frame 111 [(0,.c (str l)),(4,.c (.slice none 0 0)),(5,.c (.int .i64 cut)),(6,.c (.int .i64 i))],[]⟩
def dcB (l:List UInt8)(cut:Nat):St:=⟨frame 111 [(0,.c (str l)),(4,.c (.slice none 0 0)),(5,.c (.int .i64 cut))],[]⟩
theorem cutG_cons (c:UInt8)(r:List UInt8)(i cur:Nat):c9_ (c::r) i cur=c9_ r (i+1) (if c=45∧1≤i then i else cur):=rfl
theorem cutG_one (l:List UInt8):c9_ (l.drop 1) 1 0=r7_ l:=by
  cases l with
  |nil=>rfl
  |cons c r=>
   unfold r7_
   rw[cutG_cons,if_neg (by omega)]
   rfl
def dcC (l:List UInt8)(cut i:Nat):St:=⟨frame 111 [(0,.c (str l)),(4,.sl 0 0 i),(5,.c (.int .i64 cut)),(7,.c (.int .i64 i))],[some ⟨3,false,z0_ ((l.take i).map UInt8.toNat)⟩]⟩
def dcD (l:List UInt8)(cut:Nat)(out:List Nat):St:=⟨frame 111 [(0,.c (str l)),(4,.sl 0 0 out.length),(5,.c (.int .i64 cut))],[some ⟨3,false,z0_ out⟩]⟩
def dcN:St:=⟨frame 111 [(2,.sl 0 0 0),(3,.c (.bool false))],[some ⟨3,false,[]⟩]⟩
theorem take_cells (l:List UInt8)(i:Nat)(h:i<l.length):List.take i (z0_ ((l.take i).map UInt8.toNat))++[.c (.int .i64 ((l.getD i 0).toNat:Nat))]=z0_ ((l.take (i+1)).map UInt8.toNat):=by
  rw[v9_ l i 0 h,List.map_append,nats_app,List.take_of_length_le (by simp[z0_,List.length_take];omega)]
  rfl
def loB (l:List UInt8)(cut:Nat):Bool:=(l.take cut).all fun c=>decide (c.toNat<128)
theorem all_at {l:List UInt8}{cut i:Nat}(h:loB l cut=true)(hi:i<cut)(hl:cut≤l.length):(l.getD i 0).toNat<128:=by
  have:=List.all_eq_true.1 h (l.getD i 0) (by
    have e:(l.take cut)[i]'(by rw[List.length_take];omega)=l.getD i 0:=by simp[List.getD,show i<l.length by omega]
    rw[←e]
    exact List.getElem_mem _)
  simpa using this
def dcS (l:List UInt8)(cut:Nat)(out:List Nat)(p c b:Nat)(f:Bool):St:=⟨frame 111 [(0,.c (str l)),(4,.sl 0 0 out.length),(5,.c (.int .i64 cut)),(8,.c (.int .i64 p)),(9,.c (.int .i64 c)),(10,.c (.int .i64 b)),(11,.c (.bool f))],[some ⟨3,false,z0_ out⟩]⟩
def dcE (out:List Nat):St:=⟨frame 111 [(4,.sl 0 0 out.length)],[some ⟨3,false,z0_ out⟩]⟩
theorem notb1 {b:Bool}(h:(!b)=false):b=true:=by cases b<;>simp_all
theorem put_cells1 (out:List Nat)(p c:Nat)(h:(z0_ out).length=p):(z0_ out).take p++[.c (.int .i64 (c:Nat))]=z0_ (out++[c]):=by
  rw[List.take_of_length_le (by omega),nats_app];rfl
theorem put_cells (out:List Nat)(p c:Nat)(h:p≤out.length):(z0_ (out.take p++[c])).take (p+1)++((z0_ out).drop p).take (out.length-p)=z0_ (out.take p++c::out.drop p):=by
  have e1:(z0_ (out.take p++[c])).take (p+1)=z0_ (out.take p++[c]):=List.take_of_length_le (by rw[y7_,List.length_append,List.length_take,List.length_singleton];omega)
  have e2:((z0_ out).drop p).take (out.length-p)=z0_ (out.drop p):=by rw[nats_drop];exact List.take_of_length_le (by rw[y7_,List.length_drop];exact Nat.le_refl _)
  rw[e1,e2,←nats_app,List.append_assoc]
  rfl
theorem okI_nat (c:Nat):okI ((c:Nat):Int)=okC c:=by
  unfold okI
  rw[Int.toNat_natCast,decide_eq_true (Int.natCast_nonneg c),Bool.true_and]
theorem rdV_some {b:Nat}{s:List UInt8}{d k:Nat}(h:rdB b 0 1 0 s=some (d,k)):rdV (rdB b 0 1 0 s)=(d,k)∧d≤2147483647∧1≤k∧k≤s.length:=by
  obtain⟨e,h1,h2,h3,_,h5⟩:=le_rd b s s.length 0 1 0 d k (Nat.le_refl _) h
  have:=h5 (Nat.le_refl _)
  exact⟨by rw[h];rfl,by omega,h2,h3⟩
def dcX (o:Option (List Nat)):Exit:=if o.isSome=true then .exit 4 else .ret
def dcY (o:Option (List Nat)):St:=if o.isSome=true then dcE (o.getD [])else dcN
theorem decT_nil (g:Nat)(x:Stt)(b:Nat)(f:Bool):c8_ g x b f []=some x.out:=by cases g<;>rfl
def x0_ (s:List UInt8):List Nat:=(m8_ s).getD []
theorem cutD_le (l:List UInt8):r7_ l=0∨r7_ l<l.length:=by
  rcases cutG_spec l 0 0 with h|⟨j,h1,h2,_,_⟩
  ·exact .inl h
  ·unfold r7_;exact .inr (by omega)
def dec7Spec:HSpec
  | [.c (.string s)],[]=>some (.tu [.sl 0 0 (x0_ (sb s)).length,.c (.bool (m8_ (sb s)).isSome)],[some ⟨3,false,z0_ (x0_ (sb s))⟩],[(sb s).length≤100000])
  |_,_=>none
theorem nd0:[0].Nodup:=by decide
end Go.Proofs.YtmjldphagbobpaaDoor
namespace Go.Proofs.YtmjldphagbobpaaDoor
open IntKind (i64 u8 i32 u32 u64)
open Go.RowKit Pny
def wrB:List Nat→Nat→Nat→Bool→Nat×Bool
  | [],_,b,f=>(b,f)
  |d::r,n,b,f=>wrB r (n+1) (adp d (n+1) f) false
theorem wrT_app:∀(A B:List Nat) (n b:Nat) (f:Bool),wrT (A++B) n b f=wrT A n b f++wrT B (n+A.length) (wrB A n b f).1 (wrB A n b f).2
  | [],B,n,b,f=>rfl
  |d::A,B,n,b,f=>by
   show leB b 40 0 d++wrT (A++B) (n+1) (adp d (n+1) f) false=(leB b 40 0 d++wrT A (n+1) (adp d (n+1) f) false)++wrT B (n+(A.length+1)) (wrB A (n+1) (adp d (n+1) f) false).1 (wrB A (n+1) (adp d (n+1) f) false).2
   rw[wrT_app A B (n+1),List.append_assoc,show n+1+A.length=n+(A.length+1)by omega]
theorem adp_any (d n:Nat)(f:Bool):adp d n f≤1000:=by
  obtain⟨h1,h2,h3⟩:=adEnd_is 20 (adE d n f) 0
  rw[adp_eq]
  have:=Nat.div_le_of_le_mul (m:=36*(n4_ 20 (adE d n f) 0).1) (k:=(n4_ 20 (adE d n f) 0).1+38) (n:=36) (by omega)
  omega
theorem leB_le (b:Nat):∀(f j d:Nat),(leB b f j d).length≤f
  |0,j,d=>by simp[leB]
  |f+1,j,d=>by
   rw[m4_]
   split
   ·simp
   ·have:=leB_le b f (j+1) ((d-bnd j b)/(36-bnd j b))
    simp only[List.length_cons];omega
structure Wst where
  s:List UInt8
  n:Nat
  b:Nat
  f:Bool
  d:Nat
def scS (c z:Nat)(x:Wst):Wst:=if z<c then⟨x.s,x.n,x.b,x.f,x.d+1⟩else if z=c then⟨x.s++leB x.b 40 0 x.d,x.n+1,adp x.d (x.n+1) x.f,false,0⟩else x
def scT (c:Nat):List Nat→Wst→Wst
  | [],x=>x
  |z::r,x=>scT c r (scS c z x)
theorem scT_is (c:Nat):∀(r:List Nat) (x:Wst),scT c r x=⟨x.s++wrT (t9_ c r x.n x.d).1 x.n x.b x.f,(t9_ c r x.n x.d).2.1,(wrB (t9_ c r x.n x.d).1 x.n x.b x.f).1,(wrB (t9_ c r x.n x.d).1 x.n x.b x.f).2,(t9_ c r x.n x.d).2.2⟩∧(t9_ c r x.n x.d).2.1=x.n+(t9_ c r x.n x.d).1.length
  | [],x=>⟨by show x=_;simp[t9_,wrT,wrB],by simp[t9_]⟩
  |z::r,x=>by
   unfold scT scS t9_
   split
   ·exact scT_is c r _
   ·split
    ·obtain⟨h1,h2⟩:=scT_is c r ⟨x.s++leB x.b 40 0 x.d,x.n+1,adp x.d (x.n+1) x.f,false,0⟩
     refine⟨?_,?_⟩
     ·rw[h1]
      simp only[Wst.mk.injEq]
      refine⟨?_,trivial,rfl,rfl,trivial⟩
      rw[List.append_assoc];rfl
     ·simp only[List.length_cons]at h2 ⊢
      omega
    ·exact scT_is c r x
theorem scT_snoc (c:Nat):∀(a:List Nat) (z:Nat) (x:Wst),scT c (a++[z]) x=scS c z (scT c a x)
  | [],z,x=>rfl
  |y::a,z,x=>scT_snoc c a z (scS c y x)
structure Bd (x:Wst) (i:Nat) (n0 d0:Nat):Prop where
  hn:x.n≤n0+i
  hd:x.d≤d0+i
  hb:x.b≤1000
  hs:x.s.length≤300+40*x.n
theorem scS_bd {c z i n0 d0:Nat}{x:Wst}(h:Bd x i n0 d0)(hd0:d0+i≤300000000):Bd (scS c z x) (i+1) n0 d0:=by
  obtain⟨h1,h2,h3,h4⟩:=h
  unfold scS
  split
  ·exact⟨by simp only;omega,by simp only;omega,h3,h4⟩
  ·split
   ·have:=leB_le x.b 40 0 x.d
    exact⟨by simp only;omega,by simp only;omega,adp_any _ _ _,by simp only[List.length_append];omega⟩
   ·exact⟨by omega,by omega,h3,h4⟩
theorem scT_bd {c n0 d0:Nat}{x:Wst} :∀(a:List Nat) (k:Nat),Bd x k n0 d0→d0+(k+a.length)≤300000000→Bd (scT c a x) (k+a.length) n0 d0
  | [],k,h,_=>h
  |z::a,k,h,hd=>by
   simp only[List.length_cons]at hd ⊢
   have h2:=scS_bd (c:=c) (z:=z) h (by omega)
   have:=scT_bd (x:=scS c z x) (c:=c) a (k+1) h2 (by omega)
   rw[show k+(a.length+1)=k+1+a.length by omega]
   exact this
def en3 (N:List Nat)(c:Nat)(x:Wst)(i:Nat):St:=⟨frame 100 [(0,.fs 1 N.length (z0_ N)),(4,.c (str x.s)),(5,.c (.int .i64 x.n)),(7,.c (.int .i64 x.b)),(8,.c (.int .i64 c)),(9,.c (.int .i64 x.d)),(10,.c (.bool x.f)),(12,.c (.int .i64 i))],[]⟩
def en2 (N:List Nat)(c:Nat)(x:Wst):St:=⟨frame 100 [(0,.fs 1 N.length (z0_ N)),(4,.c (str x.s)),(5,.c (.int .i64 x.n)),(7,.c (.int .i64 x.b)),(8,.c (.int .i64 c)),(9,.c (.int .i64 x.d)),(10,.c (.bool x.f))],[]⟩
def enE (s:List UInt8):St:=⟨frame 100 [(4,.c (str s))],[]⟩
theorem okC_le {c:Nat}(h:okC c=true):c≤1114111:=by
  unfold okC at h
  rw[Bool.and_eq_true,decide_eq_true_eq]at h
  exact h.1
theorem filter_same {N:List Nat}{c m:Nat}(hcm:c≤m)(h:∀x∈N,c≤x→m≤x):N.filter (fun z=>decide (z<c))=N.filter (fun z=>decide (z<m)):=by
  apply List.filter_congr
  intro x hx
  rw[decide_eq_decide]
  constructor
  ·omega
  ·intro h1
   apply Classical.byContradiction
   intro h2
   have:=h x hx (by omega)
   omega
theorem scan_len (c:Nat):∀(r:List Nat) (n d:Nat),(t9_ c r n d).2.1=n+(r.filter (fun z=>decide (z=c))).length
  | [],n,d=>rfl
  |z::r,n,d=>by
   unfold t9_
   rw[List.filter_cons]
   split
   ·rw[scan_len c r,if_neg (by simp;omega)]
   ·split
    ·rename_i h
     show(t9_ c r (n+1) 0).2.1=_
     rw[scan_len c r,if_pos (by simpa using h),List.length_cons];omega
    ·rename_i h
     rw[scan_len c r,if_neg (by simpa using h)]
theorem filter_step (N:List Nat)(m:Nat):(N.filter (fun z=>decide (z<m+1))).length=(N.filter (fun z=>decide (z<m))).length+(N.filter (fun z=>decide (z=m))).length:=by
  induction N with
  |nil=>rfl
  |cons z r ih=>
   simp only[List.filter_cons]
   by_cases h1:z<m
   ·rw[if_pos (by simp;omega),if_pos (by simpa using h1),if_neg (by simp;omega)]
    simp only[List.length_cons];omega
   ·by_cases h2:z=m
    ·rw[if_pos (by simp;omega),if_neg (by simpa using h1),if_pos (by simpa using h2)]
     simp only[List.length_cons];omega
    ·rw[if_neg (by simp;omega),if_neg (by simpa using h1),if_neg (by simpa using h2)]
     exact ih
theorem encE_succ (l:List Nat)(f c n d:Nat):encE l (f+1) c n d=if n<l.length then
      (t9_ (q1_ l c) l n (d+(q1_ l c-c)*(n+1))).1++encE l f (q1_ l c+1) (t9_ (q1_ l c) l n (d+(q1_ l c-c)*(n+1))).2.1 ((t9_ (q1_ l c) l n (d+(q1_ l c-c)*(n+1))).2.2+1)
    else []:=rfl
structure EoI (N:List Nat) (T:List UInt8) (c:Nat) (x:Wst) (g:Nat):Prop where
  he:x.s++wrT (encE N g c x.n x.d) x.n x.b x.f=T
  hn:x.n=(N.filter (fun z=>decide (z<c))).length
  c1:128≤c
  c2:c≤1114112
  hd:x.d≤256*(c-128)
  hb:x.b≤1000
  hs:x.s.length≤300+40*x.n
  hg:N.length<x.n+g
def en1 (C:List AV)(k:Nat)(s:List UInt8)(n i:Nat):St:=⟨frame 100 [(0,.fs 1 k C),(4,.c (str s)),(5,.c (.int .i64 n)),(6,.c (.int .i64 i))],[]⟩
def en0 (C:List AV)(k:Nat)(s:List UInt8)(n:Nat):St:=⟨frame 100 [(0,.fs 1 k C),(4,.c (str s)),(5,.c (.int .i64 n))],[]⟩
def enN:St:=⟨frame 100 [(2,.c (str [])),(3,.c (.bool false))],[]⟩
def w7_ (L:List Int):List Nat:=L.map Int.toNat
theorem okI_ge {z:Int}(h:okI z=true):0≤z:=by
  unfold okI at h
  rw[Bool.and_eq_true,decide_eq_true_eq]at h
  exact h.1
theorem okI_toNat {z:Int}(h:okI z=true):okC z.toNat=true:=by
  unfold okI at h
  rw[Bool.and_eq_true]at h
  exact h.2
theorem rowN_nats {L:List Int}(h:L.all okI=true):z2_ L=z0_ (w7_ L):=by
  unfold z2_ z0_ w7_
  rw[List.map_map]
  apply List.map_congr_left
  intro z hz
  have:=okI_ge (List.all_eq_true.1 h z hz)
  show _=AV.c (.int .i64 ((z.toNat:Nat):Int))
  rw[Int.toNat_of_nonneg this]
theorem natL_ok {L:List Int}(h:L.all okI=true):∀x∈w7_ L,okC x=true:=by
  intro x hx
  obtain⟨z,hz,rfl⟩:=List.mem_map.1 hx
  exact okI_toNat (List.all_eq_true.1 h z hz)
def fsB (L:List Int):List UInt8:=byt (bas (w7_ L))
theorem fsB_snoc (L:List Int)(i:Nat)(h:i<L.length)(hz:0≤L.getD i 0):fsB (L.take (i+1))=if L.getD i 0<128 then fsB (L.take i)++[UInt8.ofNat (L.getD i 0).toNat]else fsB (L.take i):=by
  unfold fsB w7_ bas byt
  rw[v9_ L i 0 h,List.map_append,List.filter_append,List.map_append]
  generalize L.getD i 0=z at*
  split
  ·rename_i hlt
   simp only[List.map_cons,List.map_nil,List.filter_cons,List.filter_nil]
   rw[if_pos (by simp;omega)]
   rfl
  ·rename_i hlt
   simp only[List.map_cons,List.map_nil,List.filter_cons,List.filter_nil]
   rw[if_neg (by simp;omega)]
   simp
theorem fsB_len (L:List Int)(i:Nat):(fsB (L.take i)).length≤i:=by
  unfold fsB w7_ bas byt
  rw[List.length_map]
  have h1:=List.length_filter_le (fun z:Nat=>decide (z<128)) ((L.take i).map Int.toNat)
  rw[List.length_map,List.length_take]at h1
  omega
def mayI (L:List Int):Bool:=decide (L.length≤255)&&L.all okI
def a5_ (L:List Int):List UInt8:=if mayI L=true then p4_ (w7_ L)else []
def enc7Spec:Spec
  | [.fs s n l]=>some (.tu [.c (str (a5_ (unI l))),.c (.bool (mayI (unI l)))],[s=1,l=z2_ (unI l),n=(unI l).length])
  |_=>none
end Go.Proofs.YtmjldphagbobpaaDoor
