import Derived.Test.YtmjldphagbobpaaDoorSpl
import Derived.Test.YtmjldphagbobpaaDoorBldB
set_option linter.unusedVariables false
set_option linter.unusedSimpArgs false
namespace Go.Proofs.YtmjldphagbobpaaDoor
open IntKind (i64 u8 i32 u32 u64)
open _root_.Go.Proofs.Tryd renaming prog→p_
open Go.RowKit
def jnSpec:Spec
  | [.fs s n l,.c (.string p)]=>some (.c (str (jnC ((sb p).headD 0) (j9_ l))),[s=1,l=u2_ (j9_ l),n=(j9_ l).length,sb p=[(sb p).headD 0],t7_ (j9_ l)≤1000000000,n≤1000000000])
  |_=>none
def jnS (C:List AV)(k:UInt8)(n m i:Nat):St:=⟨frame 75 [(0,.fs 1 n C),(1,.c (str [k])),(5,.c (.int .i64 m)),(39,.fs 1 n C),(40,.c (.int .i64 n)),(41,.c (.int .i64 i))],[]⟩
def jnE (C:List AV)(k:UInt8)(n m:Nat):St:=⟨frame 75 [(0,.fs 1 n C),(1,.c (str [k])),(5,.c (.int .i64 m))],[]⟩
theorem jnaA_all (C:List AV)(k:UInt8)(n m i:Nat)(t:List UInt8)(hi:i<n)(hz:y0_ ((C.drop i).headD .any) (.c (str t)))(hC:C.length=n)(hn:n≤1000000000)(hm:m≤3000000000)(ht:t.length≤1000000000):x1_ Ext0 p_ cl0 (z1_ p_ 25 12) (jnS C k n m i) (.normal) (jnS C k n (m+t.length) (i+1)):=by
  refine⟨⟨true,(bs [(42,true),(49,false)]++[(44,⟨.c (str t),none⟩),(54,⟨.c (.int .i64 (m+t.length:Nat)),none⟩)])⟩,_,60,⟨[],[0,1,5,39,40,41],[]⟩,[decide ((↑i:Int)<↑n)=true,
 (0:Int)≤↑i,
 (↑i:Int)<↑n,
 (((0:Nat):Nat)<((List.drop i C).length)),
 y0_ ((List.drop i C).headD AV.any) ((AV.c ((str (t))))),
 (i64.min:Int)≤9223372036854775807-↑m,
 (9223372036854775807-↑m:Int)≤i64.max,
 decide ((↑t.length:Int)>9223372036854775807-↑m)=false,
 (i64.min:Int)≤↑m+↑t.length,
 (↑m+↑t.length:Int)≤i64.max,
 (↑m+↑t.length:Int)=↑(m+t.length),
 (i64.min:Int)≤↑i+1,
 (↑i+1:Int)≤i64.max],z4_,by decide,by kernel_rfl,?_⟩
  all_goals try simp(disch:=omega) only[std,List.length_drop,hC]
  all_goals repeat' apply And.intro
  all_goals first|exact True.intro|omega|with_reducible (first|rfl|assumption)|exact hz|exact hC|rfl
theorem jnaZ_all (C:List AV)(k:UInt8)(n m i:Nat)(t:List UInt8)(hi:i=n)(hC:C.length=n)(hn:n≤1000000000)(hm:m≤3000000000)(ht:t.length≤1000000000):x1_ Ext0 p_ cl0 (z1_ p_ 25 12) (jnS C k n m i) (.exit 1) (jnE C k n m):=by
  refine⟨⟨true,(bs [(42,false)])⟩,_,60,⟨[],[0,1,5],[]⟩,[decide ((↑i:Int)<↑n)=false],z4_,by decide,by kernel_rfl,?_⟩
  all_goals try simp(disch:=omega) only[std,List.length_drop,hC]
  all_goals repeat' apply And.intro
  all_goals first|exact True.intro|omega|with_reducible (first|rfl|assumption)|exact hz|exact hi|exact hC|rfl
theorem sumL_take (L:List (List UInt8))(i:Nat)(h:i<L.length):t7_ (L.take (i+1))=t7_ (L.take i)+(L.getD i []).length:=by
  rw[v9_ L i [] h,sumL_app]
  simp[t7_]
theorem sumL_le (L:List (List UInt8))(i:Nat):t7_ (L.take i)≤t7_ L:=by
  have:=sumL_app (L.take i) (L.drop i)
  rw[List.take_append_drop]at this
  omega
theorem sumL_mem {L:List (List UInt8)}{t:List UInt8}(h:t∈L):t.length≤t7_ L:=by
  induction L with
  |nil=>cases h
  |cons x r ih=>
   rcases List.mem_cons.1 h with rfl|h
   ·simp[t7_]
   ·have:=ih h;simp only[t7_];omega
theorem jna_walk (L:List (List UInt8))(k:UInt8)(m:Nat)(hn:L.length≤1000000000)(hs:t7_ L≤1000000000)(hm:m≤1000000000):Tri Ext0 p_ (.loop (z1_ p_ 25 12)) (jnS (u2_ L) k L.length m 0) (.exit 1) (jnE (u2_ L) k L.length (m+t7_ L)):=by
  have w:=d6_ mixed w6_ (b:=z1_ p_ 25 12) (fun i=>jnS (u2_ L) k L.length (m+t7_ (L.take i)) i) L.length (e:= .exit 1) (R:=jnE (u2_ L) k L.length (m+t7_ L)) (by simp) (fun i hi=>?_) ?_ 0 (Nat.zero_le _)
  ·exact w
  ·have h1:=sumL_take L i hi
   have h2:=sumL_le L (i+1)
   rw[h1,←Nat.add_assoc]
   exact jnaA_all (u2_ L) k L.length (m+t7_ (L.take i)) i (L.getD i []) hi (by rw[strs_at L i hi];exact u3_ _) (o4_ L) hn (by omega) (by omega)
  ·rw[List.take_length]
   exact jnaZ_all (u2_ L) k L.length (m+t7_ L) L.length [] rfl (o4_ L) hn (by omega) (by simp)
def bldWn (n:Nat)(s:List UInt8):Heap:=[some ⟨56,true,[.pt 0 0,.sl 1 0 n]⟩,some ⟨5,false,z6_ s⟩]
def bldW (s:List UInt8):Heap:=bldWn s.length s
def jwS (C:List AV)(k:UInt8)(n i:Nat)(h:Heap):St:=⟨frame 75 [(1,.c (str [k])),(8,.pt 0 0),(63,.fs 1 n C),(64,.c (.int .i64 n)),(65,.c (.int .i64 i))],h⟩
def jwE (h:Heap):St:=⟨frame 75 [(8,.pt 0 0)],h⟩
noncomputable def clJw:CallT:=p3_ p_ (r4_ []) (m0_ [(34,groSpec),(38,wsSpec),(37,bstSpec)]) 500 8
theorem clJw_ok:x7_ p_ clJw:=s3_ mixed v2_ (w5_ gro_ok (w5_ ws_ok (w5_ bst_ok s8_))) 500 8
theorem jnwA_all (C:List AV)(k:UInt8)(n i:Nat)(s t:List UInt8)(hi:i<n)(hz:y0_ ((C.drop i).headD .any) (.c (str t)))(hb:List.take (s.length+1) (List.take s.length (z6_ s)++z6_ [k])++z6_ t=z6_ (s++k::t))(hb2:(z6_ s).length=s.length)(hb3:(List.take s.length (z6_ s)++z6_ [k]).length=s.length+1)(hC:C.length=n)(hn:n≤1000000000)(hm:s.length≤3000000000)(ht:t.length≤1000000000):x1_ Ext0 p_ clJw (z1_ p_ 25 22) (jwS C k n i (bldW s)) (.normal) (jwS C k n (i+1) (bldWn (s.length+1+t.length) (s++k::t))):=by
  refine⟨⟨true,(bs [(66,true)]++[(68,⟨.c (str t),none⟩)])⟩,_,60,⟨[],[1,8,63,64,65],[0,3]⟩,[decide ((↑i:Int)<↑n)=true,
 (0:Int)≤↑i,
 (↑i:Int)<↑n,
 (((0:Nat):Nat)<((List.drop i C).length)),
 y0_ ((List.drop i C).headD AV.any) ((AV.c ((str (t))))),
 ((s.length:Nat)≤((z6_ s).length)),
 ((s.length+(1:Nat):Nat)≤((140737488355328:Nat))),
 ((s.length+(1:Nat):Nat)≤((List.take s.length (z6_ s)++z6_ [k]).length)),
 ((s.length+(1:Nat)+t.length:Nat)≤((140737488355328:Nat))),
 (i64.min:Int)≤↑i+1,
 (↑i+1:Int)≤i64.max],z4_,by decide,Eq.trans (b:=some ((.normal:Exit),⟨frame 75 [(1,(AV.c ((str ([k]))))),(8,(AV.pt 0 0)),(63,(AV.fs 1 n C)),(64,(AV.c ((Value.int .i64 ((↑n:Int)))))),(65,(AV.c ((Value.int .i64 ((↑i:Int)+(1:Int))))))],[(.some ⟨56,true,[(AV.pt 0 0),
 (AV.sl 1 0 (s.length+(1:Nat)+t.length))]⟩),
 (.some ⟨5,false,(List.take (s.length+(1:Nat)) (List.take s.length (z6_ s)++z6_ [k])++z6_ t)⟩)]⟩,_)) (by kernel_rfl) (congrArg (fun S:St=>some ((.normal:Exit),S,_)) (by first|rfl|(simp(disch:=omega) only[std,List.length_drop,hC,hb,hb2,hb3];first|done|rfl))),?_⟩
  all_goals try simp(disch:=omega) only[std,List.length_drop,hC,hb,hb2,hb3]
  all_goals repeat' apply And.intro
  all_goals first|exact True.intro|omega|with_reducible (first|rfl|assumption)|exact hz|exact hb|exact hb2|exact hb3|exact hC|rfl
theorem jnwZ_all (C:List AV)(k:UInt8)(n i:Nat)(s t:List UInt8)(hi:i=n)(hC:C.length=n)(hn:n≤1000000000)(hm:s.length≤3000000000)(ht:t.length≤1000000000):x1_ Ext0 p_ clJw (z1_ p_ 25 22) (jwS C k n i (bldW s)) (.exit 3) (jwE (bldW s)):=by
  refine⟨⟨true,(bs [(66,false)])⟩,_,60,⟨[],[8],[0,1]⟩,[decide ((↑i:Int)<↑n)=false],z4_,by decide,by kernel_rfl,?_⟩
  all_goals try simp(disch:=omega) only[std,List.length_drop,hC,List.length_nil]
  all_goals repeat' apply And.intro
  all_goals first|exact True.intro|omega|with_reducible (first|rfl|assumption)|exact hz|exact hi|exact hC|rfl
theorem jnw_walk (r:List (List UInt8))(k:UInt8)(t:List UInt8)(hn:r.length≤1000000000)(hs:t7_ (t::r)≤1000000000):Tri Ext0 p_ (.loop (z1_ p_ 25 22)) (jwS (u2_ r) k r.length 0 (bldWn (0+t.length) t)) (.exit 3) (jwE (bldW (t++tlC k r))):=by
  have w:=d6_ mixed clJw_ok (b:=z1_ p_ 25 22) (fun i=>jwS (u2_ r) k r.length i (bldW (t++tlC k (r.take i)))) r.length (e:= .exit 3) (R:=jwE (bldW (t++tlC k r))) (by simp) (fun i hi=>?_) ?_ 0 (Nat.zero_le _)
  ·rw[Nat.zero_add]
   have w:=w
   simp only[List.take_zero]at w
   rw[show t++tlC k []=t by simp[tlC]]at w
   exact w
  ·have h1:=sumL_take r i hi
   have h2:=sumL_le r (i+1)
   have h3:t7_ (t::r)=t.length+t7_ r:=rfl
   have h4:=tlC_len k (r.take i)
   have h5:(t++tlC k (r.take i)).length=t.length+(t7_ (r.take i)+(r.take i).length):=by rw[List.length_append,h4]
   have h6:(r.take i).length≤i:=by rw[List.length_take];omega
   have e:t++tlC k (r.take (i+1))=(t++tlC k (r.take i))++k::r.getD i []:=by
     rw[v9_ r i [] hi,tlC_snoc,List.append_assoc]
   rw[e]
   generalize t++tlC k (r.take i)=s at*
   have e2:bldW (s++k::r.getD i [])=bldWn (s.length+1+(r.getD i []).length) (s++k::r.getD i []):=by
     unfold bldW
     rw[List.length_append,List.length_cons,Nat.add_assoc,Nat.add_comm 1]
   rw[e2]
   refine jnwA_all (u2_ r) k r.length i s (r.getD i []) hi (by rw[strs_at r i hi];exact u3_ _) ?_ (w0_ _) (by rw[c3_,List.length_append,w0_,w0_];rfl) (o4_ r) hn (by omega) (by omega)
   rw[c3_,←h1_,List.take_of_length_le (by rw[w0_];simp),←h1_]
   simp
  ·rw[List.take_length]
   exact jnwZ_all (u2_ r) k r.length r.length _ [] rfl (o4_ r) hn (by
     rw[List.length_append,tlC_len]
     have h3:t7_ (t::r)=t.length+t7_ r:=rfl
     omega) (by simp)
theorem jm0_all (k:UInt8):∃(h:Hints) (p:List Prop),y3_ p_ 25 (z8_ p_ clJw h (y1_ ([])) 60 25 ([.fs 1 0 [],.c (str [k])]) ([]))=some (.c (str []),p)∧z7_ p:=by
  refine⟨⟨true,bs []⟩,[],by kernel_rfl,?_⟩
  all_goals try simp(disch:=omega) only[std]
  all_goals repeat' apply And.intro
  all_goals first|exact True.intro|omega|with_reducible (first|rfl|assumption)|rfl
theorem jm1_all (k:UInt8)(t:List UInt8):∃(h:Hints) (p:List Prop),y3_ p_ 25 (z8_ p_ clJw h (y1_ ([])) 60 25 ([.fs 1 1 [.c (str t)],.c (str [k])]) ([]))=some (.c (str t),p)∧z7_ p:=by
  refine⟨⟨true,bs []⟩,[(0:Int)≤0,
 (0:Int)<↑(1:Nat),
 (((0:Nat):Nat)<((1:Nat)))],by kernel_rfl,?_⟩
  all_goals try simp(disch:=omega) only[std]
  all_goals repeat' apply And.intro
  all_goals first|exact True.intro|omega|with_reducible (first|rfl|assumption)|rfl
theorem jm2_all (k:UInt8)(C:List AV)(n n1 m0 m:Nat)(q:Int)(t z:List UInt8)(D:List AV)(hn:n=n1+1)(h1:0<n1)(h2:n1≤1000000000)(hC:C.length=n)(hz:y0_ (C.headD .any) (.c (str t)))(hD:List.drop 1 (List.take n C)=D)(hq:i64.wrap ((9223372036854775807:Int)/(n1:Nat))=q)(hq2:2≤q)(hm:n1≤m)(hm2:m≤4000000000)(ht:t.length≤1000000000)(hz0:0<z.length)(hzl:z.length≤4000000000)(hzb:x8_ (List.take z.length (z6_ z))=z)(hbo:u4_ (List.take z.length (z6_ z)))(hbl:(z6_ z).length=z.length):∃(h:Hints) (p:List Prop),y3_ p_ 25 (z8_ p_ clJw h (y1_ ([(12,⟨z1_ p_ 25 12,⟨[],[0,1,5,39,40,41],[]⟩,jnS C k n n1 0,.exit 1,jnE C k n m⟩),(22,⟨z1_ p_ 25 22,⟨[],[1,8,63,64,65],[0,2]⟩,jwS D k n1 0 (bldWn (0+t.length) t),.exit 3,jwE (bldW z)⟩)])) 60 25 ([.fs 1 n C,.c (str [k])]) ([]))=some (.c (str z),p)∧z7_ p:=by
  refine⟨⟨true,(bs [(14,false),(16,false),(29,false)]++[(27,⟨.c (.int .i64 n1),none⟩),(28,⟨.c (.int .i64 q),some []⟩),(36,⟨.c (.int .i64 n1),none⟩),(38,⟨.c (.int .i64 n1),none⟩),(60,⟨.c (str t),none⟩),(63,⟨.fs 1 n1 D,none⟩)])⟩,[((↑n:Int)==(0:Int))=false,
 ((↑n:Int)==(1:Int))=false,
 (i64.min:Int)≤↑n-1,
 (↑n-1:Int)≤i64.max,
 (↑n-1:Int)=↑n1,
 (↑n1:Int)≠(0:Int),
 ((i64.wrap (Int.tdiv (9223372036854775807:Int) (↑n1:Int)):Int))=(q),
 ((([ck ((↑n1:Int)≠(0:Int))],AV.c (Value.int IntKind.i64 (i64.wrap (Int.tdiv (9223372036854775807:Int) (↑n1:Int)))),Cmd.nop).snd.snd.cells:List AV))=([]),
 decide ((↑(1:Nat):Int)≥q)=false,
 (i64.min:Int)≤↑n-1,
 (↑n-1:Int)≤i64.max,
 (↑n-1:Int)=↑n1,
 (i64.min:Int)≤↑(1:Nat)*↑n1,
 (↑(1:Nat)*↑n1:Int)≤i64.max,
 (i64.min:Int)≤0+↑(1:Nat)*↑n1,
 (0+↑(1:Nat)*↑n1:Int)≤i64.max,
 (0+↑(1:Nat)*↑n1:Int)=↑n1,
 ((z1_ p_ (25:FuncId) (12:Nat):Go.Code))=(z1_ p_ (25:FuncId) (12:Nat)),
 ((jnS C k n n1 (0:Nat):St))=(jnS C k n n1 (0:Nat)),
 (0:Int)<↑m,
 (↑m:Int)≤281474976710656,
 (0:Int)≤0,
 (0:Int)<↑n,
 (((0:Nat):Nat)<((List.drop (Int.toNat (0:Int)) C).length)),
 y0_ ((List.drop (Int.toNat (0:Int)) C).headD AV.any) ((AV.c ((str (t))))),
 (((0:Nat):Nat)≤((0:Nat))),
 (((0:Nat)+t.length:Nat)≤((140737488355328:Nat))),
 (0:Int)≤1,
 (1:Int)≤↑n,
 (↑n:Int)≤↑n,
 y0_ ((AV.fs 1 (n-Int.toNat (1:Int)) (List.drop (Int.toNat (1:Int)) (List.take n C)))) ((AV.fs 1 n1 D)),
 ((z1_ p_ (25:FuncId) (22:Nat):Go.Code))=(z1_ p_ (25:FuncId) (22:Nat)),
 ((jwS D k n1 (0:Nat) (bldWn ((0:Nat)+t.length) t):St))=(jwS D k n1 (0:Nat) (bldWn ((0:Nat)+t.length) t)),
 (((0:Nat):Nat)<(z.length)),
 ((z.length:Nat)≤((z6_ z).length)),
 u4_ (List.take z.length (z6_ z)),
 ((z.length:Nat)≤((4611686018427387904:Nat)))],Eq.trans (b:=some ((AV.c ((str (x8_ (List.take z.length (z6_ z)))))),_)) (by kernel_rfl) (congrArg (fun r=>some (r,_)) (by first|rfl|(simp(disch:=omega) only[std,hzb,hbl,hC];first|done|rfl))),?_⟩
  all_goals try simp(disch:=omega) only[std,hzb,hbl,hC]
  all_goals repeat' apply And.intro
  all_goals first|exact True.intro|omega|with_reducible (first|rfl|assumption)|exact hz|exact hq|exact hbo|(subst hn;simp only[Nat.add_sub_cancel,Int.toNat_natCast];rw[←hD];rfl)|exact hn|exact hC|exact hD|exact hzb|exact hbl|rfl
theorem unstrs_cons {x:AV}{l:List AV} :j9_ (x::l)=unstr x::j9_ l:=rfl
theorem join_ok:w2_ p_ 25 jnSpec:=by
  refine v5_ mixed clJw_ok fun args r q hs hq=>?_
  unfold jnSpec at hs
  split at hs
  ·rename_i s n l p
   simp only[oi_]at hs
   obtain⟨rfl,rfl⟩:=hs
   obtain⟨⟨⟨d⟩⟩,rfl⟩:∃b:ByteArray,b=p:=⟨p,rfl⟩
   simp only[p5_,z7_,and_true]at hq ⊢
   obtain⟨rfl,e1,e2,hd,hsum,hn⟩:=hq
   generalize d.headD 0=k at hd ⊢
   subst hd
   generalize j9_ l=L at*
   subst e1 e2
   match L with
   | []=>
     obtain⟨hh,q,e,hp⟩:=jm0_all k
     exact⟨_,_,_,_,z4_,e,hp⟩
   | [t]=>
     obtain⟨hh,q,e,hp⟩:=jm1_all k t
     exact⟨_,_,_,_,z4_,e,hp⟩
   |t::u::r=>
    rw[jnC_tl]
    have hlen:(t::u::r).length=(u::r).length+1:=rfl
    have h1:0<(u::r).length:=by simp
    have hs2:t7_ (t::u::r)=t.length+t7_ (u::r):=rfl
    have w1:=jna_walk (t::u::r) k (u::r).length hn hsum (by omega)
    have w2:=jnw_walk (u::r) k t (by omega) hsum
    have hz:(t++tlC k (u::r)).length=t.length+(t7_ (u::r)+(u::r).length):=by rw[List.length_append,tlC_len]
    generalize ht:t++tlC k (u::r)=z at*
    generalize hr:u::r=R at*
    have hb:List.take z.length (z6_ z)=z6_ z:=c3_ z
    have hq0:(0:Int)≤9223372036854775807/(R.length:Int):=Int.ediv_nonneg (by decide) (by omega)
    have hq1:(9223372036854775807:Int)/(R.length:Int)≤9223372036854775807:=Int.ediv_le_self _ (by decide)
    have hq2:(2:Int)≤9223372036854775807/(R.length:Int):=Int.le_ediv_of_mul_le (by omega) (by omega)
    obtain⟨hh,q,e,hp⟩:=jm2_all k (u2_ (t::R)) (t::R).length R.length 0 (R.length+t7_ (t::R)) _ t z (u2_ R) hlen h1 (by omega) (o4_ _) (u3_ _) (by rw[strs_tk];rfl) (i64_wrap (by omega) hq1) hq2 (by omega) (by omega) (by omega) (by omega) (by omega) (by rw[hb,p1_]) (by rw[hb];exact n3_ z) (w0_ z)
    exact⟨_,_,_,_,x4_ (x4_ z4_ (show [0,2].Nodup by decide) w2) (show([]:List Nat).Nodup by decide) w1,e,hp⟩
  ·simp at hs
end Go.Proofs.YtmjldphagbobpaaDoor
