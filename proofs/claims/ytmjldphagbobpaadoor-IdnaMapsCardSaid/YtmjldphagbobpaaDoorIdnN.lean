import Derived.Test.YtmjldphagbobpaaDoorIdnM
set_option linter.unusedVariables false
set_option linter.unusedSimpArgs false
namespace Go.Proofs.YtmjldphagbobpaaDoor
open IntKind (i64 u8 i32 u32 u64)
open _root_.Go.Proofs.Tryd renaming prog→p_
open Go.RowKit U8 Idn
def goS (C D:List AV)(m n:Nat)(c:Int)(a:List UInt8)(i:Nat):St:=⟨frame 91 [(0,.fs 1 m C),(1,.c (.int .i64 c)),(2,.fs 1 n D),(7,.c (.bool true)),(10,.c (str a)),(11,.c (.int .i64 i))],[]⟩
def goE (D:List AV)(n:Nat)(c:Int)(a:List UInt8):St:=⟨frame 91 [(1,.c (.int .i64 c)),(2,.fs 1 n D),(7,.c (.bool true)),(10,.c (str a))],[]⟩
def gpS (D:List AV)(n:Nat)(c:Int)(a b:List UInt8)(i:Nat):St:=⟨frame 91 [(1,.c (.int .i64 c)),(2,.fs 1 n D),(7,.c (.bool true)),(10,.c (str a)),(12,.c (str b)),(13,.c (.int .i64 i))],[]⟩
def gpE (c:Int)(a b:List UInt8):St:=⟨frame 91 [(1,.c (.int .i64 c)),(7,.c (.bool true)),(10,.c (str a)),(12,.c (str b))],[]⟩
theorem goA_all (C D:List AV)(m n:Nat)(c:Int)(a t:List UInt8)(i:Nat)(z:Int)(hi:i<m)(hat:y0_ ((C.drop i).headD .any) (.c (.int .i64 z)))(ht:y2_ (sgn z)=t)(hl:m≤100000)(hC:C.length=m)(z1: -9223372036854775808≤z)(z2:z≤9223372036854775807)(hal:a.length≤2000000)(htl:t.length≤100):x1_ Ext0 p_ q4_ (z1_ p_ 8 7) (goS C D m n c a i) (.normal) (goS C D m n c (a++t) (i+1)):=by
  refine⟨⟨true,(bs [(40,true)]++[(47,⟨.c (.int .i64 z),none⟩),(48,⟨.c (str t),none⟩)])⟩,_,60,⟨[],[0,1,2,7,10,11],[]⟩,[decide ((↑i:Int)<↑m)=true,
 (0:Int)≤↑i,
 (↑i:Int)<↑m,
 (((0:Nat):Nat)<((List.drop i C).length)),
 y0_ ((List.drop i C).headD AV.any) ((AV.c ((Value.int .i64 z)))),
 (-9223372036854775808:Int)≤z,
 (z:Int)≤9223372036854775807,
 ((y2_ (sgn z):List UInt8))=(t),
 ((a.length+t.length:Nat)≤((9223372036854775807:Nat))),
 (i64.min:Int)≤↑i+1,
 (↑i+1:Int)≤i64.max],z4_,by decide,by kernel_rfl,?_⟩
  all_goals try simp(disch:=omega) only[std,List.length_drop,hC]
  all_goals repeat' apply And.intro
  all_goals first|exact True.intro|omega|with_reducible (first|rfl|assumption)|exact hat|exact ht|exact hC|rfl
theorem goZ_all (C D:List AV)(m n:Nat)(c:Int)(a t:List UInt8)(i:Nat)(z:Int)(hi:i=m)(ht:y2_ (sgn z)=t)(hl:m≤100000)(hC:C.length=m)(z1: -9223372036854775808≤z)(z2:z≤9223372036854775807)(hal:a.length≤2000000)(htl:t.length≤100):x1_ Ext0 p_ q4_ (z1_ p_ 8 7) (goS C D m n c a i) (.exit 0) (goE D n c a):=by
  refine⟨⟨true,(bs [(40,false)]++[(47,⟨.c (.int .i64 z),none⟩),(48,⟨.c (str t),none⟩)])⟩,_,60,⟨[],[1,2,7,10],[]⟩,[decide ((↑i:Int)<↑m)=false],z4_,by decide,by kernel_rfl,?_⟩
  all_goals try simp(disch:=omega) only[std,List.length_drop,hC]
  all_goals repeat' apply And.intro
  all_goals first|exact True.intro|omega|with_reducible (first|rfl|assumption)|exact hi|exact ht|exact hC|rfl
theorem gpA_all (D:List AV)(n:Nat)(c:Int)(a b t:List UInt8)(i:Nat)(z:Int)(hi:i<n)(hat:y0_ ((D.drop i).headD .any) (.c (.int .i64 z)))(ht:y2_ (sgn z)=t)(hl:n≤100000)(hC:D.length=n)(z1: -9223372036854775808≤z)(z2:z≤9223372036854775807)(hal:b.length≤2000000)(htl:t.length≤100):x1_ Ext0 p_ q4_ (z1_ p_ 8 12) (gpS D n c a b i) (.normal) (gpS D n c a (b++t) (i+1)):=by
  refine⟨⟨true,(bs [(53,true)]++[(60,⟨.c (.int .i64 z),none⟩),(61,⟨.c (str t),none⟩)])⟩,_,60,⟨[],[1,2,7,10,12,13],[]⟩,[decide ((↑i:Int)<↑n)=true,
 (0:Int)≤↑i,
 (↑i:Int)<↑n,
 (((0:Nat):Nat)<((List.drop i D).length)),
 y0_ ((List.drop i D).headD AV.any) ((AV.c ((Value.int .i64 z)))),
 (-9223372036854775808:Int)≤z,
 (z:Int)≤9223372036854775807,
 ((y2_ (sgn z):List UInt8))=(t),
 ((b.length+t.length:Nat)≤((9223372036854775807:Nat))),
 (i64.min:Int)≤↑i+1,
 (↑i+1:Int)≤i64.max],z4_,by decide,by kernel_rfl,?_⟩
  all_goals try simp(disch:=omega) only[std,List.length_drop,hC]
  all_goals repeat' apply And.intro
  all_goals first|exact True.intro|omega|with_reducible (first|rfl|assumption)|exact hat|exact ht|exact hC|rfl
theorem gpZ_all (D:List AV)(n:Nat)(c:Int)(a b t:List UInt8)(i:Nat)(z:Int)(hi:i=n)(ht:y2_ (sgn z)=t)(hl:n≤100000)(hC:D.length=n)(z1: -9223372036854775808≤z)(z2:z≤9223372036854775807)(hal:b.length≤2000000)(htl:t.length≤100):x1_ Ext0 p_ q4_ (z1_ p_ 8 12) (gpS D n c a b i) (.exit 2) (gpE c a b):=by
  refine⟨⟨true,(bs [(53,false)]++[(60,⟨.c (.int .i64 z),none⟩),(61,⟨.c (str t),none⟩)])⟩,_,60,⟨[],[1,7,10,12],[]⟩,[decide ((↑i:Int)<↑n)=false],z4_,by decide,by kernel_rfl,?_⟩
  all_goals try simp(disch:=omega) only[std,List.length_drop,hC]
  all_goals repeat' apply And.intro
  all_goals first|exact True.intro|omega|with_reducible (first|rfl|assumption)|exact hi|exact ht|exact hC|rfl
theorem sg_len (L:List Int)(i:Nat)(hl:L.length≤100000):(join (sgL (L.take i))).length≤2000000:=by
  have h1:=l4_ (sgL (L.take i))
  have h2:(sgL (L.take i)).length=(L.take i).length:=by simp[sgL]
  have h3:(L.take i).length≤L.length:=List.length_take_le' ..
  omega
theorem enc_100 (z:Int):(y2_ (sgn z)).length≤100:=by have:=(U8.p7_ (sgn z)).2;omega
theorem go_walk (L:List Int)(D:List AV)(n:Nat)(c:Int)(hl:L.length≤100000)(hr:s1_ L):Tri Ext0 p_ (.loop (z1_ p_ 8 7)) (goS (z2_ L) D L.length n c [] 0) (.exit 0) (goE D n c (join (sgL L))):=by
  have h:=d6_ mixed clIl_ok (b:=z1_ p_ 8 7) (fun i=>goS (z2_ L) D L.length n c (join (sgL (L.take i))) i) L.length (e:= .exit 0) (R:=goE D n c (join (sgL L))) (by simp) (fun i hi=>by
    have hat:y0_ (((z2_ L).drop i).headD .any) (.c (.int .i64 (L.getD i 0))):=by rw[j3_ L i hi];exact u3_ _
    obtain⟨z1,z2⟩:=hr _ (getD_mem L i hi)
    rw[join_next L i hi]
    exact goA_all (z2_ L) D L.length n c _ _ i _ hi hat rfl hl (v3_ L) z1 z2 (sg_len L i hl) (enc_100 _)) (by
    have hb:=sg_len L L.length hl
    rw[List.take_length]at hb ⊢
    exact goZ_all (z2_ L) D L.length n c _ _ L.length 0 rfl rfl hl (v3_ L) (by omega) (by omega) hb (enc_100 _)) 0 (Nat.zero_le _)
  exact h
theorem gp_walk (L:List Int)(c:Int)(a:List UInt8)(hl:L.length≤100000)(hr:s1_ L):Tri Ext0 p_ (.loop (z1_ p_ 8 12)) (gpS (z2_ L) L.length c a [] 0) (.exit 2) (gpE c a (join (sgL L))):=by
  have h:=d6_ mixed clIl_ok (b:=z1_ p_ 8 12) (fun i=>gpS (z2_ L) L.length c a (join (sgL (L.take i))) i) L.length (e:= .exit 2) (R:=gpE c a (join (sgL L))) (by simp) (fun i hi=>by
    have hat:y0_ (((z2_ L).drop i).headD .any) (.c (.int .i64 (L.getD i 0))):=by rw[j3_ L i hi];exact u3_ _
    obtain⟨z1,z2⟩:=hr _ (getD_mem L i hi)
    rw[join_next L i hi]
    exact gpA_all (z2_ L) L.length c a _ _ i _ hi hat rfl hl (v3_ L) z1 z2 (sg_len L i hl) (enc_100 _)) (by
    have hb:=sg_len L L.length hl
    rw[List.take_length]at hb ⊢
    exact gpZ_all (z2_ L) L.length c a _ _ L.length 0 rfl rfl hl (v3_ L) (by omega) (by omega) hb (enc_100 _)) 0 (Nat.zero_le _)
  exact h
noncomputable def goLp (C D:List AV)(m n:Nat)(c:Int)(a b:List UInt8):List (Nat×Lp):=
  [(7,⟨z1_ p_ 8 7,⟨[],[0,1,2,7,10,11],[]⟩,goS C D m n c [] 0,.exit 0,goE D n c a⟩),(12,⟨z1_ p_ 8 12,⟨[],[1,2,7,10,12,13],[]⟩,gpS D n c a [] 0,.exit 2,gpE c a b⟩)]
theorem gone0_all (L M:List Int)(c k:Int)(hk:x5_ c=k)(c1: -9223372036854775808≤c)(c2:c≤9223372036854775807)(h0:((L.length:Int)>50∨(M.length:Int)>50)∨¬k=3):∃(h:Hints) (p:List Prop),s7_ (z8_ p_ q4_ h (y1_ ([])) 60 8 ([.fs 1 L.length (z2_ L),.c (.int .i64 c),.fs 1 M.length (z2_ M)]) ([]))=some (.c (.bool true),p)∧z7_ p:=by
  refine v0_ (decide ((↑L.length:Int)>(50:Int))) (fun hc26=>⟨⟨true,bs [(26,true)]++([(23,⟨.c (.int .i64 k),none⟩)]++bs [(35,true)])⟩,[(-9223372036854775808:Int)≤c,
 (c:Int)≤9223372036854775807,
 ((x5_ c:Int))=(k),
 decide ((↑L.length:Int)>50)=true,
 (true)=true],by kernel_rfl,?_⟩)
    (fun hc26=>v0_ (decide ((↑M.length:Int)>(50:Int))) (fun hc30=>⟨⟨true,bs [(26,false),(30,true)]++([(23,⟨.c (.int .i64 k),none⟩)]++bs [(35,true)])⟩,[(-9223372036854775808:Int)≤c,
 (c:Int)≤9223372036854775807,
 ((x5_ c:Int))=(k),
 decide ((↑L.length:Int)>50)=false,
 decide ((↑M.length:Int)>50)=true,
 (true)=true],by kernel_rfl,?_⟩)
    (fun hc30=>⟨⟨true,bs [(26,false),(30,false)]++([(23,⟨.c (.int .i64 k),none⟩)]++bs [(35,true)])⟩,[(-9223372036854775808:Int)≤c,
 (c:Int)≤9223372036854775807,
 ((x5_ c:Int))=(k),
 decide ((↑L.length:Int)>50)=false,
 decide ((↑M.length:Int)>50)=false,
 (k !=(3:Int))=true],by kernel_rfl,?_⟩))
  all_goals try simp only[dz]at hc26
  all_goals try simp only[dz]at hc30
  all_goals try simp(disch:=omega) only[std]
  all_goals repeat' apply And.intro
  all_goals first|exact True.intro|omega|with_reducible (first|rfl|assumption)|exact hk|rfl
theorem gone1_all (L M:List Int)(c k:Int)(a b e u v t:List UInt8)(x:Bool)(hk:x5_ c=k)(hk3:k=3)(c1: -9223372036854775808≤c)(c2:c≤9223372036854775807)(h0:L.length≤50)(h1:M.length≤50)(he:y2_ (sgn c)=e)(hu:(a++e)++b=u)(hv:a++b=v)(hal:a.length≤200)(hbl:b.length≤200)(hel:e.length≤4)(hul:u.length≤404)(hvl:v.length≤400)(d1:w3_ u)(d2:w3_ v)(h3:(y9_ u).getD []=t)(h4:(y9_ u).isSome=x)(h5:(y9_ v).getD []=t)(h6:(y9_ v).isSome=x):∃(h:Hints) (p:List Prop),s7_ (z8_ p_ q4_ h (y1_ (goLp (z2_ L) (z2_ M) L.length M.length c a b)) 60 8 ([.fs 1 L.length (z2_ L),.c (.int .i64 c),.fs 1 M.length (z2_ M)]) ([]))=some (.c (.bool true),p)∧z7_ p:=by
  refine⟨⟨true,(bs [(26,false),(30,false),(34,false),(84,true),(89,true)]++[(23,⟨.c (.int .i64 k),none⟩),(66,⟨.c (str e),none⟩),(69,⟨.c (str u),none⟩),(76,⟨.c (str v),none⟩),(71,⟨.c (str t),none⟩),(72,⟨.c (.bool x),none⟩),(78,⟨.c (str t),none⟩),(79,⟨.c (.bool x),none⟩)])⟩,[(-9223372036854775808:Int)≤c,
 (c:Int)≤9223372036854775807,
 ((x5_ c:Int))=(k),
 decide ((↑L.length:Int)>50)=false,
 decide ((↑M.length:Int)>50)=false,
 (k !=(3:Int))=false,
 ((z1_ p_ (8:FuncId) (7:Nat):Go.Code))=(z1_ p_ (8:FuncId) (7:Nat)),
 ((goS (z2_ L) (z2_ M) L.length M.length c [] (0:Nat):St))=(goS (z2_ L) (z2_ M) L.length M.length c [] (0:Nat)),
 ((z1_ p_ (8:FuncId) (12:Nat):Go.Code))=(z1_ p_ (8:FuncId) (12:Nat)),
 ((gpS (z2_ M) M.length c a [] (0:Nat):St))=(gpS (z2_ M) M.length c a [] (0:Nat)),
 (-9223372036854775808:Int)≤c,
 (c:Int)≤9223372036854775807,
 ((y2_ (sgn c):List UInt8))=(e),
 ((a.length+e.length:Nat)≤((9223372036854775807:Nat))),
 (((a++e).length+b.length:Nat)≤((9223372036854775807:Nat))),
 ((a++e++b:List UInt8))=(u),
 ((u.length:Nat)≤((100000:Nat))),
 w3_ u,
 (((y9_ (sb { data:= { toList:=u}})).getD []:List UInt8))=(t),
 (((y9_ (sb { data:= { toList:=u}})).isSome:Bool))=(x),
 ((a.length+b.length:Nat)≤((9223372036854775807:Nat))),
 ((a++b:List UInt8))=(v),
 ((v.length:Nat)≤((100000:Nat))),
 w3_ v,
 (((y9_ (sb { data:= { toList:=v}})).getD []:List UInt8))=(t),
 (((y9_ (sb { data:= { toList:=v}})).isSome:Bool))=(x),
 (t==t)=true,
 (x==x)=true],by kernel_rfl,?_⟩
  all_goals try simp(disch:=omega) only[std,beq_self_eq_true,List.length_append]
  all_goals repeat' apply And.intro
  all_goals first|exact True.intro|omega|with_reducible (first|rfl|assumption)|exact hk|exact hk3|exact he|exact hu|exact hv|exact d1|exact d2|exact h3|exact h4|exact h5|exact h6|rfl
theorem gone_law (L M:List Int)(c:Int)(c1: -9223372036854775808≤c)(c2:c≤9223372036854775807)(hL:s1_ L)(hM:s1_ M):∃hs lp fuel p,q3_ Ext0 p_ lp∧s7_ (z8_ p_ q4_ hs lp fuel 8 [.fs 1 L.length (z2_ L),.c (.int .i64 c),.fs 1 M.length (z2_ M)] [])=some (.c (.bool true),p)∧z7_ p:=by
  by_cases h:((L.length:Int)>50∨(M.length:Int)>50)∨¬x5_ c=3
  ·obtain⟨hh,p,e,hp⟩:=gone0_all L M c _ rfl c1 c2 h
   exact⟨_,_,_,_,z4_,e,hp⟩
  ·have hk:x5_ c=3:=by
     apply Classical.byContradiction
     intro hn
     exact h (.inr hn)
   have hLl:L.length≤50:=by omega
   have hMl:M.length≤50:=by omega
   have hc0:0≤c:=by
     unfold x5_ at hk
     split at hk
     ·cases hk
     ·split at hk
      ·rename_i g
       unfold k2_ at g
       omega
      ·split at hk<;>cases hk
   obtain⟨d,rfl⟩:∃d:Nat,c=(d:Int):=⟨c.toNat,by omega⟩
   have hkd:r6_ d=3:=by rw[e8_]at hk;omega
   have hd:okC d:=map_ok (by rw[hkd];decide)
   have g1:=sgL_good L
   have g2:=sgL_good M
   have e1:join (sgL L)++y2_ (sgn (d:Int))++join (sgL M)=join (sgL L++d::sgL M):=by
     rw[a8_,s5_,sgn_okC hd,List.append_assoc]
   have e2:join (sgL L)++join (sgL M)=join (sgL L++sgL M):=(a8_ _ _).symm
   have hD:=dom_gone g1 g2 hkd
   have l1:=l4_ (sgL L)
   have l2:=l4_ (sgL M)
   have l3:(sgL L).length=L.length:=by simp[sgL]
   have l4:(sgL M).length=M.length:=by simp[sgL]
   have l5:=(U8.p7_ (sgn (d:Int))).2
   have hu:(join (sgL L)++y2_ (sgn (d:Int))++join (sgL M)).length≤404:=by simp only[List.length_append];omega
   have hv:(join (sgL L)++join (sgL M)).length≤400:=by simp only[List.length_append];omega
   have w1:=go_walk L (z2_ M) M.length (d:Int) (by omega) hL
   have w2:=gp_walk M (d:Int) (join (sgL L)) (by omega) hM
   obtain⟨hh,p,e,hp⟩:=gone1_all L M (d:Int) _ _ _ _ _ _ ((y9_ (join (sgL L++sgL M))).getD []) (y9_ (join (sgL L++sgL M))).isSome rfl hk c1 c2 hLl hMl rfl rfl rfl (by omega) (by omega) l5 hu hv (q5_ hu (by omega)) (q5_ hv (by omega)) (by rw[e1,hD]) (by rw[e1,hD]) (by rw[e2]) (by rw[e2])
   exact⟨_,_,_,_,x4_ (x4_ z4_ List.nodup_nil w2) List.nodup_nil w1,e,hp⟩
def bkS8 (C:List AV)(m:Nat)(b:List UInt8)(i:Nat):St:=⟨frame 80 [(0,.fs 1 m C),(3,.c (.bool true)),(4,.sl 0 0 b.length),(5,.c (.int .i64 i))],[some ⟨5,false,z6_ b⟩]⟩
def bkE8 (C:List AV)(m:Nat)(b:List UInt8):St:=⟨frame 80 [(0,.fs 1 m C),(3,.c (.bool true)),(4,.sl 0 0 b.length)],[some ⟨5,false,z6_ b⟩]⟩
theorem bqA_all (C:List AV)(m:Nat)(b b2 t:List UInt8)(i:Nat)(z:Int)(hi:i<m)(hat:y0_ ((C.drop i).headD .any) (.c (.int .i64 z)))(ht:y2_ (sgn z)=t)(hl:m≤100000)(hC:C.length=m)(z1: -9223372036854775808≤z)(z2:z≤9223372036854775807)(hbl:b.length≤2000000)(htl:t.length≤100)(hb2:(z6_ b).take b.length++z6_ t=z6_ b2)(hl2:b.length+t.length=b2.length):x1_ Ext0 p_ q4_ (z1_ p_ 7 6) (bkS8 C m b i) (.normal) (bkS8 C m b2 (i+1)):=by
  refine⟨⟨true,(bs [(23,true)]++[(30,⟨.c (.int .i64 z),none⟩),(31,⟨.c (str t),none⟩),(32,⟨.sl 1 0 b2.length,some (z6_ b2)⟩)])⟩,_,60,⟨[],[0,3,4,5],[1]⟩,[decide ((↑i:Int)<↑m)=true,
 (0:Int)≤↑i,
 (↑i:Int)<↑m,
 (((0:Nat):Nat)<((List.drop i C).length)),
 y0_ ((List.drop i C).headD AV.any) ((AV.c ((Value.int .i64 z)))),
 (-9223372036854775808:Int)≤z,
 (z:Int)≤9223372036854775807,
 ((y2_ (sgn z):List UInt8))=(t),
 (((b.length+t.length)*(1:Nat):Nat)≤((140737488355328:Nat))),
 ((b.length+t.length:Nat)≤((4611686018427387904:Nat))),
 ((b.length:Nat)≤((z6_ b).length)),
 y0_ ((AV.sl 1 0 (b.length+t.length))) ((AV.sl 1 0 b2.length)),
 ((List.take b.length (z6_ b)++z6_ t:List AV))=(z6_ b2),
 (i64.min:Int)≤↑i+1,
 (↑i+1:Int)≤i64.max],z4_,by decide,by kernel_rfl,?_⟩
  all_goals try simp(disch:=omega) only[std,List.length_drop,hC,w0_]
  all_goals repeat' apply And.intro
  all_goals first|exact True.intro|omega|with_reducible (first|rfl|assumption)|exact sl_eq hl2|exact hat|exact ht|exact hC|exact hb2|exact hl2|rfl
theorem bqZ_all (C:List AV)(m:Nat)(b b2 t:List UInt8)(i:Nat)(z:Int)(hi:i=m)(ht:y2_ (sgn z)=t)(hl:m≤100000)(hC:C.length=m)(z1: -9223372036854775808≤z)(z2:z≤9223372036854775807)(hbl:b.length≤2000000)(htl:t.length≤100)(hb2:(z6_ b).take b.length++z6_ t=z6_ b2)(hl2:b.length+t.length=b2.length):x1_ Ext0 p_ q4_ (z1_ p_ 7 6) (bkS8 C m b i) (.exit 0) (bkE8 C m b):=by
  refine⟨⟨true,(bs [(23,false)]++[(30,⟨.c (.int .i64 z),none⟩),(31,⟨.c (str t),none⟩),(32,⟨.sl 1 0 b2.length,some (z6_ b2)⟩)])⟩,_,60,⟨[],[0,3,4],[0]⟩,[decide ((↑i:Int)<↑m)=false],z4_,by decide,by kernel_rfl,?_⟩
  all_goals try simp(disch:=omega) only[std,List.length_drop,hC,w0_]
  all_goals repeat' apply And.intro
  all_goals first|exact True.intro|omega|with_reducible (first|rfl|assumption)|exact sl_eq hl2|exact hi|exact ht|exact hC|exact hb2|exact hl2|rfl
theorem bq_walk (L:List Int)(hl:L.length≤100000)(hr:s1_ L):Tri Ext0 p_ (.loop (z1_ p_ 7 6)) (bkS8 (z2_ L) L.length [] 0) (.exit 0) (bkE8 (z2_ L) L.length (join (sgL L))):=by
  have h:=d6_ mixed clIl_ok (b:=z1_ p_ 7 6) (fun i=>bkS8 (z2_ L) L.length (join (sgL (L.take i))) i) L.length (e:= .exit 0) (R:=bkE8 (z2_ L) L.length (join (sgL L))) (by simp) (fun i hi=>by
    have hat:y0_ (((z2_ L).drop i).headD .any) (.c (.int .i64 (L.getD i 0))):=by rw[j3_ L i hi];exact u3_ _
    obtain⟨z1,z2⟩:=hr _ (getD_mem L i hi)
    rw[join_next L i hi]
    exact bqA_all (z2_ L) L.length _ _ _ i _ hi hat rfl hl (v3_ L) z1 z2 (sg_len L i hl) (enc_100 _) (byts_put _ _) (by rw[List.length_append])) (by
    have hb:=sg_len L L.length hl
    rw[List.take_length]at hb ⊢
    exact bqZ_all (z2_ L) L.length _ _ _ L.length 65 rfl rfl hl (v3_ L) (by omega) (by omega) hb (enc_100 _) (byts_put _ _) (by rw[List.length_append])) 0 (Nat.zero_le _)
  exact h
noncomputable def bqLp (C:List AV)(m:Nat)(b:List UInt8):List (Nat×Lp):=[(6,⟨z1_ p_ 7 6,⟨[(4,5)],[0,3,4,5],[0]⟩,bkS8 C m [] 0,.exit 0,bkE8 C m b⟩)]
theorem back0_all (L:List Int)(h0:L.length≤255→t2_ L=false)(hr:s1_ L):∃(h:Hints) (p:List Prop),s7_ (z8_ p_ q4_ h (y1_ ([])) 60 7 ([.fs 1 L.length (z2_ L)]) ([]))=some (.c (.bool true),p)∧z7_ p:=by
  refine v0_ (decide ((↑L.length:Int)>(255:Int))) (fun hc13=>⟨⟨true,bs [(13,true)]++(bs [(18,true)])⟩,[decide ((↑L.length:Int)>255)=true,
 (true)=true],by kernel_rfl,?_⟩)
    (fun hc13=>⟨⟨true,bs [(13,false)]++(bs [(18,true)])⟩,[decide ((↑L.length:Int)>255)=false,
 (((1:Nat):Nat))=((1:Nat)),
 ((z2_ L:List AV))=(z2_ (unI (z2_ L))),
 ((L.length:Nat))=((unI (z2_ L)).length),
 ((L.length:Nat)≤((1000000000:Nat))),
 s1_ (unI (z2_ L)),
 (!t2_ (unI (z2_ L)))=true],by kernel_rfl,?_⟩)
  all_goals try simp only[dz]at hc13
  all_goals try simp(disch:=omega) only[std,v8_]
  all_goals repeat' apply And.intro
  all_goals first|exact True.intro|omega|with_reducible (first|rfl|assumption)|exact h0 (by omega)|(rw[h0 (by omega)];rfl)|exact hr|rfl
theorem backX_all (L:List Int)(b:List UInt8)(h4:4≤b.length)(hx:(b.take 4==[120,110,45,45])=true)(hd:(y9_ b).isSome=false)(h0:L.length≤255)(hl:t2_ L=true)(hr:s1_ L)(hbl:b.length≤1020)(d1:w3_ b)(hb4:x8_ ((z6_ b).take 4)=b.take 4):∃(h:Hints) (p:List Prop),s7_ (z8_ p_ q4_ h (y1_ (bqLp (z2_ L) L.length b)) 60 7 ([.fs 1 L.length (z2_ L)]) ([]))=some (.c (.bool true),p)∧z7_ p:=by
  refine⟨⟨true,(bs [(13,false),(16,true),(41,true),(46,true),(38,false)]++[(35,⟨.c (str b),none⟩),(45,⟨.c (str (b.take 4)),none⟩)]++[])⟩,[decide ((↑L.length:Int)>255)=false,
 (((1:Nat):Nat))=((1:Nat)),
 ((z2_ L:List AV))=(z2_ (unI (z2_ L))),
 ((L.length:Nat))=((unI (z2_ L)).length),
 ((L.length:Nat)≤((1000000000:Nat))),
 s1_ (unI (z2_ L)),
 (t2_ (unI (z2_ L)))=true,
 ((z1_ p_ (7:FuncId) (6:Nat):Go.Code))=(z1_ p_ (7:FuncId) (6:Nat)),
 ((bkS8 (z2_ L) L.length [] (0:Nat):St))=(bkS8 (z2_ L) L.length [] (0:Nat)),
 ((b.length+(0:Nat):Nat)≤((z6_ b).length)),
 u4_ (List.take b.length (List.drop (0:Nat) (z6_ b))),
 ((x8_ (List.take b.length (List.drop (0:Nat) (z6_ b))):List UInt8))=(b),
 ((b.length:Nat)≤((100000:Nat))),
 w3_ b,
 ((y9_ (sb { data:= { toList:=b}})).isSome)=false,
 decide ((↑b.length:Int)≥4)=true,
 (0:Int)≤0,
 (0:Int)≤4,
 (4:Int)≤↑b.length,
 (((4:Nat):Nat)≤((z6_ b).length)),
 u4_ (List.take (4:Nat) (List.drop (0:Nat) (z6_ b))),
 ((x8_ (List.take (4:Nat) (List.drop (0:Nat) (z6_ b))):List UInt8))=(List.take (4:Nat) b),
 (List.take (4:Nat) b==[(120:UInt8),(110:UInt8),(45:UInt8),(45:UInt8)])=true],by kernel_rfl,?_⟩
  all_goals try simp(disch:=omega) only[std,v8_,beq_self_eq_true,w0_,c3_,p1_,h0_,unI_natI,rowN_natI,m3_,y7_]
  all_goals repeat' apply And.intro
  all_goals first|exact True.intro|omega|with_reducible (first|rfl|assumption)|exact n3_ _|(rw[j7_];exact n3_ _)|(rw[j7_,p1_];rfl)|exact beq_iff_eq.1 hx|exact hx (by omega)|(intro e;exact hx (by omega) e)|exact heL.symm|exact hx|exact hd|exact hl|exact hr|exact d1|exact hb4|rfl
theorem backN_all (L:List Int)(b:List UInt8)(t e:List UInt8)(hx:4≤b.length→¬b.take 4=[120,110,45,45])(hd:(y9_ b).isSome=true)(ht:(y9_ b).getD []=t)(ht5:5≤t.length)(ht4:t.take 4=[120,110,45,45])(hte:t.drop 4=e)(htl:t.length≤2504)(hel:e.length≤2500)(hes:(Pny.m8_ e).isSome=true)(heL:z9_ (x0_ e)=L)(heq:(x0_ e).length≤255)(h0:L.length≤255)(hl:t2_ L=true)(hr:s1_ L)(hbl:b.length≤1020)(d1:w3_ b)(hb4:x8_ ((z6_ b).take 4)=b.take 4):∃(h:Hints) (p:List Prop),s7_ (z8_ p_ q4_ h (y1_ (bqLp (z2_ L) L.length b)) 60 7 ([.fs 1 L.length (z2_ L)]) ([]))=some (.c (.bool true),p)∧z7_ p:=by
  refine v0_ (decide ((↑b.length:Int)≥(4:Int))) (fun hc41=>⟨⟨true,bs [(41,true)]++(bs [(13,false),(16,true),(47,false),(38,true),(58,false),(63,false),(70,true),(78,true)]++[(35,⟨.c (str b),none⟩),(45,⟨.c (str (b.take 4)),none⟩)]++[(37,⟨.c (str t),none⟩),(62,⟨.c (str [120,110,45,45]),none⟩),(67,⟨.c (str e),none⟩)])⟩,[decide ((↑L.length:Int)>255)=false,
 (((1:Nat):Nat))=((1:Nat)),
 ((z2_ L:List AV))=(z2_ (unI (z2_ L))),
 ((L.length:Nat))=((unI (z2_ L)).length),
 ((L.length:Nat)≤((1000000000:Nat))),
 s1_ (unI (z2_ L)),
 (t2_ (unI (z2_ L)))=true,
 ((z1_ p_ (7:FuncId) (6:Nat):Go.Code))=(z1_ p_ (7:FuncId) (6:Nat)),
 ((bkS8 (z2_ L) L.length [] (0:Nat):St))=(bkS8 (z2_ L) L.length [] (0:Nat)),
 ((b.length+(0:Nat):Nat)≤((z6_ b).length)),
 u4_ (List.take b.length (List.drop (0:Nat) (z6_ b))),
 ((x8_ (List.take b.length (List.drop (0:Nat) (z6_ b))):List UInt8))=(b),
 ((b.length:Nat)≤((100000:Nat))),
 w3_ b,
 (((y9_ (sb { data:= { toList:=b}})).getD []:List UInt8))=(t),
 ((y9_ (sb { data:= { toList:=b}})).isSome)=true,
 decide ((↑b.length:Int)≥4)=true,
 (0:Int)≤0,
 (0:Int)≤4,
 (4:Int)≤↑b.length,
 (((4:Nat):Nat)≤((z6_ b).length)),
 u4_ (List.take (4:Nat) (List.drop (0:Nat) (z6_ b))),
 ((x8_ (List.take (4:Nat) (List.drop (0:Nat) (z6_ b))):List UInt8))=(List.take (4:Nat) b),
 (List.take (4:Nat) b==[(120:UInt8),(110:UInt8),(45:UInt8),(45:UInt8)])=false,
 decide ((↑t.length:Int)<5)=false,
 (0:Int)≤0,
 (0:Int)≤4,
 (4:Int)≤↑t.length,
 ((List.drop (Int.toNat (0:Int)) (List.take (Int.toNat (4:Int)) t):List UInt8))=([(120:UInt8),(110:UInt8),(45:UInt8),(45:UInt8)]),
 (false)=false,
 (0:Int)≤4,
 (4:Int)≤↑t.length,
 (↑t.length:Int)≤↑t.length,
 ((List.drop (Int.toNat (4:Int)) (List.take t.length t):List UInt8))=(e),
 ((e.length:Nat)≤((100000:Nat))),
 ((Pny.m8_ (sb { data:= { toList:=e}})).isSome)=true,
 (((1:Nat):Nat))=((1:Nat)),
 ((z2_ L:List AV))=(z2_ (unI (z2_ L))),
 ((L.length:Nat))=((unI (z2_ L)).length),
 ((p_.cellsOf (3:TypeId):Nat))=((1:Nat)),
 ((List.take (x0_ e).length (List.drop (0:Nat) (z0_ (x0_ e))):List AV))=(z2_ (unI (List.take (x0_ e).length (List.drop (0:Nat) (z0_ (x0_ e)))))),
 (((x0_ e).length:Nat))=((unI (List.take (x0_ e).length (List.drop (0:Nat) (z0_ (x0_ e))))).length),
 ((L.length:Nat)≤((1000000000:Nat))),
 (s9_ [] (AV.c (Value.bool (decide (unI (z2_ L)=unI (List.take (x0_ e).length (List.drop (0:Nat) (z0_ (x0_ e)))))))))=true,
 (decide (unI (z2_ L)=unI (List.take (x0_ e).length (List.drop (0:Nat) (z0_ (x0_ e))))))=true],by kernel_rfl,?_⟩)
    (fun hc41=>⟨⟨true,bs [(41,false)]++(bs [(13,false),(16,true),(47,false),(38,true),(58,false),(63,false),(70,true),(78,true)]++[(35,⟨.c (str b),none⟩),(45,⟨.c (str (b.take 4)),none⟩)]++[(37,⟨.c (str t),none⟩),(62,⟨.c (str [120,110,45,45]),none⟩),(67,⟨.c (str e),none⟩)])⟩,[decide ((↑L.length:Int)>255)=false,
 (((1:Nat):Nat))=((1:Nat)),
 ((z2_ L:List AV))=(z2_ (unI (z2_ L))),
 ((L.length:Nat))=((unI (z2_ L)).length),
 ((L.length:Nat)≤((1000000000:Nat))),
 s1_ (unI (z2_ L)),
 (t2_ (unI (z2_ L)))=true,
 ((z1_ p_ (7:FuncId) (6:Nat):Go.Code))=(z1_ p_ (7:FuncId) (6:Nat)),
 ((bkS8 (z2_ L) L.length [] (0:Nat):St))=(bkS8 (z2_ L) L.length [] (0:Nat)),
 ((b.length+(0:Nat):Nat)≤((z6_ b).length)),
 u4_ (List.take b.length (List.drop (0:Nat) (z6_ b))),
 ((x8_ (List.take b.length (List.drop (0:Nat) (z6_ b))):List UInt8))=(b),
 ((b.length:Nat)≤((100000:Nat))),
 w3_ b,
 (((y9_ (sb { data:= { toList:=b}})).getD []:List UInt8))=(t),
 ((y9_ (sb { data:= { toList:=b}})).isSome)=true,
 decide ((↑b.length:Int)≥4)=false,
 (false)=false,
 decide ((↑t.length:Int)<5)=false,
 (0:Int)≤0,
 (0:Int)≤4,
 (4:Int)≤↑t.length,
 ((List.drop (Int.toNat (0:Int)) (List.take (Int.toNat (4:Int)) t):List UInt8))=([(120:UInt8),(110:UInt8),(45:UInt8),(45:UInt8)]),
 (false)=false,
 (0:Int)≤4,
 (4:Int)≤↑t.length,
 (↑t.length:Int)≤↑t.length,
 ((List.drop (Int.toNat (4:Int)) (List.take t.length t):List UInt8))=(e),
 ((e.length:Nat)≤((100000:Nat))),
 ((Pny.m8_ (sb { data:= { toList:=e}})).isSome)=true,
 (((1:Nat):Nat))=((1:Nat)),
 ((z2_ L:List AV))=(z2_ (unI (z2_ L))),
 ((L.length:Nat))=((unI (z2_ L)).length),
 ((p_.cellsOf (3:TypeId):Nat))=((1:Nat)),
 ((List.take (x0_ e).length (List.drop (0:Nat) (z0_ (x0_ e))):List AV))=(z2_ (unI (List.take (x0_ e).length (List.drop (0:Nat) (z0_ (x0_ e)))))),
 (((x0_ e).length:Nat))=((unI (List.take (x0_ e).length (List.drop (0:Nat) (z0_ (x0_ e))))).length),
 ((L.length:Nat)≤((1000000000:Nat))),
 (s9_ [] (AV.c (Value.bool (decide (unI (z2_ L)=unI (List.take (x0_ e).length (List.drop (0:Nat) (z0_ (x0_ e)))))))))=true,
 (decide (unI (z2_ L)=unI (List.take (x0_ e).length (List.drop (0:Nat) (z0_ (x0_ e))))))=true],by kernel_rfl,?_⟩)
  all_goals try simp only[dz]at hc41
  all_goals try simp(disch:=omega) only[std,v8_,beq_self_eq_true,w0_,c3_,p1_,h0_,unI_natI,rowN_natI,m3_,y7_]
  all_goals repeat' apply And.intro
  all_goals first|exact True.intro|omega|with_reducible (first|rfl|assumption)|exact n3_ _|(rw[j7_];exact n3_ _)|(rw[j7_,p1_];rfl)|exact beq_iff_eq.1 hx|exact hx (by omega)|(intro e;exact hx (by omega) e)|exact heL.symm|exact hd|exact ht|exact ht4|exact hte|exact hes|exact heL|exact hl|exact hr|exact d1|exact hb4|rfl
theorem kind1_ge {z:Int}(h:x5_ z=1):0≤z:=by
  unfold x5_ at h
  split at h
  ·cases h
  ·split at h
   ·cases h
   ·split at h
    ·rename_i v
     unfold i5_ at v
     have v:=of_decide_eq_true v
     unfold validP at v
     omega
    ·cases h
theorem back_law (L:List Int)(hr:s1_ L):∃hs lp fuel p,q3_ Ext0 p_ lp∧s7_ (z8_ p_ q4_ hs lp fuel 7 [.fs 1 L.length (z2_ L)] [])=some (.c (.bool true),p)∧z7_ p:=by
  by_cases hyes:L.length≤255∧t2_ L=true
  ·obtain⟨h255,hl⟩:=hyes
   obtain⟨l,rfl⟩:∃l,L=z9_ l:=⟨w7_ L,by
     unfold z9_ w7_
     rw[List.map_map]
     conv=>lhs;rw[←List.map_id L]
     apply List.map_congr_left
     intro z hz
     have hf:L.all i6_=true:=by
       unfold t2_ at hl
       rw[Bool.and_eq_true,Bool.and_eq_true]at hl
       exact hl.1.1
     have:=List.all_eq_true.1 hf z hz
     unfold i6_ at this
     rw[Bool.and_eq_true,beq_iff_eq]at this
     have:=kind1_ge this.1
     show z=((z.toNat:Nat):Int)
     omega⟩
   have hlN:l6_ l=true:=by rw[←label_nat];exact hl
   rw[m3_]at h255
   have hl2:=hlN
   unfold l6_ at hl2
   rw[Bool.and_eq_true,Bool.and_eq_true,List.all_eq_true,List.any_eq_true]at hl2
   obtain⟨⟨hall,c0,hc0,_⟩,_⟩:=hl2
   have hok:∀c∈l,okC c:=fun c hc=>by
     have:=hall c hc
     rw[Bool.and_eq_true,beq_iff_eq]at this
     exact map_ok (by rw[this.1];decide)
   have hpos:0<l.length:=List.length_pos_iff.2 (List.ne_nil_of_mem hc0)
   have hmay:Pny.l8_ l=true:=by
     unfold Pny.l8_
     rw[Bool.and_eq_true,decide_eq_true_eq,List.all_eq_true]
     refine⟨h255,fun c hc=>?_⟩
     have:=hok c hc
     unfold okC at this
     unfold Pny.okC
     rw[Bool.and_eq_true,decide_eq_true_eq,Bool.not_eq_true',Bool.and_eq_false_iff,decide_eq_false_iff_not,decide_eq_false_iff_not]
     omega
   have hdl:=dom_label hlN h255
   have hxn:=join_xn hok
   have w:=bq_walk (z9_ l) (by rw[m3_];omega) hr
   rw[sgL_natI hok]at w
   have hbl:(join l).length≤1020:=by have:=l4_ l;omega
   have d1:=q5_ hbl (by omega)
   have hb4:x8_ ((z6_ (join l)).take 4)=(join l).take 4:=by rw[j7_,p1_]
   by_cases hx:l.take 4=xnN
   ·rw[if_pos hx]at hdl
    have hx4:=hxn.2 hx
    have h4:4≤(join l).length:=by
      have:=congrArg List.length hx4
      simp only[List.length_take,xnB,List.length_cons,List.length_nil]at this
      omega
    obtain⟨hh,p,e,hp⟩:=backX_all (z9_ l) (join l) h4 (by rw[hx4];rfl) (by rw[hdl];rfl) (by rw[m3_];exact h255) hl hr hbl d1 hb4
    exact⟨_,_,_,_,x4_ z4_ nd0 w,e,hp⟩
   ·rw[if_neg hx]at hdl
    have hen:(Pny.p4_ l).length≤2500:=by
      have:=encV_2500 (z9_ l)
      unfold a5_ at this
      rw[may_nat,hmay,if_pos rfl,natL_I]at this
      exact this
    have hep:1≤(Pny.p4_ l).length:=by
      obtain⟨w,e,_,k1,_,k2⟩:=Pny.d3_ hmay
      have:(Pny.byt (Pny.bas l)).length=(Pny.bas l).length:=by simp[Pny.byt]
      rw[e]
      simp only[List.length_append]
      omega
    have hdec:=Pny.dec_enc hmay
    have hx4:xnB.length=4:=rfl
    obtain⟨hh,p,e,hp⟩:=backN_all (z9_ l) (join l) (xnB++Pny.p4_ l) (Pny.p4_ l) (fun _ h=>hx (hxn.1 h)) (by rw[hdl];rfl) (by rw[hdl];rfl) (by rw[List.length_append];omega) rfl rfl (by rw[List.length_append];omega) hen (by rw[hdec];rfl) (by unfold x0_;rw[hdec];rfl) (decL_255 _) (by rw[m3_];exact h255) hl hr hbl d1 hb4
    exact⟨_,_,_,_,x4_ z4_ nd0 w,e,hp⟩
  ·obtain⟨hh,p,e,hp⟩:=back0_all L (fun h=>by
     cases hb:t2_ L with
     |false=>rfl
     |true=>exact absurd ⟨h,hb⟩ hyes) hr
   exact⟨_,_,_,_,z4_,e,hp⟩
def mpS (c:Int)(N:List Nat)(i:Nat):St:=⟨frame 93 [(0,.c (.int .i64 c)),(3,.c (.bool true)),(6,.sl 0 0 N.length),(7,.c (.int .i64 i))],[some ⟨3,false,z0_ N⟩]⟩
def mpS0 (c:Int)(N:List Nat):St:=⟨frame 93 [(0,.c (.int .i64 c)),(3,.c (.bool true)),(6,.sl 0 0 (z9_ N).length),(7,.c (.int .i64 (0:Nat)))],[some ⟨3,false,ints (z9_ N)⟩]⟩
theorem mpS0_is (c:Int)(N:List Nat):mpS0 c N=mpS c N 0:=by
  unfold mpS0 mpS
  rw[m3_,ints_natI]
theorem mpA_all (c:Int)(N:List Nat)(t:List UInt8)(i:Nat)(z:Int)(hi:i<N.length)(hat:y0_ (((z0_ N).drop i).headD .any) (.c (.int .i64 z)))(ht:u1_ z=t)(ht2:y2_ (sgn z)=t)(hk:x5_ z=1)(hzc:¬z=c)(hl:N.length≤100000)(hN:(z0_ N).length=N.length)(z1: -9223372036854775808≤z)(z2:z≤9223372036854775807):x1_ Ext0 p_ q4_ (z1_ p_ 3 9) (mpS c N i) (.normal) (mpS c N (i+1)):=by
  refine⟨⟨true,(bs [(52,true),(64,false),(72,false),(80,false)]++[(59,⟨.c (.int .i64 z),none⟩),(61,⟨.c (str t),none⟩),(62,⟨.c (.int .i64 1),none⟩),(70,⟨.c (.int .i64 z),none⟩),(71,⟨.c (str t),none⟩),(78,⟨.c (.int .i64 z),none⟩)])⟩,_,60,⟨[],[0,3,6,7],[0]⟩,[decide ((↑i:Int)<↑N.length)=true,
 (0:Int)≤↑i,
 (↑i:Int)<↑N.length,
 (((0:Nat):Nat)<((List.drop (i+(0:Nat)) (z0_ N)).length)),
 y0_ ((List.drop (i+(0:Nat)) (z0_ N)).headD AV.any) ((AV.c ((Value.int .i64 z)))),
 (-9223372036854775808:Int)≤z,
 (z:Int)≤9223372036854775807,
 ((u1_ z:List UInt8))=(t),
 ((x5_ z:Int))=(1),
 (false)=false,
 (0:Int)≤↑i,
 (↑i:Int)<↑N.length,
 (((0:Nat):Nat)<((List.drop (i+(0:Nat)) (z0_ N)).length)),
 y0_ ((List.drop (i+(0:Nat)) (z0_ N)).headD AV.any) ((AV.c ((Value.int .i64 z)))),
 (-9223372036854775808:Int)≤z,
 (z:Int)≤9223372036854775807,
 ((y2_ (sgn z):List UInt8))=(t),
 (!t==t)=false,
 (0:Int)≤↑i,
 (↑i:Int)<↑N.length,
 (((0:Nat):Nat)<((List.drop (i+(0:Nat)) (z0_ N)).length)),
 y0_ ((List.drop (i+(0:Nat)) (z0_ N)).headD AV.any) ((AV.c ((Value.int .i64 z)))),
 (z==c)=false,
 (i64.min:Int)≤↑i+1,
 (↑i+1:Int)≤i64.max],z4_,by decide,by kernel_rfl,?_⟩
  all_goals try simp(disch:=omega) only[std,List.length_drop,hN,beq_self_eq_true,Bool.not_true]
  all_goals repeat' apply And.intro
  all_goals first|exact True.intro|omega|with_reducible (first|rfl|assumption)|exact hat|exact ht|exact ht2|exact hk|exact hzc|exact hN|rfl
theorem mpZ_all (c:Int)(N:List Nat)(t:List UInt8)(i:Nat)(z:Int)(hi:i=N.length)(ht:u1_ z=t)(ht2:y2_ (sgn z)=t)(hk:x5_ z=1)(hzc:¬z=c)(hl:N.length≤100000)(hN:(z0_ N).length=N.length)(z1: -9223372036854775808≤z)(z2:z≤9223372036854775807):x1_ Ext0 p_ q4_ (z1_ p_ 3 9) (mpS c N i) (.exit 0) (mpS c N i):=by
  refine⟨⟨true,(bs [(52,false)]++[(59,⟨.c (.int .i64 z),none⟩),(61,⟨.c (str t),none⟩),(62,⟨.c (.int .i64 1),none⟩),(70,⟨.c (.int .i64 z),none⟩),(71,⟨.c (str t),none⟩),(78,⟨.c (.int .i64 z),none⟩)])⟩,_,60,⟨[],[0,3,6,7],[0]⟩,[decide ((↑i:Int)<↑N.length)=false],z4_,by decide,by kernel_rfl,?_⟩
  all_goals try simp(disch:=omega) only[std,List.length_drop,hN,beq_self_eq_true,Bool.not_true]
  all_goals repeat' apply And.intro
  all_goals first|exact True.intro|omega|with_reducible (first|rfl|assumption)|exact hi|exact ht|exact ht2|exact hk|exact hzc|exact hN|rfl
theorem stays_text {z:Nat}(h:j2_ z):x5_ (z:Int)=1∧u1_ (z:Int)=y2_ (sgn (z:Int)):=by
  have hk:=stays_iff.1 h
  refine⟨by rw[e8_,hk];rfl,?_⟩
  rw[text_nat (by rw[hk];decide),stays_out h,sgn_okC (g9_ h)]
  simp[join]
theorem mp_walk (c:Int)(N:List Nat)(hl:N.length≤100000)(hs:∀z∈N,j2_ z∧(z:Int)≠c)(hc:c≠97):Tri Ext0 p_ (.loop (z1_ p_ 3 9)) (mpS0 c N) (.exit 0) (mpS c N N.length):=by
  rw[mpS0_is]
  exact d6_ mixed clIl_ok (mpS c N) N.length (by simp) (fun i hi=>by
    have hat:y0_ (((z0_ N).drop i).headD .any) (.c (.int .i64 (N.getD i 0:Nat))):=by rw[h7_ N i hi];exact u3_ _
    have hm:N.getD i 0∈N:=by
      have:N[i]=N.getD i 0:=by simp[List.getD,hi]
      rw[←this];exact List.getElem_mem _
    obtain⟨s1,s2⟩:=hs _ hm
    obtain⟨t1,t2⟩:=stays_text s1
    have hz:=g9_ s1
    unfold okC at hz
    exact mpA_all c N _ i _ hi hat t2 rfl t1 s2 hl (y7_ N) (by omega) (by omega)) (by
    obtain⟨t1,t2⟩:=stays_text (z:=97) (b0_ (by omega) (by omega))
    exact mpZ_all c N _ N.length ((97:Nat):Int) rfl t2 rfl t1 (fun e=>hc e.symm) hl (y7_ N) (by omega) (by omega)) 0 (Nat.zero_le _)
noncomputable def mpLp (c:Int)(N:List Nat):List (Nat×Lp):=[(9,⟨z1_ p_ 3 9,⟨[],[0,3,6,7],[0]⟩,mpS0 c N,.exit 0,mpS c N N.length⟩)]
theorem maps1_all (c:Int)(s:List UInt8)(c1: -9223372036854775808≤c)(c2:c≤9223372036854775807)(hk:x5_ c=1)(ht:u1_ c=s)(hs:y2_ (sgn c)=s)(hsl:s.length≤4)(hN:z9_ (z3_ s)=[c])(hNl:(z3_ s).length=1):∃(h:Hints) (p:List Prop),s7_ (z8_ p_ q4_ h (y1_ ([])) 60 3 ([.c (.int .i64 c)]) ([]))=some (.c (.bool true),p)∧z7_ p:=by
  refine⟨⟨true,(bs [(17,true),(23,true),(30,true)]++[(14,⟨.c (str s),none⟩),(15,⟨.c (.int .i64 1),none⟩)])⟩,[(-9223372036854775808:Int)≤c,
 (c:Int)≤9223372036854775807,
 ((u1_ c:List UInt8))=(s),
 ((x5_ c:Int))=(1),
 (true)=true,
 (-9223372036854775808:Int)≤c,
 (c:Int)≤9223372036854775807,
 (s==y2_ (sgn c))=true,
 ((s.length:Nat)≤((1000000000:Nat))),
 ((p_.cellsOf (3:Nat):Nat))=((1:Nat)),
 ((List.take (z9_ (z3_ s)).length (List.drop (0:Nat) (ints (z9_ (z3_ s)))):List AV))=(z2_ (unI (List.take (z9_ (z3_ s)).length (List.drop (0:Nat) (ints (z9_ (z3_ s))))))),
 (((z9_ (z3_ s)).length:Nat))=((unI (List.take (z9_ (z3_ s)).length (List.drop (0:Nat) (ints (z9_ (z3_ s)))))).length),
 ((p_.cellsOf (3:Nat):Nat))=((1:Nat)),
 ((List.take (1:Nat) (List.drop (0:Nat) ([AV.c (Value.int IntKind.i64 c)]++[])):List AV))=(z2_ (unI (List.take (1:Nat) (List.drop (0:Nat) ([AV.c (Value.int IntKind.i64 c)]++[]))))),
 (((1:Nat):Nat))=((1:Nat)),
 (((z9_ (z3_ s)).length:Nat)≤((1000000000:Nat))),
 (s9_ [] (AV.c (Value.bool (decide (unI (List.take (z9_ (z3_ s)).length (List.drop (0:Nat) (ints (z9_ (z3_ s)))))=unI (List.take (1:Nat) (List.drop (0:Nat) ([AV.c (Value.int IntKind.i64 c)]++[]))))))))=true,
 (decide (unI (List.take (z9_ (z3_ s)).length (List.drop (0:Nat) (ints (z9_ (z3_ s)))))=unI (List.take (1:Nat) (List.drop (0:Nat) ([AV.c (Value.int IntKind.i64 c)]++[])))))=true],by kernel_rfl,?_⟩
  all_goals try simp(disch:=omega) only[std,beq_self_eq_true,m3_,hN,ints_natI,h0_,unI_natI,hNl]
  all_goals repeat' apply And.intro
  all_goals first|exact True.intro|omega|with_reducible (first|rfl|assumption)|exact hs.symm|rfl|exact hk|exact ht|exact hs|exact hN|exact hNl
theorem maps0_all (c k:Int)(c1: -9223372036854775808≤c)(c2:c≤9223372036854775807)(hk:x5_ c=k)(ht:u1_ c=[])(hk2:k=0∨k=3):∃(h:Hints) (p:List Prop),s7_ (z8_ p_ q4_ h (y1_ ([])) 60 3 ([.c (.int .i64 c)]) ([]))=some (.c (.bool true),p)∧z7_ p:=by
  refine v0_ (k==(0:Int)) (fun hc41=>⟨⟨true,bs [(41,true)]++(bs [(17,false),(33,true),(37,true)]++[(14,⟨.c (str []),none⟩),(15,⟨.c (.int .i64 k),none⟩)])⟩,[(-9223372036854775808:Int)≤c,
 (c:Int)≤9223372036854775807,
 ((u1_ c:List UInt8))=([]),
 ((x5_ c:Int))=(k),
 (k==(1:Int))=false,
 (k !=(2:Int))=true,
 (true)=true,
 (k==(0:Int))=true],Eq.trans (b:=some ((AV.c ((Value.bool true))),_)) (by kernel_rfl) (congrArg (fun r=>some (r,_)) ?_),?_⟩)
   (fun hc41=>⟨⟨true,bs [(41,false)]++(bs [(17,false),(33,true),(37,true)]++[(14,⟨.c (str []),none⟩),(15,⟨.c (.int .i64 k),none⟩)])⟩,[(-9223372036854775808:Int)≤c,
 (c:Int)≤9223372036854775807,
 ((u1_ c:List UInt8))=([]),
 ((x5_ c:Int))=(k),
 (k==(1:Int))=false,
 (k !=(2:Int))=true,
 (true)=true,
 (k==(0:Int))=false],Eq.trans (b:=some ((AV.c ((Value.bool (k==(3:Int))))),_)) (by kernel_rfl) (congrArg (fun r=>some (r,_)) ?_),?_⟩)
  all_goals try simp only[dz]at hc41
  any_goals(
    first
      |rfl
      |(rw[hk2.resolve_left hc41];rfl)
    done)
  all_goals try simp(disch:=omega) only[std,beq_self_eq_true]
  all_goals repeat' apply And.intro
  all_goals first|exact True.intro|omega|with_reducible (first|rfl|assumption)|exact hk|exact ht|exact hk2|rfl
theorem maps2_all (c:Int)(s:List UInt8)(c1: -9223372036854775808≤c)(c2:c≤9223372036854775807)(hk:x5_ c=2)(ht:u1_ c=s)(hsl:s.length≤100)(hN1:1≤(z3_ s).length)(hN3:(z3_ s).length≤3):∃(h:Hints) (p:List Prop),s7_ (z8_ p_ q4_ h (y1_ (mpLp c (z3_ s))) 60 3 ([.c (.int .i64 c)]) ([]))=some (.c (.bool true),p)∧z7_ p:=by
  refine⟨⟨true,(bs [(17,false),(33,false),(86,true),(91,true)]++[(14,⟨.c (str s),none⟩),(15,⟨.c (.int .i64 2),none⟩)])⟩,[(-9223372036854775808:Int)≤c,
 (c:Int)≤9223372036854775807,
 ((u1_ c:List UInt8))=(s),
 ((x5_ c:Int))=(2),
 (false)=false,
 (false)=false,
 ((s.length:Nat)≤((1000000000:Nat))),
 ((z1_ p_ (3:FuncId) (9:Nat):Go.Code))=(z1_ p_ (3:FuncId) (9:Nat)),
 ((mpS0 c (z3_ s):St))=(mpS0 c (z3_ s)),
 (decide ((↑(z3_ s).length:Int)≥(1:Int)))=true,
 (decide ((↑(z3_ s).length:Int)≤(3:Int)))=true],by kernel_rfl,?_⟩
  all_goals try simp(disch:=omega) only[std,m3_]
  all_goals repeat' apply And.intro
  all_goals first|exact True.intro|omega|with_reducible (first|rfl|assumption)|exact hk|exact ht|rfl
theorem maps_law (c:Int)(c1: -9223372036854775808≤c)(c2:c≤9223372036854775807):∃hs lp fuel p,q3_ Ext0 p_ lp∧s7_ (z8_ p_ q4_ hs lp fuel 3 [.c (.int .i64 c)] [])=some (.c (.bool true),p)∧z7_ p:=by
  by_cases hk1:x5_ c=1
  ·obtain⟨d,rfl⟩:∃d:Nat,c=(d:Int):=⟨c.toNat,by have:=kind1_ge hk1;omega⟩
   have hst:j2_ d:=stays_iff.2 (by rw[e8_]at hk1;omega)
   obtain⟨t1,t2⟩:=stays_text hst
   have hok:=g9_ hst
   have hs:z3_ (y2_ (sgn (d:Int)))=[d]:=by
     rw[sgn_okC hok]
     have:=n7_ [d] fun x hx=>by obtain rfl:=List.mem_singleton.1 hx;exact hok
     simpa [join]using this
   obtain⟨hh,p,e,hp⟩:=maps1_all (d:Int) _ c1 c2 hk1 t2 rfl (U8.p7_ _).2 (by rw[hs];rfl) (by rw[hs];rfl)
   exact⟨_,_,_,_,z4_,e,hp⟩
  ·by_cases hk2:x5_ c=2
   ·have hc0:65≤c:=by
      apply Classical.byContradiction
      intro hn
      have:toZ c=[]:=by
        unfold toZ
        repeat rw[if_neg (by omega)]
      unfold x5_ at hk2
      rw[if_neg (by rw[this];simp)]at hk2
      split at hk2
      ·cases hk2
      ·split at hk2<;>cases hk2
    obtain⟨d,rfl⟩:∃d:Nat,c=(d:Int):=⟨c.toNat,by omega⟩
    have hkd:r6_ d=2:=by rw[e8_]at hk2;omega
    have ht:=text_nat (c:=d) (by rw[hkd];decide)
    have hto:toN d≠[]:=fun h=>by
      unfold r6_ at hkd
      rw[if_neg (by simpa using h)]at hkd
      split at hkd
      ·cases hkd
      ·split at hkd<;>cases hkd
    have hout:n8_ d=toN d:=by unfold n8_;rw[if_pos hto]
    rw[hout]at ht
    have hs:z3_ (join (toN d))=toN d:=n7_ _ fun x hx=>g9_ (to_stays hx).1
    have hl3:=to_len d
    have hl1:1≤(toN d).length:=List.length_pos_iff.2 hto
    have w:=mp_walk (d:Int) (toN d) (by omega) (fun z hz=>⟨(to_stays hz).1,fun e=>(to_stays hz).2 (by omega)⟩) (fun e=>by
      have:d=97:=by omega
      subst this
      exact hto (b0_ (c:=97) (by omega) (by omega)).1)
    rw[←hs]at w
    have hjl:=l4_ (toN d)
    obtain⟨hh,p,e,hp⟩:=maps2_all (d:Int) _ c1 c2 hk2 ht (by omega) (by rw[hs];exact hl1) (by rw[hs];exact hl3)
    exact⟨_,_,_,_,x4_ z4_ nd0 w,e,hp⟩
   ·have key:(x5_ c=0∨x5_ c=3)∧u1_ c=[]:=by
      unfold x5_ at hk1 hk2
      unfold x5_ u1_
      by_cases h1:toZ c≠[]
      ·rw[if_pos h1]at hk2;exact absurd rfl hk2
      ·rw[if_neg h1]at hk1 ⊢
       rw[if_neg h1]
       by_cases h2:k2_ c
       ·rw[if_pos h2,if_pos h2];exact⟨.inr rfl,rfl⟩
       ·rw[if_neg h2]at hk1 ⊢
        rw[if_neg h2]
        by_cases h3:i5_ c=true
        ·rw[if_pos h3]at hk1;exact absurd rfl hk1
        ·rw[if_neg h3,if_neg h3];exact⟨.inl rfl,rfl⟩
    obtain⟨hh,p,e,hp⟩:=maps0_all c _ c1 c2 rfl key.2 key.1
    exact⟨_,_,_,_,z4_,e,hp⟩
end Go.Proofs.YtmjldphagbobpaaDoor
