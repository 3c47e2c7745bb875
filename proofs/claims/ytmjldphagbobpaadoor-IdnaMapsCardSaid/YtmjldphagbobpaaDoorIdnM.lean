import Derived.Test.YtmjldphagbobpaaDoorIdnL
set_option linter.unusedVariables false
set_option linter.unusedSimpArgs false
namespace Go.Proofs.YtmjldphagbobpaaDoor
open IntKind (i64 u8 i32 u32 u64)
open _root_.Go.Proofs.Tryd renaming prog→p_
open Go.RowKit U8 Idn
theorem labels0_all (s t:List UInt8)(h0:(s.length:Int)>300∨(t.length:Int)>300):∃(h:Hints) (p:List Prop),s7_ (z8_ p_ q4_ h (y1_ ([])) 60 6 ([.c (str s),.c (str t)]) ([]))=some (.c (.bool true),p)∧z7_ p:=by
  refine v0_ (decide ((↑s.length:Int)>(300:Int))) (fun hc15=>⟨⟨true,bs [(15,true)]⟩,[decide ((↑s.length:Int)>300)=true],by kernel_rfl,?_⟩)
    (fun hc15=>⟨⟨true,bs [(15,false),(19,true)]⟩,[decide ((↑s.length:Int)>300)=false,
 decide ((↑t.length:Int)>300)=true],by kernel_rfl,?_⟩)
  all_goals try simp only[dz]at hc15
  all_goals try simp(disch:=omega) only[std]
  all_goals repeat' apply And.intro
  all_goals first|exact True.intro|omega|with_reducible (first|rfl|assumption)|rfl
theorem labelsT_all (s t w a b e:List UInt8)(h0:s.length≤300)(h1:t.length≤300)(hw:(s++[46])++t=w)(hwl:w.length≤700)(d1:w3_ s)(d2:w3_ t)(d3:w3_ w)(ha:(y9_ s).getD []=a)(hx:(y9_ s).isSome=true)(hb:(y9_ t).getD []=b)(hy:(y9_ t).isSome=true)(he:(y9_ w).getD []=e)(hz:(y9_ w).isSome=true)(al:a.length≤100000)(bl:b.length≤100000)(hab:(e==(a++[46])++b)=true):∃(h:Hints) (p:List Prop),s7_ (z8_ p_ q4_ h (y1_ ([])) 60 6 ([.c (str s),.c (str t)]) ([]))=some (.c (.bool true),p)∧z7_ p:=by
  refine⟨⟨true,(bs [(15,false),(19,false),(45,false),(57,true)]++[(25,⟨.c (str a),none⟩),(26,⟨.c (.bool true),none⟩),(30,⟨.c (str b),none⟩),(31,⟨.c (.bool true),none⟩),(36,⟨.c (str w),none⟩),(38,⟨.c (str e),none⟩),(39,⟨.c (.bool true),none⟩)])⟩,[decide ((↑s.length:Int)>300)=false,
 decide ((↑t.length:Int)>300)=false,
 ((s.length:Nat)≤((100000:Nat))),
 w3_ s,
 (((y9_ (sb { data:= { toList:=s}})).getD []:List UInt8))=(a),
 ((y9_ (sb { data:= { toList:=s}})).isSome)=true,
 ((t.length:Nat)≤((100000:Nat))),
 w3_ t,
 (((y9_ (sb { data:= { toList:=t}})).getD []:List UInt8))=(b),
 ((y9_ (sb { data:= { toList:=t}})).isSome)=true,
 ((s.length+(1:Nat):Nat)≤((9223372036854775807:Nat))),
 (((s++[(46:UInt8)]).length+t.length:Nat)≤((9223372036854775807:Nat))),
 ((s++[(46:UInt8)]++t:List UInt8))=(w),
 ((w.length:Nat)≤((100000:Nat))),
 w3_ w,
 (((y9_ (sb { data:= { toList:=w}})).getD []:List UInt8))=(e),
 ((y9_ (sb { data:= { toList:=w}})).isSome)=true,
 (false)=false,
 ((a.length+(1:Nat):Nat)≤((9223372036854775807:Nat))),
 (((a++[(46:UInt8)]).length+b.length:Nat)≤((9223372036854775807:Nat))),
 (e==a++[(46:UInt8)]++b)=true],by kernel_rfl,?_⟩
  all_goals try simp(disch:=omega) only[std,List.length_append,List.length_cons,List.length_nil]
  all_goals repeat' apply And.intro
  all_goals first|exact True.intro|omega|with_reducible (first|rfl|assumption)|exact beq_iff_eq.1 hab|exact hw|exact d1|exact d2|exact d3|exact ha|exact hx|exact hb|exact hy|exact he|exact hz|exact hab|rfl
theorem labelsF_all (s t w a b e:List UInt8)(y:Bool)(h0:s.length≤300)(h1:t.length≤300)(hw:(s++[46])++t=w)(hwl:w.length≤700)(d1:w3_ s)(d2:w3_ t)(d3:w3_ w)(ha:(y9_ s).getD []=a)(hx:(y9_ s).isSome=false)(hb:(y9_ t).getD []=b)(hy:(y9_ t).isSome=y)(he:(y9_ w).getD []=e)(hz:(y9_ w).isSome=false)(al:a.length≤100000)(bl:b.length≤100000)(h9:True):∃(h:Hints) (p:List Prop),s7_ (z8_ p_ q4_ h (y1_ ([])) 60 6 ([.c (str s),.c (str t)]) ([]))=some (.c (.bool true),p)∧z7_ p:=by
  refine⟨⟨true,(bs [(15,false),(19,false),(45,false),(57,true)]++[(25,⟨.c (str a),none⟩),(26,⟨.c (.bool false),none⟩),(30,⟨.c (str b),none⟩),(31,⟨.c (.bool y),none⟩),(36,⟨.c (str w),none⟩),(38,⟨.c (str e),none⟩),(39,⟨.c (.bool false),none⟩)])⟩,[decide ((↑s.length:Int)>300)=false,
 decide ((↑t.length:Int)>300)=false,
 ((s.length:Nat)≤((100000:Nat))),
 w3_ s,
 (((y9_ (sb { data:= { toList:=s}})).getD []:List UInt8))=(a),
 ((y9_ (sb { data:= { toList:=s}})).isSome)=false,
 ((t.length:Nat)≤((100000:Nat))),
 w3_ t,
 (((y9_ (sb { data:= { toList:=t}})).getD []:List UInt8))=(b),
 (((y9_ (sb { data:= { toList:=t}})).isSome:Bool))=(y),
 ((s.length+(1:Nat):Nat)≤((9223372036854775807:Nat))),
 (((s++[(46:UInt8)]).length+t.length:Nat)≤((9223372036854775807:Nat))),
 ((s++[(46:UInt8)]++t:List UInt8))=(w),
 ((w.length:Nat)≤((100000:Nat))),
 w3_ w,
 (((y9_ (sb { data:= { toList:=w}})).getD []:List UInt8))=(e),
 ((y9_ (sb { data:= { toList:=w}})).isSome)=false,
 (false)=false,
 (true)=true],by kernel_rfl,?_⟩
  all_goals try simp(disch:=omega) only[std,List.length_append,List.length_cons,List.length_nil]
  all_goals repeat' apply And.intro
  all_goals first|exact True.intro|omega|with_reducible (first|rfl|assumption)|exact beq_iff_eq.1 hab|exact hw|exact d1|exact d2|exact d3|exact ha|exact hx|exact hb|exact hy|exact he|exact hz|exact h9|rfl
theorem labelsG_all (s t w a b e:List UInt8)(h0:s.length≤300)(h1:t.length≤300)(hw:(s++[46])++t=w)(hwl:w.length≤700)(d1:w3_ s)(d2:w3_ t)(d3:w3_ w)(ha:(y9_ s).getD []=a)(hx:(y9_ s).isSome=true)(hb:(y9_ t).getD []=b)(hy:(y9_ t).isSome=false)(he:(y9_ w).getD []=e)(hz:(y9_ w).isSome=false)(al:a.length≤100000)(bl:b.length≤100000)(h9:True):∃(h:Hints) (p:List Prop),s7_ (z8_ p_ q4_ h (y1_ ([])) 60 6 ([.c (str s),.c (str t)]) ([]))=some (.c (.bool true),p)∧z7_ p:=by
  refine⟨⟨true,(bs [(15,false),(19,false),(45,false),(57,true)]++[(25,⟨.c (str a),none⟩),(26,⟨.c (.bool true),none⟩),(30,⟨.c (str b),none⟩),(31,⟨.c (.bool false),none⟩),(36,⟨.c (str w),none⟩),(38,⟨.c (str e),none⟩),(39,⟨.c (.bool false),none⟩)])⟩,[decide ((↑s.length:Int)>300)=false,
 decide ((↑t.length:Int)>300)=false,
 ((s.length:Nat)≤((100000:Nat))),
 w3_ s,
 (((y9_ (sb { data:= { toList:=s}})).getD []:List UInt8))=(a),
 ((y9_ (sb { data:= { toList:=s}})).isSome)=true,
 ((t.length:Nat)≤((100000:Nat))),
 w3_ t,
 (((y9_ (sb { data:= { toList:=t}})).getD []:List UInt8))=(b),
 ((y9_ (sb { data:= { toList:=t}})).isSome)=false,
 ((s.length+(1:Nat):Nat)≤((9223372036854775807:Nat))),
 (((s++[(46:UInt8)]).length+t.length:Nat)≤((9223372036854775807:Nat))),
 ((s++[(46:UInt8)]++t:List UInt8))=(w),
 ((w.length:Nat)≤((100000:Nat))),
 w3_ w,
 (((y9_ (sb { data:= { toList:=w}})).getD []:List UInt8))=(e),
 ((y9_ (sb { data:= { toList:=w}})).isSome)=false,
 (false)=false,
 (true)=true],by kernel_rfl,?_⟩
  all_goals try simp(disch:=omega) only[std,List.length_append,List.length_cons,List.length_nil]
  all_goals repeat' apply And.intro
  all_goals first|exact True.intro|omega|with_reducible (first|rfl|assumption)|exact beq_iff_eq.1 hab|exact hw|exact d1|exact d2|exact d3|exact ha|exact hx|exact hb|exact hy|exact he|exact hz|exact h9|rfl
theorem labels_law (s t:List UInt8):∃hs lp fuel p,q3_ Ext0 p_ lp∧s7_ (z8_ p_ q4_ hs lp fuel 6 [.c (str s),.c (str t)] [])=some (.c (.bool true),p)∧z7_ p:=by
  by_cases h:(s.length:Int)>300∨(t.length:Int)>300
  ·obtain⟨hh,p,e,hp⟩:=labels0_all s t h
   exact⟨_,_,_,_,z4_,e,hp⟩
  ·have hw:(s++[46]++t).length≤700:=by simp only[List.length_append,List.length_singleton];omega
   have d1:=q5_ (s:=s) (n:=300) (by omega) (by omega)
   have d2:=q5_ (s:=t) (n:=300) (by omega) (by omega)
   have d3:=q5_ (s:=s++[46]++t) (n:=700) hw (by omega)
   have hD:y9_ (s++[46]++t)=match y9_ s,y9_ t with
    |some a,some b=>some (a++46::b)
    |_,_=>none:=by
     rw[List.append_assoc];exact dom_dot s t
   cases h1:y9_ s with
   |none=>
    rw[h1]at hD
    have hD:y9_ (s++[46]++t)=none:=hD
    obtain⟨hh,p,e,hp⟩:=labelsF_all s t _ [] ((y9_ t).getD []) [] (y9_ t).isSome (by omega) (by omega) rfl hw d1 d2 d3 (by rw[h1];rfl) (by rw[h1];rfl) rfl rfl (by rw[hD];rfl) (by rw[hD];rfl) (by simp) (by
      cases h2:y9_ t with
      |none=>simp
      |some b=>have:=dom_len h2;simp only[Option.getD_some];omega) trivial
    exact⟨_,_,_,_,z4_,e,hp⟩
   |some a=>
    have hal:=dom_len h1
    cases h2:y9_ t with
    |none=>
     rw[h1,h2]at hD
     have hD:y9_ (s++[46]++t)=none:=hD
     obtain⟨hh,p,e,hp⟩:=labelsG_all s t _ a [] [] (by omega) (by omega) rfl hw d1 d2 d3 (by rw[h1];rfl) (by rw[h1];rfl) (by rw[h2];rfl) (by rw[h2];rfl) (by rw[hD];rfl) (by rw[hD];rfl) (by omega) (by simp) trivial
     exact⟨_,_,_,_,z4_,e,hp⟩
    |some b=>
     have hbl:=dom_len h2
     rw[h1,h2]at hD
     have hD:y9_ (s++[46]++t)=some (a++46::b):=hD
     obtain⟨hh,p,e,hp⟩:=labelsT_all s t _ a b (a++46::b) (by omega) (by omega) rfl hw d1 d2 d3 (by rw[h1];rfl) (by rw[h1];rfl) (by rw[h2];rfl) (by rw[h2];rfl) (by rw[hD];rfl) (by rw[hD];rfl) (by omega) (by omega) (by simp)
     exact⟨_,_,_,_,z4_,e,hp⟩
def izS (s:List UInt8)(N:List Nat)(a:List UInt8)(i:Nat):St:=⟨frame 72 [(0,.c (str s)),(3,.c (.bool true)),(4,.sl 0 0 N.length),(5,.c (str a)),(6,.c (.int .i64 i))],[some ⟨3,false,z0_ N⟩]⟩
def izE (s a:List UInt8):St:=⟨frame 72 [(0,.c (str s)),(3,.c (.bool true)),(5,.c (str a))],[]⟩
def izR:St:=⟨frame 72 [(2,.c (.bool true))],[]⟩
def izS0 (s:List UInt8)(N:List Nat):St:=⟨frame 72 [(0,.c (str s)),(3,.c (.bool true)),(4,.sl 0 0 (z9_ N).length),(5,.c (str [])),(6,.c (.int .i64 (0:Nat)))],[some ⟨3,false,ints (z9_ N)⟩]⟩
theorem izS0_is (s:List UInt8)(N:List Nat):izS0 s N=izS s N [] 0:=by
  unfold izS0 izS
  rw[m3_,ints_natI]
theorem izA_all (s:List UInt8)(N:List Nat)(a t:List UInt8)(i:Nat)(z kk:Int)(hi:i<N.length)(hat:y0_ (((z0_ N).drop i).headD .any) (.c (.int .i64 z)))(hk:x5_ z=kk)(hk0:¬kk=0)(ht:u1_ z=t)(hl:N.length≤100000)(hN:(z0_ N).length=N.length)(z1: -9223372036854775808≤z)(z2:z≤9223372036854775807)(hal:a.length≤2000000)(htl:t.length≤100):x1_ Ext0 p_ q4_ (z1_ p_ 5 7) (izS s N a i) (.normal) (izS s N (a++t) (i+1)):=by
  refine⟨⟨true,(bs [(25,true),(37,false)]++[(32,⟨.c (.int .i64 z),none⟩),(34,⟨.c (str t),none⟩),(35,⟨.c (.int .i64 kk),none⟩)])⟩,_,60,⟨[],[0,3,4,5,6],[0]⟩,[decide ((↑i:Int)<↑N.length)=true,
 (0:Int)≤↑i,
 (↑i:Int)<↑N.length,
 (((0:Nat):Nat)<((List.drop (i+(0:Nat)) (z0_ N)).length)),
 y0_ ((List.drop (i+(0:Nat)) (z0_ N)).headD AV.any) ((AV.c ((Value.int .i64 z)))),
 (-9223372036854775808:Int)≤z,
 (z:Int)≤9223372036854775807,
 ((u1_ z:List UInt8))=(t),
 ((x5_ z:Int))=(kk),
 (kk==(0:Int))=false,
 ((a.length+t.length:Nat)≤((9223372036854775807:Nat))),
 (i64.min:Int)≤↑i+1,
 (↑i+1:Int)≤i64.max],z4_,by decide,by kernel_rfl,?_⟩
  all_goals try simp(disch:=omega) only[std,List.length_drop,hN]
  all_goals repeat' apply And.intro
  all_goals first|exact True.intro|omega|with_reducible (first|rfl|assumption)|exact hat|exact hk|exact hk0|exact ht|exact hN|rfl
theorem izB_all (s:List UInt8)(N:List Nat)(a t:List UInt8)(i:Nat)(z kk:Int)(hi:i<N.length)(hat:y0_ (((z0_ N).drop i).headD .any) (.c (.int .i64 z)))(hk:x5_ z=kk)(hk0:kk=0)(hsl:s.length≤300)(hd:w3_ s)(hF:(y9_ s).isSome=false)(ht:u1_ z=t)(hl:N.length≤100000)(hN:(z0_ N).length=N.length)(z1: -9223372036854775808≤z)(z2:z≤9223372036854775807)(hal:a.length≤2000000)(htl:t.length≤100):x1_ Ext0 p_ q4_ (z1_ p_ 5 7) (izS s N a i) (.ret) (izR):=by
  refine⟨⟨true,(bs [(25,true),(37,true),(42,false)]++[(32,⟨.c (.int .i64 z),none⟩),(34,⟨.c (str t),none⟩),(35,⟨.c (.int .i64 kk),none⟩)])⟩,_,60,⟨[],[2],[]⟩,[decide ((↑i:Int)<↑N.length)=true,
 (0:Int)≤↑i,
 (↑i:Int)<↑N.length,
 (((0:Nat):Nat)<((List.drop (i+(0:Nat)) (z0_ N)).length)),
 y0_ ((List.drop (i+(0:Nat)) (z0_ N)).headD AV.any) ((AV.c ((Value.int .i64 z)))),
 (-9223372036854775808:Int)≤z,
 (z:Int)≤9223372036854775807,
 ((u1_ z:List UInt8))=(t),
 ((x5_ z:Int))=(kk),
 (kk==(0:Int))=true,
 ((s.length:Nat)≤((100000:Nat))),
 w3_ s,
 ((y9_ (sb { data:= { toList:=s}})).isSome)=false],z4_,by decide,by kernel_rfl,?_⟩
  all_goals try simp(disch:=omega) only[std,List.length_drop,hN]
  all_goals repeat' apply And.intro
  all_goals first|exact True.intro|omega|with_reducible (first|rfl|assumption)|exact hat|exact hk|exact hk0|exact hd|exact hF|exact ht|exact hN|rfl
theorem izZ_all (s:List UInt8)(N:List Nat)(a t:List UInt8)(i:Nat)(z kk:Int)(hi:i=N.length)(ht:u1_ z=t)(hl:N.length≤100000)(hN:(z0_ N).length=N.length)(z1: -9223372036854775808≤z)(z2:z≤9223372036854775807)(hal:a.length≤2000000)(htl:t.length≤100):x1_ Ext0 p_ q4_ (z1_ p_ 5 7) (izS s N a i) (.exit 0) (izE s a):=by
  refine⟨⟨true,(bs [(25,false)]++[(32,⟨.c (.int .i64 z),none⟩),(34,⟨.c (str t),none⟩),(35,⟨.c (.int .i64 kk),none⟩)])⟩,_,60,⟨[],[0,3,5],[]⟩,[decide ((↑i:Int)<↑N.length)=false],z4_,by decide,by kernel_rfl,?_⟩
  all_goals try simp(disch:=omega) only[std,List.length_drop,hN]
  all_goals repeat' apply And.intro
  all_goals first|exact True.intro|omega|with_reducible (first|rfl|assumption)|exact hi|exact ht|exact hN|rfl
theorem iz_walk (s:List UInt8)(N:List Nat)(hsl:s.length≤300)(hl:N.length≤100000)(hs:∀c∈N,okC c)(hF:N.all (fun c=>r6_ c !=0)=false→y9_ s=none):Tri Ext0 p_ (.loop (z1_ p_ 5 7)) (izS0 s N) (if N.all (fun c=>r6_ c !=0)=true then .exit 0 else .ret) (if N.all (fun c=>r6_ c !=0)=true then izE s (join (N.flatMap n8_))else izR):=by
  rw[izS0_is]
  refine n9_ mixed clIl_ok (fun i=>izS s N (join ((N.take i).flatMap n8_)) i) (fun i=>i≤N.length∧(N.take i).all (fun c=>r6_ c !=0)=true) (fun i=>N.length-i) (fun i hx=>?_) 0 ⟨Nat.zero_le _,rfl⟩
  obtain⟨h1,h2⟩:=hx
  have hb:(join ((N.take i).flatMap n8_)).length≤2000000:=by
    have k1:=l4_ ((N.take i).flatMap n8_)
    have k2:=out_len (N.take i)
    have k3:(N.take i).length≤N.length:=List.length_take_le' ..
    omega
  by_cases hi:i<N.length
  ·have ha:y0_ (((z0_ N).drop i).headD .any) (.c (.int .i64 (N.getD i 0:Nat))):=by rw[h7_ N i hi];exact u3_ _
   have hm:N.getD i 0∈N:=by
     have:N[i]=N.getD i 0:=by simp[List.getD,hi]
     rw[←this];exact List.getElem_mem _
   have hz:=hs _ hm
   unfold okC at hz
   have hk:=e8_ (N.getD i 0)
   have htk:=take_all N i hi
   rw[h2,Bool.true_and]at htk
   by_cases h0:r6_ (N.getD i 0)=0
   ·have hall:N.all (fun c=>r6_ c !=0)=false:=by
      rw[←List.take_append_drop (i+1) N,List.all_append,htk,h0];rfl
    have hn:=hF hall
    rw[hall]
    exact .inr ⟨by simp,izB_all s N _ _ i _ _ hi ha hk (by omega) hsl (q5_ (n:=300) hsl (by omega)) (by rw[hn];rfl) rfl hl (y7_ N) (by omega) (by omega) hb (textZ_len _)⟩
   ·refine .inl ⟨i+1,⟨hi,htk.trans (by rw[bne_iff_ne];exact h0)⟩,by omega,?_⟩
    rw[take_map N i hi,a8_]
    exact izA_all s N _ _ i _ _ hi ha hk (by omega) (text_nat h0) hl (y7_ N) (by omega) (by omega) hb (by rw[←text_nat h0];exact textZ_len _)
  ·have he:i=N.length:=by omega
   subst he
   rw[List.take_length]at*
   rw[h2]
   exact .inr ⟨by simp,izZ_all s N _ _ N.length 0 0 rfl rfl hl (y7_ N) (by omega) (by omega) hb (textZ_len _)⟩
noncomputable def izLp (s:List UInt8)(N:List Nat)(e:Exit)(R:St):List (Nat×Lp):=[(7,⟨z1_ p_ 5 7,⟨[],[0,3,4,5,6],[0]⟩,izS0 s N,e,R⟩)]
theorem steps0_all (s:List UInt8)(h0:(s.length:Int)>300):∃(h:Hints) (p:List Prop),s7_ (z8_ p_ q4_ h (y1_ ([])) 60 5 ([.c (str s)]) ([]))=some (.c (.bool true),p)∧z7_ p:=by
  refine⟨⟨true,(bs [(18,true)])⟩,[decide ((↑s.length:Int)>300)=true],by kernel_rfl,?_⟩
  all_goals try simp(disch:=omega) only[std]
  all_goals repeat' apply And.intro
  all_goals first|exact True.intro|omega|with_reducible (first|rfl|assumption)|rfl
theorem steps1_all (s:List UInt8)(h0:s.length≤300):∃(h:Hints) (p:List Prop),s7_ (z8_ p_ q4_ h (y1_ (izLp s (z3_ s) .ret izR)) 60 5 ([.c (str s)]) ([]))=some (.c (.bool true),p)∧z7_ p:=by
  refine⟨⟨true,(bs [(18,false)])⟩,[decide ((↑s.length:Int)>300)=false,
 ((s.length:Nat)≤((1000000000:Nat))),
 ((z1_ p_ (5:FuncId) (7:Nat):Go.Code))=(z1_ p_ (5:FuncId) (7:Nat)),
 ((izS0 s (z3_ s):St))=(izS0 s (z3_ s))],by kernel_rfl,?_⟩
  all_goals try simp(disch:=omega) only[std]
  all_goals repeat' apply And.intro
  all_goals first|exact True.intro|omega|with_reducible (first|rfl|assumption)|rfl
theorem steps2_all (s a t:List UInt8)(x:Bool)(h0:s.length≤300)(d1:w3_ s)(d2:w3_ a)(hal:a.length≤100000)(h1:(y9_ s).getD []=t)(h2:(y9_ s).isSome=x)(h3:(y9_ a).getD []=t)(h4:(y9_ a).isSome=x):∃(h:Hints) (p:List Prop),s7_ (z8_ p_ q4_ h (y1_ (izLp s (z3_ s) (.exit 0) (izE s a))) 60 5 ([.c (str s)]) ([]))=some (.c (.bool true),p)∧z7_ p:=by
  refine⟨⟨true,(bs [(18,false),(65,true),(70,true)]++[(54,⟨.c (str t),none⟩),(55,⟨.c (.bool x),none⟩),(59,⟨.c (str t),none⟩),(60,⟨.c (.bool x),none⟩)])⟩,[decide ((↑s.length:Int)>300)=false,
 ((s.length:Nat)≤((1000000000:Nat))),
 ((z1_ p_ (5:FuncId) (7:Nat):Go.Code))=(z1_ p_ (5:FuncId) (7:Nat)),
 ((izS0 s (z3_ s):St))=(izS0 s (z3_ s)),
 ((s.length:Nat)≤((100000:Nat))),
 w3_ s,
 (((y9_ (sb { data:= { toList:=s}})).getD []:List UInt8))=(t),
 (((y9_ (sb { data:= { toList:=s}})).isSome:Bool))=(x),
 ((a.length:Nat)≤((100000:Nat))),
 w3_ a,
 (((y9_ (sb { data:= { toList:=a}})).getD []:List UInt8))=(t),
 (((y9_ (sb { data:= { toList:=a}})).isSome:Bool))=(x),
 (t==t)=true,
 (x==x)=true],by kernel_rfl,?_⟩
  all_goals try simp(disch:=omega) only[std,beq_self_eq_true]
  all_goals repeat' apply And.intro
  all_goals first|exact True.intro|omega|with_reducible (first|rfl|assumption)|exact d1|exact d2|exact h1|exact h2|exact h3|exact h4|rfl
theorem steps_law (s:List UInt8):∃hs lp fuel p,q3_ Ext0 p_ lp∧s7_ (z8_ p_ q4_ hs lp fuel 5 [.c (str s)] [])=some (.c (.bool true),p)∧z7_ p:=by
  by_cases h:(s.length:Int)>300
  ·obtain⟨hh,p,e,hp⟩:=steps0_all s h
   exact⟨_,_,_,_,z4_,e,hp⟩
  ·have hp:r0_ (z3_ s)=if(z3_ s).all (fun c=>r6_ c !=0)=true then some ((z3_ s).flatMap n8_)else none:=rfl
   have hn:(z3_ s).length≤100000:=by have:=signs_len s;omega
   have hn3:(z3_ s).length≤300:=by have:=signs_len s;omega
   have w:=iz_walk s (z3_ s) (by omega) hn (U8.g7_ s) (fun e=>by
     unfold y9_
     rw[hp,e];rfl)
   have d1:=q5_ (s:=s) (n:=300) (by omega) (by omega)
   cases hall:(z3_ s).all (fun c=>r6_ c !=0)with
   |false=>
    rw[hall]at w
    obtain⟨hh,p,e,hq⟩:=steps1_all s (by omega)
    exact⟨_,_,_,_,x4_ z4_ nd0 w,e,hq⟩
   |true=>
    rw[hall]at w hp
    have hst:=put_out hp
    have hF:y9_ (join ((z3_ s).flatMap n8_))=y9_ s:=by
      rw[dom_put hp]
      unfold y9_
      rw[hp];rfl
    have k1:=l4_ ((z3_ s).flatMap n8_)
    have k2:=out_len (z3_ s)
    obtain⟨hh,p,e,hq⟩:=steps2_all s (join ((z3_ s).flatMap n8_)) _ _ (by omega) d1 (q5_ (n:=3600) (by omega) (by omega)) (by omega) rfl rfl (by rw[hF]) (by rw[hF])
    exact⟨_,_,_,_,x4_ z4_ nd0 w,e,hq⟩
end Go.Proofs.YtmjldphagbobpaaDoor
