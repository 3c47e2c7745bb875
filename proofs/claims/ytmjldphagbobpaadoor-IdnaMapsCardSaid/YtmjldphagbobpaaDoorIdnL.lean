import Derived.Test.YtmjldphagbobpaaDoorIdnP
set_option linter.unusedVariables false
set_option linter.unusedSimpArgs false
namespace Go.Proofs.YtmjldphagbobpaaDoor
open IntKind (i64 u8 i32 u32 u64)
open _root_.Go.Proofs.Tryd renaming prog→p_
open Go.RowKit U8 Idn
theorem labF_len {l:List Nat}{t:List UInt8}(h:j1_ l=some t):t.length≤8*l.length+5:=by
  unfold j1_ at h
  have hb:(Pny.byt l).length=l.length:=by simp[Pny.byt]
  split at h
  ·split at h
   ·obtain rfl:=Option.some.inj h;omega
   ·cases h
  ·split at h
   ·obtain rfl:=Option.some.inj h;omega
   ·split at h
    ·rename_i hc
     rw[Bool.and_eq_true]at hc
     obtain rfl:=Option.some.inj h
     obtain⟨w,e,_,_,k1,k2⟩:=Pny.d3_ hc.1
     have hh:(Pny.hyp (Pny.bas l).length).length≤1:=by unfold Pny.hyp;split<;>simp
     have hx:xnB.length=4:=rfl
     have hb2:(Pny.byt (Pny.bas l)).length=(Pny.bas l).length:=by simp[Pny.byt]
     rw[e]
     simp only[List.length_append,hx,hb2]
     omega
    ·cases h
theorem domL_len:∀(q:List Nat) (t:List UInt8),h5_ (spl q)=some t→t.length≤14*q.length+5:=by
  have key:∀(ls:List (List Nat)) (t:List UInt8),h5_ ls=some t→t.length≤(ls.map fun l=>8*l.length+6).sum:=by
    intro ls
    induction ls with
    |nil=>intro t h;obtain rfl:=Option.some.inj (show some []=some t from h);simp
    |cons l r ih=>
     intro t h
     cases r with
     |nil=>
      have:=labF_len (show j1_ l=some t from h)
      simp;omega
     |cons y r=>
      rw[e7_ l (by simp)]at h
      split at h
      ·rename_i a b ha hb
       obtain rfl:=Option.some.inj h
       have h1:=labF_len ha
       have h2:=ih b hb
       rw[List.map_cons,List.sum_cons,List.length_append,List.length_cons]
       omega
      ·cases h
  have hs:∀q:List Nat,((spl q).map fun l=>8*l.length+6).sum≤14*q.length+6∧6≤((spl q).map fun l=>8*l.length+6).sum:=by
    intro q
    induction q with
    |nil=>simp[spl]
    |cons c r ih=>
     have hn:=d1_ r
     rw[spl_cons]
     split
     ·rw[List.map_cons,List.sum_cons,List.length_cons];simp only[List.length_nil];omega
     ·cases h:spl r with
      |nil=>exact absurd h hn
      |cons x s=>
       rw[h]at ih
       simp only[List.map_cons,List.sum_cons,List.headD_cons,List.tail_cons,List.length_cons]at ih ⊢
       omega
  intro q t h
  cases hq:spl q with
  |nil=>exact absurd hq (d1_ q)
  |cons x s=>
   have h1:=key _ t h
   have h2:=hs q
   have key2:∀(ls:List (List Nat)) (t:List UInt8),ls≠[]→h5_ ls=some t→t.length+1≤(ls.map fun l=>8*l.length+6).sum:=by
     intro ls
     induction ls with
     |nil=>intro t h;exact absurd rfl h
     |cons l r ih=>
      intro t _ h
      cases r with
      |nil=>
       have:=labF_len (show j1_ l=some t from h)
       simp;omega
      |cons y r=>
       rw[e7_ l (by simp)]at h
       split at h
       ·rename_i a b ha hb
        obtain rfl:=Option.some.inj h
        have h1:=labF_len ha
        have h2:=ih b (by simp) hb
        rw[List.map_cons,List.sum_cons,List.length_append,List.length_cons]
        omega
       ·cases h
   have h3:=key2 _ t (d1_ q) h
   omega
theorem q5_ {s:List UInt8}{n:Nat}(h:s.length≤n)(hn:12*n≤100000):w3_ s:=by
  intro q hq
  have h1:=put_len hq
  have h2:=signs_len s
  have h3:=l4_ q
  omega
theorem dom_len {s t:List UInt8}(h:y9_ s=some t):t.length≤42*s.length+5:=by
  unfold y9_ at h
  split at h
  ·rename_i q hq
   have h1:=put_len hq
   have h2:=signs_len s
   have h3:=domL_len q t h
   omega
  ·cases h
theorem domLen_out {s t:List UInt8}(h:y9_ s=some t)(hs:s.length≤500):w3_ t:=by
  obtain⟨h1,_⟩:=dom_once h
  intro q hq
  rw[signs_plain fun c hc=>(h1 c hc).1,put_stays fun c hc=>b0_ (h1 c hc).1 (h1 c hc).2]at hq
  obtain rfl:=Option.some.inj hq
  have:=dom_len h
  have h4:=l4_ (t5_ t)
  have h5:(t5_ t).length=t.length:=by simp[t5_]
  omega
noncomputable def clIs:CallT:=p3_ p_ (r4_ [(10,mapSpec),(15,labelSpec),(14,domSpec)]) (m0_ []) 500 8
theorem clIs_ok:x7_ p_ clIs:=s3_ mixed (y8_ pmap_ok (y8_ plabel_ok (y8_ pdom_ok v2_))) s8_ 500 8
noncomputable def lsm_X (h_:List (Nat×Bool)):=y3_ p_ 9 (z8_ p_ clIs ⟨true,bs h_++(bs [(38,true),(42,false),(46,false),(50,true),(54,false),(56,true),(59,true),(63,true),(67,true),(71,true),(75,true),(79,true),(83,true),(98,true),(109,true),(113,false),(118,false)])⟩ (y1_ ([])) 60 9 ([]) ([]))
theorem lsm_1:lsm_X []=some ((AV.c ((Value.bool true))),[(-9223372036854775808:Int)≤65,
 (65:Int)≤9223372036854775807,
 (-9223372036854775808:Int)≤304,
 (304:Int)≤9223372036854775807,
 (-9223372036854775808:Int)≤173,
 (173:Int)≤9223372036854775807,
 (-9223372036854775808:Int)≤55296,
 (55296:Int)≤9223372036854775807,
 (((18:Nat):Nat)≤((100000:Nat))),
 w3_ [(66:UInt8),(195:UInt8),(156:UInt8),(67:UInt8),(72:UInt8),(69:UInt8),(82:UInt8),(46:UInt8),(69:UInt8),(120:UInt8),(97:UInt8),(109:UInt8),(112:UInt8),(108:UInt8),(101:UInt8),(227:UInt8),(128:UInt8),(130:UInt8)],
 (true)=true,
 (((5:Nat):Nat)≤((100000:Nat))),
 w3_ [(120:UInt8),(110:UInt8),(45:UInt8),(45:UInt8),(97:UInt8)],
 (false)=false,
 (((3:Nat):Nat)≤((100000:Nat))),
 w3_ [(204:UInt8),(129:UInt8),(97:UInt8)],
 (false)=false,
 (((12:Nat):Nat)≤((100000:Nat))),
 w3_ [(239:UInt8),(188:UInt8),(161:UInt8),(226:UInt8),(132:UInt8),(128:UInt8),(194:UInt8),(173:UInt8),(240:UInt8),(157:UInt8),(159:UInt8),(153:UInt8)],
 (true)=true,
 (((6:Nat):Nat)≤((100000:Nat))),
 w3_ [(120:UInt8),(110:UInt8),(45:UInt8),(45:UInt8),(195:UInt8),(169:UInt8)],
 (false)=false,
 (true)=true,
 (true)=true,
 (true)=true,
 (true)=true,
 (true)=true,
 (true)=true,
 (true)=true,
 (true)=true,
 (true)=true,
 (((1:Nat):Nat))=((1:Nat)),
 ((List.take (2:Nat) (List.drop (0:Nat) ([AV.c (Value.int IntKind.i64 (252:Int))]++([AV.c (Value.int IntKind.i64 (97:Int))]++[]))):List AV))=(z2_ (unI (List.take (2:Nat) (List.drop (0:Nat) ([AV.c (Value.int IntKind.i64 (252:Int))]++([AV.c (Value.int IntKind.i64 (97:Int))]++[])))))),
 (((2:Nat):Nat))=((2:Nat)),
 (((2:Nat):Nat)≤((1000000000:Nat))),
 s1_ (unI (List.take (2:Nat) (List.drop (0:Nat) ([AV.c (Value.int IntKind.i64 (252:Int))]++([AV.c (Value.int IntKind.i64 (97:Int))]++[]))))),
 (s9_ [] (AV.c (Value.bool (t2_ (unI (List.take (2:Nat) (List.drop (0:Nat) ([AV.c (Value.int IntKind.i64 (252:Int))]++([AV.c (Value.int IntKind.i64 (97:Int))]++[])))))))))=true,
 (true)=true,
 (((1:Nat):Nat))=((1:Nat)),
 ((List.take (1:Nat) (List.drop (0:Nat) ([AV.c (Value.int IntKind.i64 (97:Int))]++[])):List AV))=(z2_ (unI (List.take (1:Nat) (List.drop (0:Nat) ([AV.c (Value.int IntKind.i64 (97:Int))]++[]))))),
 (((1:Nat):Nat))=((1:Nat)),
 (((1:Nat):Nat)≤((1000000000:Nat))),
 s1_ (unI (List.take (1:Nat) (List.drop (0:Nat) ([AV.c (Value.int IntKind.i64 (97:Int))]++[])))),
 (s9_ [] (AV.c (Value.bool (t2_ (unI (List.take (1:Nat) (List.drop (0:Nat) ([AV.c (Value.int IntKind.i64 (97:Int))]++[]))))))))=true,
 (false)=false,
 (((1:Nat):Nat))=((1:Nat)),
 ((List.take (2:Nat) (List.drop (0:Nat) ([AV.c (Value.int IntKind.i64 (252:Int))]++([AV.c (Value.int IntKind.i64 (65:Int))]++[]))):List AV))=(z2_ (unI (List.take (2:Nat) (List.drop (0:Nat) ([AV.c (Value.int IntKind.i64 (252:Int))]++([AV.c (Value.int IntKind.i64 (65:Int))]++[])))))),
 (((2:Nat):Nat))=((2:Nat)),
 (((2:Nat):Nat)≤((1000000000:Nat))),
 s1_ (unI (List.take (2:Nat) (List.drop (0:Nat) ([AV.c (Value.int IntKind.i64 (252:Int))]++([AV.c (Value.int IntKind.i64 (65:Int))]++[]))))),
 (s9_ [] (AV.c (Value.bool (t2_ (unI (List.take (2:Nat) (List.drop (0:Nat) ([AV.c (Value.int IntKind.i64 (252:Int))]++([AV.c (Value.int IntKind.i64 (65:Int))]++[])))))))))=true,
 (false)=false]):=by kernel_rfl
theorem lsm_all (d1:w3_ [66,195,156,67,72,69,82,46,69,120,97,109,112,108,101,227,128,130])(d2:w3_ [120,110,45,45,97])(d3:w3_ [204,129,97])(d4:w3_ [239,188,161,226,132,128,194,173,240,157,159,153])(d5:w3_ [120,110,45,45,195,169])(r1:s1_ [252,97])(r2:s1_ [97])(r3:s1_ [252,65]):∃(h:Hints) (p:List Prop),y3_ p_ 9 (z8_ p_ clIs h (y1_ ([])) 60 9 ([]) ([]))=some (.c (.bool true),p)∧z7_ p:=by
  have eR:=lsm_1
  refine⟨_,_,eR.trans (congrArg (fun r=>some (r,_)) ?_),?_⟩
  ·rfl
  ·simp only[z7_]
   repeat' apply And.intro
   all_goals first|exact True.intro|exact d1|exact d2|exact d3|exact d4|exact d5|exact r1|exact r2|exact r3|kernel_rfl|decide+kernel
def small8Spec:Spec
  | []=>some (.c (.bool true),[])
  |_=>none
theorem rng_of {L:List Int}(h:L.all (fun z=>decide (-9223372036854775808≤z)&&decide (z≤9223372036854775807))=true):s1_ L:=fun z hz=>by
  have:=List.all_eq_true.1 h z hz
  rw[Bool.and_eq_true,decide_eq_true_eq,decide_eq_true_eq]at this
  exact this
theorem small8_ok:w2_ p_ 9 small8Spec:=by
  refine v5_ mixed clIs_ok fun args r q hs hq=>?_
  unfold small8Spec at hs
  split at hs
  ·simp only[oi_]at hs
   obtain⟨rfl,rfl⟩:=hs
   obtain⟨hh,p,e,hp⟩:=lsm_all (q5_ (n:=20) (by decide) (by omega)) (q5_ (n:=20) (by decide) (by omega)) (q5_ (n:=20) (by decide) (by omega)) (q5_ (n:=20) (by decide) (by omega)) (q5_ (n:=20) (by decide) (by omega)) (rng_of (by decide)) (rng_of (by decide)) (rng_of (by decide))
   exact⟨_,_,_,_,z4_,e,hp⟩
  ·simp at hs
noncomputable def q4_:CallT:=p3_ p_ (r4_ [(9,small8Spec),(10,mapSpec),(15,labelSpec),(14,domSpec),(11,signSpec),(13,signsSpecU),(12,intsSpec2)]) (m0_ [(16,dec7Spec)]) 500 8
theorem clIl_ok:x7_ p_ q4_:=s3_ mixed (y8_ small8_ok (y8_ pmap_ok (y8_ plabel_ok (y8_ pdom_ok (y8_ sign_ok (y8_ signsU_ok (y8_ ints2_ok v2_))))))) (w5_ pdec_ok s8_) 500 8
def ioS (t:List UInt8)(i:Nat):St:=⟨frame 62 [(3,.c (.bool true)),(4,.c (str t)),(6,.c (.int .i64 i))],[]⟩
theorem ioA_all (t:List UInt8)(i:Nat)(hi:i<t.length)(h1:(((t.getD i 0).toNat:Nat):Int)<128)(h2:¬(65≤(((t.getD i 0).toNat:Nat):Int)∧(((t.getD i 0).toNat:Nat):Int)≤90))(hl:t.length≤100000):x1_ Ext0 p_ cl0 (z1_ p_ 4 8) (ioS t i) (.normal) (ioS t (i+1)):=by
  refine v0_ (decide ((↑(t.getD i (0:UInt8)).toNat:Int)≥(65:Int))) (fun hc40=>⟨⟨true,bs [(40,true)]++(bs [(29,true),(35,false),(47,false)])⟩,_,60,⟨[],[3,4,6],[]⟩,[decide ((↑i:Int)<↑t.length)=true,
 (0:Int)≤↑i,
 (↑i:Int)<↑t.length,
 (decide ((↑(t.getD i 0).toNat:Int)≥(128:Int)))=false,
 (0:Int)≤↑i,
 (↑i:Int)<↑t.length,
 (decide ((↑(t.getD i 0).toNat:Int)≥(65:Int)))=true,
 (0:Int)≤↑i,
 (↑i:Int)<↑t.length,
 (decide ((↑(t.getD i 0).toNat:Int)≤(90:Int)))=false,
 (i64.min:Int)≤↑i+1,
 (↑i+1:Int)≤i64.max],z4_,by decide,by kernel_rfl,?_⟩)
    (fun hc40=>⟨⟨true,bs [(40,false)]++(bs [(29,true),(35,false),(47,false)])⟩,_,60,⟨[],[3,4,6],[]⟩,[decide ((↑i:Int)<↑t.length)=true,
 (0:Int)≤↑i,
 (↑i:Int)<↑t.length,
 (decide ((↑(t.getD i 0).toNat:Int)≥(128:Int)))=false,
 (0:Int)≤↑i,
 (↑i:Int)<↑t.length,
 (decide ((↑(t.getD i 0).toNat:Int)≥(65:Int)))=false,
 (false)=false,
 (i64.min:Int)≤↑i+1,
 (↑i+1:Int)≤i64.max],z4_,by decide,by kernel_rfl,?_⟩)
  all_goals try simp only[dz]at hc40
  all_goals try simp(disch:=omega) only[std]
  all_goals repeat' apply And.intro
  all_goals first|exact True.intro|omega|with_reducible (first|rfl|assumption)|rfl
theorem ioZ_all (t:List UInt8)(i:Nat)(hi:i=t.length)(hl:t.length≤100000):x1_ Ext0 p_ cl0 (z1_ p_ 4 8) (ioS t i) (.exit 0) (ioS t i):=by
  refine⟨⟨true,(bs [(29,false)])⟩,_,60,⟨[],[3,4,6],[]⟩,[decide ((↑i:Int)<↑t.length)=false],z4_,by decide,by kernel_rfl,?_⟩
  all_goals try simp(disch:=omega) only[std]
  all_goals repeat' apply And.intro
  all_goals first|exact True.intro|omega|with_reducible (first|rfl|assumption)|exact hi|rfl
theorem io_walk (t:List UInt8)(hl:t.length≤100000)(h:∀c∈t5_ t,c<128∧¬(65≤c∧c≤90)):Tri Ext0 p_ (.loop (z1_ p_ 4 8)) (ioS t 0) (.exit 0) (ioS t t.length):=
  d6_ mixed w6_ (ioS t) t.length (by simp) (fun i hi=>by
    have:=h ((t.getD i 0).toNat) (List.mem_map.2 ⟨_,by
      have e:t[i]=t.getD i 0:=by simp[List.getD,hi]
      rw[←e];exact List.getElem_mem _,rfl⟩)
    exact ioA_all t i hi (by omega) (by omega) hl) (ioZ_all t t.length rfl hl) 0 (Nat.zero_le _)
noncomputable def ioLp (t:List UInt8):List (Nat×Lp):=[(8,⟨z1_ p_ 4 8,⟨[],[3,4,6],[]⟩,ioS t 0,.exit 0,ioS t t.length⟩)]
theorem once0_all (s:List UInt8)(h0:(s.length:Int)>500):∃(h:Hints) (p:List Prop),s7_ (z8_ p_ q4_ h (y1_ ([])) 60 4 ([.c (str s)]) ([]))=some (.c (.bool true),p)∧z7_ p:=by
  refine⟨⟨true,(bs [(12,true)])⟩,[decide ((↑s.length:Int)>500)=true],by kernel_rfl,?_⟩
  all_goals try simp(disch:=omega) only[std]
  all_goals repeat' apply And.intro
  all_goals first|exact True.intro|omega|with_reducible (first|rfl|assumption)|rfl
theorem once1_all (s:List UInt8)(h0:s.length≤500)(hd:w3_ s)(h1:(y9_ s).isSome=false)(h2:(y9_ s).getD []=[]):∃(h:Hints) (p:List Prop),s7_ (z8_ p_ q4_ h (y1_ ([])) 60 4 ([.c (str s)]) ([]))=some (.c (.bool true),p)∧z7_ p:=by
  refine⟨⟨true,(bs [(12,false),(18,false),(24,true)]++[(17,⟨.c (str []),none⟩)])⟩,[decide ((↑s.length:Int)>500)=false,
 ((s.length:Nat)≤((100000:Nat))),
 w3_ s,
 (((y9_ (sb { data:= { toList:=s}})).getD []:List UInt8))=([]),
 ((y9_ (sb { data:= { toList:=s}})).isSome)=false,
 (true)=true],by kernel_rfl,?_⟩
  all_goals try simp(disch:=omega) only[std,beq_self_eq_true]
  all_goals repeat' apply And.intro
  all_goals first|exact True.intro|omega|with_reducible (first|rfl|assumption)|exact hd|exact h1|exact h2|rfl
theorem once2_all (s t:List UInt8)(h0:s.length≤500)(hd:w3_ s)(h1:(y9_ s).isSome=true)(h2:(y9_ s).getD []=t)(htl:t.length≤100000)(hd2:w3_ t)(h3:(y9_ t).isSome=true)(h4:(y9_ t).getD []=t):∃(h:Hints) (p:List Prop),s7_ (z8_ p_ q4_ h (y1_ (ioLp t)) 60 4 ([.c (str s)]) ([]))=some (.c (.bool true),p)∧z7_ p:=by
  refine⟨⟨true,(bs [(12,false),(18,true),(52,true),(60,true)]++[(17,⟨.c (str t),none⟩),(51,⟨.c (str t),none⟩)])⟩,[decide ((↑s.length:Int)>500)=false,
 ((s.length:Nat)≤((100000:Nat))),
 w3_ s,
 (((y9_ (sb { data:= { toList:=s}})).getD []:List UInt8))=(t),
 ((y9_ (sb { data:= { toList:=s}})).isSome)=true,
 ((z1_ p_ (4:FuncId) (8:Nat):Go.Code))=(z1_ p_ (4:FuncId) (8:Nat)),
 ((ioS t (0:Nat):St))=(ioS t (0:Nat)),
 ((t.length:Nat)≤((100000:Nat))),
 w3_ t,
 (((y9_ (sb { data:= { toList:=t}})).getD []:List UInt8))=(t),
 ((y9_ (sb { data:= { toList:=t}})).isSome)=true,
 (t==t)=true],by kernel_rfl,?_⟩
  all_goals try simp(disch:=omega) only[std,beq_self_eq_true]
  all_goals repeat' apply And.intro
  all_goals first|exact True.intro|omega|with_reducible (first|rfl|assumption)|exact hd|exact h1|exact h2|exact hd2|exact h3|exact h4|rfl
theorem once_law (s:List UInt8):∃hs lp fuel p,q3_ Ext0 p_ lp∧s7_ (z8_ p_ q4_ hs lp fuel 4 [.c (str s)] [])=some (.c (.bool true),p)∧z7_ p:=by
  by_cases h:(s.length:Int)>500
  ·obtain⟨hh,p,e,hp⟩:=once0_all s h
   exact⟨_,_,_,_,z4_,e,hp⟩
  ·have hd:=q5_ (s:=s) (n:=500) (by omega) (by omega)
   cases hF:y9_ s with
   |none=>
    obtain⟨hh,p,e,hp⟩:=once1_all s (by omega) hd (by rw[hF];rfl) (by rw[hF];rfl)
    exact⟨_,_,_,_,z4_,e,hp⟩
   |some t=>
    obtain⟨h1,h2⟩:=dom_once hF
    have hl:=dom_len hF
    obtain⟨hh,p,e,hp⟩:=once2_all s t (by omega) hd (by rw[hF];rfl) (by rw[hF];rfl) (by omega) (domLen_out hF (by omega)) (by rw[h2];rfl) (by rw[h2];rfl)
    exact⟨_,_,_,_,x4_ z4_ List.nodup_nil (io_walk t (by omega) h1),e,hp⟩
end Go.Proofs.YtmjldphagbobpaaDoor
