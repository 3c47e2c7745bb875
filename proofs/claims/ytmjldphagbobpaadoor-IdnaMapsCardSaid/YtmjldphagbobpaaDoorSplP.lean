import Derived.Test.YtmjldphagbobpaaDoorSpl
import Derived.Test.YtmjldphagbobpaaDoorStr
set_option linter.unusedVariables false
set_option linter.unusedSimpArgs false
namespace Go.Proofs.YtmjldphagbobpaaDoor
open IntKind (i64 u8 i32 u32 u64)
open _root_.Go.Proofs.Tryd renaming prog→p_
open Go.RowKit
theorem splC_cut (k:UInt8):∀l,((n0_ k l).2.2=true→w4_ k l=(n0_ k l).1::w4_ k (n0_ k l).2.1)∧((n0_ k l).2.2=false→w4_ k l=[l])
  | []=>⟨fun h=>by simp[n0_]at h,fun _=>rfl⟩
  |x::r=>by
   obtain⟨h1,h2⟩:=splC_cut k r
   unfold n0_
   rw[g0_]
   by_cases hx:x=k
   ·rw[if_pos hx,if_pos hx]
    exact⟨fun _=>rfl,fun h=>by simp at h⟩
   ·rw[if_neg hx,if_neg hx]
    simp only
    exact⟨fun h=>by rw[h1 h];rfl,fun h=>by rw[h2 h];rfl⟩
theorem cnt_fold (l:List UInt8)(c:UInt8):(ByteArray.foldl (fun(n:Int) x=>if(x==(c.toNat:Int).toNat.toUInt8)=true then n+1 else n) ((0:Nat):Int) ⟨⟨l⟩⟩)=((l.count c:Nat):Int):=by
  rw[Lib.foldl_data,show(c.toNat:Int).toNat.toUInt8=c by rw[Int.toNat_natCast];exact UInt8.ofNat_toNat,Lib.count_foldl]
  simp[Lib.countByte]
def cntSpec:Spec
  | [.c (.string s),.c (.string p)]=>some (.c (.int .i64 ((sb s).count ((sb p).headD 0):Nat)),[(sb s).length≤9223372036854775807,sb p=[(sb p).headD 0]])
  |_=>none
theorem spcn_all (l:List UInt8)(c:UInt8)(hl:l.length≤9223372036854775807):∃(h:Hints) (p:List Prop),y3_ p_ 53 (z8_ p_ cl0 h (y1_ ([])) 60 53 ([.c (str l),.c (str [c])]) ([]))=some (.c (.int .i64 (l.count c:Nat)),p)∧z7_ p:=by
  refine⟨⟨true,([(19,⟨.c (.int .i64 (l.count c:Nat)),none⟩)])⟩,[(0:Int)≤0,
 (0:Int)<↑(1:Nat),
 ((ByteArray.foldl (fun n x=>if(x==(↑((sb { data:= { toList:=[c]}}).getD (Int.toNat (0:Int)) (0:UInt8)).toNat:Int).toNat.toUInt8)=true then n+(1:Int)else n) (↑(0:Nat):Int) { data:= { toList:=l}} :Int))=((↑(List.count c l):Int))],by kernel_rfl,?_⟩
  all_goals try simp(disch:=omega) only[std]
  all_goals repeat' apply And.intro
  all_goals first|exact True.intro|omega|with_reducible (first|rfl|assumption)|(have h:=cnt_fold l c;simp only[beq_iff_eq,Int.toNat_natCast]at h;exact h)|rfl
theorem cnt_ok:w2_ p_ 53 cntSpec:=by
  refine v5_ mixed w6_ fun args r q hs hq=>?_
  unfold cntSpec at hs
  split at hs
  ·rename_i l p
   simp only[oi_]at hs
   obtain⟨rfl,rfl⟩:=hs
   obtain⟨⟨⟨l⟩⟩,rfl⟩:∃b:ByteArray,b=l:=⟨l,rfl⟩
   obtain⟨⟨⟨p⟩⟩,rfl⟩:∃b:ByteArray,b=p:=⟨p,rfl⟩
   simp only[p5_,z7_,and_true]at hq ⊢
   obtain⟨hl,hp1⟩:=hq
   generalize p.headD 0=c at hp1 ⊢
   subst hp1
   obtain⟨hh,q,e,hp⟩:=spcn_all l c hl
   exact⟨_,_,_,_,z4_,e,hp⟩
  ·simp at hs
noncomputable def clSp:CallT:=l3_ p_ (r4_ [(53,cntSpec),(70,idxSpec)]) 500 8
theorem clSp_ok:x7_ p_ clSp:=q7_ mixed (y8_ cnt_ok (y8_ idx_ok v2_)) 500 8
def gsC (A:List (List UInt8))(m:Nat):List AV:=u2_ A++List.replicate m (.c (str []))
def gsS (c:UInt8)(A:List (List UInt8))(m i n:Nat)(l:List UInt8):St:=⟨frame 66 [(0,.c (str l)),(1,.c (str [c])),(2,.c (.int .i64 0)),(3,.c (.int .i64 n)),(9,.sl 0 0 (n+1)),(10,.c (.int .i64 i))],[some ⟨9,false,gsC A m⟩]⟩
def gsE (A:List (List UInt8))(m i n:Nat)(l:List UInt8):St:=⟨frame 66 [(0,.c (str l)),(9,.sl 0 0 (n+1)),(10,.c (.int .i64 i))],[some ⟨9,false,gsC A m⟩]⟩
theorem gsC_put (A:List (List UInt8))(m:Nat)(t:List UInt8):List.take A.length (gsC A (m+1))++[.c (str t)]++List.drop (A.length+1) (gsC A (m+1))=gsC (A++[t]) m:=by
  have h:=o4_ A
  unfold gsC
  rw[strs_app,show A.length=(u2_ A).length from h.symm,List.take_left,show(u2_ A).length+1=(u2_ A++[AV.c (str [])]).length by simp,List.replicate_succ,show u2_ A++AV.c (str [])::List.replicate m (AV.c (str []))=(u2_ A++[AV.c (str [])])++List.replicate m (AV.c (str []))by simp,List.drop_left]
  rfl
theorem gsC_len (A:List (List UInt8))(m:Nat):(gsC A m).length=A.length+m:=by simp[gsC,o4_]
theorem gsa_all (c:UInt8)(A:List (List UInt8))(m i n:Nat)(a r:List UInt8)(hi:i<n)(hA:A.length=i)(hk:Lib.indexByte (a++c::r) c=(a.length:Nat))(hl:(a++c::r).length≤1000000000)(hal:a.length≤1000000000)(hc:(gsC A (m+1)).length=n+1)(hp:List.take i (gsC A (m+1))++[AV.c (str a)]++List.drop (i+1) (gsC A (m+1))=gsC (A++[a]) m)(e1:List.drop 0 (List.take a.length (a++c::r))=a)(e2:List.drop (a.length+1) (a++c::r)=r)(hn:n≤1000000000)(hll:a.length+(r.length+1)=(a++c::r).length):x1_ Ext0 p_ clSp (z1_ p_ 39 11) (gsS c A (m+1) i n (a++c::r)) (.normal) (gsS c (A++[a]) m (i+1) n r):=by
  refine⟨⟨true,(bs [(36,true),(41,false)]++[(39,⟨.c (.int .i64 a.length),none⟩),(48,⟨.c (str a),none⟩),(100049,⟨.any,some (gsC (A++[a]) m)⟩),(54,⟨.c (.int .i64 (a.length+1:Nat)),none⟩),(55,⟨.c (str r),none⟩)])⟩,_,60,⟨[],[0,1,2,3,9,10],[0]⟩,[decide ((↑i:Int)<↑n)=true,
 (((a++c::r).length:Nat)≤((9223372036854775807:Nat))),
 (([c]:List UInt8))=([[c].headD (0:UInt8)]),
 ((Lib.indexByte (a++c::r) ([c].headD (0:UInt8)):Int))=((↑a.length:Int)),
 (false)=false,
 (i64.min:Int)≤↑a.length+0,
 (↑a.length+0:Int)≤i64.max,
 (0:Int)≤0,
 (0:Int)≤↑a.length+0,
 (↑a.length+0:Int)≤↑(a++c::r).length,
 ((List.drop (Int.toNat (0:Int)) (List.take ((↑a.length:Int)+(0:Int)).toNat (a++c::r)):List UInt8))=(a),
 (0:Int)≤↑i,
 (↑i:Int)<↑(n+1),
 ((i+(0:Nat)+(1:Nat):Nat)≤((gsC A (m+(1:Nat))).length)),
 y0_ (AV.any) (AV.any),
 ((List.take (i+(0:Nat)) (gsC A (m+(1:Nat)))++[AV.c (str a)]++List.drop (i+(0:Nat)+(1:Nat)) (gsC A (m+(1:Nat))):List AV))=(gsC (A++[a]) m),
 (i64.min:Int)≤↑a.length+↑(1:Nat),
 (↑a.length+↑(1:Nat):Int)≤i64.max,
 (↑a.length+↑(1:Nat):Int)=↑(a.length+1),
 (0:Int)≤↑(a.length+1),
 (↑(a.length+1):Int)≤↑(a++c::r).length,
 (↑(a++c::r).length:Int)≤↑(a++c::r).length,
 ((List.drop (a.length+(1:Nat)) (List.take (a++c::r).length (a++c::r)):List UInt8))=(r),
 (i64.min:Int)≤↑i+1,
 (↑i+1:Int)≤i64.max],z4_,by decide,by kernel_rfl,?_⟩
  all_goals try simp(disch:=omega) only[std,hc]
  all_goals repeat' apply And.intro
  all_goals first|exact True.intro|omega|with_reducible (first|rfl|assumption)|exact hk|exact hp|exact e1|exact e2|rfl|exact hA|exact hc|exact hll
theorem gsz_all (c:UInt8)(A:List (List UInt8))(m i n:Nat)(l:List UInt8)(hi:i=n):x1_ Ext0 p_ clSp (z1_ p_ 39 11) (gsS c A m i n l) (.exit 0) (gsE A m i n l):=by
  refine⟨⟨true,(bs [(36,false)])⟩,_,60,⟨[],[0,9,10],[0]⟩,[decide ((↑i:Int)<↑n)=false],z4_,by decide,by kernel_rfl,?_⟩
  all_goals try simp(disch:=omega) only[std]
  all_goals repeat' apply And.intro
  all_goals first|exact True.intro|omega|with_reducible (first|rfl|assumption)|exact hi|rfl
theorem gs_walk (c:UInt8)(l0:List UInt8)(hl0:l0.length≤1000000000):Tri Ext0 p_ (.loop (z1_ p_ 39 11)) (gsS c [] (l0.count c+1) 0 (l0.count c) l0) (.exit 0) (gsE ((w4_ c l0).dropLast) 1 (l0.count c) (l0.count c) ((w4_ c l0).getLastD [])):=by
  have hcl:=List.count_le_length (a:=c) (l:=l0)
  refine n9_ mixed clSp_ok (fun x:List (List UInt8)×List UInt8=>gsS c x.1 (l0.count c+1-x.1.length) x.1.length (l0.count c) x.2) (fun x=>w4_ c l0=x.1++w4_ c x.2∧x.2.length≤l0.length) (fun x=>l0.count c-x.1.length) (fun x hx=>?_) ([],l0) ⟨rfl,Nat.le_refl _⟩
  obtain⟨A,l⟩:=x
  obtain⟨h1,h2⟩:=hx
  simp only at h1 h2 ⊢
  have hlen:=congrArg List.length h1
  rw[j8_,List.length_append,j8_]at hlen
  obtain⟨k1,k2⟩:=splC_cut c l
  by_cases hi:A.length<l0.count c
  ·have hb:(n0_ c l).2.2=true:=by
     cases hb:(n0_ c l).2.2 with
     |true=>rfl
     |false=>
      have:=congrArg List.length (k2 hb)
      rw[j8_]at this
      simp only[List.length_singleton]at this
      omega
   have hk:=k1 hb
   obtain⟨e1,e2⟩:=(cutF_idx c l).1 hb
   generalize (n0_ c l).1=a at*
   generalize (n0_ c l).2.1=r at*
   subst e2
   have hll:a.length+(r.length+1)=(a++c::r).length:=by simp
   obtain⟨m,hm⟩:∃m,l0.count c+1-A.length=m+1:=⟨l0.count c-A.length,by omega⟩
   refine .inl ⟨(A++[a],r),⟨by rw[h1,hk];simp,by show r.length≤l0.length;omega⟩,by simp only[List.length_append,List.length_singleton];omega,?_⟩
   simp only[List.length_append,List.length_singleton]
   rw[hm,show l0.count c+1-(A.length+1)=m by omega]
   exact gsa_all c A m A.length (l0.count c) a r hi rfl e1 (by omega) (by omega) (by rw[gsC_len];omega) (gsC_put A m a) (by simp) (by rw[show a++c::r=(a++[c])++r by simp,show a.length+1=(a++[c]).length by simp,List.drop_left]) (by omega) hll
  ·have hlast:w4_ c l=[l]:=by
     refine k2 ?_
     cases hb:(n0_ c l).2.2 with
     |false=>rfl
     |true=>
      have h3:=congrArg List.length (k1 hb)
      have h4:=splC_ne c (n0_ c l).2.1
      have h5:0<(w4_ c (n0_ c l).2.1).length:=List.length_pos_iff.2 h4
      rw[j8_,List.length_cons]at h3
      omega
   have h3:=congrArg List.length hlast
   rw[j8_]at h3
   simp only[List.length_singleton]at h3
   rw[hlast]at h1
   rw[h1,List.dropLast_concat,List.getLastD_eq_getLast?,List.getLast?_concat]
   have hA:A.length=l0.count c:=by omega
   rw[hA,show l0.count c+1-l0.count c=1 by omega]
   exact .inr ⟨by simp,gsz_all c A 1 (l0.count c) (l0.count c) l rfl⟩
theorem gsC_all (A:List (List UInt8))(t:List UInt8):List.take A.length (gsC A 1)++[.c (str t)]++List.drop (A.length+1) (gsC A 1)=u2_ (A++[t]):=by
  rw[show(1:Nat)=0+1 from rfl,gsC_put]
  simp[gsC]
theorem gsm_all (c:UInt8)(l:List UInt8)(A:List (List UInt8))(n:Nat)(t:List UInt8)(hl:l.length≤1000000000)(hn:l.count c=n)(hnl:n≤l.length)(hA:A.length=n)(hp:List.take n (gsC A 1)++[AV.c (str t)]++List.drop (n+1) (gsC A 1)=u2_ (A++[t]))(hs:(u2_ (A++[t])).length=n+1)(hg:(gsC A 1).length=n+1):∃(h:Hints) (p:List Prop),y3_ p_ 39 (z8_ p_ clSp h (y1_ ([(11,⟨z1_ p_ 39 11,⟨[],[0,1,2,3,9,10],[0]⟩,gsS c [] (n+1) 0 n l,.exit 0,gsE A 1 n n t⟩)])) 60 39 ([.c (str l),.c (str [c]),.c (.int .i64 0),.c (.int .i64 (-1))]) ([]))=some (.fs 1 (n+1) (u2_ (A++[t])),p)∧z7_ p:=by
  refine⟨⟨true,([(23,⟨.c (.int .i64 n),none⟩),(29,⟨.c (.int .i64 (n+1:Nat)),none⟩),(31,⟨.sl 0 0 (n+1),some (gsC [] (n+1))⟩),(33,⟨.c (.int .i64 n),none⟩),(100061,⟨.any,some (u2_ (A++[t]))⟩),(64,⟨.c (.int .i64 (n+1:Nat)),none⟩),(65,⟨.sl 0 0 (n+1),none⟩)])⟩,[((l.length:Nat)≤((9223372036854775807:Nat))),
 (([c]:List UInt8))=([[c].headD (0:UInt8)]),
 (((↑(List.count ([c].headD (0:UInt8)) l):Int):Int))=((↑n:Int)),
 (i64.min:Int)≤↑n+1,
 (↑n+1:Int)≤i64.max,
 (i64.min:Int)≤↑l.length+1,
 (↑l.length+1:Int)≤i64.max,
 ((if(↑l.length:Int)+(1:Int)<(↑n:Int)+(1:Int)then(↑l.length:Int)+(1:Int)else(↑n:Int)+(1:Int):Int))=((↑(n+(1:Nat)):Int)),
 (0:Int)≤↑(n+1),
 (↑(n+1):Int)≤↑(n+1),
 (↑(n+1)*↑(16:Nat):Int)≤140737488355328,
 (↑(n+1):Int)≤4611686018427387904,
 y0_ ((AV.sl 0 0 (n+(1:Nat)))) ((AV.sl 0 0 (n+(1:Nat)))),
 ((List.replicate (n+(1:Nat)) (AV.c (Value.string { data:= #[]})):List AV))=(gsC [] (n+(1:Nat))),
 (i64.min:Int)≤↑(n+1)-1,
 (↑(n+1)-1:Int)≤i64.max,
 (↑(n+1)-1:Int)=↑n,
 ((z1_ p_ (39:FuncId) (11:Nat):Go.Code))=(z1_ p_ (39:FuncId) (11:Nat)),
 ((gsS c [] (n+(1:Nat)) (0:Nat) n l:St))=(gsS c [] (n+(1:Nat)) (0:Nat) n l),
 (0:Int)≤↑n,
 (↑n:Int)<↑(n+1),
 ((n+(0:Nat)+(1:Nat):Nat)≤((gsC A (1:Nat)).length)),
 y0_ (AV.any) (AV.any),
 ((List.take (n+(0:Nat)) (gsC A (1:Nat))++[AV.c (str t)]++List.drop (n+(0:Nat)+(1:Nat)) (gsC A (1:Nat)):List AV))=(u2_ (A++[t])),
 (i64.min:Int)≤↑n+1,
 (↑n+1:Int)≤i64.max,
 (↑n+1:Int)=↑(n+1),
 (0:Int)≤0,
 (0:Int)≤↑(n+1),
 (↑(n+1):Int)≤↑(n+1),
 y0_ ((AV.sl 0 0 (n+(1:Nat)-Int.toNat (0:Int)))) ((AV.sl 0 0 (n+(1:Nat))))],by kernel_rfl,?_⟩
  all_goals try simp(disch:=omega) only[std,hs,hg]
  all_goals repeat' apply And.intro
  all_goals first|exact True.intro|omega|with_reducible (first|rfl|assumption)|(simp only[List.headD_cons];omega)|exact hp|(rw[if_neg (by omega)];omega)|rfl|(rw[Int.toNat_natCast])|exact hn|exact hA|exact hs|exact hg
def spltSpec:Spec
  | [.c (.string s),.c (.string p)]=>some (.fs 1 (w4_ ((sb p).headD 0) (sb s)).length (u2_ (w4_ ((sb p).headD 0) (sb s))),[(sb s).length≤1000000000,sb p=[(sb p).headD 0]])
  |_=>none
def gspSpec:Spec
  | [.c (.string s),.c (.string p),.c (.int .i64 0),.c (.int .i64 (-1))]=>some (.fs 1 (w4_ ((sb p).headD 0) (sb s)).length (u2_ (w4_ ((sb p).headD 0) (sb s))),[(sb s).length≤1000000000,sb p=[(sb p).headD 0]])
  |_=>none
theorem gsp_ok:w2_ p_ 39 gspSpec:=by
  refine v5_ mixed clSp_ok fun args r q hs hq=>?_
  unfold gspSpec at hs
  split at hs
  ·rename_i s p
   simp only[oi_]at hs
   obtain⟨rfl,rfl⟩:=hs
   obtain⟨⟨⟨l⟩⟩,rfl⟩:∃b:ByteArray,b=s:=⟨s,rfl⟩
   obtain⟨⟨⟨d⟩⟩,rfl⟩:∃b:ByteArray,b=p:=⟨p,rfl⟩
   simp only[p5_,z7_,and_true]at hq ⊢
   obtain⟨hl,hd⟩:=hq
   generalize d.headD 0=c at hd ⊢
   subst hd
   have hcl:=List.count_le_length (a:=c) (l:=l)
   have hlen:=j8_ c l
   have hne:=splC_ne c l
   have hcat:(w4_ c l).dropLast++[(w4_ c l).getLastD []]=w4_ c l:=by
     rw[List.getLastD_eq_getLast?,List.getLast?_eq_some_getLast hne]
     exact List.dropLast_concat_getLast hne
   have hA:(w4_ c l).dropLast.length=l.count c:=by rw[List.length_dropLast];omega
   have w:=gs_walk c l hl
   obtain⟨hh,q,e,hp⟩:=gsm_all c l (w4_ c l).dropLast (l.count c) ((w4_ c l).getLastD []) hl rfl hcl hA (by rw[←hA];exact gsC_all _ _) (by rw[o4_,hcat,hlen]) (by rw[gsC_len];omega)
   rw[hcat]at e
   rw[hlen]
   exact⟨_,_,_,_,x4_ z4_ (show [0].Nodup by decide) w,e,hp⟩
  ·simp at hs
noncomputable def clSq:CallT:=l3_ p_ (r4_ [(39,gspSpec)]) 500 8
theorem clSq_ok:x7_ p_ clSq:=q7_ mixed (y8_ gsp_ok v2_) 500 8
theorem splt_all (c:UInt8)(l:List UInt8)(hl:l.length≤1000000000):∃(h:Hints) (p:List Prop),y3_ p_ 23 (z8_ p_ clSq h (y1_ ([])) 60 23 ([.c (str l),.c (str [c])]) ([]))=some (.fs 1 (w4_ c l).length (u2_ (w4_ c l)),p)∧z7_ p:=by
  refine⟨⟨true,bs []⟩,[((l.length:Nat)≤((1000000000:Nat))),
 (([c]:List UInt8))=([[c].headD (0:UInt8)])],by kernel_rfl,?_⟩
  all_goals try simp(disch:=omega) only[std]
  all_goals repeat' apply And.intro
  all_goals first|exact True.intro|omega|with_reducible (first|rfl|assumption)|rfl
theorem split_ok:w2_ p_ 23 spltSpec:=by
  refine v5_ mixed clSq_ok fun args r q hs hq=>?_
  unfold spltSpec at hs
  split at hs
  ·rename_i l p
   simp only[oi_]at hs
   obtain⟨rfl,rfl⟩:=hs
   obtain⟨⟨⟨l⟩⟩,rfl⟩:∃b:ByteArray,b=l:=⟨l,rfl⟩
   obtain⟨⟨⟨p⟩⟩,rfl⟩:∃b:ByteArray,b=p:=⟨p,rfl⟩
   simp only[p5_,z7_,and_true]at hq ⊢
   obtain⟨hl,hp1⟩:=hq
   generalize p.headD 0=c at hp1 ⊢
   subst hp1
   obtain⟨hh,q,e,hp⟩:=splt_all c l hl
   exact⟨_,_,_,_,z4_,e,hp⟩
  ·simp at hs
end Go.Proofs.YtmjldphagbobpaaDoor
