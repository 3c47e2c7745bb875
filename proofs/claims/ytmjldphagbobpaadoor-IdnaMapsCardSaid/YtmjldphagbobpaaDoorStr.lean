import Derived.Test.YtmjldphagbobpaaDoorBas
set_option linter.unusedVariables false
set_option linter.unusedSimpArgs false
namespace Go.Proofs.YtmjldphagbobpaaDoor
open _root_.Go.Proofs.Tryd renaming prog→p_
open Go.RowKit
def q9_ (p l:List UInt8):Bool:=decide (p.length≤l.length)&&(l.take p.length==p)
theorem preB_iff {p l:List UInt8} :q9_ p l=true↔∃r,l=p++r:=by
  unfold q9_
  rw[Bool.and_eq_true,decide_eq_true_eq,beq_iff_eq]
  constructor
  ·rintro⟨_,h⟩
   exact⟨l.drop p.length,by conv=>lhs;rw[←List.take_append_drop p.length l,h]⟩
  ·rintro⟨r,rfl⟩
   simp
theorem preB_one {c d:UInt8}{r:List UInt8} :q9_ [c] (d::r)=decide (d=c):=by
  have h:=preB_iff (p:=[c]) (l:=d::r)
  by_cases hd:d=c
  ·subst hd
   rw[decide_eq_true rfl]
   exact h.2 ⟨r,rfl⟩
  ·rw[decide_eq_false hd]
   cases hb:q9_ [c] (d::r)with
   |false=>rfl
   |true=>
    obtain⟨q,hq⟩:=h.1 hb
    exact absurd (List.cons.inj hq).1 hd
theorem preB_nil {c:UInt8}{p:List UInt8} :q9_ (c::p) []=false:=by
  unfold q9_
  rw[decide_eq_false (by simp)]
  rfl
def preSpec:Spec
  | [.c (.string s),.c (.string p)]=>some (.c (.bool (q9_ (sb p) (sb s))),[(sb s).length≤9223372036854775807])
  |_=>none
noncomputable def spr_X (l z:List UInt8)(h_:List (Nat×Bool)):=y3_ p_ 71 (z8_ p_ cl0 ⟨true,bs h_++([])⟩ (y1_ ([])) 60 71 ([.c (str l),.c (str z)]) ([]))
theorem spr_1 (l z:List UInt8):spr_X l z [(9,true)]=some ((AV.c ((Value.bool (List.drop (Int.toNat (0:Int)) (List.take z.length l)==z)))),[decide ((↑l.length:Int)≥↑z.length)=true,
 (0:Int)≤0,
 (0:Int)≤↑z.length,
 (↑z.length:Int)≤↑l.length]):=by kernel_rfl
theorem spr_2 (l z:List UInt8):spr_X l z [(9,false)]=some ((AV.c ((Value.bool false))),[decide ((↑l.length:Int)≥↑z.length)=false]):=by kernel_rfl
theorem spr_all (l z:List UInt8)(hl:l.length≤9223372036854775807):∃(h:Hints) (p:List Prop),y3_ p_ 71 (z8_ p_ cl0 h (y1_ ([])) 60 71 ([.c (str l),.c (str z)]) ([]))=some (.c (.bool (q9_ z l)),p)∧z7_ p:=by
  cases hc9:(decide ((↑l.length:Int)≥(↑z.length:Int)):Bool)with
  |true=>
   have eR:=spr_1 l z
   refine⟨_,_,eR.trans (congrArg (fun r=>some (r,_)) ?_),?_⟩
   ·first
      |(unfold q9_;rw[decide_eq_false (by simpa using hc9)];rfl)
      |(unfold q9_;rw[decide_eq_true (by simpa using hc9)];rfl)
   ·try simp only[decide_eq_true_eq,decide_eq_false_iff_not]at hc9
    simp only[z7_,p5_,decide_eq_true_eq,decide_eq_false_iff_not]
    repeat' apply And.intro
    all_goals first|exact True.intro|omega
  |false=>
   have eR:=spr_2 l z
   refine⟨_,_,eR.trans (congrArg (fun r=>some (r,_)) ?_),?_⟩
   ·first
      |(unfold q9_;rw[decide_eq_false (by simpa using hc9)];rfl)
      |(unfold q9_;rw[decide_eq_true (by simpa using hc9)];rfl)
   ·try simp only[decide_eq_true_eq,decide_eq_false_iff_not]at hc9
    simp only[z7_,p5_,decide_eq_true_eq,decide_eq_false_iff_not]
    repeat' apply And.intro
    all_goals first|exact True.intro|omega
theorem pre_ok:w2_ p_ 71 preSpec:=by
  refine v5_ mixed w6_ fun args r q hs hq=>?_
  unfold preSpec at hs
  split at hs
  ·rename_i l p
   simp only[oi_]at hs
   obtain⟨rfl,rfl⟩:=hs
   obtain⟨⟨⟨l⟩⟩,rfl⟩:∃b:ByteArray,b=l:=⟨l,rfl⟩
   obtain⟨⟨⟨p⟩⟩,rfl⟩:∃b:ByteArray,b=p:=⟨p,rfl⟩
   simp only[p5_,z7_,and_true]at hq ⊢
   obtain⟨hh,q,e,hp⟩:=spr_all l p hq
   exact⟨_,_,_,_,z4_,e,hp⟩
  ·simp at hs
noncomputable def clPre:CallT:=l3_ p_ (r4_ [(71,preSpec)]) 500 8
theorem clPre_ok:x7_ p_ clPre:=q7_ mixed (y8_ pre_ok v2_) 500 8
def n5_ (p l:List UInt8):List UInt8:=if q9_ p l=true then l.drop p.length else l
def cutPT (p l:List UInt8):AV:= .tu [.c (str (n5_ p l)),.c (.bool (q9_ p l))]
def cutPreSpec:Spec
  | [.c (.string s),.c (.string p)]=>some (cutPT (sb p) (sb s),[(sb s).length≤9223372036854775807])
  |_=>none
noncomputable def scp_X (l z:List UInt8)(x:Bool)(h_:List (Nat×Bool)):=y3_ p_ 55 (z8_ p_ clPre ⟨true,bs h_++([(8,⟨.c (.bool x),none⟩)])⟩ (y1_ ([])) 60 55 ([.c (str l),.c (str z)]) ([]))
theorem scp_1 (l z:List UInt8)(x:Bool):scp_X l z x [(9,true)]=some ((AV.tu [(AV.c ((str (l)))),
 (AV.c ((Value.bool false)))]),[((l.length:Nat)≤((9223372036854775807:Nat))),
 ((q9_ z l:Bool))=(x),
 (!x)=true]):=by kernel_rfl
theorem scp_2 (l z:List UInt8)(x:Bool):scp_X l z x [(9,false)]=some ((AV.tu [(AV.c ((str (List.drop z.length (List.take l.length l))))),
 (AV.c ((Value.bool true)))]),[((l.length:Nat)≤((9223372036854775807:Nat))),
 ((q9_ z l:Bool))=(x),
 (!x)=false,
 (0:Int)≤↑z.length,
 (↑z.length:Int)≤↑l.length,
 (↑l.length:Int)≤↑l.length]):=by kernel_rfl
theorem scp_all (l z:List UInt8)(x:Bool)(hl:l.length≤9223372036854775807)(hx:q9_ z l=x)(hle:x=true→z.length≤l.length):∃(h:Hints) (p:List Prop),y3_ p_ 55 (z8_ p_ clPre h (y1_ ([])) 60 55 ([.c (str l),.c (str z)]) ([]))=some (cutPT z l,p)∧z7_ p:=by
  cases hc9:(!x:Bool)with
  |true=>
   have eR:=scp_1 l z x
   refine⟨_,_,eR.trans (congrArg (fun r=>some (r,_)) ?_),?_⟩
   ·first
      |(rw[show x=true by simpa using hc9]at hx;unfold cutPT n5_;rw[hx,if_pos rfl];simp only[p5_,List.take_length];try rfl)
      |(rw[show x=false by simpa using hc9]at hx;unfold cutPT n5_;rw[hx,if_neg (by simp)])
   ·simp only[z7_,p5_,List.take_length]
    repeat' apply And.intro
    all_goals first|exact True.intro|omega|exact hx|exact hx.trans (by simpa using hc9)|(have:=hle (by simpa using hc9);omega)
  |false=>
   have eR:=scp_2 l z x
   refine⟨_,_,eR.trans (congrArg (fun r=>some (r,_)) ?_),?_⟩
   ·first
      |(rw[show x=true by simpa using hc9]at hx;unfold cutPT n5_;rw[hx,if_pos rfl];simp only[p5_,List.take_length];try rfl)
      |(rw[show x=false by simpa using hc9]at hx;unfold cutPT n5_;rw[hx,if_neg (by simp)])
   ·simp only[z7_,p5_,List.take_length]
    repeat' apply And.intro
    all_goals first|exact True.intro|omega|exact hx|exact hx.trans (by simpa using hc9)|(have:=hle (by simpa using hc9);omega)
theorem cutPre_ok:w2_ p_ 55 cutPreSpec:=by
  refine v5_ mixed clPre_ok fun args r q hs hq=>?_
  unfold cutPreSpec at hs
  split at hs
  ·rename_i l p
   simp only[oi_]at hs
   obtain⟨rfl,rfl⟩:=hs
   obtain⟨⟨⟨l⟩⟩,rfl⟩:∃b:ByteArray,b=l:=⟨l,rfl⟩
   obtain⟨⟨⟨p⟩⟩,rfl⟩:∃b:ByteArray,b=p:=⟨p,rfl⟩
   simp only[p5_,z7_,and_true]at hq ⊢
   obtain⟨hh,q,e,hp⟩:=scp_all l p _ hq rfl (fun h=>by unfold q9_ at h;simp only[Bool.and_eq_true,decide_eq_true_eq]at h;exact h.1)
   exact⟨_,_,_,_,z4_,e,hp⟩
  ·simp at hs
theorem cutPF_le (p l:List UInt8):(n5_ p l).length≤l.length:=by
  unfold n5_
  split
  ·rw[List.length_drop];omega
  ·exact Nat.le_refl _
def idxOne (c:UInt8):List UInt8→Int:=fun l=>Lib.indexByte l c
def idxSpec:Spec
  | [.c (.string s),.c (.string p)]=>some (.c (.int .i64 (Lib.indexByte (sb s) ((sb p).headD 0))),[(sb s).length≤9223372036854775807,sb p=[(sb p).headD 0]])
  |_=>none
noncomputable def six_X (l:List UInt8)(c:UInt8)(k:Int)(h_:List (Nat×Bool)):=y3_ p_ 70 (z8_ p_ cl0 ⟨true,bs h_++([(30,⟨.c (.int .i64 k),none⟩)])⟩ (y1_ ([])) 60 70 ([.c (str l),.c (str [c])]) ([]))
theorem six_1 (l:List UInt8)(c:UInt8)(k:Int):six_X l c k [(22,true)]=some ((AV.c ((Value.int .i64 0))),[([c]==l)=true]):=by kernel_rfl
theorem six_2 (l:List UInt8)(c:UInt8)(k:Int):six_X l c k [(22,false)]=some ((AV.c ((Value.int .i64 k))),[([c]==l)=false,
 (0:Int)≤0,
 (0:Int)<↑(1:Nat),
 ((Lib.indexByte l ([c].getD (Int.toNat (0:Int)) (0:UInt8)).toNat.toUInt8:Int))=(k)]):=by kernel_rfl
theorem six_all (l:List UInt8)(c:UInt8)(k:Int)(hk:Lib.indexByte l c=k)(hc:((c.toNat:Nat):Int).toNat.toUInt8=c):∃(h:Hints) (p:List Prop),y3_ p_ 70 (z8_ p_ cl0 h (y1_ ([])) 60 70 ([.c (str l),.c (str [c])]) ([]))=some (.c (.int .i64 k),p)∧z7_ p:=by
  cases hc22:([c]==l:Bool)with
  |true=>
   have eR:=six_1 l c k
   refine⟨_,_,eR.trans (congrArg (fun r=>some (r,_)) ?_),?_⟩
   ·try clear eR
    first
      |rfl
      |(rw[beq_iff_eq]at hc22
        rw[←hk,←hc22]
        unfold Lib.indexByte
        rw[if_pos (by simp)])
   ·try clear eR
    simp only[z7_,p5_]
    repeat' apply And.intro
    all_goals first|exact True.intro|assumption|omega|exact(congrArg (Lib.indexByte l) hc).trans hk|rfl
  |false=>
   have eR:=six_2 l c k
   refine⟨_,_,eR.trans (congrArg (fun r=>some (r,_)) ?_),?_⟩
   ·try clear eR
    first
      |rfl
      |(rw[beq_iff_eq]at hc22
        rw[←hk,←hc22]
        unfold Lib.indexByte
        rw[if_pos (by simp)])
   ·try clear eR
    simp only[z7_,p5_]
    repeat' apply And.intro
    all_goals first|exact True.intro|assumption|omega|exact(congrArg (Lib.indexByte l) hc).trans hk|rfl
theorem idx_ok:w2_ p_ 70 idxSpec:=by
  refine v5_ mixed w6_ fun args r q hs hq=>?_
  unfold idxSpec at hs
  split at hs
  ·rename_i l p
   simp only[oi_]at hs
   obtain⟨rfl,rfl⟩:=hs
   obtain⟨⟨⟨l⟩⟩,rfl⟩:∃b:ByteArray,b=l:=⟨l,rfl⟩
   obtain⟨⟨⟨p⟩⟩,rfl⟩:∃b:ByteArray,b=p:=⟨p,rfl⟩
   simp only[p5_,z7_,and_true]at hq ⊢
   obtain⟨hl,hp1⟩:=hq
   generalize p.headD 0=c at hp1 ⊢
   subst hp1
   obtain⟨hh,q,e,hp⟩:=six_all l c _ rfl (by rw[Int.toNat_natCast];exact UInt8.ofNat_toNat)
   exact⟨_,_,_,_,z4_,e,hp⟩
  ·simp at hs
def n0_ (c:UInt8):List UInt8→List UInt8×List UInt8×Bool
  | []=>([],[],false)
  |x::r=>if x=c then([],r,true)else(x::(n0_ c r).1,(n0_ c r).2.1,(n0_ c r).2.2)
theorem cutF_idx (c:UInt8):∀l:List UInt8,((n0_ c l).2.2=true→Lib.indexByte l c=((n0_ c l).1.length:Nat)∧l=(n0_ c l).1++c::(n0_ c l).2.1)∧((n0_ c l).2.2=false→Lib.indexByte l c= -1∧(n0_ c l).1=l∧(n0_ c l).2.1=[])
  | []=>⟨fun h=>by simp[n0_]at h,fun _=>⟨rfl,rfl,rfl⟩⟩
  |x::r=>by
   obtain⟨h1,h2⟩:=cutF_idx c r
   unfold n0_ Lib.indexByte
   by_cases hx:x=c
   ·subst hx
    rw[if_pos rfl,if_pos (by simp)]
    exact⟨fun _=>⟨rfl,rfl⟩,fun h=>by simp at h⟩
   ·rw[if_neg hx,if_neg (by simpa using hx)]
    simp only
    constructor
    ·intro h
     obtain⟨e1,e2⟩:=h1 h
     refine⟨?_,by rw[List.cons_append,←e2]⟩
     rw[e1,if_neg (by simp),List.length_cons]
     omega
    ·intro h
     obtain⟨e1,e2,e3⟩:=h2 h
     refine⟨?_,by rw[e2],e3⟩
     rw[e1];rfl
theorem cutF_len (c:UInt8)(l:List UInt8):(n0_ c l).1.length+(n0_ c l).2.1.length≤l.length∧((n0_ c l).2.2=true→(n0_ c l).1.length+(n0_ c l).2.1.length+1=l.length):=by
  obtain⟨h1,h2⟩:=cutF_idx c l
  cases h:(n0_ c l).2.2 with
  |true=>
   obtain⟨_,e⟩:=h1 h
   have:=congrArg List.length e
   simp only[List.length_append,List.length_cons]at this
   exact⟨by omega,fun _=>by omega⟩
  |false=>
   obtain⟨_,e1,e2⟩:=h2 h
   rw[e1,e2]
   exact⟨by simp,fun h=>by simp at h⟩
noncomputable def clIdx:CallT:=l3_ p_ (r4_ [(70,idxSpec)]) 500 8
theorem clIdx_ok:x7_ p_ clIdx:=q7_ mixed (y8_ idx_ok v2_) 500 8
end Go.Proofs.YtmjldphagbobpaaDoor
