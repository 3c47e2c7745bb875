import Derived.Test.YtmjldphagbobpaaGreatDoorBas
set_option linter.unusedVariables false
set_option linter.unusedSimpArgs false
namespace Go.Proofs.YtmjldphagbobpaaGreatDoor
open _root_.Go.Proofs.Tryz renaming prog→p_
open Go.RowKit
def n2_ (p l:List UInt8):Bool:=decide (p.length≤l.length)&&(l.take p.length==p)
theorem preB_iff {p l:List UInt8} :n2_ p l=true↔∃r,l=p++r:=by
  unfold n2_
  rw[Bool.and_eq_true,decide_eq_true_eq,beq_iff_eq]
  constructor
  ·rintro⟨_,h⟩
   exact⟨l.drop p.length,by conv=>lhs;rw[←List.take_append_drop p.length l,h]⟩
  ·rintro⟨r,rfl⟩
   simp
def preSpec:Spec
  | [.c (.string s),.c (.string p)]=>some (.c (.bool (n2_ (sb p) (sb s))),[(sb s).length≤9223372036854775807])
  |_=>none
noncomputable def spr_X (l z:List UInt8)(h_:List (Nat×Bool)):=y0_ p_ 72 (z9_ p_ cl0 ⟨true,bs h_++([])⟩ (y1_ ([])) 60 72 ([.c (str l),.c (str z)]) ([]))
theorem spr_1 (l z:List UInt8):spr_X l z [(9,true)]=some ((AV.c ((Value.bool (List.drop (Int.toNat (0:Int)) (List.take z.length l)==z)))),[decide ((↑l.length:Int)≥↑z.length)=true,
 (0:Int)≤0,
 (0:Int)≤↑z.length,
 (↑z.length:Int)≤↑l.length]):=by kernel_rfl
theorem spr_2 (l z:List UInt8):spr_X l z [(9,false)]=some ((AV.c ((Value.bool false))),[decide ((↑l.length:Int)≥↑z.length)=false]):=by kernel_rfl
theorem spr_all (l z:List UInt8)(hl:l.length≤9223372036854775807):∃(h:Hints) (p:List Prop),y0_ p_ 72 (z9_ p_ cl0 h (y1_ ([])) 60 72 ([.c (str l),.c (str z)]) ([]))=some (.c (.bool (n2_ z l)),p)∧z7_ p:=by
  cases hc9:(decide ((↑l.length:Int)≥(↑z.length:Int)):Bool)with
  |true=>
   have eR:=spr_1 l z
   refine⟨_,_,eR.trans (congrArg (fun r=>some (r,_)) ?_),?_⟩
   ·first
      |(unfold n2_;rw[decide_eq_false (by simpa using hc9)];rfl)
      |(unfold n2_;rw[decide_eq_true (by simpa using hc9)];rfl)
   ·try simp only[decide_eq_true_eq,decide_eq_false_iff_not]at hc9
    simp only[z7_,q2_,decide_eq_true_eq,decide_eq_false_iff_not]
    repeat' apply And.intro
    all_goals first|exact True.intro|omega
  |false=>
   have eR:=spr_2 l z
   refine⟨_,_,eR.trans (congrArg (fun r=>some (r,_)) ?_),?_⟩
   ·first
      |(unfold n2_;rw[decide_eq_false (by simpa using hc9)];rfl)
      |(unfold n2_;rw[decide_eq_true (by simpa using hc9)];rfl)
   ·try simp only[decide_eq_true_eq,decide_eq_false_iff_not]at hc9
    simp only[z7_,q2_,decide_eq_true_eq,decide_eq_false_iff_not]
    repeat' apply And.intro
    all_goals first|exact True.intro|omega
theorem pre_ok:x8_ p_ 72 preSpec:=by
  refine w1_ mixed w4_ fun args r q hs hq=>?_
  unfold preSpec at hs
  split at hs
  ·rename_i l p
   simp only[oi_]at hs
   obtain⟨rfl,rfl⟩:=hs
   obtain⟨⟨⟨l⟩⟩,rfl⟩:∃b:ByteArray,b=l:=⟨l,rfl⟩
   obtain⟨⟨⟨p⟩⟩,rfl⟩:∃b:ByteArray,b=p:=⟨p,rfl⟩
   simp only[q2_,z7_,and_true]at hq ⊢
   obtain⟨hh,q,e,hp⟩:=spr_all l p hq
   exact⟨_,_,_,_,z3_,e,hp⟩
  ·simp at hs
noncomputable def clPre:CallT:=q4_ p_ (t4_ [(72,preSpec)]) 500 8
theorem clPre_ok:x3_ p_ clPre:=t3_ mixed (y4_ pre_ok w3_) 500 8
def m2_ (p l:List UInt8):List UInt8:=if n2_ p l=true then l.drop p.length else l
def cutPT (p l:List UInt8):AV:= .tu [.c (str (m2_ p l)),.c (.bool (n2_ p l))]
def cutPreSpec:Spec
  | [.c (.string s),.c (.string p)]=>some (cutPT (sb p) (sb s),[(sb s).length≤9223372036854775807])
  |_=>none
noncomputable def scp_X (l z:List UInt8)(x:Bool)(h_:List (Nat×Bool)):=y0_ p_ 46 (z9_ p_ clPre ⟨true,bs h_++([(8,⟨.c (.bool x),none⟩)])⟩ (y1_ ([])) 60 46 ([.c (str l),.c (str z)]) ([]))
theorem scp_1 (l z:List UInt8)(x:Bool):scp_X l z x [(9,true)]=some ((AV.tu [(AV.c ((str (l)))),
 (AV.c ((Value.bool false)))]),[((l.length:Nat)≤((9223372036854775807:Nat))),
 ((n2_ z l:Bool))=(x),
 (!x)=true]):=by kernel_rfl
theorem scp_2 (l z:List UInt8)(x:Bool):scp_X l z x [(9,false)]=some ((AV.tu [(AV.c ((str (List.drop z.length (List.take l.length l))))),
 (AV.c ((Value.bool true)))]),[((l.length:Nat)≤((9223372036854775807:Nat))),
 ((n2_ z l:Bool))=(x),
 (!x)=false,
 (0:Int)≤↑z.length,
 (↑z.length:Int)≤↑l.length,
 (↑l.length:Int)≤↑l.length]):=by kernel_rfl
theorem scp_all (l z:List UInt8)(x:Bool)(hl:l.length≤9223372036854775807)(hx:n2_ z l=x)(hle:x=true→z.length≤l.length):∃(h:Hints) (p:List Prop),y0_ p_ 46 (z9_ p_ clPre h (y1_ ([])) 60 46 ([.c (str l),.c (str z)]) ([]))=some (cutPT z l,p)∧z7_ p:=by
  cases hc9:(!x:Bool)with
  |true=>
   have eR:=scp_1 l z x
   refine⟨_,_,eR.trans (congrArg (fun r=>some (r,_)) ?_),?_⟩
   ·first
      |(rw[show x=true by simpa using hc9]at hx;unfold cutPT m2_;rw[hx,if_pos rfl];simp only[q2_,List.take_length];try rfl)
      |(rw[show x=false by simpa using hc9]at hx;unfold cutPT m2_;rw[hx,if_neg (by simp)])
   ·simp only[z7_,q2_,List.take_length]
    repeat' apply And.intro
    all_goals first|exact True.intro|omega|exact hx|exact hx.trans (by simpa using hc9)|(have:=hle (by simpa using hc9);omega)
  |false=>
   have eR:=scp_2 l z x
   refine⟨_,_,eR.trans (congrArg (fun r=>some (r,_)) ?_),?_⟩
   ·first
      |(rw[show x=true by simpa using hc9]at hx;unfold cutPT m2_;rw[hx,if_pos rfl];simp only[q2_,List.take_length];try rfl)
      |(rw[show x=false by simpa using hc9]at hx;unfold cutPT m2_;rw[hx,if_neg (by simp)])
   ·simp only[z7_,q2_,List.take_length]
    repeat' apply And.intro
    all_goals first|exact True.intro|omega|exact hx|exact hx.trans (by simpa using hc9)|(have:=hle (by simpa using hc9);omega)
theorem cutPre_ok:x8_ p_ 46 cutPreSpec:=by
  refine w1_ mixed clPre_ok fun args r q hs hq=>?_
  unfold cutPreSpec at hs
  split at hs
  ·rename_i l p
   simp only[oi_]at hs
   obtain⟨rfl,rfl⟩:=hs
   obtain⟨⟨⟨l⟩⟩,rfl⟩:∃b:ByteArray,b=l:=⟨l,rfl⟩
   obtain⟨⟨⟨p⟩⟩,rfl⟩:∃b:ByteArray,b=p:=⟨p,rfl⟩
   simp only[q2_,z7_,and_true]at hq ⊢
   obtain⟨hh,q,e,hp⟩:=scp_all l p _ hq rfl (fun h=>by unfold n2_ at h;simp only[Bool.and_eq_true,decide_eq_true_eq]at h;exact h.1)
   exact⟨_,_,_,_,z3_,e,hp⟩
  ·simp at hs
theorem cutPF_le (p l:List UInt8):(m2_ p l).length≤l.length:=by
  unfold m2_
  split
  ·rw[List.length_drop];omega
  ·exact Nat.le_refl _
def idxSpec:Spec
  | [.c (.string s),.c (.string p)]=>some (.c (.int .i64 (Lib.indexByte (sb s) ((sb p).headD 0))),[(sb s).length≤9223372036854775807,sb p=[(sb p).headD 0]])
  |_=>none
noncomputable def six_X (l:List UInt8)(c:UInt8)(k:Int)(h_:List (Nat×Bool)):=y0_ p_ 71 (z9_ p_ cl0 ⟨true,bs h_++([(30,⟨.c (.int .i64 k),none⟩)])⟩ (y1_ ([])) 60 71 ([.c (str l),.c (str [c])]) ([]))
theorem six_1 (l:List UInt8)(c:UInt8)(k:Int):six_X l c k [(22,true)]=some ((AV.c ((Value.int .i64 0))),[([c]==l)=true]):=by kernel_rfl
theorem six_2 (l:List UInt8)(c:UInt8)(k:Int):six_X l c k [(22,false)]=some ((AV.c ((Value.int .i64 k))),[([c]==l)=false,
 (0:Int)≤0,
 (0:Int)<↑(1:Nat),
 ((Lib.indexByte l ([c].getD (Int.toNat (0:Int)) (0:UInt8)).toNat.toUInt8:Int))=(k)]):=by kernel_rfl
theorem six_all (l:List UInt8)(c:UInt8)(k:Int)(hk:Lib.indexByte l c=k)(hc:((c.toNat:Nat):Int).toNat.toUInt8=c):∃(h:Hints) (p:List Prop),y0_ p_ 71 (z9_ p_ cl0 h (y1_ ([])) 60 71 ([.c (str l),.c (str [c])]) ([]))=some (.c (.int .i64 k),p)∧z7_ p:=by
  cases hc22:([c]==l:Bool)with
  |true=>
   have eR:=six_1 l c k
   refine⟨_,_,eR.trans (congrArg (fun r=>some (r,_)) ?_),?_⟩
   ·try clear eR
    first
      |rfl
      |(rw[beq_iff_eq]at hc22
        rw[←hk,←hc22]
        unfold Lib.indexByte
        rw[if_pos (by simp)])
   ·try clear eR
    simp only[z7_,q2_]
    repeat' apply And.intro
    all_goals first|exact True.intro|assumption|omega|exact(congrArg (Lib.indexByte l) hc).trans hk|rfl
  |false=>
   have eR:=six_2 l c k
   refine⟨_,_,eR.trans (congrArg (fun r=>some (r,_)) ?_),?_⟩
   ·try clear eR
    first
      |rfl
      |(rw[beq_iff_eq]at hc22
        rw[←hk,←hc22]
        unfold Lib.indexByte
        rw[if_pos (by simp)])
   ·try clear eR
    simp only[z7_,q2_]
    repeat' apply And.intro
    all_goals first|exact True.intro|assumption|omega|exact(congrArg (Lib.indexByte l) hc).trans hk|rfl
theorem idx_ok:x8_ p_ 71 idxSpec:=by
  refine w1_ mixed w4_ fun args r q hs hq=>?_
  unfold idxSpec at hs
  split at hs
  ·rename_i l p
   simp only[oi_]at hs
   obtain⟨rfl,rfl⟩:=hs
   obtain⟨⟨⟨l⟩⟩,rfl⟩:∃b:ByteArray,b=l:=⟨l,rfl⟩
   obtain⟨⟨⟨p⟩⟩,rfl⟩:∃b:ByteArray,b=p:=⟨p,rfl⟩
   simp only[q2_,z7_,and_true]at hq ⊢
   obtain⟨hl,hp1⟩:=hq
   generalize p.headD 0=c at hp1 ⊢
   subst hp1
   obtain⟨hh,q,e,hp⟩:=six_all l c _ rfl (by rw[Int.toNat_natCast];exact UInt8.ofNat_toNat)
   exact⟨_,_,_,_,z3_,e,hp⟩
  ·simp at hs
def k1_ (c:UInt8):List UInt8→List UInt8×List UInt8×Bool
  | []=>([],[],false)
  |x::r=>if x=c then([],r,true)else(x::(k1_ c r).1,(k1_ c r).2.1,(k1_ c r).2.2)
theorem cutF_idx (c:UInt8):∀l:List UInt8,((k1_ c l).2.2=true→Lib.indexByte l c=((k1_ c l).1.length:Nat)∧l=(k1_ c l).1++c::(k1_ c l).2.1)∧((k1_ c l).2.2=false→Lib.indexByte l c= -1∧(k1_ c l).1=l∧(k1_ c l).2.1=[])
  | []=>⟨fun h=>by simp[k1_]at h,fun _=>⟨rfl,rfl,rfl⟩⟩
  |x::r=>by
   obtain⟨h1,h2⟩:=cutF_idx c r
   unfold k1_ Lib.indexByte
   by_cases hx:x=c
   ·subst hx
    rw[if_pos rfl,if_pos (by simp)]
    exact⟨fun _=>⟨rfl,rfl⟩,fun h=>by simp at h⟩
   ·rw[if_neg hx,if_neg (by simpa using hx)]
    simp only
    constructor
    ·intro h
     obtain⟨e1,e2⟩:=h1 h
     refine⟨?_,by rw[List.cons_append,←e2]⟩
     rw[e1,if_neg (by simp),List.length_cons]
     omega
    ·intro h
     obtain⟨e1,e2,e3⟩:=h2 h
     refine⟨?_,by rw[e2],e3⟩
     rw[e1];rfl
end Go.Proofs.YtmjldphagbobpaaGreatDoor
