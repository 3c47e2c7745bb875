import Derived.Test.YtmjldphagbobpaaGreatDoorIdnW
import Derived.Test.YtmjldphagbobpaaGreatDoorSplP
import Derived.Test.YtmjldphagbobpaaGreatDoorJnP
set_option linter.unusedVariables false
set_option linter.unusedSimpArgs false
namespace Go.Proofs.YtmjldphagbobpaaGreatDoor
open IntKind (i64 u8 i32 u32 u64)
open _root_.Go.Proofs.Tryz renaming prog→p_
open Go.RowKit U8 Idn
set_option maxRecDepth 100000
def o4_ (l:List UInt8):Bool:=l.all fun c=>decide (c.toNat<128)
def blS (l:List UInt8)(n i:Nat):St:=⟨frame 14 [(0,.c (str l)),(5,.c (.int .i64 n)),(6,.c (.int .i64 i))],[]⟩
def blF:St:=⟨frame 14 [(2,.c (.bool false))],[]⟩
def blE:St:=⟨frame 14 [],[]⟩
theorem blA_all (l:List UInt8)(n i:Nat)(hi:i<n)(hc:((l.getD i 0).toNat:Nat)<128)(hn:l.length=n)(hl:n≤1000000000):y7_ Ext0 p_ cl0 (z2_ p_ 35 2) (blS l n i) (.normal) (blS l n (i+1)):=by
  refine⟨⟨true,(bs [(7,true),(12,false)])⟩,_,60,⟨[],[0,5,6],[]⟩,[decide ((↑i:Int)<↑n)=true,
 (0:Int)≤↑i,
 (↑i:Int)<↑l.length,
 (decide ((↑(l.getD i 0).toNat:Int)≥(128:Int)))=false,
 (i64.min:Int)≤↑i+1,
 (↑i+1:Int)≤i64.max],z3_,by decide,by kernel_rfl,?_⟩
  all_goals try simp(disch:=omega) only[std]
  all_goals repeat' apply And.intro
  all_goals first|exact True.intro|omega|with_reducible (first|rfl|assumption)|exact hn|rfl
theorem blX_all (l:List UInt8)(n i:Nat)(hi:i<n)(hc:128≤((l.getD i 0).toNat:Nat))(hn:l.length=n)(hl:n≤1000000000):y7_ Ext0 p_ cl0 (z2_ p_ 35 2) (blS l n i) (.ret) (blF):=by
  refine⟨⟨true,(bs [(7,true),(12,true)])⟩,_,60,⟨[],[2],[]⟩,[decide ((↑i:Int)<↑n)=true,
 (0:Int)≤↑i,
 (↑i:Int)<↑l.length,
 (decide ((↑(l.getD i 0).toNat:Int)≥(128:Int)))=true],z3_,by decide,by kernel_rfl,?_⟩
  all_goals try simp(disch:=omega) only[std]
  all_goals repeat' apply And.intro
  all_goals first|exact True.intro|omega|with_reducible (first|rfl|assumption)|exact hn|rfl
theorem blZ_all (l:List UInt8)(n i:Nat)(hi:i=n)(hn:l.length=n)(hl:n≤1000000000):y7_ Ext0 p_ cl0 (z2_ p_ 35 2) (blS l n i) (.exit 0) (blE):=by
  refine⟨⟨true,(bs [(7,false)])⟩,_,60,⟨[],[],[]⟩,[decide ((↑i:Int)<↑n)=false],z3_,by decide,by kernel_rfl,?_⟩
  all_goals try simp(disch:=omega) only[std]
  all_goals repeat' apply And.intro
  all_goals first|exact True.intro|omega|with_reducible (first|rfl|assumption)|exact hi|exact hn|rfl
theorem bl_walk (l:List UInt8)(hl:l.length≤1000000000):Tri Ext0 p_ (.loop (z2_ p_ 35 2)) (blS l l.length 0) (if o4_ l=true then .exit 0 else .ret) (if o4_ l=true then blE else blF):=by
  refine t7_ mixed w4_ (fun i=>blS l l.length i) (fun i=>i≤l.length∧o4_ (l.take i)=true) (fun i=>l.length-i) (fun i hx=>?_) 0 ⟨Nat.zero_le _,rfl⟩
  obtain⟨h1,h2⟩:=hx
  by_cases hi:i<l.length
  ·have hb:o4_ (l.take (i+1))=(o4_ (l.take i)&&decide ((l.getD i 0).toNat<128)):=by
     unfold o4_
     rw[v1_ l i 0 hi,List.all_append];simp
   by_cases hc:(l.getD i 0).toNat<128
   ·exact .inl ⟨i+1,⟨hi,by rw[hb,h2];simpa using hc⟩,by omega,blA_all l l.length i hi hc rfl hl⟩
   ·have:o4_ l=false:=by
      have e:o4_ (l.take (i+1))=false:=by rw[hb,decide_eq_false hc,Bool.and_false]
      unfold o4_ at*
      rw[←List.take_append_drop (i+1) l,List.all_append,e,Bool.false_and]
    rw[this]
    exact .inr ⟨by simp,blX_all l l.length i hi (by omega) rfl hl⟩
  ·have he:i=l.length:=by omega
   subst he
   rw[List.take_length]at h2
   rw[h2]
   exact .inr ⟨by simp,blZ_all l l.length l.length rfl rfl hl⟩
theorem blmT_all (l:List UInt8):∃(h:Hints) (p:List Prop),y0_ p_ 35 (z9_ p_ cl0 h (y1_ ([(2,⟨z2_ p_ 35 2,⟨[],[0,5,6],[]⟩,blS l l.length 0,.exit 0,blE⟩)])) 60 35 ([.c (str l)]) ([]))=some (.c (.bool true),p)∧z7_ p:=by
  refine⟨⟨true,bs []⟩,[((z2_ p_ (35:FuncId) (2:Nat):Go.Code))=(z2_ p_ (35:FuncId) (2:Nat)),
 ((blS l l.length (0:Nat):St))=(blS l l.length (0:Nat))],by kernel_rfl,?_⟩
  all_goals try simp(disch:=omega) only[std]
  all_goals repeat' apply And.intro
  all_goals first|exact True.intro|omega|with_reducible (first|rfl|assumption)|rfl
theorem blmF_all (l:List UInt8):∃(h:Hints) (p:List Prop),y0_ p_ 35 (z9_ p_ cl0 h (y1_ ([(2,⟨z2_ p_ 35 2,⟨[],[0,5,6],[]⟩,blS l l.length 0,.ret,blF⟩)])) 60 35 ([.c (str l)]) ([]))=some (.c (.bool false),p)∧z7_ p:=by
  refine⟨⟨true,bs []⟩,[((z2_ p_ (35:FuncId) (2:Nat):Go.Code))=(z2_ p_ (35:FuncId) (2:Nat)),
 ((blS l l.length (0:Nat):St))=(blS l l.length (0:Nat))],by kernel_rfl,?_⟩
  all_goals try simp(disch:=omega) only[std]
  all_goals repeat' apply And.intro
  all_goals first|exact True.intro|omega|with_reducible (first|rfl|assumption)|rfl
def belowSpec:Spec
  | [.c (.string s)]=>some (.c (.bool (o4_ (sb s))),[(sb s).length≤1000000000])
  |_=>none
theorem below_ok:x8_ p_ 35 belowSpec:=by
  refine w1_ mixed w4_ fun args r q hs hq=>?_
  unfold belowSpec at hs
  split at hs
  ·rename_i s
   simp only[oi_]at hs
   obtain⟨rfl,rfl⟩:=hs
   obtain⟨⟨⟨s⟩⟩,rfl⟩:∃b:ByteArray,b=s:=⟨s,rfl⟩
   simp only[q2_,z7_,and_true]at hq ⊢
   have w:=bl_walk s hq
   cases hb:o4_ s with
   |true=>
    rw[hb]at w
    obtain⟨hh,q,e,hp⟩:=blmT_all s
    exact⟨_,_,_,_,y3_ z3_ (show([]:List Nat).Nodup by decide) w,e,hp⟩
   |false=>
    rw[hb]at w
    obtain⟨hh,q,e,hp⟩:=blmF_all s
    exact⟨_,_,_,_,y3_ z3_ (show([]:List Nat).Nodup by decide) w,e,hp⟩
  ·simp at hs
noncomputable def clNm:CallT:=q7_ p_ (t4_ [(46,cutPreSpec),(9,i4_),(29,i8_),(35,belowSpec),(36,enc7Spec)]) (n0_ [(34,dec7Spec)]) 500 8
theorem clNm_ok:x3_ p_ clNm:=s1_ mixed (y4_ cutPre_ok (y4_ plabel_ok (y4_ signsU_ok (y4_ below_ok (y4_ penc_ok w3_))))) (w9_ pdec_ok s5_) 500 8
theorem nme1_all (l r t:List UInt8)(hx:n2_ xnB l=true)(ho:(Pny.p9_ r).isSome=true)(hL:u8_ (unI (z0_ (x7_ r)))=true)(hl:l.length≤100000)(hr:m2_ xnB l=r)(hrl:r.length≤100000)(d1:z0_ (x7_ r)=z4_ (unI (z0_ (x7_ r))))(d2:(x7_ r).length=(unI (z0_ (x7_ r))).length)(d3:s9_ (unI (z0_ (x7_ r))))(d4:(x7_ r).length≤255)(s0:List.take (z8_ (z1_ l)).length (ints (z8_ (z1_ l)))=ints (z8_ (z1_ l)))(s1:ints (z8_ (z1_ l))=z4_ (unI (ints (z8_ (z1_ l)))))(s2:(z8_ (z1_ l)).length=(unI (ints (z8_ (z1_ l)))).length)(s3:s9_ (unI (ints (z8_ (z1_ l)))))(s4:(z8_ (z1_ l)).length≤100000):∃(h:Hints) (p:List Prop),y0_ p_ 22 (z9_ p_ clNm h (y1_ ([])) 60 22 ([.c (str l)]) ([]))=some (.tu [.c (str l),.c (.bool true)],p)∧z7_ p:=by
  refine⟨⟨true,([(14,⟨.c (str r),none⟩),(15,⟨.c (.bool true),none⟩),(21,⟨.c (.bool true),none⟩),(26,⟨.c (.bool true),none⟩)])⟩,[((l.length:Nat)≤((9223372036854775807:Nat))),
 ((m2_ [(120:UInt8),(110:UInt8),(45:UInt8),(45:UInt8)] l:List UInt8))=(r),
 (n2_ [(120:UInt8),(110:UInt8),(45:UInt8),(45:UInt8)] l)=true,
 ((r.length:Nat)≤((100000:Nat))),
 ((Pny.p9_ (sb { data:= { toList:=r}})).isSome)=true,
 ((p_.cellsOf (3:TypeId):Nat))=((1:Nat)),
 ((List.take (x7_ r).length (List.drop (0:Nat) (z0_ (x7_ r))):List AV))=(z4_ (unI (List.take (x7_ r).length (List.drop (0:Nat) (z0_ (x7_ r)))))),
 (((x7_ r).length:Nat))=((unI (List.take (x7_ r).length (List.drop (0:Nat) (z0_ (x7_ r))))).length),
 (((x7_ r).length:Nat)≤((1000000000:Nat))),
 s9_ (unI (List.take (x7_ r).length (List.drop (0:Nat) (z0_ (x7_ r))))),
 (t8_ [] (AV.c (Value.bool (u8_ (unI (List.take (x7_ r).length (List.drop (0:Nat) (z0_ (x7_ r)))))))))=true,
 (u8_ (unI (List.take (x7_ r).length (List.drop (0:Nat) (z0_ (x7_ r))))))=true],by kernel_rfl,?_⟩
  all_goals try simp(disch:=omega) only[std,h0_,s0]
  all_goals repeat' apply And.intro
  all_goals first|exact True.intro|omega|with_reducible (first|rfl|assumption)|exact hr|exact hx|exact d1|exact d2|exact d3|exact s1|exact s2|exact s3|rfl|exact ho|exact hL|exact s0
theorem nme2_all (l r t:List UInt8)(hx:n2_ xnB l=true)(ho:(Pny.p9_ r).isSome=true)(hL:u8_ (unI (z0_ (x7_ r)))=false)(hl:l.length≤100000)(hr:m2_ xnB l=r)(hrl:r.length≤100000)(d1:z0_ (x7_ r)=z4_ (unI (z0_ (x7_ r))))(d2:(x7_ r).length=(unI (z0_ (x7_ r))).length)(d3:s9_ (unI (z0_ (x7_ r))))(d4:(x7_ r).length≤255)(s0:List.take (z8_ (z1_ l)).length (ints (z8_ (z1_ l)))=ints (z8_ (z1_ l)))(s1:ints (z8_ (z1_ l))=z4_ (unI (ints (z8_ (z1_ l)))))(s2:(z8_ (z1_ l)).length=(unI (ints (z8_ (z1_ l)))).length)(s3:s9_ (unI (ints (z8_ (z1_ l)))))(s4:(z8_ (z1_ l)).length≤100000):∃(h:Hints) (p:List Prop),y0_ p_ 22 (z9_ p_ clNm h (y1_ ([])) 60 22 ([.c (str l)]) ([]))=some (.tu [.c (str []),.c (.bool false)],p)∧z7_ p:=by
  refine⟨⟨true,([(14,⟨.c (str r),none⟩),(15,⟨.c (.bool true),none⟩),(21,⟨.c (.bool true),none⟩),(26,⟨.c (.bool false),none⟩)])⟩,[((l.length:Nat)≤((9223372036854775807:Nat))),
 ((m2_ [(120:UInt8),(110:UInt8),(45:UInt8),(45:UInt8)] l:List UInt8))=(r),
 (n2_ [(120:UInt8),(110:UInt8),(45:UInt8),(45:UInt8)] l)=true,
 ((r.length:Nat)≤((100000:Nat))),
 ((Pny.p9_ (sb { data:= { toList:=r}})).isSome)=true,
 ((p_.cellsOf (3:TypeId):Nat))=((1:Nat)),
 ((List.take (x7_ r).length (List.drop (0:Nat) (z0_ (x7_ r))):List AV))=(z4_ (unI (List.take (x7_ r).length (List.drop (0:Nat) (z0_ (x7_ r)))))),
 (((x7_ r).length:Nat))=((unI (List.take (x7_ r).length (List.drop (0:Nat) (z0_ (x7_ r))))).length),
 (((x7_ r).length:Nat)≤((1000000000:Nat))),
 s9_ (unI (List.take (x7_ r).length (List.drop (0:Nat) (z0_ (x7_ r))))),
 (t8_ [] (AV.c (Value.bool (u8_ (unI (List.take (x7_ r).length (List.drop (0:Nat) (z0_ (x7_ r)))))))))=true,
 (u8_ (unI (List.take (x7_ r).length (List.drop (0:Nat) (z0_ (x7_ r))))))=false],by kernel_rfl,?_⟩
  all_goals try simp(disch:=omega) only[std,h0_,s0]
  all_goals repeat' apply And.intro
  all_goals first|exact True.intro|omega|with_reducible (first|rfl|assumption)|exact hr|exact hx|exact d1|exact d2|exact d3|exact s1|exact s2|exact s3|rfl|exact ho|exact hL|exact s0
theorem nme3_all (l r t:List UInt8)(hx:n2_ xnB l=true)(ho:(Pny.p9_ r).isSome=false)(hl:l.length≤100000)(hr:m2_ xnB l=r)(hrl:r.length≤100000)(d1:z0_ (x7_ r)=z4_ (unI (z0_ (x7_ r))))(d2:(x7_ r).length=(unI (z0_ (x7_ r))).length)(d3:s9_ (unI (z0_ (x7_ r))))(d4:(x7_ r).length≤255)(s0:List.take (z8_ (z1_ l)).length (ints (z8_ (z1_ l)))=ints (z8_ (z1_ l)))(s1:ints (z8_ (z1_ l))=z4_ (unI (ints (z8_ (z1_ l)))))(s2:(z8_ (z1_ l)).length=(unI (ints (z8_ (z1_ l)))).length)(s3:s9_ (unI (ints (z8_ (z1_ l)))))(s4:(z8_ (z1_ l)).length≤100000):∃(h:Hints) (p:List Prop),y0_ p_ 22 (z9_ p_ clNm h (y1_ ([])) 60 22 ([.c (str l)]) ([]))=some (.tu [.c (str []),.c (.bool false)],p)∧z7_ p:=by
  refine⟨⟨true,([(14,⟨.c (str r),none⟩),(15,⟨.c (.bool true),none⟩),(21,⟨.c (.bool false),none⟩)])⟩,[((l.length:Nat)≤((9223372036854775807:Nat))),
 ((m2_ [(120:UInt8),(110:UInt8),(45:UInt8),(45:UInt8)] l:List UInt8))=(r),
 (n2_ [(120:UInt8),(110:UInt8),(45:UInt8),(45:UInt8)] l)=true,
 ((r.length:Nat)≤((100000:Nat))),
 ((Pny.p9_ (sb { data:= { toList:=r}})).isSome)=false],by kernel_rfl,?_⟩
  all_goals try simp(disch:=omega) only[std,h0_,s0]
  all_goals repeat' apply And.intro
  all_goals first|exact True.intro|omega|with_reducible (first|rfl|assumption)|exact hr|exact hx|exact d1|exact d2|exact d3|exact s1|exact s2|exact s3|rfl|exact ho|exact s0
theorem nme4_all (l r t:List UInt8)(hx:n2_ xnB l=false)(ho:o4_ l=true)(hl:l.length≤100000)(hr:m2_ xnB l=r)(hrl:r.length≤100000)(d1:z0_ (x7_ r)=z4_ (unI (z0_ (x7_ r))))(d2:(x7_ r).length=(unI (z0_ (x7_ r))).length)(d3:s9_ (unI (z0_ (x7_ r))))(d4:(x7_ r).length≤255)(s0:List.take (z8_ (z1_ l)).length (ints (z8_ (z1_ l)))=ints (z8_ (z1_ l)))(s1:ints (z8_ (z1_ l))=z4_ (unI (ints (z8_ (z1_ l)))))(s2:(z8_ (z1_ l)).length=(unI (ints (z8_ (z1_ l)))).length)(s3:s9_ (unI (ints (z8_ (z1_ l)))))(s4:(z8_ (z1_ l)).length≤100000):∃(h:Hints) (p:List Prop),y0_ p_ 22 (z9_ p_ clNm h (y1_ ([])) 60 22 ([.c (str l)]) ([]))=some (.tu [.c (str l),.c (.bool true)],p)∧z7_ p:=by
  refine⟨⟨true,([(14,⟨.c (str r),none⟩),(15,⟨.c (.bool false),none⟩),(31,⟨.c (.bool true),none⟩)])⟩,[((l.length:Nat)≤((9223372036854775807:Nat))),
 ((m2_ [(120:UInt8),(110:UInt8),(45:UInt8),(45:UInt8)] l:List UInt8))=(r),
 (n2_ [(120:UInt8),(110:UInt8),(45:UInt8),(45:UInt8)] l)=false,
 ((l.length:Nat)≤((1000000000:Nat))),
 (o4_ l)=true],by kernel_rfl,?_⟩
  all_goals try simp(disch:=omega) only[std,h0_,s0]
  all_goals repeat' apply And.intro
  all_goals first|exact True.intro|omega|with_reducible (first|rfl|assumption)|exact hr|exact hx|exact d1|exact d2|exact d3|exact s1|exact s2|exact s3|rfl|exact ho|exact s0
theorem nme5_all (l r t:List UInt8)(hx:n2_ xnB l=false)(ho:o4_ l=false)(hL:u8_ (unI (ints (z8_ (z1_ l))))=false)(hl:l.length≤100000)(hr:m2_ xnB l=r)(hrl:r.length≤100000)(d1:z0_ (x7_ r)=z4_ (unI (z0_ (x7_ r))))(d2:(x7_ r).length=(unI (z0_ (x7_ r))).length)(d3:s9_ (unI (z0_ (x7_ r))))(d4:(x7_ r).length≤255)(s0:List.take (z8_ (z1_ l)).length (ints (z8_ (z1_ l)))=ints (z8_ (z1_ l)))(s1:ints (z8_ (z1_ l))=z4_ (unI (ints (z8_ (z1_ l)))))(s2:(z8_ (z1_ l)).length=(unI (ints (z8_ (z1_ l)))).length)(s3:s9_ (unI (ints (z8_ (z1_ l)))))(s4:(z8_ (z1_ l)).length≤100000):∃(h:Hints) (p:List Prop),y0_ p_ 22 (z9_ p_ clNm h (y1_ ([])) 60 22 ([.c (str l)]) ([]))=some (.tu [.c (str []),.c (.bool false)],p)∧z7_ p:=by
  refine⟨⟨true,([(14,⟨.c (str r),none⟩),(15,⟨.c (.bool false),none⟩),(31,⟨.c (.bool false),none⟩),(36,⟨.c (.bool false),none⟩)])⟩,[((l.length:Nat)≤((9223372036854775807:Nat))),
 ((m2_ [(120:UInt8),(110:UInt8),(45:UInt8),(45:UInt8)] l:List UInt8))=(r),
 (n2_ [(120:UInt8),(110:UInt8),(45:UInt8),(45:UInt8)] l)=false,
 ((l.length:Nat)≤((1000000000:Nat))),
 (o4_ l)=false,
 ((l.length:Nat)≤((1000000000:Nat))),
 ((p_.cellsOf (3:Nat):Nat))=((1:Nat)),
 ((List.take (z8_ (z1_ l)).length (List.drop (0:Nat) (ints (z8_ (z1_ l)))):List AV))=(z4_ (unI (List.take (z8_ (z1_ l)).length (List.drop (0:Nat) (ints (z8_ (z1_ l))))))),
 (((z8_ (z1_ l)).length:Nat))=((unI (List.take (z8_ (z1_ l)).length (List.drop (0:Nat) (ints (z8_ (z1_ l)))))).length),
 (((z8_ (z1_ l)).length:Nat)≤((1000000000:Nat))),
 s9_ (unI (List.take (z8_ (z1_ l)).length (List.drop (0:Nat) (ints (z8_ (z1_ l)))))),
 (t8_ [] (AV.c (Value.bool (u8_ (unI (List.take (z8_ (z1_ l)).length (List.drop (0:Nat) (ints (z8_ (z1_ l))))))))))=true,
 (u8_ (unI (List.take (z8_ (z1_ l)).length (List.drop (0:Nat) (ints (z8_ (z1_ l)))))))=false],by kernel_rfl,?_⟩
  all_goals try simp(disch:=omega) only[std,h0_,s0]
  all_goals repeat' apply And.intro
  all_goals first|exact True.intro|omega|with_reducible (first|rfl|assumption)|exact hr|exact hx|exact d1|exact d2|exact d3|exact s1|exact s2|exact s3|rfl|exact ho|exact hL|exact s0
theorem nme6_all (l r t:List UInt8)(hx:n2_ xnB l=false)(ho:o4_ l=false)(hL:u8_ (unI (ints (z8_ (z1_ l))))=true)(hm:l6_ (unI (ints (z8_ (z1_ l))))=false)(hl:l.length≤100000)(hr:m2_ xnB l=r)(hrl:r.length≤100000)(d1:z0_ (x7_ r)=z4_ (unI (z0_ (x7_ r))))(d2:(x7_ r).length=(unI (z0_ (x7_ r))).length)(d3:s9_ (unI (z0_ (x7_ r))))(d4:(x7_ r).length≤255)(s0:List.take (z8_ (z1_ l)).length (ints (z8_ (z1_ l)))=ints (z8_ (z1_ l)))(s1:ints (z8_ (z1_ l))=z4_ (unI (ints (z8_ (z1_ l)))))(s2:(z8_ (z1_ l)).length=(unI (ints (z8_ (z1_ l)))).length)(s3:s9_ (unI (ints (z8_ (z1_ l)))))(s4:(z8_ (z1_ l)).length≤100000):∃(h:Hints) (p:List Prop),y0_ p_ 22 (z9_ p_ clNm h (y1_ ([])) 60 22 ([.c (str l)]) ([]))=some (.tu [.c (str []),.c (.bool false)],p)∧z7_ p:=by
  refine⟨⟨true,([(14,⟨.c (str r),none⟩),(15,⟨.c (.bool false),none⟩),(31,⟨.c (.bool false),none⟩),(36,⟨.c (.bool true),none⟩),(42,⟨.c (.bool false),none⟩)])⟩,[((l.length:Nat)≤((9223372036854775807:Nat))),
 ((m2_ [(120:UInt8),(110:UInt8),(45:UInt8),(45:UInt8)] l:List UInt8))=(r),
 (n2_ [(120:UInt8),(110:UInt8),(45:UInt8),(45:UInt8)] l)=false,
 ((l.length:Nat)≤((1000000000:Nat))),
 (o4_ l)=false,
 ((l.length:Nat)≤((1000000000:Nat))),
 ((p_.cellsOf (3:Nat):Nat))=((1:Nat)),
 ((List.take (z8_ (z1_ l)).length (List.drop (0:Nat) (ints (z8_ (z1_ l)))):List AV))=(z4_ (unI (List.take (z8_ (z1_ l)).length (List.drop (0:Nat) (ints (z8_ (z1_ l))))))),
 (((z8_ (z1_ l)).length:Nat))=((unI (List.take (z8_ (z1_ l)).length (List.drop (0:Nat) (ints (z8_ (z1_ l)))))).length),
 (((z8_ (z1_ l)).length:Nat)≤((1000000000:Nat))),
 s9_ (unI (List.take (z8_ (z1_ l)).length (List.drop (0:Nat) (ints (z8_ (z1_ l)))))),
 (t8_ [] (AV.c (Value.bool (u8_ (unI (List.take (z8_ (z1_ l)).length (List.drop (0:Nat) (ints (z8_ (z1_ l))))))))))=true,
 (u8_ (unI (List.take (z8_ (z1_ l)).length (List.drop (0:Nat) (ints (z8_ (z1_ l)))))))=true,
 ((p_.cellsOf (3:Nat):Nat))=((1:Nat)),
 ((List.take (z8_ (z1_ l)).length (List.drop (0:Nat) (ints (z8_ (z1_ l)))):List AV))=(z4_ (unI (List.take (z8_ (z1_ l)).length (List.drop (0:Nat) (ints (z8_ (z1_ l))))))),
 (((z8_ (z1_ l)).length:Nat))=((unI (List.take (z8_ (z1_ l)).length (List.drop (0:Nat) (ints (z8_ (z1_ l)))))).length),
 (t8_ [] (AV.tu [AV.c (str (l3_ (unI (List.take (z8_ (z1_ l)).length (List.drop (0:Nat) (ints (z8_ (z1_ l)))))))),AV.c (Value.bool (l6_ (unI (List.take (z8_ (z1_ l)).length (List.drop (0:Nat) (ints (z8_ (z1_ l))))))))]))=true,
 (l6_ (unI (List.take (z8_ (z1_ l)).length (List.drop (0:Nat) (ints (z8_ (z1_ l)))))))=false],by kernel_rfl,?_⟩
  all_goals try simp(disch:=omega) only[std,h0_,s0]
  all_goals repeat' apply And.intro
  all_goals first|exact True.intro|omega|with_reducible (first|rfl|assumption)|exact hr|exact hx|exact d1|exact d2|exact d3|exact s1|exact s2|exact s3|rfl|exact ho|exact hL|exact hm|exact s0
theorem nme7_all (l r t:List UInt8)(hx:n2_ xnB l=false)(ho:o4_ l=false)(hL:u8_ (unI (ints (z8_ (z1_ l))))=true)(hm:l6_ (unI (ints (z8_ (z1_ l))))=true)(he:l3_ (unI (ints (z8_ (z1_ l))))=t)(ht:t.length≤100000)(hl:l.length≤100000)(hr:m2_ xnB l=r)(hrl:r.length≤100000)(d1:z0_ (x7_ r)=z4_ (unI (z0_ (x7_ r))))(d2:(x7_ r).length=(unI (z0_ (x7_ r))).length)(d3:s9_ (unI (z0_ (x7_ r))))(d4:(x7_ r).length≤255)(s0:List.take (z8_ (z1_ l)).length (ints (z8_ (z1_ l)))=ints (z8_ (z1_ l)))(s1:ints (z8_ (z1_ l))=z4_ (unI (ints (z8_ (z1_ l)))))(s2:(z8_ (z1_ l)).length=(unI (ints (z8_ (z1_ l)))).length)(s3:s9_ (unI (ints (z8_ (z1_ l)))))(s4:(z8_ (z1_ l)).length≤100000):∃(h:Hints) (p:List Prop),y0_ p_ 22 (z9_ p_ clNm h (y1_ ([])) 60 22 ([.c (str l)]) ([]))=some (.tu [.c (str (xnB++t)),.c (.bool true)],p)∧z7_ p:=by
  refine⟨⟨true,([(14,⟨.c (str r),none⟩),(15,⟨.c (.bool false),none⟩),(31,⟨.c (.bool false),none⟩),(36,⟨.c (.bool true),none⟩),(41,⟨.c (str t),none⟩),(42,⟨.c (.bool true),none⟩)])⟩,[((l.length:Nat)≤((9223372036854775807:Nat))),
 ((m2_ [(120:UInt8),(110:UInt8),(45:UInt8),(45:UInt8)] l:List UInt8))=(r),
 (n2_ [(120:UInt8),(110:UInt8),(45:UInt8),(45:UInt8)] l)=false,
 ((l.length:Nat)≤((1000000000:Nat))),
 (o4_ l)=false,
 ((l.length:Nat)≤((1000000000:Nat))),
 ((p_.cellsOf (3:Nat):Nat))=((1:Nat)),
 ((List.take (z8_ (z1_ l)).length (List.drop (0:Nat) (ints (z8_ (z1_ l)))):List AV))=(z4_ (unI (List.take (z8_ (z1_ l)).length (List.drop (0:Nat) (ints (z8_ (z1_ l))))))),
 (((z8_ (z1_ l)).length:Nat))=((unI (List.take (z8_ (z1_ l)).length (List.drop (0:Nat) (ints (z8_ (z1_ l)))))).length),
 (((z8_ (z1_ l)).length:Nat)≤((1000000000:Nat))),
 s9_ (unI (List.take (z8_ (z1_ l)).length (List.drop (0:Nat) (ints (z8_ (z1_ l)))))),
 (t8_ [] (AV.c (Value.bool (u8_ (unI (List.take (z8_ (z1_ l)).length (List.drop (0:Nat) (ints (z8_ (z1_ l))))))))))=true,
 (u8_ (unI (List.take (z8_ (z1_ l)).length (List.drop (0:Nat) (ints (z8_ (z1_ l)))))))=true,
 ((p_.cellsOf (3:Nat):Nat))=((1:Nat)),
 ((List.take (z8_ (z1_ l)).length (List.drop (0:Nat) (ints (z8_ (z1_ l)))):List AV))=(z4_ (unI (List.take (z8_ (z1_ l)).length (List.drop (0:Nat) (ints (z8_ (z1_ l))))))),
 (((z8_ (z1_ l)).length:Nat))=((unI (List.take (z8_ (z1_ l)).length (List.drop (0:Nat) (ints (z8_ (z1_ l)))))).length),
 (t8_ [] (AV.tu [AV.c (str (l3_ (unI (List.take (z8_ (z1_ l)).length (List.drop (0:Nat) (ints (z8_ (z1_ l)))))))),AV.c (Value.bool (l6_ (unI (List.take (z8_ (z1_ l)).length (List.drop (0:Nat) (ints (z8_ (z1_ l))))))))]))=true,
 ((l3_ (unI (List.take (z8_ (z1_ l)).length (List.drop (0:Nat) (ints (z8_ (z1_ l)))))):List UInt8))=(t),
 (l6_ (unI (List.take (z8_ (z1_ l)).length (List.drop (0:Nat) (ints (z8_ (z1_ l)))))))=true,
 (((4:Nat)+t.length:Nat)≤((9223372036854775807:Nat)))],by kernel_rfl,?_⟩
  all_goals try simp(disch:=omega) only[std,h0_,s0]
  all_goals repeat' apply And.intro
  all_goals first|exact True.intro|omega|with_reducible (first|rfl|assumption)|exact hr|exact hx|exact d1|exact d2|exact d3|exact s1|exact s2|exact s3|rfl|exact ho|exact hL|exact hm|exact he|exact s0
def nameSpec:Spec
  | [.c (.string s)]=>some (.tu [.c (str (nmG (sb s))),.c (.bool (nmF (sb s)).isSome)],[(sb s).length≤100000])
  |_=>none
theorem name_at (l:List UInt8)(hl:l.length≤100000):∃hs p,y0_ p_ 22 (z9_ p_ clNm hs (y1_ []) 60 22 [.c (str l)] [])=some (.tu [.c (str (nmG l)),.c (.bool (nmF l).isSome)],p)∧z7_ p:=by
  have hr:=cutPF_le xnB l
  have hs:=signs_len l
  generalize hr2:m2_ xnB l=r at*
  have d4:=decL_255 r
  have d3:=decL_rng (d:=r) (by omega)
  have hd:unI (z0_ (x7_ r))=z8_ (x7_ r):=unI_natI _
  have hS:unI (ints (z8_ (z1_ l)))=z8_ (z1_ l):=v8_ _
  have d1:z0_ (x7_ r)=z4_ (unI (z0_ (x7_ r))):=by rw[hd,rowN_natI]
  have d2:(x7_ r).length=(unI (z0_ (x7_ r))).length:=by rw[hd,a9_]
  have s0:List.take (z8_ (z1_ l)).length (ints (z8_ (z1_ l)))=ints (z8_ (z1_ l)):=rowN_tk _
  have s3:s9_ (z8_ (z1_ l)):=natI_rng2 (U8.signs_ok l)
  have s4:=a9_ (z1_ l)
  have e1:u8_ (unI (z0_ (x7_ r)))=d0_ (x7_ r):=by rw[hd,label_nat]
  have e2:u8_ (unI (ints (z8_ (z1_ l))))=d0_ (z1_ l):=by rw[hS,label_nat]
  have e3:l6_ (unI (ints (z8_ (z1_ l))))=Pny.e6_ (z1_ l):=by rw[hS,may_nat]
  have lowE:(l.all fun c=>decide (c.toNat<128))=o4_ l:=rfl
  unfold nmG nmF
  rw[lowE]
  cases hx:n2_ xnB l with
  |true=>
   have hrd:l.drop 4=r:=by rw[←hr2];unfold m2_;rw[if_pos hx];rfl
   rw[if_pos rfl,hrd]
   have dL:x7_ r=(Pny.p9_ r).getD []:=rfl
   cases ho:Pny.p9_ r with
   |none=>exact nme3_all l r [] hx (by rw[ho];rfl) hl hr2 (by omega) d1 d2 (by rw[hd];exact d3) d4 s0 (by rw[hS]) (by rw[hS]) (by rw[hS];exact s3) (by omega)
   |some N=>
    have dN:x7_ r=N:=dL.trans (by rw[ho];rfl)
    rw[Option.map_some,Option.getD_some]
    cases hL:d0_ N with
    |true=>exact nme1_all l r [] hx (by rw[ho];rfl) (e1.trans (by rw[dN,hL])) hl hr2 (by omega) d1 d2 (by rw[hd];exact d3) d4 s0 (by rw[hS]) (by rw[hS]) (by rw[hS];exact s3) (by omega)
    |false=>exact nme2_all l r [] hx (by rw[ho];rfl) (e1.trans (by rw[dN,hL])) hl hr2 (by omega) d1 d2 (by rw[hd];exact d3) d4 s0 (by rw[hS]) (by rw[hS]) (by rw[hS];exact s3) (by omega)
  |false=>
   rw[if_neg (by simp)]
   cases ho:o4_ l with
   |true=>exact nme4_all l r [] hx ho hl hr2 (by omega) d1 d2 (by rw[hd];exact d3) d4 s0 (by rw[hS]) (by rw[hS]) (by rw[hS];exact s3) (by omega)
   |false=>
    rw[if_neg (by simp)]
    cases hL:d0_ (z1_ l)with
    |false=>
     rw[Bool.and_false]
     exact nme5_all l r [] hx ho (e2.trans hL) hl hr2 (by omega) d1 d2 (by rw[hd];exact d3) d4 s0 (by rw[hS]) (by rw[hS]) (by rw[hS];exact s3) (by omega)
    |true=>
     cases hm:Pny.e6_ (z1_ l)with
     |false=>exact nme6_all l r [] hx ho (e2.trans hL) (e3.trans hm) hl hr2 (by omega) d1 d2 (by rw[hd];exact d3) d4 s0 (by rw[hS]) (by rw[hS]) (by rw[hS];exact s3) (by omega)
     |true=>
      have he:l3_ (unI (ints (z8_ (z1_ l))))=Pny.j4_ (z1_ l):=by
        unfold l3_
        rw[if_pos (e3.trans hm),hS,natL_I]
      have hle:(Pny.j4_ (z1_ l)).length≤100000:=by
        rw[←he]
        have:=encV_2500 (unI (ints (z8_ (z1_ l))))
        omega
      exact nme7_all l r _ hx ho (e2.trans hL) (e3.trans hm) he hle hl hr2 (by omega) d1 d2 (by rw[hd];exact d3) d4 s0 (by rw[hS]) (by rw[hS]) (by rw[hS];exact s3) (by omega)
theorem name_ok:x8_ p_ 22 nameSpec:=by
  refine w1_ mixed clNm_ok fun args r q hs hq=>?_
  unfold nameSpec at hs
  split at hs
  ·rename_i s
   simp only[oi_]at hs
   obtain⟨rfl,rfl⟩:=hs
   obtain⟨⟨⟨l⟩⟩,rfl⟩:∃b:ByteArray,b=s:=⟨s,rfl⟩
   obtain⟨hh,p,e,hp⟩:=name_at l hq.1
   exact⟨_,_,_,_,z3_,e,hp⟩
  ·simp at hs
def pdmS (k i:Nat)(C:List AV):St:=⟨frame 37 [(5,.sl 0 0 k),(17,.sl 0 0 k),(18,.c (.int .i64 k)),(19,.c (.int .i64 i))],[some ⟨9,false,C⟩]⟩
def pdmF:St:=⟨frame 37 [(2,.c (str [])),(3,.c (.bool false))],[]⟩
def pdmE (k:Nat)(C:List AV):St:=⟨frame 37 [(5,.sl 0 0 k)],[some ⟨9,false,C⟩]⟩
noncomputable def clDm:CallT:=q4_ p_ (t4_ [(22,nameSpec),(20,mpSpec),(21,spltSpec),(23,jnSpec)]) 500 8
theorem clDm_ok:x3_ p_ clDm:=t3_ mixed (y4_ name_ok (y4_ mapped_ok (y4_ split_ok (y4_ join_ok w3_)))) 500 8
theorem pdmrA_all (C C2:List AV)(k i:Nat)(t u:List UInt8)(hi:i<k)(ho:(nmF t).isSome=true)(hg:nmG t=u)(hp:List.take i C++[AV.c (str u)]++List.drop (i+1) C=C2)(hz:i<k→y2_ ((C.drop i).headD .any) (.c (str t)))(hC:C.length=k)(hk:k≤1000000)(ht:t.length≤100000):y7_ Ext0 p_ clDm (z2_ p_ 7 6) (pdmS k i C) (.normal) (pdmS k (i+1) C2):=by
  refine⟨⟨true,(bs [(20,true)]++[(23,⟨.c (str t),none⟩),(29,⟨.c (str u),none⟩),(30,⟨.c (.bool true),none⟩),(100031,⟨.any,some C2⟩)])⟩,_,60,⟨[],[5,17,18,19],[0]⟩,[decide ((↑i:Int)<↑k)=true,
 (0:Int)≤↑i,
 (↑i:Int)<↑k,
 (((0:Nat):Nat)<((List.drop (i+(0:Nat)) C).length)),
 y2_ ((List.drop (i+(0:Nat)) C).headD AV.any) ((AV.c ((str (t))))),
 ((t.length:Nat)≤((100000:Nat))),
 ((nmG t:List UInt8))=(u),
 ((nmF (sb { data:= { toList:=t}})).isSome)=true,
 (0:Int)≤↑i,
 (↑i:Int)<↑k,
 ((i+(0:Nat)+(1:Nat):Nat)≤(C.length)),
 y2_ (AV.any) (AV.any),
 ((List.take (i+(0:Nat)) C++[AV.c (str u)]++List.drop (i+(0:Nat)+(1:Nat)) C:List AV))=(C2),
 (i64.min:Int)≤↑i+1,
 (↑i+1:Int)≤i64.max],z3_,by decide,by kernel_rfl,?_⟩
  all_goals try simp(disch:=omega) only[std,List.length_drop,hC,Nat.add_zero]
  all_goals repeat' apply And.intro
  all_goals first|exact True.intro|omega|with_reducible (first|rfl|assumption)|exact hz hi|exact hg|exact ho|exact hp|rfl|exact hC
theorem pdmrX_all (C C2:List AV)(k i:Nat)(t u:List UInt8)(hi:i<k)(ho:(nmF t).isSome=false)(hg:nmG t=u)(hp:List.take i C++[AV.c (str u)]++List.drop (i+1) C=C2)(hz:i<k→y2_ ((C.drop i).headD .any) (.c (str t)))(hC:C.length=k)(hk:k≤1000000)(ht:t.length≤100000):y7_ Ext0 p_ clDm (z2_ p_ 7 6) (pdmS k i C) (.ret) (pdmF):=by
  refine⟨⟨true,(bs [(20,true)]++[(23,⟨.c (str t),none⟩),(29,⟨.c (str u),none⟩),(30,⟨.c (.bool false),none⟩),(100031,⟨.any,some C2⟩)])⟩,_,60,⟨[],[2,3],[]⟩,[decide ((↑i:Int)<↑k)=true,
 (0:Int)≤↑i,
 (↑i:Int)<↑k,
 (((0:Nat):Nat)<((List.drop (i+(0:Nat)) C).length)),
 y2_ ((List.drop (i+(0:Nat)) C).headD AV.any) ((AV.c ((str (t))))),
 ((t.length:Nat)≤((100000:Nat))),
 ((nmG t:List UInt8))=(u),
 ((nmF (sb { data:= { toList:=t}})).isSome)=false,
 (0:Int)≤↑i,
 (↑i:Int)<↑k,
 ((i+(0:Nat)+(1:Nat):Nat)≤(C.length)),
 y2_ (AV.any) (AV.any),
 ((List.take (i+(0:Nat)) C++[AV.c (str u)]++List.drop (i+(0:Nat)+(1:Nat)) C:List AV))=(C2)],z3_,by decide,by kernel_rfl,?_⟩
  all_goals try simp(disch:=omega) only[std,List.length_drop,hC,Nat.add_zero]
  all_goals repeat' apply And.intro
  all_goals first|exact True.intro|omega|with_reducible (first|rfl|assumption)|exact hz hi|exact hg|exact ho|exact hp|rfl|exact hC
theorem pdmrZ_all (C C2:List AV)(k i:Nat)(t u:List UInt8)(hi:i=k)(hz:i<k→y2_ ((C.drop i).headD .any) (.c (str t)))(hC:C.length=k)(hk:k≤1000000)(ht:t.length≤100000):y7_ Ext0 p_ clDm (z2_ p_ 7 6) (pdmS k i C) (.exit 0) (pdmE k C):=by
  refine⟨⟨true,(bs [(20,false)])⟩,_,60,⟨[],[5],[0]⟩,[decide ((↑i:Int)<↑k)=false],z3_,by decide,by kernel_rfl,?_⟩
  all_goals try simp(disch:=omega) only[std,List.length_drop,hC,Nat.add_zero]
  all_goals repeat' apply And.intro
  all_goals first|exact True.intro|omega|with_reducible (first|rfl|assumption)|exact hz hi|exact hg|exact ho|exact hp|rfl|exact hi|exact hC
def pdmC (L:List (List UInt8))(i:Nat):List AV:=u4_ ((L.take i).map nmG++L.drop i)
theorem pdmC_len (L:List (List UInt8))(i:Nat)(h:i≤L.length):(pdmC L i).length=L.length:=by
  unfold pdmC
  rw[o2_,List.length_append,List.length_map,List.length_take,List.length_drop]
  omega
theorem drop_of {A B:List AV}{i:Nat}(h:A.length=i):(A++B).drop i=B:=by subst h;exact List.drop_left
theorem take_of {A B:List AV}{i:Nat}(h:A.length=i):(A++B).take i=A:=by subst h;exact List.take_left
theorem pdmC_is (L:List (List UInt8))(i:Nat)(h:i≤L.length):pdmC L i=u4_ ((L.take i).map nmG)++u4_ (L.drop i)∧(u4_ ((L.take i).map nmG)).length=i:=by
  refine⟨strs_app _ _,?_⟩
  rw[o2_,List.length_map,List.length_take];omega
theorem pdmC_at (L:List (List UInt8))(i:Nat)(h:i<L.length):(pdmC L i).drop i= .c (str (L.getD i []))::u4_ (L.drop (i+1)):=by
  obtain⟨e,hl⟩:=pdmC_is L i (by omega)
  rw[e,drop_of hl,List.drop_eq_getElem_cons h,show L[i]=L.getD i []by simp[List.getD,h]]
  rfl
theorem pdmC_put (L:List (List UInt8))(i:Nat)(h:i<L.length):List.take i (pdmC L i)++[.c (str (nmG (L.getD i [])))]++List.drop (i+1) (pdmC L i)=pdmC L (i+1):=by
  obtain⟨e,hl⟩:=pdmC_is L i (by omega)
  have h1:=congrArg (List.drop 1) (pdmC_at L i h)
  rw[List.drop_drop]at h1
  rw[h1,e,take_of hl,(pdmC_is L (i+1) h).1,v1_ L i [] h,List.map_append,strs_app]
  rfl
theorem all_snocL (L:List (List UInt8))(i:Nat)(h:i<L.length):h4_ (L.take (i+1))=(h4_ (L.take i)&&(nmF (L.getD i [])).isSome):=by
  unfold h4_
  rw[v1_ L i [] h,List.all_append];simp
theorem pdm_walk (L:List (List UInt8))(hk:L.length≤1000000)(hL:∀t∈L,t.length≤100000):Tri Ext0 p_ (.loop (z2_ p_ 7 6)) (pdmS L.length 0 (u4_ L)) (if h4_ L=true then .exit 0 else .ret) (if h4_ L=true then pdmE L.length (u4_ (L.map nmG))else pdmF):=by
  refine t7_ mixed clDm_ok (fun i=>pdmS L.length i (pdmC L i)) (fun i=>i≤L.length∧h4_ (L.take i)=true) (fun i=>L.length-i) (fun i hx=>?_) 0 ⟨Nat.zero_le _,rfl⟩
  obtain⟨h1,h2⟩:=hx
  have hC:=pdmC_len L i h1
  by_cases hi:i<L.length
  ·have ht:(L.getD i []).length≤100000:=by
     have e:L[i]=L.getD i []:=by simp[List.getD,hi]
     rw[←e];exact hL _ (List.getElem_mem _)
   have ha:i<L.length→y2_ (((pdmC L i).drop i).headD .any) (.c (str (L.getD i []))):=fun _=>by rw[pdmC_at L i hi];exact x5_ _
   have hb:=all_snocL L i hi
   cases ho:(nmF (L.getD i [])).isSome with
   |true=>exact .inl ⟨i+1,⟨hi,by rw[hb,h2,ho];rfl⟩,by omega,pdmrA_all (pdmC L i) (pdmC L (i+1)) L.length i _ _ hi ho rfl (pdmC_put L i hi) ha hC hk ht⟩
   |false=>
    have:h4_ L=false:=by
      have e:h4_ (L.take (i+1))=false:=by rw[hb,ho,Bool.and_false]
      unfold h4_ at*
      rw[←List.take_append_drop (i+1) L,List.all_append,e,Bool.false_and]
    rw[this]
    exact .inr ⟨by simp,pdmrX_all (pdmC L i) (pdmC L (i+1)) L.length i _ _ hi ho rfl (pdmC_put L i hi) ha hC hk ht⟩
  ·have he:i=L.length:=by omega
   subst he
   rw[List.take_length]at h2
   rw[h2]
   have e:pdmC L L.length=u4_ (L.map nmG):=by unfold pdmC;rw[List.take_length,List.drop_length,List.append_nil]
   rw[e]at hC ⊢
   exact .inr ⟨by simp,pdmrZ_all _ [] L.length L.length [] [] rfl (fun h=>absurd h (Nat.lt_irrefl _)) hC hk (by simp)⟩
theorem spl_sum (k:UInt8):∀q,r7_ (v4_ k q)+(v4_ k q).length=q.length+1
  | []=>rfl
  |c::r=>by
   have ih:=spl_sum k r
   have hn:=splC_ne k r
   rw[splC_cons]
   split
   ·rw[r7_,List.length_cons,List.length_cons,List.length_nil];omega
   ·cases hs:v4_ k r with
    |nil=>exact absurd hs hn
    |cons x t=>
     rw[hs]at ih
     simp only[r7_,List.headD_cons,List.tail_cons,List.length_cons]at ih ⊢
     omega
theorem nmG_len (t:List UInt8):(nmG t).length≤t.length+2504:=by
  unfold nmG nmF
  split
  ·split
   ·exact Nat.le_add_right _ _
   ·simp
  ·split
   ·exact Nat.le_add_right _ _
   ·split
    ·rename_i h
     rw[Bool.and_eq_true]at h
     have:=encV_2500 (z8_ (z1_ t))
     unfold l3_ at this
     rw[if_pos (by rw[may_nat];exact h.1),natL_I]at this
     have hx:xnB.length=4:=rfl
     rw[Option.getD_some,List.length_append,hx]
     omega
    ·simp
theorem nmG_sum:∀L:List (List UInt8),r7_ (L.map nmG)≤r7_ L+2504*L.length
  | []=>by simp[r7_]
  |t::r=>by
   have:=nmG_sum r
   have:=nmG_len t
   simp only[List.map_cons,r7_,List.length_cons]
   omega
noncomputable def pdmLp (L:List (List UInt8))(e:Exit)(R:St):List (Nat×Lp):=[(6,⟨z2_ p_ 7 6,⟨[],[5,17,18,19],[0]⟩,pdmS L.length 0 (u4_ L),e,R⟩)]
theorem pdmm1_all (l m:List UInt8)(M:List (List UInt8))(ho:(l9_ (z1_ l)).isSome=false)(hl:l.length≤100000)(hm:((l9_ (z1_ l)).map join).getD []=m)(hml:m.length≤1000000):∃(h:Hints) (p:List Prop),y0_ p_ 7 (z9_ p_ clDm h (y1_ ([])) 60 7 ([.c (str l)]) ([]))=some (.tu [.c (str []),.c (.bool false)],p)∧z7_ p:=by
  refine⟨⟨true,([(11,⟨.c (str m),none⟩),(12,⟨.c (.bool false),none⟩)])⟩,[((l.length:Nat)≤((200000:Nat))),
 (((Option.map join (l9_ (z1_ (sb { data:= { toList:=l}})))).getD []:List UInt8))=(m),
 ((l9_ (z1_ (sb { data:= { toList:=l}}))).isSome)=false],Eq.trans (b:=some ((AV.tu [(AV.c ((str ([])))),
 (AV.c ((Value.bool false)))]),_)) (by kernel_rfl) (congrArg (fun r=>some (r,_)) ?_),?_⟩
  any_goals(
    rfl
    done)
  all_goals try simp(disch:=omega) only[std,b3_]
  all_goals repeat' apply And.intro
  all_goals first|exact True.intro|omega|with_reducible (first|rfl|assumption)|exact ho|exact hm|rfl
theorem pdmm2_all (l m:List UInt8)(M:List (List UInt8))(ho:(l9_ (z1_ l)).isSome=true)(hl:l.length≤100000)(hm:((l9_ (z1_ l)).map join).getD []=m)(hml:m.length≤1000000):∃(h:Hints) (p:List Prop),y0_ p_ 7 (z9_ p_ clDm h (y1_ (pdmLp (v4_ 46 m) .ret pdmF)) 60 7 ([.c (str l)]) ([]))=some (.tu [.c (str []),.c (.bool false)],p)∧z7_ p:=by
  refine⟨⟨true,([(11,⟨.c (str m),none⟩),(12,⟨.c (.bool true),none⟩)])⟩,[((l.length:Nat)≤((200000:Nat))),
 (((Option.map join (l9_ (z1_ (sb { data:= { toList:=l}})))).getD []:List UInt8))=(m),
 ((l9_ (z1_ (sb { data:= { toList:=l}}))).isSome)=true,
 ((m.length:Nat)≤((1000000000:Nat))),
 (([(46:UInt8)]:List UInt8))=([[(46:UInt8)].headD (0:UInt8)]),
 ((z2_ p_ (7:FuncId) (6:Nat):Go.Code))=(z2_ p_ (7:FuncId) (6:Nat)),
 ((pdmS (v4_ (46:UInt8) m).length (0:Nat) (u4_ (v4_ (46:UInt8) m)):St))=(pdmS (v4_ (46:UInt8) m).length (0:Nat) (u4_ (v4_ (46:UInt8) m)))],Eq.trans (b:=some ((AV.tu [(AV.c ((str ([])))),
 (AV.c ((Value.bool false)))]),_)) (by kernel_rfl) (congrArg (fun r=>some (r,_)) ?_),?_⟩
  any_goals(
    rfl
    done)
  all_goals try simp(disch:=omega) only[std,b3_]
  all_goals repeat' apply And.intro
  all_goals first|exact True.intro|omega|with_reducible (first|rfl|assumption)|exact ho|exact hm|rfl
theorem pdmm3_all (l m:List UInt8)(M:List (List UInt8))(ho:(l9_ (z1_ l)).isSome=true)(hM:(v4_ 46 m).length=M.length)(htk:List.take (v4_ 46 m).length (u4_ M)=u4_ M)(hs:r7_ M≤1000000000)(hk:M.length≤1000000)(hl:l.length≤100000)(hm:((l9_ (z1_ l)).map join).getD []=m)(hml:m.length≤1000000):∃(h:Hints) (p:List Prop),y0_ p_ 7 (z9_ p_ clDm h (y1_ (pdmLp (v4_ 46 m) (.exit 0) (pdmE (v4_ 46 m).length (u4_ M)))) 60 7 ([.c (str l)]) ([]))=some (.tu [.c (str (jnC 46 M)),.c (.bool true)],p)∧z7_ p:=by
  refine⟨⟨true,([(11,⟨.c (str m),none⟩),(12,⟨.c (.bool true),none⟩)])⟩,[((l.length:Nat)≤((200000:Nat))),
 (((Option.map join (l9_ (z1_ (sb { data:= { toList:=l}})))).getD []:List UInt8))=(m),
 ((l9_ (z1_ (sb { data:= { toList:=l}}))).isSome)=true,
 ((m.length:Nat)≤((1000000000:Nat))),
 (([(46:UInt8)]:List UInt8))=([[(46:UInt8)].headD (0:UInt8)]),
 ((z2_ p_ (7:FuncId) (6:Nat):Go.Code))=(z2_ p_ (7:FuncId) (6:Nat)),
 ((pdmS (v4_ (46:UInt8) m).length (0:Nat) (u4_ (v4_ (46:UInt8) m)):St))=(pdmS (v4_ (46:UInt8) m).length (0:Nat) (u4_ (v4_ (46:UInt8) m))),
 ((p_.cellsOf (9:TypeId):Nat))=((1:Nat)),
 ((List.take (v4_ (46:UInt8) m).length (List.drop (0:Nat) (u4_ M)):List AV))=(u4_ (f1_ (List.take (v4_ (46:UInt8) m).length (List.drop (0:Nat) (u4_ M))))),
 (((v4_ (46:UInt8) m).length:Nat))=((f1_ (List.take (v4_ (46:UInt8) m).length (List.drop (0:Nat) (u4_ M)))).length),
 (([(46:UInt8)]:List UInt8))=([[(46:UInt8)].headD (0:UInt8)]),
 ((r7_ (f1_ (List.take (v4_ (46:UInt8) m).length (List.drop (0:Nat) (u4_ M)))):Nat)≤((1000000000:Nat))),
 (((v4_ (46:UInt8) m).length:Nat)≤((1000000000:Nat))),
 (t8_ [] (AV.c (str (jnC ([(46:UInt8)].headD (0:UInt8)) (f1_ (List.take (v4_ (46:UInt8) m).length (List.drop (0:Nat) (u4_ M))))))))=true],Eq.trans (b:=some ((AV.tu [(AV.c ((str (jnC ([(46:UInt8)].headD (0:UInt8)) (f1_ (List.take (v4_ (46:UInt8) m).length (List.drop (0:Nat) (u4_ M)))))))),
 (AV.c ((Value.bool true)))]),_)) (by kernel_rfl) (congrArg (fun r=>some (r,_)) ?_),?_⟩
  any_goals(
    first|(rw[List.drop_zero,htk,b3_];done)|(rw[List.drop_zero,htk,b3_];rfl)
    done)
  all_goals try simp(disch:=omega) only[std,b3_,htk]
  all_goals repeat' apply And.intro
  all_goals first|exact True.intro|omega|with_reducible (first|rfl|assumption)|exact ho|exact hm|rfl|exact hM|exact htk
theorem pdom_ok:x8_ p_ 7 domSpec:=by
  refine w1_ mixed clDm_ok fun args r q hs hq=>?_
  unfold domSpec at hs
  split at hs
  ·rename_i s
   simp only[oi_]at hs
   obtain⟨rfl,rfl⟩:=hs
   obtain⟨⟨⟨l⟩⟩,rfl⟩:∃b:ByteArray,b=s:=⟨s,rfl⟩
   obtain⟨hl,hd,_⟩:=hq
   have hl:l.length≤100000:=hl
   show ∃hs lp fuel p,_∧y0_ _ _ _=some (AV.tu [.c (str ((c9_ l).getD [])),.c (.bool (c9_ l).isSome)],p)∧_
   unfold c9_
   cases hp:l9_ (z1_ l)with
   |none=>
    obtain⟨hh,p,e,hq⟩:=pdmm1_all l [] [] (by rw[hp];rfl) hl (by rw[hp];rfl) (by simp)
    exact⟨_,_,_,_,z3_,e,hq⟩
   |some q=>
    have hst:=put_out hp
    have hok:∀c∈q,okC c:=fun c hc=>stays_ok (hst c hc)
    have hql:(join q).length≤100000:=hd q hp
    have hsp:=spl_join hok
    have hlen:=splC_le 46 (join q)
    have hmem:=splC_len 46 (join q)
    have w:=pdm_walk (v4_ 46 (join q)) (by omega) fun t ht=>by have:=(hmem t ht).1;omega
    have hdn:=dom_names (spl q) (spl_ne q) fun l hl=>⟨fun c hc=>hok c (spl_mem q l hl c hc).1,by
      have:=(hmem (join l) (by rw[hsp];exact List.mem_map.2 ⟨l,hl,rfl⟩)).1
      omega⟩
    rw[←hsp]at hdn
    show ∃hs lp fuel p,_∧y0_ _ _ _=some (AV.tu [.c (str ((domL (spl q)).getD [])),.c (.bool (domL (spl q)).isSome)],p)∧_
    rw[hdn]
    cases hall:h4_ (v4_ 46 (join q))with
    |false=>
     rw[hall]at w
     obtain⟨hh,p,e,hq⟩:=pdmm2_all l (join q) [] (by rw[hp];rfl) hl (by rw[hp];rfl) (by omega)
     exact⟨_,_,_,_,y3_ z3_ (show [0].Nodup by decide) w,e,hq⟩
    |true=>
     rw[hall]at w
     have h1:=nmG_sum (v4_ 46 (join q))
     have h2:=spl_sum 46 (join q)
     obtain⟨hh,p,e,hq⟩:=pdmm3_all l (join q) ((v4_ 46 (join q)).map nmG) (by rw[hp];rfl) (by rw[List.length_map]) (by rw[show(v4_ 46 (join q)).length=((v4_ 46 (join q)).map nmG).length by rw[List.length_map],strs_tk]) (by omega) (by rw[List.length_map];omega) hl (by rw[hp];rfl) (by omega)
     exact⟨_,_,_,_,y3_ z3_ (show [0].Nodup by decide) w,e,hq⟩
  ·simp at hs
end Go.Proofs.YtmjldphagbobpaaGreatDoor
