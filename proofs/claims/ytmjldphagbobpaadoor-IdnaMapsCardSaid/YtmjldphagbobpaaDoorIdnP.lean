import Derived.Test.YtmjldphagbobpaaDoorIdnW
import Derived.Test.YtmjldphagbobpaaDoorSplP
import Derived.Test.YtmjldphagbobpaaDoorJnP
set_option linter.unusedVariables false
set_option linter.unusedSimpArgs false
namespace Go.Proofs.YtmjldphagbobpaaDoor
open IntKind (i64 u8 i32 u32 u64)
open _root_.Go.Proofs.Tryd renaming prog→p_
open Go.RowKit U8 Idn
def o2_ (l:List UInt8):Bool:=l.all fun c=>decide (c.toNat<128)
def blS (l:List UInt8)(n i:Nat):St:=⟨frame 14 [(0,.c (str l)),(5,.c (.int .i64 n)),(6,.c (.int .i64 i))],[]⟩
def blF:St:=⟨frame 14 [(2,.c (.bool false))],[]⟩
def blE:St:=⟨frame 14 [],[]⟩
theorem blA_all (l:List UInt8)(n i:Nat)(hi:i<n)(hc:((l.getD i 0).toNat:Nat)<128)(hn:l.length=n)(hl:n≤1000000000):x1_ Ext0 p_ cl0 (z1_ p_ 41 2) (blS l n i) (.normal) (blS l n (i+1)):=by
  refine⟨⟨true,(bs [(7,true),(12,false)])⟩,_,60,⟨[],[0,5,6],[]⟩,[decide ((↑i:Int)<↑n)=true,
 (0:Int)≤↑i,
 (↑i:Int)<↑l.length,
 (decide ((↑(l.getD i 0).toNat:Int)≥(128:Int)))=false,
 (i64.min:Int)≤↑i+1,
 (↑i+1:Int)≤i64.max],z4_,by decide,by kernel_rfl,?_⟩
  all_goals try simp(disch:=omega) only[std]
  all_goals repeat' apply And.intro
  all_goals first|exact True.intro|omega|with_reducible (first|rfl|assumption)|exact hn|rfl
theorem blX_all (l:List UInt8)(n i:Nat)(hi:i<n)(hc:128≤((l.getD i 0).toNat:Nat))(hn:l.length=n)(hl:n≤1000000000):x1_ Ext0 p_ cl0 (z1_ p_ 41 2) (blS l n i) (.ret) (blF):=by
  refine⟨⟨true,(bs [(7,true),(12,true)])⟩,_,60,⟨[],[2],[]⟩,[decide ((↑i:Int)<↑n)=true,
 (0:Int)≤↑i,
 (↑i:Int)<↑l.length,
 (decide ((↑(l.getD i 0).toNat:Int)≥(128:Int)))=true],z4_,by decide,by kernel_rfl,?_⟩
  all_goals try simp(disch:=omega) only[std]
  all_goals repeat' apply And.intro
  all_goals first|exact True.intro|omega|with_reducible (first|rfl|assumption)|exact hn|rfl
theorem blZ_all (l:List UInt8)(n i:Nat)(hi:i=n)(hn:l.length=n)(hl:n≤1000000000):x1_ Ext0 p_ cl0 (z1_ p_ 41 2) (blS l n i) (.exit 0) (blE):=by
  refine⟨⟨true,(bs [(7,false)])⟩,_,60,⟨[],[],[]⟩,[decide ((↑i:Int)<↑n)=false],z4_,by decide,by kernel_rfl,?_⟩
  all_goals try simp(disch:=omega) only[std]
  all_goals repeat' apply And.intro
  all_goals first|exact True.intro|omega|with_reducible (first|rfl|assumption)|exact hi|exact hn|rfl
theorem bl_walk (l:List UInt8)(hl:l.length≤1000000000):Tri Ext0 p_ (.loop (z1_ p_ 41 2)) (blS l l.length 0) (if o2_ l=true then .exit 0 else .ret) (if o2_ l=true then blE else blF):=by
  refine n9_ mixed w6_ (fun i=>blS l l.length i) (fun i=>i≤l.length∧o2_ (l.take i)=true) (fun i=>l.length-i) (fun i hx=>?_) 0 ⟨Nat.zero_le _,rfl⟩
  obtain⟨h1,h2⟩:=hx
  by_cases hi:i<l.length
  ·have hb:o2_ (l.take (i+1))=(o2_ (l.take i)&&decide ((l.getD i 0).toNat<128)):=by
     unfold o2_
     rw[v9_ l i 0 hi,List.all_append];simp
   by_cases hc:(l.getD i 0).toNat<128
   ·exact .inl ⟨i+1,⟨hi,by rw[hb,h2];simpa using hc⟩,by omega,blA_all l l.length i hi hc rfl hl⟩
   ·have:o2_ l=false:=by
      have e:o2_ (l.take (i+1))=false:=by rw[hb,decide_eq_false hc,Bool.and_false]
      unfold o2_ at*
      rw[←List.take_append_drop (i+1) l,List.all_append,e,Bool.false_and]
    rw[this]
    exact .inr ⟨by simp,blX_all l l.length i hi (by omega) rfl hl⟩
  ·have he:i=l.length:=by omega
   subst he
   rw[List.take_length]at h2
   rw[h2]
   exact .inr ⟨by simp,blZ_all l l.length l.length rfl rfl hl⟩
theorem blmT_all (l:List UInt8):∃(h:Hints) (p:List Prop),y3_ p_ 41 (z8_ p_ cl0 h (y1_ ([(2,⟨z1_ p_ 41 2,⟨[],[0,5,6],[]⟩,blS l l.length 0,.exit 0,blE⟩)])) 60 41 ([.c (str l)]) ([]))=some (.c (.bool true),p)∧z7_ p:=by
  refine⟨⟨true,bs []⟩,[((z1_ p_ (41:FuncId) (2:Nat):Go.Code))=(z1_ p_ (41:FuncId) (2:Nat)),
 ((blS l l.length (0:Nat):St))=(blS l l.length (0:Nat))],by kernel_rfl,?_⟩
  all_goals try simp(disch:=omega) only[std]
  all_goals repeat' apply And.intro
  all_goals first|exact True.intro|omega|with_reducible (first|rfl|assumption)|rfl
theorem blmF_all (l:List UInt8):∃(h:Hints) (p:List Prop),y3_ p_ 41 (z8_ p_ cl0 h (y1_ ([(2,⟨z1_ p_ 41 2,⟨[],[0,5,6],[]⟩,blS l l.length 0,.ret,blF⟩)])) 60 41 ([.c (str l)]) ([]))=some (.c (.bool false),p)∧z7_ p:=by
  refine⟨⟨true,bs []⟩,[((z1_ p_ (41:FuncId) (2:Nat):Go.Code))=(z1_ p_ (41:FuncId) (2:Nat)),
 ((blS l l.length (0:Nat):St))=(blS l l.length (0:Nat))],by kernel_rfl,?_⟩
  all_goals try simp(disch:=omega) only[std]
  all_goals repeat' apply And.intro
  all_goals first|exact True.intro|omega|with_reducible (first|rfl|assumption)|rfl
def belowSpec:Spec
  | [.c (.string s)]=>some (.c (.bool (o2_ (sb s))),[(sb s).length≤1000000000])
  |_=>none
theorem below_ok:w2_ p_ 41 belowSpec:=by
  refine v5_ mixed w6_ fun args r q hs hq=>?_
  unfold belowSpec at hs
  split at hs
  ·rename_i s
   simp only[oi_]at hs
   obtain⟨rfl,rfl⟩:=hs
   obtain⟨⟨⟨s⟩⟩,rfl⟩:∃b:ByteArray,b=s:=⟨s,rfl⟩
   simp only[p5_,z7_,and_true]at hq ⊢
   have w:=bl_walk s hq
   cases hb:o2_ s with
   |true=>
    rw[hb]at w
    obtain⟨hh,q,e,hp⟩:=blmT_all s
    exact⟨_,_,_,_,x4_ z4_ (show([]:List Nat).Nodup by decide) w,e,hp⟩
   |false=>
    rw[hb]at w
    obtain⟨hh,q,e,hp⟩:=blmF_all s
    exact⟨_,_,_,_,x4_ z4_ (show([]:List Nat).Nodup by decide) w,e,hp⟩
  ·simp at hs
noncomputable def clNm:CallT:=p3_ p_ (r4_ [(55,cutPreSpec),(15,labelSpec),(13,signsSpecU),(41,belowSpec),(42,enc7Spec)]) (m0_ [(16,dec7Spec)]) 500 8
theorem clNm_ok:x7_ p_ clNm:=s3_ mixed (y8_ cutPre_ok (y8_ plabel_ok (y8_ signsU_ok (y8_ below_ok (y8_ penc_ok v2_))))) (w5_ pdec_ok s8_) 500 8
theorem nme1_all (l r t:List UInt8)(hx:q9_ xnB l=true)(ho:(Pny.m8_ r).isSome=true)(hL:t2_ (unI (z0_ (x0_ r)))=true)(hl:l.length≤100000)(hr:n5_ xnB l=r)(hrl:r.length≤100000)(d1:z0_ (x0_ r)=z2_ (unI (z0_ (x0_ r))))(d2:(x0_ r).length=(unI (z0_ (x0_ r))).length)(d3:s1_ (unI (z0_ (x0_ r))))(d4:(x0_ r).length≤255)(s0:List.take (z9_ (z3_ l)).length (ints (z9_ (z3_ l)))=ints (z9_ (z3_ l)))(s1:ints (z9_ (z3_ l))=z2_ (unI (ints (z9_ (z3_ l)))))(s2:(z9_ (z3_ l)).length=(unI (ints (z9_ (z3_ l)))).length)(s3:s1_ (unI (ints (z9_ (z3_ l)))))(s4:(z9_ (z3_ l)).length≤100000):∃(h:Hints) (p:List Prop),y3_ p_ 24 (z8_ p_ clNm h (y1_ ([])) 60 24 ([.c (str l)]) ([]))=some (.tu [.c (str l),.c (.bool true)],p)∧z7_ p:=by
  refine⟨⟨true,([(14,⟨.c (str r),none⟩),(15,⟨.c (.bool true),none⟩),(21,⟨.c (.bool true),none⟩),(26,⟨.c (.bool true),none⟩)])⟩,[((l.length:Nat)≤((9223372036854775807:Nat))),
 ((n5_ [(120:UInt8),(110:UInt8),(45:UInt8),(45:UInt8)] l:List UInt8))=(r),
 (q9_ [(120:UInt8),(110:UInt8),(45:UInt8),(45:UInt8)] l)=true,
 ((r.length:Nat)≤((100000:Nat))),
 ((Pny.m8_ (sb { data:= { toList:=r}})).isSome)=true,
 ((p_.cellsOf (3:TypeId):Nat))=((1:Nat)),
 ((List.take (x0_ r).length (List.drop (0:Nat) (z0_ (x0_ r))):List AV))=(z2_ (unI (List.take (x0_ r).length (List.drop (0:Nat) (z0_ (x0_ r)))))),
 (((x0_ r).length:Nat))=((unI (List.take (x0_ r).length (List.drop (0:Nat) (z0_ (x0_ r))))).length),
 (((x0_ r).length:Nat)≤((1000000000:Nat))),
 s1_ (unI (List.take (x0_ r).length (List.drop (0:Nat) (z0_ (x0_ r))))),
 (s9_ [] (AV.c (Value.bool (t2_ (unI (List.take (x0_ r).length (List.drop (0:Nat) (z0_ (x0_ r)))))))))=true,
 (t2_ (unI (List.take (x0_ r).length (List.drop (0:Nat) (z0_ (x0_ r))))))=true],by kernel_rfl,?_⟩
  all_goals try simp(disch:=omega) only[std,h0_,s0]
  all_goals repeat' apply And.intro
  all_goals first|exact True.intro|omega|with_reducible (first|rfl|assumption)|exact hr|exact hx|exact d1|exact d2|exact d3|exact s1|exact s2|exact s3|rfl|exact ho|exact hL|exact s0
theorem nme2_all (l r t:List UInt8)(hx:q9_ xnB l=true)(ho:(Pny.m8_ r).isSome=true)(hL:t2_ (unI (z0_ (x0_ r)))=false)(hl:l.length≤100000)(hr:n5_ xnB l=r)(hrl:r.length≤100000)(d1:z0_ (x0_ r)=z2_ (unI (z0_ (x0_ r))))(d2:(x0_ r).length=(unI (z0_ (x0_ r))).length)(d3:s1_ (unI (z0_ (x0_ r))))(d4:(x0_ r).length≤255)(s0:List.take (z9_ (z3_ l)).length (ints (z9_ (z3_ l)))=ints (z9_ (z3_ l)))(s1:ints (z9_ (z3_ l))=z2_ (unI (ints (z9_ (z3_ l)))))(s2:(z9_ (z3_ l)).length=(unI (ints (z9_ (z3_ l)))).length)(s3:s1_ (unI (ints (z9_ (z3_ l)))))(s4:(z9_ (z3_ l)).length≤100000):∃(h:Hints) (p:List Prop),y3_ p_ 24 (z8_ p_ clNm h (y1_ ([])) 60 24 ([.c (str l)]) ([]))=some (.tu [.c (str []),.c (.bool false)],p)∧z7_ p:=by
  refine⟨⟨true,([(14,⟨.c (str r),none⟩),(15,⟨.c (.bool true),none⟩),(21,⟨.c (.bool true),none⟩),(26,⟨.c (.bool false),none⟩)])⟩,[((l.length:Nat)≤((9223372036854775807:Nat))),
 ((n5_ [(120:UInt8),(110:UInt8),(45:UInt8),(45:UInt8)] l:List UInt8))=(r),
 (q9_ [(120:UInt8),(110:UInt8),(45:UInt8),(45:UInt8)] l)=true,
 ((r.length:Nat)≤((100000:Nat))),
 ((Pny.m8_ (sb { data:= { toList:=r}})).isSome)=true,
 ((p_.cellsOf (3:TypeId):Nat))=((1:Nat)),
 ((List.take (x0_ r).length (List.drop (0:Nat) (z0_ (x0_ r))):List AV))=(z2_ (unI (List.take (x0_ r).length (List.drop (0:Nat) (z0_ (x0_ r)))))),
 (((x0_ r).length:Nat))=((unI (List.take (x0_ r).length (List.drop (0:Nat) (z0_ (x0_ r))))).length),
 (((x0_ r).length:Nat)≤((1000000000:Nat))),
 s1_ (unI (List.take (x0_ r).length (List.drop (0:Nat) (z0_ (x0_ r))))),
 (s9_ [] (AV.c (Value.bool (t2_ (unI (List.take (x0_ r).length (List.drop (0:Nat) (z0_ (x0_ r)))))))))=true,
 (t2_ (unI (List.take (x0_ r).length (List.drop (0:Nat) (z0_ (x0_ r))))))=false],by kernel_rfl,?_⟩
  all_goals try simp(disch:=omega) only[std,h0_,s0]
  all_goals repeat' apply And.intro
  all_goals first|exact True.intro|omega|with_reducible (first|rfl|assumption)|exact hr|exact hx|exact d1|exact d2|exact d3|exact s1|exact s2|exact s3|rfl|exact ho|exact hL|exact s0
theorem nme3_all (l r t:List UInt8)(hx:q9_ xnB l=true)(ho:(Pny.m8_ r).isSome=false)(hl:l.length≤100000)(hr:n5_ xnB l=r)(hrl:r.length≤100000)(d1:z0_ (x0_ r)=z2_ (unI (z0_ (x0_ r))))(d2:(x0_ r).length=(unI (z0_ (x0_ r))).length)(d3:s1_ (unI (z0_ (x0_ r))))(d4:(x0_ r).length≤255)(s0:List.take (z9_ (z3_ l)).length (ints (z9_ (z3_ l)))=ints (z9_ (z3_ l)))(s1:ints (z9_ (z3_ l))=z2_ (unI (ints (z9_ (z3_ l)))))(s2:(z9_ (z3_ l)).length=(unI (ints (z9_ (z3_ l)))).length)(s3:s1_ (unI (ints (z9_ (z3_ l)))))(s4:(z9_ (z3_ l)).length≤100000):∃(h:Hints) (p:List Prop),y3_ p_ 24 (z8_ p_ clNm h (y1_ ([])) 60 24 ([.c (str l)]) ([]))=some (.tu [.c (str []),.c (.bool false)],p)∧z7_ p:=by
  refine⟨⟨true,([(14,⟨.c (str r),none⟩),(15,⟨.c (.bool true),none⟩),(21,⟨.c (.bool false),none⟩)])⟩,[((l.length:Nat)≤((9223372036854775807:Nat))),
 ((n5_ [(120:UInt8),(110:UInt8),(45:UInt8),(45:UInt8)] l:List UInt8))=(r),
 (q9_ [(120:UInt8),(110:UInt8),(45:UInt8),(45:UInt8)] l)=true,
 ((r.length:Nat)≤((100000:Nat))),
 ((Pny.m8_ (sb { data:= { toList:=r}})).isSome)=false],by kernel_rfl,?_⟩
  all_goals try simp(disch:=omega) only[std,h0_,s0]
  all_goals repeat' apply And.intro
  all_goals first|exact True.intro|omega|with_reducible (first|rfl|assumption)|exact hr|exact hx|exact d1|exact d2|exact d3|exact s1|exact s2|exact s3|rfl|exact ho|exact s0
theorem nme4_all (l r t:List UInt8)(hx:q9_ xnB l=false)(ho:o2_ l=true)(hl:l.length≤100000)(hr:n5_ xnB l=r)(hrl:r.length≤100000)(d1:z0_ (x0_ r)=z2_ (unI (z0_ (x0_ r))))(d2:(x0_ r).length=(unI (z0_ (x0_ r))).length)(d3:s1_ (unI (z0_ (x0_ r))))(d4:(x0_ r).length≤255)(s0:List.take (z9_ (z3_ l)).length (ints (z9_ (z3_ l)))=ints (z9_ (z3_ l)))(s1:ints (z9_ (z3_ l))=z2_ (unI (ints (z9_ (z3_ l)))))(s2:(z9_ (z3_ l)).length=(unI (ints (z9_ (z3_ l)))).length)(s3:s1_ (unI (ints (z9_ (z3_ l)))))(s4:(z9_ (z3_ l)).length≤100000):∃(h:Hints) (p:List Prop),y3_ p_ 24 (z8_ p_ clNm h (y1_ ([])) 60 24 ([.c (str l)]) ([]))=some (.tu [.c (str l),.c (.bool true)],p)∧z7_ p:=by
  refine⟨⟨true,([(14,⟨.c (str r),none⟩),(15,⟨.c (.bool false),none⟩),(31,⟨.c (.bool true),none⟩)])⟩,[((l.length:Nat)≤((9223372036854775807:Nat))),
 ((n5_ [(120:UInt8),(110:UInt8),(45:UInt8),(45:UInt8)] l:List UInt8))=(r),
 (q9_ [(120:UInt8),(110:UInt8),(45:UInt8),(45:UInt8)] l)=false,
 ((l.length:Nat)≤((1000000000:Nat))),
 (o2_ l)=true],by kernel_rfl,?_⟩
  all_goals try simp(disch:=omega) only[std,h0_,s0]
  all_goals repeat' apply And.intro
  all_goals first|exact True.intro|omega|with_reducible (first|rfl|assumption)|exact hr|exact hx|exact d1|exact d2|exact d3|exact s1|exact s2|exact s3|rfl|exact ho|exact s0
theorem nme5_all (l r t:List UInt8)(hx:q9_ xnB l=false)(ho:o2_ l=false)(hL:t2_ (unI (ints (z9_ (z3_ l))))=false)(hl:l.length≤100000)(hr:n5_ xnB l=r)(hrl:r.length≤100000)(d1:z0_ (x0_ r)=z2_ (unI (z0_ (x0_ r))))(d2:(x0_ r).length=(unI (z0_ (x0_ r))).length)(d3:s1_ (unI (z0_ (x0_ r))))(d4:(x0_ r).length≤255)(s0:List.take (z9_ (z3_ l)).length (ints (z9_ (z3_ l)))=ints (z9_ (z3_ l)))(s1:ints (z9_ (z3_ l))=z2_ (unI (ints (z9_ (z3_ l)))))(s2:(z9_ (z3_ l)).length=(unI (ints (z9_ (z3_ l)))).length)(s3:s1_ (unI (ints (z9_ (z3_ l)))))(s4:(z9_ (z3_ l)).length≤100000):∃(h:Hints) (p:List Prop),y3_ p_ 24 (z8_ p_ clNm h (y1_ ([])) 60 24 ([.c (str l)]) ([]))=some (.tu [.c (str []),.c (.bool false)],p)∧z7_ p:=by
  refine⟨⟨true,([(14,⟨.c (str r),none⟩),(15,⟨.c (.bool false),none⟩),(31,⟨.c (.bool false),none⟩),(36,⟨.c (.bool false),none⟩)])⟩,[((l.length:Nat)≤((9223372036854775807:Nat))),
 ((n5_ [(120:UInt8),(110:UInt8),(45:UInt8),(45:UInt8)] l:List UInt8))=(r),
 (q9_ [(120:UInt8),(110:UInt8),(45:UInt8),(45:UInt8)] l)=false,
 ((l.length:Nat)≤((1000000000:Nat))),
 (o2_ l)=false,
 ((l.length:Nat)≤((1000000000:Nat))),
 ((p_.cellsOf (3:Nat):Nat))=((1:Nat)),
 ((List.take (z9_ (z3_ l)).length (List.drop (0:Nat) (ints (z9_ (z3_ l)))):List AV))=(z2_ (unI (List.take (z9_ (z3_ l)).length (List.drop (0:Nat) (ints (z9_ (z3_ l))))))),
 (((z9_ (z3_ l)).length:Nat))=((unI (List.take (z9_ (z3_ l)).length (List.drop (0:Nat) (ints (z9_ (z3_ l)))))).length),
 (((z9_ (z3_ l)).length:Nat)≤((1000000000:Nat))),
 s1_ (unI (List.take (z9_ (z3_ l)).length (List.drop (0:Nat) (ints (z9_ (z3_ l)))))),
 (s9_ [] (AV.c (Value.bool (t2_ (unI (List.take (z9_ (z3_ l)).length (List.drop (0:Nat) (ints (z9_ (z3_ l))))))))))=true,
 (t2_ (unI (List.take (z9_ (z3_ l)).length (List.drop (0:Nat) (ints (z9_ (z3_ l)))))))=false],by kernel_rfl,?_⟩
  all_goals try simp(disch:=omega) only[std,h0_,s0]
  all_goals repeat' apply And.intro
  all_goals first|exact True.intro|omega|with_reducible (first|rfl|assumption)|exact hr|exact hx|exact d1|exact d2|exact d3|exact s1|exact s2|exact s3|rfl|exact ho|exact hL|exact s0
theorem nme6_all (l r t:List UInt8)(hx:q9_ xnB l=false)(ho:o2_ l=false)(hL:t2_ (unI (ints (z9_ (z3_ l))))=true)(hm:mayI (unI (ints (z9_ (z3_ l))))=false)(hl:l.length≤100000)(hr:n5_ xnB l=r)(hrl:r.length≤100000)(d1:z0_ (x0_ r)=z2_ (unI (z0_ (x0_ r))))(d2:(x0_ r).length=(unI (z0_ (x0_ r))).length)(d3:s1_ (unI (z0_ (x0_ r))))(d4:(x0_ r).length≤255)(s0:List.take (z9_ (z3_ l)).length (ints (z9_ (z3_ l)))=ints (z9_ (z3_ l)))(s1:ints (z9_ (z3_ l))=z2_ (unI (ints (z9_ (z3_ l)))))(s2:(z9_ (z3_ l)).length=(unI (ints (z9_ (z3_ l)))).length)(s3:s1_ (unI (ints (z9_ (z3_ l)))))(s4:(z9_ (z3_ l)).length≤100000):∃(h:Hints) (p:List Prop),y3_ p_ 24 (z8_ p_ clNm h (y1_ ([])) 60 24 ([.c (str l)]) ([]))=some (.tu [.c (str []),.c (.bool false)],p)∧z7_ p:=by
  refine⟨⟨true,([(14,⟨.c (str r),none⟩),(15,⟨.c (.bool false),none⟩),(31,⟨.c (.bool false),none⟩),(36,⟨.c (.bool true),none⟩),(42,⟨.c (.bool false),none⟩)])⟩,[((l.length:Nat)≤((9223372036854775807:Nat))),
 ((n5_ [(120:UInt8),(110:UInt8),(45:UInt8),(45:UInt8)] l:List UInt8))=(r),
 (q9_ [(120:UInt8),(110:UInt8),(45:UInt8),(45:UInt8)] l)=false,
 ((l.length:Nat)≤((1000000000:Nat))),
 (o2_ l)=false,
 ((l.length:Nat)≤((1000000000:Nat))),
 ((p_.cellsOf (3:Nat):Nat))=((1:Nat)),
 ((List.take (z9_ (z3_ l)).length (List.drop (0:Nat) (ints (z9_ (z3_ l)))):List AV))=(z2_ (unI (List.take (z9_ (z3_ l)).length (List.drop (0:Nat) (ints (z9_ (z3_ l))))))),
 (((z9_ (z3_ l)).length:Nat))=((unI (List.take (z9_ (z3_ l)).length (List.drop (0:Nat) (ints (z9_ (z3_ l)))))).length),
 (((z9_ (z3_ l)).length:Nat)≤((1000000000:Nat))),
 s1_ (unI (List.take (z9_ (z3_ l)).length (List.drop (0:Nat) (ints (z9_ (z3_ l)))))),
 (s9_ [] (AV.c (Value.bool (t2_ (unI (List.take (z9_ (z3_ l)).length (List.drop (0:Nat) (ints (z9_ (z3_ l))))))))))=true,
 (t2_ (unI (List.take (z9_ (z3_ l)).length (List.drop (0:Nat) (ints (z9_ (z3_ l)))))))=true,
 ((p_.cellsOf (3:Nat):Nat))=((1:Nat)),
 ((List.take (z9_ (z3_ l)).length (List.drop (0:Nat) (ints (z9_ (z3_ l)))):List AV))=(z2_ (unI (List.take (z9_ (z3_ l)).length (List.drop (0:Nat) (ints (z9_ (z3_ l))))))),
 (((z9_ (z3_ l)).length:Nat))=((unI (List.take (z9_ (z3_ l)).length (List.drop (0:Nat) (ints (z9_ (z3_ l)))))).length),
 (s9_ [] (AV.tu [AV.c (str (a5_ (unI (List.take (z9_ (z3_ l)).length (List.drop (0:Nat) (ints (z9_ (z3_ l)))))))),AV.c (Value.bool (mayI (unI (List.take (z9_ (z3_ l)).length (List.drop (0:Nat) (ints (z9_ (z3_ l))))))))]))=true,
 (mayI (unI (List.take (z9_ (z3_ l)).length (List.drop (0:Nat) (ints (z9_ (z3_ l)))))))=false],by kernel_rfl,?_⟩
  all_goals try simp(disch:=omega) only[std,h0_,s0]
  all_goals repeat' apply And.intro
  all_goals first|exact True.intro|omega|with_reducible (first|rfl|assumption)|exact hr|exact hx|exact d1|exact d2|exact d3|exact s1|exact s2|exact s3|rfl|exact ho|exact hL|exact hm|exact s0
theorem nme7_all (l r t:List UInt8)(hx:q9_ xnB l=false)(ho:o2_ l=false)(hL:t2_ (unI (ints (z9_ (z3_ l))))=true)(hm:mayI (unI (ints (z9_ (z3_ l))))=true)(he:a5_ (unI (ints (z9_ (z3_ l))))=t)(ht:t.length≤100000)(hl:l.length≤100000)(hr:n5_ xnB l=r)(hrl:r.length≤100000)(d1:z0_ (x0_ r)=z2_ (unI (z0_ (x0_ r))))(d2:(x0_ r).length=(unI (z0_ (x0_ r))).length)(d3:s1_ (unI (z0_ (x0_ r))))(d4:(x0_ r).length≤255)(s0:List.take (z9_ (z3_ l)).length (ints (z9_ (z3_ l)))=ints (z9_ (z3_ l)))(s1:ints (z9_ (z3_ l))=z2_ (unI (ints (z9_ (z3_ l)))))(s2:(z9_ (z3_ l)).length=(unI (ints (z9_ (z3_ l)))).length)(s3:s1_ (unI (ints (z9_ (z3_ l)))))(s4:(z9_ (z3_ l)).length≤100000):∃(h:Hints) (p:List Prop),y3_ p_ 24 (z8_ p_ clNm h (y1_ ([])) 60 24 ([.c (str l)]) ([]))=some (.tu [.c (str (xnB++t)),.c (.bool true)],p)∧z7_ p:=by
  refine⟨⟨true,([(14,⟨.c (str r),none⟩),(15,⟨.c (.bool false),none⟩),(31,⟨.c (.bool false),none⟩),(36,⟨.c (.bool true),none⟩),(41,⟨.c (str t),none⟩),(42,⟨.c (.bool true),none⟩)])⟩,[((l.length:Nat)≤((9223372036854775807:Nat))),
 ((n5_ [(120:UInt8),(110:UInt8),(45:UInt8),(45:UInt8)] l:List UInt8))=(r),
 (q9_ [(120:UInt8),(110:UInt8),(45:UInt8),(45:UInt8)] l)=false,
 ((l.length:Nat)≤((1000000000:Nat))),
 (o2_ l)=false,
 ((l.length:Nat)≤((1000000000:Nat))),
 ((p_.cellsOf (3:Nat):Nat))=((1:Nat)),
 ((List.take (z9_ (z3_ l)).length (List.drop (0:Nat) (ints (z9_ (z3_ l)))):List AV))=(z2_ (unI (List.take (z9_ (z3_ l)).length (List.drop (0:Nat) (ints (z9_ (z3_ l))))))),
 (((z9_ (z3_ l)).length:Nat))=((unI (List.take (z9_ (z3_ l)).length (List.drop (0:Nat) (ints (z9_ (z3_ l)))))).length),
 (((z9_ (z3_ l)).length:Nat)≤((1000000000:Nat))),
 s1_ (unI (List.take (z9_ (z3_ l)).length (List.drop (0:Nat) (ints (z9_ (z3_ l)))))),
 (s9_ [] (AV.c (Value.bool (t2_ (unI (List.take (z9_ (z3_ l)).length (List.drop (0:Nat) (ints (z9_ (z3_ l))))))))))=true,
 (t2_ (unI (List.take (z9_ (z3_ l)).length (List.drop (0:Nat) (ints (z9_ (z3_ l)))))))=true,
 ((p_.cellsOf (3:Nat):Nat))=((1:Nat)),
 ((List.take (z9_ (z3_ l)).length (List.drop (0:Nat) (ints (z9_ (z3_ l)))):List AV))=(z2_ (unI (List.take (z9_ (z3_ l)).length (List.drop (0:Nat) (ints (z9_ (z3_ l))))))),
 (((z9_ (z3_ l)).length:Nat))=((unI (List.take (z9_ (z3_ l)).length (List.drop (0:Nat) (ints (z9_ (z3_ l)))))).length),
 (s9_ [] (AV.tu [AV.c (str (a5_ (unI (List.take (z9_ (z3_ l)).length (List.drop (0:Nat) (ints (z9_ (z3_ l)))))))),AV.c (Value.bool (mayI (unI (List.take (z9_ (z3_ l)).length (List.drop (0:Nat) (ints (z9_ (z3_ l))))))))]))=true,
 ((a5_ (unI (List.take (z9_ (z3_ l)).length (List.drop (0:Nat) (ints (z9_ (z3_ l)))))):List UInt8))=(t),
 (mayI (unI (List.take (z9_ (z3_ l)).length (List.drop (0:Nat) (ints (z9_ (z3_ l)))))))=true,
 (((4:Nat)+t.length:Nat)≤((9223372036854775807:Nat)))],by kernel_rfl,?_⟩
  all_goals try simp(disch:=omega) only[std,h0_,s0]
  all_goals repeat' apply And.intro
  all_goals first|exact True.intro|omega|with_reducible (first|rfl|assumption)|exact hr|exact hx|exact d1|exact d2|exact d3|exact s1|exact s2|exact s3|rfl|exact ho|exact hL|exact hm|exact he|exact s0
def nameSpec:Spec
  | [.c (.string s)]=>some (.tu [.c (str (nmG (sb s))),.c (.bool (nmF (sb s)).isSome)],[(sb s).length≤100000])
  |_=>none
theorem name_at (l:List UInt8)(hl:l.length≤100000):∃hs p,y3_ p_ 24 (z8_ p_ clNm hs (y1_ []) 60 24 [.c (str l)] [])=some (.tu [.c (str (nmG l)),.c (.bool (nmF l).isSome)],p)∧z7_ p:=by
  have hr:=cutPF_le xnB l
  have hs:=signs_len l
  generalize hr2:n5_ xnB l=r at*
  have d4:=decL_255 r
  have d3:=decL_rng (d:=r) (by omega)
  have hd:unI (z0_ (x0_ r))=z9_ (x0_ r):=unI_natI _
  have hS:unI (ints (z9_ (z3_ l)))=z9_ (z3_ l):=v8_ _
  have d1:z0_ (x0_ r)=z2_ (unI (z0_ (x0_ r))):=by rw[hd,rowN_natI]
  have d2:(x0_ r).length=(unI (z0_ (x0_ r))).length:=by rw[hd,m3_]
  have s0:List.take (z9_ (z3_ l)).length (ints (z9_ (z3_ l)))=ints (z9_ (z3_ l)):=rowN_tk _
  have s3:s1_ (z9_ (z3_ l)):=natI_rng2 (U8.g7_ l)
  have s4:=m3_ (z3_ l)
  have e1:t2_ (unI (z0_ (x0_ r)))=l6_ (x0_ r):=by rw[hd,label_nat]
  have e2:t2_ (unI (ints (z9_ (z3_ l))))=l6_ (z3_ l):=by rw[hS,label_nat]
  have e3:mayI (unI (ints (z9_ (z3_ l))))=Pny.l8_ (z3_ l):=by rw[hS,may_nat]
  have lowE:(l.all fun c=>decide (c.toNat<128))=o2_ l:=rfl
  unfold nmG nmF
  rw[lowE]
  cases hx:q9_ xnB l with
  |true=>
   have hrd:l.drop 4=r:=by rw[←hr2];unfold n5_;rw[if_pos hx];rfl
   rw[if_pos rfl,hrd]
   have dL:x0_ r=(Pny.m8_ r).getD []:=rfl
   cases ho:Pny.m8_ r with
   |none=>exact nme3_all l r [] hx (by rw[ho];rfl) hl hr2 (by omega) d1 d2 (by rw[hd];exact d3) d4 s0 (by rw[hS]) (by rw[hS]) (by rw[hS];exact s3) (by omega)
   |some N=>
    have dN:x0_ r=N:=dL.trans (by rw[ho];rfl)
    rw[Option.map_some,Option.getD_some]
    cases hL:l6_ N with
    |true=>exact nme1_all l r [] hx (by rw[ho];rfl) (e1.trans (by rw[dN,hL])) hl hr2 (by omega) d1 d2 (by rw[hd];exact d3) d4 s0 (by rw[hS]) (by rw[hS]) (by rw[hS];exact s3) (by omega)
    |false=>exact nme2_all l r [] hx (by rw[ho];rfl) (e1.trans (by rw[dN,hL])) hl hr2 (by omega) d1 d2 (by rw[hd];exact d3) d4 s0 (by rw[hS]) (by rw[hS]) (by rw[hS];exact s3) (by omega)
  |false=>
   rw[if_neg (by simp)]
   cases ho:o2_ l with
   |true=>exact nme4_all l r [] hx ho hl hr2 (by omega) d1 d2 (by rw[hd];exact d3) d4 s0 (by rw[hS]) (by rw[hS]) (by rw[hS];exact s3) (by omega)
   |false=>
    rw[if_neg (by simp)]
    cases hL:l6_ (z3_ l)with
    |false=>
     rw[Bool.and_false]
     exact nme5_all l r [] hx ho (e2.trans hL) hl hr2 (by omega) d1 d2 (by rw[hd];exact d3) d4 s0 (by rw[hS]) (by rw[hS]) (by rw[hS];exact s3) (by omega)
    |true=>
     cases hm:Pny.l8_ (z3_ l)with
     |false=>exact nme6_all l r [] hx ho (e2.trans hL) (e3.trans hm) hl hr2 (by omega) d1 d2 (by rw[hd];exact d3) d4 s0 (by rw[hS]) (by rw[hS]) (by rw[hS];exact s3) (by omega)
     |true=>
      have he:a5_ (unI (ints (z9_ (z3_ l))))=Pny.p4_ (z3_ l):=by
        unfold a5_
        rw[if_pos (e3.trans hm),hS,natL_I]
      have hle:(Pny.p4_ (z3_ l)).length≤100000:=by
        rw[←he]
        have:=encV_2500 (unI (ints (z9_ (z3_ l))))
        omega
      exact nme7_all l r _ hx ho (e2.trans hL) (e3.trans hm) he hle hl hr2 (by omega) d1 d2 (by rw[hd];exact d3) d4 s0 (by rw[hS]) (by rw[hS]) (by rw[hS];exact s3) (by omega)
theorem name_ok:w2_ p_ 24 nameSpec:=by
  refine v5_ mixed clNm_ok fun args r q hs hq=>?_
  unfold nameSpec at hs
  split at hs
  ·rename_i s
   simp only[oi_]at hs
   obtain⟨rfl,rfl⟩:=hs
   obtain⟨⟨⟨l⟩⟩,rfl⟩:∃b:ByteArray,b=s:=⟨s,rfl⟩
   obtain⟨hh,p,e,hp⟩:=name_at l hq.1
   exact⟨_,_,_,_,z4_,e,hp⟩
  ·simp at hs
def pdmS (k i:Nat)(C:List AV):St:=⟨frame 37 [(5,.sl 0 0 k),(17,.sl 0 0 k),(18,.c (.int .i64 k)),(19,.c (.int .i64 i))],[some ⟨9,false,C⟩]⟩
def pdmF:St:=⟨frame 37 [(2,.c (str [])),(3,.c (.bool false))],[]⟩
def pdmE (k:Nat)(C:List AV):St:=⟨frame 37 [(5,.sl 0 0 k)],[some ⟨9,false,C⟩]⟩
noncomputable def clDm:CallT:=l3_ p_ (r4_ [(24,nameSpec),(22,mpSpec),(23,spltSpec),(25,jnSpec)]) 500 8
theorem clDm_ok:x7_ p_ clDm:=q7_ mixed (y8_ name_ok (y8_ mapped_ok (y8_ split_ok (y8_ join_ok v2_)))) 500 8
theorem pdmrA_all (C C2:List AV)(k i:Nat)(t u:List UInt8)(hi:i<k)(ho:(nmF t).isSome=true)(hg:nmG t=u)(hp:List.take i C++[AV.c (str u)]++List.drop (i+1) C=C2)(hz:i<k→y0_ ((C.drop i).headD .any) (.c (str t)))(hC:C.length=k)(hk:k≤1000000)(ht:t.length≤100000):x1_ Ext0 p_ clDm (z1_ p_ 14 6) (pdmS k i C) (.normal) (pdmS k (i+1) C2):=by
  refine⟨⟨true,(bs [(20,true)]++[(23,⟨.c (str t),none⟩),(29,⟨.c (str u),none⟩),(30,⟨.c (.bool true),none⟩),(100031,⟨.any,some C2⟩)])⟩,_,60,⟨[],[5,17,18,19],[0]⟩,[decide ((↑i:Int)<↑k)=true,
 (0:Int)≤↑i,
 (↑i:Int)<↑k,
 (((0:Nat):Nat)<((List.drop (i+(0:Nat)) C).length)),
 y0_ ((List.drop (i+(0:Nat)) C).headD AV.any) ((AV.c ((str (t))))),
 ((t.length:Nat)≤((100000:Nat))),
 ((nmG t:List UInt8))=(u),
 ((nmF (sb { data:= { toList:=t}})).isSome)=true,
 (0:Int)≤↑i,
 (↑i:Int)<↑k,
 ((i+(0:Nat)+(1:Nat):Nat)≤(C.length)),
 y0_ (AV.any) (AV.any),
 ((List.take (i+(0:Nat)) C++[AV.c (str u)]++List.drop (i+(0:Nat)+(1:Nat)) C:List AV))=(C2),
 (i64.min:Int)≤↑i+1,
 (↑i+1:Int)≤i64.max],z4_,by decide,by kernel_rfl,?_⟩
  all_goals try simp(disch:=omega) only[std,List.length_drop,hC,Nat.add_zero]
  all_goals repeat' apply And.intro
  all_goals first|exact True.intro|omega|with_reducible (first|rfl|assumption)|exact hz hi|exact hg|exact ho|exact hp|rfl|exact hC
theorem pdmrX_all (C C2:List AV)(k i:Nat)(t u:List UInt8)(hi:i<k)(ho:(nmF t).isSome=false)(hg:nmG t=u)(hp:List.take i C++[AV.c (str u)]++List.drop (i+1) C=C2)(hz:i<k→y0_ ((C.drop i).headD .any) (.c (str t)))(hC:C.length=k)(hk:k≤1000000)(ht:t.length≤100000):x1_ Ext0 p_ clDm (z1_ p_ 14 6) (pdmS k i C) (.ret) (pdmF):=by
  refine⟨⟨true,(bs [(20,true)]++[(23,⟨.c (str t),none⟩),(29,⟨.c (str u),none⟩),(30,⟨.c (.bool false),none⟩),(100031,⟨.any,some C2⟩)])⟩,_,60,⟨[],[2,3],[]⟩,[decide ((↑i:Int)<↑k)=true,
 (0:Int)≤↑i,
 (↑i:Int)<↑k,
 (((0:Nat):Nat)<((List.drop (i+(0:Nat)) C).length)),
 y0_ ((List.drop (i+(0:Nat)) C).headD AV.any) ((AV.c ((str (t))))),
 ((t.length:Nat)≤((100000:Nat))),
 ((nmG t:List UInt8))=(u),
 ((nmF (sb { data:= { toList:=t}})).isSome)=false,
 (0:Int)≤↑i,
 (↑i:Int)<↑k,
 ((i+(0:Nat)+(1:Nat):Nat)≤(C.length)),
 y0_ (AV.any) (AV.any),
 ((List.take (i+(0:Nat)) C++[AV.c (str u)]++List.drop (i+(0:Nat)+(1:Nat)) C:List AV))=(C2)],z4_,by decide,by kernel_rfl,?_⟩
  all_goals try simp(disch:=omega) only[std,List.length_drop,hC,Nat.add_zero]
  all_goals repeat' apply And.intro
  all_goals first|exact True.intro|omega|with_reducible (first|rfl|assumption)|exact hz hi|exact hg|exact ho|exact hp|rfl|exact hC
theorem pdmrZ_all (C C2:List AV)(k i:Nat)(t u:List UInt8)(hi:i=k)(hz:i<k→y0_ ((C.drop i).headD .any) (.c (str t)))(hC:C.length=k)(hk:k≤1000000)(ht:t.length≤100000):x1_ Ext0 p_ clDm (z1_ p_ 14 6) (pdmS k i C) (.exit 0) (pdmE k C):=by
  refine⟨⟨true,(bs [(20,false)])⟩,_,60,⟨[],[5],[0]⟩,[decide ((↑i:Int)<↑k)=false],z4_,by decide,by kernel_rfl,?_⟩
  all_goals try simp(disch:=omega) only[std,List.length_drop,hC,Nat.add_zero]
  all_goals repeat' apply And.intro
  all_goals first|exact True.intro|omega|with_reducible (first|rfl|assumption)|exact hz hi|exact hg|exact ho|exact hp|rfl|exact hi|exact hC
def pdmC (L:List (List UInt8))(i:Nat):List AV:=u2_ ((L.take i).map nmG++L.drop i)
theorem pdmC_len (L:List (List UInt8))(i:Nat)(h:i≤L.length):(pdmC L i).length=L.length:=by
  unfold pdmC
  rw[o4_,List.length_append,List.length_map,List.length_take,List.length_drop]
  omega
theorem drop_of {A B:List AV}{i:Nat}(h:A.length=i):(A++B).drop i=B:=by subst h;exact List.drop_left
theorem take_of {A B:List AV}{i:Nat}(h:A.length=i):(A++B).take i=A:=by subst h;exact List.take_left
theorem pdmC_is (L:List (List UInt8))(i:Nat)(h:i≤L.length):pdmC L i=u2_ ((L.take i).map nmG)++u2_ (L.drop i)∧(u2_ ((L.take i).map nmG)).length=i:=by
  refine⟨strs_app _ _,?_⟩
  rw[o4_,List.length_map,List.length_take];omega
theorem pdmC_at (L:List (List UInt8))(i:Nat)(h:i<L.length):(pdmC L i).drop i= .c (str (L.getD i []))::u2_ (L.drop (i+1)):=by
  obtain⟨e,hl⟩:=pdmC_is L i (by omega)
  rw[e,drop_of hl,List.drop_eq_getElem_cons h,show L[i]=L.getD i []by simp[List.getD,h]]
  rfl
theorem pdmC_put (L:List (List UInt8))(i:Nat)(h:i<L.length):List.take i (pdmC L i)++[.c (str (nmG (L.getD i [])))]++List.drop (i+1) (pdmC L i)=pdmC L (i+1):=by
  obtain⟨e,hl⟩:=pdmC_is L i (by omega)
  have h1:=congrArg (List.drop 1) (pdmC_at L i h)
  rw[List.drop_drop]at h1
  rw[h1,e,take_of hl,(pdmC_is L (i+1) h).1,v9_ L i [] h,List.map_append,strs_app]
  rfl
theorem all_snocL (L:List (List UInt8))(i:Nat)(h:i<L.length):h3_ (L.take (i+1))=(h3_ (L.take i)&&(nmF (L.getD i [])).isSome):=by
  unfold h3_
  rw[v9_ L i [] h,List.all_append];simp
theorem pdm_walk (L:List (List UInt8))(hk:L.length≤1000000)(hL:∀t∈L,t.length≤100000):Tri Ext0 p_ (.loop (z1_ p_ 14 6)) (pdmS L.length 0 (u2_ L)) (if h3_ L=true then .exit 0 else .ret) (if h3_ L=true then pdmE L.length (u2_ (L.map nmG))else pdmF):=by
  refine n9_ mixed clDm_ok (fun i=>pdmS L.length i (pdmC L i)) (fun i=>i≤L.length∧h3_ (L.take i)=true) (fun i=>L.length-i) (fun i hx=>?_) 0 ⟨Nat.zero_le _,rfl⟩
  obtain⟨h1,h2⟩:=hx
  have hC:=pdmC_len L i h1
  by_cases hi:i<L.length
  ·have ht:(L.getD i []).length≤100000:=by
     have e:L[i]=L.getD i []:=by simp[List.getD,hi]
     rw[←e];exact hL _ (List.getElem_mem _)
   have ha:i<L.length→y0_ (((pdmC L i).drop i).headD .any) (.c (str (L.getD i []))):=fun _=>by rw[pdmC_at L i hi];exact u3_ _
   have hb:=all_snocL L i hi
   cases ho:(nmF (L.getD i [])).isSome with
   |true=>exact .inl ⟨i+1,⟨hi,by rw[hb,h2,ho];rfl⟩,by omega,pdmrA_all (pdmC L i) (pdmC L (i+1)) L.length i _ _ hi ho rfl (pdmC_put L i hi) ha hC hk ht⟩
   |false=>
    have:h3_ L=false:=by
      have e:h3_ (L.take (i+1))=false:=by rw[hb,ho,Bool.and_false]
      unfold h3_ at*
      rw[←List.take_append_drop (i+1) L,List.all_append,e,Bool.false_and]
    rw[this]
    exact .inr ⟨by simp,pdmrX_all (pdmC L i) (pdmC L (i+1)) L.length i _ _ hi ho rfl (pdmC_put L i hi) ha hC hk ht⟩
  ·have he:i=L.length:=by omega
   subst he
   rw[List.take_length]at h2
   rw[h2]
   have e:pdmC L L.length=u2_ (L.map nmG):=by unfold pdmC;rw[List.take_length,List.drop_length,List.append_nil]
   rw[e]at hC ⊢
   exact .inr ⟨by simp,pdmrZ_all _ [] L.length L.length [] [] rfl (fun h=>absurd h (Nat.lt_irrefl _)) hC hk (by simp)⟩
theorem spl_sum (k:UInt8):∀q,t7_ (w4_ k q)+(w4_ k q).length=q.length+1
  | []=>rfl
  |c::r=>by
   have ih:=spl_sum k r
   have hn:=splC_ne k r
   rw[g0_]
   split
   ·rw[t7_,List.length_cons,List.length_cons,List.length_nil];omega
   ·cases hs:w4_ k r with
    |nil=>exact absurd hs hn
    |cons x t=>
     rw[hs]at ih
     simp only[t7_,List.headD_cons,List.tail_cons,List.length_cons]at ih ⊢
     omega
theorem nmG_len (t:List UInt8):(nmG t).length≤t.length+2504:=by
  unfold nmG nmF
  split
  ·split
   ·exact Nat.le_add_right _ _
   ·simp
  ·split
   ·exact Nat.le_add_right _ _
   ·split
    ·rename_i h
     rw[Bool.and_eq_true]at h
     have:=encV_2500 (z9_ (z3_ t))
     unfold a5_ at this
     rw[if_pos (by rw[may_nat];exact h.1),natL_I]at this
     have hx:xnB.length=4:=rfl
     rw[Option.getD_some,List.length_append,hx]
     omega
    ·simp
theorem nmG_sum:∀L:List (List UInt8),t7_ (L.map nmG)≤t7_ L+2504*L.length
  | []=>by simp[t7_]
  |t::r=>by
   have:=nmG_sum r
   have:=nmG_len t
   simp only[List.map_cons,t7_,List.length_cons]
   omega
noncomputable def pdmLp (L:List (List UInt8))(e:Exit)(R:St):List (Nat×Lp):=[(6,⟨z1_ p_ 14 6,⟨[],[5,17,18,19],[0]⟩,pdmS L.length 0 (u2_ L),e,R⟩)]
theorem pdmm1_all (l m:List UInt8)(M:List (List UInt8))(ho:(r0_ (z3_ l)).isSome=false)(hl:l.length≤100000)(hm:((r0_ (z3_ l)).map join).getD []=m)(hml:m.length≤1000000):∃(h:Hints) (p:List Prop),y3_ p_ 14 (z8_ p_ clDm h (y1_ ([])) 60 14 ([.c (str l)]) ([]))=some (.tu [.c (str []),.c (.bool false)],p)∧z7_ p:=by
  refine⟨⟨true,([(11,⟨.c (str m),none⟩),(12,⟨.c (.bool false),none⟩)])⟩,[((l.length:Nat)≤((200000:Nat))),
 (((Option.map join (r0_ (z3_ (sb { data:= { toList:=l}})))).getD []:List UInt8))=(m),
 ((r0_ (z3_ (sb { data:= { toList:=l}}))).isSome)=false],Eq.trans (b:=some ((AV.tu [(AV.c ((str ([])))),
 (AV.c ((Value.bool false)))]),_)) (by kernel_rfl) (congrArg (fun r=>some (r,_)) ?_),?_⟩
  any_goals(
    rfl
    done)
  all_goals try simp(disch:=omega) only[std,b4_]
  all_goals repeat' apply And.intro
  all_goals first|exact True.intro|omega|with_reducible (first|rfl|assumption)|exact ho|exact hm|rfl
theorem pdmm2_all (l m:List UInt8)(M:List (List UInt8))(ho:(r0_ (z3_ l)).isSome=true)(hl:l.length≤100000)(hm:((r0_ (z3_ l)).map join).getD []=m)(hml:m.length≤1000000):∃(h:Hints) (p:List Prop),y3_ p_ 14 (z8_ p_ clDm h (y1_ (pdmLp (w4_ 46 m) .ret pdmF)) 60 14 ([.c (str l)]) ([]))=some (.tu [.c (str []),.c (.bool false)],p)∧z7_ p:=by
  refine⟨⟨true,([(11,⟨.c (str m),none⟩),(12,⟨.c (.bool true),none⟩)])⟩,[((l.length:Nat)≤((200000:Nat))),
 (((Option.map join (r0_ (z3_ (sb { data:= { toList:=l}})))).getD []:List UInt8))=(m),
 ((r0_ (z3_ (sb { data:= { toList:=l}}))).isSome)=true,
 ((m.length:Nat)≤((1000000000:Nat))),
 (([(46:UInt8)]:List UInt8))=([[(46:UInt8)].headD (0:UInt8)]),
 ((z1_ p_ (14:FuncId) (6:Nat):Go.Code))=(z1_ p_ (14:FuncId) (6:Nat)),
 ((pdmS (w4_ (46:UInt8) m).length (0:Nat) (u2_ (w4_ (46:UInt8) m)):St))=(pdmS (w4_ (46:UInt8) m).length (0:Nat) (u2_ (w4_ (46:UInt8) m)))],Eq.trans (b:=some ((AV.tu [(AV.c ((str ([])))),
 (AV.c ((Value.bool false)))]),_)) (by kernel_rfl) (congrArg (fun r=>some (r,_)) ?_),?_⟩
  any_goals(
    rfl
    done)
  all_goals try simp(disch:=omega) only[std,b4_]
  all_goals repeat' apply And.intro
  all_goals first|exact True.intro|omega|with_reducible (first|rfl|assumption)|exact ho|exact hm|rfl
theorem pdmm3_all (l m:List UInt8)(M:List (List UInt8))(ho:(r0_ (z3_ l)).isSome=true)(hM:(w4_ 46 m).length=M.length)(htk:List.take (w4_ 46 m).length (u2_ M)=u2_ M)(hs:t7_ M≤1000000000)(hk:M.length≤1000000)(hl:l.length≤100000)(hm:((r0_ (z3_ l)).map join).getD []=m)(hml:m.length≤1000000):∃(h:Hints) (p:List Prop),y3_ p_ 14 (z8_ p_ clDm h (y1_ (pdmLp (w4_ 46 m) (.exit 0) (pdmE (w4_ 46 m).length (u2_ M)))) 60 14 ([.c (str l)]) ([]))=some (.tu [.c (str (jnC 46 M)),.c (.bool true)],p)∧z7_ p:=by
  refine⟨⟨true,([(11,⟨.c (str m),none⟩),(12,⟨.c (.bool true),none⟩)])⟩,[((l.length:Nat)≤((200000:Nat))),
 (((Option.map join (r0_ (z3_ (sb { data:= { toList:=l}})))).getD []:List UInt8))=(m),
 ((r0_ (z3_ (sb { data:= { toList:=l}}))).isSome)=true,
 ((m.length:Nat)≤((1000000000:Nat))),
 (([(46:UInt8)]:List UInt8))=([[(46:UInt8)].headD (0:UInt8)]),
 ((z1_ p_ (14:FuncId) (6:Nat):Go.Code))=(z1_ p_ (14:FuncId) (6:Nat)),
 ((pdmS (w4_ (46:UInt8) m).length (0:Nat) (u2_ (w4_ (46:UInt8) m)):St))=(pdmS (w4_ (46:UInt8) m).length (0:Nat) (u2_ (w4_ (46:UInt8) m))),
 ((p_.cellsOf (9:TypeId):Nat))=((1:Nat)),
 ((List.take (w4_ (46:UInt8) m).length (List.drop (0:Nat) (u2_ M)):List AV))=(u2_ (j9_ (List.take (w4_ (46:UInt8) m).length (List.drop (0:Nat) (u2_ M))))),
 (((w4_ (46:UInt8) m).length:Nat))=((j9_ (List.take (w4_ (46:UInt8) m).length (List.drop (0:Nat) (u2_ M)))).length),
 (([(46:UInt8)]:List UInt8))=([[(46:UInt8)].headD (0:UInt8)]),
 ((t7_ (j9_ (List.take (w4_ (46:UInt8) m).length (List.drop (0:Nat) (u2_ M)))):Nat)≤((1000000000:Nat))),
 (((w4_ (46:UInt8) m).length:Nat)≤((1000000000:Nat))),
 (s9_ [] (AV.c (str (jnC ([(46:UInt8)].headD (0:UInt8)) (j9_ (List.take (w4_ (46:UInt8) m).length (List.drop (0:Nat) (u2_ M))))))))=true],Eq.trans (b:=some ((AV.tu [(AV.c ((str (jnC ([(46:UInt8)].headD (0:UInt8)) (j9_ (List.take (w4_ (46:UInt8) m).length (List.drop (0:Nat) (u2_ M)))))))),
 (AV.c ((Value.bool true)))]),_)) (by kernel_rfl) (congrArg (fun r=>some (r,_)) ?_),?_⟩
  any_goals(
    first|(rw[List.drop_zero,htk,b4_];done)|(rw[List.drop_zero,htk,b4_];rfl)
    done)
  all_goals try simp(disch:=omega) only[std,b4_,htk]
  all_goals repeat' apply And.intro
  all_goals first|exact True.intro|omega|with_reducible (first|rfl|assumption)|exact ho|exact hm|rfl|exact hM|exact htk
theorem pdom_ok:w2_ p_ 14 domSpec:=by
  refine v5_ mixed clDm_ok fun args r q hs hq=>?_
  unfold domSpec at hs
  split at hs
  ·rename_i s
   simp only[oi_]at hs
   obtain⟨rfl,rfl⟩:=hs
   obtain⟨⟨⟨l⟩⟩,rfl⟩:∃b:ByteArray,b=s:=⟨s,rfl⟩
   obtain⟨hl,hd,_⟩:=hq
   have hl:l.length≤100000:=hl
   show ∃hs lp fuel p,_∧y3_ _ _ _=some (AV.tu [.c (str ((y9_ l).getD [])),.c (.bool (y9_ l).isSome)],p)∧_
   unfold y9_
   cases hp:r0_ (z3_ l)with
   |none=>
    obtain⟨hh,p,e,hq⟩:=pdmm1_all l [] [] (by rw[hp];rfl) hl (by rw[hp];rfl) (by simp)
    exact⟨_,_,_,_,z4_,e,hq⟩
   |some q=>
    have hst:=put_out hp
    have hok:∀c∈q,okC c:=fun c hc=>g9_ (hst c hc)
    have hql:(join q).length≤100000:=hd q hp
    have hsp:=spl_join hok
    have hlen:=splC_le 46 (join q)
    have hmem:=splC_len 46 (join q)
    have w:=pdm_walk (w4_ 46 (join q)) (by omega) fun t ht=>by have:=(hmem t ht).1;omega
    have hdn:=dom_names (spl q) (d1_ q) fun l hl=>⟨fun c hc=>hok c (spl_mem q l hl c hc).1,by
      have:=(hmem (join l) (by rw[hsp];exact List.mem_map.2 ⟨l,hl,rfl⟩)).1
      omega⟩
    rw[←hsp]at hdn
    show ∃hs lp fuel p,_∧y3_ _ _ _=some (AV.tu [.c (str ((h5_ (spl q)).getD [])),.c (.bool (h5_ (spl q)).isSome)],p)∧_
    rw[hdn]
    cases hall:h3_ (w4_ 46 (join q))with
    |false=>
     rw[hall]at w
     obtain⟨hh,p,e,hq⟩:=pdmm2_all l (join q) [] (by rw[hp];rfl) hl (by rw[hp];rfl) (by omega)
     exact⟨_,_,_,_,x4_ z4_ (show [0].Nodup by decide) w,e,hq⟩
    |true=>
     rw[hall]at w
     have h1:=nmG_sum (w4_ 46 (join q))
     have h2:=spl_sum 46 (join q)
     obtain⟨hh,p,e,hq⟩:=pdmm3_all l (join q) ((w4_ 46 (join q)).map nmG) (by rw[hp];rfl) (by rw[List.length_map]) (by rw[show(w4_ 46 (join q)).length=((w4_ 46 (join q)).map nmG).length by rw[List.length_map],strs_tk]) (by omega) (by rw[List.length_map];omega) hl (by rw[hp];rfl) (by omega)
     exact⟨_,_,_,_,x4_ z4_ (show [0].Nodup by decide) w,e,hq⟩
  ·simp at hs
end Go.Proofs.YtmjldphagbobpaaDoor
