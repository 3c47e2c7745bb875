import Derived.Test.YtmjldphagbobpaaDoorIdnW
import Derived.Test.YtmjldphagbobpaaDoorSplP
import Derived.Test.YtmjldphagbobpaaDoorJnP
set_option linter.unusedVariables false
set_option linter.unusedSimpArgs false
namespace Go.Proofs.YtmjldphagbobpaaDoor
open Go.RowKit U8 Idn
def p5_ (l:List UInt8):Bool:=l.all fun c=>decide (c.toNat<128)
def blS (l:List UInt8) (n i:Nat):St:=⟨frame 14 [(0,.c (str l)),(5,.c (.int .i64 n)),(6,.c (.int .i64 i))],[]⟩
def blF:St:=⟨frame 14 [(2,.c (.bool false))],[]⟩
def blE:St:=⟨frame 14 [],[]⟩
theorem blA_all (l:List UInt8) (n i:Nat) (hi:i<n) (hc:((l.getD i 0).toNat:Nat)<128) (hn:l.length=n) (hl:n≤1000000000):x1_ Ext0 Tryd.prog cl0 (z1_ Tryd.prog 41 2) (blS l n i) (.normal) (blS l n (i+1)):=by
  refine⟨⟨true,(bs [(7,true),(12,false)])⟩,_,60,⟨[],[0,5,6],[]⟩,[decide ((↑i:Int)<↑n)=true,
 (0:Int)≤↑i,
 (↑i:Int)<↑l.length,
 (decide ((↑(l.getD i 0).toNat:Int)≥(128:Int)))=false,
 (IntKind.i64.min:Int)≤↑i+1,
 (↑i+1:Int)≤IntKind.i64.max],z5_,by decide,by kernel_rfl,?_⟩
  all_goals try simp(disch:=omega) only[std]
  all_goals repeat' apply And.intro
  all_goals first|exact True.intro|omega|with_reducible rfl|with_reducible assumption|exact hn|rfl
theorem blX_all (l:List UInt8) (n i:Nat) (hi:i<n) (hc:128≤((l.getD i 0).toNat:Nat)) (hn:l.length=n) (hl:n≤1000000000):x1_ Ext0 Tryd.prog cl0 (z1_ Tryd.prog 41 2) (blS l n i) (.ret) (blF):=by
  refine⟨⟨true,(bs [(7,true),(12,true)])⟩,_,60,⟨[],[2],[]⟩,[decide ((↑i:Int)<↑n)=true,
 (0:Int)≤↑i,
 (↑i:Int)<↑l.length,
 (decide ((↑(l.getD i 0).toNat:Int)≥(128:Int)))=true],z5_,by decide,by kernel_rfl,?_⟩
  all_goals try simp(disch:=omega) only[std]
  all_goals repeat' apply And.intro
  all_goals first|exact True.intro|omega|with_reducible rfl|with_reducible assumption|exact hn|rfl
theorem blZ_all (l:List UInt8) (n i:Nat) (hi:i=n) (hn:l.length=n) (hl:n≤1000000000):x1_ Ext0 Tryd.prog cl0 (z1_ Tryd.prog 41 2) (blS l n i) (.exit 0) (blE):=by
  refine⟨⟨true,(bs [(7,false)])⟩,_,60,⟨[],[],[]⟩,[decide ((↑i:Int)<↑n)=false],z5_,by decide,by kernel_rfl,?_⟩
  all_goals try simp(disch:=omega) only[std]
  all_goals repeat' apply And.intro
  all_goals first|exact True.intro|omega|with_reducible rfl|with_reducible assumption|exact hi|exact hn|rfl
theorem bl_walk (l:List UInt8) (hl:l.length≤1000000000):Tri Ext0 Tryd.prog (.loop (z1_ Tryd.prog 41 2)) (blS l l.length 0) (if p5_ l=true then .exit 0 else .ret) (if p5_ l=true then blE else blF):=by
  refine n5_ mixed w3_ (fun i=>blS l l.length i) (fun i=>i≤l.length∧p5_ (l.take i)=true) (fun i=>l.length-i) (fun i hx=>?_) 0 ⟨Nat.zero_le _,rfl⟩
  obtain⟨h1,h2⟩:=hx
  by_cases hi:i<l.length
  ·have hb:p5_ (l.take (i+1))=(p5_ (l.take i)&&decide ((l.getD i 0).toNat<128)):=by
     unfold p5_
     rw[v5_ l i 0 hi,List.all_append];simp
   by_cases hc:(l.getD i 0).toNat<128
   ·exact .inl ⟨i+1,⟨hi,by rw[hb,h2];simpa using hc⟩,by omega,blA_all l l.length i hi hc rfl hl⟩
   ·have:p5_ l=false:=by
      have e:p5_ (l.take (i+1))=false:=by rw[hb,decide_eq_false hc,Bool.and_false]
      unfold p5_ at*
      rw[←List.take_append_drop (i+1) l,List.all_append,e,Bool.false_and]
    rw[this]
    exact .inr ⟨by simp,blX_all l l.length i hi (by omega) rfl hl⟩
  ·have he:i=l.length:=by omega
   subst he
   rw[List.take_length]at h2
   rw[h2]
   exact .inr ⟨by simp,blZ_all l l.length l.length rfl rfl hl⟩
theorem blmT_all (l:List UInt8):∃(h:Hints) (p:List Prop),y3_ Tryd.prog 41 (z9_ Tryd.prog cl0 h (y1_ ([(2,⟨z1_ Tryd.prog 41 2,⟨[],[0,5,6],[]⟩,blS l l.length 0,.exit 0,blE⟩)])) 60 41 ([.c (str l)]) ([]))=some (.c (.bool true),p)∧z7_ p:=by
  refine⟨⟨true,bs []⟩,[((z1_ Tryd.prog (41:FuncId) (2:Nat):Go.Code))=(z1_ Tryd.prog (41:FuncId) (2:Nat)),
 ((blS l l.length (0:Nat):Go.Proofs.YtmjldphagbobpaaDoor.St))=(blS l l.length (0:Nat))],by kernel_rfl,?_⟩
  all_goals try simp(disch:=omega) only[std]
  all_goals repeat' apply And.intro
  all_goals first|exact True.intro|omega|with_reducible rfl|with_reducible assumption|rfl
theorem blmF_all (l:List UInt8):∃(h:Hints) (p:List Prop),y3_ Tryd.prog 41 (z9_ Tryd.prog cl0 h (y1_ ([(2,⟨z1_ Tryd.prog 41 2,⟨[],[0,5,6],[]⟩,blS l l.length 0,.ret,blF⟩)])) 60 41 ([.c (str l)]) ([]))=some (.c (.bool false),p)∧z7_ p:=by
  refine⟨⟨true,bs []⟩,[((z1_ Tryd.prog (41:FuncId) (2:Nat):Go.Code))=(z1_ Tryd.prog (41:FuncId) (2:Nat)),
 ((blS l l.length (0:Nat):Go.Proofs.YtmjldphagbobpaaDoor.St))=(blS l l.length (0:Nat))],by kernel_rfl,?_⟩
  all_goals try simp(disch:=omega) only[std]
  all_goals repeat' apply And.intro
  all_goals first|exact True.intro|omega|with_reducible rfl|with_reducible assumption|rfl
def belowSpec:Spec
  | [.c (.string s)]=>some (.c (.bool (p5_ (sb s))),[(sb s).length≤1000000000])
  |_=>none
theorem below_ok:x9_ Tryd.prog 41 belowSpec:=by
  refine v0_ mixed w3_ fun args r q hs hq=>?_
  unfold belowSpec at hs
  split at hs
  ·rename_i s
   simp only[Option.some.injEq,Prod.mk.injEq]at hs
   obtain⟨rfl,rfl⟩:=hs
   obtain⟨⟨⟨s⟩⟩,rfl⟩:∃b:ByteArray,b=s:=⟨s,rfl⟩
   simp only[q6_,z7_,and_true]at hq ⊢
   have w:=bl_walk s hq
   cases hb:p5_ s with
   |true=>
    rw[hb]at w
    obtain⟨hh,q,e,hp⟩:=blmT_all s
    exact⟨_,_,_,_,x6_ z5_ (show([]:List Nat).Nodup by decide) w,e,hp⟩
   |false=>
    rw[hb]at w
    obtain⟨hh,q,e,hp⟩:=blmF_all s
    exact⟨_,_,_,_,x6_ z5_ (show([]:List Nat).Nodup by decide) w,e,hp⟩
  ·simp at hs
noncomputable def clNm:CallT:=q5_ Tryd.prog (s8_ [(55,cutPreSpec),(15,labelSpec),(13,signsSpecU),(41,belowSpec),(42,enc7Spec)]) (o8_ [(16,dec7Spec)]) 500 8
theorem clNm_ok:x2_ Tryd.prog clNm:=t9_ mixed (y7_ cutPre_ok (y7_ plabel_ok (y7_ signsU_ok (y7_ below_ok (y7_ penc_ok w8_))))) (w1_ pdec_ok s2_) 500 8
theorem nme1_all (l r t:List UInt8) (hx:q0_ xnB l=true) (ho:(Pny.k0_ r).isSome=true) (hL:r5_ (unI (z0_ (x4_ r)))=true) (hl:l.length≤100000) (hr:o7_ xnB l=r) (hrl:r.length≤100000) (d1:z0_ (x4_ r)=z3_ (unI (z0_ (x4_ r)))) (d2:(x4_ r).length=(unI (z0_ (x4_ r))).length) (d3:q8_ (unI (z0_ (x4_ r)))) (d4:(x4_ r).length≤255) (s0:List.take (z8_ (z2_ l)).length (ints (z8_ (z2_ l)))=ints (z8_ (z2_ l))) (s1:ints (z8_ (z2_ l))=z3_ (unI (ints (z8_ (z2_ l))))) (s2:(z8_ (z2_ l)).length=(unI (ints (z8_ (z2_ l)))).length) (s3:q8_ (unI (ints (z8_ (z2_ l))))) (s4:(z8_ (z2_ l)).length≤100000):∃(h:Hints) (p:List Prop),y3_ Tryd.prog 24 (z9_ Tryd.prog clNm h (y1_ ([])) 60 24 ([.c (str l)]) ([]))=some (.tu [.c (str l),.c (.bool true)],p)∧z7_ p:=by
  refine⟨⟨true,([(14,⟨.c (str r),none⟩),(15,⟨.c (.bool true),none⟩),(21,⟨.c (.bool true),none⟩),(26,⟨.c (.bool true),none⟩)])⟩,[((l.length:Nat)≤((9223372036854775807:Nat))),
 ((o7_ [(120:UInt8),(110:UInt8),(45:UInt8),(45:UInt8)] l:List UInt8))=(r),
 (q0_ [(120:UInt8),(110:UInt8),(45:UInt8),(45:UInt8)] l)=true,
 ((r.length:Nat)≤((100000:Nat))),
 ((Pny.k0_ (sb { data:= { toList:=r}})).isSome)=true,
 ((Tryd.prog.cellsOf (3:TypeId):Nat))=((1:Nat)),
 ((List.take (x4_ r).length (List.drop (0:Nat) (z0_ (x4_ r))):List AV))=(z3_ (unI (List.take (x4_ r).length (List.drop (0:Nat) (z0_ (x4_ r)))))),
 (((x4_ r).length:Nat))=((unI (List.take (x4_ r).length (List.drop (0:Nat) (z0_ (x4_ r))))).length),
 (((x4_ r).length:Nat)≤((1000000000:Nat))),
 q8_ (unI (List.take (x4_ r).length (List.drop (0:Nat) (z0_ (x4_ r))))),
 (r1_ [] (AV.c (Value.bool (r5_ (unI (List.take (x4_ r).length (List.drop (0:Nat) (z0_ (x4_ r)))))))))=true,
 (r5_ (unI (List.take (x4_ r).length (List.drop (0:Nat) (z0_ (x4_ r))))))=true],by kernel_rfl,?_⟩
  all_goals try simp(disch:=omega) only[std,b5_,s0]
  all_goals repeat' apply And.intro
  all_goals first|exact True.intro|omega|with_reducible rfl|with_reducible assumption|exact hr|exact hx|exact d1|exact d2|exact d3|exact s1|exact s2|exact s3|rfl|exact hx|exact ho|exact hL|exact hr|exact d1|exact d2|exact d3|exact s0|exact s1|exact s2|exact s3|rfl
theorem nme2_all (l r t:List UInt8) (hx:q0_ xnB l=true) (ho:(Pny.k0_ r).isSome=true) (hL:r5_ (unI (z0_ (x4_ r)))=false) (hl:l.length≤100000) (hr:o7_ xnB l=r) (hrl:r.length≤100000) (d1:z0_ (x4_ r)=z3_ (unI (z0_ (x4_ r)))) (d2:(x4_ r).length=(unI (z0_ (x4_ r))).length) (d3:q8_ (unI (z0_ (x4_ r)))) (d4:(x4_ r).length≤255) (s0:List.take (z8_ (z2_ l)).length (ints (z8_ (z2_ l)))=ints (z8_ (z2_ l))) (s1:ints (z8_ (z2_ l))=z3_ (unI (ints (z8_ (z2_ l))))) (s2:(z8_ (z2_ l)).length=(unI (ints (z8_ (z2_ l)))).length) (s3:q8_ (unI (ints (z8_ (z2_ l))))) (s4:(z8_ (z2_ l)).length≤100000):∃(h:Hints) (p:List Prop),y3_ Tryd.prog 24 (z9_ Tryd.prog clNm h (y1_ ([])) 60 24 ([.c (str l)]) ([]))=some (.tu [.c (str []),.c (.bool false)],p)∧z7_ p:=by
  refine⟨⟨true,([(14,⟨.c (str r),none⟩),(15,⟨.c (.bool true),none⟩),(21,⟨.c (.bool true),none⟩),(26,⟨.c (.bool false),none⟩)])⟩,[((l.length:Nat)≤((9223372036854775807:Nat))),
 ((o7_ [(120:UInt8),(110:UInt8),(45:UInt8),(45:UInt8)] l:List UInt8))=(r),
 (q0_ [(120:UInt8),(110:UInt8),(45:UInt8),(45:UInt8)] l)=true,
 ((r.length:Nat)≤((100000:Nat))),
 ((Pny.k0_ (sb { data:= { toList:=r}})).isSome)=true,
 ((Tryd.prog.cellsOf (3:TypeId):Nat))=((1:Nat)),
 ((List.take (x4_ r).length (List.drop (0:Nat) (z0_ (x4_ r))):List AV))=(z3_ (unI (List.take (x4_ r).length (List.drop (0:Nat) (z0_ (x4_ r)))))),
 (((x4_ r).length:Nat))=((unI (List.take (x4_ r).length (List.drop (0:Nat) (z0_ (x4_ r))))).length),
 (((x4_ r).length:Nat)≤((1000000000:Nat))),
 q8_ (unI (List.take (x4_ r).length (List.drop (0:Nat) (z0_ (x4_ r))))),
 (r1_ [] (AV.c (Value.bool (r5_ (unI (List.take (x4_ r).length (List.drop (0:Nat) (z0_ (x4_ r)))))))))=true,
 (r5_ (unI (List.take (x4_ r).length (List.drop (0:Nat) (z0_ (x4_ r))))))=false],by kernel_rfl,?_⟩
  all_goals try simp(disch:=omega) only[std,b5_,s0]
  all_goals repeat' apply And.intro
  all_goals first|exact True.intro|omega|with_reducible rfl|with_reducible assumption|exact hr|exact hx|exact d1|exact d2|exact d3|exact s1|exact s2|exact s3|rfl|exact hx|exact ho|exact hL|exact hr|exact d1|exact d2|exact d3|exact s0|exact s1|exact s2|exact s3|rfl
theorem nme3_all (l r t:List UInt8) (hx:q0_ xnB l=true) (ho:(Pny.k0_ r).isSome=false) (hl:l.length≤100000) (hr:o7_ xnB l=r) (hrl:r.length≤100000) (d1:z0_ (x4_ r)=z3_ (unI (z0_ (x4_ r)))) (d2:(x4_ r).length=(unI (z0_ (x4_ r))).length) (d3:q8_ (unI (z0_ (x4_ r)))) (d4:(x4_ r).length≤255) (s0:List.take (z8_ (z2_ l)).length (ints (z8_ (z2_ l)))=ints (z8_ (z2_ l))) (s1:ints (z8_ (z2_ l))=z3_ (unI (ints (z8_ (z2_ l))))) (s2:(z8_ (z2_ l)).length=(unI (ints (z8_ (z2_ l)))).length) (s3:q8_ (unI (ints (z8_ (z2_ l))))) (s4:(z8_ (z2_ l)).length≤100000):∃(h:Hints) (p:List Prop),y3_ Tryd.prog 24 (z9_ Tryd.prog clNm h (y1_ ([])) 60 24 ([.c (str l)]) ([]))=some (.tu [.c (str []),.c (.bool false)],p)∧z7_ p:=by
  refine⟨⟨true,([(14,⟨.c (str r),none⟩),(15,⟨.c (.bool true),none⟩),(21,⟨.c (.bool false),none⟩)])⟩,[((l.length:Nat)≤((9223372036854775807:Nat))),
 ((o7_ [(120:UInt8),(110:UInt8),(45:UInt8),(45:UInt8)] l:List UInt8))=(r),
 (q0_ [(120:UInt8),(110:UInt8),(45:UInt8),(45:UInt8)] l)=true,
 ((r.length:Nat)≤((100000:Nat))),
 ((Pny.k0_ (sb { data:= { toList:=r}})).isSome)=false],by kernel_rfl,?_⟩
  all_goals try simp(disch:=omega) only[std,b5_,s0]
  all_goals repeat' apply And.intro
  all_goals first|exact True.intro|omega|with_reducible rfl|with_reducible assumption|exact hr|exact hx|exact d1|exact d2|exact d3|exact s1|exact s2|exact s3|rfl|exact hx|exact ho|exact hr|exact d1|exact d2|exact d3|exact s0|exact s1|exact s2|exact s3|rfl
theorem nme4_all (l r t:List UInt8) (hx:q0_ xnB l=false) (ho:p5_ l=true) (hl:l.length≤100000) (hr:o7_ xnB l=r) (hrl:r.length≤100000) (d1:z0_ (x4_ r)=z3_ (unI (z0_ (x4_ r)))) (d2:(x4_ r).length=(unI (z0_ (x4_ r))).length) (d3:q8_ (unI (z0_ (x4_ r)))) (d4:(x4_ r).length≤255) (s0:List.take (z8_ (z2_ l)).length (ints (z8_ (z2_ l)))=ints (z8_ (z2_ l))) (s1:ints (z8_ (z2_ l))=z3_ (unI (ints (z8_ (z2_ l))))) (s2:(z8_ (z2_ l)).length=(unI (ints (z8_ (z2_ l)))).length) (s3:q8_ (unI (ints (z8_ (z2_ l))))) (s4:(z8_ (z2_ l)).length≤100000):∃(h:Hints) (p:List Prop),y3_ Tryd.prog 24 (z9_ Tryd.prog clNm h (y1_ ([])) 60 24 ([.c (str l)]) ([]))=some (.tu [.c (str l),.c (.bool true)],p)∧z7_ p:=by
  refine⟨⟨true,([(14,⟨.c (str r),none⟩),(15,⟨.c (.bool false),none⟩),(31,⟨.c (.bool true),none⟩)])⟩,[((l.length:Nat)≤((9223372036854775807:Nat))),
 ((o7_ [(120:UInt8),(110:UInt8),(45:UInt8),(45:UInt8)] l:List UInt8))=(r),
 (q0_ [(120:UInt8),(110:UInt8),(45:UInt8),(45:UInt8)] l)=false,
 ((l.length:Nat)≤((1000000000:Nat))),
 (p5_ l)=true],by kernel_rfl,?_⟩
  all_goals try simp(disch:=omega) only[std,b5_,s0]
  all_goals repeat' apply And.intro
  all_goals first|exact True.intro|omega|with_reducible rfl|with_reducible assumption|exact hr|exact hx|exact d1|exact d2|exact d3|exact s1|exact s2|exact s3|rfl|exact hx|exact ho|exact hr|exact d1|exact d2|exact d3|exact s0|exact s1|exact s2|exact s3|rfl
theorem nme5_all (l r t:List UInt8) (hx:q0_ xnB l=false) (ho:p5_ l=false) (hL:r5_ (unI (ints (z8_ (z2_ l))))=false) (hl:l.length≤100000) (hr:o7_ xnB l=r) (hrl:r.length≤100000) (d1:z0_ (x4_ r)=z3_ (unI (z0_ (x4_ r)))) (d2:(x4_ r).length=(unI (z0_ (x4_ r))).length) (d3:q8_ (unI (z0_ (x4_ r)))) (d4:(x4_ r).length≤255) (s0:List.take (z8_ (z2_ l)).length (ints (z8_ (z2_ l)))=ints (z8_ (z2_ l))) (s1:ints (z8_ (z2_ l))=z3_ (unI (ints (z8_ (z2_ l))))) (s2:(z8_ (z2_ l)).length=(unI (ints (z8_ (z2_ l)))).length) (s3:q8_ (unI (ints (z8_ (z2_ l))))) (s4:(z8_ (z2_ l)).length≤100000):∃(h:Hints) (p:List Prop),y3_ Tryd.prog 24 (z9_ Tryd.prog clNm h (y1_ ([])) 60 24 ([.c (str l)]) ([]))=some (.tu [.c (str []),.c (.bool false)],p)∧z7_ p:=by
  refine⟨⟨true,([(14,⟨.c (str r),none⟩),(15,⟨.c (.bool false),none⟩),(31,⟨.c (.bool false),none⟩),(36,⟨.c (.bool false),none⟩)])⟩,[((l.length:Nat)≤((9223372036854775807:Nat))),
 ((o7_ [(120:UInt8),(110:UInt8),(45:UInt8),(45:UInt8)] l:List UInt8))=(r),
 (q0_ [(120:UInt8),(110:UInt8),(45:UInt8),(45:UInt8)] l)=false,
 ((l.length:Nat)≤((1000000000:Nat))),
 (p5_ l)=false,
 ((l.length:Nat)≤((1000000000:Nat))),
 ((Tryd.prog.cellsOf (3:Nat):Nat))=((1:Nat)),
 ((List.take (z8_ (z2_ l)).length (List.drop (0:Nat) (ints (z8_ (z2_ l)))):List AV))=(z3_ (unI (List.take (z8_ (z2_ l)).length (List.drop (0:Nat) (ints (z8_ (z2_ l))))))),
 (((z8_ (z2_ l)).length:Nat))=((unI (List.take (z8_ (z2_ l)).length (List.drop (0:Nat) (ints (z8_ (z2_ l)))))).length),
 (((z8_ (z2_ l)).length:Nat)≤((1000000000:Nat))),
 q8_ (unI (List.take (z8_ (z2_ l)).length (List.drop (0:Nat) (ints (z8_ (z2_ l)))))),
 (r1_ [] (AV.c (Value.bool (r5_ (unI (List.take (z8_ (z2_ l)).length (List.drop (0:Nat) (ints (z8_ (z2_ l))))))))))=true,
 (r5_ (unI (List.take (z8_ (z2_ l)).length (List.drop (0:Nat) (ints (z8_ (z2_ l)))))))=false],by kernel_rfl,?_⟩
  all_goals try simp(disch:=omega) only[std,b5_,s0]
  all_goals repeat' apply And.intro
  all_goals first|exact True.intro|omega|with_reducible rfl|with_reducible assumption|exact hr|exact hx|exact d1|exact d2|exact d3|exact s1|exact s2|exact s3|rfl|exact hx|exact ho|exact hL|exact hr|exact d1|exact d2|exact d3|exact s0|exact s1|exact s2|exact s3|rfl
theorem nme6_all (l r t:List UInt8) (hx:q0_ xnB l=false) (ho:p5_ l=false) (hL:r5_ (unI (ints (z8_ (z2_ l))))=true) (hm:mayI (unI (ints (z8_ (z2_ l))))=false) (hl:l.length≤100000) (hr:o7_ xnB l=r) (hrl:r.length≤100000) (d1:z0_ (x4_ r)=z3_ (unI (z0_ (x4_ r)))) (d2:(x4_ r).length=(unI (z0_ (x4_ r))).length) (d3:q8_ (unI (z0_ (x4_ r)))) (d4:(x4_ r).length≤255) (s0:List.take (z8_ (z2_ l)).length (ints (z8_ (z2_ l)))=ints (z8_ (z2_ l))) (s1:ints (z8_ (z2_ l))=z3_ (unI (ints (z8_ (z2_ l))))) (s2:(z8_ (z2_ l)).length=(unI (ints (z8_ (z2_ l)))).length) (s3:q8_ (unI (ints (z8_ (z2_ l))))) (s4:(z8_ (z2_ l)).length≤100000):∃(h:Hints) (p:List Prop),y3_ Tryd.prog 24 (z9_ Tryd.prog clNm h (y1_ ([])) 60 24 ([.c (str l)]) ([]))=some (.tu [.c (str []),.c (.bool false)],p)∧z7_ p:=by
  refine⟨⟨true,([(14,⟨.c (str r),none⟩),(15,⟨.c (.bool false),none⟩),(31,⟨.c (.bool false),none⟩),(36,⟨.c (.bool true),none⟩),(42,⟨.c (.bool false),none⟩)])⟩,[((l.length:Nat)≤((9223372036854775807:Nat))),
 ((o7_ [(120:UInt8),(110:UInt8),(45:UInt8),(45:UInt8)] l:List UInt8))=(r),
 (q0_ [(120:UInt8),(110:UInt8),(45:UInt8),(45:UInt8)] l)=false,
 ((l.length:Nat)≤((1000000000:Nat))),
 (p5_ l)=false,
 ((l.length:Nat)≤((1000000000:Nat))),
 ((Tryd.prog.cellsOf (3:Nat):Nat))=((1:Nat)),
 ((List.take (z8_ (z2_ l)).length (List.drop (0:Nat) (ints (z8_ (z2_ l)))):List AV))=(z3_ (unI (List.take (z8_ (z2_ l)).length (List.drop (0:Nat) (ints (z8_ (z2_ l))))))),
 (((z8_ (z2_ l)).length:Nat))=((unI (List.take (z8_ (z2_ l)).length (List.drop (0:Nat) (ints (z8_ (z2_ l)))))).length),
 (((z8_ (z2_ l)).length:Nat)≤((1000000000:Nat))),
 q8_ (unI (List.take (z8_ (z2_ l)).length (List.drop (0:Nat) (ints (z8_ (z2_ l)))))),
 (r1_ [] (AV.c (Value.bool (r5_ (unI (List.take (z8_ (z2_ l)).length (List.drop (0:Nat) (ints (z8_ (z2_ l))))))))))=true,
 (r5_ (unI (List.take (z8_ (z2_ l)).length (List.drop (0:Nat) (ints (z8_ (z2_ l)))))))=true,
 ((Tryd.prog.cellsOf (3:Nat):Nat))=((1:Nat)),
 ((List.take (z8_ (z2_ l)).length (List.drop (0:Nat) (ints (z8_ (z2_ l)))):List AV))=(z3_ (unI (List.take (z8_ (z2_ l)).length (List.drop (0:Nat) (ints (z8_ (z2_ l))))))),
 (((z8_ (z2_ l)).length:Nat))=((unI (List.take (z8_ (z2_ l)).length (List.drop (0:Nat) (ints (z8_ (z2_ l)))))).length),
 (r1_ [] (AV.tu [AV.c (str (a6_ (unI (List.take (z8_ (z2_ l)).length (List.drop (0:Nat) (ints (z8_ (z2_ l)))))))),AV.c (Value.bool (mayI (unI (List.take (z8_ (z2_ l)).length (List.drop (0:Nat) (ints (z8_ (z2_ l))))))))]))=true,
 (mayI (unI (List.take (z8_ (z2_ l)).length (List.drop (0:Nat) (ints (z8_ (z2_ l)))))))=false],by kernel_rfl,?_⟩
  all_goals try simp(disch:=omega) only[std,b5_,s0]
  all_goals repeat' apply And.intro
  all_goals first|exact True.intro|omega|with_reducible rfl|with_reducible assumption|exact hr|exact hx|exact d1|exact d2|exact d3|exact s1|exact s2|exact s3|rfl|exact hx|exact ho|exact hL|exact hm|exact hr|exact d1|exact d2|exact d3|exact s0|exact s1|exact s2|exact s3|rfl
theorem nme7_all (l r t:List UInt8) (hx:q0_ xnB l=false) (ho:p5_ l=false) (hL:r5_ (unI (ints (z8_ (z2_ l))))=true) (hm:mayI (unI (ints (z8_ (z2_ l))))=true) (he:a6_ (unI (ints (z8_ (z2_ l))))=t) (ht:t.length≤100000) (hl:l.length≤100000) (hr:o7_ xnB l=r) (hrl:r.length≤100000) (d1:z0_ (x4_ r)=z3_ (unI (z0_ (x4_ r)))) (d2:(x4_ r).length=(unI (z0_ (x4_ r))).length) (d3:q8_ (unI (z0_ (x4_ r)))) (d4:(x4_ r).length≤255) (s0:List.take (z8_ (z2_ l)).length (ints (z8_ (z2_ l)))=ints (z8_ (z2_ l))) (s1:ints (z8_ (z2_ l))=z3_ (unI (ints (z8_ (z2_ l))))) (s2:(z8_ (z2_ l)).length=(unI (ints (z8_ (z2_ l)))).length) (s3:q8_ (unI (ints (z8_ (z2_ l))))) (s4:(z8_ (z2_ l)).length≤100000):∃(h:Hints) (p:List Prop),y3_ Tryd.prog 24 (z9_ Tryd.prog clNm h (y1_ ([])) 60 24 ([.c (str l)]) ([]))=some (.tu [.c (str (xnB++t)),.c (.bool true)],p)∧z7_ p:=by
  refine⟨⟨true,([(14,⟨.c (str r),none⟩),(15,⟨.c (.bool false),none⟩),(31,⟨.c (.bool false),none⟩),(36,⟨.c (.bool true),none⟩),(41,⟨.c (str t),none⟩),(42,⟨.c (.bool true),none⟩)])⟩,[((l.length:Nat)≤((9223372036854775807:Nat))),
 ((o7_ [(120:UInt8),(110:UInt8),(45:UInt8),(45:UInt8)] l:List UInt8))=(r),
 (q0_ [(120:UInt8),(110:UInt8),(45:UInt8),(45:UInt8)] l)=false,
 ((l.length:Nat)≤((1000000000:Nat))),
 (p5_ l)=false,
 ((l.length:Nat)≤((1000000000:Nat))),
 ((Tryd.prog.cellsOf (3:Nat):Nat))=((1:Nat)),
 ((List.take (z8_ (z2_ l)).length (List.drop (0:Nat) (ints (z8_ (z2_ l)))):List AV))=(z3_ (unI (List.take (z8_ (z2_ l)).length (List.drop (0:Nat) (ints (z8_ (z2_ l))))))),
 (((z8_ (z2_ l)).length:Nat))=((unI (List.take (z8_ (z2_ l)).length (List.drop (0:Nat) (ints (z8_ (z2_ l)))))).length),
 (((z8_ (z2_ l)).length:Nat)≤((1000000000:Nat))),
 q8_ (unI (List.take (z8_ (z2_ l)).length (List.drop (0:Nat) (ints (z8_ (z2_ l)))))),
 (r1_ [] (AV.c (Value.bool (r5_ (unI (List.take (z8_ (z2_ l)).length (List.drop (0:Nat) (ints (z8_ (z2_ l))))))))))=true,
 (r5_ (unI (List.take (z8_ (z2_ l)).length (List.drop (0:Nat) (ints (z8_ (z2_ l)))))))=true,
 ((Tryd.prog.cellsOf (3:Nat):Nat))=((1:Nat)),
 ((List.take (z8_ (z2_ l)).length (List.drop (0:Nat) (ints (z8_ (z2_ l)))):List AV))=(z3_ (unI (List.take (z8_ (z2_ l)).length (List.drop (0:Nat) (ints (z8_ (z2_ l))))))),
 (((z8_ (z2_ l)).length:Nat))=((unI (List.take (z8_ (z2_ l)).length (List.drop (0:Nat) (ints (z8_ (z2_ l)))))).length),
 (r1_ [] (AV.tu [AV.c (str (a6_ (unI (List.take (z8_ (z2_ l)).length (List.drop (0:Nat) (ints (z8_ (z2_ l)))))))),AV.c (Value.bool (mayI (unI (List.take (z8_ (z2_ l)).length (List.drop (0:Nat) (ints (z8_ (z2_ l))))))))]))=true,
 ((a6_ (unI (List.take (z8_ (z2_ l)).length (List.drop (0:Nat) (ints (z8_ (z2_ l)))))):List UInt8))=(t),
 (mayI (unI (List.take (z8_ (z2_ l)).length (List.drop (0:Nat) (ints (z8_ (z2_ l)))))))=true,
 (((4:Nat)+t.length:Nat)≤((9223372036854775807:Nat)))],by kernel_rfl,?_⟩
  all_goals try simp(disch:=omega) only[std,b5_,s0]
  all_goals repeat' apply And.intro
  all_goals first|exact True.intro|omega|with_reducible rfl|with_reducible assumption|exact hr|exact hx|exact d1|exact d2|exact d3|exact s1|exact s2|exact s3|rfl|exact hx|exact ho|exact hL|exact hm|exact he|exact hr|exact d1|exact d2|exact d3|exact s0|exact s1|exact s2|exact s3|rfl
def nameSpec:Spec
  | [.c (.string s)]=>some (.tu [.c (str (nmG (sb s))),.c (.bool (nmF (sb s)).isSome)],[(sb s).length≤100000])
  |_=>none
theorem name_at (l:List UInt8) (hl:l.length≤100000):∃hs p,y3_ Tryd.prog 24 (z9_ Tryd.prog clNm hs (y1_ []) 60 24 [.c (str l)] [])=some (.tu [.c (str (nmG l)),.c (.bool (nmF l).isSome)],p)∧z7_ p:=by
  have hr:=cutPF_le xnB l
  have hs:=signs_len l
  generalize hr2:o7_ xnB l=r at*
  have d4:=decL_255 r
  have d3:=decL_rng (d:=r) (by omega)
  have hd:unI (z0_ (x4_ r))=z8_ (x4_ r):=unI_natI _
  have hS:unI (ints (z8_ (z2_ l)))=z8_ (z2_ l):=v8_ _
  have d1:z0_ (x4_ r)=z3_ (unI (z0_ (x4_ r))):=by rw[hd,rowN_natI]
  have d2:(x4_ r).length=(unI (z0_ (x4_ r))).length:=by rw[hd,natI_len]
  have s0:List.take (z8_ (z2_ l)).length (ints (z8_ (z2_ l)))=ints (z8_ (z2_ l)):=rowN_tk _
  have s3:q8_ (z8_ (z2_ l)):=natI_rng2 (U8.e1_ l)
  have s4:=natI_len (z2_ l)
  have e1:r5_ (unI (z0_ (x4_ r)))=k8_ (x4_ r):=by rw[hd,label_nat]
  have e2:r5_ (unI (ints (z8_ (z2_ l))))=k8_ (z2_ l):=by rw[hS,label_nat]
  have e3:mayI (unI (ints (z8_ (z2_ l))))=Pny.k1_ (z2_ l):=by rw[hS,may_nat]
  have lowE:(l.all fun c=>decide (c.toNat<128))=p5_ l:=rfl
  unfold nmG nmF
  rw[lowE]
  cases hx:q0_ xnB l with
  |true=>
   have hrd:l.drop 4=r:=by rw[←hr2];unfold o7_;rw[if_pos hx];rfl
   rw[if_pos rfl,hrd]
   have dL:x4_ r=(Pny.k0_ r).getD []:=rfl
   cases ho:Pny.k0_ r with
   |none=>exact nme3_all l r [] hx (by rw[ho];rfl) hl hr2 (by omega) d1 d2 (by rw[hd];exact d3) d4 s0 (by rw[hS]) (by rw[hS]) (by rw[hS];exact s3) (by omega)
   |some N=>
    have dN:x4_ r=N:=dL.trans (by rw[ho];rfl)
    rw[Option.map_some,Option.getD_some]
    cases hL:k8_ N with
    |true=>exact nme1_all l r [] hx (by rw[ho];rfl) (e1.trans (by rw[dN,hL])) hl hr2 (by omega) d1 d2 (by rw[hd];exact d3) d4 s0 (by rw[hS]) (by rw[hS]) (by rw[hS];exact s3) (by omega)
    |false=>exact nme2_all l r [] hx (by rw[ho];rfl) (e1.trans (by rw[dN,hL])) hl hr2 (by omega) d1 d2 (by rw[hd];exact d3) d4 s0 (by rw[hS]) (by rw[hS]) (by rw[hS];exact s3) (by omega)
  |false=>
   rw[if_neg (by simp)]
   cases ho:p5_ l with
   |true=>exact nme4_all l r [] hx ho hl hr2 (by omega) d1 d2 (by rw[hd];exact d3) d4 s0 (by rw[hS]) (by rw[hS]) (by rw[hS];exact s3) (by omega)
   |false=>
    rw[if_neg (by simp)]
    cases hL:k8_ (z2_ l)with
    |false=>
     rw[Bool.and_false]
     exact nme5_all l r [] hx ho (e2.trans hL) hl hr2 (by omega) d1 d2 (by rw[hd];exact d3) d4 s0 (by rw[hS]) (by rw[hS]) (by rw[hS];exact s3) (by omega)
    |true=>
     cases hm:Pny.k1_ (z2_ l)with
     |false=>exact nme6_all l r [] hx ho (e2.trans hL) (e3.trans hm) hl hr2 (by omega) d1 d2 (by rw[hd];exact d3) d4 s0 (by rw[hS]) (by rw[hS]) (by rw[hS];exact s3) (by omega)
     |true=>
      have he:a6_ (unI (ints (z8_ (z2_ l))))=Pny.o5_ (z2_ l):=by
        unfold a6_
        rw[if_pos (e3.trans hm),hS,natL_I]
      have hle:(Pny.o5_ (z2_ l)).length≤100000:=by
        rw[←he]
        have:=encV_2500 (unI (ints (z8_ (z2_ l))))
        omega
      exact nme7_all l r _ hx ho (e2.trans hL) (e3.trans hm) he hle hl hr2 (by omega) d1 d2 (by rw[hd];exact d3) d4 s0 (by rw[hS]) (by rw[hS]) (by rw[hS];exact s3) (by omega)
theorem name_ok:x9_ Tryd.prog 24 nameSpec:=by
  refine v0_ mixed clNm_ok fun args r q hs hq=>?_
  unfold nameSpec at hs
  split at hs
  ·rename_i s
   simp only[Option.some.injEq,Prod.mk.injEq]at hs
   obtain⟨rfl,rfl⟩:=hs
   obtain⟨⟨⟨l⟩⟩,rfl⟩:∃b:ByteArray,b=s:=⟨s,rfl⟩
   obtain⟨hh,p,e,hp⟩:=name_at l hq.1
   exact⟨_,_,_,_,z5_,e,hp⟩
  ·simp at hs
def pdmS (k i:Nat) (C:List AV):St:=⟨frame 37 [(5,.sl 0 0 k),(17,.sl 0 0 k),(18,.c (.int .i64 k)),(19,.c (.int .i64 i))],[some ⟨9,false,C⟩]⟩
def pdmF:St:=⟨frame 37 [(2,.c (str [])),(3,.c (.bool false))],[]⟩
def pdmE (k:Nat) (C:List AV):St:=⟨frame 37 [(5,.sl 0 0 k)],[some ⟨9,false,C⟩]⟩
noncomputable def clDm:CallT:=m4_ Tryd.prog (s8_ [(24,nameSpec),(22,mpSpec),(23,spltSpec),(25,jnSpec)]) 500 8
theorem clDm_ok:x2_ Tryd.prog clDm:=q2_ mixed (y7_ name_ok (y7_ mapped_ok (y7_ split_ok (y7_ join_ok w8_)))) 500 8
theorem pdmrA_all (C C2:List AV) (k i:Nat) (t u:List UInt8) (hi:i<k) (ho:(nmF t).isSome=true) (hg:nmG t=u) (hp:List.take i C++[AV.c (str u)]++List.drop (i+1) C=C2) (hz:i<k→y0_ ((C.drop i).headD .any) (.c (str t))) (hC:C.length=k) (hk:k≤1000000) (ht:t.length≤100000):x1_ Ext0 Tryd.prog clDm (z1_ Tryd.prog 14 6) (pdmS k i C) (.normal) (pdmS k (i+1) C2):=by
  refine⟨⟨true,(bs [(20,true)]++[(23,⟨.c (str t),none⟩),(29,⟨.c (str u),none⟩),(30,⟨.c (.bool true),none⟩),(100031,⟨.any,some C2⟩)])⟩,_,60,⟨[],[5,17,18,19],[0]⟩,[decide ((↑i:Int)<↑k)=true,
 (0:Int)≤↑i,
 (↑i:Int)<↑k,
 (((0:Nat):Nat)<((List.drop (i+(0:Nat)) C).length)),
 y0_ ((List.drop (i+(0:Nat)) C).headD AV.any) ((AV.c ((str (t))))),
 ((t.length:Nat)≤((100000:Nat))),
 ((nmG t:List UInt8))=(u),
 ((nmF (sb { data:= { toList:=t}})).isSome)=true,
 (0:Int)≤↑i,
 (↑i:Int)<↑k,
 ((i+(0:Nat)+(1:Nat):Nat)≤(C.length)),
 y0_ (AV.any) (AV.any),
 ((List.take (i+(0:Nat)) C++[AV.c (str u)]++List.drop (i+(0:Nat)+(1:Nat)) C:List AV))=(C2),
 (IntKind.i64.min:Int)≤↑i+1,
 (↑i+1:Int)≤IntKind.i64.max],z5_,by decide,by kernel_rfl,?_⟩
  all_goals try simp(disch:=omega) only[std,List.length_drop,hC,Nat.add_zero]
  all_goals repeat' apply And.intro
  all_goals first|exact True.intro|omega|with_reducible rfl|with_reducible assumption|exact hz hi|exact hg|exact ho|exact hp|rfl|exact ho|exact hg|exact hp|exact hC|rfl
theorem pdmrX_all (C C2:List AV) (k i:Nat) (t u:List UInt8) (hi:i<k) (ho:(nmF t).isSome=false) (hg:nmG t=u) (hp:List.take i C++[AV.c (str u)]++List.drop (i+1) C=C2) (hz:i<k→y0_ ((C.drop i).headD .any) (.c (str t))) (hC:C.length=k) (hk:k≤1000000) (ht:t.length≤100000):x1_ Ext0 Tryd.prog clDm (z1_ Tryd.prog 14 6) (pdmS k i C) (.ret) (pdmF):=by
  refine⟨⟨true,(bs [(20,true)]++[(23,⟨.c (str t),none⟩),(29,⟨.c (str u),none⟩),(30,⟨.c (.bool false),none⟩),(100031,⟨.any,some C2⟩)])⟩,_,60,⟨[],[2,3],[]⟩,[decide ((↑i:Int)<↑k)=true,
 (0:Int)≤↑i,
 (↑i:Int)<↑k,
 (((0:Nat):Nat)<((List.drop (i+(0:Nat)) C).length)),
 y0_ ((List.drop (i+(0:Nat)) C).headD AV.any) ((AV.c ((str (t))))),
 ((t.length:Nat)≤((100000:Nat))),
 ((nmG t:List UInt8))=(u),
 ((nmF (sb { data:= { toList:=t}})).isSome)=false,
 (0:Int)≤↑i,
 (↑i:Int)<↑k,
 ((i+(0:Nat)+(1:Nat):Nat)≤(C.length)),
 y0_ (AV.any) (AV.any),
 ((List.take (i+(0:Nat)) C++[AV.c (str u)]++List.drop (i+(0:Nat)+(1:Nat)) C:List AV))=(C2)],z5_,by decide,by kernel_rfl,?_⟩
  all_goals try simp(disch:=omega) only[std,List.length_drop,hC,Nat.add_zero]
  all_goals repeat' apply And.intro
  all_goals first|exact True.intro|omega|with_reducible rfl|with_reducible assumption|exact hz hi|exact hg|exact ho|exact hp|rfl|exact ho|exact hg|exact hp|exact hC|rfl
theorem pdmrZ_all (C C2:List AV) (k i:Nat) (t u:List UInt8) (hi:i=k) (hz:i<k→y0_ ((C.drop i).headD .any) (.c (str t))) (hC:C.length=k) (hk:k≤1000000) (ht:t.length≤100000):x1_ Ext0 Tryd.prog clDm (z1_ Tryd.prog 14 6) (pdmS k i C) (.exit 0) (pdmE k C):=by
  refine⟨⟨true,(bs [(20,false)])⟩,_,60,⟨[],[5],[0]⟩,[decide ((↑i:Int)<↑k)=false],z5_,by decide,by kernel_rfl,?_⟩
  all_goals try simp(disch:=omega) only[std,List.length_drop,hC,Nat.add_zero]
  all_goals repeat' apply And.intro
  all_goals first|exact True.intro|omega|with_reducible rfl|with_reducible assumption|exact hz hi|exact hg|exact ho|exact hp|rfl|exact hi|exact hC|rfl
def b2_ (L:List (List UInt8)) (i:Nat):List AV:=v6_ ((L.take i).map nmG++L.drop i)
theorem pdmC_len (L:List (List UInt8)) (i:Nat) (h:i≤L.length):(b2_ L i).length=L.length:=by
  unfold b2_
  rw[q9_,List.length_append,List.length_map,List.length_take,List.length_drop]
  omega
theorem drop_of {A B:List AV} {i:Nat} (h:A.length=i):(A++B).drop i=B:=by subst h;exact List.drop_left
theorem take_of {A B:List AV} {i:Nat} (h:A.length=i):(A++B).take i=A:=by subst h;exact List.take_left
theorem pdmC_is (L:List (List UInt8)) (i:Nat) (h:i≤L.length):b2_ L i=v6_ ((L.take i).map nmG)++v6_ (L.drop i)∧(v6_ ((L.take i).map nmG)).length=i:=by
  refine⟨strs_app _ _,?_⟩
  rw[q9_,List.length_map,List.length_take];omega
theorem pdmC_at (L:List (List UInt8)) (i:Nat) (h:i<L.length):(b2_ L i).drop i= .c (str (L.getD i []))::v6_ (L.drop (i+1)):=by
  obtain⟨e,hl⟩:=pdmC_is L i (by omega)
  rw[e,drop_of hl,List.drop_eq_getElem_cons h,show L[i]=L.getD i []by simp[List.getD,h]]
  rfl
theorem pdmC_put (L:List (List UInt8)) (i:Nat) (h:i<L.length):List.take i (b2_ L i)++[.c (str (nmG (L.getD i [])))]++List.drop (i+1) (b2_ L i)=b2_ L (i+1):=by
  obtain⟨e,hl⟩:=pdmC_is L i (by omega)
  have h1:=congrArg (List.drop 1) (pdmC_at L i h)
  rw[List.drop_drop]at h1
  rw[h1,e,take_of hl,(pdmC_is L (i+1) h).1,v5_ L i [] h,List.map_append,strs_app]
  rfl
theorem all_snocL (L:List (List UInt8)) (i:Nat) (h:i<L.length):i1_ (L.take (i+1))=(i1_ (L.take i)&&(nmF (L.getD i [])).isSome):=by
  unfold i1_
  rw[v5_ L i [] h,List.all_append];simp
theorem pdm_walk (L:List (List UInt8)) (hk:L.length≤1000000) (hL:∀t∈L,t.length≤100000):Tri Ext0 Tryd.prog (.loop (z1_ Tryd.prog 14 6)) (pdmS L.length 0 (v6_ L)) (if i1_ L=true then .exit 0 else .ret) (if i1_ L=true then pdmE L.length (v6_ (L.map nmG))else pdmF):=by
  refine n5_ mixed clDm_ok (fun i=>pdmS L.length i (b2_ L i)) (fun i=>i≤L.length∧i1_ (L.take i)=true) (fun i=>L.length-i) (fun i hx=>?_) 0 ⟨Nat.zero_le _,rfl⟩
  obtain⟨h1,h2⟩:=hx
  have hC:=pdmC_len L i h1
  by_cases hi:i<L.length
  ·have ht:(L.getD i []).length≤100000:=by
     have e:L[i]=L.getD i []:=by simp[List.getD,hi]
     rw[←e];exact hL _ (List.getElem_mem _)
   have ha:i<L.length→y0_ (((b2_ L i).drop i).headD .any) (.c (str (L.getD i []))):=fun _=>by rw[pdmC_at L i hi];exact t0_ _
   have hb:=all_snocL L i hi
   cases ho:(nmF (L.getD i [])).isSome with
   |true=>exact .inl ⟨i+1,⟨hi,by rw[hb,h2,ho];rfl⟩,by omega,pdmrA_all (b2_ L i) (b2_ L (i+1)) L.length i _ _ hi ho rfl (pdmC_put L i hi) ha hC hk ht⟩
   |false=>
    have:i1_ L=false:=by
      have e:i1_ (L.take (i+1))=false:=by rw[hb,ho,Bool.and_false]
      unfold i1_ at*
      rw[←List.take_append_drop (i+1) L,List.all_append,e,Bool.false_and]
    rw[this]
    exact .inr ⟨by simp,pdmrX_all (b2_ L i) (b2_ L (i+1)) L.length i _ _ hi ho rfl (pdmC_put L i hi) ha hC hk ht⟩
  ·have he:i=L.length:=by omega
   subst he
   rw[List.take_length]at h2
   rw[h2]
   have e:b2_ L L.length=v6_ (L.map nmG):=by unfold b2_;rw[List.take_length,List.drop_length,List.append_nil]
   rw[e]at hC ⊢
   exact .inr ⟨by simp,pdmrZ_all _ [] L.length L.length [] [] rfl (fun h=>absurd h (Nat.lt_irrefl _)) hC hk (by simp)⟩
theorem spl_sum (k:UInt8):∀q,t2_ (w0_ k q)+(w0_ k q).length=q.length+1
  | []=>rfl
  |c::r=>by
   have ih:=spl_sum k r
   have hn:=splC_ne k r
   rw[i7_]
   split
   ·rw[t2_,List.length_cons,List.length_cons,List.length_nil];omega
   ·cases hs:w0_ k r with
    |nil=>exact absurd hs hn
    |cons x t=>
     rw[hs]at ih
     simp only[t2_,List.headD_cons,List.tail_cons,List.length_cons]at ih ⊢
     omega
theorem nmG_len (t:List UInt8):(nmG t).length≤t.length+2504:=by
  unfold nmG nmF
  split
  ·split
   ·exact Nat.le_add_right _ _
   ·simp
  ·split
   ·exact Nat.le_add_right _ _
   ·split
    ·rename_i h
     rw[Bool.and_eq_true]at h
     have:=encV_2500 (z8_ (z2_ t))
     unfold a6_ at this
     rw[if_pos (by rw[may_nat];exact h.1),natL_I]at this
     have hx:xnB.length=4:=rfl
     rw[Option.getD_some,List.length_append,hx]
     omega
    ·simp
theorem nmG_sum:∀L:List (List UInt8),t2_ (L.map nmG)≤t2_ L+2504*L.length
  | []=>by simp[t2_]
  |t::r=>by
   have:=nmG_sum r
   have:=nmG_len t
   simp only[List.map_cons,t2_,List.length_cons]
   omega
noncomputable def pdmLp (L:List (List UInt8)) (e:Exit) (R:St):List (Nat×Lp):=[(6,⟨z1_ Tryd.prog 14 6,⟨[],[5,17,18,19],[0]⟩,pdmS L.length 0 (v6_ L),e,R⟩)]
theorem pdmm1_all (l m:List UInt8) (M:List (List UInt8)) (ho:(s3_ (z2_ l)).isSome=false) (hl:l.length≤100000) (hm:((s3_ (z2_ l)).map join).getD []=m) (hml:m.length≤1000000):∃(h:Hints) (p:List Prop),y3_ Tryd.prog 14 (z9_ Tryd.prog clDm h (y1_ ([])) 60 14 ([.c (str l)]) ([]))=some (.tu [.c (str []),.c (.bool false)],p)∧z7_ p:=by
  refine⟨⟨true,([(11,⟨.c (str m),none⟩),(12,⟨.c (.bool false),none⟩)])⟩,[((l.length:Nat)≤((200000:Nat))),
 (((Option.map join (s3_ (z2_ (sb { data:= { toList:=l}})))).getD []:List UInt8))=(m),
 ((s3_ (z2_ (sb { data:= { toList:=l}}))).isSome)=false],Eq.trans (b:=some ((AV.tu [(AV.c ((str ([])))),
 (AV.c ((Value.bool false)))]),_)) (by kernel_rfl) (congrArg (fun r=>some (r,_)) ?_),?_⟩
  any_goals(
    rfl
    done)
  all_goals try simp(disch:=omega) only[std,d9_]
  all_goals repeat' apply And.intro
  all_goals first|exact True.intro|omega|with_reducible rfl|with_reducible assumption|exact ho|exact hm|rfl|exact ho|exact hm|rfl
theorem pdmm2_all (l m:List UInt8) (M:List (List UInt8)) (ho:(s3_ (z2_ l)).isSome=true) (hl:l.length≤100000) (hm:((s3_ (z2_ l)).map join).getD []=m) (hml:m.length≤1000000):∃(h:Hints) (p:List Prop),y3_ Tryd.prog 14 (z9_ Tryd.prog clDm h (y1_ (pdmLp (w0_ 46 m) .ret pdmF)) 60 14 ([.c (str l)]) ([]))=some (.tu [.c (str []),.c (.bool false)],p)∧z7_ p:=by
  refine⟨⟨true,([(11,⟨.c (str m),none⟩),(12,⟨.c (.bool true),none⟩)])⟩,[((l.length:Nat)≤((200000:Nat))),
 (((Option.map join (s3_ (z2_ (sb { data:= { toList:=l}})))).getD []:List UInt8))=(m),
 ((s3_ (z2_ (sb { data:= { toList:=l}}))).isSome)=true,
 ((m.length:Nat)≤((1000000000:Nat))),
 (([(46:UInt8)]:List UInt8))=([[(46:UInt8)].headD (0:UInt8)]),
 ((z1_ Tryd.prog (14:FuncId) (6:Nat):Go.Code))=(z1_ Tryd.prog (14:FuncId) (6:Nat)),
 ((pdmS (w0_ (46:UInt8) m).length (0:Nat) (v6_ (w0_ (46:UInt8) m)):Go.Proofs.YtmjldphagbobpaaDoor.St))=(pdmS (w0_ (46:UInt8) m).length (0:Nat) (v6_ (w0_ (46:UInt8) m)))],Eq.trans (b:=some ((AV.tu [(AV.c ((str ([])))),
 (AV.c ((Value.bool false)))]),_)) (by kernel_rfl) (congrArg (fun r=>some (r,_)) ?_),?_⟩
  any_goals(
    rfl
    done)
  all_goals try simp(disch:=omega) only[std,d9_]
  all_goals repeat' apply And.intro
  all_goals first|exact True.intro|omega|with_reducible rfl|with_reducible assumption|exact ho|exact hm|rfl|exact ho|exact hm|rfl
theorem pdmm3_all (l m:List UInt8) (M:List (List UInt8)) (ho:(s3_ (z2_ l)).isSome=true) (hM:(w0_ 46 m).length=M.length) (htk:List.take (w0_ 46 m).length (v6_ M)=v6_ M) (hs:t2_ M≤1000000000) (hk:M.length≤1000000) (hl:l.length≤100000) (hm:((s3_ (z2_ l)).map join).getD []=m) (hml:m.length≤1000000):∃(h:Hints) (p:List Prop),y3_ Tryd.prog 14 (z9_ Tryd.prog clDm h (y1_ (pdmLp (w0_ 46 m) (.exit 0) (pdmE (w0_ 46 m).length (v6_ M)))) 60 14 ([.c (str l)]) ([]))=some (.tu [.c (str (jnC 46 M)),.c (.bool true)],p)∧z7_ p:=by
  refine⟨⟨true,([(11,⟨.c (str m),none⟩),(12,⟨.c (.bool true),none⟩)])⟩,[((l.length:Nat)≤((200000:Nat))),
 (((Option.map join (s3_ (z2_ (sb { data:= { toList:=l}})))).getD []:List UInt8))=(m),
 ((s3_ (z2_ (sb { data:= { toList:=l}}))).isSome)=true,
 ((m.length:Nat)≤((1000000000:Nat))),
 (([(46:UInt8)]:List UInt8))=([[(46:UInt8)].headD (0:UInt8)]),
 ((z1_ Tryd.prog (14:FuncId) (6:Nat):Go.Code))=(z1_ Tryd.prog (14:FuncId) (6:Nat)),
 ((pdmS (w0_ (46:UInt8) m).length (0:Nat) (v6_ (w0_ (46:UInt8) m)):Go.Proofs.YtmjldphagbobpaaDoor.St))=(pdmS (w0_ (46:UInt8) m).length (0:Nat) (v6_ (w0_ (46:UInt8) m))),
 ((Tryd.prog.cellsOf (9:TypeId):Nat))=((1:Nat)),
 ((List.take (w0_ (46:UInt8) m).length (List.drop (0:Nat) (v6_ M)):List AV))=(v6_ (j3_ (List.take (w0_ (46:UInt8) m).length (List.drop (0:Nat) (v6_ M))))),
 (((w0_ (46:UInt8) m).length:Nat))=((j3_ (List.take (w0_ (46:UInt8) m).length (List.drop (0:Nat) (v6_ M)))).length),
 (([(46:UInt8)]:List UInt8))=([[(46:UInt8)].headD (0:UInt8)]),
 ((t2_ (j3_ (List.take (w0_ (46:UInt8) m).length (List.drop (0:Nat) (v6_ M)))):Nat)≤((1000000000:Nat))),
 (((w0_ (46:UInt8) m).length:Nat)≤((1000000000:Nat))),
 (r1_ [] (AV.c (str (jnC ([(46:UInt8)].headD (0:UInt8)) (j3_ (List.take (w0_ (46:UInt8) m).length (List.drop (0:Nat) (v6_ M))))))))=true],Eq.trans (b:=some ((AV.tu [(AV.c ((str (jnC ([(46:UInt8)].headD (0:UInt8)) (j3_ (List.take (w0_ (46:UInt8) m).length (List.drop (0:Nat) (v6_ M)))))))),
 (AV.c ((Value.bool true)))]),_)) (by kernel_rfl) (congrArg (fun r=>some (r,_)) ?_),?_⟩
  any_goals(
    first|(rw[List.drop_zero,htk,d9_];done)|(rw[List.drop_zero,htk,d9_];rfl)
    done)
  all_goals try simp(disch:=omega) only[std,d9_,htk]
  all_goals repeat' apply And.intro
  all_goals first|exact True.intro|omega|with_reducible rfl|with_reducible assumption|exact ho|exact hm|rfl|exact ho|exact hM|exact htk|exact hm|rfl
theorem pdom_ok:x9_ Tryd.prog 14 domSpec:=by
  refine v0_ mixed clDm_ok fun args r q hs hq=>?_
  unfold domSpec at hs
  split at hs
  ·rename_i s
   simp only[Option.some.injEq,Prod.mk.injEq]at hs
   obtain⟨rfl,rfl⟩:=hs
   obtain⟨⟨⟨l⟩⟩,rfl⟩:∃b:ByteArray,b=s:=⟨s,rfl⟩
   obtain⟨hl,hd,_⟩:=hq
   have hl:l.length≤100000:=hl
   show ∃hs lp fuel p,_∧y3_ _ _ _=some (AV.tu [.c (str ((r8_ l).getD [])),.c (.bool (r8_ l).isSome)],p)∧_
   unfold r8_
   cases hp:s3_ (z2_ l)with
   |none=>
    obtain⟨hh,p,e,hq⟩:=pdmm1_all l [] [] (by rw[hp];rfl) hl (by rw[hp];rfl) (by simp)
    exact⟨_,_,_,_,z5_,e,hq⟩
   |some q=>
    have hst:=put_out hp
    have hok:∀c∈q,okC c:=fun c hc=>stays_ok (hst c hc)
    have hql:(join q).length≤100000:=hd q hp
    have hsp:=spl_join hok
    have hlen:=splC_le 46 (join q)
    have hmem:=splC_len 46 (join q)
    have w:=pdm_walk (w0_ 46 (join q)) (by omega) fun t ht=>by have:=(hmem t ht).1;omega
    have hdn:=dom_names (spl q) (f8_ q) fun l hl=>⟨fun c hc=>hok c (spl_mem q l hl c hc).1,by
      have:=(hmem (join l) (by rw[hsp];exact List.mem_map.2 ⟨l,hl,rfl⟩)).1
      omega⟩
    rw[←hsp]at hdn
    show ∃hs lp fuel p,_∧y3_ _ _ _=some (AV.tu [.c (str ((i2_ (spl q)).getD [])),.c (.bool (i2_ (spl q)).isSome)],p)∧_
    rw[hdn]
    cases hall:i1_ (w0_ 46 (join q))with
    |false=>
     rw[hall]at w
     obtain⟨hh,p,e,hq⟩:=pdmm2_all l (join q) [] (by rw[hp];rfl) hl (by rw[hp];rfl) (by omega)
     exact⟨_,_,_,_,x6_ z5_ (show [0].Nodup by decide) w,e,hq⟩
    |true=>
     rw[hall]at w
     have h1:=nmG_sum (w0_ 46 (join q))
     have h2:=spl_sum 46 (join q)
     obtain⟨hh,p,e,hq⟩:=pdmm3_all l (join q) ((w0_ 46 (join q)).map nmG) (by rw[hp];rfl) (by rw[List.length_map]) (by rw[show(w0_ 46 (join q)).length=((w0_ 46 (join q)).map nmG).length by rw[List.length_map],strs_tk]) (by omega) (by rw[List.length_map];omega) hl (by rw[hp];rfl) (by omega)
     exact⟨_,_,_,_,x6_ z5_ (show [0].Nodup by decide) w,e,hq⟩
  ·simp at hs
end Go.Proofs.YtmjldphagbobpaaDoor
