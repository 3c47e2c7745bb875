import Derived.Test.YtmjldphagbobpaaGreatDoorIdnL
import Derived.Test.YtmjldphagbobpaaGreatDoorIdnG
set_option linter.unusedVariables false
set_option linter.unusedSimpArgs false
namespace Go.Proofs.YtmjldphagbobpaaGreatDoor
open _root_.Go.Proofs.Tryz renaming prog→p_
open Go.RowKit U8 Idn
set_option maxRecDepth 100000
noncomputable def clIk:CallT:=q4_ p_ (t4_ [(4,small8Spec),(5,h8_),(9,i4_),(7,domSpec),(6,h8_),(10,i4_),(8,domSpec)]) 500 8
theorem clIk_ok:x3_ p_ clIk:=t3_ mixed (y4_ small8_ok (y4_ pmap_ok (y4_ plabel_ok (y4_ pdom_ok (y4_ rmap_ok (y4_ rlabel_ok (y4_ rdom_ok w3_))))))) 500 8
theorem tell0_all (c:Int)(L:List Int)(s:List UInt8)(h0:(L.length:Int)>300∨(s.length:Int)>500):∃(h:Hints) (p:List Prop),lawOut (z9_ p_ clIk h (y1_ ([])) 60 3 ([.c (.int .i64 c),.fs 1 L.length (z4_ L),.c (str s)]) ([]))=some (.c (.bool true),p)∧z7_ p:=by
  refine y9_ (decide ((↑L.length:Int)>(300:Int))) (fun hc19=>⟨⟨true,bs [(19,true)]⟩,[decide ((↑L.length:Int)>300)=true],by kernel_rfl,?_⟩)
    (fun hc19=>⟨⟨true,bs [(19,false),(23,true)]⟩,[decide ((↑L.length:Int)>300)=false,
 decide ((↑s.length:Int)>500)=true],by kernel_rfl,?_⟩)
  all_goals try simp only[dz]at hc19
  all_goals try simp(disch:=omega) only[std]
  all_goals repeat' apply And.intro
  all_goals first|exact True.intro|omega|with_reducible (first|rfl|assumption)|rfl
theorem tell1_all (c:Int)(L:List Int)(s:List UInt8)(h0:L.length≤300)(h1:s.length≤500)(c1: -9223372036854775808≤c)(c2:c≤9223372036854775807)(hr:s9_ L)(hd:k2_ s):∃(h:Hints) (p:List Prop),lawOut (z9_ p_ clIk h (y1_ ([])) 60 3 ([.c (.int .i64 c),.fs 1 L.length (z4_ L),.c (str s)]) ([]))=some (.c (.bool true),p)∧z7_ p:=by
  refine⟨⟨true,(bs [(19,false),(23,false),(50,true),(55,true),(62,true),(67,true),(72,true)])⟩,[decide ((↑L.length:Int)>300)=false,
 decide ((↑s.length:Int)>500)=false,
 (-9223372036854775808:Int)≤c,
 (c:Int)≤9223372036854775807,
 (-9223372036854775808:Int)≤c,
 (c:Int)≤9223372036854775807,
 ((s.length:Nat)≤((100000:Nat))),
 k2_ s,
 ((s.length:Nat)≤((100000:Nat))),
 k2_ s,
 (s0_ c==s0_ c)=true,
 (w8_ c==w8_ c)=true,
 (((1:Nat):Nat))=((1:Nat)),
 ((z4_ L:List AV))=(z4_ (unI (z4_ L))),
 ((L.length:Nat))=((unI (z4_ L)).length),
 ((L.length:Nat)≤((1000000000:Nat))),
 s9_ (unI (z4_ L)),
 (((1:Nat):Nat))=((1:Nat)),
 ((z4_ L:List AV))=(z4_ (unI (z4_ L))),
 ((L.length:Nat))=((unI (z4_ L)).length),
 ((L.length:Nat)≤((1000000000:Nat))),
 s9_ (unI (z4_ L)),
 (u8_ (unI (z4_ L))==u8_ (unI (z4_ L)))=true,
 ((c9_ (sb { data:= { toList:=s}})).getD []==(c9_ (sb { data:= { toList:=s}})).getD [])=true,
 ((c9_ (sb { data:= { toList:=s}})).isSome==(c9_ (sb { data:= { toList:=s}})).isSome)=true],by kernel_rfl,?_⟩
  all_goals try simp(disch:=omega) only[std,beq_self_eq_true,v8_]
  all_goals repeat' apply And.intro
  all_goals first|exact True.intro|omega|with_reducible (first|rfl|assumption)|exact hr|exact hd|rfl
theorem tells_law (c:Int)(L:List Int)(s:List UInt8)(c1: -9223372036854775808≤c)(c2:c≤9223372036854775807)(hr:s9_ L):∃hs lp fuel p,p8_ Ext0 p_ lp∧lawOut (z9_ p_ clIk hs lp fuel 3 [.c (.int .i64 c),.fs 1 L.length (z4_ L),.c (str s)] [])=some (.c (.bool true),p)∧z7_ p:=by
  by_cases h:(L.length:Int)>300∨(s.length:Int)>500
  ·obtain⟨hh,p,e,hp⟩:=tell0_all c L s h
   exact⟨_,_,_,_,z3_,e,hp⟩
  ·obtain⟨hh,p,e,hp⟩:=tell1_all c L s (by omega) (by omega) c1 c2 hr (domLen_of (n:=500) (by omega) (by omega))
   exact⟨_,_,_,_,z3_,e,hp⟩
end Go.Proofs.YtmjldphagbobpaaGreatDoor
