import Derived.Test.YtmjldphagbobpaaGreatDoorIdnP
set_option linter.unusedVariables false
set_option linter.unusedSimpArgs false
namespace Go.Proofs.YtmjldphagbobpaaGreatDoor
open _root_.Go.Proofs.Tryz renaming prog→p_
open Go.RowKit U8 Idn
set_option maxRecDepth 100000
theorem domLen_of {s:List UInt8}{n:Nat}(h:s.length≤n)(hn:12*n≤100000):k2_ s:=by
  intro q hq
  have h1:=put_len hq
  have h2:=signs_len s
  have h3:=join_len q
  omega
noncomputable def clIs:CallT:=q7_ p_ (t4_ [(5,h8_),(9,i4_),(7,domSpec)]) (n0_ []) 500 8
theorem clIs_ok:x3_ p_ clIs:=s1_ mixed (y4_ pmap_ok (y4_ plabel_ok (y4_ pdom_ok w3_))) s5_ 500 8
noncomputable def lsm_X (h_:List (Nat×Bool)):=y0_ p_ 4 (z9_ p_ clIs ⟨true,bs h_++(bs [(38,true),(42,false),(46,false),(50,true),(54,false),(56,true),(59,true),(63,true),(67,true),(71,true),(75,true),(79,true),(83,true),(98,true),(109,true),(113,false),(118,false)])⟩ (y1_ ([])) 60 4 ([]) ([]))
theorem lsm_1:lsm_X []=some ((AV.c ((Value.bool true))),[(-9223372036854775808:Int)≤65,
 (65:Int)≤9223372036854775807,
 (-9223372036854775808:Int)≤304,
 (304:Int)≤9223372036854775807,
 (-9223372036854775808:Int)≤173,
 (173:Int)≤9223372036854775807,
 (-9223372036854775808:Int)≤55296,
 (55296:Int)≤9223372036854775807,
 (((18:Nat):Nat)≤((100000:Nat))),
 k2_ [(66:UInt8),(195:UInt8),(156:UInt8),(67:UInt8),(72:UInt8),(69:UInt8),(82:UInt8),(46:UInt8),(69:UInt8),(120:UInt8),(97:UInt8),(109:UInt8),(112:UInt8),(108:UInt8),(101:UInt8),(227:UInt8),(128:UInt8),(130:UInt8)],
 (true)=true,
 (((5:Nat):Nat)≤((100000:Nat))),
 k2_ [(120:UInt8),(110:UInt8),(45:UInt8),(45:UInt8),(97:UInt8)],
 (false)=false,
 (((3:Nat):Nat)≤((100000:Nat))),
 k2_ [(204:UInt8),(129:UInt8),(97:UInt8)],
 (false)=false,
 (((12:Nat):Nat)≤((100000:Nat))),
 k2_ [(239:UInt8),(188:UInt8),(161:UInt8),(226:UInt8),(132:UInt8),(128:UInt8),(194:UInt8),(173:UInt8),(240:UInt8),(157:UInt8),(159:UInt8),(153:UInt8)],
 (true)=true,
 (((6:Nat):Nat)≤((100000:Nat))),
 k2_ [(120:UInt8),(110:UInt8),(45:UInt8),(45:UInt8),(195:UInt8),(169:UInt8)],
 (false)=false,
 (true)=true,
 (true)=true,
 (true)=true,
 (true)=true,
 (true)=true,
 (true)=true,
 (true)=true,
 (true)=true,
 (true)=true,
 (((1:Nat):Nat))=((1:Nat)),
 ((List.take (2:Nat) (List.drop (0:Nat) ([AV.c (Value.int IntKind.i64 (252:Int))]++([AV.c (Value.int IntKind.i64 (97:Int))]++[]))):List AV))=(z4_ (unI (List.take (2:Nat) (List.drop (0:Nat) ([AV.c (Value.int IntKind.i64 (252:Int))]++([AV.c (Value.int IntKind.i64 (97:Int))]++[])))))),
 (((2:Nat):Nat))=((2:Nat)),
 (((2:Nat):Nat)≤((1000000000:Nat))),
 s9_ (unI (List.take (2:Nat) (List.drop (0:Nat) ([AV.c (Value.int IntKind.i64 (252:Int))]++([AV.c (Value.int IntKind.i64 (97:Int))]++[]))))),
 (t8_ [] (AV.c (Value.bool (u8_ (unI (List.take (2:Nat) (List.drop (0:Nat) ([AV.c (Value.int IntKind.i64 (252:Int))]++([AV.c (Value.int IntKind.i64 (97:Int))]++[])))))))))=true,
 (true)=true,
 (((1:Nat):Nat))=((1:Nat)),
 ((List.take (1:Nat) (List.drop (0:Nat) ([AV.c (Value.int IntKind.i64 (97:Int))]++[])):List AV))=(z4_ (unI (List.take (1:Nat) (List.drop (0:Nat) ([AV.c (Value.int IntKind.i64 (97:Int))]++[]))))),
 (((1:Nat):Nat))=((1:Nat)),
 (((1:Nat):Nat)≤((1000000000:Nat))),
 s9_ (unI (List.take (1:Nat) (List.drop (0:Nat) ([AV.c (Value.int IntKind.i64 (97:Int))]++[])))),
 (t8_ [] (AV.c (Value.bool (u8_ (unI (List.take (1:Nat) (List.drop (0:Nat) ([AV.c (Value.int IntKind.i64 (97:Int))]++[]))))))))=true,
 (false)=false,
 (((1:Nat):Nat))=((1:Nat)),
 ((List.take (2:Nat) (List.drop (0:Nat) ([AV.c (Value.int IntKind.i64 (252:Int))]++([AV.c (Value.int IntKind.i64 (65:Int))]++[]))):List AV))=(z4_ (unI (List.take (2:Nat) (List.drop (0:Nat) ([AV.c (Value.int IntKind.i64 (252:Int))]++([AV.c (Value.int IntKind.i64 (65:Int))]++[])))))),
 (((2:Nat):Nat))=((2:Nat)),
 (((2:Nat):Nat)≤((1000000000:Nat))),
 s9_ (unI (List.take (2:Nat) (List.drop (0:Nat) ([AV.c (Value.int IntKind.i64 (252:Int))]++([AV.c (Value.int IntKind.i64 (65:Int))]++[]))))),
 (t8_ [] (AV.c (Value.bool (u8_ (unI (List.take (2:Nat) (List.drop (0:Nat) ([AV.c (Value.int IntKind.i64 (252:Int))]++([AV.c (Value.int IntKind.i64 (65:Int))]++[])))))))))=true,
 (false)=false]):=by kernel_rfl
theorem lsm_all (d1:k2_ [66,195,156,67,72,69,82,46,69,120,97,109,112,108,101,227,128,130])(d2:k2_ [120,110,45,45,97])(d3:k2_ [204,129,97])(d4:k2_ [239,188,161,226,132,128,194,173,240,157,159,153])(d5:k2_ [120,110,45,45,195,169])(r1:s9_ [252,97])(r2:s9_ [97])(r3:s9_ [252,65]):∃(h:Hints) (p:List Prop),y0_ p_ 4 (z9_ p_ clIs h (y1_ ([])) 60 4 ([]) ([]))=some (.c (.bool true),p)∧z7_ p:=by
  have eR:=lsm_1
  refine⟨_,_,eR.trans (congrArg (fun r=>some (r,_)) ?_),?_⟩
  ·rfl
  ·simp only[z7_]
   repeat' apply And.intro
   all_goals first|exact True.intro|exact d1|exact d2|exact d3|exact d4|exact d5|exact r1|exact r2|exact r3|kernel_rfl|decide+kernel
def small8Spec:Spec
  | []=>some (.c (.bool true),[])
  |_=>none
theorem rng_of {L:List Int}(h:L.all (fun z=>decide (-9223372036854775808≤z)&&decide (z≤9223372036854775807))=true):s9_ L:=fun z hz=>by
  have:=List.all_eq_true.1 h z hz
  rw[Bool.and_eq_true,decide_eq_true_eq,decide_eq_true_eq]at this
  exact this
theorem small8_ok:x8_ p_ 4 small8Spec:=by
  refine w1_ mixed clIs_ok fun args r q hs hq=>?_
  unfold small8Spec at hs
  split at hs
  ·simp only[oi_]at hs
   obtain⟨rfl,rfl⟩:=hs
   obtain⟨hh,p,e,hp⟩:=lsm_all (domLen_of (n:=20) (by decide) (by omega)) (domLen_of (n:=20) (by decide) (by omega)) (domLen_of (n:=20) (by decide) (by omega)) (domLen_of (n:=20) (by decide) (by omega)) (domLen_of (n:=20) (by decide) (by omega)) (rng_of (by decide)) (rng_of (by decide)) (rng_of (by decide))
   exact⟨_,_,_,_,z3_,e,hp⟩
  ·simp at hs
end Go.Proofs.YtmjldphagbobpaaGreatDoor
