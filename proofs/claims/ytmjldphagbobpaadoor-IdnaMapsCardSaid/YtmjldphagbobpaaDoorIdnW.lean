import Derived.Test.YtmjldphagbobpaaDoorIdnV
import Derived.Test.YtmjldphagbobpaaDoorIdnT
import Derived.Test.YtmjldphagbobpaaDoorBldX
import Derived.Test.YtmjldphagbobpaaDoorPnyW
set_option linter.unusedVariables false
set_option linter.unusedSimpArgs false
namespace Go.Proofs.YtmjldphagbobpaaDoor
open IntKind (i64 u8 i32 u32 u64)
open _root_.Go.Proofs.Tryd renaming prog→p_
open Go.RowKit U8 Idn
noncomputable def e1_:CallT:=p3_ p_ (r4_ [(10,mapSpec),(13,signsSpecU)]) (m0_ [(38,wsxSpec),(37,bstSpec)]) 500 8
theorem clMd_ok:x7_ p_ e1_:=s3_ mixed (y8_ pmap_ok (y8_ signsU_ok v2_)) (w5_ wsx_ok (w5_ bst_ok s8_)) 500 8
def mqZ (a:AV)(N:List Nat):Heap:=[some ⟨56,true,[a,.c (.slice none 0 0)]⟩,some ⟨3,false,z0_ N⟩]
def mqWn (n:Nat)(s:List UInt8)(N:List Nat):Heap:=[some ⟨56,true,[.pt 0 0,.sl 2 0 n]⟩,some ⟨3,false,z0_ N⟩,some ⟨5,false,z6_ s⟩]
def mqS (k i:Nat)(h:Heap):St:=⟨frame 27 [(4,.pt 0 0),(10,.sl 1 0 k),(11,.c (.int .i64 k)),(12,.c (.int .i64 i))],h⟩
def mqE (h:Heap):St:=⟨frame 27 [(4,.pt 0 0)],h⟩
def mqF:St:=⟨frame 27 [(2,.c (str [])),(3,.c (.bool false))],[]⟩
theorem mqFE_all (N:List Nat)(k i z:Nat)(kd:Int)(s r:List UInt8)(x:UInt8)(hxl:x.toNat<256)(hi:i<k)(hz:((z0_ N).drop i).headD .any= .c (.int .i64 z))(hN:N.length=k)(hNl:(z0_ N).length=k)(hk:k≤1000000)(hzl:z≤1114111)(hkd:x5_ (z:Nat)=kd)(hk0:¬kd=0)(ht:u1_ (z:Nat)=[])(hrl:r.length≤1000)(hsl:s.length≤3000000):x1_ Ext0 p_ e1_ (z1_ p_ 22 3) (mqS k i (mqZ (.c (.pointer none)) N)) (.normal) (mqS k (i+1) (mqZ (.pt 0 0) N)):=by
  refine⟨⟨true,(bs [(13,true),(22,false)]++[(15,⟨.c (.int .i64 z),none⟩),(19,⟨.c (str ([])),none⟩),(20,⟨.c (.int .i64 kd),none⟩)])⟩,_,60,⟨[],[4,10,11,12],[0,1]⟩,[decide ((↑i:Int)<↑k)=true,
 (0:Int)≤↑i,
 (↑i:Int)<↑k,
 (((0:Nat):Nat)<((List.drop (i+(0:Nat)) (z0_ N)).length)),
 y0_ ((List.drop (i+(0:Nat)) (z0_ N)).headD AV.any) ((AV.c ((Value.int .i64 ((↑z:Int)))))),
 (-9223372036854775808:Int)≤↑z,
 (↑z:Int)≤9223372036854775807,
 ((u1_ (↑z:Int):List UInt8))=([]),
 ((x5_ (↑z:Int):Int))=(kd),
 (kd==(0:Int))=false,
 (([]:List UInt8))=([]),
 (i64.min:Int)≤↑i+1,
 (↑i+1:Int)≤i64.max],z4_,by decide,by kernel_rfl,?_⟩
  all_goals try simp(disch:=omega) only[std,Nat.add_zero,hz,List.length_drop,hNl]
  all_goals repeat' apply And.intro
  all_goals first|exact True.intro|omega|with_reducible (first|rfl|assumption)|exact hkd|exact ht|rfl|exact hz|exact hN|exact hNl|exact hk0
theorem mqEE_all (N:List Nat)(k i z:Nat)(kd:Int)(s r:List UInt8)(x:UInt8)(hxl:x.toNat<256)(hi:i<k)(hz:((z0_ N).drop i).headD .any= .c (.int .i64 z))(hN:N.length=k)(hNl:(z0_ N).length=k)(hk:k≤1000000)(hzl:z≤1114111)(hkd:x5_ (z:Nat)=kd)(hk0:¬kd=0)(ht:u1_ (z:Nat)=[])(hrl:r.length≤1000)(hsl:s.length≤3000000):x1_ Ext0 p_ e1_ (z1_ p_ 22 3) (mqS k i (mqZ (.pt 0 0) N)) (.normal) (mqS k (i+1) (mqZ (.pt 0 0) N)):=by
  refine⟨⟨true,(bs [(13,true),(22,false)]++[(15,⟨.c (.int .i64 z),none⟩),(19,⟨.c (str ([])),none⟩),(20,⟨.c (.int .i64 kd),none⟩)])⟩,_,60,⟨[],[4,10,11,12],[0,1]⟩,[decide ((↑i:Int)<↑k)=true,
 (0:Int)≤↑i,
 (↑i:Int)<↑k,
 (((0:Nat):Nat)<((List.drop (i+(0:Nat)) (z0_ N)).length)),
 y0_ ((List.drop (i+(0:Nat)) (z0_ N)).headD AV.any) ((AV.c ((Value.int .i64 ((↑z:Int)))))),
 (-9223372036854775808:Int)≤↑z,
 (↑z:Int)≤9223372036854775807,
 ((u1_ (↑z:Int):List UInt8))=([]),
 ((x5_ (↑z:Int):Int))=(kd),
 (kd==(0:Int))=false,
 (([]:List UInt8))=([]),
 (i64.min:Int)≤↑i+1,
 (↑i+1:Int)≤i64.max],z4_,by decide,by kernel_rfl,?_⟩
  all_goals try simp(disch:=omega) only[std,Nat.add_zero,hz,List.length_drop,hNl]
  all_goals repeat' apply And.intro
  all_goals first|exact True.intro|omega|with_reducible (first|rfl|assumption)|exact hkd|exact ht|rfl|exact hz|exact hN|exact hNl|exact hk0
theorem mqWE_all (N:List Nat)(k i z:Nat)(kd:Int)(s r:List UInt8)(x:UInt8)(hb:List.take s.length (z6_ s)=z6_ s)(hbl:(z6_ s).length=s.length)(hnil:z6_ []=[])(hi:i<k)(hz:((z0_ N).drop i).headD .any= .c (.int .i64 z))(hN:N.length=k)(hNl:(z0_ N).length=k)(hk:k≤1000000)(hzl:z≤1114111)(hkd:x5_ (z:Nat)=kd)(hk0:¬kd=0)(ht:u1_ (z:Nat)=[])(hrl:r.length≤1000)(hsl:s.length≤3000000):x1_ Ext0 p_ e1_ (z1_ p_ 22 3) (mqS k i (mqWn s.length s N)) (.normal) (mqS k (i+1) (mqWn s.length s N)):=by
  refine⟨⟨true,(bs [(13,true),(22,false)]++[(15,⟨.c (.int .i64 z),none⟩),(19,⟨.c (str ([])),none⟩),(20,⟨.c (.int .i64 kd),none⟩)])⟩,_,60,⟨[],[4,10,11,12],[0,1,3]⟩,[decide ((↑i:Int)<↑k)=true,
 (0:Int)≤↑i,
 (↑i:Int)<↑k,
 (((0:Nat):Nat)<((List.drop (i+(0:Nat)) (z0_ N)).length)),
 y0_ ((List.drop (i+(0:Nat)) (z0_ N)).headD AV.any) ((AV.c ((Value.int .i64 ((↑z:Int)))))),
 (-9223372036854775808:Int)≤↑z,
 (↑z:Int)≤9223372036854775807,
 ((u1_ (↑z:Int):List UInt8))=([]),
 ((x5_ (↑z:Int):Int))=(kd),
 (kd==(0:Int))=false,
 ((s.length:Nat)≤((z6_ s).length)),
 ((s.length+(0:Nat):Nat)≤((140737488355328:Nat))),
 (i64.min:Int)≤↑i+1,
 (↑i+1:Int)≤i64.max],z4_,by decide,Eq.trans (b:=some ((.normal:Exit),⟨frame 27 [(4,(AV.pt 0 0)),(10,(AV.sl 1 0 k)),(11,(AV.c ((Value.int .i64 ((↑k:Int)))))),(12,(AV.c ((Value.int .i64 ((↑i:Int)+(1:Int))))))],[(.some ⟨56,true,[(AV.pt 0 0),
 (AV.sl 2 0 (s.length+(0:Nat)))]⟩),
 (.some ⟨3,false,(z0_ N)⟩),
 (.some ⟨5,false,(List.take s.length (z6_ s)++z6_ [])⟩)]⟩,_)) (by kernel_rfl) (congrArg (fun S:St=>some ((.normal:Exit),S,_)) (by first|rfl|(simp(disch:=omega) only[std,Nat.add_zero,hz,List.length_drop,hNl,hb,hbl,hnil,List.append_nil,Nat.add_zero];first|done|rfl))),?_⟩
  all_goals try simp(disch:=omega) only[std,Nat.add_zero,hz,List.length_drop,hNl,hb,hbl,hnil,List.append_nil,Nat.add_zero]
  all_goals repeat' apply And.intro
  all_goals first|exact True.intro|omega|with_reducible (first|rfl|assumption)|exact hkd|exact ht|rfl|exact hb|exact hbl|exact hnil|exact hz|exact hN|exact hNl|exact hk0
theorem mqFX_all (N:List Nat)(k i z:Nat)(kd:Int)(s r:List UInt8)(x:UInt8)(hxl:x.toNat<256)(hi:i<k)(hz:((z0_ N).drop i).headD .any= .c (.int .i64 z))(hN:N.length=k)(hNl:(z0_ N).length=k)(hk:k≤1000000)(hzl:z≤1114111)(hkd:x5_ (z:Nat)=kd)(hk0:¬kd=0)(ht:u1_ (z:Nat)=(x::r))(hrl:r.length≤1000)(hsl:s.length≤3000000):x1_ Ext0 p_ e1_ (z1_ p_ 22 3) (mqS k i (mqZ (.c (.pointer none)) N)) (.normal) (mqS k (i+1) (mqWn (r.length+1) (x::r) N)):=by
  refine⟨⟨true,(bs [(13,true),(22,false)]++[(15,⟨.c (.int .i64 z),none⟩),(19,⟨.c (str ((x::r))),none⟩),(20,⟨.c (.int .i64 kd),none⟩)])⟩,_,60,⟨[],[4,10,11,12],[0,1,2]⟩,[decide ((↑i:Int)<↑k)=true,
 (0:Int)≤↑i,
 (↑i:Int)<↑k,
 (((0:Nat):Nat)<((List.drop (i+(0:Nat)) (z0_ N)).length)),
 y0_ ((List.drop (i+(0:Nat)) (z0_ N)).headD AV.any) ((AV.c ((Value.int .i64 ((↑z:Int)))))),
 (-9223372036854775808:Int)≤↑z,
 (↑z:Int)≤9223372036854775807,
 ((u1_ (↑z:Int):List UInt8))=(x::r),
 ((x5_ (↑z:Int):Int))=(kd),
 (kd==(0:Int))=false,
 (((x::r).length:Nat)≤((140737488355328:Nat))),
 (i64.min:Int)≤↑i+1,
 (↑i+1:Int)≤i64.max],z4_,by decide,by kernel_rfl,?_⟩
  all_goals try simp(disch:=omega) only[std,Nat.add_zero,hz,List.length_drop,hNl]
  all_goals repeat' apply And.intro
  all_goals first|exact True.intro|omega|with_reducible (first|rfl|assumption)|exact hkd|exact ht|rfl|exact hz|exact hN|exact hNl|exact hk0
theorem mqEX_all (N:List Nat)(k i z:Nat)(kd:Int)(s r:List UInt8)(x:UInt8)(hxl:x.toNat<256)(hi:i<k)(hz:((z0_ N).drop i).headD .any= .c (.int .i64 z))(hN:N.length=k)(hNl:(z0_ N).length=k)(hk:k≤1000000)(hzl:z≤1114111)(hkd:x5_ (z:Nat)=kd)(hk0:¬kd=0)(ht:u1_ (z:Nat)=(x::r))(hrl:r.length≤1000)(hsl:s.length≤3000000):x1_ Ext0 p_ e1_ (z1_ p_ 22 3) (mqS k i (mqZ (.pt 0 0) N)) (.normal) (mqS k (i+1) (mqWn (r.length+1) (x::r) N)):=by
  refine⟨⟨true,(bs [(13,true),(22,false)]++[(15,⟨.c (.int .i64 z),none⟩),(19,⟨.c (str ((x::r))),none⟩),(20,⟨.c (.int .i64 kd),none⟩)])⟩,_,60,⟨[],[4,10,11,12],[0,1,2]⟩,[decide ((↑i:Int)<↑k)=true,
 (0:Int)≤↑i,
 (↑i:Int)<↑k,
 (((0:Nat):Nat)<((List.drop (i+(0:Nat)) (z0_ N)).length)),
 y0_ ((List.drop (i+(0:Nat)) (z0_ N)).headD AV.any) ((AV.c ((Value.int .i64 ((↑z:Int)))))),
 (-9223372036854775808:Int)≤↑z,
 (↑z:Int)≤9223372036854775807,
 ((u1_ (↑z:Int):List UInt8))=(x::r),
 ((x5_ (↑z:Int):Int))=(kd),
 (kd==(0:Int))=false,
 (((x::r).length:Nat)≤((140737488355328:Nat))),
 (i64.min:Int)≤↑i+1,
 (↑i+1:Int)≤i64.max],z4_,by decide,by kernel_rfl,?_⟩
  all_goals try simp(disch:=omega) only[std,Nat.add_zero,hz,List.length_drop,hNl]
  all_goals repeat' apply And.intro
  all_goals first|exact True.intro|omega|with_reducible (first|rfl|assumption)|exact hkd|exact ht|rfl|exact hz|exact hN|exact hNl|exact hk0
theorem mqWX_all (N:List Nat)(k i z:Nat)(kd:Int)(s r:List UInt8)(x:UInt8)(hb:List.take s.length (z6_ s)++z6_ (x::r)=z6_ (s++x::r))(hbl:(z6_ s).length=s.length)(hi:i<k)(hz:((z0_ N).drop i).headD .any= .c (.int .i64 z))(hN:N.length=k)(hNl:(z0_ N).length=k)(hk:k≤1000000)(hzl:z≤1114111)(hkd:x5_ (z:Nat)=kd)(hk0:¬kd=0)(ht:u1_ (z:Nat)=(x::r))(hrl:r.length≤1000)(hsl:s.length≤3000000):x1_ Ext0 p_ e1_ (z1_ p_ 22 3) (mqS k i (mqWn s.length s N)) (.normal) (mqS k (i+1) (mqWn (s.length+(r.length+1)) (s++x::r) N)):=by
  refine⟨⟨true,(bs [(13,true),(22,false)]++[(15,⟨.c (.int .i64 z),none⟩),(19,⟨.c (str ((x::r))),none⟩),(20,⟨.c (.int .i64 kd),none⟩)])⟩,_,60,⟨[],[4,10,11,12],[0,1,3]⟩,[decide ((↑i:Int)<↑k)=true,
 (0:Int)≤↑i,
 (↑i:Int)<↑k,
 (((0:Nat):Nat)<((List.drop (i+(0:Nat)) (z0_ N)).length)),
 y0_ ((List.drop (i+(0:Nat)) (z0_ N)).headD AV.any) ((AV.c ((Value.int .i64 ((↑z:Int)))))),
 (-9223372036854775808:Int)≤↑z,
 (↑z:Int)≤9223372036854775807,
 ((u1_ (↑z:Int):List UInt8))=(x::r),
 ((x5_ (↑z:Int):Int))=(kd),
 (kd==(0:Int))=false,
 ((s.length:Nat)≤((z6_ s).length)),
 ((s.length+(x::r).length:Nat)≤((140737488355328:Nat))),
 (i64.min:Int)≤↑i+1,
 (↑i+1:Int)≤i64.max],z4_,by decide,Eq.trans (b:=some ((.normal:Exit),⟨frame 27 [(4,(AV.pt 0 0)),(10,(AV.sl 1 0 k)),(11,(AV.c ((Value.int .i64 ((↑k:Int)))))),(12,(AV.c ((Value.int .i64 ((↑i:Int)+(1:Int))))))],[(.some ⟨56,true,[(AV.pt 0 0),
 (AV.sl 2 0 (s.length+(x::r).length))]⟩),
 (.some ⟨3,false,(z0_ N)⟩),
 (.some ⟨5,false,(List.take s.length (z6_ s)++z6_ (x::r))⟩)]⟩,_)) (by kernel_rfl) (congrArg (fun S:St=>some ((.normal:Exit),S,_)) (by first|rfl|(simp(disch:=omega) only[std,Nat.add_zero,hz,List.length_drop,hNl,hb,hbl];first|done|rfl))),?_⟩
  all_goals try simp(disch:=omega) only[std,Nat.add_zero,hz,List.length_drop,hNl,hb,hbl]
  all_goals repeat' apply And.intro
  all_goals first|exact True.intro|omega|with_reducible (first|rfl|assumption)|exact hkd|exact ht|rfl|exact hb|exact hbl|exact hz|exact hN|exact hNl|exact hk0
theorem mqzF_all (N:List Nat)(k i:Nat)(s:List UInt8)(hi:i=k):x1_ Ext0 p_ e1_ (z1_ p_ 22 3) (mqS k i (mqZ (.c (.pointer none)) N)) (.exit 0) (mqE ([some ⟨56,true,[.c (.pointer none),.c (.slice none 0 0)]⟩])):=by
  refine⟨⟨true,(bs [(13,false)])⟩,_,60,⟨[],[4],[0]⟩,[decide ((↑i:Int)<↑k)=false],z4_,by decide,by kernel_rfl,?_⟩
  all_goals try simp(disch:=omega) only[std]
  all_goals repeat' apply And.intro
  all_goals first|exact True.intro|omega|with_reducible (first|rfl|assumption)|exact hi|rfl
theorem mqnF_all (N:List Nat)(k i z:Nat)(s:List UInt8)(hi:i<k)(hz:((z0_ N).drop i).headD .any= .c (.int .i64 z))(hN:N.length=k)(hNl:(z0_ N).length=k)(hk:k≤1000000)(hzl:z≤1114111)(hkd:x5_ (z:Nat)=0):x1_ Ext0 p_ e1_ (z1_ p_ 22 3) (mqS k i (mqZ (.c (.pointer none)) N)) (.ret) (mqF):=by
  refine⟨⟨true,(bs [(13,true),(22,true)]++[(15,⟨.c (.int .i64 z),none⟩)])⟩,_,60,⟨[],[2,3],[]⟩,[decide ((↑i:Int)<↑k)=true,
 (0:Int)≤↑i,
 (↑i:Int)<↑k,
 (((0:Nat):Nat)<((List.drop (i+(0:Nat)) (z0_ N)).length)),
 y0_ ((List.drop (i+(0:Nat)) (z0_ N)).headD AV.any) ((AV.c ((Value.int .i64 ((↑z:Int)))))),
 (-9223372036854775808:Int)≤↑z,
 (↑z:Int)≤9223372036854775807,
 (x5_ (↑z:Int)==(0:Int))=true],z4_,by decide,by kernel_rfl,?_⟩
  all_goals try simp(disch:=omega) only[std,Nat.add_zero,hz,List.length_drop,hNl]
  all_goals repeat' apply And.intro
  all_goals first|exact True.intro|omega|with_reducible (first|rfl|assumption)|exact hkd|exact hz|exact hN|exact hNl|rfl
theorem mqzE_all (N:List Nat)(k i:Nat)(s:List UInt8)(hi:i=k):x1_ Ext0 p_ e1_ (z1_ p_ 22 3) (mqS k i (mqZ (.pt 0 0) N)) (.exit 0) (mqE ([some ⟨56,true,[.pt 0 0,.c (.slice none 0 0)]⟩])):=by
  refine⟨⟨true,(bs [(13,false)])⟩,_,60,⟨[],[4],[0]⟩,[decide ((↑i:Int)<↑k)=false],z4_,by decide,by kernel_rfl,?_⟩
  all_goals try simp(disch:=omega) only[std]
  all_goals repeat' apply And.intro
  all_goals first|exact True.intro|omega|with_reducible (first|rfl|assumption)|exact hi|rfl
theorem mqnE_all (N:List Nat)(k i z:Nat)(s:List UInt8)(hi:i<k)(hz:((z0_ N).drop i).headD .any= .c (.int .i64 z))(hN:N.length=k)(hNl:(z0_ N).length=k)(hk:k≤1000000)(hzl:z≤1114111)(hkd:x5_ (z:Nat)=0):x1_ Ext0 p_ e1_ (z1_ p_ 22 3) (mqS k i (mqZ (.pt 0 0) N)) (.ret) (mqF):=by
  refine⟨⟨true,(bs [(13,true),(22,true)]++[(15,⟨.c (.int .i64 z),none⟩)])⟩,_,60,⟨[],[2,3],[]⟩,[decide ((↑i:Int)<↑k)=true,
 (0:Int)≤↑i,
 (↑i:Int)<↑k,
 (((0:Nat):Nat)<((List.drop (i+(0:Nat)) (z0_ N)).length)),
 y0_ ((List.drop (i+(0:Nat)) (z0_ N)).headD AV.any) ((AV.c ((Value.int .i64 ((↑z:Int)))))),
 (-9223372036854775808:Int)≤↑z,
 (↑z:Int)≤9223372036854775807,
 (x5_ (↑z:Int)==(0:Int))=true],z4_,by decide,by kernel_rfl,?_⟩
  all_goals try simp(disch:=omega) only[std,Nat.add_zero,hz,List.length_drop,hNl]
  all_goals repeat' apply And.intro
  all_goals first|exact True.intro|omega|with_reducible (first|rfl|assumption)|exact hkd|exact hz|exact hN|exact hNl|rfl
theorem mqzW_all (N:List Nat)(k i:Nat)(s:List UInt8)(hi:i=k):x1_ Ext0 p_ e1_ (z1_ p_ 22 3) (mqS k i (mqWn s.length s N)) (.exit 0) (mqE ([some ⟨56,true,[.pt 0 0,.sl 1 0 s.length]⟩,some ⟨5,false,z6_ s⟩])):=by
  refine⟨⟨true,(bs [(13,false)])⟩,_,60,⟨[],[4],[0,2]⟩,[decide ((↑i:Int)<↑k)=false],z4_,by decide,by kernel_rfl,?_⟩
  all_goals try simp(disch:=omega) only[std]
  all_goals repeat' apply And.intro
  all_goals first|exact True.intro|omega|with_reducible (first|rfl|assumption)|exact hi|rfl
theorem mqnW_all (N:List Nat)(k i z:Nat)(s:List UInt8)(hi:i<k)(hz:((z0_ N).drop i).headD .any= .c (.int .i64 z))(hN:N.length=k)(hNl:(z0_ N).length=k)(hk:k≤1000000)(hzl:z≤1114111)(hkd:x5_ (z:Nat)=0):x1_ Ext0 p_ e1_ (z1_ p_ 22 3) (mqS k i (mqWn s.length s N)) (.ret) (mqF):=by
  refine⟨⟨true,(bs [(13,true),(22,true)]++[(15,⟨.c (.int .i64 z),none⟩)])⟩,_,60,⟨[],[2,3],[]⟩,[decide ((↑i:Int)<↑k)=true,
 (0:Int)≤↑i,
 (↑i:Int)<↑k,
 (((0:Nat):Nat)<((List.drop (i+(0:Nat)) (z0_ N)).length)),
 y0_ ((List.drop (i+(0:Nat)) (z0_ N)).headD AV.any) ((AV.c ((Value.int .i64 ((↑z:Int)))))),
 (-9223372036854775808:Int)≤↑z,
 (↑z:Int)≤9223372036854775807,
 (x5_ (↑z:Int)==(0:Int))=true],z4_,by decide,by kernel_rfl,?_⟩
  all_goals try simp(disch:=omega) only[std,Nat.add_zero,hz,List.length_drop,hNl]
  all_goals repeat' apply And.intro
  all_goals first|exact True.intro|omega|with_reducible (first|rfl|assumption)|exact hkd|exact hz|exact hN|exact hNl|rfl
def mqH (i:Nat)(s:List UInt8)(N:List Nat):Heap:=match s with
  | []=>if i=0 then mqZ (.c (.pointer none)) N else mqZ (.pt 0 0) N
  |_::_=>mqWn s.length s N
theorem mqH_ne {s:List UInt8}(h:s≠[])(i:Nat)(N:List Nat):mqH i s N=mqWn s.length s N:=by
  cases s with
  |nil=>exact absurd rfl h
  |cons c r=>rfl
theorem mq_step (N:List Nat)(i z:Nat)(s:List UInt8)(hi:i<N.length)(hk:N.length≤1000000)(hz:N.getD i 0=z)(hzl:z≤1114111)(hk0:x5_ (z:Nat)≠0)(hs:s.length≤3000000):
    x1_ Ext0 p_ e1_ (z1_ p_ 22 3) (mqS N.length i (mqH i s N)) .normal (mqS N.length (i+1) (mqH (i+1) (s++u1_ (z:Nat)) N)):=by
  have ha:((z0_ N).drop i).headD .any= .c (.int .i64 z):=by rw[h7_ N i hi,hz]
  have hl:=y7_ N
  have htl:=textZ_len (z:Nat)
  have h0:((0:UInt8)).toNat<256:=by decide
  cases ht:u1_ (z:Nat)with
  |nil=>
   rw[List.append_nil]
   cases s with
   |nil=>
    by_cases h:i=0
    ·subst h
     exact mqFE_all N N.length 0 z _ [] [] 0 h0 hi ha rfl hl hk hzl rfl hk0 ht (by simp) (by simp)
    ·rw[show mqH i [] N=mqZ (.pt 0 0) N from if_neg h]
     exact mqEE_all N N.length i z _ [] [] 0 h0 hi ha rfl hl hk hzl rfl hk0 ht (by simp) (by simp)
   |cons y q=>exact mqWE_all N N.length i z _ (y::q) [] 0 (c3_ _) (w0_ _) rfl hi ha rfl hl hk hzl rfl hk0 ht (by simp) hs
  |cons x r=>
   rw[ht,List.length_cons]at htl
   have hx:x.toNat<256:=UInt8.toNat_lt _
   cases s with
   |nil=>
    rw[List.nil_append]
    by_cases h:i=0
    ·subst h
     exact mqFX_all N N.length 0 z _ [] r x hx hi ha rfl hl hk hzl rfl hk0 ht (by omega) (by simp)
    ·rw[show mqH i [] N=mqZ (.pt 0 0) N from if_neg h]
     exact mqEX_all N N.length i z _ [] r x hx hi ha rfl hl hk hzl rfl hk0 ht (by omega) (by simp)
   |cons y q=>
    rw[mqH_ne (by simp),mqH_ne (by simp),show(y::q++x::r).length=(y::q).length+(r.length+1)by rw[List.length_append];rfl]
    exact mqWX_all N N.length i z _ (y::q) r x (by rw[c3_,←h1_]) (w0_ _) hi ha rfl hl hk hzl rfl hk0 ht (by omega) hs
def mqT (N:List Nat):List UInt8:=join (N.flatMap n8_)
theorem mqT_len (N:List Nat):(mqT N).length≤12*N.length:=by
  have h1:=out_len N
  have h2:=l4_ (N.flatMap n8_)
  unfold mqT
  omega
def mqB (N:List Nat):Bool:=N.all fun c=>r6_ c !=0
def mqX (N:List Nat):Heap:=match mqT N with
  | []=>if N.length=0 then [some ⟨56,true,[.c (.pointer none),.c (.slice none 0 0)]⟩]else [some ⟨56,true,[.pt 0 0,.c (.slice none 0 0)]⟩]
  |_::_=>[some ⟨56,true,[.pt 0 0,.sl 1 0 (mqT N).length]⟩,some ⟨5,false,z6_ (mqT N)⟩]
theorem mq_walk (N:List Nat)(hk:N.length≤200000)(hN:∀c∈N,okC c):Tri Ext0 p_ (.loop (z1_ p_ 22 3)) (mqS N.length 0 (mqZ (.c (.pointer none)) N)) (if mqB N=true then .exit 0 else .ret) (if mqB N=true then mqE (mqX N)else mqF):=by
  refine n9_ mixed clMd_ok (fun i=>mqS N.length i (mqH i (mqT (N.take i)) N)) (fun i=>i≤N.length∧mqB (N.take i)=true) (fun i=>N.length-i) (fun i hx=>?_) 0 ⟨Nat.zero_le _,rfl⟩
  obtain⟨h1,h2⟩:=hx
  have hlen:=mqT_len (N.take i)
  rw[List.length_take]at hlen
  by_cases hi:i<N.length
  ·have hc:okC (N.getD i 0):=by
     have e:N[i]=N.getD i 0:=by simp[List.getD,hi]
     rw[←e];exact hN _ (List.getElem_mem _)
   have hc2:N.getD i 0≤1114111:=by unfold okC at hc;omega
   have hb:mqB (N.take (i+1))=(mqB (N.take i)&&r6_ (N.getD i 0) !=0):=take_all N i hi
   by_cases hz:r6_ (N.getD i 0)=0
   ·have:mqB N=false:=by
      have e:mqB (N.take (i+1))=false:=by rw[hb,hz];simp
      unfold mqB at*
      rw[←List.take_append_drop (i+1) N,List.all_append,e,Bool.false_and]
    rw[this]
    have ha:((z0_ N).drop i).headD .any= .c (.int .i64 (N.getD i 0:Nat)):=h7_ N i hi
    have hkd:x5_ (N.getD i 0:Nat)=0:=by rw[e8_,hz];rfl
    refine .inr ⟨by simp,?_⟩
    cases hs:mqT (N.take i)with
    |nil=>
     by_cases h:i=0
     ·rw[show mqH i [] N=mqZ (.c (.pointer none)) N from if_pos h]
      exact mqnF_all N N.length i _ [] hi ha rfl (y7_ N) (by omega) hc2 hkd
     ·rw[show mqH i [] N=mqZ (.pt 0 0) N from if_neg h]
      exact mqnE_all N N.length i _ [] hi ha rfl (y7_ N) (by omega) hc2 hkd
    |cons y q=>
     exact mqnW_all N N.length i _ (y::q) hi ha rfl (y7_ N) (by omega) hc2 hkd
   ·refine .inl ⟨i+1,⟨hi,by rw[hb,h2];simpa using hz⟩,by omega,?_⟩
    have hkd:x5_ (N.getD i 0:Nat)≠0:=by rw[e8_];omega
    have e:mqT (N.take (i+1))=mqT (N.take i)++u1_ (N.getD i 0:Nat):=by
      unfold mqT
      rw[take_map N i hi,a8_,text_nat hz]
    rw[e]
    exact mq_step N i _ _ hi (by omega) rfl hc2 hkd (by omega)
  ·have he:i=N.length:=by omega
   subst he
   rw[List.take_length]at*
   rw[h2]
   refine .inr ⟨by simp,?_⟩
   show x1_ _ _ _ _ _ _ (mqE (mqX N))
   unfold mqX
   cases hs:mqT N with
   |nil=>
    by_cases h:N.length=0
    ·simp only
     rw[show mqH N.length [] N=mqZ (.c (.pointer none)) N from if_pos h,if_pos h]
     exact mqzF_all N N.length N.length [] rfl
    ·simp only
     rw[show mqH N.length [] N=mqZ (.pt 0 0) N from if_neg h,if_neg h]
     exact mqzE_all N N.length N.length [] rfl
   |cons y q=>exact mqzW_all N N.length N.length (y::q) rfl
def mqY (a:AV)(C:List AV):Heap:=[some ⟨56,true,[a,.c (.slice none 0 0)]⟩,some ⟨3,false,C⟩]
noncomputable def mqLp (M:List Nat)(e:Exit)(R:St):List (Nat×Lp):=[(3,⟨z1_ p_ 22 3,⟨[],[4,10,11,12],[0,1]⟩,mqS (z9_ M).length 0 (mqY (.c (.pointer none)) (ints (z9_ M))),e,R⟩)]
theorem mqmN_all (l t:List UInt8)(hl:l.length≤1000000000):∃(h:Hints) (p:List Prop),y3_ p_ 22 (z8_ p_ e1_ h (y1_ (mqLp (z3_ l) (.ret) (mqF))) 60 22 ([.c (str l)]) ([]))=some (.tu [.c (str []),.c (.bool false)],p)∧z7_ p:=by
  refine⟨⟨true,bs []⟩,[((l.length:Nat)≤((1000000000:Nat))),
 ((z1_ p_ (22:FuncId) (3:Nat):Go.Code))=(z1_ p_ (22:FuncId) (3:Nat)),
 ((mqS (z9_ (z3_ l)).length (0:Nat) (mqY (AV.c (Value.pointer none)) (ints (z9_ (z3_ l)))):St))=(mqS (z9_ (z3_ l)).length (0:Nat) (mqY (AV.c (Value.pointer none)) (ints (z9_ (z3_ l)))))],by kernel_rfl,?_⟩
  all_goals try simp(disch:=omega) only[std,List.length_nil]
  all_goals repeat' apply And.intro
  all_goals first|exact True.intro|omega|with_reducible (first|rfl|assumption)|exact hbo|rfl
theorem mqmF_all (l t:List UInt8)(hl:l.length≤1000000000):∃(h:Hints) (p:List Prop),y3_ p_ 22 (z8_ p_ e1_ h (y1_ (mqLp (z3_ l) (.exit 0) (mqE [some ⟨56,true,[.c (.pointer none),.c (.slice none 0 0)]⟩]))) 60 22 ([.c (str l)]) ([]))=some (.tu [.c (str []),.c (.bool true)],p)∧z7_ p:=by
  refine⟨⟨true,bs []⟩,[((l.length:Nat)≤((1000000000:Nat))),
 ((z1_ p_ (22:FuncId) (3:Nat):Go.Code))=(z1_ p_ (22:FuncId) (3:Nat)),
 ((mqS (z9_ (z3_ l)).length (0:Nat) (mqY (AV.c (Value.pointer none)) (ints (z9_ (z3_ l)))):St))=(mqS (z9_ (z3_ l)).length (0:Nat) (mqY (AV.c (Value.pointer none)) (ints (z9_ (z3_ l)))))],by kernel_rfl,?_⟩
  all_goals try simp(disch:=omega) only[std,List.length_nil]
  all_goals repeat' apply And.intro
  all_goals first|exact True.intro|omega|with_reducible (first|rfl|assumption)|exact hbo|rfl
theorem mqmE_all (l t:List UInt8)(hl:l.length≤1000000000):∃(h:Hints) (p:List Prop),y3_ p_ 22 (z8_ p_ e1_ h (y1_ (mqLp (z3_ l) (.exit 0) (mqE [some ⟨56,true,[.pt 0 0,.c (.slice none 0 0)]⟩]))) 60 22 ([.c (str l)]) ([]))=some (.tu [.c (str []),.c (.bool true)],p)∧z7_ p:=by
  refine⟨⟨true,bs []⟩,[((l.length:Nat)≤((1000000000:Nat))),
 ((z1_ p_ (22:FuncId) (3:Nat):Go.Code))=(z1_ p_ (22:FuncId) (3:Nat)),
 ((mqS (z9_ (z3_ l)).length (0:Nat) (mqY (AV.c (Value.pointer none)) (ints (z9_ (z3_ l)))):St))=(mqS (z9_ (z3_ l)).length (0:Nat) (mqY (AV.c (Value.pointer none)) (ints (z9_ (z3_ l)))))],by kernel_rfl,?_⟩
  all_goals try simp(disch:=omega) only[std,List.length_nil]
  all_goals repeat' apply And.intro
  all_goals first|exact True.intro|omega|with_reducible (first|rfl|assumption)|exact hbo|rfl
theorem mqmW_all (l t:List UInt8)(hl:l.length≤1000000000)(ht:0<t.length)(htl:t.length≤100000000)(hb:x8_ (List.take t.length (z6_ t))=t)(hbo:u4_ (List.take t.length (z6_ t)))(hbl:(z6_ t).length=t.length):∃(h:Hints) (p:List Prop),y3_ p_ 22 (z8_ p_ e1_ h (y1_ (mqLp (z3_ l) (.exit 0) (mqE [some ⟨56,true,[.pt 0 0,.sl 1 0 t.length]⟩,some ⟨5,false,z6_ t⟩]))) 60 22 ([.c (str l)]) ([]))=some (.tu [.c (str t),.c (.bool true)],p)∧z7_ p:=by
  refine⟨⟨true,bs []⟩,[((l.length:Nat)≤((1000000000:Nat))),
 ((z1_ p_ (22:FuncId) (3:Nat):Go.Code))=(z1_ p_ (22:FuncId) (3:Nat)),
 ((mqS (z9_ (z3_ l)).length (0:Nat) (mqY (AV.c (Value.pointer none)) (ints (z9_ (z3_ l)))):St))=(mqS (z9_ (z3_ l)).length (0:Nat) (mqY (AV.c (Value.pointer none)) (ints (z9_ (z3_ l))))),
 (((0:Nat):Nat)<(t.length)),
 ((t.length:Nat)≤((z6_ t).length)),
 u4_ (List.take t.length (z6_ t)),
 ((t.length:Nat)≤((4611686018427387904:Nat)))],Eq.trans (b:=some ((AV.tu [(AV.c ((str (x8_ (List.take t.length (z6_ t)))))),
 (AV.c ((Value.bool true)))]),_)) (by kernel_rfl) (congrArg (fun r=>some (r,_)) (by first|rfl|(simp(disch:=omega) only[std,hb,hbl];first|done|rfl))),?_⟩
  all_goals try simp(disch:=omega) only[std,hb,hbl]
  all_goals repeat' apply And.intro
  all_goals first|exact True.intro|omega|with_reducible (first|rfl|assumption)|exact hbo|exact hb|exact hbl|rfl
def mpSpec:Spec
  | [.c (.string s)]=>some (.tu [.c (str ((r0_ (z3_ (sb s))).map join |>.getD [])),.c (.bool (r0_ (z3_ (sb s))).isSome)],[(sb s).length≤200000])
  |_=>none
theorem mapped_ok:w2_ p_ 22 mpSpec:=by
  refine v5_ mixed clMd_ok fun args r q hs hq=>?_
  unfold mpSpec at hs
  split at hs
  ·rename_i s
   simp only[oi_]at hs
   obtain⟨rfl,rfl⟩:=hs
   obtain⟨⟨⟨l⟩⟩,rfl⟩:∃b:ByteArray,b=s:=⟨s,rfl⟩
   obtain⟨hl,_⟩:=hq
   have hl:l.length≤200000:=hl
   have hsl:=signs_len l
   have w:=mq_walk (z3_ l) (by omega) (U8.g7_ l)
   have hE:mqS (z3_ l).length 0 (mqZ (.c (.pointer none)) (z3_ l))=mqS (z9_ (z3_ l)).length 0 (mqY (.c (.pointer none)) (ints (z9_ (z3_ l)))):=by
     rw[ints_natI,m3_];rfl
   rw[hE]at w
   have nd:[0,1].Nodup:=by decide
   have hlen:=mqT_len (z3_ l)
   show ∃hs lp fuel p,_∧y3_ _ _ _=some (AV.tu [.c (str (((r0_ (z3_ l)).map join).getD [])),.c (.bool (r0_ (z3_ l)).isSome)],p)∧_
   unfold r0_
   cases hb:mqB (z3_ l)with
   |false=>
    rw[if_neg (by rw[show((z3_ l).all fun c=>r6_ c !=0)=false from hb];simp)]
    rw[hb]at w
    obtain⟨hh,q,e,hp⟩:=mqmN_all l [] (by omega)
    exact⟨_,_,_,_,x4_ z4_ nd w,e,hp⟩
   |true=>
    rw[if_pos (show((z3_ l).all fun c=>r6_ c !=0)=true from hb)]
    rw[hb]at w
    simp only[if_true]at w
    show ∃hs lp fuel p,_∧y3_ _ _ _=some (AV.tu [.c (str (mqT (z3_ l))),.c (.bool true)],p)∧_
    unfold mqX at w
    cases ht:mqT (z3_ l)with
    |nil=>
     rw[ht]at w
     simp only at w
     by_cases h:(z3_ l).length=0
     ·rw[if_pos h]at w
      obtain⟨hh,q,e,hp⟩:=mqmF_all l [] (by omega)
      exact⟨_,_,_,_,x4_ z4_ nd w,e,hp⟩
     ·rw[if_neg h]at w
      obtain⟨hh,q,e,hp⟩:=mqmE_all l [] (by omega)
      exact⟨_,_,_,_,x4_ z4_ nd w,e,hp⟩
    |cons y q=>
     rw[ht]at w hlen
     simp only at w
     obtain⟨t1,t2,t3⟩:=str_facts (y::q) (by simp)
     obtain⟨hh,q',e,hp⟩:=mqmW_all l (y::q) (by omega) t1 (by omega) t2 t3 (w0_ _)
     exact⟨_,_,_,_,x4_ z4_ nd w,e,hp⟩
  ·simp at hs
end Go.Proofs.YtmjldphagbobpaaDoor
