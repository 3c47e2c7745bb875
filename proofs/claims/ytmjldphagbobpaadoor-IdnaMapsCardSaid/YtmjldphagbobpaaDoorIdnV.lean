import Derived.Test.YtmjldphagbobpaaDoorIdnE
set_option linter.unusedVariables false
set_option linter.unusedSimpArgs false
namespace Go.Proofs.YtmjldphagbobpaaDoor
open IntKind (i64 u8 i32 u32 u64)
open _root_.Go.Proofs.Tryd renaming prog→p_
open Go.RowKit U8 Idn
set_option maxHeartbeats 4000000
def idinSpec:Spec
  | [.c (.int .i64 c),.c (.int .i64 a),.c (.int .i64 b)]=>some (.c (.bool (decide (a≤c∧c≤b))),[])
  |_=>none
theorem idin_all (c a z:Int):∃(h:Hints) (p:List Prop),y3_ p_ 33 (z8_ p_ cl0 h (y1_ ([])) 60 33 ([.c (.int .i64 c),.c (.int .i64 a),.c (.int .i64 z)]) ([]))=some (.c (.bool (decide (a≤c∧c≤z))),p)∧z7_ p:=by
  refine v0_ (decide (a≤c)) (fun hc9=>⟨⟨true,bs [(9,true)]⟩,[decide ((a:Int)≤c)=true],Eq.trans (b:=some ((AV.c ((Value.bool (decide (c≤z))))),_)) (by kernel_rfl) (congrArg (fun r=>some (r,_)) ?_),?_⟩)
    (fun hc9=>⟨⟨true,bs [(9,false)]⟩,[decide ((a:Int)≤c)=false],Eq.trans (b:=some ((AV.c ((Value.bool false))),_)) (by kernel_rfl) (congrArg (fun r=>some (r,_)) ?_),?_⟩)
  all_goals try simp only[dz]at hc9
  any_goals(
    first|(refine congrArg (fun b=>AV.c (Value.bool b)) (decide_eq_decide.2 ?_);omega)|(rw[decide_eq_false (by omega)])
    done)
  all_goals try simp(disch:=omega) only[std]
  all_goals repeat' apply And.intro
  all_goals first|exact True.intro|omega|with_reducible (first|rfl|assumption)|rfl
theorem in_ok:w2_ p_ 33 idinSpec:=by
  refine v5_ mixed w6_ fun args r q hs hq=>?_
  unfold idinSpec at hs
  split at hs
  ·rename_i c a b
   simp only[oi_]at hs
   obtain⟨rfl,rfl⟩:=hs
   simp only[z7_,and_true]at hq ⊢
   obtain⟨hh,q,e,hp⟩:=idin_all c a b
   exact⟨_,_,_,_,z4_,e,hp⟩
  ·simp at hs
noncomputable def clIn:CallT:=l3_ p_ (r4_ [(33,idinSpec)]) 500 8
theorem clIn_ok:x7_ p_ clIn:=q7_ mixed (y8_ in_ok v2_) 500 8
def markSpec:Spec
  | [.c (.int .i64 c)]=>some (.c (.bool (decide (768≤c∧c≤879))),[])
  |_=>none
theorem idmk_all (c:Int):∃(h:Hints) (p:List Prop),y3_ p_ 26 (z8_ p_ clIn h (y1_ ([])) 60 26 ([.c (.int .i64 c)]) ([]))=some (.c (.bool (decide (768≤c∧c≤879))),p)∧z7_ p:=by
  refine⟨⟨true,bs []⟩,[],by kernel_rfl,?_⟩
  all_goals try simp(disch:=omega) only[std]
  all_goals repeat' apply And.intro
  all_goals first|exact True.intro|omega|with_reducible (first|rfl|assumption)|rfl
theorem mark_ok:w2_ p_ 26 markSpec:=by
  refine v5_ mixed clIn_ok fun args r q hs hq=>?_
  unfold markSpec at hs
  split at hs
  ·rename_i c
   simp only[oi_]at hs
   obtain⟨rfl,rfl⟩:=hs
   simp only[z7_,and_true]at hq ⊢
   obtain⟨hh,q,e,hp⟩:=idmk_all c
   exact⟨_,_,_,_,z4_,e,hp⟩
  ·simp at hs
def goneSpec:Spec
  | [.c (.int .i64 c)]=>some (.c (.bool (decide (k2_ c))),[])
  |_=>none
theorem idgn_all (c:Int):∃(h:Hints) (p:List Prop),y3_ p_ 19 (z8_ p_ cl0 h (y1_ ([])) 60 19 ([.c (.int .i64 c)]) ([]))=some (.c (.bool (decide (k2_ c))),p)∧z7_ p:=by
  refine v0_ (c==(173:Int)) (fun hc5=>⟨⟨true,bs [(5,true)]⟩,[(c==(173:Int))=true],Eq.trans (b:=some ((AV.c ((Value.bool true))),_)) (by kernel_rfl) (congrArg (fun r=>some (r,_)) ?_),?_⟩)
    (fun hc5=>v0_ (c==(8203:Int)) (fun hc6=>⟨⟨true,bs [(5,false),(6,true)]⟩,[(c==(173:Int))=false,
 (c==(8203:Int))=true],Eq.trans (b:=some ((AV.c ((Value.bool true))),_)) (by kernel_rfl) (congrArg (fun r=>some (r,_)) ?_),?_⟩)
   (fun hc6=>v0_ (c==(8288:Int)) (fun hc7=>⟨⟨true,bs [(5,false),(6,false),(7,true)]⟩,[(c==(173:Int))=false,
 (c==(8203:Int))=false,
 (c==(8288:Int))=true],Eq.trans (b:=some ((AV.c ((Value.bool true))),_)) (by kernel_rfl) (congrArg (fun r=>some (r,_)) ?_),?_⟩)
   (fun hc7=>v0_ (c==(65279:Int)) (fun hc8=>⟨⟨true,bs [(5,false),(6,false),(7,false),(8,true)]⟩,[(c==(173:Int))=false,
 (c==(8203:Int))=false,
 (c==(8288:Int))=false,
 (c==(65279:Int))=true],Eq.trans (b:=some ((AV.c ((Value.bool true))),_)) (by kernel_rfl) (congrArg (fun r=>some (r,_)) ?_),?_⟩)
   (fun hc8=>⟨⟨true,bs [(5,false),(6,false),(7,false),(8,false)]⟩,[(c==(173:Int))=false,
 (c==(8203:Int))=false,
 (c==(8288:Int))=false,
 (c==(65279:Int))=false],Eq.trans (b:=some ((AV.c ((Value.bool false))),_)) (by kernel_rfl) (congrArg (fun r=>some (r,_)) ?_),?_⟩))))
  all_goals try simp only[dz]at hc5
  all_goals try simp only[dz]at hc6
  all_goals try simp only[dz]at hc7
  all_goals try simp only[dz]at hc8
  any_goals(
    first|(rw[decide_eq_true (by unfold k2_;omega)])|(rw[decide_eq_false (by unfold k2_;omega)])
    done)
  all_goals try simp(disch:=omega) only[std]
  all_goals repeat' apply And.intro
  all_goals first|exact True.intro|omega|with_reducible (first|rfl|assumption)|rfl
theorem gone_ok:w2_ p_ 19 goneSpec:=by
  refine v5_ mixed w6_ fun args r q hs hq=>?_
  unfold goneSpec at hs
  split at hs
  ·rename_i c
   simp only[oi_]at hs
   obtain⟨rfl,rfl⟩:=hs
   simp only[z7_,and_true]at hq ⊢
   obtain⟨hh,q,e,hp⟩:=idgn_all c
   exact⟨_,_,_,_,z4_,e,hp⟩
  ·simp at hs
noncomputable def clVl:CallT:=l3_ p_ (r4_ [(33,idinSpec),(26,markSpec)]) 500 8
theorem clVl_ok:x7_ p_ clVl:=q7_ mixed (y8_ in_ok (y8_ mark_ok v2_)) 500 8
def validSpec:Spec
  | [.c (.int .i64 c)]=>some (.c (.bool (i5_ c)),[])
  |_=>none
theorem idvl_all (c:Int):∃(h:Hints) (p:List Prop),y3_ p_ 20 (z8_ p_ clVl h (y1_ ([])) 60 20 ([.c (.int .i64 c)]) ([]))=some (.c (.bool (i5_ c)),p)∧z7_ p:=by
  refine v0_ (decide ((0:Int)≤c∧c≤(127:Int))) (fun hc4=>⟨⟨true,bs [(4,true)]⟩,[(decide ((0:Int)≤c∧c≤(127:Int)))=true],Eq.trans (b:=some ((AV.c ((Value.bool true))),_)) (by kernel_rfl) (congrArg (fun r=>some (r,_)) ?_),?_⟩)
    (fun hc4=>v0_ (decide ((223:Int)≤c∧c≤(246:Int))) (fun hc7=>⟨⟨true,bs [(4,false),(7,true)]⟩,[(decide ((0:Int)≤c∧c≤(127:Int)))=false,
 (decide ((223:Int)≤c∧c≤(246:Int)))=true],Eq.trans (b:=some ((AV.c ((Value.bool true))),_)) (by kernel_rfl) (congrArg (fun r=>some (r,_)) ?_),?_⟩)
    (fun hc7=>v0_ (decide ((248:Int)≤c∧c≤(255:Int))) (fun hc11=>⟨⟨true,bs [(4,false),(7,false),(11,true)]⟩,[(decide ((0:Int)≤c∧c≤(127:Int)))=false,
 (decide ((223:Int)≤c∧c≤(246:Int)))=false,
 (decide ((248:Int)≤c∧c≤(255:Int)))=true],Eq.trans (b:=some ((AV.c ((Value.bool true))),_)) (by kernel_rfl) (congrArg (fun r=>some (r,_)) ?_),?_⟩)
    (fun hc11=>v0_ (decide ((257:Int)≤c∧c≤(303:Int))) (fun hc15=>⟨⟨true,bs [(4,false),(7,false),(11,false),(15,true)]⟩,[(decide ((0:Int)≤c∧c≤(127:Int)))=false,
 (decide ((223:Int)≤c∧c≤(246:Int)))=false,
 (decide ((248:Int)≤c∧c≤(255:Int)))=false,
 (decide ((257:Int)≤c∧c≤(303:Int)))=true],Eq.trans (b:=some ((AV.c ((Value.bool true))),_)) (by kernel_rfl) (congrArg (fun r=>some (r,_)) ?_),?_⟩)
    (fun hc15=>v0_ (decide ((768:Int)≤c∧c≤(879:Int))) (fun hc19=>⟨⟨true,bs [(4,false),(7,false),(11,false),(15,false),(19,true)]⟩,[(decide ((0:Int)≤c∧c≤(127:Int)))=false,
 (decide ((223:Int)≤c∧c≤(246:Int)))=false,
 (decide ((248:Int)≤c∧c≤(255:Int)))=false,
 (decide ((257:Int)≤c∧c≤(303:Int)))=false,
 (decide ((768:Int)≤c∧c≤(879:Int)))=true],Eq.trans (b:=some ((AV.c ((Value.bool true))),_)) (by kernel_rfl) (congrArg (fun r=>some (r,_)) ?_),?_⟩)
    (fun hc19=>v0_ (decide ((945:Int)≤c∧c≤(969:Int))) (fun hc23=>⟨⟨true,bs [(4,false),(7,false),(11,false),(15,false),(19,false),(23,true)]⟩,[(decide ((0:Int)≤c∧c≤(127:Int)))=false,
 (decide ((223:Int)≤c∧c≤(246:Int)))=false,
 (decide ((248:Int)≤c∧c≤(255:Int)))=false,
 (decide ((257:Int)≤c∧c≤(303:Int)))=false,
 (decide ((768:Int)≤c∧c≤(879:Int)))=false,
 (decide ((945:Int)≤c∧c≤(969:Int)))=true],Eq.trans (b:=some ((AV.c ((Value.bool true))),_)) (by kernel_rfl) (congrArg (fun r=>some (r,_)) ?_),?_⟩)
    (fun hc23=>v0_ (decide ((1072:Int)≤c∧c≤(1119:Int))) (fun hc27=>⟨⟨true,bs [(4,false),(7,false),(11,false),(15,false),(19,false),(23,false),(27,true)]⟩,[(decide ((0:Int)≤c∧c≤(127:Int)))=false,
 (decide ((223:Int)≤c∧c≤(246:Int)))=false,
 (decide ((248:Int)≤c∧c≤(255:Int)))=false,
 (decide ((257:Int)≤c∧c≤(303:Int)))=false,
 (decide ((768:Int)≤c∧c≤(879:Int)))=false,
 (decide ((945:Int)≤c∧c≤(969:Int)))=false,
 (decide ((1072:Int)≤c∧c≤(1119:Int)))=true],Eq.trans (b:=some ((AV.c ((Value.bool true))),_)) (by kernel_rfl) (congrArg (fun r=>some (r,_)) ?_),?_⟩)
    (fun hc27=>v0_ (decide ((12353:Int)≤c∧c≤(12438:Int))) (fun hc31=>⟨⟨true,bs [(4,false),(7,false),(11,false),(15,false),(19,false),(23,false),(27,false),(31,true)]⟩,[(decide ((0:Int)≤c∧c≤(127:Int)))=false,
 (decide ((223:Int)≤c∧c≤(246:Int)))=false,
 (decide ((248:Int)≤c∧c≤(255:Int)))=false,
 (decide ((257:Int)≤c∧c≤(303:Int)))=false,
 (decide ((768:Int)≤c∧c≤(879:Int)))=false,
 (decide ((945:Int)≤c∧c≤(969:Int)))=false,
 (decide ((1072:Int)≤c∧c≤(1119:Int)))=false,
 (decide ((12353:Int)≤c∧c≤(12438:Int)))=true],Eq.trans (b:=some ((AV.c ((Value.bool true))),_)) (by kernel_rfl) (congrArg (fun r=>some (r,_)) ?_),?_⟩)
    (fun hc31=>v0_ (decide ((12449:Int)≤c∧c≤(12538:Int))) (fun hc35=>⟨⟨true,bs [(4,false),(7,false),(11,false),(15,false),(19,false),(23,false),(27,false),(31,false),(35,true)]⟩,[(decide ((0:Int)≤c∧c≤(127:Int)))=false,
 (decide ((223:Int)≤c∧c≤(246:Int)))=false,
 (decide ((248:Int)≤c∧c≤(255:Int)))=false,
 (decide ((257:Int)≤c∧c≤(303:Int)))=false,
 (decide ((768:Int)≤c∧c≤(879:Int)))=false,
 (decide ((945:Int)≤c∧c≤(969:Int)))=false,
 (decide ((1072:Int)≤c∧c≤(1119:Int)))=false,
 (decide ((12353:Int)≤c∧c≤(12438:Int)))=false,
 (decide ((12449:Int)≤c∧c≤(12538:Int)))=true],Eq.trans (b:=some ((AV.c ((Value.bool true))),_)) (by kernel_rfl) (congrArg (fun r=>some (r,_)) ?_),?_⟩)
    (fun hc35=>v0_ (decide ((19968:Int)≤c∧c≤(40959:Int))) (fun hc39=>⟨⟨true,bs [(4,false),(7,false),(11,false),(15,false),(19,false),(23,false),(27,false),(31,false),(35,false),(39,true)]⟩,[(decide ((0:Int)≤c∧c≤(127:Int)))=false,
 (decide ((223:Int)≤c∧c≤(246:Int)))=false,
 (decide ((248:Int)≤c∧c≤(255:Int)))=false,
 (decide ((257:Int)≤c∧c≤(303:Int)))=false,
 (decide ((768:Int)≤c∧c≤(879:Int)))=false,
 (decide ((945:Int)≤c∧c≤(969:Int)))=false,
 (decide ((1072:Int)≤c∧c≤(1119:Int)))=false,
 (decide ((12353:Int)≤c∧c≤(12438:Int)))=false,
 (decide ((12449:Int)≤c∧c≤(12538:Int)))=false,
 (decide ((19968:Int)≤c∧c≤(40959:Int)))=true],Eq.trans (b:=some ((AV.c ((Value.bool true))),_)) (by kernel_rfl) (congrArg (fun r=>some (r,_)) ?_),?_⟩)
    (fun hc39=>v0_ (decide ((44032:Int)≤c∧c≤(55203:Int))) (fun hc43=>⟨⟨true,bs [(4,false),(7,false),(11,false),(15,false),(19,false),(23,false),(27,false),(31,false),(35,false),(39,false),(43,true)]⟩,[(decide ((0:Int)≤c∧c≤(127:Int)))=false,
 (decide ((223:Int)≤c∧c≤(246:Int)))=false,
 (decide ((248:Int)≤c∧c≤(255:Int)))=false,
 (decide ((257:Int)≤c∧c≤(303:Int)))=false,
 (decide ((768:Int)≤c∧c≤(879:Int)))=false,
 (decide ((945:Int)≤c∧c≤(969:Int)))=false,
 (decide ((1072:Int)≤c∧c≤(1119:Int)))=false,
 (decide ((12353:Int)≤c∧c≤(12438:Int)))=false,
 (decide ((12449:Int)≤c∧c≤(12538:Int)))=false,
 (decide ((19968:Int)≤c∧c≤(40959:Int)))=false,
 (decide ((44032:Int)≤c∧c≤(55203:Int)))=true],Eq.trans (b:=some ((AV.c ((Value.bool true))),_)) (by kernel_rfl) (congrArg (fun r=>some (r,_)) ?_),?_⟩)
    (fun hc43=>⟨⟨true,bs [(4,false),(7,false),(11,false),(15,false),(19,false),(23,false),(27,false),(31,false),(35,false),(39,false),(43,false)]⟩,[(decide ((0:Int)≤c∧c≤(127:Int)))=false,
 (decide ((223:Int)≤c∧c≤(246:Int)))=false,
 (decide ((248:Int)≤c∧c≤(255:Int)))=false,
 (decide ((257:Int)≤c∧c≤(303:Int)))=false,
 (decide ((768:Int)≤c∧c≤(879:Int)))=false,
 (decide ((945:Int)≤c∧c≤(969:Int)))=false,
 (decide ((1072:Int)≤c∧c≤(1119:Int)))=false,
 (decide ((12353:Int)≤c∧c≤(12438:Int)))=false,
 (decide ((12449:Int)≤c∧c≤(12538:Int)))=false,
 (decide ((19968:Int)≤c∧c≤(40959:Int)))=false,
 (decide ((44032:Int)≤c∧c≤(55203:Int)))=false],Eq.trans (b:=some ((AV.c ((Value.bool (decide ((127744:Int)≤c∧c≤(128511:Int)))))),_)) (by kernel_rfl) (congrArg (fun r=>some (r,_)) ?_),?_⟩)))))))))))
  all_goals try simp only[dz]at hc4
  all_goals try simp only[dz]at hc7
  all_goals try simp only[dz]at hc11
  all_goals try simp only[dz]at hc15
  all_goals try simp only[dz]at hc19
  all_goals try simp only[dz]at hc23
  all_goals try simp only[dz]at hc27
  all_goals try simp only[dz]at hc31
  all_goals try simp only[dz]at hc35
  all_goals try simp only[dz]at hc39
  all_goals try simp only[dz]at hc43
  any_goals(
    unfold i5_;first|(refine congrArg (fun b=>AV.c (Value.bool b)) (decide_eq_decide.2 ?_);unfold validP;omega)|(rw[decide_eq_true (by unfold validP;omega)])|(rw[decide_eq_false (by unfold validP;omega)])
    done)
  all_goals try simp(disch:=omega) only[std]
  all_goals repeat' apply And.intro
  all_goals first|exact True.intro|omega|with_reducible (first|rfl|assumption)|rfl
theorem valid_ok:w2_ p_ 20 validSpec:=by
  refine v5_ mixed clVl_ok fun args r q hs hq=>?_
  unfold validSpec at hs
  split at hs
  ·rename_i c
   simp only[oi_]at hs
   obtain⟨rfl,rfl⟩:=hs
   simp only[z7_,and_true]at hq ⊢
   obtain⟨hh,q,e,hp⟩:=idvl_all c
   exact⟨_,_,_,_,z4_,e,hp⟩
  ·simp at hs
def g5_ (c:Int):Int:=match toZ c with
  | [d]=>d
  |_=> -1
def othSpec:Spec
  | [.c (.int .i64 c)]=>some (.c (.int .i64 (g5_ c)),[-9223372036854775808≤c,c≤9223372036854775807])
  |_=>none
theorem oth_eq (c:Int):g5_ c=if(65≤c∧c≤90)∨(192≤c∧c≤214)∨(216≤c∧c≤222)∨(913≤c∧c≤929)∨(931≤c∧c≤937)∨(1040≤c∧c≤1071)then c+32
  else if(256≤c∧c≤302)∧c%2=0 then c+1 else if 1024≤c∧c≤1039 then c+80
  else if c=8228∨c=12290∨c=65377 then 46
  else if 9312≤c∧c≤9320 then c-9312+49 else if 65313≤c∧c≤65338 then c-65248+32 else if 65281≤c∧c≤65374 then c-65248
  else if 120782≤c∧c≤120831 then 48+(c-120782)%10 else-1:=by
  unfold g5_ toZ
  by_cases h1:(65≤c∧c≤90)∨(192≤c∧c≤214)∨(216≤c∧c≤222)∨(913≤c∧c≤929)∨(931≤c∧c≤937)∨(1040≤c∧c≤1071)
  ·rw[if_pos h1,if_pos h1]
  rw[if_neg h1,if_neg h1]
  by_cases h2:(256≤c∧c≤302)∧c%2=0
  ·rw[if_pos h2,if_pos h2]
  rw[if_neg h2,if_neg h2]
  by_cases h3:1024≤c∧c≤1039
  ·rw[if_pos h3,if_pos h3]
  rw[if_neg h3,if_neg h3]
  by_cases k:c=304
  ·subst k;rfl
  rw[if_neg k]
  clear k
  by_cases h4:c=8228∨c=12290∨c=65377
  ·rw[if_pos h4,if_pos h4]
  rw[if_neg h4,if_neg h4]
  by_cases k:c=8448
  ·subst k;rfl
  rw[if_neg k]
  clear k
  by_cases k:c=8453
  ·subst k;rfl
  rw[if_neg k]
  clear k
  by_cases h5:9312≤c∧c≤9320
  ·rw[if_pos h5,if_pos h5]
  rw[if_neg h5,if_neg h5]
  by_cases h6:65313≤c∧c≤65338
  ·rw[if_pos h6,if_pos h6]
  rw[if_neg h6,if_neg h6]
  by_cases h7:65281≤c∧c≤65374
  ·rw[if_pos h7,if_pos h7]
  rw[if_neg h7,if_neg h7]
  by_cases h8:120782≤c∧c≤120831
  ·rw[if_pos h8,if_pos h8]
  rw[if_neg h8,if_neg h8]
theorem idot_all (c:Int)(h1: -9223372036854775808≤c)(h2:c≤9223372036854775807):∃(h:Hints) (p:List Prop),y3_ p_ 18 (z8_ p_ clIn h (y1_ ([])) 60 18 ([.c (.int .i64 c)]) ([]))=some (.c (.int .i64 (g5_ c)),p)∧z7_ p:=by
  refine v0_ (decide ((65:Int)≤c∧c≤(90:Int))) (fun hc5=>⟨⟨true,bs [(5,true)]⟩,[(decide ((65:Int)≤c∧c≤(90:Int)))=true,
 (i64.min:Int)≤c+32,
 (c+32:Int)≤i64.max],Eq.trans (b:=some ((AV.c ((Value.int .i64 (c+(32:Int))))),_)) (by kernel_rfl) (congrArg (fun r=>some (r,_)) ?_),?_⟩)
   (fun hc5=>v0_ (decide ((192:Int)≤c∧c≤(214:Int))) (fun hc7=>⟨⟨true,bs [(5,false),(7,true)]⟩,[(decide ((65:Int)≤c∧c≤(90:Int)))=false,
 (decide ((192:Int)≤c∧c≤(214:Int)))=true,
 (i64.min:Int)≤c+32,
 (c+32:Int)≤i64.max],Eq.trans (b:=some ((AV.c ((Value.int .i64 (c+(32:Int))))),_)) (by kernel_rfl) (congrArg (fun r=>some (r,_)) ?_),?_⟩)
   (fun hc7=>v0_ (decide ((216:Int)≤c∧c≤(222:Int))) (fun hc9=>⟨⟨true,bs [(5,false),(7,false),(9,true)]⟩,[(decide ((65:Int)≤c∧c≤(90:Int)))=false,
 (decide ((192:Int)≤c∧c≤(214:Int)))=false,
 (decide ((216:Int)≤c∧c≤(222:Int)))=true,
 (i64.min:Int)≤c+32,
 (c+32:Int)≤i64.max],Eq.trans (b:=some ((AV.c ((Value.int .i64 (c+(32:Int))))),_)) (by kernel_rfl) (congrArg (fun r=>some (r,_)) ?_),?_⟩)
   (fun hc9=>v0_ (decide ((913:Int)≤c∧c≤(929:Int))) (fun hc11=>⟨⟨true,bs [(5,false),(7,false),(9,false),(11,true)]⟩,[(decide ((65:Int)≤c∧c≤(90:Int)))=false,
 (decide ((192:Int)≤c∧c≤(214:Int)))=false,
 (decide ((216:Int)≤c∧c≤(222:Int)))=false,
 (decide ((913:Int)≤c∧c≤(929:Int)))=true,
 (i64.min:Int)≤c+32,
 (c+32:Int)≤i64.max],Eq.trans (b:=some ((AV.c ((Value.int .i64 (c+(32:Int))))),_)) (by kernel_rfl) (congrArg (fun r=>some (r,_)) ?_),?_⟩)
   (fun hc11=>v0_ (decide ((931:Int)≤c∧c≤(937:Int))) (fun hc13=>⟨⟨true,bs [(5,false),(7,false),(9,false),(11,false),(13,true)]⟩,[(decide ((65:Int)≤c∧c≤(90:Int)))=false,
 (decide ((192:Int)≤c∧c≤(214:Int)))=false,
 (decide ((216:Int)≤c∧c≤(222:Int)))=false,
 (decide ((913:Int)≤c∧c≤(929:Int)))=false,
 (decide ((931:Int)≤c∧c≤(937:Int)))=true,
 (i64.min:Int)≤c+32,
 (c+32:Int)≤i64.max],Eq.trans (b:=some ((AV.c ((Value.int .i64 (c+(32:Int))))),_)) (by kernel_rfl) (congrArg (fun r=>some (r,_)) ?_),?_⟩)
   (fun hc13=>v0_ (decide ((1040:Int)≤c∧c≤(1071:Int))) (fun hc15=>⟨⟨true,bs [(5,false),(7,false),(9,false),(11,false),(13,false),(15,true)]⟩,[(decide ((65:Int)≤c∧c≤(90:Int)))=false,
 (decide ((192:Int)≤c∧c≤(214:Int)))=false,
 (decide ((216:Int)≤c∧c≤(222:Int)))=false,
 (decide ((913:Int)≤c∧c≤(929:Int)))=false,
 (decide ((931:Int)≤c∧c≤(937:Int)))=false,
 (decide ((1040:Int)≤c∧c≤(1071:Int)))=true,
 (i64.min:Int)≤c+32,
 (c+32:Int)≤i64.max],Eq.trans (b:=some ((AV.c ((Value.int .i64 (c+(32:Int))))),_)) (by kernel_rfl) (congrArg (fun r=>some (r,_)) ?_),?_⟩)
   (fun hc15=>v0_ (decide ((256:Int)≤c∧c≤(302:Int))) (fun hc20=>v0_ (c.tmod (2:Int)==(0:Int)) (fun hc24=>⟨⟨true,bs [(5,false),(7,false),(9,false),(11,false),(13,false),(15,false),(20,true),(24,true)]⟩,[(decide ((65:Int)≤c∧c≤(90:Int)))=false,
 (decide ((192:Int)≤c∧c≤(214:Int)))=false,
 (decide ((216:Int)≤c∧c≤(222:Int)))=false,
 (decide ((913:Int)≤c∧c≤(929:Int)))=false,
 (decide ((931:Int)≤c∧c≤(937:Int)))=false,
 (decide ((1040:Int)≤c∧c≤(1071:Int)))=false,
 (decide ((256:Int)≤c∧c≤(302:Int)))=true,
 (c.tmod (2:Int)==(0:Int))=true,
 (i64.min:Int)≤c+1,
 (c+1:Int)≤i64.max],Eq.trans (b:=some ((AV.c ((Value.int .i64 (c+(1:Int))))),_)) (by kernel_rfl) (congrArg (fun r=>some (r,_)) ?_),?_⟩)
   (fun hc24=>⟨⟨true,bs [(5,false),(7,false),(9,false),(11,false),(13,false),(15,false),(20,true),(24,false),(30,false),(35,false),(37,false),(39,false),(42,false),(48,false),(54,false),(59,false)]⟩,[(decide ((65:Int)≤c∧c≤(90:Int)))=false,
 (decide ((192:Int)≤c∧c≤(214:Int)))=false,
 (decide ((216:Int)≤c∧c≤(222:Int)))=false,
 (decide ((913:Int)≤c∧c≤(929:Int)))=false,
 (decide ((931:Int)≤c∧c≤(937:Int)))=false,
 (decide ((1040:Int)≤c∧c≤(1071:Int)))=false,
 (decide ((256:Int)≤c∧c≤(302:Int)))=true,
 (c.tmod (2:Int)==(0:Int))=false,
 (decide ((1024:Int)≤c∧c≤(1039:Int)))=false,
 (c==(8228:Int))=false,
 (c==(12290:Int))=false,
 (c==(65377:Int))=false,
 (decide ((9312:Int)≤c∧c≤(9320:Int)))=false,
 (decide ((65313:Int)≤c∧c≤(65338:Int)))=false,
 (decide ((65281:Int)≤c∧c≤(65374:Int)))=false,
 (decide ((120782:Int)≤c∧c≤(120831:Int)))=false],Eq.trans (b:=some ((AV.c ((Value.int .i64 (-1)))),_)) (by kernel_rfl) (congrArg (fun r=>some (r,_)) ?_),?_⟩))
    (fun hc20=>v0_ (decide ((1024:Int)≤c∧c≤(1039:Int))) (fun hc30=>⟨⟨true,bs [(5,false),(7,false),(9,false),(11,false),(13,false),(15,false),(20,false),(30,true)]⟩,[(decide ((65:Int)≤c∧c≤(90:Int)))=false,
 (decide ((192:Int)≤c∧c≤(214:Int)))=false,
 (decide ((216:Int)≤c∧c≤(222:Int)))=false,
 (decide ((913:Int)≤c∧c≤(929:Int)))=false,
 (decide ((931:Int)≤c∧c≤(937:Int)))=false,
 (decide ((1040:Int)≤c∧c≤(1071:Int)))=false,
 (decide ((256:Int)≤c∧c≤(302:Int)))=false,
 (decide ((1024:Int)≤c∧c≤(1039:Int)))=true,
 (i64.min:Int)≤c+80,
 (c+80:Int)≤i64.max],Eq.trans (b:=some ((AV.c ((Value.int .i64 (c+(80:Int))))),_)) (by kernel_rfl) (congrArg (fun r=>some (r,_)) ?_),?_⟩)
   (fun hc30=>v0_ (c==(8228:Int)) (fun hc35=>⟨⟨true,bs [(5,false),(7,false),(9,false),(11,false),(13,false),(15,false),(20,false),(30,false),(35,true)]⟩,[(decide ((65:Int)≤c∧c≤(90:Int)))=false,
 (decide ((192:Int)≤c∧c≤(214:Int)))=false,
 (decide ((216:Int)≤c∧c≤(222:Int)))=false,
 (decide ((913:Int)≤c∧c≤(929:Int)))=false,
 (decide ((931:Int)≤c∧c≤(937:Int)))=false,
 (decide ((1040:Int)≤c∧c≤(1071:Int)))=false,
 (decide ((256:Int)≤c∧c≤(302:Int)))=false,
 (decide ((1024:Int)≤c∧c≤(1039:Int)))=false,
 (c==(8228:Int))=true],Eq.trans (b:=some ((AV.c ((Value.int .i64 46))),_)) (by kernel_rfl) (congrArg (fun r=>some (r,_)) ?_),?_⟩)
   (fun hc35=>v0_ (c==(12290:Int)) (fun hc37=>⟨⟨true,bs [(5,false),(7,false),(9,false),(11,false),(13,false),(15,false),(20,false),(30,false),(35,false),(37,true)]⟩,[(decide ((65:Int)≤c∧c≤(90:Int)))=false,
 (decide ((192:Int)≤c∧c≤(214:Int)))=false,
 (decide ((216:Int)≤c∧c≤(222:Int)))=false,
 (decide ((913:Int)≤c∧c≤(929:Int)))=false,
 (decide ((931:Int)≤c∧c≤(937:Int)))=false,
 (decide ((1040:Int)≤c∧c≤(1071:Int)))=false,
 (decide ((256:Int)≤c∧c≤(302:Int)))=false,
 (decide ((1024:Int)≤c∧c≤(1039:Int)))=false,
 (c==(8228:Int))=false,
 (c==(12290:Int))=true],Eq.trans (b:=some ((AV.c ((Value.int .i64 46))),_)) (by kernel_rfl) (congrArg (fun r=>some (r,_)) ?_),?_⟩)
   (fun hc37=>v0_ (c==(65377:Int)) (fun hc39=>⟨⟨true,bs [(5,false),(7,false),(9,false),(11,false),(13,false),(15,false),(20,false),(30,false),(35,false),(37,false),(39,true)]⟩,[(decide ((65:Int)≤c∧c≤(90:Int)))=false,
 (decide ((192:Int)≤c∧c≤(214:Int)))=false,
 (decide ((216:Int)≤c∧c≤(222:Int)))=false,
 (decide ((913:Int)≤c∧c≤(929:Int)))=false,
 (decide ((931:Int)≤c∧c≤(937:Int)))=false,
 (decide ((1040:Int)≤c∧c≤(1071:Int)))=false,
 (decide ((256:Int)≤c∧c≤(302:Int)))=false,
 (decide ((1024:Int)≤c∧c≤(1039:Int)))=false,
 (c==(8228:Int))=false,
 (c==(12290:Int))=false,
 (c==(65377:Int))=true],Eq.trans (b:=some ((AV.c ((Value.int .i64 46))),_)) (by kernel_rfl) (congrArg (fun r=>some (r,_)) ?_),?_⟩)
   (fun hc39=>v0_ (decide ((9312:Int)≤c∧c≤(9320:Int))) (fun hc42=>⟨⟨true,bs [(5,false),(7,false),(9,false),(11,false),(13,false),(15,false),(20,false),(30,false),(35,false),(37,false),(39,false),(42,true)]⟩,[(decide ((65:Int)≤c∧c≤(90:Int)))=false,
 (decide ((192:Int)≤c∧c≤(214:Int)))=false,
 (decide ((216:Int)≤c∧c≤(222:Int)))=false,
 (decide ((913:Int)≤c∧c≤(929:Int)))=false,
 (decide ((931:Int)≤c∧c≤(937:Int)))=false,
 (decide ((1040:Int)≤c∧c≤(1071:Int)))=false,
 (decide ((256:Int)≤c∧c≤(302:Int)))=false,
 (decide ((1024:Int)≤c∧c≤(1039:Int)))=false,
 (c==(8228:Int))=false,
 (c==(12290:Int))=false,
 (c==(65377:Int))=false,
 (decide ((9312:Int)≤c∧c≤(9320:Int)))=true,
 (i64.min:Int)≤c-9312,
 (c-9312:Int)≤i64.max,
 (i64.min:Int)≤c-9312+49,
 (c-9312+49:Int)≤i64.max],Eq.trans (b:=some ((AV.c ((Value.int .i64 (c-(9312:Int)+(49:Int))))),_)) (by kernel_rfl) (congrArg (fun r=>some (r,_)) ?_),?_⟩)
   (fun hc42=>v0_ (decide ((65313:Int)≤c∧c≤(65338:Int))) (fun hc48=>⟨⟨true,bs [(5,false),(7,false),(9,false),(11,false),(13,false),(15,false),(20,false),(30,false),(35,false),(37,false),(39,false),(42,false),(48,true)]⟩,[(decide ((65:Int)≤c∧c≤(90:Int)))=false,
 (decide ((192:Int)≤c∧c≤(214:Int)))=false,
 (decide ((216:Int)≤c∧c≤(222:Int)))=false,
 (decide ((913:Int)≤c∧c≤(929:Int)))=false,
 (decide ((931:Int)≤c∧c≤(937:Int)))=false,
 (decide ((1040:Int)≤c∧c≤(1071:Int)))=false,
 (decide ((256:Int)≤c∧c≤(302:Int)))=false,
 (decide ((1024:Int)≤c∧c≤(1039:Int)))=false,
 (c==(8228:Int))=false,
 (c==(12290:Int))=false,
 (c==(65377:Int))=false,
 (decide ((9312:Int)≤c∧c≤(9320:Int)))=false,
 (decide ((65313:Int)≤c∧c≤(65338:Int)))=true,
 (i64.min:Int)≤c-65248,
 (c-65248:Int)≤i64.max,
 (i64.min:Int)≤c-65248+32,
 (c-65248+32:Int)≤i64.max],Eq.trans (b:=some ((AV.c ((Value.int .i64 (c-(65248:Int)+(32:Int))))),_)) (by kernel_rfl) (congrArg (fun r=>some (r,_)) ?_),?_⟩)
   (fun hc48=>v0_ (decide ((65281:Int)≤c∧c≤(65374:Int))) (fun hc54=>⟨⟨true,bs [(5,false),(7,false),(9,false),(11,false),(13,false),(15,false),(20,false),(30,false),(35,false),(37,false),(39,false),(42,false),(48,false),(54,true)]⟩,[(decide ((65:Int)≤c∧c≤(90:Int)))=false,
 (decide ((192:Int)≤c∧c≤(214:Int)))=false,
 (decide ((216:Int)≤c∧c≤(222:Int)))=false,
 (decide ((913:Int)≤c∧c≤(929:Int)))=false,
 (decide ((931:Int)≤c∧c≤(937:Int)))=false,
 (decide ((1040:Int)≤c∧c≤(1071:Int)))=false,
 (decide ((256:Int)≤c∧c≤(302:Int)))=false,
 (decide ((1024:Int)≤c∧c≤(1039:Int)))=false,
 (c==(8228:Int))=false,
 (c==(12290:Int))=false,
 (c==(65377:Int))=false,
 (decide ((9312:Int)≤c∧c≤(9320:Int)))=false,
 (decide ((65313:Int)≤c∧c≤(65338:Int)))=false,
 (decide ((65281:Int)≤c∧c≤(65374:Int)))=true,
 (i64.min:Int)≤c-65248,
 (c-65248:Int)≤i64.max],Eq.trans (b:=some ((AV.c ((Value.int .i64 (c-(65248:Int))))),_)) (by kernel_rfl) (congrArg (fun r=>some (r,_)) ?_),?_⟩)
   (fun hc54=>v0_ (decide ((120782:Int)≤c∧c≤(120831:Int))) (fun hc59=>⟨⟨true,bs [(5,false),(7,false),(9,false),(11,false),(13,false),(15,false),(20,false),(30,false),(35,false),(37,false),(39,false),(42,false),(48,false),(54,false),(59,true)]⟩,[(decide ((65:Int)≤c∧c≤(90:Int)))=false,
 (decide ((192:Int)≤c∧c≤(214:Int)))=false,
 (decide ((216:Int)≤c∧c≤(222:Int)))=false,
 (decide ((913:Int)≤c∧c≤(929:Int)))=false,
 (decide ((931:Int)≤c∧c≤(937:Int)))=false,
 (decide ((1040:Int)≤c∧c≤(1071:Int)))=false,
 (decide ((256:Int)≤c∧c≤(302:Int)))=false,
 (decide ((1024:Int)≤c∧c≤(1039:Int)))=false,
 (c==(8228:Int))=false,
 (c==(12290:Int))=false,
 (c==(65377:Int))=false,
 (decide ((9312:Int)≤c∧c≤(9320:Int)))=false,
 (decide ((65313:Int)≤c∧c≤(65338:Int)))=false,
 (decide ((65281:Int)≤c∧c≤(65374:Int)))=false,
 (decide ((120782:Int)≤c∧c≤(120831:Int)))=true,
 (i64.min:Int)≤c-120782,
 (c-120782:Int)≤i64.max,
 (i64.min:Int)≤(c-120782).tmod 10+48,
 ((c-120782).tmod 10+48:Int)≤i64.max],Eq.trans (b:=some ((AV.c ((Value.int .i64 ((c-(120782:Int)).tmod (10:Int)+(48:Int))))),_)) (by kernel_rfl) (congrArg (fun r=>some (r,_)) ?_),?_⟩)
    (fun hc59=>⟨⟨true,bs [(5,false),(7,false),(9,false),(11,false),(13,false),(15,false),(20,false),(30,false),(35,false),(37,false),(39,false),(42,false),(48,false),(54,false),(59,false)]⟩,[(decide ((65:Int)≤c∧c≤(90:Int)))=false,
 (decide ((192:Int)≤c∧c≤(214:Int)))=false,
 (decide ((216:Int)≤c∧c≤(222:Int)))=false,
 (decide ((913:Int)≤c∧c≤(929:Int)))=false,
 (decide ((931:Int)≤c∧c≤(937:Int)))=false,
 (decide ((1040:Int)≤c∧c≤(1071:Int)))=false,
 (decide ((256:Int)≤c∧c≤(302:Int)))=false,
 (decide ((1024:Int)≤c∧c≤(1039:Int)))=false,
 (c==(8228:Int))=false,
 (c==(12290:Int))=false,
 (c==(65377:Int))=false,
 (decide ((9312:Int)≤c∧c≤(9320:Int)))=false,
 (decide ((65313:Int)≤c∧c≤(65338:Int)))=false,
 (decide ((65281:Int)≤c∧c≤(65374:Int)))=false,
 (decide ((120782:Int)≤c∧c≤(120831:Int)))=false],Eq.trans (b:=some ((AV.c ((Value.int .i64 (-1)))),_)) (by kernel_rfl) (congrArg (fun r=>some (r,_)) ?_),?_⟩)))))))))))))))
  all_goals try simp only[dz]at hc5
  all_goals try simp only[dz]at hc7
  all_goals try simp only[dz]at hc9
  all_goals try simp only[dz]at hc11
  all_goals try simp only[dz]at hc13
  all_goals try simp only[dz]at hc15
  all_goals try simp only[dz]at hc20
  all_goals try simp only[dz]at hc24
  all_goals try simp only[dz]at hc30
  all_goals try simp only[dz]at hc35
  all_goals try simp only[dz]at hc37
  all_goals try simp only[dz]at hc39
  all_goals try simp only[dz]at hc42
  all_goals try simp only[dz]at hc48
  all_goals try simp only[dz]at hc54
  all_goals try simp only[dz]at hc59
  any_goals(
    refine congrArg (fun z=>AV.c (Value.int IntKind.i64 z)) ?_
    try(have hq:c.tmod 2=c%2:=tmN (Int.le_trans (by decide) hc20.1)
        rw[hq]at hc24)
    try(have hq:(c-120782).tmod 10=(c-120782)%10:=tmN (by omega)
        rw[hq])
    first
      |(subst hc35;rfl)
      |(subst hc37;rfl)
      |(subst hc39;rfl)
      |(simp only[oth_eq, *,true_or,or_true,false_or,or_false,true_and,and_true,false_and,and_false,if_true,if_false,reduceIte];done)
      |(simp only[oth_eq, *,true_or,or_true,false_or,or_false,true_and,and_true,false_and,and_false,if_true,if_false,reduceIte];omega)
    done)
  all_goals try simp(disch:=omega) only[std]
  all_goals repeat' apply And.intro
  all_goals first|exact True.intro|omega|with_reducible (first|rfl|assumption)|(have hq:c.tmod 2=c%2:=tmN (Int.le_trans (by decide) hc20.1);rw[hq]at hc24;exact hc24)|rfl
theorem oth_ok:w2_ p_ 18 othSpec:=by
  refine v5_ mixed clIn_ok fun args r q hs hq=>?_
  unfold othSpec at hs
  split at hs
  ·rename_i c
   simp only[oi_]at hs
   obtain⟨rfl,rfl⟩:=hs
   simp only[z7_,and_true]at hq ⊢
   obtain⟨h1,h2⟩:=hq
   obtain⟨hh,q,e,hp⟩:=idot_all c h1 h2
   exact⟨_,_,_,_,z4_,e,hp⟩
  ·simp at hs
theorem mz_to {c:Int}(h:0≤g5_ c):u1_ c=y2_ (sgn (g5_ c))∧x5_ c=2:=by
  unfold g5_ at*
  cases e:toZ c with
  |nil=>rw[e]at h;simp at h
  |cons d r=>
   cases r with
   |cons _ _=>rw[e]at h;simp at h
   |nil=>
    unfold u1_ x5_
    rw[e]
    simp[join,sgL]
theorem mz_no {c:Int}(h:¬0≤g5_ c)(h1:c≠304)(h2:c≠8448)(h3:c≠8453):toZ c=[]:=by
  cases e:toZ c with
  |nil=>rfl
  |cons d r=>
   exfalso
   cases r with
   |nil=>
    have:=toZ_sgn (c:=c) (z:=d) (by rw[e];exact .head _)
    unfold g5_ at h
    rw[e]at h
    exact h this.1
   |cons x t=>
    unfold toZ at e
    repeat' split at e
    all_goals first|contradiction|(simp at e;done)|omega
theorem mz_gone {c:Int}(h:toZ c=[])(hg:k2_ c):u1_ c=[]∧x5_ c=3:=by
  unfold u1_ x5_
  rw[if_neg (by simpa using h),if_pos hg,if_neg (by simpa using h),if_pos hg]
  exact⟨rfl,rfl⟩
theorem mz_valid {c:Int}(h:toZ c=[])(hg:¬k2_ c)(hv:i5_ c=true):u1_ c=y2_ (sgn c)∧x5_ c=1:=by
  unfold u1_ x5_
  rw[if_neg (by simpa using h),if_neg hg,if_pos hv,if_neg (by simpa using h),if_neg hg,if_pos hv]
  exact⟨rfl,rfl⟩
theorem mz_none {c:Int}(h:toZ c=[])(hg:¬k2_ c)(hv:i5_ c=false):u1_ c=[]∧x5_ c=0:=by
  unfold u1_ x5_
  rw[if_neg (by simpa using h),if_neg hg,if_neg (by rw[hv];simp),if_neg (by simpa using h),if_neg hg,if_neg (by rw[hv];simp)]
  exact⟨rfl,rfl⟩
def mzR (c:Int):AV:= .tu [.c (str (u1_ c)),.c (.int .i64 (x5_ c))]
theorem mzR_eq {c:Int}{t:List UInt8}{k:Int}(h:u1_ c=t∧x5_ c=k):AV.tu [.c (str t),.c (.int .i64 k)]=mzR c:=by unfold mzR;rw[h.1,h.2]
theorem othZ_rng {c:Int}(h:0≤g5_ c):g5_ c≤2000:=by
  unfold g5_ at*
  cases e:toZ c with
  |nil=>simp
  |cons d r=>
   cases r with
   |cons _ _=>simp
   |nil=>exact(toZ_sgn (c:=c) (z:=d) (by rw[e];exact .head _)).2
def sevT (c:Int):List UInt8:=if c=304 then [105,204,135]else if c=8448 then [97,47,99]else if c=8453 then [99,47,111]else []
def sevSpec:Spec
  | [.c (.int .i64 c)]=>some (.c (str (sevT c)),[])
  |_=>none
noncomputable def clSv:CallT:=l3_ p_ (r4_ [(11,signSpec)]) 500 8
theorem clSv_ok:x7_ p_ clSv:=q7_ mixed (y8_ sign_ok v2_) 500 8
theorem idsv_all (c:Int):∃(h:Hints) (p:List Prop),y3_ p_ 17 (z8_ p_ clSv h (y1_ ([])) 60 17 ([.c (.int .i64 c)]) ([]))=some (.c (str (sevT c)),p)∧z7_ p:=by
  refine v0_ (c==(304:Int)) (fun hc5=>⟨⟨true,bs [(5,true)]⟩,[(c==(304:Int))=true,
 (-9223372036854775808:Int)≤105,
 (105:Int)≤9223372036854775807,
 (-9223372036854775808:Int)≤775,
 (775:Int)≤9223372036854775807,
 (((3:Nat):Nat)≤((9223372036854775807:Nat)))],Eq.trans (b:=some ((AV.c ((str ([UInt8.ofNat (105:Nat),UInt8.ofNat (204:Nat),UInt8.ofNat (135:Nat)])))),_)) (by kernel_rfl) (congrArg (fun r=>some (r,_)) ?_),?_⟩)
    (fun hc5=>v0_ (c==(8448:Int)) (fun hc10=>⟨⟨true,bs [(5,false),(10,true)]⟩,[(c==(304:Int))=false,
 (c==(8448:Int))=true],Eq.trans (b:=some ((AV.c ((str ([(97:UInt8),(47:UInt8),(99:UInt8)])))),_)) (by kernel_rfl) (congrArg (fun r=>some (r,_)) ?_),?_⟩)
   (fun hc10=>v0_ (c==(8453:Int)) (fun hc12=>⟨⟨true,bs [(5,false),(10,false),(12,true)]⟩,[(c==(304:Int))=false,
 (c==(8448:Int))=false,
 (c==(8453:Int))=true],Eq.trans (b:=some ((AV.c ((str ([(99:UInt8),(47:UInt8),(111:UInt8)])))),_)) (by kernel_rfl) (congrArg (fun r=>some (r,_)) ?_),?_⟩)
   (fun hc12=>⟨⟨true,bs [(5,false),(10,false),(12,false)]⟩,[(c==(304:Int))=false,
 (c==(8448:Int))=false,
 (c==(8453:Int))=false],Eq.trans (b:=some ((AV.c ((str ([])))),_)) (by kernel_rfl) (congrArg (fun r=>some (r,_)) ?_),?_⟩)))
  all_goals try simp only[dz]at hc5
  all_goals try simp only[dz]at hc10
  all_goals try simp only[dz]at hc12
  any_goals(
    unfold sevT;repeat(first|rw[if_pos (by omega)]|rw[if_neg (by omega)])
    try rfl
    done)
  all_goals try simp(disch:=omega) only[std]
  all_goals repeat' apply And.intro
  all_goals first|exact True.intro|omega|with_reducible (first|rfl|assumption)|rfl
theorem sev_ok:w2_ p_ 17 sevSpec:=by
  refine v5_ mixed clSv_ok fun args r q hs hq=>?_
  unfold sevSpec at hs
  split at hs
  ·rename_i c
   simp only[oi_]at hs
   obtain⟨rfl,rfl⟩:=hs
   simp only[z7_,and_true]at hq ⊢
   obtain⟨hh,q,e,hp⟩:=idsv_all c
   exact⟨_,_,_,_,z4_,e,hp⟩
  ·simp at hs
theorem sev_no {c:Int}(h:sevT c=[]):c≠304∧c≠8448∧c≠8453:=by
  unfold sevT at h
  repeat' split at h
  all_goals first|exact⟨by assumption,by assumption,by assumption⟩|cases h
theorem sev_to {c:Int}(h:¬sevT c=[]):u1_ c=sevT c∧x5_ c=2:=by
  unfold sevT at h
  split at h
  ·rename_i e;subst e;exact⟨by decide,by decide⟩
  split at h
  ·rename_i e;subst e;exact⟨by decide,by decide⟩
  split at h
  ·rename_i e;subst e;exact⟨by decide,by decide⟩
  ·exact absurd rfl h
noncomputable def clMp:CallT:=l3_ p_ (r4_ [(18,othSpec),(19,goneSpec),(20,validSpec),(11,signSpec),(17,sevSpec)]) 500 8
theorem clMp_ok:x7_ p_ clMp:=q7_ mixed (y8_ oth_ok (y8_ gone_ok (y8_ valid_ok (y8_ sign_ok (y8_ sev_ok v2_))))) 500 8
theorem idmp_all (c d:Int)(t:List UInt8)(h1: -9223372036854775808≤c)(h2:c≤9223372036854775807)(hd:g5_ c=d)(hl:d≤2000)(ht:sevT c=t):∃(h:Hints) (p:List Prop),y3_ p_ 10 (z8_ p_ clMp h (y1_ ([])) 60 10 ([.c (.int .i64 c)]) ([]))=some (mzR c,p)∧z7_ p:=by
  refine v0_ (!t==[]) (fun hc9=>⟨⟨true,bs [(9,true)]++([(7,⟨.c (str t),none⟩),(12,⟨.c (.int .i64 d),none⟩)])⟩,[((sevT c:List UInt8))=(t),
 (!t==[])=true],Eq.trans (b:=some ((AV.tu [(AV.c ((str (t)))),
 (AV.c ((Value.int .i64 2)))]),_)) (by kernel_rfl) (congrArg (fun r=>some (r,_)) ?_),?_⟩)
    (fun hc9=>v0_ (decide (d≥(0:Int))) (fun hc14=>⟨⟨true,bs [(9,false),(14,true)]++([(7,⟨.c (str t),none⟩),(12,⟨.c (.int .i64 d),none⟩)])⟩,[((sevT c:List UInt8))=(t),
 (!t==[])=false,
 (-9223372036854775808:Int)≤c,
 (c:Int)≤9223372036854775807,
 ((g5_ c:Int))=(d),
 decide ((d:Int)≥0)=true,
 (-9223372036854775808:Int)≤d,
 (d:Int)≤9223372036854775807],Eq.trans (b:=some ((AV.tu [(AV.c ((str (y2_ (sgn d))))),
 (AV.c ((Value.int .i64 2)))]),_)) (by kernel_rfl) (congrArg (fun r=>some (r,_)) ?_),?_⟩)
    (fun hc14=>v0_ (decide (k2_ c)) (fun hc19=>⟨⟨true,bs [(9,false),(14,false),(19,true)]++([(7,⟨.c (str t),none⟩),(12,⟨.c (.int .i64 d),none⟩)])⟩,[((sevT c:List UInt8))=(t),
 (!t==[])=false,
 (-9223372036854775808:Int)≤c,
 (c:Int)≤9223372036854775807,
 ((g5_ c:Int))=(d),
 decide ((d:Int)≥0)=false,
 (decide (k2_ c))=true],Eq.trans (b:=some ((AV.tu [(AV.c ((str ([])))),
 (AV.c ((Value.int .i64 3)))]),_)) (by kernel_rfl) (congrArg (fun r=>some (r,_)) ?_),?_⟩)
    (fun hc19=>v0_ (i5_ c) (fun hc22=>⟨⟨true,bs [(9,false),(14,false),(19,false),(22,true)]++([(7,⟨.c (str t),none⟩),(12,⟨.c (.int .i64 d),none⟩)])⟩,[((sevT c:List UInt8))=(t),
 (!t==[])=false,
 (-9223372036854775808:Int)≤c,
 (c:Int)≤9223372036854775807,
 ((g5_ c:Int))=(d),
 decide ((d:Int)≥0)=false,
 (decide (k2_ c))=false,
 (i5_ c)=true,
 (-9223372036854775808:Int)≤c,
 (c:Int)≤9223372036854775807],Eq.trans (b:=some ((AV.tu [(AV.c ((str (y2_ (sgn c))))),
 (AV.c ((Value.int .i64 1)))]),_)) (by kernel_rfl) (congrArg (fun r=>some (r,_)) ?_),?_⟩)
    (fun hc22=>⟨⟨true,bs [(9,false),(14,false),(19,false),(22,false)]++([(7,⟨.c (str t),none⟩),(12,⟨.c (.int .i64 d),none⟩)])⟩,[((sevT c:List UInt8))=(t),
 (!t==[])=false,
 (-9223372036854775808:Int)≤c,
 (c:Int)≤9223372036854775807,
 ((g5_ c:Int))=(d),
 decide ((d:Int)≥0)=false,
 (decide (k2_ c))=false,
 (i5_ c)=false],Eq.trans (b:=some ((AV.tu [(AV.c ((str ([])))),
 (AV.c ((Value.int .i64 0)))]),_)) (by kernel_rfl) (congrArg (fun r=>some (r,_)) ?_),?_⟩))))
  all_goals try simp only[dz]at hc9
  all_goals try simp only[dz]at hc14
  all_goals try simp only[dz]at hc19
  all_goals try simp only[dz]at hc22
  any_goals(
    subst hd ht
    try simp only[Bool.not_eq_true',Bool.not_eq_false',beq_eq_false_iff_ne,beq_iff_eq]at hc9
    first
     |exact mzR_eq (sev_to (by assumption))
     |exact mzR_eq (mz_to (by omega))
     |(obtain⟨k1,k2,k3⟩:=sev_no (c:=c) (by assumption)
       have hz:=mz_no (c:=c) (by omega) k1 k2 k3
       first|exact mzR_eq (mz_gone hz (by assumption))|exact mzR_eq (mz_valid hz (by assumption) (by assumption))|exact mzR_eq (mz_none hz (by assumption) (by assumption)))
    done)
  all_goals try simp(disch:=omega) only[std]
  all_goals repeat' apply And.intro
  all_goals first|exact True.intro|omega|with_reducible (first|rfl|assumption)|exact hd|exact ht|rfl
theorem pmap_ok:w2_ p_ 10 mapSpec:=by
  refine v5_ mixed clMp_ok fun args r q hs hq=>?_
  unfold mapSpec at hs
  split at hs
  ·rename_i c
   simp only[oi_]at hs
   obtain⟨rfl,rfl⟩:=hs
   obtain⟨h1,h2,_⟩:=hq
   have hl:g5_ c≤2000:=by
     by_cases h:0≤g5_ c
     ·exact othZ_rng h
     ·omega
   obtain⟨hh,q,e,hp⟩:=idmp_all c _ _ h1 h2 rfl hl rfl
   exact⟨_,_,_,_,z4_,e,hp⟩
  ·simp at hs
end Go.Proofs.YtmjldphagbobpaaDoor
namespace Go.Proofs.YtmjldphagbobpaaDoor
open IntKind (i64 u8 i32 u32 u64)
open _root_.Go.Proofs.Tryd renaming prog→p_
open Go.RowKit U8 Idn
noncomputable def clLa:CallT:=l3_ p_ (r4_ [(10,mapSpec),(26,markSpec)]) 500 8
theorem clLa_ok:x7_ p_ clLa:=q7_ mixed (y8_ pmap_ok (y8_ mark_ok v2_)) 500 8
def d0_ (C:List AV)(k i:Nat)(ab:Bool):St:=⟨frame 41 [(3,.c (.bool ab)),(17,.fs 1 k C),(18,.c (.int .i64 k)),(19,.c (.int .i64 i))],[]⟩
def lblF:St:=⟨frame 41 [(2,.c (.bool false))],[]⟩
def lblE (ab:Bool):St:=⟨frame 41 [(3,.c (.bool ab))],[]⟩
theorem lblA_all (C:List AV)(k i:Nat)(z:Int)(ab:Bool)(hi:i<k)(hkd:x5_ z=1)(h46:¬z=46)(hz:i<k→y0_ ((C.drop i).headD .any) (.c (.int .i64 z)))(h1: -9223372036854775808≤z)(h2:z≤9223372036854775807)(hC:C.length=k)(hk:k≤1000000000):x1_ Ext0 p_ clLa (z1_ p_ 15 5) (d0_ C k i (true)) (.normal) (d0_ C k (i+1) true):=by
  refine⟨⟨true,(bs [(20,true),(29,false),(32,false)]++[(22,⟨.c (.int .i64 z),none⟩)])⟩,_,60,⟨[],[3,17,18,19],[]⟩,[decide ((↑i:Int)<↑k)=true,
 (0:Int)≤↑i,
 (↑i:Int)<↑k,
 (((0:Nat):Nat)<((List.drop i C).length)),
 y0_ ((List.drop i C).headD AV.any) ((AV.c ((Value.int .i64 z)))),
 (-9223372036854775808:Int)≤z,
 (z:Int)≤9223372036854775807,
 (x5_ z !=(1:Int))=false,
 (z==(46:Int))=false,
 (i64.min:Int)≤↑i+1,
 (↑i+1:Int)≤i64.max],z4_,by decide,by kernel_rfl,?_⟩
  all_goals try simp(disch:=omega) only[std,List.length_drop,hC,Int.toNat_natCast]
  all_goals repeat' apply And.intro
  all_goals first|exact True.intro|omega|with_reducible (first|rfl|assumption)|exact hz hi|exact hkd|exact h46|exact hC|rfl
theorem lblB_all (C:List AV)(k i:Nat)(z:Int)(ab:Bool)(hi:i<k)(hkd:x5_ z=1)(h46:¬z=46)(hf:¬127<z)(hz:i<k→y0_ ((C.drop i).headD .any) (.c (.int .i64 z)))(h1: -9223372036854775808≤z)(h2:z≤9223372036854775807)(hC:C.length=k)(hk:k≤1000000000):x1_ Ext0 p_ clLa (z1_ p_ 15 5) (d0_ C k i (false)) (.normal) (d0_ C k (i+1) false):=by
  refine⟨⟨true,(bs [(20,true),(29,false),(32,false),(37,false)]++[(22,⟨.c (.int .i64 z),none⟩)])⟩,_,60,⟨[],[3,17,18,19],[]⟩,[decide ((↑i:Int)<↑k)=true,
 (0:Int)≤↑i,
 (↑i:Int)<↑k,
 (((0:Nat):Nat)<((List.drop i C).length)),
 y0_ ((List.drop i C).headD AV.any) ((AV.c ((Value.int .i64 z)))),
 (-9223372036854775808:Int)≤z,
 (z:Int)≤9223372036854775807,
 (x5_ z !=(1:Int))=false,
 (z==(46:Int))=false,
 decide ((z:Int)≥128)=false,
 (i64.min:Int)≤↑i+1,
 (↑i+1:Int)≤i64.max],z4_,by decide,by kernel_rfl,?_⟩
  all_goals try simp(disch:=omega) only[std,List.length_drop,hC,Int.toNat_natCast]
  all_goals repeat' apply And.intro
  all_goals first|exact True.intro|omega|with_reducible (first|rfl|assumption)|exact hz hi|exact hkd|exact h46|exact hC|rfl
theorem lblC_all (C:List AV)(k i:Nat)(z:Int)(ab:Bool)(hi:i<k)(hkd:x5_ z=1)(h46:¬z=46)(hf:127<z)(hz:i<k→y0_ ((C.drop i).headD .any) (.c (.int .i64 z)))(h1: -9223372036854775808≤z)(h2:z≤9223372036854775807)(hC:C.length=k)(hk:k≤1000000000):x1_ Ext0 p_ clLa (z1_ p_ 15 5) (d0_ C k i (false)) (.normal) (d0_ C k (i+1) true):=by
  refine⟨⟨true,(bs [(20,true),(29,false),(32,false),(37,true)]++[(22,⟨.c (.int .i64 z),none⟩)])⟩,_,60,⟨[],[3,17,18,19],[]⟩,[decide ((↑i:Int)<↑k)=true,
 (0:Int)≤↑i,
 (↑i:Int)<↑k,
 (((0:Nat):Nat)<((List.drop i C).length)),
 y0_ ((List.drop i C).headD AV.any) ((AV.c ((Value.int .i64 z)))),
 (-9223372036854775808:Int)≤z,
 (z:Int)≤9223372036854775807,
 (x5_ z !=(1:Int))=false,
 (z==(46:Int))=false,
 decide ((z:Int)≥128)=true,
 (i64.min:Int)≤↑i+1,
 (↑i+1:Int)≤i64.max],z4_,by decide,by kernel_rfl,?_⟩
  all_goals try simp(disch:=omega) only[std,List.length_drop,hC,Int.toNat_natCast]
  all_goals repeat' apply And.intro
  all_goals first|exact True.intro|omega|with_reducible (first|rfl|assumption)|exact hz hi|exact hkd|exact h46|exact hC|rfl
theorem lblX_all (C:List AV)(k i:Nat)(z:Int)(ab:Bool)(hi:i<k)(hkd:¬x5_ z=1)(hz:i<k→y0_ ((C.drop i).headD .any) (.c (.int .i64 z)))(h1: -9223372036854775808≤z)(h2:z≤9223372036854775807)(hC:C.length=k)(hk:k≤1000000000):x1_ Ext0 p_ clLa (z1_ p_ 15 5) (d0_ C k i (ab)) (.ret) (lblF):=by
  refine⟨⟨true,(bs [(20,true),(29,true)]++[(22,⟨.c (.int .i64 z),none⟩)])⟩,_,60,⟨[],[2],[]⟩,[decide ((↑i:Int)<↑k)=true,
 (0:Int)≤↑i,
 (↑i:Int)<↑k,
 (((0:Nat):Nat)<((List.drop i C).length)),
 y0_ ((List.drop i C).headD AV.any) ((AV.c ((Value.int .i64 z)))),
 (-9223372036854775808:Int)≤z,
 (z:Int)≤9223372036854775807,
 (x5_ z !=(1:Int))=true],z4_,by decide,by kernel_rfl,?_⟩
  all_goals try simp(disch:=omega) only[std,List.length_drop,hC,Int.toNat_natCast]
  all_goals repeat' apply And.intro
  all_goals first|exact True.intro|omega|with_reducible (first|rfl|assumption)|exact hz hi|exact hkd|exact hC|rfl
theorem lblY_all (C:List AV)(k i:Nat)(z:Int)(ab:Bool)(hi:i<k)(hkd:x5_ z=1)(h46:z=46)(hz:i<k→y0_ ((C.drop i).headD .any) (.c (.int .i64 z)))(h1: -9223372036854775808≤z)(h2:z≤9223372036854775807)(hC:C.length=k)(hk:k≤1000000000):x1_ Ext0 p_ clLa (z1_ p_ 15 5) (d0_ C k i (ab)) (.ret) (lblF):=by
  refine⟨⟨true,(bs [(20,true),(29,false),(32,true)]++[(22,⟨.c (.int .i64 z),none⟩)])⟩,_,60,⟨[],[2],[]⟩,[decide ((↑i:Int)<↑k)=true,
 (0:Int)≤↑i,
 (↑i:Int)<↑k,
 (((0:Nat):Nat)<((List.drop i C).length)),
 y0_ ((List.drop i C).headD AV.any) ((AV.c ((Value.int .i64 z)))),
 (-9223372036854775808:Int)≤z,
 (z:Int)≤9223372036854775807,
 (x5_ z !=(1:Int))=false,
 (z==(46:Int))=true],z4_,by decide,by kernel_rfl,?_⟩
  all_goals try simp(disch:=omega) only[std,List.length_drop,hC,Int.toNat_natCast]
  all_goals repeat' apply And.intro
  all_goals first|exact True.intro|omega|with_reducible (first|rfl|assumption)|exact hz hi|exact hkd|exact h46|exact hC|rfl
theorem lblZ_all (C:List AV)(k i:Nat)(z:Int)(ab:Bool)(hi:i=k)(hz:i<k→y0_ ((C.drop i).headD .any) (.c (.int .i64 z)))(h1: -9223372036854775808≤z)(h2:z≤9223372036854775807)(hC:C.length=k)(hk:k≤1000000000):x1_ Ext0 p_ clLa (z1_ p_ 15 5) (d0_ C k i (ab)) (.exit 0) (lblE ab):=by
  refine⟨⟨true,(bs [(20,false)]++[(22,⟨.c (.int .i64 z),none⟩)])⟩,_,60,⟨[],[3],[]⟩,[decide ((↑i:Int)<↑k)=false],z4_,by decide,by kernel_rfl,?_⟩
  all_goals try simp(disch:=omega) only[std,List.length_drop,hC,Int.toNat_natCast]
  all_goals repeat' apply And.intro
  all_goals first|exact True.intro|omega|with_reducible (first|rfl|assumption)|exact hz hi|exact hkd|exact hi|exact hC|rfl
theorem all_snoc (L:List Int)(i:Nat)(h:i<L.length)(f:Int→Bool):(L.take (i+1)).all f=((L.take i).all f&&f (L.getD i 0)):=by
  rw[v9_ L i 0 h,List.all_append];simp
theorem any_snoc (L:List Int)(i:Nat)(h:i<L.length)(f:Int→Bool):(L.take (i+1)).any f=((L.take i).any f||f (L.getD i 0)):=by
  rw[v9_ L i 0 h,List.any_append];simp
theorem all_fail {L:List Int}{i:Nat}(h:i<L.length){f:Int→Bool}(hf:f (L.getD i 0)=false):L.all f=false:=by
  rw[←List.take_append_drop (i+1) L,List.all_append,all_snoc L i h,hf];simp
theorem lbl_walk (L:List Int)(hl:L.length≤1000000000)(hr:s1_ L):Tri Ext0 p_ (.loop (z1_ p_ 15 5)) (d0_ (z2_ L) L.length 0 false) (if L.all i6_=true then .exit 0 else .ret) (if L.all i6_=true then lblE (farZ L)else lblF):=by
  refine n9_ mixed clLa_ok (fun i=>d0_ (z2_ L) L.length i (farZ (L.take i))) (fun i=>i≤L.length∧(L.take i).all i6_=true) (fun i=>L.length-i) (fun i hx=>?_) 0 ⟨Nat.zero_le _,rfl⟩
  obtain⟨h1,h2⟩:=hx
  by_cases hi:i<L.length
  ·have ha:y0_ (((z2_ L).drop i).headD .any) (.c (.int .i64 (L.getD i 0))):=by rw[j3_ L i hi];exact u3_ _
   obtain⟨r1,r2⟩:=hr _ (getD_mem L i hi)
   have hC:=v3_ L
   have ht:=all_snoc L i hi i6_
   have hb:farZ (L.take (i+1))=(farZ (L.take i)||decide (127<L.getD i 0)):=any_snoc L i hi _
   by_cases hk:x5_ (L.getD i 0)=1
   ·by_cases h46:L.getD i 0=46
    ·rw[all_fail hi (f:=i6_) (by unfold i6_;rw[h46];simp)]
     exact .inr ⟨by simp,lblY_all (z2_ L) L.length i _ _ hi hk h46 (fun _=>ha) r1 r2 hC hl⟩
    ·have hf:i6_ (L.getD i 0)=true:=by unfold i6_;rw[hk];simpa using h46
     refine .inl ⟨i+1,⟨hi,by rw[ht,h2,hf];rfl⟩,by omega,?_⟩
     rw[hb]
     cases farZ (L.take i)with
     |true=>exact lblA_all (z2_ L) L.length i _ false hi hk h46 (fun _=>ha) r1 r2 hC hl
     |false=>
      by_cases hz:127<L.getD i 0
      ·rw[decide_eq_true hz]
       exact lblC_all (z2_ L) L.length i _ false hi hk h46 hz (fun _=>ha) r1 r2 hC hl
      ·rw[decide_eq_false hz]
       exact lblB_all (z2_ L) L.length i _ false hi hk h46 hz (fun _=>ha) r1 r2 hC hl
   ·rw[all_fail hi (f:=i6_) (by unfold i6_;rw[show(x5_ (L.getD i 0)==1)=false from beq_eq_false_iff_ne.2 hk];rfl)]
    exact .inr ⟨by simp,lblX_all (z2_ L) L.length i _ _ hi hk (fun _=>ha) r1 r2 hC hl⟩
  ·have he:i=L.length:=by omega
   subst he
   rw[List.take_length]at*
   rw[h2]
   exact .inr ⟨by simp,lblZ_all (z2_ L) L.length L.length 0 _ rfl (fun h=>absurd h (Nat.lt_irrefl _)) (by decide) (by decide) (v3_ L) hl⟩
theorem lbm1_all (C:List AV)(k:Nat)(z:Int)(ab:Bool)(hk:k=0)(hz:0<k→y0_ ((C.drop 0).headD .any) (.c (.int .i64 z)))(hC:C.length=k)(hl:k≤1000000000):∃(h:Hints) (p:List Prop),y3_ p_ 15 (z8_ p_ clLa h (y1_ ([])) 60 15 ([.fs 1 k C]) ([]))=some (.c (.bool (false)),p)∧z7_ p:=by
  refine⟨⟨true,(bs [(10,true)])⟩,[((↑k:Int)==(0:Int))=true],by kernel_rfl,?_⟩
  all_goals try simp(disch:=omega) only[std,List.drop_zero,hC]
  all_goals repeat' apply And.intro
  all_goals first|exact True.intro|omega|with_reducible (first|rfl|assumption)|exact hz hk|exact decide_eq_true hm|exact decide_eq_false hm|exact hk|exact hC|rfl
theorem lbm2_all (C:List AV)(k:Nat)(z:Int)(ab:Bool)(hk:0<k)(hm:768≤z∧z≤879)(hz:0<k→y0_ ((C.drop 0).headD .any) (.c (.int .i64 z)))(hC:C.length=k)(hl:k≤1000000000):∃(h:Hints) (p:List Prop),y3_ p_ 15 (z8_ p_ clLa h (y1_ ([])) 60 15 ([.fs 1 k C]) ([]))=some (.c (.bool (false)),p)∧z7_ p:=by
  refine⟨⟨true,(bs [(10,false)]++[(14,⟨.c (.int .i64 z),none⟩),(15,⟨.c (.bool true),none⟩)])⟩,[((↑k:Int)==(0:Int))=false,
 (0:Int)≤0,
 (0:Int)<↑k,
 (((0:Nat):Nat)<((List.drop (Int.toNat (0:Int)) C).length)),
 y0_ ((List.drop (Int.toNat (0:Int)) C).headD AV.any) ((AV.c ((Value.int .i64 z)))),
 (decide ((768:Int)≤z∧z≤(879:Int)))=true],by kernel_rfl,?_⟩
  all_goals try simp(disch:=omega) only[std,List.drop_zero,hC]
  all_goals repeat' apply And.intro
  all_goals first|exact True.intro|omega|with_reducible (first|rfl|assumption)|exact hz hk|exact decide_eq_true hm|exact decide_eq_false hm|exact hC|rfl
theorem lbm3_all (C:List AV)(k:Nat)(z:Int)(ab:Bool)(hk:0<k)(hm:¬(768≤z∧z≤879))(hz:0<k→y0_ ((C.drop 0).headD .any) (.c (.int .i64 z)))(hC:C.length=k)(hl:k≤1000000000):∃(h:Hints) (p:List Prop),y3_ p_ 15 (z8_ p_ clLa h (y1_ ([(5,⟨z1_ p_ 15 5,⟨[],[3,17,18,19],[]⟩,d0_ C k 0 false,.ret,lblF⟩)])) 60 15 ([.fs 1 k C]) ([]))=some (.c (.bool (false)),p)∧z7_ p:=by
  refine⟨⟨true,(bs [(10,false)]++[(14,⟨.c (.int .i64 z),none⟩),(15,⟨.c (.bool false),none⟩)])⟩,[((↑k:Int)==(0:Int))=false,
 (0:Int)≤0,
 (0:Int)<↑k,
 (((0:Nat):Nat)<((List.drop (Int.toNat (0:Int)) C).length)),
 y0_ ((List.drop (Int.toNat (0:Int)) C).headD AV.any) ((AV.c ((Value.int .i64 z)))),
 (decide ((768:Int)≤z∧z≤(879:Int)))=false,
 ((z1_ p_ (15:FuncId) (5:Nat):Go.Code))=(z1_ p_ (15:FuncId) (5:Nat)),
 ((d0_ C k (0:Nat) false:St))=(d0_ C k (0:Nat) false)],by kernel_rfl,?_⟩
  all_goals try simp(disch:=omega) only[std,List.drop_zero,hC]
  all_goals repeat' apply And.intro
  all_goals first|exact True.intro|omega|with_reducible (first|rfl|assumption)|exact hz hk|exact decide_eq_true hm|exact decide_eq_false hm|exact hC|rfl
theorem lbm4_all (C:List AV)(k:Nat)(z:Int)(ab:Bool)(hk:0<k)(hm:¬(768≤z∧z≤879))(hz:0<k→y0_ ((C.drop 0).headD .any) (.c (.int .i64 z)))(hC:C.length=k)(hl:k≤1000000000):∃(h:Hints) (p:List Prop),y3_ p_ 15 (z8_ p_ clLa h (y1_ ([(5,⟨z1_ p_ 15 5,⟨[],[3,17,18,19],[]⟩,d0_ C k 0 false,.exit 0,lblE ab⟩)])) 60 15 ([.fs 1 k C]) ([]))=some (.c (.bool (ab)),p)∧z7_ p:=by
  refine⟨⟨true,(bs [(10,false)]++[(14,⟨.c (.int .i64 z),none⟩),(15,⟨.c (.bool false),none⟩)])⟩,[((↑k:Int)==(0:Int))=false,
 (0:Int)≤0,
 (0:Int)<↑k,
 (((0:Nat):Nat)<((List.drop (Int.toNat (0:Int)) C).length)),
 y0_ ((List.drop (Int.toNat (0:Int)) C).headD AV.any) ((AV.c ((Value.int .i64 z)))),
 (decide ((768:Int)≤z∧z≤(879:Int)))=false,
 ((z1_ p_ (15:FuncId) (5:Nat):Go.Code))=(z1_ p_ (15:FuncId) (5:Nat)),
 ((d0_ C k (0:Nat) false:St))=(d0_ C k (0:Nat) false)],by kernel_rfl,?_⟩
  all_goals try simp(disch:=omega) only[std,List.drop_zero,hC]
  all_goals repeat' apply And.intro
  all_goals first|exact True.intro|omega|with_reducible (first|rfl|assumption)|exact hz hk|exact decide_eq_true hm|exact decide_eq_false hm|exact hC|rfl
theorem plabel_ok:w2_ p_ 15 labelSpec:=by
  refine v5_ mixed clLa_ok fun args r q hs hq=>?_
  unfold labelSpec at hs
  split at hs
  ·rename_i s n l
   simp only[oi_]at hs
   obtain⟨rfl,rfl⟩:=hs
   obtain⟨rfl,h1,h2,h3,h4,_⟩:=hq
   generalize unI l=L at*
   subst h1 h2
   have hz:0<L.length→y0_ (((z2_ L).drop 0).headD .any) (.c (.int .i64 (L.getD 0 0))):=fun h=>by rw[j3_ L 0 h];exact u3_ _
   have hC:=v3_ L
   have e0:L.headD 0=L.getD 0 0:=by cases L<;>rfl
   unfold t2_
   rw[e0]
   by_cases h0:L.length=0
   ·obtain rfl:=List.length_eq_zero_iff.1 h0
    obtain⟨hh,q,e,hp⟩:=lbm1_all (z2_ []) 0 0 false rfl (fun h=>absurd h (by decide)) rfl (by decide)
    exact⟨_,_,_,_,z4_,e,hp⟩
   ·have hp0:0<L.length:=by omega
    by_cases hm:768≤L.getD 0 0∧L.getD 0 0≤879
    ·rw[decide_eq_true hm,Bool.not_true,Bool.and_false]
     obtain⟨hh,q,e,hp⟩:=lbm2_all (z2_ L) L.length _ false hp0 hm hz hC h3
     exact⟨_,_,_,_,z4_,e,hp⟩
    ·rw[decide_eq_false hm,Bool.not_false,Bool.and_true]
     have w:=lbl_walk L h3 h4
     cases ha:L.all i6_ with
     |false=>
      rw[ha]at w
      obtain⟨hh,q,e,hp⟩:=lbm3_all (z2_ L) L.length _ false hp0 hm hz hC h3
      exact⟨_,_,_,_,x4_ z4_ (show([]:List Nat).Nodup by decide) w,e,hp⟩
     |true=>
      rw[ha]at w
      rw[Bool.true_and]
      obtain⟨hh,q,e,hp⟩:=lbm4_all (z2_ L) L.length _ (farZ L) hp0 hm hz hC h3
      exact⟨_,_,_,_,x4_ z4_ (show([]:List Nat).Nodup by decide) w,e,hp⟩
  ·simp at hs
end Go.Proofs.YtmjldphagbobpaaDoor
