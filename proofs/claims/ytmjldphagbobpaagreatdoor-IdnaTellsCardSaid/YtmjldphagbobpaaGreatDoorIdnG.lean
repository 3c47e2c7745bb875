import Derived.Test.YtmjldphagbobpaaGreatDoorIdnE
import Derived.Test.YtmjldphagbobpaaGreatDoorTextS
import Derived.Test.YtmjldphagbobpaaGreatDoorLevQ
import Derived.Test.YtmjldphagbobpaaGreatDoorPnyH
set_option linter.unusedVariables false
set_option linter.unusedSimpArgs false
namespace Go.Proofs.YtmjldphagbobpaaGreatDoor
open IntKind (i64 u8 i32 u32 u64)
open _root_.Go.Proofs.Tryz renaming prog→p_
open Go.RowKit U8 Idn
set_option maxRecDepth 100000
def inSpec:Spec
  | [.c (.int .i64 c),.c (.int .i64 a),.c (.int .i64 b)]=>some (.c (.bool (decide (a≤c∧c≤b))),[])
  |_=>none
theorem rin_all (c a b:Int):∃(h:Hints) (p:List Prop),y0_ p_ 27 (z9_ p_ cl0 h (y1_ ([])) 60 27 ([.c (.int .i64 c),.c (.int .i64 a),.c (.int .i64 b)]) ([]))=some (.c (.bool (decide (a≤c∧c≤b))),p)∧z7_ p:=by
  refine y9_ (decide (c≥a)) (fun hc9=>⟨⟨true,bs [(9,true)]⟩,[decide ((c:Int)≥a)=true],Eq.trans (b:=some ((AV.c ((Value.bool (decide (c≤b))))),_)) (by kernel_rfl) (congrArg (fun r=>some (r,_)) ?_),?_⟩)
    (fun hc9=>⟨⟨true,bs [(9,false)]⟩,[decide ((c:Int)≥a)=false],Eq.trans (b:=some ((AV.c ((Value.bool false))),_)) (by kernel_rfl) (congrArg (fun r=>some (r,_)) ?_),?_⟩)
  all_goals try simp only[dz]at hc9
  any_goals(
    first
      |(rw[show decide (a≤c∧c≤b)=decide (c≤b)from decide_eq_decide.2 (by omega)];done)
      |(rw[show decide (a≤c∧c≤b)=false from decide_eq_false (by omega)];done)
    done)
  all_goals try simp(disch:=omega) only[std]
  all_goals repeat' apply And.intro
  all_goals first|exact True.intro|omega|with_reducible (first|rfl|assumption)|rfl
theorem rin_ok:x8_ p_ 27 inSpec:=by
  refine w1_ mixed w4_ fun args r q hs hq=>?_
  unfold inSpec at hs
  split at hs
  ·rename_i c a b
   simp only[oi_]at hs
   obtain⟨rfl,rfl⟩:=hs
   simp only[z7_,and_true]at hq ⊢
   obtain⟨hh,q,e,hp⟩:=rin_all c a b
   exact⟨_,_,_,_,z3_,e,hp⟩
  ·simp at hs
noncomputable def clZi:CallT:=q4_ p_ (t4_ [(27,inSpec)]) 500 8
theorem clZi_ok:x3_ p_ clZi:=t3_ mixed (y4_ rin_ok w3_) 500 8
theorem rva_all (c:Int):∃(h:Hints) (p:List Prop),y0_ p_ 18 (z9_ p_ clZi h (y1_ ([])) 60 18 ([.c (.int .i64 c)]) ([]))=some (.c (.bool (m4_ c)),p)∧z7_ p:=by
  refine y9_ (c==(215:Int)) (fun hc4=>⟨⟨true,bs [(4,true)]⟩,[(c==(215:Int))=true],Eq.trans (b:=some ((AV.c ((Value.bool false))),_)) (by kernel_rfl) (congrArg (fun r=>some (r,_)) ?_),?_⟩)
    (fun hc4=>y9_ (c==(247:Int)) (fun hc7=>⟨⟨true,bs [(4,false),(7,true)]⟩,[(c==(215:Int))=false,
 (c==(247:Int))=true],Eq.trans (b:=some ((AV.c ((Value.bool false))),_)) (by kernel_rfl) (congrArg (fun r=>some (r,_)) ?_),?_⟩)
   (fun hc7=>y9_ (decide ((0:Int)≤c∧c≤(127:Int))) (fun hc10=>⟨⟨true,bs [(4,false),(7,false),(10,true)]⟩,[(c==(215:Int))=false,
 (c==(247:Int))=false,
 (decide ((0:Int)≤c∧c≤(127:Int)))=true],Eq.trans (b:=some ((AV.c ((Value.bool true))),_)) (by kernel_rfl) (congrArg (fun r=>some (r,_)) ?_),?_⟩)
    (fun hc10=>y9_ (decide ((223:Int)≤c∧c≤(255:Int))) (fun hc13=>⟨⟨true,bs [(4,false),(7,false),(10,false),(13,true)]⟩,[(c==(215:Int))=false,
 (c==(247:Int))=false,
 (decide ((0:Int)≤c∧c≤(127:Int)))=false,
 (decide ((223:Int)≤c∧c≤(255:Int)))=true],Eq.trans (b:=some ((AV.c ((Value.bool true))),_)) (by kernel_rfl) (congrArg (fun r=>some (r,_)) ?_),?_⟩)
    (fun hc13=>y9_ (decide ((257:Int)≤c∧c≤(303:Int))) (fun hc17=>⟨⟨true,bs [(4,false),(7,false),(10,false),(13,false),(17,true)]⟩,[(c==(215:Int))=false,
 (c==(247:Int))=false,
 (decide ((0:Int)≤c∧c≤(127:Int)))=false,
 (decide ((223:Int)≤c∧c≤(255:Int)))=false,
 (decide ((257:Int)≤c∧c≤(303:Int)))=true],Eq.trans (b:=some ((AV.c ((Value.bool true))),_)) (by kernel_rfl) (congrArg (fun r=>some (r,_)) ?_),?_⟩)
    (fun hc17=>y9_ (decide ((768:Int)≤c∧c≤(879:Int))) (fun hc21=>⟨⟨true,bs [(4,false),(7,false),(10,false),(13,false),(17,false),(21,true)]⟩,[(c==(215:Int))=false,
 (c==(247:Int))=false,
 (decide ((0:Int)≤c∧c≤(127:Int)))=false,
 (decide ((223:Int)≤c∧c≤(255:Int)))=false,
 (decide ((257:Int)≤c∧c≤(303:Int)))=false,
 (decide ((768:Int)≤c∧c≤(879:Int)))=true],Eq.trans (b:=some ((AV.c ((Value.bool true))),_)) (by kernel_rfl) (congrArg (fun r=>some (r,_)) ?_),?_⟩)
    (fun hc21=>y9_ (decide ((945:Int)≤c∧c≤(969:Int))) (fun hc25=>⟨⟨true,bs [(4,false),(7,false),(10,false),(13,false),(17,false),(21,false),(25,true)]⟩,[(c==(215:Int))=false,
 (c==(247:Int))=false,
 (decide ((0:Int)≤c∧c≤(127:Int)))=false,
 (decide ((223:Int)≤c∧c≤(255:Int)))=false,
 (decide ((257:Int)≤c∧c≤(303:Int)))=false,
 (decide ((768:Int)≤c∧c≤(879:Int)))=false,
 (decide ((945:Int)≤c∧c≤(969:Int)))=true],Eq.trans (b:=some ((AV.c ((Value.bool true))),_)) (by kernel_rfl) (congrArg (fun r=>some (r,_)) ?_),?_⟩)
    (fun hc25=>y9_ (decide ((1072:Int)≤c∧c≤(1119:Int))) (fun hc29=>⟨⟨true,bs [(4,false),(7,false),(10,false),(13,false),(17,false),(21,false),(25,false),(29,true)]⟩,[(c==(215:Int))=false,
 (c==(247:Int))=false,
 (decide ((0:Int)≤c∧c≤(127:Int)))=false,
 (decide ((223:Int)≤c∧c≤(255:Int)))=false,
 (decide ((257:Int)≤c∧c≤(303:Int)))=false,
 (decide ((768:Int)≤c∧c≤(879:Int)))=false,
 (decide ((945:Int)≤c∧c≤(969:Int)))=false,
 (decide ((1072:Int)≤c∧c≤(1119:Int)))=true],Eq.trans (b:=some ((AV.c ((Value.bool true))),_)) (by kernel_rfl) (congrArg (fun r=>some (r,_)) ?_),?_⟩)
    (fun hc29=>y9_ (decide ((12353:Int)≤c∧c≤(12438:Int))) (fun hc33=>⟨⟨true,bs [(4,false),(7,false),(10,false),(13,false),(17,false),(21,false),(25,false),(29,false),(33,true)]⟩,[(c==(215:Int))=false,
 (c==(247:Int))=false,
 (decide ((0:Int)≤c∧c≤(127:Int)))=false,
 (decide ((223:Int)≤c∧c≤(255:Int)))=false,
 (decide ((257:Int)≤c∧c≤(303:Int)))=false,
 (decide ((768:Int)≤c∧c≤(879:Int)))=false,
 (decide ((945:Int)≤c∧c≤(969:Int)))=false,
 (decide ((1072:Int)≤c∧c≤(1119:Int)))=false,
 (decide ((12353:Int)≤c∧c≤(12438:Int)))=true],Eq.trans (b:=some ((AV.c ((Value.bool true))),_)) (by kernel_rfl) (congrArg (fun r=>some (r,_)) ?_),?_⟩)
    (fun hc33=>y9_ (decide ((12449:Int)≤c∧c≤(12538:Int))) (fun hc37=>⟨⟨true,bs [(4,false),(7,false),(10,false),(13,false),(17,false),(21,false),(25,false),(29,false),(33,false),(37,true)]⟩,[(c==(215:Int))=false,
 (c==(247:Int))=false,
 (decide ((0:Int)≤c∧c≤(127:Int)))=false,
 (decide ((223:Int)≤c∧c≤(255:Int)))=false,
 (decide ((257:Int)≤c∧c≤(303:Int)))=false,
 (decide ((768:Int)≤c∧c≤(879:Int)))=false,
 (decide ((945:Int)≤c∧c≤(969:Int)))=false,
 (decide ((1072:Int)≤c∧c≤(1119:Int)))=false,
 (decide ((12353:Int)≤c∧c≤(12438:Int)))=false,
 (decide ((12449:Int)≤c∧c≤(12538:Int)))=true],Eq.trans (b:=some ((AV.c ((Value.bool true))),_)) (by kernel_rfl) (congrArg (fun r=>some (r,_)) ?_),?_⟩)
    (fun hc37=>y9_ (decide ((19968:Int)≤c∧c≤(40959:Int))) (fun hc41=>⟨⟨true,bs [(4,false),(7,false),(10,false),(13,false),(17,false),(21,false),(25,false),(29,false),(33,false),(37,false),(41,true)]⟩,[(c==(215:Int))=false,
 (c==(247:Int))=false,
 (decide ((0:Int)≤c∧c≤(127:Int)))=false,
 (decide ((223:Int)≤c∧c≤(255:Int)))=false,
 (decide ((257:Int)≤c∧c≤(303:Int)))=false,
 (decide ((768:Int)≤c∧c≤(879:Int)))=false,
 (decide ((945:Int)≤c∧c≤(969:Int)))=false,
 (decide ((1072:Int)≤c∧c≤(1119:Int)))=false,
 (decide ((12353:Int)≤c∧c≤(12438:Int)))=false,
 (decide ((12449:Int)≤c∧c≤(12538:Int)))=false,
 (decide ((19968:Int)≤c∧c≤(40959:Int)))=true],Eq.trans (b:=some ((AV.c ((Value.bool true))),_)) (by kernel_rfl) (congrArg (fun r=>some (r,_)) ?_),?_⟩)
    (fun hc41=>y9_ (decide ((44032:Int)≤c∧c≤(55203:Int))) (fun hc45=>⟨⟨true,bs [(4,false),(7,false),(10,false),(13,false),(17,false),(21,false),(25,false),(29,false),(33,false),(37,false),(41,false),(45,true)]⟩,[(c==(215:Int))=false,
 (c==(247:Int))=false,
 (decide ((0:Int)≤c∧c≤(127:Int)))=false,
 (decide ((223:Int)≤c∧c≤(255:Int)))=false,
 (decide ((257:Int)≤c∧c≤(303:Int)))=false,
 (decide ((768:Int)≤c∧c≤(879:Int)))=false,
 (decide ((945:Int)≤c∧c≤(969:Int)))=false,
 (decide ((1072:Int)≤c∧c≤(1119:Int)))=false,
 (decide ((12353:Int)≤c∧c≤(12438:Int)))=false,
 (decide ((12449:Int)≤c∧c≤(12538:Int)))=false,
 (decide ((19968:Int)≤c∧c≤(40959:Int)))=false,
 (decide ((44032:Int)≤c∧c≤(55203:Int)))=true],Eq.trans (b:=some ((AV.c ((Value.bool true))),_)) (by kernel_rfl) (congrArg (fun r=>some (r,_)) ?_),?_⟩)
    (fun hc45=>⟨⟨true,bs [(4,false),(7,false),(10,false),(13,false),(17,false),(21,false),(25,false),(29,false),(33,false),(37,false),(41,false),(45,false)]⟩,[(c==(215:Int))=false,
 (c==(247:Int))=false,
 (decide ((0:Int)≤c∧c≤(127:Int)))=false,
 (decide ((223:Int)≤c∧c≤(255:Int)))=false,
 (decide ((257:Int)≤c∧c≤(303:Int)))=false,
 (decide ((768:Int)≤c∧c≤(879:Int)))=false,
 (decide ((945:Int)≤c∧c≤(969:Int)))=false,
 (decide ((1072:Int)≤c∧c≤(1119:Int)))=false,
 (decide ((12353:Int)≤c∧c≤(12438:Int)))=false,
 (decide ((12449:Int)≤c∧c≤(12538:Int)))=false,
 (decide ((19968:Int)≤c∧c≤(40959:Int)))=false,
 (decide ((44032:Int)≤c∧c≤(55203:Int)))=false],Eq.trans (b:=some ((AV.c ((Value.bool (decide ((127744:Int)≤c∧c≤(128511:Int)))))),_)) (by kernel_rfl) (congrArg (fun r=>some (r,_)) ?_),?_⟩))))))))))))
  all_goals try simp only[dz]at hc4
  all_goals try simp only[dz]at hc7
  all_goals try simp only[dz]at hc10
  all_goals try simp only[dz]at hc13
  all_goals try simp only[dz]at hc17
  all_goals try simp only[dz]at hc21
  all_goals try simp only[dz]at hc25
  all_goals try simp only[dz]at hc29
  all_goals try simp only[dz]at hc33
  all_goals try simp only[dz]at hc37
  all_goals try simp only[dz]at hc41
  all_goals try simp only[dz]at hc45
  any_goals(
    unfold m4_ validP
    first
      |(refine congrArg (fun b:Bool=>AV.c (.bool b)) (decide_eq_true ?_).symm;omega)
      |(refine congrArg (fun b:Bool=>AV.c (.bool b)) (decide_eq_false ?_).symm;omega)
      |(refine congrArg (fun b:Bool=>AV.c (.bool b)) (decide_eq_decide.2 ?_);omega)
    done)
  all_goals try simp(disch:=omega) only[std]
  all_goals repeat' apply And.intro
  all_goals first|exact True.intro|omega|with_reducible (first|rfl|assumption)|rfl
def vaSpec:Spec
  | [.c (.int .i64 c)]=>some (.c (.bool (m4_ c)),[])
  |_=>none
theorem rva_ok:x8_ p_ 18 vaSpec:=by
  refine w1_ mixed clZi_ok fun args r q hs hq=>?_
  unfold vaSpec at hs
  split at hs
  ·rename_i c
   simp only[oi_]at hs
   obtain⟨rfl,rfl⟩:=hs
   simp only[z7_,and_true]at hq ⊢
   obtain⟨hh,q,e,hp⟩:=rva_all c
   exact⟨_,_,_,_,z3_,e,hp⟩
  ·simp at hs
theorem rto_all (c:Int)(h0: -9223372036854775808≤c)(h1:c≤9223372036854775807):∃(h:Hints) (p:List Prop),o0_ (⟨[(0,3)],[0],[0]⟩) (z9_ p_ clZi h (y1_ ([])) 60 16 ([.c (.int .i64 c)]) [])=some (.sl 0 0 (toZ c).length,[some ⟨3,false,z4_ (toZ c)⟩],p)∧z7_ p:=by
  refine y9_ (decide ((65:Int)≤c∧c≤(90:Int))) (fun hc4=>⟨⟨true,bs [(4,true)]++([(32,⟨.c (.int .i64 (c%2)),none⟩),(79,⟨.c (.int .i64 ((c-120782)%10)),none⟩)])⟩,[(decide ((65:Int)≤c∧c≤(90:Int)))=true,
 (i64.min:Int)≤c+32,
 (c+32:Int)≤i64.max],Eq.trans (b:=some ((AV.sl 0 0 1),[(.some ⟨3,false,[(AV.c ((Value.int .i64 (c+(32:Int)))))]⟩)],_)) (by kernel_rfl) (congrArg (fun r:AV×Heap=>some (r.1,r.2,_)) (a₁:=(_,_)) (a₂:=(_,_)) ?_),?_⟩)
   (fun hc4=>y9_ (decide ((192:Int)≤c∧c≤(214:Int))) (fun hc7=>⟨⟨true,bs [(4,false),(7,true)]++([(32,⟨.c (.int .i64 (c%2)),none⟩),(79,⟨.c (.int .i64 ((c-120782)%10)),none⟩)])⟩,[(decide ((65:Int)≤c∧c≤(90:Int)))=false,
 (decide ((192:Int)≤c∧c≤(214:Int)))=true,
 (i64.min:Int)≤c+32,
 (c+32:Int)≤i64.max],Eq.trans (b:=some ((AV.sl 0 0 1),[(.some ⟨3,false,[(AV.c ((Value.int .i64 (c+(32:Int)))))]⟩)],_)) (by kernel_rfl) (congrArg (fun r:AV×Heap=>some (r.1,r.2,_)) (a₁:=(_,_)) (a₂:=(_,_)) ?_),?_⟩)
   (fun hc7=>y9_ (decide ((216:Int)≤c∧c≤(222:Int))) (fun hc11=>⟨⟨true,bs [(4,false),(7,false),(11,true)]++([(32,⟨.c (.int .i64 (c%2)),none⟩),(79,⟨.c (.int .i64 ((c-120782)%10)),none⟩)])⟩,[(decide ((65:Int)≤c∧c≤(90:Int)))=false,
 (decide ((192:Int)≤c∧c≤(214:Int)))=false,
 (decide ((216:Int)≤c∧c≤(222:Int)))=true,
 (i64.min:Int)≤c+32,
 (c+32:Int)≤i64.max],Eq.trans (b:=some ((AV.sl 0 0 1),[(.some ⟨3,false,[(AV.c ((Value.int .i64 (c+(32:Int)))))]⟩)],_)) (by kernel_rfl) (congrArg (fun r:AV×Heap=>some (r.1,r.2,_)) (a₁:=(_,_)) (a₂:=(_,_)) ?_),?_⟩)
   (fun hc11=>y9_ (decide ((913:Int)≤c∧c≤(929:Int))) (fun hc15=>⟨⟨true,bs [(4,false),(7,false),(11,false),(15,true)]++([(32,⟨.c (.int .i64 (c%2)),none⟩),(79,⟨.c (.int .i64 ((c-120782)%10)),none⟩)])⟩,[(decide ((65:Int)≤c∧c≤(90:Int)))=false,
 (decide ((192:Int)≤c∧c≤(214:Int)))=false,
 (decide ((216:Int)≤c∧c≤(222:Int)))=false,
 (decide ((913:Int)≤c∧c≤(929:Int)))=true,
 (i64.min:Int)≤c+32,
 (c+32:Int)≤i64.max],Eq.trans (b:=some ((AV.sl 0 0 1),[(.some ⟨3,false,[(AV.c ((Value.int .i64 (c+(32:Int)))))]⟩)],_)) (by kernel_rfl) (congrArg (fun r:AV×Heap=>some (r.1,r.2,_)) (a₁:=(_,_)) (a₂:=(_,_)) ?_),?_⟩)
   (fun hc15=>y9_ (decide ((931:Int)≤c∧c≤(937:Int))) (fun hc19=>⟨⟨true,bs [(4,false),(7,false),(11,false),(15,false),(19,true)]++([(32,⟨.c (.int .i64 (c%2)),none⟩),(79,⟨.c (.int .i64 ((c-120782)%10)),none⟩)])⟩,[(decide ((65:Int)≤c∧c≤(90:Int)))=false,
 (decide ((192:Int)≤c∧c≤(214:Int)))=false,
 (decide ((216:Int)≤c∧c≤(222:Int)))=false,
 (decide ((913:Int)≤c∧c≤(929:Int)))=false,
 (decide ((931:Int)≤c∧c≤(937:Int)))=true,
 (i64.min:Int)≤c+32,
 (c+32:Int)≤i64.max],Eq.trans (b:=some ((AV.sl 0 0 1),[(.some ⟨3,false,[(AV.c ((Value.int .i64 (c+(32:Int)))))]⟩)],_)) (by kernel_rfl) (congrArg (fun r:AV×Heap=>some (r.1,r.2,_)) (a₁:=(_,_)) (a₂:=(_,_)) ?_),?_⟩)
   (fun hc19=>y9_ (decide ((1040:Int)≤c∧c≤(1071:Int))) (fun hc23=>⟨⟨true,bs [(4,false),(7,false),(11,false),(15,false),(19,false),(23,true)]++([(32,⟨.c (.int .i64 (c%2)),none⟩),(79,⟨.c (.int .i64 ((c-120782)%10)),none⟩)])⟩,[(decide ((65:Int)≤c∧c≤(90:Int)))=false,
 (decide ((192:Int)≤c∧c≤(214:Int)))=false,
 (decide ((216:Int)≤c∧c≤(222:Int)))=false,
 (decide ((913:Int)≤c∧c≤(929:Int)))=false,
 (decide ((931:Int)≤c∧c≤(937:Int)))=false,
 (decide ((1040:Int)≤c∧c≤(1071:Int)))=true,
 (i64.min:Int)≤c+32,
 (c+32:Int)≤i64.max],Eq.trans (b:=some ((AV.sl 0 0 1),[(.some ⟨3,false,[(AV.c ((Value.int .i64 (c+(32:Int)))))]⟩)],_)) (by kernel_rfl) (congrArg (fun r:AV×Heap=>some (r.1,r.2,_)) (a₁:=(_,_)) (a₂:=(_,_)) ?_),?_⟩)
   (fun hc23=>y9_ (decide ((256:Int)≤c∧c≤(302:Int))) (fun hc29=>y9_ (c%(2:Int)==(0:Int)) (fun hc33=>⟨⟨true,bs [(4,false),(7,false),(11,false),(15,false),(19,false),(23,false),(29,true),(33,true)]++([(32,⟨.c (.int .i64 (c%2)),none⟩),(79,⟨.c (.int .i64 ((c-120782)%10)),none⟩)])⟩,[(decide ((65:Int)≤c∧c≤(90:Int)))=false,
 (decide ((192:Int)≤c∧c≤(214:Int)))=false,
 (decide ((216:Int)≤c∧c≤(222:Int)))=false,
 (decide ((913:Int)≤c∧c≤(929:Int)))=false,
 (decide ((931:Int)≤c∧c≤(937:Int)))=false,
 (decide ((1040:Int)≤c∧c≤(1071:Int)))=false,
 (decide ((256:Int)≤c∧c≤(302:Int)))=true,
 (c.tmod 2:Int)=c%2,
 (c%(2:Int)==(0:Int))=true,
 (i64.min:Int)≤c+1,
 (c+1:Int)≤i64.max],Eq.trans (b:=some ((AV.sl 0 0 1),[(.some ⟨3,false,[(AV.c ((Value.int .i64 (c+(1:Int)))))]⟩)],_)) (by kernel_rfl) (congrArg (fun r:AV×Heap=>some (r.1,r.2,_)) (a₁:=(_,_)) (a₂:=(_,_)) ?_),?_⟩)
   (fun hc33=>⟨⟨true,bs [(4,false),(7,false),(11,false),(15,false),(19,false),(23,false),(29,true),(33,false),(39,false),(45,false),(48,false),(49,false),(50,false),(53,false),(56,false),(59,false),(65,false),(71,false),(76,false)]++([(32,⟨.c (.int .i64 (c%2)),none⟩),(79,⟨.c (.int .i64 ((c-120782)%10)),none⟩)])⟩,[(decide ((65:Int)≤c∧c≤(90:Int)))=false,
 (decide ((192:Int)≤c∧c≤(214:Int)))=false,
 (decide ((216:Int)≤c∧c≤(222:Int)))=false,
 (decide ((913:Int)≤c∧c≤(929:Int)))=false,
 (decide ((931:Int)≤c∧c≤(937:Int)))=false,
 (decide ((1040:Int)≤c∧c≤(1071:Int)))=false,
 (decide ((256:Int)≤c∧c≤(302:Int)))=true,
 (c.tmod 2:Int)=c%2,
 (c%(2:Int)==(0:Int))=false,
 (decide ((1024:Int)≤c∧c≤(1039:Int)))=false,
 (c==(304:Int))=false,
 (c==(8228:Int))=false,
 (c==(12290:Int))=false,
 (c==(65377:Int))=false,
 (c==(8448:Int))=false,
 (c==(8453:Int))=false,
 (decide ((9312:Int)≤c∧c≤(9320:Int)))=false,
 (decide ((65313:Int)≤c∧c≤(65338:Int)))=false,
 (decide ((65281:Int)≤c∧c≤(65374:Int)))=false,
 (decide ((120782:Int)≤c∧c≤(120831:Int)))=false],Eq.trans (b:=some ((AV.sl 0 0 0),[(.some ⟨3,false,[]⟩)],_)) (by kernel_rfl) (congrArg (fun r:AV×Heap=>some (r.1,r.2,_)) (a₁:=(_,_)) (a₂:=(_,_)) ?_),?_⟩))
    (fun hc29=>y9_ (decide ((1024:Int)≤c∧c≤(1039:Int))) (fun hc39=>⟨⟨true,bs [(4,false),(7,false),(11,false),(15,false),(19,false),(23,false),(29,false),(39,true)]++([(32,⟨.c (.int .i64 (c%2)),none⟩),(79,⟨.c (.int .i64 ((c-120782)%10)),none⟩)])⟩,[(decide ((65:Int)≤c∧c≤(90:Int)))=false,
 (decide ((192:Int)≤c∧c≤(214:Int)))=false,
 (decide ((216:Int)≤c∧c≤(222:Int)))=false,
 (decide ((913:Int)≤c∧c≤(929:Int)))=false,
 (decide ((931:Int)≤c∧c≤(937:Int)))=false,
 (decide ((1040:Int)≤c∧c≤(1071:Int)))=false,
 (decide ((256:Int)≤c∧c≤(302:Int)))=false,
 (decide ((1024:Int)≤c∧c≤(1039:Int)))=true,
 (i64.min:Int)≤c+80,
 (c+80:Int)≤i64.max],Eq.trans (b:=some ((AV.sl 0 0 1),[(.some ⟨3,false,[(AV.c ((Value.int .i64 (c+(80:Int)))))]⟩)],_)) (by kernel_rfl) (congrArg (fun r:AV×Heap=>some (r.1,r.2,_)) (a₁:=(_,_)) (a₂:=(_,_)) ?_),?_⟩)
   (fun hc39=>y9_ (c==(304:Int)) (fun hc45=>⟨⟨true,bs [(4,false),(7,false),(11,false),(15,false),(19,false),(23,false),(29,false),(39,false),(45,true)]++([(32,⟨.c (.int .i64 (c%2)),none⟩),(79,⟨.c (.int .i64 ((c-120782)%10)),none⟩)])⟩,[(decide ((65:Int)≤c∧c≤(90:Int)))=false,
 (decide ((192:Int)≤c∧c≤(214:Int)))=false,
 (decide ((216:Int)≤c∧c≤(222:Int)))=false,
 (decide ((913:Int)≤c∧c≤(929:Int)))=false,
 (decide ((931:Int)≤c∧c≤(937:Int)))=false,
 (decide ((1040:Int)≤c∧c≤(1071:Int)))=false,
 (decide ((256:Int)≤c∧c≤(302:Int)))=false,
 (decide ((1024:Int)≤c∧c≤(1039:Int)))=false,
 (c==(304:Int))=true],Eq.trans (b:=some ((AV.sl 0 0 2),[(.some ⟨3,false,[(AV.c ((Value.int .i64 105))),
 (AV.c ((Value.int .i64 775)))]⟩)],_)) (by kernel_rfl) (congrArg (fun r:AV×Heap=>some (r.1,r.2,_)) (a₁:=(_,_)) (a₂:=(_,_)) ?_),?_⟩)
    (fun hc45=>y9_ (c==(8228:Int)) (fun hc48=>⟨⟨true,bs [(4,false),(7,false),(11,false),(15,false),(19,false),(23,false),(29,false),(39,false),(45,false),(48,true)]++([(32,⟨.c (.int .i64 (c%2)),none⟩),(79,⟨.c (.int .i64 ((c-120782)%10)),none⟩)])⟩,[(decide ((65:Int)≤c∧c≤(90:Int)))=false,
 (decide ((192:Int)≤c∧c≤(214:Int)))=false,
 (decide ((216:Int)≤c∧c≤(222:Int)))=false,
 (decide ((913:Int)≤c∧c≤(929:Int)))=false,
 (decide ((931:Int)≤c∧c≤(937:Int)))=false,
 (decide ((1040:Int)≤c∧c≤(1071:Int)))=false,
 (decide ((256:Int)≤c∧c≤(302:Int)))=false,
 (decide ((1024:Int)≤c∧c≤(1039:Int)))=false,
 (c==(304:Int))=false,
 (c==(8228:Int))=true],Eq.trans (b:=some ((AV.sl 0 0 1),[(.some ⟨3,false,[(AV.c ((Value.int .i64 46)))]⟩)],_)) (by kernel_rfl) (congrArg (fun r:AV×Heap=>some (r.1,r.2,_)) (a₁:=(_,_)) (a₂:=(_,_)) ?_),?_⟩)
   (fun hc48=>y9_ (c==(12290:Int)) (fun hc49=>⟨⟨true,bs [(4,false),(7,false),(11,false),(15,false),(19,false),(23,false),(29,false),(39,false),(45,false),(48,false),(49,true)]++([(32,⟨.c (.int .i64 (c%2)),none⟩),(79,⟨.c (.int .i64 ((c-120782)%10)),none⟩)])⟩,[(decide ((65:Int)≤c∧c≤(90:Int)))=false,
 (decide ((192:Int)≤c∧c≤(214:Int)))=false,
 (decide ((216:Int)≤c∧c≤(222:Int)))=false,
 (decide ((913:Int)≤c∧c≤(929:Int)))=false,
 (decide ((931:Int)≤c∧c≤(937:Int)))=false,
 (decide ((1040:Int)≤c∧c≤(1071:Int)))=false,
 (decide ((256:Int)≤c∧c≤(302:Int)))=false,
 (decide ((1024:Int)≤c∧c≤(1039:Int)))=false,
 (c==(304:Int))=false,
 (c==(8228:Int))=false,
 (c==(12290:Int))=true],Eq.trans (b:=some ((AV.sl 0 0 1),[(.some ⟨3,false,[(AV.c ((Value.int .i64 46)))]⟩)],_)) (by kernel_rfl) (congrArg (fun r:AV×Heap=>some (r.1,r.2,_)) (a₁:=(_,_)) (a₂:=(_,_)) ?_),?_⟩)
   (fun hc49=>y9_ (c==(65377:Int)) (fun hc50=>⟨⟨true,bs [(4,false),(7,false),(11,false),(15,false),(19,false),(23,false),(29,false),(39,false),(45,false),(48,false),(49,false),(50,true)]++([(32,⟨.c (.int .i64 (c%2)),none⟩),(79,⟨.c (.int .i64 ((c-120782)%10)),none⟩)])⟩,[(decide ((65:Int)≤c∧c≤(90:Int)))=false,
 (decide ((192:Int)≤c∧c≤(214:Int)))=false,
 (decide ((216:Int)≤c∧c≤(222:Int)))=false,
 (decide ((913:Int)≤c∧c≤(929:Int)))=false,
 (decide ((931:Int)≤c∧c≤(937:Int)))=false,
 (decide ((1040:Int)≤c∧c≤(1071:Int)))=false,
 (decide ((256:Int)≤c∧c≤(302:Int)))=false,
 (decide ((1024:Int)≤c∧c≤(1039:Int)))=false,
 (c==(304:Int))=false,
 (c==(8228:Int))=false,
 (c==(12290:Int))=false,
 (c==(65377:Int))=true],Eq.trans (b:=some ((AV.sl 0 0 1),[(.some ⟨3,false,[(AV.c ((Value.int .i64 46)))]⟩)],_)) (by kernel_rfl) (congrArg (fun r:AV×Heap=>some (r.1,r.2,_)) (a₁:=(_,_)) (a₂:=(_,_)) ?_),?_⟩)
   (fun hc50=>y9_ (c==(8448:Int)) (fun hc53=>⟨⟨true,bs [(4,false),(7,false),(11,false),(15,false),(19,false),(23,false),(29,false),(39,false),(45,false),(48,false),(49,false),(50,false),(53,true)]++([(32,⟨.c (.int .i64 (c%2)),none⟩),(79,⟨.c (.int .i64 ((c-120782)%10)),none⟩)])⟩,[(decide ((65:Int)≤c∧c≤(90:Int)))=false,
 (decide ((192:Int)≤c∧c≤(214:Int)))=false,
 (decide ((216:Int)≤c∧c≤(222:Int)))=false,
 (decide ((913:Int)≤c∧c≤(929:Int)))=false,
 (decide ((931:Int)≤c∧c≤(937:Int)))=false,
 (decide ((1040:Int)≤c∧c≤(1071:Int)))=false,
 (decide ((256:Int)≤c∧c≤(302:Int)))=false,
 (decide ((1024:Int)≤c∧c≤(1039:Int)))=false,
 (c==(304:Int))=false,
 (c==(8228:Int))=false,
 (c==(12290:Int))=false,
 (c==(65377:Int))=false,
 (c==(8448:Int))=true],Eq.trans (b:=some ((AV.sl 0 0 3),[(.some ⟨3,false,[(AV.c ((Value.int .i64 97))),
 (AV.c ((Value.int .i64 47))),
 (AV.c ((Value.int .i64 99)))]⟩)],_)) (by kernel_rfl) (congrArg (fun r:AV×Heap=>some (r.1,r.2,_)) (a₁:=(_,_)) (a₂:=(_,_)) ?_),?_⟩)
    (fun hc53=>y9_ (c==(8453:Int)) (fun hc56=>⟨⟨true,bs [(4,false),(7,false),(11,false),(15,false),(19,false),(23,false),(29,false),(39,false),(45,false),(48,false),(49,false),(50,false),(53,false),(56,true)]++([(32,⟨.c (.int .i64 (c%2)),none⟩),(79,⟨.c (.int .i64 ((c-120782)%10)),none⟩)])⟩,[(decide ((65:Int)≤c∧c≤(90:Int)))=false,
 (decide ((192:Int)≤c∧c≤(214:Int)))=false,
 (decide ((216:Int)≤c∧c≤(222:Int)))=false,
 (decide ((913:Int)≤c∧c≤(929:Int)))=false,
 (decide ((931:Int)≤c∧c≤(937:Int)))=false,
 (decide ((1040:Int)≤c∧c≤(1071:Int)))=false,
 (decide ((256:Int)≤c∧c≤(302:Int)))=false,
 (decide ((1024:Int)≤c∧c≤(1039:Int)))=false,
 (c==(304:Int))=false,
 (c==(8228:Int))=false,
 (c==(12290:Int))=false,
 (c==(65377:Int))=false,
 (c==(8448:Int))=false,
 (c==(8453:Int))=true],Eq.trans (b:=some ((AV.sl 0 0 3),[(.some ⟨3,false,[(AV.c ((Value.int .i64 99))),
 (AV.c ((Value.int .i64 47))),
 (AV.c ((Value.int .i64 111)))]⟩)],_)) (by kernel_rfl) (congrArg (fun r:AV×Heap=>some (r.1,r.2,_)) (a₁:=(_,_)) (a₂:=(_,_)) ?_),?_⟩)
    (fun hc56=>y9_ (decide ((9312:Int)≤c∧c≤(9320:Int))) (fun hc59=>⟨⟨true,bs [(4,false),(7,false),(11,false),(15,false),(19,false),(23,false),(29,false),(39,false),(45,false),(48,false),(49,false),(50,false),(53,false),(56,false),(59,true)]++([(32,⟨.c (.int .i64 (c%2)),none⟩),(79,⟨.c (.int .i64 ((c-120782)%10)),none⟩)])⟩,[(decide ((65:Int)≤c∧c≤(90:Int)))=false,
 (decide ((192:Int)≤c∧c≤(214:Int)))=false,
 (decide ((216:Int)≤c∧c≤(222:Int)))=false,
 (decide ((913:Int)≤c∧c≤(929:Int)))=false,
 (decide ((931:Int)≤c∧c≤(937:Int)))=false,
 (decide ((1040:Int)≤c∧c≤(1071:Int)))=false,
 (decide ((256:Int)≤c∧c≤(302:Int)))=false,
 (decide ((1024:Int)≤c∧c≤(1039:Int)))=false,
 (c==(304:Int))=false,
 (c==(8228:Int))=false,
 (c==(12290:Int))=false,
 (c==(65377:Int))=false,
 (c==(8448:Int))=false,
 (c==(8453:Int))=false,
 (decide ((9312:Int)≤c∧c≤(9320:Int)))=true,
 (i64.min:Int)≤c-9312,
 (c-9312:Int)≤i64.max,
 (i64.min:Int)≤c-9312+49,
 (c-9312+49:Int)≤i64.max],Eq.trans (b:=some ((AV.sl 0 0 1),[(.some ⟨3,false,[(AV.c ((Value.int .i64 (c-(9312:Int)+(49:Int)))))]⟩)],_)) (by kernel_rfl) (congrArg (fun r:AV×Heap=>some (r.1,r.2,_)) (a₁:=(_,_)) (a₂:=(_,_)) ?_),?_⟩)
   (fun hc59=>y9_ (decide ((65313:Int)≤c∧c≤(65338:Int))) (fun hc65=>⟨⟨true,bs [(4,false),(7,false),(11,false),(15,false),(19,false),(23,false),(29,false),(39,false),(45,false),(48,false),(49,false),(50,false),(53,false),(56,false),(59,false),(65,true)]++([(32,⟨.c (.int .i64 (c%2)),none⟩),(79,⟨.c (.int .i64 ((c-120782)%10)),none⟩)])⟩,[(decide ((65:Int)≤c∧c≤(90:Int)))=false,
 (decide ((192:Int)≤c∧c≤(214:Int)))=false,
 (decide ((216:Int)≤c∧c≤(222:Int)))=false,
 (decide ((913:Int)≤c∧c≤(929:Int)))=false,
 (decide ((931:Int)≤c∧c≤(937:Int)))=false,
 (decide ((1040:Int)≤c∧c≤(1071:Int)))=false,
 (decide ((256:Int)≤c∧c≤(302:Int)))=false,
 (decide ((1024:Int)≤c∧c≤(1039:Int)))=false,
 (c==(304:Int))=false,
 (c==(8228:Int))=false,
 (c==(12290:Int))=false,
 (c==(65377:Int))=false,
 (c==(8448:Int))=false,
 (c==(8453:Int))=false,
 (decide ((9312:Int)≤c∧c≤(9320:Int)))=false,
 (decide ((65313:Int)≤c∧c≤(65338:Int)))=true,
 (i64.min:Int)≤c-65248,
 (c-65248:Int)≤i64.max,
 (i64.min:Int)≤c-65248+32,
 (c-65248+32:Int)≤i64.max],Eq.trans (b:=some ((AV.sl 0 0 1),[(.some ⟨3,false,[(AV.c ((Value.int .i64 (c-(65248:Int)+(32:Int)))))]⟩)],_)) (by kernel_rfl) (congrArg (fun r:AV×Heap=>some (r.1,r.2,_)) (a₁:=(_,_)) (a₂:=(_,_)) ?_),?_⟩)
   (fun hc65=>y9_ (decide ((65281:Int)≤c∧c≤(65374:Int))) (fun hc71=>⟨⟨true,bs [(4,false),(7,false),(11,false),(15,false),(19,false),(23,false),(29,false),(39,false),(45,false),(48,false),(49,false),(50,false),(53,false),(56,false),(59,false),(65,false),(71,true)]++([(32,⟨.c (.int .i64 (c%2)),none⟩),(79,⟨.c (.int .i64 ((c-120782)%10)),none⟩)])⟩,[(decide ((65:Int)≤c∧c≤(90:Int)))=false,
 (decide ((192:Int)≤c∧c≤(214:Int)))=false,
 (decide ((216:Int)≤c∧c≤(222:Int)))=false,
 (decide ((913:Int)≤c∧c≤(929:Int)))=false,
 (decide ((931:Int)≤c∧c≤(937:Int)))=false,
 (decide ((1040:Int)≤c∧c≤(1071:Int)))=false,
 (decide ((256:Int)≤c∧c≤(302:Int)))=false,
 (decide ((1024:Int)≤c∧c≤(1039:Int)))=false,
 (c==(304:Int))=false,
 (c==(8228:Int))=false,
 (c==(12290:Int))=false,
 (c==(65377:Int))=false,
 (c==(8448:Int))=false,
 (c==(8453:Int))=false,
 (decide ((9312:Int)≤c∧c≤(9320:Int)))=false,
 (decide ((65313:Int)≤c∧c≤(65338:Int)))=false,
 (decide ((65281:Int)≤c∧c≤(65374:Int)))=true,
 (i64.min:Int)≤c-65248,
 (c-65248:Int)≤i64.max],Eq.trans (b:=some ((AV.sl 0 0 1),[(.some ⟨3,false,[(AV.c ((Value.int .i64 (c-(65248:Int)))))]⟩)],_)) (by kernel_rfl) (congrArg (fun r:AV×Heap=>some (r.1,r.2,_)) (a₁:=(_,_)) (a₂:=(_,_)) ?_),?_⟩)
   (fun hc71=>y9_ (decide ((120782:Int)≤c∧c≤(120831:Int))) (fun hc76=>⟨⟨true,bs [(4,false),(7,false),(11,false),(15,false),(19,false),(23,false),(29,false),(39,false),(45,false),(48,false),(49,false),(50,false),(53,false),(56,false),(59,false),(65,false),(71,false),(76,true)]++([(32,⟨.c (.int .i64 (c%2)),none⟩),(79,⟨.c (.int .i64 ((c-120782)%10)),none⟩)])⟩,[(decide ((65:Int)≤c∧c≤(90:Int)))=false,
 (decide ((192:Int)≤c∧c≤(214:Int)))=false,
 (decide ((216:Int)≤c∧c≤(222:Int)))=false,
 (decide ((913:Int)≤c∧c≤(929:Int)))=false,
 (decide ((931:Int)≤c∧c≤(937:Int)))=false,
 (decide ((1040:Int)≤c∧c≤(1071:Int)))=false,
 (decide ((256:Int)≤c∧c≤(302:Int)))=false,
 (decide ((1024:Int)≤c∧c≤(1039:Int)))=false,
 (c==(304:Int))=false,
 (c==(8228:Int))=false,
 (c==(12290:Int))=false,
 (c==(65377:Int))=false,
 (c==(8448:Int))=false,
 (c==(8453:Int))=false,
 (decide ((9312:Int)≤c∧c≤(9320:Int)))=false,
 (decide ((65313:Int)≤c∧c≤(65338:Int)))=false,
 (decide ((65281:Int)≤c∧c≤(65374:Int)))=false,
 (decide ((120782:Int)≤c∧c≤(120831:Int)))=true,
 (i64.min:Int)≤c-120782,
 (c-120782:Int)≤i64.max,
 ((c-120782).tmod 10:Int)=(c-120782)%10,
 (i64.min:Int)≤48+(c-120782)%10,
 (48+(c-120782)%10:Int)≤i64.max],Eq.trans (b:=some ((AV.sl 0 0 1),[(.some ⟨3,false,[(AV.c ((Value.int .i64 ((48:Int)+(c-(120782:Int))%(10:Int)))))]⟩)],_)) (by kernel_rfl) (congrArg (fun r:AV×Heap=>some (r.1,r.2,_)) (a₁:=(_,_)) (a₂:=(_,_)) ?_),?_⟩)
    (fun hc76=>⟨⟨true,bs [(4,false),(7,false),(11,false),(15,false),(19,false),(23,false),(29,false),(39,false),(45,false),(48,false),(49,false),(50,false),(53,false),(56,false),(59,false),(65,false),(71,false),(76,false)]++([(32,⟨.c (.int .i64 (c%2)),none⟩),(79,⟨.c (.int .i64 ((c-120782)%10)),none⟩)])⟩,[(decide ((65:Int)≤c∧c≤(90:Int)))=false,
 (decide ((192:Int)≤c∧c≤(214:Int)))=false,
 (decide ((216:Int)≤c∧c≤(222:Int)))=false,
 (decide ((913:Int)≤c∧c≤(929:Int)))=false,
 (decide ((931:Int)≤c∧c≤(937:Int)))=false,
 (decide ((1040:Int)≤c∧c≤(1071:Int)))=false,
 (decide ((256:Int)≤c∧c≤(302:Int)))=false,
 (decide ((1024:Int)≤c∧c≤(1039:Int)))=false,
 (c==(304:Int))=false,
 (c==(8228:Int))=false,
 (c==(12290:Int))=false,
 (c==(65377:Int))=false,
 (c==(8448:Int))=false,
 (c==(8453:Int))=false,
 (decide ((9312:Int)≤c∧c≤(9320:Int)))=false,
 (decide ((65313:Int)≤c∧c≤(65338:Int)))=false,
 (decide ((65281:Int)≤c∧c≤(65374:Int)))=false,
 (decide ((120782:Int)≤c∧c≤(120831:Int)))=false],Eq.trans (b:=some ((AV.sl 0 0 0),[(.some ⟨3,false,[]⟩)],_)) (by kernel_rfl) (congrArg (fun r:AV×Heap=>some (r.1,r.2,_)) (a₁:=(_,_)) (a₂:=(_,_)) ?_),?_⟩))))))))))))))))))
  all_goals try simp only[dz]at hc4
  all_goals try simp only[dz]at hc7
  all_goals try simp only[dz]at hc11
  all_goals try simp only[dz]at hc15
  all_goals try simp only[dz]at hc19
  all_goals try simp only[dz]at hc23
  all_goals try simp only[dz]at hc29
  all_goals try simp only[dz]at hc33
  all_goals try simp only[dz]at hc39
  all_goals try simp only[dz]at hc45
  all_goals try simp only[dz]at hc48
  all_goals try simp only[dz]at hc49
  all_goals try simp only[dz]at hc50
  all_goals try simp only[dz]at hc53
  all_goals try simp only[dz]at hc56
  all_goals try simp only[dz]at hc59
  all_goals try simp only[dz]at hc65
  all_goals try simp only[dz]at hc71
  all_goals try simp only[dz]at hc76
  any_goals(
    unfold toZ
    repeat(first|rw[if_pos (by omega)]|rw[if_neg (by omega)])
    rfl
    done)
  all_goals try simp(disch:=omega) only[std]
  all_goals repeat' apply And.intro
  all_goals first|exact True.intro|omega|with_reducible (first|rfl|assumption)|rfl
def toSpec8:HSpec
  | [.c (.int .i64 c)],[]=>some (.sl 0 0 (toZ c).length,[some ⟨3,false,z4_ (toZ c)⟩],[-9223372036854775808≤c,c≤9223372036854775807])
  |_,_=>none
theorem rto_ok:u1_ p_ 16 toSpec8:=by
  refine hspec_new mixed clZi_ok fun args hp r hp' q hs hq=>?_
  unfold toSpec8 at hs
  split at hs
  ·rename_i c
   simp only[oi_]at hs
   obtain⟨rfl,rfl,rfl⟩:=hs
   obtain⟨h1,h2,_⟩:=hq
   obtain⟨hh,p,e,hp⟩:=rto_all c h1 h2
   exact⟨rfl,_,_,_,_,_,by decide,z3_,e,hp⟩
  ·simp at hs
noncomputable def clZm:CallT:=q7_ p_ (t4_ [(17,joinSpec),(19,e4_),(18,vaSpec)]) (n0_ [(16,toSpec8)]) 500 8
theorem clZm_ok:x3_ p_ clZm:=s1_ mixed (y4_ rjoin_ok (y4_ rsign_ok (y4_ rva_ok w3_))) (w9_ rto_ok s5_) 500 8
theorem rmp_all (c:Int)(z:List UInt8)(h0: -9223372036854775808≤c)(h1:c≤9223372036854775807)(hl:(toZ c).length≤3)(hr:s9_ (toZ c))(hz:join (sgL (toZ c))=z):∃(h:Hints) (p:List Prop),y0_ p_ 6 (z9_ p_ clZm h (y1_ ([])) 60 6 ([.c (.int .i64 c)]) ([]))=some (.tu [.c (str (s0_ c)),.c (.int .i64 (w8_ c))],p)∧z7_ p:=by
  refine y9_ (decide ((↑(toZ c).length:Int)>(0:Int))) (fun hc9=>⟨⟨true,bs [(9,true)]++([(11,⟨.c (str z),none⟩)])⟩,[(-9223372036854775808:Int)≤c,
 (c:Int)≤9223372036854775807,
 (decide ((↑(toZ c).length:Int)>(0:Int)))=true,
 ((p_.cellsOf (3:TypeId):Nat))=((1:Nat)),
 ((List.take (toZ c).length (List.drop (0:Nat) (z4_ (toZ c))):List AV))=(ints (unints (List.take (toZ c).length (List.drop (0:Nat) (z4_ (toZ c)))))),
 (((toZ c).length:Nat))=((unints (List.take (toZ c).length (List.drop (0:Nat) (z4_ (toZ c))))).length),
 (((toZ c).length:Nat)≤((1000000000:Nat))),
 s9_ (unints (List.take (toZ c).length (List.drop (0:Nat) (z4_ (toZ c))))),
 (t8_ [] (AV.c (str (join (sgL (unints (List.take (toZ c).length (List.drop (0:Nat) (z4_ (toZ c))))))))))=true,
 ((join (sgL (unints (List.take (toZ c).length (List.drop (0:Nat) (z4_ (toZ c)))))):List UInt8))=(z)],Eq.trans (b:=some ((AV.tu [(AV.c ((str (z)))),
 (AV.c ((Value.int .i64 2)))]),_)) (by kernel_rfl) (congrArg (fun r=>some (r,_)) ?_),?_⟩)
    (fun hc9=>y9_ (c==(173:Int)) (fun hc13=>⟨⟨true,bs [(9,false),(13,true)]++([(11,⟨.c (str z),none⟩)])⟩,[(-9223372036854775808:Int)≤c,
 (c:Int)≤9223372036854775807,
 (decide ((↑(toZ c).length:Int)>(0:Int)))=false,
 (c==(173:Int))=true],Eq.trans (b:=some ((AV.tu [(AV.c ((str ([])))),
 (AV.c ((Value.int .i64 3)))]),_)) (by kernel_rfl) (congrArg (fun r=>some (r,_)) ?_),?_⟩)
    (fun hc13=>y9_ (c==(8203:Int)) (fun hc16=>⟨⟨true,bs [(9,false),(13,false),(16,true)]++([(11,⟨.c (str z),none⟩)])⟩,[(-9223372036854775808:Int)≤c,
 (c:Int)≤9223372036854775807,
 (decide ((↑(toZ c).length:Int)>(0:Int)))=false,
 (c==(173:Int))=false,
 (c==(8203:Int))=true],Eq.trans (b:=some ((AV.tu [(AV.c ((str ([])))),
 (AV.c ((Value.int .i64 3)))]),_)) (by kernel_rfl) (congrArg (fun r=>some (r,_)) ?_),?_⟩)
    (fun hc16=>y9_ (c==(8288:Int)) (fun hc20=>⟨⟨true,bs [(9,false),(13,false),(16,false),(20,true)]++([(11,⟨.c (str z),none⟩)])⟩,[(-9223372036854775808:Int)≤c,
 (c:Int)≤9223372036854775807,
 (decide ((↑(toZ c).length:Int)>(0:Int)))=false,
 (c==(173:Int))=false,
 (c==(8203:Int))=false,
 (c==(8288:Int))=true],Eq.trans (b:=some ((AV.tu [(AV.c ((str ([])))),
 (AV.c ((Value.int .i64 3)))]),_)) (by kernel_rfl) (congrArg (fun r=>some (r,_)) ?_),?_⟩)
    (fun hc20=>y9_ (c==(65279:Int)) (fun hc24=>⟨⟨true,bs [(9,false),(13,false),(16,false),(20,false),(24,true)]++([(11,⟨.c (str z),none⟩)])⟩,[(-9223372036854775808:Int)≤c,
 (c:Int)≤9223372036854775807,
 (decide ((↑(toZ c).length:Int)>(0:Int)))=false,
 (c==(173:Int))=false,
 (c==(8203:Int))=false,
 (c==(8288:Int))=false,
 (c==(65279:Int))=true],Eq.trans (b:=some ((AV.tu [(AV.c ((str ([])))),
 (AV.c ((Value.int .i64 3)))]),_)) (by kernel_rfl) (congrArg (fun r=>some (r,_)) ?_),?_⟩)
    (fun hc24=>y9_ (m4_ c) (fun hc27=>⟨⟨true,bs [(9,false),(13,false),(16,false),(20,false),(24,false),(27,true)]++([(11,⟨.c (str z),none⟩)])⟩,[(-9223372036854775808:Int)≤c,
 (c:Int)≤9223372036854775807,
 (decide ((↑(toZ c).length:Int)>(0:Int)))=false,
 (c==(173:Int))=false,
 (c==(8203:Int))=false,
 (c==(8288:Int))=false,
 (c==(65279:Int))=false,
 (m4_ c)=true,
 (-9223372036854775808:Int)≤c,
 (c:Int)≤9223372036854775807],Eq.trans (b:=some ((AV.tu [(AV.c ((str (y5_ (sgn c))))),
 (AV.c ((Value.int .i64 1)))]),_)) (by kernel_rfl) (congrArg (fun r=>some (r,_)) ?_),?_⟩)
    (fun hc27=>⟨⟨true,bs [(9,false),(13,false),(16,false),(20,false),(24,false),(27,false)]++([(11,⟨.c (str z),none⟩)])⟩,[(-9223372036854775808:Int)≤c,
 (c:Int)≤9223372036854775807,
 (decide ((↑(toZ c).length:Int)>(0:Int)))=false,
 (c==(173:Int))=false,
 (c==(8203:Int))=false,
 (c==(8288:Int))=false,
 (c==(65279:Int))=false,
 (m4_ c)=false],Eq.trans (b:=some ((AV.tu [(AV.c ((str ([])))),
 (AV.c ((Value.int .i64 0)))]),_)) (by kernel_rfl) (congrArg (fun r=>some (r,_)) ?_),?_⟩))))))
  all_goals try simp only[dz]at hc9
  all_goals try simp only[dz]at hc13
  all_goals try simp only[dz]at hc16
  all_goals try simp only[dz]at hc20
  all_goals try simp only[dz]at hc24
  all_goals try simp only[dz]at hc27
  any_goals(
    unfold s0_ w8_
    first
      |(have h:toZ c≠[]:=List.length_pos_iff.1 (by omega)
        rw[if_pos h,if_pos h,hz];done)
      |(have h:¬(toZ c≠[]):=fun e=>by have:=List.length_pos_iff.2 e;omega
        rw[if_neg h,if_neg h]
        first
          |(have g:m0_ c:=by unfold m0_;omega
            rw[if_pos g,if_pos g];done)
          |(have g:¬m0_ c:=by unfold m0_;omega
            rw[if_neg g,if_neg g,if_pos hc27,if_pos hc27];done)
          |(have g:¬m0_ c:=by unfold m0_;omega
            rw[if_neg g,if_neg g,hc27];rfl))
    done)
  all_goals try simp(disch:=omega) only[std,rowN_tk,v8_,v0_]
  all_goals repeat' apply And.intro
  all_goals first|exact True.intro|omega|with_reducible (first|rfl|assumption)|exact hr|exact hz|rfl
theorem rmap_ok:x8_ p_ 6 h8_:=by
  refine w1_ mixed clZm_ok fun args r q hs hq=>?_
  unfold h8_ at hs
  split at hs
  ·rename_i c
   simp only[oi_]at hs
   obtain⟨rfl,rfl⟩:=hs
   simp only[z7_,and_true]at hq ⊢
   obtain⟨h1,h2⟩:=hq
   obtain⟨hh,q,e,hp⟩:=rmp_all c _ h1 h2 (toZ_len c) (toZ_rng c) rfl
   exact⟨_,_,_,_,z3_,e,hp⟩
  ·simp at hs
end Go.Proofs.YtmjldphagbobpaaGreatDoor
namespace Go.Proofs.YtmjldphagbobpaaGreatDoor
open IntKind (i64 u8 i32 u32 u64)
open _root_.Go.Proofs.Tryz renaming prog→p_
open Go.RowKit U8 Idn
set_option maxRecDepth 100000
noncomputable def clZl:CallT:=q4_ p_ (t4_ [(6,h8_),(27,inSpec)]) 500 8
theorem clZl_ok:x3_ p_ clZl:=t3_ mixed (y4_ rmap_ok (y4_ rin_ok w3_)) 500 8
def laS (C:List AV)(k:Nat)(m:Bool)(i:Nat):St:=⟨frame 46 [(0,.fs 1 k C),(3,.c (.bool m)),(4,.c (.int .i64 i))],[]⟩
def laR:St:=⟨frame 46 [(2,.c (.bool false))],[]⟩
noncomputable def laA_B (C:List AV)(k:Nat)(m m1:Bool)(i:Nat)(z kk:Int):List (Nat×Hint):=bs [(10,true),(29,false)]++[(17,⟨.c (.int .i64 z),none⟩),(20,⟨.c (.int .i64 kk),none⟩),(27,⟨.c (.int .i64 z),none⟩),(35,⟨.c (.int .i64 z),none⟩),(37,⟨.c (.bool m1),none⟩)]
theorem laA_all (C:List AV)(k:Nat)(m m1:Bool)(i:Nat)(z kk:Int)(hi:i<k)(hat:y2_ ((C.drop i).headD .any) (.c (.int .i64 z)))(hk:w8_ z=kk)(hk1:kk=1)(hz:¬z=46)(hm:Bool.or m (decide (z>127))=m1)(hl:k≤1000000000)(hC:C.length=k)(z1: -9223372036854775808≤z)(z2:z≤9223372036854775807):y7_ Ext0 p_ clZl (z2_ p_ 10 3) (laS C k m i) (.normal) (laS C k m1 (i+1)):=by
  refine y9_ (kk !=(1:Int)) (fun hc22=>y9_ (m) (fun hc31=>⟨⟨true,bs [(22,true),(31,true)]++laA_B C k m m1 i z kk⟩,_,60,⟨[],[0,3,4],[]⟩,[decide ((↑i:Int)<↑k)=true,
 (0:Int)≤↑i,
 (↑i:Int)<↑k,
 (((0:Nat):Nat)<((List.drop i C).length)),
 y2_ ((List.drop i C).headD AV.any) ((AV.c ((Value.int .i64 z)))),
 (-9223372036854775808:Int)≤z,
 (z:Int)≤9223372036854775807,
 ((w8_ z:Int))=(kk),
 (kk !=(1:Int))=true,
 (true)=false,
 (m)=true,
 ((true:Bool))=(m1),
 (i64.min:Int)≤↑i+1,
 (↑i+1:Int)≤i64.max],z3_,by decide,by kernel_rfl,?_⟩)
    (fun hc31=>⟨⟨true,bs [(22,true),(31,false)]++laA_B C k m m1 i z kk⟩,_,60,⟨[],[0,3,4],[]⟩,[decide ((↑i:Int)<↑k)=true,
 (0:Int)≤↑i,
 (↑i:Int)<↑k,
 (((0:Nat):Nat)<((List.drop i C).length)),
 y2_ ((List.drop i C).headD AV.any) ((AV.c ((Value.int .i64 z)))),
 (-9223372036854775808:Int)≤z,
 (z:Int)≤9223372036854775807,
 ((w8_ z:Int))=(kk),
 (kk !=(1:Int))=true,
 (true)=false,
 (m)=false,
 (0:Int)≤↑i,
 (↑i:Int)<↑k,
 (((0:Nat):Nat)<((List.drop i C).length)),
 y2_ ((List.drop i C).headD AV.any) ((AV.c ((Value.int .i64 z)))),
 ((decide (z>(127:Int)):Bool))=(m1),
 (i64.min:Int)≤↑i+1,
 (↑i+1:Int)≤i64.max],z3_,by decide,by kernel_rfl,?_⟩))
    (fun hc22=>y9_ (m) (fun hc31=>⟨⟨true,bs [(22,false),(31,true)]++laA_B C k m m1 i z kk⟩,_,60,⟨[],[0,3,4],[]⟩,[decide ((↑i:Int)<↑k)=true,
 (0:Int)≤↑i,
 (↑i:Int)<↑k,
 (((0:Nat):Nat)<((List.drop i C).length)),
 y2_ ((List.drop i C).headD AV.any) ((AV.c ((Value.int .i64 z)))),
 (-9223372036854775808:Int)≤z,
 (z:Int)≤9223372036854775807,
 ((w8_ z:Int))=(kk),
 (kk !=(1:Int))=false,
 (0:Int)≤↑i,
 (↑i:Int)<↑k,
 (((0:Nat):Nat)<((List.drop i C).length)),
 y2_ ((List.drop i C).headD AV.any) ((AV.c ((Value.int .i64 z)))),
 (z==(46:Int))=false,
 (m)=true,
 ((true:Bool))=(m1),
 (i64.min:Int)≤↑i+1,
 (↑i+1:Int)≤i64.max],z3_,by decide,by kernel_rfl,?_⟩)
    (fun hc31=>⟨⟨true,bs [(22,false),(31,false)]++laA_B C k m m1 i z kk⟩,_,60,⟨[],[0,3,4],[]⟩,[decide ((↑i:Int)<↑k)=true,
 (0:Int)≤↑i,
 (↑i:Int)<↑k,
 (((0:Nat):Nat)<((List.drop i C).length)),
 y2_ ((List.drop i C).headD AV.any) ((AV.c ((Value.int .i64 z)))),
 (-9223372036854775808:Int)≤z,
 (z:Int)≤9223372036854775807,
 ((w8_ z:Int))=(kk),
 (kk !=(1:Int))=false,
 (0:Int)≤↑i,
 (↑i:Int)<↑k,
 (((0:Nat):Nat)<((List.drop i C).length)),
 y2_ ((List.drop i C).headD AV.any) ((AV.c ((Value.int .i64 z)))),
 (z==(46:Int))=false,
 (m)=false,
 (0:Int)≤↑i,
 (↑i:Int)<↑k,
 (((0:Nat):Nat)<((List.drop i C).length)),
 y2_ ((List.drop i C).headD AV.any) ((AV.c ((Value.int .i64 z)))),
 ((decide (z>(127:Int)):Bool))=(m1),
 (i64.min:Int)≤↑i+1,
 (↑i+1:Int)≤i64.max],z3_,by decide,by kernel_rfl,?_⟩))
  all_goals try simp only[dz]at hc22
  all_goals try simp only[dz]at hc31
  all_goals try simp(disch:=omega) only[std,List.length_drop,hC]
  all_goals repeat' apply And.intro
  all_goals first|exact True.intro|omega|with_reducible (first|rfl|assumption)|(rw[←hm,hc31];rfl)|(rw[hc31]at hm;exact hm)|exact hat|exact hk|exact hk1|exact hz|exact hC|rfl
theorem laB_all (C:List AV)(k:Nat)(m m1:Bool)(i:Nat)(z kk:Int)(hi:i<k)(hat:y2_ ((C.drop i).headD .any) (.c (.int .i64 z)))(hk:w8_ z=kk)(hb:kk=1→z=46)(hl:k≤1000000000)(hC:C.length=k)(z1: -9223372036854775808≤z)(z2:z≤9223372036854775807):y7_ Ext0 p_ clZl (z2_ p_ 10 3) (laS C k m i) (.ret) (laR):=by
  refine y9_ (kk !=(1:Int)) (fun hc22=>⟨⟨true,bs [(22,true)]++(bs [(10,true),(29,true)]++[(17,⟨.c (.int .i64 z),none⟩),(20,⟨.c (.int .i64 kk),none⟩),(27,⟨.c (.int .i64 z),none⟩),(35,⟨.c (.int .i64 z),none⟩),(37,⟨.c (.bool m1),none⟩)])⟩,_,60,⟨[],[2],[]⟩,[decide ((↑i:Int)<↑k)=true,
 (0:Int)≤↑i,
 (↑i:Int)<↑k,
 (((0:Nat):Nat)<((List.drop i C).length)),
 y2_ ((List.drop i C).headD AV.any) ((AV.c ((Value.int .i64 z)))),
 (-9223372036854775808:Int)≤z,
 (z:Int)≤9223372036854775807,
 ((w8_ z:Int))=(kk),
 (kk !=(1:Int))=true,
 (true)=true],z3_,by decide,by kernel_rfl,?_⟩)
    (fun hc22=>⟨⟨true,bs [(22,false)]++(bs [(10,true),(29,true)]++[(17,⟨.c (.int .i64 z),none⟩),(20,⟨.c (.int .i64 kk),none⟩),(27,⟨.c (.int .i64 z),none⟩),(35,⟨.c (.int .i64 z),none⟩),(37,⟨.c (.bool m1),none⟩)])⟩,_,60,⟨[],[2],[]⟩,[decide ((↑i:Int)<↑k)=true,
 (0:Int)≤↑i,
 (↑i:Int)<↑k,
 (((0:Nat):Nat)<((List.drop i C).length)),
 y2_ ((List.drop i C).headD AV.any) ((AV.c ((Value.int .i64 z)))),
 (-9223372036854775808:Int)≤z,
 (z:Int)≤9223372036854775807,
 ((w8_ z:Int))=(kk),
 (kk !=(1:Int))=false,
 (0:Int)≤↑i,
 (↑i:Int)<↑k,
 (((0:Nat):Nat)<((List.drop i C).length)),
 y2_ ((List.drop i C).headD AV.any) ((AV.c ((Value.int .i64 z)))),
 (z==(46:Int))=true],z3_,by decide,by kernel_rfl,?_⟩)
  all_goals try simp only[dz]at hc22
  all_goals try simp(disch:=omega) only[std,List.length_drop,hC]
  all_goals repeat' apply And.intro
  all_goals first|exact True.intro|omega|with_reducible (first|rfl|assumption)|(rw[←hm,hc31];rfl)|(rw[hc31]at hm;exact hm)|exact hat|exact hk|exact hb|exact hC|rfl
theorem laZ_all (C:List AV)(k:Nat)(m m1:Bool)(i:Nat)(z kk:Int)(hi:i=k)(hl:k≤1000000000)(hC:C.length=k)(z1: -9223372036854775808≤z)(z2:z≤9223372036854775807):y7_ Ext0 p_ clZl (z2_ p_ 10 3) (laS C k m i) (.exit 0) (laS C k m i):=by
  refine⟨⟨true,(bs [(10,false)]++[(17,⟨.c (.int .i64 z),none⟩),(20,⟨.c (.int .i64 kk),none⟩),(27,⟨.c (.int .i64 z),none⟩),(35,⟨.c (.int .i64 z),none⟩),(37,⟨.c (.bool m1),none⟩)])⟩,_,60,⟨[],[0,3,4],[]⟩,[decide ((↑i:Int)<↑k)=false],z3_,by decide,by kernel_rfl,?_⟩
  all_goals try simp(disch:=omega) only[std,List.length_drop,hC]
  all_goals repeat' apply And.intro
  all_goals first|exact True.intro|omega|with_reducible (first|rfl|assumption)|(rw[←hm,hc31];rfl)|(rw[hc31]at hm;exact hm)|exact hi|exact hC|rfl
theorem all_split (L:List Int)(i:Nat)(h:i<L.length)(f:Int→Bool):(L.take (i+1)).all f=((L.take i).all f&&f (L.getD i 0)):=by
  rw[v1_ L i 0 h,List.all_append];simp
theorem any_split (L:List Int)(i:Nat)(h:i<L.length)(f:Int→Bool):(L.take (i+1)).any f=((L.take i).any f||f (L.getD i 0)):=by
  rw[v1_ L i 0 h,List.any_append];simp
theorem la_walk (L:List Int)(hl:L.length≤1000000000)(hr:s9_ L):Tri Ext0 p_ (.loop (z2_ p_ 10 3)) (laS (z4_ L) L.length false 0) (if L.all n6_=true then .exit 0 else .ret) (if L.all n6_=true then laS (z4_ L) L.length (farZ L) L.length else laR):=by
  refine t7_ mixed clZl_ok (fun i=>laS (z4_ L) L.length (farZ (L.take i)) i) (fun i=>i≤L.length∧(L.take i).all n6_=true) (fun i=>L.length-i) (fun i hx=>?_) 0 ⟨Nat.zero_le _,rfl⟩
  obtain⟨h1,h2⟩:=hx
  by_cases hi:i<L.length
  ·have ha:y2_ (((z4_ L).drop i).headD .any) (.c (.int .i64 (L.getD i 0))):=by rw[f8_ L i hi];exact x5_ _
   obtain⟨z1,z2⟩:=hr _ (getD_mem L i hi)
   have hf:=all_split L i hi n6_
   rw[h2,Bool.true_and]at hf
   cases hz:n6_ (L.getD i 0)with
   |true=>
    have hz2:=hz
    unfold n6_ at hz2
    rw[Bool.and_eq_true,beq_iff_eq,bne_iff_ne]at hz2
    refine .inl ⟨i+1,⟨hi,hf.trans hz⟩,by omega,?_⟩
    exact laA_all (z4_ L) L.length _ _ i _ _ hi ha rfl hz2.1 hz2.2 (any_split L i hi fun z=>decide (127<z)).symm hl (v0_ L) z1 z2
   |false=>
    have:L.all n6_=false:=by
      rw[←List.take_append_drop (i+1) L,List.all_append,hf,hz];rfl
    rw[this]
    refine .inr ⟨by simp,laB_all (z4_ L) L.length _ true i _ _ hi ha rfl (fun e=>?_) hl (v0_ L) z1 z2⟩
    unfold n6_ at hz
    rw[e]at hz
    simpa using hz
  ·have he:i=L.length:=by omega
   subst he
   rw[List.take_length]at*
   rw[h2]
   exact .inr ⟨by simp,laZ_all (z4_ L) L.length _ true L.length 0 0 rfl hl (v0_ L) (by omega) (by omega)⟩
noncomputable def laLp (L:List Int)(e:Exit)(R:St):List (Nat×Lp):=[(3,⟨z2_ p_ 10 3,⟨[],[0,3,4],[]⟩,laS (z4_ L) L.length false 0,e,R⟩)]
theorem lam1_all (L:List Int)(z:Int)(h0:L.length≤1000000000):∃(h:Hints) (p:List Prop),y0_ p_ 10 (z9_ p_ clZl h (y1_ (laLp L .ret laR)) 60 10 ([.fs 1 L.length (z4_ L)]) ([]))=some (.c (.bool false),p)∧z7_ p:=by
  refine⟨⟨true,([(42,⟨.c (.int .i64 z),none⟩)])⟩,[((z2_ p_ (10:FuncId) (3:Nat):Go.Code))=(z2_ p_ (10:FuncId) (3:Nat)),
 ((laS (z4_ L) L.length false (0:Nat):St))=(laS (z4_ L) L.length false (0:Nat))],by kernel_rfl,?_⟩
  all_goals try simp(disch:=omega) only[std,List.length_drop]
  all_goals repeat' apply And.intro
  all_goals first|exact True.intro|omega|with_reducible (first|rfl|assumption)|rfl
theorem lam2_all (L:List Int)(z:Int)(h0:L.length≤1000000000):∃(h:Hints) (p:List Prop),y0_ p_ 10 (z9_ p_ clZl h (y1_ (laLp L (.exit 0) (laS (z4_ L) L.length false L.length))) 60 10 ([.fs 1 L.length (z4_ L)]) ([]))=some (.c (.bool false),p)∧z7_ p:=by
  refine⟨⟨true,([(42,⟨.c (.int .i64 z),none⟩)])⟩,[((z2_ p_ (10:FuncId) (3:Nat):Go.Code))=(z2_ p_ (10:FuncId) (3:Nat)),
 ((laS (z4_ L) L.length false (0:Nat):St))=(laS (z4_ L) L.length false (0:Nat))],by kernel_rfl,?_⟩
  all_goals try simp(disch:=omega) only[std,List.length_drop]
  all_goals repeat' apply And.intro
  all_goals first|exact True.intro|omega|with_reducible (first|rfl|assumption)|rfl
theorem lam3_all (L:List Int)(z:Int)(h0:L.length≤1000000000)(hp:0<L.length)(hat:y2_ (((z4_ L).drop 0).headD .any) (.c (.int .i64 z)))(hl:(z4_ L).length=L.length):∃(h:Hints) (p:List Prop),y0_ p_ 10 (z9_ p_ clZl h (y1_ (laLp L (.exit 0) (laS (z4_ L) L.length true L.length))) 60 10 ([.fs 1 L.length (z4_ L)]) ([]))=some (.c (.bool (!decide (768≤z∧z≤879))),p)∧z7_ p:=by
  refine⟨⟨true,([(42,⟨.c (.int .i64 z),none⟩)])⟩,[((z2_ p_ (10:FuncId) (3:Nat):Go.Code))=(z2_ p_ (10:FuncId) (3:Nat)),
 ((laS (z4_ L) L.length false (0:Nat):St))=(laS (z4_ L) L.length false (0:Nat)),
 (0:Int)≤0,
 (0:Int)<↑L.length,
 (((0:Nat):Nat)<((List.drop (Int.toNat (0:Int)) (z4_ L)).length)),
 y2_ ((List.drop (Int.toNat (0:Int)) (z4_ L)).headD AV.any) ((AV.c ((Value.int .i64 z))))],by kernel_rfl,?_⟩
  all_goals try simp(disch:=omega) only[std,List.length_drop]
  all_goals repeat' apply And.intro
  all_goals first|exact True.intro|omega|with_reducible (first|rfl|assumption)|exact hat|exact hl|rfl
theorem rlabel_ok:x8_ p_ 10 i4_:=by
  refine w1_ mixed clZl_ok fun args r q hs hq=>?_
  unfold i4_ at hs
  split at hs
  ·rename_i s n l
   simp only[oi_]at hs
   obtain⟨rfl,rfl⟩:=hs
   obtain⟨rfl,h2,h3,h4,h5,_⟩:=hq
   generalize unI l=L at*
   subst h2 h3
   have w:=la_walk L h4 h5
   unfold u8_
   cases h1:L.all n6_ with
   |false=>
    rw[h1]at w
    obtain⟨hh,p,e,hp⟩:=lam1_all L 0 h4
    exact⟨_,_,_,_,y3_ z3_ List.nodup_nil w,e,hp⟩
   |true=>
    rw[h1]at w
    cases h6:farZ L with
    |false=>
     rw[h6]at w
     obtain⟨hh,p,e,hp⟩:=lam2_all L 0 h4
     exact⟨_,_,_,_,y3_ z3_ List.nodup_nil w,e,hp⟩
    |true=>
     rw[h6]at w
     have hpos:0<L.length:=by
       cases L with
       |nil=>cases h6
       |cons x r=>simp
     have hat:y2_ (((z4_ L).drop 0).headD .any) (.c (.int .i64 (L.headD 0))):=by
       rw[f8_ L 0 hpos]
       cases L<;>exact x5_ _
     obtain⟨hh,p,e,hp⟩:=lam3_all L (L.headD 0) h4 hpos hat (v0_ L)
     exact⟨_,_,_,_,y3_ z3_ List.nodup_nil w,e,hp⟩
  ·simp at hs
end Go.Proofs.YtmjldphagbobpaaGreatDoor
namespace Go.Proofs.YtmjldphagbobpaaGreatDoor
open IntKind (i64 u8 i32 u32 u64)
open _root_.Go.Proofs.Tryz renaming prog→p_
open Go.RowKit U8 Idn
set_option maxRecDepth 100000
noncomputable def clZb:CallT:=q7_ p_ (t4_ [(24,i8_),(10,i4_),(40,enc7Spec)]) (n0_ [(39,dec7Spec)]) 500 8
theorem clZb_ok:x3_ p_ clZb:=s1_ mixed (y4_ rsigns_ok (y4_ rlabel_ok (y4_ renc_ok w3_))) (w9_ rdec_ok s5_) 500 8
theorem rlbX_all (l d:List UInt8)(p o b res:Bool)(hl:l.length≤100000)(hn:(z1_ l).length≤100000)(hp:(((z1_ l).length:Int)==(l.length:Int))=p)(h4:4≤l.length)(hx:(l.take 4==[120,110,45,45])=true)(hd:l.drop 4=d)(hdl:d.length≤100000)(hok:(Pny.p9_ d).isSome=o)(hm:u8_ (z8_ (x7_ d))=b)(hdr:s9_ (z8_ (x7_ d)))(hd5:(x7_ d).length≤255)(hres:(p&&(o&&b))=res):∃(h:Hints) (p:List Prop),y0_ p_ 25 (z9_ p_ clZb h (y1_ ([])) 60 25 ([.c (str l)]) ([]))=some (.tu [.c (str l),.c (.bool res)],p)∧z7_ p:=by
  refine y9_ (p) (fun hc16=>y9_ (o) (fun hc30=>⟨⟨true,bs [(16,true),(30,true)]++(bs [(16,p),(19,true),(23,true)]++[(27,⟨.c (str d),none⟩),(30,⟨.c (.bool o),none⟩),(38,⟨.c (.bool b),none⟩)])⟩,[((l.length:Nat)≤((1000000000:Nat))),
 ((↑(z8_ (z1_ l)).length:Int)==(↑l.length:Int))=true,
 decide ((↑l.length:Int)≥4)=true,
 (0:Int)≤0,
 (0:Int)≤4,
 (4:Int)≤↑l.length,
 (List.drop (Int.toNat (0:Int)) (List.take (Int.toNat (4:Int)) l)==[(120:UInt8),(110:UInt8),(45:UInt8),(45:UInt8)])=true,
 (0:Int)≤4,
 (4:Int)≤↑l.length,
 (↑l.length:Int)≤↑l.length,
 ((List.drop (Int.toNat (4:Int)) (List.take l.length l):List UInt8))=(d),
 ((d.length:Nat)≤((100000:Nat))),
 ((Pny.p9_ (sb { data:= { toList:=d}})).isSome)=true,
 ((p_.cellsOf (3:TypeId):Nat))=((1:Nat)),
 ((List.take (x7_ d).length (List.drop (0:Nat) (z0_ (x7_ d))):List AV))=(z4_ (unI (List.take (x7_ d).length (List.drop (0:Nat) (z0_ (x7_ d)))))),
 (((x7_ d).length:Nat))=((unI (List.take (x7_ d).length (List.drop (0:Nat) (z0_ (x7_ d))))).length),
 (((x7_ d).length:Nat)≤((1000000000:Nat))),
 s9_ (unI (List.take (x7_ d).length (List.drop (0:Nat) (z0_ (x7_ d))))),
 (t8_ [] (AV.c (Value.bool (u8_ (unI (List.take (x7_ d).length (List.drop (0:Nat) (z0_ (x7_ d)))))))))=true,
 ((u8_ (unI (List.take (x7_ d).length (List.drop (0:Nat) (z0_ (x7_ d))))):Bool))=(b)],Eq.trans (b:=some ((AV.tu [(AV.c ((str (l)))),
 (AV.c ((Value.bool b)))]),_)) (by kernel_rfl) (congrArg (fun r=>some (r,_)) ?_),?_⟩)
    (fun hc30=>⟨⟨true,bs [(16,true),(30,false)]++(bs [(16,p),(19,true),(23,true)]++[(27,⟨.c (str d),none⟩),(30,⟨.c (.bool o),none⟩),(38,⟨.c (.bool b),none⟩)])⟩,[((l.length:Nat)≤((1000000000:Nat))),
 ((↑(z8_ (z1_ l)).length:Int)==(↑l.length:Int))=true,
 decide ((↑l.length:Int)≥4)=true,
 (0:Int)≤0,
 (0:Int)≤4,
 (4:Int)≤↑l.length,
 (List.drop (Int.toNat (0:Int)) (List.take (Int.toNat (4:Int)) l)==[(120:UInt8),(110:UInt8),(45:UInt8),(45:UInt8)])=true,
 (0:Int)≤4,
 (4:Int)≤↑l.length,
 (↑l.length:Int)≤↑l.length,
 ((List.drop (Int.toNat (4:Int)) (List.take l.length l):List UInt8))=(d),
 ((d.length:Nat)≤((100000:Nat))),
 ((Pny.p9_ (sb { data:= { toList:=d}})).isSome)=false],Eq.trans (b:=some ((AV.tu [(AV.c ((str (l)))),
 (AV.c ((Value.bool false)))]),_)) (by kernel_rfl) (congrArg (fun r=>some (r,_)) ?_),?_⟩))
    (fun hc16=>⟨⟨true,bs [(16,false)]++(bs [(16,p),(19,true),(23,true)]++[(27,⟨.c (str d),none⟩),(30,⟨.c (.bool o),none⟩),(38,⟨.c (.bool b),none⟩)])⟩,[((l.length:Nat)≤((1000000000:Nat))),
 ((↑(z8_ (z1_ l)).length:Int)==(↑l.length:Int))=false,
 decide ((↑l.length:Int)≥4)=true,
 (0:Int)≤0,
 (0:Int)≤4,
 (4:Int)≤↑l.length,
 (List.drop (Int.toNat (0:Int)) (List.take (Int.toNat (4:Int)) l)==[(120:UInt8),(110:UInt8),(45:UInt8),(45:UInt8)])=true,
 (0:Int)≤4,
 (4:Int)≤↑l.length,
 (↑l.length:Int)≤↑l.length,
 ((List.drop (Int.toNat (4:Int)) (List.take l.length l):List UInt8))=(d),
 ((d.length:Nat)≤((100000:Nat))),
 (((Pny.p9_ (sb { data:= { toList:=d}})).isSome:Bool))=(o)],Eq.trans (b:=some ((AV.tu [(AV.c ((str (l)))),
 (AV.c ((Value.bool false)))]),_)) (by kernel_rfl) (congrArg (fun r=>some (r,_)) ?_),?_⟩)
  all_goals try simp only[dz]at hc16
  all_goals try simp only[dz]at hc30
  any_goals(
    first
      |(rw[←hres,hc16,hc30];rfl)
      |(rw[←hres,hc16];rfl)
      |(rw[←hres,hc46];rfl)
      |rfl
    done)
  all_goals try simp(disch:=omega) only[std,h0_,unI_natI,rowN_natI,a9_,v8_,rowN_tk,y6_,v0_]
  all_goals repeat' apply And.intro
  all_goals first|exact True.intro|omega|with_reducible (first|rfl|assumption)|exact beq_iff_eq.1 (hp.trans hc16)|exact beq_eq_false_iff_ne.1 (hp.trans hc16)|exact hok.trans hc30|exact hok.trans hc46|exact beq_iff_eq.1 hx|exact beq_iff_eq.1 (hp.trans hp1)|exact beq_eq_false_iff_ne.1 (hp.trans hp1)|exact hx (by omega)|exact hp|exact hx|exact hd|exact hok|exact hm|exact hdr|exact hres|rfl
theorem rlbP_all (l d:List UInt8)(p o b res:Bool)(hl:l.length≤100000)(hn:(z1_ l).length≤100000)(hp:(((z1_ l).length:Int)==(l.length:Int))=p)(hx:4≤l.length→¬l.take 4=[120,110,45,45])(hp1:p=true):∃(h:Hints) (p:List Prop),y0_ p_ 25 (z9_ p_ clZb h (y1_ ([])) 60 25 ([.c (str l)]) ([]))=some (.tu [.c (str l),.c (.bool true)],p)∧z7_ p:=by
  refine y9_ (decide ((↑l.length:Int)≥(4:Int))) (fun hc19=>⟨⟨true,bs [(19,true)]++(bs [(24,false),(16,true)]++[])⟩,[((l.length:Nat)≤((1000000000:Nat))),
 ((↑(z8_ (z1_ l)).length:Int)==(↑l.length:Int))=true,
 decide ((↑l.length:Int)≥4)=true,
 (0:Int)≤0,
 (0:Int)≤4,
 (4:Int)≤↑l.length,
 (List.drop (Int.toNat (0:Int)) (List.take (Int.toNat (4:Int)) l)==[(120:UInt8),(110:UInt8),(45:UInt8),(45:UInt8)])=false],Eq.trans (b:=some ((AV.tu [(AV.c ((str (l)))),
 (AV.c ((Value.bool true)))]),_)) (by kernel_rfl) (congrArg (fun r=>some (r,_)) ?_),?_⟩)
    (fun hc19=>⟨⟨true,bs [(19,false)]++(bs [(24,false),(16,true)]++[])⟩,[((l.length:Nat)≤((1000000000:Nat))),
 ((↑(z8_ (z1_ l)).length:Int)==(↑l.length:Int))=true,
 decide ((↑l.length:Int)≥4)=false,
 (false)=false],Eq.trans (b:=some ((AV.tu [(AV.c ((str (l)))),
 (AV.c ((Value.bool true)))]),_)) (by kernel_rfl) (congrArg (fun r=>some (r,_)) ?_),?_⟩)
  all_goals try simp only[dz]at hc19
  any_goals(
    first
      |(rw[←hres,hc16,hc30];rfl)
      |(rw[←hres,hc16];rfl)
      |(rw[←hres,hc46];rfl)
      |rfl
    done)
  all_goals try simp(disch:=omega) only[std,h0_,unI_natI,rowN_natI,a9_,v8_,rowN_tk,y6_,v0_]
  all_goals repeat' apply And.intro
  all_goals first|exact True.intro|omega|with_reducible (first|rfl|assumption)|exact beq_iff_eq.1 (hp.trans hc16)|exact beq_eq_false_iff_ne.1 (hp.trans hc16)|exact hok.trans hc30|exact hok.trans hc46|exact beq_iff_eq.1 hx|exact beq_iff_eq.1 (hp.trans hp1)|exact beq_eq_false_iff_ne.1 (hp.trans hp1)|exact hx (by omega)|exact hp|exact hp1|rfl
theorem rlbE_all (l d:List UInt8)(p o b res:Bool)(hl:l.length≤100000)(hn:(z1_ l).length≤100000)(hp:(((z1_ l).length:Int)==(l.length:Int))=p)(hx:4≤l.length→¬l.take 4=[120,110,45,45])(hp1:p=false)(ht:l3_ (z8_ (z1_ l))=d)(hdl:d.length≤2500)(hok:l6_ (z8_ (z1_ l))=o)(hm:u8_ (z8_ (z1_ l))=b)(hdr:s9_ (z8_ (z1_ l)))(hres:(o&&b)=res):∃(h:Hints) (p:List Prop),y0_ p_ 25 (z9_ p_ clZb h (y1_ ([])) 60 25 ([.c (str l)]) ([]))=some (.tu [.c (str (xnB++d)),.c (.bool res)],p)∧z7_ p:=by
  refine y9_ (decide ((↑l.length:Int)≥(4:Int))) (fun hc19=>y9_ (o) (fun hc46=>⟨⟨true,bs [(19,true),(46,true)]++(bs [(24,false),(16,false)]++[(45,⟨.c (str d),none⟩),(46,⟨.c (.bool o),none⟩),(52,⟨.c (.bool b),none⟩)])⟩,[((l.length:Nat)≤((1000000000:Nat))),
 ((↑(z8_ (z1_ l)).length:Int)==(↑l.length:Int))=false,
 decide ((↑l.length:Int)≥4)=true,
 (0:Int)≤0,
 (0:Int)≤4,
 (4:Int)≤↑l.length,
 (List.drop (Int.toNat (0:Int)) (List.take (Int.toNat (4:Int)) l)==[(120:UInt8),(110:UInt8),(45:UInt8),(45:UInt8)])=false,
 ((p_.cellsOf (3:Nat):Nat))=((1:Nat)),
 ((List.take (z8_ (z1_ l)).length (List.drop (0:Nat) (ints (z8_ (z1_ l)))):List AV))=(z4_ (unI (List.take (z8_ (z1_ l)).length (List.drop (0:Nat) (ints (z8_ (z1_ l))))))),
 (((z8_ (z1_ l)).length:Nat))=((unI (List.take (z8_ (z1_ l)).length (List.drop (0:Nat) (ints (z8_ (z1_ l)))))).length),
 (t8_ [] (AV.tu [AV.c (str (l3_ (unI (List.take (z8_ (z1_ l)).length (List.drop (0:Nat) (ints (z8_ (z1_ l)))))))),AV.c (Value.bool (l6_ (unI (List.take (z8_ (z1_ l)).length (List.drop (0:Nat) (ints (z8_ (z1_ l))))))))]))=true,
 ((l3_ (unI (List.take (z8_ (z1_ l)).length (List.drop (0:Nat) (ints (z8_ (z1_ l)))))):List UInt8))=(d),
 (l6_ (unI (List.take (z8_ (z1_ l)).length (List.drop (0:Nat) (ints (z8_ (z1_ l)))))))=true,
 (((4:Nat)+d.length:Nat)≤((9223372036854775807:Nat))),
 ((p_.cellsOf (3:Nat):Nat))=((1:Nat)),
 ((List.take (z8_ (z1_ l)).length (List.drop (0:Nat) (ints (z8_ (z1_ l)))):List AV))=(z4_ (unI (List.take (z8_ (z1_ l)).length (List.drop (0:Nat) (ints (z8_ (z1_ l))))))),
 (((z8_ (z1_ l)).length:Nat))=((unI (List.take (z8_ (z1_ l)).length (List.drop (0:Nat) (ints (z8_ (z1_ l)))))).length),
 (((z8_ (z1_ l)).length:Nat)≤((1000000000:Nat))),
 s9_ (unI (List.take (z8_ (z1_ l)).length (List.drop (0:Nat) (ints (z8_ (z1_ l)))))),
 (t8_ [] (AV.c (Value.bool (u8_ (unI (List.take (z8_ (z1_ l)).length (List.drop (0:Nat) (ints (z8_ (z1_ l))))))))))=true,
 ((u8_ (unI (List.take (z8_ (z1_ l)).length (List.drop (0:Nat) (ints (z8_ (z1_ l)))))):Bool))=(b)],Eq.trans (b:=some ((AV.tu [(AV.c ((str ([(120:UInt8),(110:UInt8),(45:UInt8),(45:UInt8)]++d)))),
 (AV.c ((Value.bool b)))]),_)) (by kernel_rfl) (congrArg (fun r=>some (r,_)) ?_),?_⟩)
    (fun hc46=>⟨⟨true,bs [(19,true),(46,false)]++(bs [(24,false),(16,false)]++[(45,⟨.c (str d),none⟩),(46,⟨.c (.bool o),none⟩),(52,⟨.c (.bool b),none⟩)])⟩,[((l.length:Nat)≤((1000000000:Nat))),
 ((↑(z8_ (z1_ l)).length:Int)==(↑l.length:Int))=false,
 decide ((↑l.length:Int)≥4)=true,
 (0:Int)≤0,
 (0:Int)≤4,
 (4:Int)≤↑l.length,
 (List.drop (Int.toNat (0:Int)) (List.take (Int.toNat (4:Int)) l)==[(120:UInt8),(110:UInt8),(45:UInt8),(45:UInt8)])=false,
 ((p_.cellsOf (3:Nat):Nat))=((1:Nat)),
 ((List.take (z8_ (z1_ l)).length (List.drop (0:Nat) (ints (z8_ (z1_ l)))):List AV))=(z4_ (unI (List.take (z8_ (z1_ l)).length (List.drop (0:Nat) (ints (z8_ (z1_ l))))))),
 (((z8_ (z1_ l)).length:Nat))=((unI (List.take (z8_ (z1_ l)).length (List.drop (0:Nat) (ints (z8_ (z1_ l)))))).length),
 (t8_ [] (AV.tu [AV.c (str (l3_ (unI (List.take (z8_ (z1_ l)).length (List.drop (0:Nat) (ints (z8_ (z1_ l)))))))),AV.c (Value.bool (l6_ (unI (List.take (z8_ (z1_ l)).length (List.drop (0:Nat) (ints (z8_ (z1_ l))))))))]))=true,
 ((l3_ (unI (List.take (z8_ (z1_ l)).length (List.drop (0:Nat) (ints (z8_ (z1_ l)))))):List UInt8))=(d),
 (l6_ (unI (List.take (z8_ (z1_ l)).length (List.drop (0:Nat) (ints (z8_ (z1_ l)))))))=false,
 (((4:Nat)+d.length:Nat)≤((9223372036854775807:Nat)))],Eq.trans (b:=some ((AV.tu [(AV.c ((str ([(120:UInt8),(110:UInt8),(45:UInt8),(45:UInt8)]++d)))),
 (AV.c ((Value.bool false)))]),_)) (by kernel_rfl) (congrArg (fun r=>some (r,_)) ?_),?_⟩))
    (fun hc19=>y9_ (o) (fun hc46=>⟨⟨true,bs [(19,false),(46,true)]++(bs [(24,false),(16,false)]++[(45,⟨.c (str d),none⟩),(46,⟨.c (.bool o),none⟩),(52,⟨.c (.bool b),none⟩)])⟩,[((l.length:Nat)≤((1000000000:Nat))),
 ((↑(z8_ (z1_ l)).length:Int)==(↑l.length:Int))=false,
 decide ((↑l.length:Int)≥4)=false,
 (false)=false,
 ((p_.cellsOf (3:Nat):Nat))=((1:Nat)),
 ((List.take (z8_ (z1_ l)).length (List.drop (0:Nat) (ints (z8_ (z1_ l)))):List AV))=(z4_ (unI (List.take (z8_ (z1_ l)).length (List.drop (0:Nat) (ints (z8_ (z1_ l))))))),
 (((z8_ (z1_ l)).length:Nat))=((unI (List.take (z8_ (z1_ l)).length (List.drop (0:Nat) (ints (z8_ (z1_ l)))))).length),
 (t8_ [] (AV.tu [AV.c (str (l3_ (unI (List.take (z8_ (z1_ l)).length (List.drop (0:Nat) (ints (z8_ (z1_ l)))))))),AV.c (Value.bool (l6_ (unI (List.take (z8_ (z1_ l)).length (List.drop (0:Nat) (ints (z8_ (z1_ l))))))))]))=true,
 ((l3_ (unI (List.take (z8_ (z1_ l)).length (List.drop (0:Nat) (ints (z8_ (z1_ l)))))):List UInt8))=(d),
 (l6_ (unI (List.take (z8_ (z1_ l)).length (List.drop (0:Nat) (ints (z8_ (z1_ l)))))))=true,
 (((4:Nat)+d.length:Nat)≤((9223372036854775807:Nat))),
 ((p_.cellsOf (3:Nat):Nat))=((1:Nat)),
 ((List.take (z8_ (z1_ l)).length (List.drop (0:Nat) (ints (z8_ (z1_ l)))):List AV))=(z4_ (unI (List.take (z8_ (z1_ l)).length (List.drop (0:Nat) (ints (z8_ (z1_ l))))))),
 (((z8_ (z1_ l)).length:Nat))=((unI (List.take (z8_ (z1_ l)).length (List.drop (0:Nat) (ints (z8_ (z1_ l)))))).length),
 (((z8_ (z1_ l)).length:Nat)≤((1000000000:Nat))),
 s9_ (unI (List.take (z8_ (z1_ l)).length (List.drop (0:Nat) (ints (z8_ (z1_ l)))))),
 (t8_ [] (AV.c (Value.bool (u8_ (unI (List.take (z8_ (z1_ l)).length (List.drop (0:Nat) (ints (z8_ (z1_ l))))))))))=true,
 ((u8_ (unI (List.take (z8_ (z1_ l)).length (List.drop (0:Nat) (ints (z8_ (z1_ l)))))):Bool))=(b)],Eq.trans (b:=some ((AV.tu [(AV.c ((str ([(120:UInt8),(110:UInt8),(45:UInt8),(45:UInt8)]++d)))),
 (AV.c ((Value.bool b)))]),_)) (by kernel_rfl) (congrArg (fun r=>some (r,_)) ?_),?_⟩)
    (fun hc46=>⟨⟨true,bs [(19,false),(46,false)]++(bs [(24,false),(16,false)]++[(45,⟨.c (str d),none⟩),(46,⟨.c (.bool o),none⟩),(52,⟨.c (.bool b),none⟩)])⟩,[((l.length:Nat)≤((1000000000:Nat))),
 ((↑(z8_ (z1_ l)).length:Int)==(↑l.length:Int))=false,
 decide ((↑l.length:Int)≥4)=false,
 (false)=false,
 ((p_.cellsOf (3:Nat):Nat))=((1:Nat)),
 ((List.take (z8_ (z1_ l)).length (List.drop (0:Nat) (ints (z8_ (z1_ l)))):List AV))=(z4_ (unI (List.take (z8_ (z1_ l)).length (List.drop (0:Nat) (ints (z8_ (z1_ l))))))),
 (((z8_ (z1_ l)).length:Nat))=((unI (List.take (z8_ (z1_ l)).length (List.drop (0:Nat) (ints (z8_ (z1_ l)))))).length),
 (t8_ [] (AV.tu [AV.c (str (l3_ (unI (List.take (z8_ (z1_ l)).length (List.drop (0:Nat) (ints (z8_ (z1_ l)))))))),AV.c (Value.bool (l6_ (unI (List.take (z8_ (z1_ l)).length (List.drop (0:Nat) (ints (z8_ (z1_ l))))))))]))=true,
 ((l3_ (unI (List.take (z8_ (z1_ l)).length (List.drop (0:Nat) (ints (z8_ (z1_ l)))))):List UInt8))=(d),
 (l6_ (unI (List.take (z8_ (z1_ l)).length (List.drop (0:Nat) (ints (z8_ (z1_ l)))))))=false,
 (((4:Nat)+d.length:Nat)≤((9223372036854775807:Nat)))],Eq.trans (b:=some ((AV.tu [(AV.c ((str ([(120:UInt8),(110:UInt8),(45:UInt8),(45:UInt8)]++d)))),
 (AV.c ((Value.bool false)))]),_)) (by kernel_rfl) (congrArg (fun r=>some (r,_)) ?_),?_⟩))
  all_goals try simp only[dz]at hc19
  all_goals try simp only[dz]at hc46
  any_goals(
    first
      |(rw[←hres,hc16,hc30];rfl)
      |(rw[←hres,hc16];rfl)
      |(rw[←hres,hc46];rfl)
      |rfl
    done)
  all_goals try simp(disch:=omega) only[std,h0_,unI_natI,rowN_natI,a9_,v8_,rowN_tk,y6_,v0_]
  all_goals repeat' apply And.intro
  all_goals first|exact True.intro|omega|with_reducible (first|rfl|assumption)|exact beq_iff_eq.1 (hp.trans hc16)|exact beq_eq_false_iff_ne.1 (hp.trans hc16)|exact hok.trans hc30|exact hok.trans hc46|exact beq_iff_eq.1 hx|exact beq_iff_eq.1 (hp.trans hp1)|exact beq_eq_false_iff_ne.1 (hp.trans hp1)|exact hx (by omega)|exact hp|exact hp1|exact ht|exact hok|exact hm|exact hdr|exact hres|rfl
def labSpec:Spec
  | [.c (.string s)]=>some (.tu [.c (str (k4_ (z1_ (sb s)))),.c (.bool (h1_ (z1_ (sb s))))],[(sb s).length≤100000,k5_ (sb s)=sb s])
  |_=>none
theorem labB_xn {l:List Nat}(h:l.take 4=xnN):h1_ l=(p3_ l&&((Pny.p9_ (Pny.byt (l.drop 4))).map d0_).getD false):=by
  unfold h1_ labF
  rw[if_pos h]
  split
  ·rename_i e;rw[e];rfl
  ·rename_i e
   rw[Bool.not_eq_true]at e
   rw[e];rfl
theorem lab_at (l:List UInt8)(hl:l.length≤100000)(hf:k5_ l=l):∃hs lp fuel p,p8_ Ext0 p_ lp∧y0_ p_ 25 (z9_ p_ clZb hs lp fuel 25 [.c (str l)] [])=some (.tu [.c (str (k4_ (z1_ l))),.c (.bool (h1_ (z1_ l)))],p)∧z7_ p:=by
  have hok:=U8.signs_ok l
  have hj:join (z1_ l)=l:=hf
  have hxn:=join_xn hok
  obtain⟨j1,j2⟩:=join_len_low hok
  have hn:(z1_ l).length≤100000:=by have:=signs_len l;omega
  have hrng:=natI_rng2 hok
  rw[hj]at hxn j1 j2
  have hp:(((z1_ l).length:Int)==(l.length:Int))=p3_ (z1_ l):=by
    rw[Bool.eq_iff_iff,beq_iff_eq,←j2]
    omega
  by_cases hx:(z1_ l).take 4=xnN
  ·have hx4:=hxn.2 hx
   have h4:4≤l.length:=by
     have:=congrArg List.length hx4
     simp only[List.length_take,xnB,List.length_cons,List.length_nil]at this
     omega
   have hT:k4_ (z1_ l)=l:=by unfold k4_;rw[if_pos (.inl hx),hj]
   have hres:(p3_ (z1_ l)&&((Pny.p9_ (l.drop 4)).isSome&&u8_ (z8_ (x7_ (l.drop 4)))))=h1_ (z1_ l):=by
     rw[labB_xn hx]
     cases hlow:p3_ (z1_ l)with
     |false=>rfl
     |true=>
      have e:Pny.byt ((z1_ l).drop 4)=l.drop 4:=by
        conv=>rhs;rw[←hj,join_byt hlow]
        unfold Pny.byt
        rw[List.map_drop]
      rw[e,label_nat]
      unfold x7_
      cases Pny.p9_ (l.drop 4)<;>rfl
   obtain⟨hh,p,e,hq⟩:=rlbX_all l _ _ _ _ _ hl hn hp h4 (by rw[hx4];rfl) rfl (by rw[List.length_drop];omega) rfl rfl (decL_rng (by rw[List.length_drop];omega)) (decL_255 _) hres
   rw[hT]
   exact⟨_,_,_,_,z3_,e,hq⟩
  ·have hx4:4≤l.length→¬l.take 4=[120,110,45,45]:=fun _ e=>hx (hxn.1 e)
   cases hlow:p3_ (z1_ l)with
   |true=>
    rw[hlow]at hp
    have hT:k4_ (z1_ l)=l:=by unfold k4_;rw[if_pos (.inr hlow),hj]
    have hB:h1_ (z1_ l)=true:=by unfold h1_ labF;rw[if_neg hx,if_pos hlow];rfl
    obtain⟨hh,p,e,hq⟩:=rlbP_all l [] true true true true hl hn hp hx4 rfl
    rw[hT,hB]
    exact⟨_,_,_,_,z3_,e,hq⟩
   |false=>
    rw[hlow]at hp
    have hT:k4_ (z1_ l)=xnB++l3_ (z8_ (z1_ l)):=by
      unfold k4_
      rw[if_neg (fun h=>h.elim hx fun h=>by rw[hlow]at h;cases h)]
    have hB:(l6_ (z8_ (z1_ l))&&u8_ (z8_ (z1_ l)))=h1_ (z1_ l):=by
      rw[may_nat,label_nat]
      unfold h1_ labF
      rw[if_neg hx,if_neg (by rw[hlow];simp)]
      split
      ·rename_i e;rw[e];rfl
      ·rename_i e;rw[Bool.not_eq_true]at e;rw[e];rfl
    obtain⟨hh,p,e,hq⟩:=rlbE_all l _ false _ _ _ hl hn hp hx4 rfl rfl (encV_2500 _) rfl rfl hrng hB
    rw[hT]
    exact⟨_,_,_,_,z3_,e,hq⟩
theorem rlab_ok:x8_ p_ 25 labSpec:=by
  refine w1_ mixed clZb_ok fun args r q hs hq=>?_
  unfold labSpec at hs
  split at hs
  ·rename_i l
   simp only[oi_]at hs
   obtain⟨rfl,rfl⟩:=hs
   obtain⟨⟨⟨l⟩⟩,rfl⟩:∃b:ByteArray,b=l:=⟨l,rfl⟩
   simp only[q2_,z7_,and_true]at hq ⊢
   exact lab_at l hq.1 hq.2
  ·simp at hs
end Go.Proofs.YtmjldphagbobpaaGreatDoor
namespace Go.Proofs.YtmjldphagbobpaaGreatDoor
open IntKind (i64 u8 i32 u32 u64)
open _root_.Go.Proofs.Tryz renaming prog→p_
open Go.RowKit U8 Idn
set_option maxRecDepth 100000
noncomputable def clZd:CallT:=q7_ p_ (t4_ [(24,i8_),(6,h8_),(25,labSpec)]) (n0_ []) 500 8
theorem clZd_ok:x3_ p_ clZd:=s1_ mixed (y4_ rsigns_ok (y4_ rmap_ok (y4_ rlab_ok w3_))) s5_ 500 8
def dmA (N:List Nat)(a:List UInt8)(i:Nat):St:=⟨frame 73 [(4,.sl 0 0 N.length),(5,.c (str a)),(6,.c (.int .i64 i))],[some ⟨3,false,z0_ N⟩]⟩
def dmB (a:List UInt8):St:=⟨frame 73 [(5,.c (str a))],[]⟩
def dmN:St:=⟨frame 73 [(2,.c (str [])),(3,.c (.bool false))],[]⟩
theorem dmA_all (N:List Nat)(a t:List UInt8)(i:Nat)(z kk:Int)(hi:i<N.length)(hat:y2_ (((z0_ N).drop i).headD .any) (.c (.int .i64 z)))(hk:w8_ z=kk)(hk0:¬kk=0)(ht:s0_ z=t)(hl:N.length≤100000)(hN:(z0_ N).length=N.length)(z1: -9223372036854775808≤z)(z2:z≤9223372036854775807)(hal:a.length≤2000000)(htl:t.length≤100):y7_ Ext0 p_ clZd (z2_ p_ 8 4) (dmA N a i) (.normal) (dmA N (a++t) (i+1)):=by
  refine⟨⟨true,(bs [(19,true),(31,false)]++[(26,⟨.c (.int .i64 z),none⟩),(28,⟨.c (str t),none⟩),(29,⟨.c (.int .i64 kk),none⟩)])⟩,_,60,⟨[],[4,5,6],[0]⟩,[decide ((↑i:Int)<↑N.length)=true,
 (0:Int)≤↑i,
 (↑i:Int)<↑N.length,
 (((0:Nat):Nat)<((List.drop (i+(0:Nat)) (z0_ N)).length)),
 y2_ ((List.drop (i+(0:Nat)) (z0_ N)).headD AV.any) ((AV.c ((Value.int .i64 z)))),
 (-9223372036854775808:Int)≤z,
 (z:Int)≤9223372036854775807,
 ((s0_ z:List UInt8))=(t),
 ((w8_ z:Int))=(kk),
 (kk==(0:Int))=false,
 ((a.length+t.length:Nat)≤((9223372036854775807:Nat))),
 (i64.min:Int)≤↑i+1,
 (↑i+1:Int)≤i64.max],z3_,by decide,by kernel_rfl,?_⟩
  all_goals try simp(disch:=omega) only[std,List.length_drop,hN]
  all_goals repeat' apply And.intro
  all_goals first|exact True.intro|omega|with_reducible (first|rfl|assumption)|exact hat|exact hk|exact hk0|exact ht|exact hN|rfl
theorem dmB_all (N:List Nat)(a t:List UInt8)(i:Nat)(z kk:Int)(hi:i<N.length)(hat:y2_ (((z0_ N).drop i).headD .any) (.c (.int .i64 z)))(hk:w8_ z=kk)(hk0:kk=0)(ht:s0_ z=t)(hl:N.length≤100000)(hN:(z0_ N).length=N.length)(z1: -9223372036854775808≤z)(z2:z≤9223372036854775807)(hal:a.length≤2000000)(htl:t.length≤100):y7_ Ext0 p_ clZd (z2_ p_ 8 4) (dmA N a i) (.ret) (dmN):=by
  refine⟨⟨true,(bs [(19,true),(31,true)]++[(26,⟨.c (.int .i64 z),none⟩),(28,⟨.c (str t),none⟩),(29,⟨.c (.int .i64 kk),none⟩)])⟩,_,60,⟨[],[2,3],[]⟩,[decide ((↑i:Int)<↑N.length)=true,
 (0:Int)≤↑i,
 (↑i:Int)<↑N.length,
 (((0:Nat):Nat)<((List.drop (i+(0:Nat)) (z0_ N)).length)),
 y2_ ((List.drop (i+(0:Nat)) (z0_ N)).headD AV.any) ((AV.c ((Value.int .i64 z)))),
 (-9223372036854775808:Int)≤z,
 (z:Int)≤9223372036854775807,
 ((s0_ z:List UInt8))=(t),
 ((w8_ z:Int))=(kk),
 (kk==(0:Int))=true],z3_,by decide,by kernel_rfl,?_⟩
  all_goals try simp(disch:=omega) only[std,List.length_drop,hN]
  all_goals repeat' apply And.intro
  all_goals first|exact True.intro|omega|with_reducible (first|rfl|assumption)|exact hat|exact hk|exact hk0|exact ht|exact hN|rfl
theorem dmZ_all (N:List Nat)(a t:List UInt8)(i:Nat)(z kk:Int)(hi:i=N.length)(hl:N.length≤100000)(hN:(z0_ N).length=N.length)(z1: -9223372036854775808≤z)(z2:z≤9223372036854775807)(hal:a.length≤2000000)(htl:t.length≤100):y7_ Ext0 p_ clZd (z2_ p_ 8 4) (dmA N a i) (.exit 0) (dmB a):=by
  refine⟨⟨true,(bs [(19,false)]++[(26,⟨.c (.int .i64 z),none⟩),(28,⟨.c (str t),none⟩),(29,⟨.c (.int .i64 kk),none⟩)])⟩,_,60,⟨[],[5],[]⟩,[decide ((↑i:Int)<↑N.length)=false],z3_,by decide,by kernel_rfl,?_⟩
  all_goals try simp(disch:=omega) only[std,List.length_drop,hN]
  all_goals repeat' apply And.intro
  all_goals first|exact True.intro|omega|with_reducible (first|rfl|assumption)|exact hi|exact hN|rfl
def dmC (a o:List UInt8)(k i:Nat):St:=⟨frame 73 [(5,.c (str a)),(9,.c (str o)),(10,.c (.int .i64 k)),(11,.c (.int .i64 i))],[]⟩
def dmE (o:List UInt8):St:=⟨frame 73 [(9,.c (str o))],[]⟩
theorem dnA_all (a o x t:List UInt8)(k i:Nat)(hi:i<a.length)(hc:¬(((a.getD i 0).toNat:Nat):Int)=46)(hl:a.length≤100000)(hol:o.length≤400000000)(htl:t.length≤1000000):y7_ Ext0 p_ clZd (z2_ p_ 8 13) (dmC a o k i) (.normal) (dmC a o k (i+1)):=by
  refine⟨⟨true,bs [(44,true)]++(bs [(38,true),(50,true)]++[(55,⟨.c (str x),none⟩),(57,⟨.c (str t),none⟩)])⟩,_,60,⟨[],[5,9,10,11],[]⟩,[decide ((↑i:Int)≤↑a.length)=true,
 decide ((↑i:Int)<↑a.length)=true,
 (0:Int)≤↑i,
 (↑i:Int)<↑a.length,
 ((↑(a.getD i 0).toNat:Int) !=(46:Int))=true,
 (i64.min:Int)≤↑i+1,
 (↑i+1:Int)≤i64.max],z3_,by decide,by kernel_rfl,?_⟩
  all_goals try simp(disch:=omega) only[std,List.length_append,List.length_cons,List.length_nil]
  all_goals repeat' apply And.intro
  all_goals first|exact True.intro|omega|with_reducible (first|rfl|assumption)|exact hc (by omega)|exact hc|rfl
theorem dnB_all (a o x t:List UInt8)(k i:Nat)(hi:i<a.length)(hc:(((a.getD i 0).toNat:Nat):Int)=46)(hki:k≤i)(hx:List.drop k (List.take i a)=x)(hxl:x.length≤100000)(hf:k5_ x=x)(hT:k4_ (z1_ x)=t)(hB:(!h1_ (z1_ x))=false)(hl:a.length≤100000)(hol:o.length≤400000000)(htl:t.length≤1000000):y7_ Ext0 p_ clZd (z2_ p_ 8 13) (dmC a o k i) (.normal) (dmC a (o++t++[46]) (i+1) (i+1)):=by
  refine⟨⟨true,bs [(44,true)]++(bs [(38,true),(50,false),(60,false),(67,true)]++[(55,⟨.c (str x),none⟩),(57,⟨.c (str t),none⟩)])⟩,_,60,⟨[],[5,9,10,11],[]⟩,[decide ((↑i:Int)≤↑a.length)=true,
 decide ((↑i:Int)<↑a.length)=true,
 (0:Int)≤↑i,
 (↑i:Int)<↑a.length,
 ((↑(a.getD i 0).toNat:Int) !=(46:Int))=false,
 (0:Int)≤↑k,
 (↑k:Int)≤↑i,
 (↑i:Int)≤↑a.length,
 ((List.drop k (List.take i a):List UInt8))=(x),
 ((x.length:Nat)≤((100000:Nat))),
 ((k5_ x:List UInt8))=(x),
 ((k4_ (z1_ x):List UInt8))=(t),
 (!h1_ (z1_ x))=false,
 ((o.length+t.length:Nat)≤((9223372036854775807:Nat))),
 decide ((↑i:Int)<↑a.length)=true,
 (((o++t).length+(1:Nat):Nat)≤((9223372036854775807:Nat))),
 (i64.min:Int)≤↑i+1,
 (↑i+1:Int)≤i64.max,
 (i64.min:Int)≤↑i+1,
 (↑i+1:Int)≤i64.max],z3_,by decide,by kernel_rfl,?_⟩
  all_goals try simp(disch:=omega) only[std,List.length_append,List.length_cons,List.length_nil]
  all_goals repeat' apply And.intro
  all_goals first|exact True.intro|omega|with_reducible (first|rfl|assumption)|exact hc (by omega)|exact hc|exact hx|exact hf|exact hT|exact hB|rfl
theorem dnC_all (a o x t:List UInt8)(k i:Nat)(hi:i=a.length)(hki:k≤i)(hx:List.drop k (List.take i a)=x)(hxl:x.length≤100000)(hf:k5_ x=x)(hT:k4_ (z1_ x)=t)(hB:(!h1_ (z1_ x))=false)(hl:a.length≤100000)(hol:o.length≤400000000)(htl:t.length≤1000000):y7_ Ext0 p_ clZd (z2_ p_ 8 13) (dmC a o k i) (.normal) (dmC a (o++t) (i+1) (i+1)):=by
  refine⟨⟨true,bs [(44,false)]++(bs [(38,true),(50,false),(60,false),(67,false)]++[(55,⟨.c (str x),none⟩),(57,⟨.c (str t),none⟩)])⟩,_,60,⟨[],[5,9,10,11],[]⟩,[decide ((↑i:Int)≤↑a.length)=true,
 decide ((↑i:Int)<↑a.length)=false,
 (false)=false,
 (0:Int)≤↑k,
 (↑k:Int)≤↑i,
 (↑i:Int)≤↑a.length,
 ((List.drop k (List.take i a):List UInt8))=(x),
 ((x.length:Nat)≤((100000:Nat))),
 ((k5_ x:List UInt8))=(x),
 ((k4_ (z1_ x):List UInt8))=(t),
 (!h1_ (z1_ x))=false,
 ((o.length+t.length:Nat)≤((9223372036854775807:Nat))),
 decide ((↑i:Int)<↑a.length)=false,
 (i64.min:Int)≤↑i+1,
 (↑i+1:Int)≤i64.max,
 (i64.min:Int)≤↑i+1,
 (↑i+1:Int)≤i64.max],z3_,by decide,by kernel_rfl,?_⟩
  all_goals try simp(disch:=omega) only[std,List.length_append,List.length_cons,List.length_nil]
  all_goals repeat' apply And.intro
  all_goals first|exact True.intro|omega|with_reducible (first|rfl|assumption)|exact hc (by omega)|exact hi|exact hx|exact hf|exact hT|exact hB|rfl
theorem dnD_all (a o x t:List UInt8)(k i:Nat)(hi:i≤a.length)(hc:i<a.length→(((a.getD i 0).toNat:Nat):Int)=46)(hki:k≤i)(hx:List.drop k (List.take i a)=x)(hxl:x.length≤100000)(hf:k5_ x=x)(hT:k4_ (z1_ x)=t)(hB:(!h1_ (z1_ x))=true)(hl:a.length≤100000)(hol:o.length≤400000000)(htl:t.length≤1000000):y7_ Ext0 p_ clZd (z2_ p_ 8 13) (dmC a o k i) (.ret) (dmN):=by
  refine y9_ (decide ((↑i:Int)<(↑a.length:Int))) (fun hc44=>⟨⟨true,bs [(44,true)]++(bs [(38,true),(50,false),(60,true)]++[(55,⟨.c (str x),none⟩),(57,⟨.c (str t),none⟩)])⟩,_,60,⟨[],[2,3],[]⟩,[decide ((↑i:Int)≤↑a.length)=true,
 decide ((↑i:Int)<↑a.length)=true,
 (0:Int)≤↑i,
 (↑i:Int)<↑a.length,
 ((↑(a.getD i 0).toNat:Int) !=(46:Int))=false,
 (0:Int)≤↑k,
 (↑k:Int)≤↑i,
 (↑i:Int)≤↑a.length,
 ((List.drop k (List.take i a):List UInt8))=(x),
 ((x.length:Nat)≤((100000:Nat))),
 ((k5_ x:List UInt8))=(x),
 ((k4_ (z1_ x):List UInt8))=(t),
 (!h1_ (z1_ x))=true],z3_,by decide,by kernel_rfl,?_⟩)
    (fun hc44=>⟨⟨true,bs [(44,false)]++(bs [(38,true),(50,false),(60,true)]++[(55,⟨.c (str x),none⟩),(57,⟨.c (str t),none⟩)])⟩,_,60,⟨[],[2,3],[]⟩,[decide ((↑i:Int)≤↑a.length)=true,
 decide ((↑i:Int)<↑a.length)=false,
 (false)=false,
 (0:Int)≤↑k,
 (↑k:Int)≤↑i,
 (↑i:Int)≤↑a.length,
 ((List.drop k (List.take i a):List UInt8))=(x),
 ((x.length:Nat)≤((100000:Nat))),
 ((k5_ x:List UInt8))=(x),
 ((k4_ (z1_ x):List UInt8))=(t),
 (!h1_ (z1_ x))=true],z3_,by decide,by kernel_rfl,?_⟩)
  all_goals try simp only[dz]at hc44
  all_goals try simp(disch:=omega) only[std,List.length_append,List.length_cons,List.length_nil]
  all_goals repeat' apply And.intro
  all_goals first|exact True.intro|omega|with_reducible (first|rfl|assumption)|exact hc (by omega)|exact hx|exact hf|exact hT|exact hB|rfl
theorem dnZ_all (a o x t:List UInt8)(k i:Nat)(hi:¬i≤a.length)(hl:a.length≤100000)(hol:o.length≤400000000)(htl:t.length≤1000000):y7_ Ext0 p_ clZd (z2_ p_ 8 13) (dmC a o k i) (.exit 2) (dmE o):=by
  refine⟨⟨true,(bs [(38,false)]++[(55,⟨.c (str x),none⟩),(57,⟨.c (str t),none⟩)])⟩,_,60,⟨[],[9],[]⟩,[decide ((↑i:Int)≤↑a.length)=false],z3_,by decide,by kernel_rfl,?_⟩
  all_goals try simp(disch:=omega) only[std,List.length_append,List.length_cons,List.length_nil]
  all_goals repeat' apply And.intro
  all_goals first|exact True.intro|omega|with_reducible (first|rfl|assumption)|exact hc (by omega)|rfl
theorem dm_walk (N:List Nat)(hl:N.length≤100000)(hs:∀c∈N,okC c):Tri Ext0 p_ (.loop (z2_ p_ 8 4)) (dmA N [] 0) (if N.all (fun c=>n8_ c !=0)=true then .exit 0 else .ret) (if N.all (fun c=>n8_ c !=0)=true then dmB (join (N.flatMap k0_))else dmN):=by
  refine t7_ mixed clZd_ok (fun i=>dmA N (join ((N.take i).flatMap k0_)) i) (fun i=>i≤N.length∧(N.take i).all (fun c=>n8_ c !=0)=true) (fun i=>N.length-i) (fun i hx=>?_) 0 ⟨Nat.zero_le _,rfl⟩
  obtain⟨h1,h2⟩:=hx
  have hb:(join ((N.take i).flatMap k0_)).length≤2000000:=by
    have k1:=join_len ((N.take i).flatMap k0_)
    have k2:=out_len (N.take i)
    have k3:(N.take i).length≤N.length:=List.length_take_le' ..
    omega
  by_cases hi:i<N.length
  ·have ha:y2_ (((z0_ N).drop i).headD .any) (.c (.int .i64 (N.getD i 0:Nat))):=by rw[j9_ N i hi];exact x5_ _
   have hm:N.getD i 0∈N:=by
     have:N[i]=N.getD i 0:=by simp[List.getD,hi]
     rw[←this];exact List.getElem_mem _
   have hz:=hs _ hm
   unfold okC at hz
   have hk:=kind_nat (N.getD i 0)
   have htk:=take_all N i hi
   rw[h2,Bool.true_and]at htk
   by_cases h0:n8_ (N.getD i 0)=0
   ·have:N.all (fun c=>n8_ c !=0)=false:=by
      rw[←List.take_append_drop (i+1) N,List.all_append,htk,h0];rfl
    rw[this]
    exact .inr ⟨by simp,dmB_all N _ _ i _ _ hi ha hk (by omega) rfl hl (y6_ N) (by omega) (by omega) hb (textZ_len _)⟩
   ·refine .inl ⟨i+1,⟨hi,htk.trans (by rw[bne_iff_ne];exact h0)⟩,by omega,?_⟩
    rw[take_map N i hi,join_app]
    exact dmA_all N _ _ i _ _ hi ha hk (by omega) (text_nat h0) hl (y6_ N) (by omega) (by omega) hb (by rw[←text_nat h0];exact textZ_len _)
  ·have he:i=N.length:=by omega
   subst he
   rw[List.take_length]at*
   rw[h2]
   exact .inr ⟨by simp,dmZ_all N _ [] N.length 0 0 rfl hl (y6_ N) (by omega) (by omega) hb (by simp)⟩
def n9_:List UInt8→List (List UInt8)
  | []=>[[]]
  |c::r=>if c=46 then []::n9_ r else(c::(n9_ r).headD [])::(n9_ r).tail
theorem splB_cons (c:UInt8)(r:List UInt8):n9_ (c::r)=if c=46 then []::n9_ r else(c::(n9_ r).headD [])::(n9_ r).tail:=rfl
theorem splB_ne:∀q,n9_ q≠[]
  | []=>by simp[n9_]
  |c::r=>by rw[splB_cons];split<;>simp
theorem splB_pre:∀(p:List UInt8),(∀c∈p,c≠46)→∀r,n9_ (p++r)=(p++(n9_ r).headD [])::(n9_ r).tail
  | [],_,r=>by
    have:=splB_ne r
    cases h:n9_ r with
    |nil=>exact absurd h this
    |cons x t=>simp[h]
  |c::p,hp,r=>by
   rw[List.cons_append,splB_cons,if_neg (hp c (.head _)),splB_pre p (fun d hd=>hp d (.tail _ hd)) r]
   rfl
theorem enc_dot {c:Nat}(h:okC c)(h46:c≠46):∀x∈y5_ c,x≠46:=by
  have hb:∀n:Nat,n<256→n≠46→UInt8.ofNat n≠46:=fun n h1 h2 e=>by
    have:=congrArg UInt8.toNat e
    rw[r5_ h1]at this
    exact h2 this
  intro x hx
  unfold okC at h
  by_cases k1:c<128
  ·rw[e1 k1]at hx
   obtain rfl:=List.mem_singleton.1 hx
   exact hb _ (by omega) h46
  ·by_cases k2:c<2048
   ·rw[e2 (by omega) k2]at hx
    simp only[List.mem_cons,List.mem_nil_iff,or_false]at hx
    rcases hx with rfl|rfl<;>exact hb _ (by omega) (by omega)
   ·by_cases k3:c<65536
    ·rw[e3 (by omega) k3]at hx
     simp only[List.mem_cons,List.mem_nil_iff,or_false]at hx
     rcases hx with rfl|rfl|rfl<;>exact hb _ (by omega) (by omega)
    ·rw[e4 (by omega)]at hx
     simp only[List.mem_cons,List.mem_nil_iff,or_false]at hx
     rcases hx with rfl|rfl|rfl|rfl<;>exact hb _ (by omega) (by omega)
theorem splB_join:∀{q:List Nat},(∀c∈q,okC c)→n9_ (join q)=(spl q).map join
  | [],_=>rfl
  |c::r,h=>by
   have ih:=splB_join (q:=r) fun d hd=>h d (.tail _ hd)
   have hn:=spl_ne r
   rw[n4_,spl_cons]
   by_cases hc:c=46
   ·subst hc
    rw[if_pos rfl,List.map_cons,←ih]
    rfl
   ·rw[if_neg hc,splB_pre _ (enc_dot (h c (.head _)) hc),ih]
    cases hs:spl r with
    |nil=>exact absurd hs hn
    |cons x t=>simp only[List.map_cons,List.headD_cons,List.tail_cons,n4_]
def labX (x:List UInt8):Option (List UInt8):=if h1_ (z1_ x)=true then some (k4_ (z1_ x))else none
def goD:List (List UInt8)→Option (List UInt8)
  | []=>some []
  |x::r=>match labX x with
   |none=>none
   |some t=>match r with
    | []=>some t
    |_::_=>(goD r).map fun u=>t++46::u
theorem goD_cons (x:List UInt8){r:List (List UInt8)}(h:r≠[]):goD (x::r)=match labX x with
    |none=>none
    |some t=>(goD r).map fun u=>t++46::u:=by
  cases r with
  |nil=>exact absurd rfl h
  |cons y r=>rfl
theorem goD_one (x:List UInt8):goD [x]=labX x:=by
  show(match labX x with|none=>none|some t=>some t)=labX x
  cases labX x<;>rfl
theorem goD_join:∀(ls:List (List Nat)),(∀l∈ls,∀c∈l,okC c)→goD (ls.map join)=domL ls
  | [],_=>rfl
  | [l],h=>by
    rw[List.map_cons,List.map_nil,goD_one,domL_one,labF_is]
    unfold labX
    rw[signs_join l (h l (.head _))]
  |l::y::r,h=>by
   have ih:=goD_join (y::r) fun m hm=>h m (.tail _ hm)
   rw[List.map_cons,goD_cons _ (by simp),ih,domL_cons l (by simp),labF_is]
   unfold labX
   rw[signs_join l (h l (.head _))]
   split
   ·rename_i e
    split at e
    ·cases e
    ·rename_i e2
     rw[if_neg e2]
   ·rename_i t e
    split at e
    ·rename_i e2
     obtain rfl:=Option.some.inj e
     rw[if_pos e2]
     cases domL (y::r)<;>rfl
    ·cases e
theorem labT_len {x:List UInt8}(hf:k5_ x=x):(k4_ (z1_ x)).length≤x.length+2504:=by
  unfold k4_
  split
  ·rw[show join (z1_ x)=x from hf];omega
  ·have:=encV_2500 (z8_ (z1_ x))
   rw[List.length_append]
   have:xnB.length=4:=rfl
   omega
structure DnI (a:List UInt8) (T:Option (List UInt8)) (o:List UInt8) (k i:Nat):Prop where
  h1:k≤i
  h2:i≤a.length
  h3:∀j,k≤j→j<i→a.getD j 0≠46
  h4:∀x∈n9_ (a.drop k),k5_ x=x
  h5:o.length≤2600*k
  h6:(goD (n9_ (a.drop k))).map (fun u=>o++u)=T
theorem piece_no {a:List UInt8}{k i:Nat}(h2:i≤a.length)(h3:∀j,k≤j→j<i→a.getD j 0≠46):∀c∈List.drop k (List.take i a),c≠46:=by
  intro c hc
  obtain⟨j,hj,rfl⟩:=List.getElem_of_mem hc
  rw[List.length_drop,List.length_take]at hj
  have:=h3 (k+j) (by omega) (by omega)
  rw[List.getElem_drop,List.getElem_take]
  simpa [List.getD,show k+j<a.length by omega]using this
theorem drop_piece {a:List UInt8}{k i:Nat}(h1:k≤i)(h2:i≤a.length):a.drop k=List.drop k (List.take i a)++a.drop i:=by
  conv=>lhs;rw[←List.take_append_drop i a]
  rw[List.drop_append_of_le_length (by rw[List.length_take];omega)]
theorem dn_walk (a:List UInt8)(hl:a.length≤100000)(hf:∀x∈n9_ a,k5_ x=x):Tri Ext0 p_ (.loop (z2_ p_ 8 13)) (dmC a [] 0 0) (if(goD (n9_ a)).isSome=true then .exit 2 else .ret) (if(goD (n9_ a)).isSome=true then dmE ((goD (n9_ a)).getD [])else dmN):=by
  refine t7_ mixed clZd_ok (fun x:List UInt8×Nat×Nat=>dmC a x.1 x.2.1 x.2.2) (fun x=>DnI a (goD (n9_ a)) x.1 x.2.1 x.2.2∨(x.2.2=a.length+1∧goD (n9_ a)=some x.1∧x.1.length≤2600*(a.length+1))) (fun x=>a.length+1-x.2.2) (fun x hx=>?_) ([],0,0)
    (.inl ⟨Nat.le_refl _,Nat.zero_le _,fun j h1 h2=>absurd h2 (Nat.not_lt_zero _),hf,by simp,by cases h:goD (n9_ a)<;>simp[h]⟩)
  generalize goD (n9_ a)=T at*
  obtain⟨o,k,i⟩:=x
  rcases hx with hx|⟨hx1,hx2,hx3⟩
  ·obtain⟨h1,h2,h3,h4,h5,h6⟩:=hx
   simp only at h1 h2 h3 h4 h5 h6 ⊢
   have hno:=piece_no h2 h3
   have hdp:=drop_piece h1 h2
   have hxl:(List.drop k (List.take i a)).length=i-k:=by rw[List.length_drop,List.length_take];omega
   generalize hx:List.drop k (List.take i a)=x at*
   by_cases hi:i<a.length
   ·by_cases hc:a.getD i 0=46
    ·have hcc:(((a.getD i 0).toNat:Nat):Int)=46:=by rw[hc];rfl
     rw[e9_ a i hi,hc]at hdp
     have hs:n9_ (a.drop k)=x::n9_ (a.drop (i+1)):=by
       rw[hdp,splB_pre x hno,splB_cons,if_pos rfl]
       simp
     rw[hs]at h4 h6
     have hfx:=h4 x (.head _)
     have hT:=labT_len hfx
     rw[goD_cons x (splB_ne _)]at h6
     cases hB:h1_ (z1_ x)with
     |false=>
      unfold labX at h6
      rw[hB]at h6
      have h6:T=none:=h6.symm
      rw[h6]
      exact .inr ⟨by simp,dnD_all a o x _ k i h2 (fun _=>hcc) h1 hx (by omega) hfx rfl (by rw[hB];rfl) hl (by omega) (by omega)⟩
     |true=>
      unfold labX at h6
      rw[hB,if_pos rfl]at h6
      refine .inl ⟨(o++k4_ (z1_ x)++[46],i+1,i+1),.inl ⟨Nat.le_refl _,hi,fun j q1 q2=>by simp only at q1 q2;omega,fun y hy=>h4 y (.tail _ hy),by simp only[List.length_append,List.length_singleton];omega,?_⟩,by simp only;omega,?_⟩
      ·rw[←h6,Option.map_map]
       congr 1
       funext u
       simp
      ·exact dnB_all a o x _ k i hi hcc h1 hx (by omega) hfx rfl (by rw[hB];rfl) hl (by omega) (by omega)
    ·refine .inl ⟨(o,k,i+1),.inl ⟨by simp only;omega,hi,fun j q1 q2=>?_,h4,h5,h6⟩,by simp only;omega,dnA_all a o x [] k i hi (u8_ne (k:=46) (by decide) hc) hl (by omega) (by simp)⟩
     simp only at q1 q2
     by_cases hj:j<i
     ·exact h3 j q1 hj
     ·have:j=i:=by omega
      rw[this];exact hc
   ·have he:i=a.length:=by omega
    have hd:a.drop i=[]:=List.drop_of_length_le (by omega)
    rw[hd,List.append_nil]at hdp
    have hs:n9_ (a.drop k)=[x]:=by
      have:=splB_pre x hno []
      rw[List.append_nil]at this
      rw[hdp,this]
      simp[n9_]
    rw[hs]at h4 h6
    have hfx:=h4 x (.head _)
    have hT:=labT_len hfx
    rw[goD_one]at h6
    unfold labX at h6
    cases hB:h1_ (z1_ x)with
    |false=>
     rw[hB]at h6
     have h6:T=none:=h6.symm
     rw[h6]
     exact .inr ⟨by simp,dnD_all a o x _ k i h2 (fun h=>absurd h hi) h1 hx (by omega) hfx rfl (by rw[hB];rfl) hl (by omega) (by omega)⟩
    |true=>
     rw[hB,if_pos rfl]at h6
     have h6:T=some (o++k4_ (z1_ x)):=h6.symm
     refine .inl ⟨(o++k4_ (z1_ x),i+1,i+1),.inr ⟨by simp only;omega,h6,by simp only[List.length_append];omega⟩,by simp only;omega,?_⟩
     exact dnC_all a o x _ k i he h1 hx (by omega) hfx rfl (by rw[hB];rfl) hl (by omega) (by omega)
  ·simp only at hx1 hx2 hx3 ⊢
   rw[hx2]
   exact .inr ⟨by simp,dnZ_all a o [] [] k i (by omega) hl (by omega) (by simp)⟩
def dmA0 (N:List Nat):St:=⟨frame 73 [(4,.sl 0 0 (z8_ N).length),(5,.c (str [])),(6,.c (.int .i64 (0:Nat)))],[some ⟨3,false,ints (z8_ N)⟩]⟩
theorem dmA0_is (N:List Nat):dmA0 N=dmA N [] 0:=by
  unfold dmA0 dmA
  rw[a9_,ints_natI]
noncomputable def dmLp (N:List Nat)(e1:Exit)(R1:St)(a:List UInt8)(e2:Exit)(R2:St):List (Nat×Lp):=
  [(4,⟨z2_ p_ 8 4,⟨[],[4,5,6],[0]⟩,dmA0 N,e1,R1⟩),(13,⟨z2_ p_ 8 13,⟨[],[5,9,10,11],[]⟩,dmC a [] 0 0,e2,R2⟩)]
theorem dmm1_all (l a o:List UInt8)(e2:Exit)(R2:St)(hl:l.length≤100000):∃(h:Hints) (p:List Prop),y0_ p_ 8 (z9_ p_ clZd h (y1_ (dmLp (z1_ l) .ret dmN a e2 R2)) 60 8 ([.c (str l)]) ([]))=some (.tu [.c (str []),.c (.bool false)],p)∧z7_ p:=by
  refine⟨⟨true,bs []⟩,[((l.length:Nat)≤((1000000000:Nat))),
 ((z2_ p_ (8:FuncId) (4:Nat):Go.Code))=(z2_ p_ (8:FuncId) (4:Nat)),
 ((dmA0 (z1_ l):St))=(dmA0 (z1_ l))],by kernel_rfl,?_⟩
  all_goals try simp(disch:=omega) only[std]
  all_goals repeat' apply And.intro
  all_goals first|exact True.intro|omega|with_reducible (first|rfl|assumption)|rfl
theorem dmm2_all (l a o:List UInt8)(e2:Exit)(R2:St)(hl:l.length≤100000):∃(h:Hints) (p:List Prop),y0_ p_ 8 (z9_ p_ clZd h (y1_ (dmLp (z1_ l) (.exit 0) (dmB a) a .ret dmN)) 60 8 ([.c (str l)]) ([]))=some (.tu [.c (str []),.c (.bool false)],p)∧z7_ p:=by
  refine⟨⟨true,bs []⟩,[((l.length:Nat)≤((1000000000:Nat))),
 ((z2_ p_ (8:FuncId) (4:Nat):Go.Code))=(z2_ p_ (8:FuncId) (4:Nat)),
 ((dmA0 (z1_ l):St))=(dmA0 (z1_ l)),
 ((z2_ p_ (8:FuncId) (13:Nat):Go.Code))=(z2_ p_ (8:FuncId) (13:Nat)),
 ((dmC a [] (0:Nat) (0:Nat):St))=(dmC a [] (0:Nat) (0:Nat))],by kernel_rfl,?_⟩
  all_goals try simp(disch:=omega) only[std]
  all_goals repeat' apply And.intro
  all_goals first|exact True.intro|omega|with_reducible (first|rfl|assumption)|rfl
theorem dmm3_all (l a o:List UInt8)(e2:Exit)(R2:St)(hl:l.length≤100000):∃(h:Hints) (p:List Prop),y0_ p_ 8 (z9_ p_ clZd h (y1_ (dmLp (z1_ l) (.exit 0) (dmB a) a (.exit 2) (dmE o))) 60 8 ([.c (str l)]) ([]))=some (.tu [.c (str o),.c (.bool true)],p)∧z7_ p:=by
  refine⟨⟨true,bs []⟩,[((l.length:Nat)≤((1000000000:Nat))),
 ((z2_ p_ (8:FuncId) (4:Nat):Go.Code))=(z2_ p_ (8:FuncId) (4:Nat)),
 ((dmA0 (z1_ l):St))=(dmA0 (z1_ l)),
 ((z2_ p_ (8:FuncId) (13:Nat):Go.Code))=(z2_ p_ (8:FuncId) (13:Nat)),
 ((dmC a [] (0:Nat) (0:Nat):St))=(dmC a [] (0:Nat) (0:Nat))],by kernel_rfl,?_⟩
  all_goals try simp(disch:=omega) only[std]
  all_goals repeat' apply And.intro
  all_goals first|exact True.intro|omega|with_reducible (first|rfl|assumption)|rfl
theorem dom_at (l:List UInt8)(hl:l.length≤100000)(hd:k2_ l):∃hs lp fuel p,p8_ Ext0 p_ lp∧y0_ p_ 8 (z9_ p_ clZd hs lp fuel 8 [.c (str l)] [])=some (.tu [.c (str ((c9_ l).getD [])),.c (.bool (c9_ l).isSome)],p)∧z7_ p:=by
  have hn:(z1_ l).length≤100000:=by have:=signs_len l;omega
  have w1:=dm_walk (z1_ l) hn (U8.signs_ok l)
  rw[←dmA0_is]at w1
  have hp:l9_ (z1_ l)=if(z1_ l).all (fun c=>n8_ c !=0)=true then some ((z1_ l).flatMap k0_)else none:=rfl
  cases hall:(z1_ l).all (fun c=>n8_ c !=0)with
  |false=>
   rw[hall]at w1 hp
   have hF:c9_ l=none:=by unfold c9_;rw[hp];rfl
   have w2:=dn_walk [] (by simp) (fun x hx=>by
     obtain rfl:=List.mem_singleton.1 (show x∈[[]]from hx)
     rfl)
   rw[hF]
   obtain⟨hh,p,e,hq⟩:=dmm1_all l [] [] _ _ hl
   exact⟨_,_,_,_,y3_ (y3_ z3_ List.nodup_nil w2) nd0 w1,e,hq⟩
  |true=>
   rw[hall]at w1 hp
   have hst:=put_out hp
   have hok:∀c∈(z1_ l).flatMap k0_,okC c:=fun c hc=>stays_ok (hst c hc)
   have hF:c9_ l=goD (n9_ (join ((z1_ l).flatMap k0_))):=by
     unfold c9_
     rw[hp,splB_join hok,goD_join _ fun m hm c hc=>hok c (spl_mem _ m hm c hc).1]
     rfl
   have w2:=dn_walk (join ((z1_ l).flatMap k0_)) (hd _ hp) (fun x hx=>by
     rw[splB_join hok]at hx
     obtain⟨m,hm,rfl⟩:=List.mem_map.1 hx
     exact fix_join m fun c hc=>hok c (spl_mem _ m hm c hc).1)
   rw[←hF]at w2
   cases hg:c9_ l with
   |none=>
    rw[hg]at w2
    obtain⟨hh,p,e,hq⟩:=dmm2_all l (join ((z1_ l).flatMap k0_)) [] .ret dmN hl
    exact⟨_,_,_,_,y3_ (y3_ z3_ List.nodup_nil w2) nd0 w1,e,hq⟩
   |some t=>
    rw[hg]at w2
    obtain⟨hh,p,e,hq⟩:=dmm3_all l (join ((z1_ l).flatMap k0_)) t .ret dmN hl
    exact⟨_,_,_,_,y3_ (y3_ z3_ List.nodup_nil w2) nd0 w1,e,hq⟩
theorem rdom_ok:x8_ p_ 8 domSpec:=by
  refine w1_ mixed clZd_ok fun args r q hs hq=>?_
  unfold domSpec at hs
  split at hs
  ·rename_i l
   simp only[oi_]at hs
   obtain⟨rfl,rfl⟩:=hs
   obtain⟨⟨⟨l⟩⟩,rfl⟩:∃b:ByteArray,b=l:=⟨l,rfl⟩
   simp only[q2_,z7_,and_true]at hq ⊢
   exact dom_at l hq.1 hq.2
  ·simp at hs
end Go.Proofs.YtmjldphagbobpaaGreatDoor
