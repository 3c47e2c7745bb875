import Derived.Test.YtmjldphagbobpaaDoorLevQ
import Derived.Test.YtmjldphagbobpaaDoorBas
import GoSem.Extern.SlicesOverlaps
set_option linter.unusedVariables false
set_option linter.unusedSimpArgs false
namespace Go.Proofs.YtmjldphagbobpaaDoor
open IntKind (i64 u8 i32 u32 u64)
open _root_.Go.Proofs.Tryd renaming prog→p_
open Go.RowKit
noncomputable def insC:Code:=codeOf p_ 31
def iF (n i:Nat)(l:List (Nat×AV))(hp:Heap):St:=⟨frame 95 ([(0,.sl 0 0 n),(1,.c (.int .i64 i)),(2,.sl 1 0 1)]++l),hp⟩
def iH (C:List AV)(x:AV):Heap:=[some ⟨3,false,C⟩,some ⟨3,false,[x]⟩]
theorem ipE_all (C:List AV)(x:AV)(n i:Nat)(hi:i=n)(hn:n≤255)(hC:C.length=n):∃(h:Hints) (p:List Prop),y5_ [1] (z8_ p_ cl0 h (y1_ ([])) 60 31 ([.sl 0 0 n,.c (.int .i64 i),.sl 1 0 1]) (iH C x))=some (.sl 2 0 (n+1),[none,none,some ⟨3,false,C.take n++[x]⟩],p)∧z7_ p:=by
  refine⟨⟨true,(bs [(22,true)])⟩,[(0:Int)≤↑i,
 (↑i:Int)≤↑n,
 (↑n:Int)≤↑n,
 ((↑i:Int)==(↑n:Int))=true,
 (((1:Nat):Nat)≤((1:Nat))),
 (((n+(1:Nat))*(8:Nat):Nat)≤((140737488355328:Nat))),
 ((n+(1:Nat):Nat)≤((4611686018427387904:Nat))),
 ((n:Nat)≤(C.length))],by kernel_rfl,?_⟩
  all_goals try simp(disch:=omega) only[std,hC]
  all_goals repeat' apply And.intro
  all_goals first|exact True.intro|omega|with_reducible (first|rfl|assumption)|exact hi|exact hC|rfl
theorem ip0_all (C:List AV)(x:AV)(n i:Nat)(hi:i<n)(hn:n≤255)(hC:C.length=n):x9_ 2 p_ cl0 (Code.lft insC) (iF n i [] (iH C x)) (.normal) (iF n i [] (iH C x)):=by
  refine⟨⟨true,(bs [(22,false)])⟩,_,60,⟨[],[0,1,2],[0,1]⟩,[],y4_,by decide,by kernel_rfl,?_⟩
  all_goals try simp(disch:=omega) only[std,hC]
  all_goals repeat' apply And.intro
  all_goals first|exact True.intro|omega|with_reducible (first|rfl|assumption)|exact hC|rfl
theorem ip1_all (C:List AV)(x:AV)(n i:Nat)(hi:i<n)(hn:n≤255)(hC:C.length=n):x9_ 2 p_ cl0 (Code.lft (Code.rgt insC)) (iF n i [] (iH C x)) (.normal) (iF n i [] (iH C x)):=by
  refine⟨⟨true,(bs [(22,false)])⟩,_,60,⟨[],[0,1,2],[0,1]⟩,[(0:Int)≤↑i,
 (↑i:Int)≤↑n,
 (↑n:Int)≤↑n],y4_,by decide,by kernel_rfl,?_⟩
  all_goals try simp(disch:=omega) only[std,hC]
  all_goals repeat' apply And.intro
  all_goals first|exact True.intro|omega|with_reducible (first|rfl|assumption)|exact hC|rfl
theorem ip2_all (C:List AV)(x:AV)(n i:Nat)(hi:i<n)(hn:n≤255)(hC:C.length=n):x9_ 2 p_ cl0 (Code.lft (Code.rgt (Code.rgt insC))) (iF n i [] (iH C x)) (.normal) (iF n i [(7,.c (.int .i64 1))] (iH C x)):=by
  refine⟨⟨true,(bs [(22,false)])⟩,_,60,⟨[],[0,1,2,7],[0,1]⟩,[],y4_,by decide,by kernel_rfl,?_⟩
  all_goals try simp(disch:=omega) only[std,hC]
  all_goals repeat' apply And.intro
  all_goals first|exact True.intro|omega|with_reducible (first|rfl|assumption)|exact hC|rfl
theorem ip3_all (C:List AV)(x:AV)(n i:Nat)(hi:i<n)(hn:n≤255)(hC:C.length=n):x9_ 2 p_ cl0 (Code.lft (Code.rgt (Code.rgt (Code.rgt insC)))) (iF n i [(7,.c (.int .i64 1))] (iH C x)) (.normal) (iF n i [(7,.c (.int .i64 1))] (iH C x)):=by
  refine⟨⟨true,(bs [(22,false)])⟩,_,60,⟨[],[0,1,2,7],[0,1]⟩,[],y4_,by decide,by kernel_rfl,?_⟩
  all_goals try simp(disch:=omega) only[std,hC]
  all_goals repeat' apply And.intro
  all_goals first|exact True.intro|omega|with_reducible (first|rfl|assumption)|exact hC|rfl
theorem ip4_all (C:List AV)(x:AV)(n i:Nat)(hi:i<n)(hn:n≤255)(hC:C.length=n):x9_ 2 p_ cl0 (Code.lft (Code.rgt (Code.rgt (Code.rgt (Code.rgt insC))))) (iF n i [(7,.c (.int .i64 1))] (iH C x)) (.normal) (iF n i [(7,.c (.int .i64 1)),(8,.c (.int .i64 n))] (iH C x)):=by
  refine⟨⟨true,(bs [(22,false)])⟩,_,60,⟨[],[0,1,2,7,8],[0,1]⟩,[],y4_,by decide,by kernel_rfl,?_⟩
  all_goals try simp(disch:=omega) only[std,hC]
  all_goals repeat' apply And.intro
  all_goals first|exact True.intro|omega|with_reducible (first|rfl|assumption)|exact hC|rfl
theorem ip5_all (C:List AV)(x:AV)(n i:Nat)(hi:i<n)(hn:n≤255)(hC:C.length=n):x9_ 2 p_ cl0 (Code.lft (Code.rgt (Code.rgt (Code.rgt (Code.rgt (Code.rgt insC)))))) (iF n i [(7,.c (.int .i64 1)),(8,.c (.int .i64 n))] (iH C x)) (.normal) (iF n i [(7,.c (.int .i64 1)),(8,.c (.int .i64 n))] (iH C x)):=by
  refine⟨⟨true,(bs [(22,false)])⟩,_,60,⟨[],[0,1,2,7,8],[0,1]⟩,[((↑i:Int)==(↑n:Int))=false],y4_,by decide,by kernel_rfl,?_⟩
  all_goals try simp(disch:=omega) only[std,hC]
  all_goals repeat' apply And.intro
  all_goals first|exact True.intro|omega|with_reducible (first|rfl|assumption)|exact hC|rfl
end Go.Proofs.YtmjldphagbobpaaDoor
namespace Go.Proofs.YtmjldphagbobpaaDoor
open IntKind (i64 u8 i32 u32 u64)
open _root_.Go.Proofs.Tryd renaming prog→p_
open Go.RowKit
theorem run_app_zeros {P:Program}{w:World}{t u ty e:TypeId}{i:TypeInfo}{z:Value}(ht:P.underlying t=some (.slice e))(hu:P.underlying u=some (.int .i64))(hi:P.info? e=some i)(hz:i.zero=some z)
    {base:Option Addr} {sLen sCap k:Nat} {olds:List Value} (hfo:(Builtin.firstCells i.size sLen (.slice base sLen sCap)).run P w.drew= .ok olds.toArray w.drew) (hs:i.size=1)
    (hg:sCap<sLen+k) (h63:sLen+k≤1000) (hb:i.bytes=8) (hk:0<k):
    (Builtin.append_ #[t,u] ty #[.slice base sLen sCap,.int .i64 k]).run P w=
      .ok (.slice (some ⟨w.heap.size,0,none⟩) (sLen+k) (grownCap w (sLen+k) sCap e))
        (w.drew.alloc (.cells (olds.toArray++Builtin.zeroCells z.cells k++Builtin.zeroCells z.cells (grownCap w (sLen+k) sCap e-(sLen+k))) e)):=by
  have hn:¬(sLen+k≤sCap):=by omega
  have hw:i64.wrap (k:Int)=k:=i64_wrap (by omega) (by omega)
  have hfit:=growslice_fits (by omega:sCap<sLen+k) (by rw[hb];omega:(sLen+k)*i.bytes≤140737488355328)
  have h48:¬(281474976710656<Builtin.nextslicecap (sLen+k) sCap*i.bytes):=by omega
  have h63':¬(9223372036854775807<((sLen:Int)+(k:Int))):=by omega
  have hk0:¬((k:Int)<0):=by omega
  have hkb:¬(281474976710656<(k:Int)*(i.bytes:Int)):=by rw[hb];omega
  have hk2:¬(k=0):=by omega
  rw[hs]at hfo
  simp[Builtin.append_,run_underlying ht,run_underlying hu,sizeOf,typeInfo,zeroValue,hi,hz,asInt,asIntOf,hw,hn,hk0,hkb,hk2,hs,h63',h48,Question.forced,hfo,newRow,grownCap]
theorem frozen_row {w:World}{g o:Nat}{cur:Array Value}{e:TypeId}{fz:Nat×Nat}(hg:w.heap[g]? =some (.cells cur e fz))(hf:∀off,¬(fz.1≤off∧off<fz.2)):w.frozen? ⟨g,o,none⟩=false:=by
  obtain⟨f1,f2⟩:=fz
  have:=hf o
  simp only[World.frozen?,hg]
  simp only[Bool.and_eq_false_iff,decide_eq_false_iff_not]
  simp only at this
  omega
theorem ov_match (a b:Option Addr)(la c lb d:Nat)(h1:Option Addr→Nat→Nat→Option Addr→Nat→Nat→Sem Value)(h2:Array Value→Sem Value):
    Extern.SlicesOverlaps.overlaps.match_4 (fun _=>Sem Value) #[.slice a la c,.slice b lb d] h1 h2=h1 a la c b lb d:=rfl
theorem run_apart {P:Program}{w:World}{t e:TypeId}{rs:Array TypeId}{ps:Array TypeId}(hp:ps[0]? =some t)(ht:P.underlying t=some (.slice e)){i:TypeInfo}(hi:P.info? e=some i)
    {g1 o1 l1 c1 g2 o2 l2 c2:Nat} {r1 r2:Array Value} {e1 e2:TypeId} {f1 f2:Nat×Nat} (h1:w.heap[g1]? =some (.cells r1 e1 f1)) (h2:w.heap[g2]? =some (.cells r2 e2 f2)) (hne:g1≠g2)
    (n1:∀off,¬(f1.1≤off∧off<f1.2)) (n2:∀off,¬(f2.1≤off∧off<f2.2)):
    (Extern.SlicesOverlaps.overlaps ps rs #[.slice (some ⟨g1,o1,none⟩) l1 c1,.slice (some ⟨g2,o2,none⟩) l2 c2]).run P w= .ok (.bool false) w:=by
  have s1:w.shape? g1=some (e1,r1.size):=by simp[World.shape?,h1]
  have s2:w.shape? g2=some (e2,r2.size):=by simp[World.shape?,h2]
  have z1:∀o,w.frozen? ⟨g1,o,none⟩=false:=fun o=>frozen_row h1 n1
  have z2:∀o,w.frozen? ⟨g2,o,none⟩=false:=fun o=>frozen_row h2 n2
  delta Extern.SlicesOverlaps.overlaps
  rw[ov_match]
  simp only[hp]
  by_cases hz:l1=0∨l2=0∨i.size=0
  ·simp[run_underlying ht,sizeOf,typeInfo,hi,hz]
  ·simp[run_underlying ht,sizeOf,typeInfo,hi,hz,hne,z1,z2,noView,viewAt,s1,s2,mayBeOne,stringish]
end Go.Proofs.YtmjldphagbobpaaDoor
namespace Go.Proofs.YtmjldphagbobpaaDoor
open IntKind (i64 u8 i32 u32 u64)
open _root_.Go.Proofs.Tryd renaming prog→p_
open Go.RowKit
noncomputable def insC6:Code:=Code.rgt (Code.rgt (Code.rgt (Code.rgt (Code.rgt (Code.rgt insC)))))
noncomputable def insB9:Code:=Code.thn (Code.rgt (Code.lft insC6))
noncomputable def insR13:Code:=Code.rgt insC6
noncomputable def insX14:Code:=Code.lft (Code.rgt insR13)
noncomputable def insC15:Code:=Code.thn (Code.rgt insX14)
def iE (b n:Nat)(hp:Heap):St:=⟨frame 95 [(6,.sl b 0 (n+1))],hp⟩
def iB (C:List AV):Option Blk:=some ⟨3,false,C⟩
theorem ipB_all (C Z D1 D2:List AV)(x:AV)(n i:Nat)(hi:i<n)(hn:n≤255)(hC:C.length=n)(hZ:Z.length=n+1)(hD:D1.length=n+1)(h1:List.take (i+0) Z++List.take (min (n+1-i) 1) [x]++List.drop (i+0+min (n+1-i) 1) Z=D1)(h2:List.take (i+1+0) D1++List.take (min (n+1-(i+1)) (n-i)) (List.take (n-i) (List.drop (i+0) C))++List.drop (i+1+0+min (n+1-(i+1)) (n-i)) D1=D2):x9_ 2 p_ cl0 (Code.rgt insB9) (iF n i [(7,.c (.int .i64 1)),(8,.c (.int .i64 n)),(9,.sl 2 0 (n+1))] [iB C,iB [x],iB Z]) (.ret) (iE 2 n [iB C,iB [x],iB D2]):=by
  refine⟨⟨true,([(45,⟨.c (.int .i64 1),some D1⟩),(49,⟨.c (.int .i64 (i+1:Nat)),none⟩),(54,⟨.c (.int .i64 (n-i:Nat)),some D2⟩)])⟩,_,60,⟨[],[6],[0,1,2]⟩,[(0:Int)≤↑i,
 (↑i:Int)≤↑(n+1),
 (↑(n+1):Int)≤↑(n+1),
 (((1:Nat):Nat)≤((1:Nat))),
 ((n+(1:Nat)-i+(i+(0:Nat)):Nat)≤(Z.length)),
 (((↑(min (n+(1:Nat)-i) (1:Nat)):Int):Int))=(1),
 ((List.take (i+(0:Nat)) Z++List.take (min (n+(1:Nat)-i) (1:Nat)) (List.take (1:Nat) (List.drop (0:Nat) [x]))++List.drop (i+(0:Nat)+min (n+(1:Nat)-i) (1:Nat)) Z:List AV))=(D1),
 (i64.min:Int)≤↑i+1,
 (↑i+1:Int)≤i64.max,
 (↑i+1:Int)=↑(i+1),
 (0:Int)≤↑(i+1),
 (↑(i+1):Int)≤↑(n+1),
 (↑(n+1):Int)≤↑(n+1),
 (0:Int)≤↑i,
 (↑i:Int)≤↑n,
 (↑n:Int)≤↑n,
 ((n-i+(i+(0:Nat)):Nat)≤(C.length)),
 ((n+(1:Nat)-(i+(1:Nat))+(i+(1:Nat)+(0:Nat)):Nat)≤(D1.length)),
 (((↑(min (n+(1:Nat)-(i+(1:Nat))) (n-i)):Int):Int))=((↑(n-i):Int)),
 ((List.take (i+(1:Nat)+(0:Nat)) D1++List.take (min (n+(1:Nat)-(i+(1:Nat))) (n-i)) (List.take (n-i) (List.drop (i+(0:Nat)) C))++List.drop (i+(1:Nat)+(0:Nat)+min (n+(1:Nat)-(i+(1:Nat))) (n-i)) D1:List AV))=(D2)],y4_,by decide,by kernel_rfl,?_⟩
  all_goals try simp(disch:=omega) only[std,List.length_take,List.length_drop,hC,hZ,hD]
  all_goals repeat' apply And.intro
  all_goals first|exact True.intro|omega|with_reducible (first|rfl|assumption)|exact hC|exact hZ|exact hD|exact h1|exact h2|rfl
def iG (n i:Nat)(l:List (Nat×AV))(hp:Heap):St:=⟨frame 95 ([(0,.sl 0 0 (n+1)),(1,.c (.int .i64 i)),(2,.sl 1 0 1)]++l),hp⟩
theorem ipC_all (Z D1 D2:List AV)(x:AV)(n i:Nat)(hi:i<n)(hn:n≤255)(hZ:Z.length=n+1)(hD:D1.length=n+1)(h1:List.take (i+1+0) Z++List.take (min (n+1-(i+1)) (n+1-i)) (List.take (n+1-i) (List.drop (i+0) Z))++List.drop (i+1+0+min (n+1-(i+1)) (n+1-i)) Z=D1)(h2:List.take (i+0) D1++List.take (min (n+1-i) 1) [x]++List.drop (i+0+min (n+1-i) 1) D1=D2):x9_ 2 p_ cl0 (insC15) (iG n i [(7,.c (.int .i64 1)),(8,.c (.int .i64 n))] [iB Z,iB [x]]) (.ret) (iE 0 n [iB D2,iB [x]]):=by
  refine⟨⟨true,([(72,⟨.c (.int .i64 (i+1:Nat)),none⟩),(77,⟨.c (.int .i64 (n-i:Nat)),some D1⟩),(82,⟨.c (.int .i64 1),some D2⟩)])⟩,_,60,⟨[],[6],[0,1]⟩,[(i64.min:Int)≤↑i+1,
 (↑i+1:Int)≤i64.max,
 (↑i+1:Int)=↑(i+1),
 (0:Int)≤↑(i+1),
 (↑(i+1):Int)≤↑(n+1),
 (↑(n+1):Int)≤↑(n+1),
 (0:Int)≤↑i,
 (↑i:Int)≤↑(n+1),
 (↑(n+1):Int)≤↑(n+1),
 ((n+(1:Nat)-i+(i+(0:Nat)):Nat)≤(Z.length)),
 ((n+(1:Nat)-(i+(1:Nat))+(i+(1:Nat)+(0:Nat)):Nat)≤(Z.length)),
 (((↑(min (n+(1:Nat)-(i+(1:Nat))) (n+(1:Nat)-i)):Int):Int))=((↑(n-i):Int)),
 ((List.take (i+(1:Nat)+(0:Nat)) Z++List.take (min (n+(1:Nat)-(i+(1:Nat))) (n+(1:Nat)-i)) (List.take (n+(1:Nat)-i) (List.drop (i+(0:Nat)) Z))++List.drop (i+(1:Nat)+(0:Nat)+min (n+(1:Nat)-(i+(1:Nat))) (n+(1:Nat)-i)) Z:List AV))=(D1),
 (0:Int)≤↑i,
 (↑i:Int)≤↑(n+1),
 (↑(n+1):Int)≤↑(n+1),
 (((1:Nat):Nat)≤((1:Nat))),
 ((n+(1:Nat)-i+(i+(0:Nat)):Nat)≤(D1.length)),
 (((↑(min (n+(1:Nat)-i) (1:Nat)):Int):Int))=(1),
 ((List.take (i+(0:Nat)) D1++List.take (min (n+(1:Nat)-i) (1:Nat)) (List.take (1:Nat) (List.drop (0:Nat) [x]))++List.drop (i+(0:Nat)+min (n+(1:Nat)-i) (1:Nat)) D1:List AV))=(D2)],y4_,by decide,by kernel_rfl,?_⟩
  all_goals try simp(disch:=omega) only[std,List.length_take,List.length_drop,hZ,hD]
  all_goals repeat' apply And.intro
  all_goals first|exact True.intro|omega|with_reducible (first|rfl|assumption)|exact hZ|exact hD|exact h1|exact h2|rfl
end Go.Proofs.YtmjldphagbobpaaDoor
namespace Go.Proofs.YtmjldphagbobpaaDoor
open IntKind (i64 u8 i32 u32 u64)
open _root_.Go.Proofs.Tryd renaming prog→p_
open Go.RowKit
def noOp:Oper:= { dst:=none,op:= .move (.const undef),type:=0,pos:= "",after:= #[],guard:=none}
def opN (c:Code)(k:Nat):Oper:=(Code.rops c).toList.getD k noOp
theorem list_split (l:List Oper)(k:Nat)(h:k<l.length):l=l.take k++(l.getD k noOp::l.drop (k+1)):=by
  have e:l.getD k noOp=l[k]:=by simp[List.getD,h]
  rw[e,←List.drop_eq_getElem_cons h,List.take_append_drop]
theorem wp_mid {P:Program}{c:Code}{id k:Nat}(hc:c= .region id (Code.rops c) false)(hk:k<(Code.rops c).toList.length)(hg:(opN c k).guard=none){cl:CallT}(hcl:x7_ P cl){hs1 hs2:Hints}{keep1 keep2:List Nat}{S S1 Sm S2:St}{p1 p2:List Prop}
    (h1:opsKeep keep1 (f0_ P cl hs1 (Code.rops c) ((Code.rops c).toList.take k) S [])=some (S1,p1)) (hp1:z7_ p1)
    (h2:opsKeep keep2 (f0_ P cl hs2 (Code.rops c) ((Code.rops c).toList.drop (k+1)) Sm [])=some (S2,p2)) (hp2:z7_ p2)
    {Q:Exit→Act→World→Prop} {a:Act} {w:World} {ι:Pl} (hS:StRel P w ι S a)
    (man:∀a' w' ι',StRel P w' ι' S1 a'→Ext w ι w' ι'→∃v w2 ι2,(execOp a'.eval (opN c k)).run P w'= .ok (.value v) w2∧Ext w' ι' w2 ι2∧StRel P w2 ι2 Sm (a'.put (opN c k).dst v))
    (next:∀a' w' ι',StRel P w' ι' S2 a'→Ext w ι w' ι'→Q .normal a' w'):c.wp P Q a w:=by
  rw[hc]
  refine wp_region_list ?_
  rw[list_split _ k hk]
  refine aOps_keep hcl h1 hp1 hS fun a1 w1 ι1 hS1 e1=>?_
  obtain⟨v,w2,ι2,hrun,e2,hS2⟩:=man a1 w1 ι1 hS1 e1
  refine wpList_val hg hrun ?_
  have:=aOps_keep (l2:=[]) (Q:=Q) hcl h2 hp2 hS2 fun a3 w3 ι3 hS3 e3=>next a3 w3 ι3 hS3 ((e1.trans e2).trans e3)
  rwa [List.append_nil]at this
theorem HpRel.retell {P:Program}{w:World}{ι:Pl}{hp:Heap}(h:HpRel P w ι hp){b:Nat}{B B':Blk}(hb:hp[b]? =some (some B))(hB:BlkOK P w ι b B'):HpRel P w ι (List.set hp b (some B')):=by
  have hbl:b<hp.length:=(List.getElem?_eq_some_iff.1 hb).1
  refine⟨fun k=>?_,h.inj,h.nohid,h.hlt,h.gl⟩
  by_cases hk:k=b
  ·subst hk
   rw[List.getElem?_set_self hbl]
   exact hB
  ·rw[List.getElem?_set_ne (Ne.symm hk)]
   exact h.blk k
def Room (w:World)(ι:Pl)(N:Nat):Prop:=∃g cur e fz,ι 0= .here g∧w.heap[g]? =some (.cells cur e fz)∧cur.size=N
theorem Room.ext {P:Program}{w w':World}{ι ι':Pl}{hp:Heap}{B:Blk}{N:Nat}(h:Room w ι N)(e:ExtK 2 w ι w' ι')(hh:HpRel P w' ι' hp)(hb:hp[0]? =some (some B)):Room w' ι' N:=by
  obtain⟨g,cur,e0,fz,h1,h2,h3⟩:=h
  rcases e.own 0 g (by decide) h1 with hd|⟨k1,k2⟩
  ·exact absurd hd (hh.notDead hb)
  ·obtain⟨cur',fz',k3,k4⟩:=k2 cur e0 fz h2
   exact⟨g,cur',e0,fz',k1,k3,k4.trans h3⟩
theorem cells3:p_.cellsOf 3=1:=by kernel_rfl
theorem und22:p_.underlying 27=some (.slice 3):=by kernel_rfl
theorem noU8:isU8 p_ 3=false:=by kernel_rfl
theorem room_at {w:World}{ι:Pl}{hp:Heap}{C:List AV}{N m:Nat}{v:Value}(hh:HpRel p_ w ι hp)(hb:hp[0]? =some (some ⟨3,false,C⟩))(hr:Room w ι N)(hv:VR p_ w ι true (.sl 0 0 m) v)(hm:0<m):
    ∃g cur fz,ι 0= .here g∧w.heap[g]? =some (.cells cur 3 fz)∧cur.size=N∧m≤N∧N≤maxLen∧v= .slice (some ⟨g,0,none⟩) m N:=by
  obtain⟨g,cap,cur,fz,hg,hcur,hn2,hs,hm2,rfl⟩:=hv.slPlace (hh.live hb) hm
  obtain⟨g',cur',e',fz',h1,h2,h3⟩:=hr
  rw[hg]at h1;cases h1
  rw[hcur]at h2;cases h2
  simp only[cells3]at hs ⊢
  have:cap=N:=by omega
  subst this
  exact⟨g,cur,fz,hg,hcur,h3,hn2,hm2,by simp⟩
theorem run_cap {P:Program}{w:World}{t ty e:TypeId}{a:Option Addr}{n c:Nat}(ht:P.underlying t=some (.slice e)):(Builtin.cap_ #[t] ty #[.slice a n c]).run P w= .ok (goInt c) w:=by
  simp[Builtin.cap_,run_underlying ht]
theorem run_reslice {P:Program}{w:World}{t e:TypeId}{i:TypeInfo}{g n cap:Nat}{h:Nat}(ht:P.underlying t=some (.slice e))(hi:P.info? e=some i)(hc:h≤cap)(h0:0<cap):
    (Instr.sliceAt t (.slice (some ⟨g,0,none⟩) n cap) none (some (.int .i64 (h:Nat))) none).run P w= .ok (.slice (some ⟨g,0,none⟩) h cap) w:=by
  have hh:(h:Int)≤(cap:Int):=by omega
  have hz:¬(cap=0):=by omega
  unfold Instr.sliceAt
  simp only[Sem.run_bind,run_underlying ht,Result.andThen_ok]
  unfold Instr.slice
  simp only[Sem.run_bind,run_underlying ht,Result.andThen_ok]
  simp[Instr.sliceBounds,Instr.sliceBound,asIntOf,hh,sizeOf,typeInfo,hi,hz]
  rw[if_pos hc]
  have e:(⟨g,0,none⟩:Addr).add 0=⟨g,0,none⟩:=by unfold Addr.add;split<;>simp_all
  rw[e]
noncomputable def insR8:Code:=Code.lft (Code.lft insC6)
noncomputable def insR9:Code:=Code.lft insB9
noncomputable def insR3:Code:=Code.lft insR13
noncomputable def insR4:Code:=Code.lft insX14
def iT8 (n i:Nat)(l:List (Nat×AV))(hp:Heap):St:=iF n i ([(7,.c (.int .i64 1)),(8,.c (.int .i64 n))]++l) hp
theorem r8_all (C:List AV)(x:AV)(n i N:Nat)(g:Bool)(hn:n≤255)(hi:i<n)(hN:N≤maxLen)(hg:decide (((n+1:Nat):Int)>((N:Nat):Int))=g){Q:Exit→Act→World→Prop}{a:Act}{w:World}{ι:Pl}(hS:StRel p_ w ι (iT8 n i [] (iH C x)) a)(hr:Room w ι N)
    (next:∀a' w' ι',StRel p_ w' ι' (iT8 n i [(31,.c (.bool g))] (iH C x)) a'→Ext w ι w' ι'→Q .normal a' w'):insR8.wp p_ Q a w:=by
  refine wp_mid (id:=8) (k:=4) (by kernel_rfl) (by
      have:(Code.rops insR8).toList.length=6:=by kernel_rfl
      omega) (by kernel_rfl) w6_ (hs1:=⟨true,[(28,⟨.c (.int .i64 (n+1:Nat)),none⟩)]⟩) (hs2:=⟨true,[(31,⟨.c (.bool g),none⟩)]⟩) (keep1:=[0,1,2,7,8,28,29]) (keep2:=[0,1,2,7,8,31])
    (S1:=iT8 n i [(28,.c (.int .i64 (n+1:Nat))),(29,.sl 0 0 n)] (iH C x)) (Sm:=iT8 n i [(28,.c (.int .i64 (n+1:Nat))),(29,.sl 0 0 n),(30,.c (.int .i64 N))] (iH C x)) (S2:=iT8 n i [(31,.c (.bool g))] (iH C x))
    (p1:=[(i64.min:Int)≤(n:Int)+1,(n:Int)+1≤i64.max,(n:Int)+1=((n+1:Nat):Int)]) (p2:=[decide (((n+1:Nat):Int)>((N:Nat):Int))=g]) (by kernel_rfl) ?_ (by kernel_rfl) ⟨hg,trivial⟩ hS ?_ next
  ·simp only[std]
   omega
  ·intro a' w' ι' h1 e1
   have hb:(iH C x)[0]? =some (some ⟨3,false,C⟩):=rfl
   have hr':=hr.ext (e1.toK 2) h1.hp hb
   have hv:=h1.fr.rel 29
   have e29:(iT8 n i [(28,.c (.int .i64 (n+1:Nat))),(29,.sl 0 0 n)] (iH C x)).fr.getD 29 .any= .sl 0 0 n:=by kernel_rfl
   rw[e29]at hv
   obtain⟨g0,cur,fz,k1,k2,k3,k4,k5,k6⟩:=room_at h1.hp hb hr' hv (by omega)
   have ho:(opN insR8 4).op= .call { callee:= .builtin .cap,args:= #[.tmp 29],argTypes:= #[27]} :=by kernel_rfl
   have hd:(opN insR8 4).dst=some 30:=by kernel_rfl
   have hev:a'.eval (.tmp 29)= .slice (some ⟨g0,0,none⟩) n N:=k6
   refine⟨.int .i64 N,w',ι',?_,Ext.refl _ _,?_⟩
   ·have hc:=run_cap (P:=p_) (w:=w') (ty:=(opN insR8 4).type) (a:=some ⟨g0,0,none⟩) (n:=n) (c:=N) und22
    simp[execOp,ho,resolve,invoke,builtin,hev,hc,goInt]
   ·rw[hd]
    exact(h1.put (x:= .c (.int .i64 N)) .c (some 30)).keep [0,1,2,7,8,28,29,30]
theorem r9_all (C:List AV)(x:AV)(n i N:Nat)(hn:n≤255)(hi:i<n)(hN:N<n+1)(hC:C.length=n){Q:Exit→Act→World→Prop}{a:Act}{w:World}{ι:Pl}(hS:StRel p_ w ι (iT8 n i [] (iH C x)) a)(hr:Room w ι N)
    (next:∀a' w' ι',StRel p_ w' ι' (iT8 n i [(9,.sl 2 0 (n+1))] (iH C x++[iB (C.take i++List.replicate (n+1-i) .any)])) a'→Ext w ι w' ι'→Q .normal a' w'):insR9.wp p_ Q a w:=by
  refine wp_mid (id:=9) (k:=8) (by kernel_rfl) (by
      have:(Code.rops insR9).toList.length=10:=by kernel_rfl
      omega) (by kernel_rfl) w6_ (hs1:=⟨true,[(37,⟨.c (.int .i64 (n+1:Nat)),none⟩),(39,⟨.c (.int .i64 (n+1-i:Nat)),none⟩)]⟩) (hs2:=⟨true,[]⟩) (keep1:=[0,1,2,7,8,34,39]) (keep2:=[0,1,2,7,8,9])
    (S1:=iT8 n i [(34,.sl 0 0 i),(39,.c (.int .i64 (n+1-i:Nat)))] (iH C x)) (Sm:=iT8 n i [(40,.sl 2 0 (n+1))] (iH C x++[iB (C.take i++List.replicate (n+1-i) .any)])) (S2:=iT8 n i [(9,.sl 2 0 (n+1))] (iH C x++[iB (C.take i++List.replicate (n+1-i) .any)]))
    (p1:=[(0:Int)≤0,(0:Int)≤(i:Int),(i:Int)≤(n:Int),(i64.min:Int)≤(n:Int)+1,(n:Int)+1≤i64.max,(n:Int)+1=((n+1:Nat):Int),(i64.min:Int)≤((n+1:Nat):Int)-(i:Int),((n+1:Nat):Int)-(i:Int)≤i64.max,((n+1:Nat):Int)-(i:Int)=((n+1-i:Nat):Int)]) (p2:=[]) (by kernel_rfl) ?_ (by kernel_rfl) trivial hS ?_ next
  ·simp only[std]
   omega
  ·intro a' w' ι' h1 e1
   have hb:(iH C x)[0]? =some (some ⟨3,false,C⟩):=rfl
   have hr':=hr.ext (e1.toK 2) h1.hp hb
   have hv:=h1.fr.rel 34
   have e34:(iT8 n i [(34,.sl 0 0 i),(39,.c (.int .i64 (n+1-i:Nat)))] (iH C x)).fr.getD 34 .any= .sl 0 0 i:=by kernel_rfl
   rw[e34]at hv
   have h39:a'.eval (.tmp 39)= .int .i64 (n+1-i:Nat):=(h1.ev (.tmp 39)).cInv
   have ho:(opN insR9 8).op= .call { callee:= .builtin .append,args:= #[.tmp 34,.tmp 39],argTypes:= #[27,3]} :=by kernel_rfl
   have hd:(opN insR9 8).dst=some 40:=by kernel_rfl
   have hu:p_.underlying 3=some (.int .i64):=by kernel_rfl
   obtain⟨ti,z,hti,hz,hzs,hsz,hby,hz1⟩:=b6_ (P:=p_) (e:=3) (by kernel_rfl)
   rw[cells3]at hsz hzs
   have hby8:ti.bytes=8:=by rw[hby];kernel_rfl
   obtain⟨base,cap,olds,hvv,hcap,hfo,hol,hone,hrel⟩:∃(base:Option Addr) (cap:Nat) (olds:List Value),a'.eval (.tmp 34)= .slice base i cap∧cap<n+1∧(Builtin.firstCells ti.size i (.slice base i cap)).run p_ w'.drew= .ok olds.toArray w'.drew∧olds.length=i∧
       (∀j,j<olds.length→(olds.getD j undef).oneCell'=true)∧∀j,j<olds.length→VR p_ w' ι' false ((C.take i).getD j .any) (olds.getD j undef):=by
     rcases Nat.eq_zero_or_pos i with h0|h0
     ·subst h0
      have hv0:=hv
      obtain⟨bse,cp,hv0,hc0⟩:∃bse cp,a'.tmps.getD 34 undef= .slice bse 0 cp∧cp<n+1:=by
        have hv0:=hv
        generalize a'.tmps.getD 34 undef=y at hv0
        cases hv0 with
        |slDead hd0=>exact absurd hd0 (h1.hp.notDead hb)
        |slZero=>exact⟨_,0,rfl,by omega⟩
        |slAt hg hcur hn2 hs hm2=>
         obtain⟨g',cur',e',fz',q1,q2,q3⟩:=hr'
         rw[hg]at q1;cases q1
         rw[hcur]at q2;cases q2
         obtain⟨cur',fz',hc',_⟩:=(h1.hp.live hb).cells hg hcur
         rw[hcur]at hc';cases hc'
         simp only[cells3]at hs
         exact⟨_,_,rfl,by omega⟩
      refine⟨bse,cp,[],hv0,hc0,?_,rfl,by simp,by simp⟩
      cases bse<;>simp[Builtin.firstCells,loadCells,loadCellsFrom]
     ·obtain⟨g0,cur,fz,k1,k2,k3,k4,k5,k6⟩:=room_at h1.hp hb hr' hv h0
      obtain⟨cur',fz',k2',_,q1,q2,q3,q4⟩:=(h1.hp.live hb).cells k1 k2
      rw[k2]at k2';cases k2'
      have hol:∀j,j<i→((List.range i).map fun j=>cur.getD j undef).getD j undef=cur.getD j undef:=fun j hj=>k6_ _ _ _ hj
      have q1:C.length≤cur.size:=q1
      refine⟨some ⟨g0,0,none⟩,N,(List.range i).map fun j=>cur.getD j undef,k6,hN,?_,by simp,fun j hj=>?_,fun j hj=>?_⟩
      ·simp only[Builtin.firstCells,hsz,Nat.mul_one]
       exact h6_ (w:=w') (W:=w'.drew) (n:=i) (g:=g0) (off:=0) (us:=fun j=>cur.getD j undef) (fun j hj=>by rw[Nat.zero_add];exact q4 j (by omega)) rfl _ rfl
      ·have hj:j<i:=by simpa using hj
       rw[hol j hj];exact q2 j (by show j<C.length;omega)
      ·have hj:j<i:=by simpa using hj
       rw[hol j hj,n1_ _ _ _ hj];exact q3 j (by show j<C.length;omega)
   have hrun:=run_app_zeros (P:=p_) (w:=w') (ty:=(opN insR9 8).type) (t:=27) (u:=3) (k:=n+1-i) und22 hu hti hz hfo hsz (by omega) (by omega) hby8 (by omega)
   rw[show i+(n+1-i)=n+1 by omega]at hrun
   have hge:=grownCap_ge w' (n+1) cap 3
   generalize hG:grownCap w' (n+1) cap 3=G at hrun hge
   have hGm:G≤maxLen:=by rw[←hG];exact grownCap_le_maxLen w' (n+1) cap 3 (by simp only[maxLen];omega)
   have hz2:∀k,(Builtin.zeroCells z.cells k).size=k:=fun k=>by rw[size_zeroCells,hzs,Nat.mul_one]
   have hrs:(olds.toArray++Builtin.zeroCells z.cells (n+1-i)++Builtin.zeroCells z.cells (G-(n+1))).size=G:=by
     rw[Array.size_append,Array.size_append,hz2,hz2,List.size_toArray,hol];omega
   have hget:∀j,j<G→((olds.toArray++Builtin.zeroCells z.cells (n+1-i)++Builtin.zeroCells z.cells (G-(n+1))).getD j undef)=if j<i then olds.getD j undef else if j<i+(n+1-i)then(Builtin.zeroCells z.cells (n+1-i)).getD (j-i) undef else(Builtin.zeroCells z.cells (G-(n+1))).getD (j-i-(n+1-i)) undef:=by
     intro j hj
     have l1:(Builtin.zeroCells z.cells (n+1-i)).toList.length=n+1-i:=by simpa using hz2 (n+1-i)
     have h:=app_getD olds (Builtin.zeroCells z.cells (n+1-i)).toList (Builtin.zeroCells z.cells (G-(n+1))).toList j
     rw[Array.toArray_toList (xs:=Builtin.zeroCells z.cells (n+1-i)),Array.toArray_toList (xs:=Builtin.zeroCells z.cells (G-(n+1))),hol,l1,w1_ (Builtin.zeroCells z.cells (n+1-i)),w1_ (Builtin.zeroCells z.cells (G-(n+1)))]at h
     exact h
   have hall:∀j,j<G→((olds.toArray++Builtin.zeroCells z.cells (n+1-i)++Builtin.zeroCells z.cells (G-(n+1))).getD j undef).oneCell'=true:=by
     intro j hj
     rw[hget j hj]
     by_cases c1:j<i
     ·rw[if_pos c1];exact hone j (by omega)
     ·rw[if_neg c1]
      by_cases c2:j<i+(n+1-i)
      ·rw[if_pos c2];exact zero_one hz1 _ _ (by rw[hz2];omega)
      ·rw[if_neg c2];exact zero_one hz1 _ _ (by rw[hz2];omega)
   have hCl:(C.take i++List.replicate (n+1-i) AV.any).length=n+1:=by rw[List.length_append,List.length_take,List.length_replicate];omega
   obtain⟨e2,h2⟩:=h1.hp.push (B:=⟨3,false,C.take i++List.replicate (n+1-i) .any⟩) (o5_ w' _) (rowOK0 fun _ j hj=>hall j (by rw[hrs]at hj;exact hj)) (by rw[hrs];simp only[hCl];omega) (fun j hj=>hall j (by simp only[hCl]at hj;omega)) (fun j hj=>by
     simp only[hCl]at hj
     show VR p_ w' ι' false ((C.take i++List.replicate (n+1-i) AV.any).getD j .any) _
     by_cases c1:j<i
     ·rw[avapp_getD,if_pos (by rw[List.length_take];omega),hget j (by omega),if_pos c1]
      exact hrel j (by omega)
     ·have:(C.take i++List.replicate (n+1-i) AV.any).getD j .any= .any:=by
        rw[avapp_getD,if_neg (by rw[List.length_take];omega)]
        simp only[List.getD,List.getElem?_replicate]
        split<;>rfl
      rw[this];exact .any)
   refine⟨.slice (some ⟨w'.heap.size,0,none⟩) (n+1) G,_,_,?_,e2,?_⟩
   ·simp[execOp,ho,resolve,invoke,builtin,hvv,h39,hrun]
   ·rw[hd]
    have hs:StRel p_ _ _ ⟨(iT8 n i [(34,.sl 0 0 i),(39,.c (.int .i64 (n+1-i:Nat)))] (iH C x)).fr,iH C x++[iB (C.take i++List.replicate (n+1-i) .any)]⟩ a':=⟨h1.fr.mono e2,h2,h1.df⟩
    have hvr:VR p_ (w'.drew.alloc (.cells (olds.toArray++Builtin.zeroCells z.cells (n+1-i)++Builtin.zeroCells z.cells (G-(n+1))) 3)) (upd ι' 2 (.here w'.heap.size)) true (.sl 2 0 (n+1)) (.slice (some ⟨w'.heap.size,0,none⟩) (n+1) G):=by
      have:=VR.slAt (P:=p_) (w:=w'.drew.alloc (.cells (olds.toArray++Builtin.zeroCells z.cells (n+1-i)++Builtin.zeroCells z.cells (G-(n+1))) 3)) (ι:=upd ι' 2 (.here w'.heap.size)) (b:=2) (off:=0) (n:=n+1) (cap:=G) (by simp) (o5_ w' _).new hge (by rw[cells3,hrs];omega) hGm
      simpa using this
    exact(hs.put hvr (some 40)).keep [0,1,2,7,8,40]
theorem r13_all (C:List AV)(x:AV)(n i N:Nat)(hn:n≤255)(hi:i<n)(hN:n+1≤N)(hC:C.length=n){Q:Exit→Act→World→Prop}{a:Act}{w:World}{ι:Pl}(hS:StRel p_ w ι (iT8 n i [] (iH C x)) a)(hr:Room w ι N)
    (next:∀a' w' ι',StRel p_ w' ι' (iG n i [(7,.c (.int .i64 1)),(8,.c (.int .i64 n))] (iH (C++[.any]) x)) a'→Ext w ι w' ι'→Q .normal a' w'):insR3.wp p_ Q a w:=by
  refine wp_mid (id:=13) (k:=4) (by kernel_rfl) (by
      have:(Code.rops insR3).toList.length=6:=by kernel_rfl
      omega) (by kernel_rfl) w6_ (hs1:=⟨true,[(59,⟨.c (.int .i64 (n+1:Nat)),none⟩)]⟩) (hs2:=⟨true,[]⟩) (keep1:=[0,1,2,7,8,56,59]) (keep2:=[0,1,2,7,8])
    (S1:=iT8 n i [(56,.sl 0 0 n),(59,.c (.int .i64 (n+1:Nat)))] (iH C x)) (Sm:=iT8 n i [(60,.sl 0 0 (n+1))] (iH (C++[.any]) x)) (S2:=iG n i [(7,.c (.int .i64 1)),(8,.c (.int .i64 n))] (iH (C++[.any]) x))
    (p1:=[(i64.min:Int)≤(n:Int)+1,(n:Int)+1≤i64.max,(n:Int)+1=((n+1:Nat):Int)]) (p2:=[]) (by kernel_rfl) ?_ (by kernel_rfl) trivial hS ?_ next
  ·simp only[std]
   omega
  ·intro a' w' ι' h1 e1
   have hb:(iH C x)[0]? =some (some ⟨3,false,C⟩):=rfl
   have hr':=hr.ext (e1.toK 2) h1.hp hb
   have hv:=h1.fr.rel 56
   have e56:(iT8 n i [(56,.sl 0 0 n),(59,.c (.int .i64 (n+1:Nat)))] (iH C x)).fr.getD 56 .any= .sl 0 0 n:=by kernel_rfl
   rw[e56]at hv
   obtain⟨g0,cur,fz,k1,k2,k3,k4,k5,k6⟩:=room_at h1.hp hb hr' hv (by omega)
   have h59:a'.eval (.tmp 59)= .int .i64 (n+1:Nat):=(h1.ev (.tmp 59)).cInv
   have h56:a'.eval (.tmp 56)= .slice (some ⟨g0,0,none⟩) n N:=k6
   have ho:(opN insR3 4).op= .slice 27 (.tmp 56) none (some (.tmp 59)) none:=by kernel_rfl
   have hd:(opN insR3 4).dst=some 60:=by kernel_rfl
   obtain⟨ti,z,hti,_⟩:=b6_ (P:=p_) (e:=3) (by kernel_rfl)
   have hrun:=run_reslice (P:=p_) (w:=w') (g:=g0) (n:=n) (cap:=N) (h:=n+1) und22 hti hN (by omega)
   refine⟨.slice (some ⟨g0,0,none⟩) (n+1) N,w',ι',?_,Ext.refl _ _,?_⟩
   ·simp[execOp,ho,h56,h59]
    rw[show((n:Int)+1)=((n+1:Nat):Int)from rfl,hrun]
    rfl
   ·rw[hd]
    obtain⟨cur',fz',k2',q0,q1,q2,q3,q4⟩:=(h1.hp.live hb).cells k1 k2
    rw[k2]at k2';cases k2'
    have q1:C.length≤cur.size:=q1
    have hblk:BlkOK p_ w' ι' 0 ⟨3,false,C++[.any]⟩:=by
      refine .inr (.inl ⟨g0,cur,fz,k1,k2,q0,by simp only[List.length_append,List.length_singleton];omega,fun j hj=>q0.one noU8 j (by simp only[List.length_append,List.length_singleton]at hj;omega),fun j hj=>?_⟩)
      simp only[List.length_append,List.length_singleton]at hj
      show VR p_ w' ι' false ((C++[AV.any]).getD j .any) _
      rw[avapp_getD]
      by_cases c1:j<C.length
      ·rw[if_pos c1];exact q3 j c1
      ·rw[if_neg c1,show j-C.length=0 by omega];exact .any
    have h2:=h1.hp.retell hb hblk
    have hs:StRel p_ w' ι' ⟨(iT8 n i [(56,.sl 0 0 n),(59,.c (.int .i64 (n+1:Nat)))] (iH C x)).fr,iH (C++[.any]) x⟩ a':=⟨h1.fr,h2,h1.df⟩
    have hvr:VR p_ w' ι' true (.sl 0 0 (n+1)) (.slice (some ⟨g0,0,none⟩) (n+1) N):=by
      have:=VR.slAt (P:=p_) (w:=w') (ι:=ι') (b:=0) (off:=0) (n:=n+1) (cap:=N) k1 k2 hN (by rw[cells3];omega) k5
      simpa using this
    exact(hs.put hvr (some 60)).keep [0,1,2,7,8,60]
theorem r14_all (Z:List AV)(x:AV)(n i:Nat)(hn:n≤255)(hi:i<n)(hZ:Z.length=n+1){Q:Exit→Act→World→Prop}{a:Act}{w:World}{ι:Pl}(hS:StRel p_ w ι (iG n i [(7,.c (.int .i64 1)),(8,.c (.int .i64 n))] (iH Z x)) a)
    (next:∀a' w' ι',StRel p_ w' ι' (iG n i [(7,.c (.int .i64 1)),(8,.c (.int .i64 n)),(68,.c (.bool true))] (iH Z x)) a'→Ext w ι w' ι'→Q .normal a' w'):insR4.wp p_ Q a w:=by
  refine wp_mid (id:=14) (k:=6) (by kernel_rfl) (by
      have:(Code.rops insR4).toList.length=8:=by kernel_rfl
      omega) (by kernel_rfl) w6_ (hs1:=⟨true,[(65,⟨.c (.int .i64 (i+1:Nat)),none⟩)]⟩) (hs2:=⟨true,[]⟩) (keep1:=[0,1,2,7,8,61,66]) (keep2:=[0,1,2,7,8,68])
    (S1:=iG n i [(7,.c (.int .i64 1)),(8,.c (.int .i64 n)),(61,.sl 1 0 1),(66,.sl 0 (i+1) (n+1-(i+1)))] (iH Z x)) (Sm:=iG n i [(7,.c (.int .i64 1)),(8,.c (.int .i64 n)),(67,.c (.bool false))] (iH Z x)) (S2:=iG n i [(7,.c (.int .i64 1)),(8,.c (.int .i64 n)),(68,.c (.bool true))] (iH Z x))
    (p1:=[(i64.min:Int)≤(i:Int)+1,(i:Int)+1≤i64.max,(i:Int)+1=((i+1:Nat):Int),(0:Int)≤((i+1:Nat):Int),((i+1:Nat):Int)≤((n+1:Nat):Int),((n+1:Nat):Int)≤((n+1:Nat):Int)]) (p2:=[]) (by kernel_rfl) ?_ (by kernel_rfl) trivial hS ?_ next
  ·simp only[std]
   omega
  ·intro a' w' ι' h1 e1
   have hb:(iH Z x)[0]? =some (some ⟨3,false,Z⟩):=rfl
   have hb1:(iH Z x)[1]? =some (some ⟨3,false,[x]⟩):=rfl
   have ho:(opN insR4 6).op= .call { callee:= .value (.func 46),args:= #[.tmp 61,.tmp 66],argTypes:= #[27,27]} :=by kernel_rfl
   have hd:(opN insR4 6).dst=some 67:=by kernel_rfl
   have hv61:=h1.fr.rel 61
   have hv66:=h1.fr.rel 66
   have e61:(iG n i [(7,.c (.int .i64 1)),(8,.c (.int .i64 n)),(61,.sl 1 0 1),(66,.sl 0 (i+1) (n+1-(i+1)))] (iH Z x)).fr.getD 61 .any= .sl 1 0 1:=by kernel_rfl
   have e66:(iG n i [(7,.c (.int .i64 1)),(8,.c (.int .i64 n)),(61,.sl 1 0 1),(66,.sl 0 (i+1) (n+1-(i+1)))] (iH Z x)).fr.getD 66 .any= .sl 0 (i+1) (n+1-(i+1)):=by kernel_rfl
   rw[e61]at hv61
   rw[e66]at hv66
   obtain⟨g1,c1,cur1,fz1,k1,k2,k3,k4,k5,k6⟩:=hv61.slPlace (h1.hp.live hb1) (by omega)
   obtain⟨g0,c0,cur0,fz0,j1,j2,j3,j4,j5,j6⟩:=hv66.slPlace (h1.hp.live hb) (by omega)
   have hne:g1≠g0:=by
     rintro rfl
     have:=h1.hp.inj _ _ _ k1 j1
     cases this
   obtain⟨cur1',fz1',k2',q1,_⟩:=(h1.hp.live hb1).cells k1 k2
   rw[k2]at k2';cases k2'
   obtain⟨cur0',fz0',j2',q0,_⟩:=(h1.hp.live hb).cells j1 j2
   rw[j2]at j2';cases j2'
   obtain⟨ti,z,hti,_⟩:=b6_ (P:=p_) (e:=3) (by kernel_rfl)
   have hover:=run_apart (P:=p_) (w:=w') (t:=27) (ps:= #[27,27]) (rs:= #[4]) rfl und22 hti (o1:=0*p_.cellsOf 3) (l1:=1) (c1:=c1) (o2:=(i+1)*p_.cellsOf 3) (l2:=n+1-(i+1)) (c2:=c0) k2 j2 hne (q1.out noU8) (q0.out noU8)
   have hfun:=run_callFunc_extern (P:=p_) (f:=46) Tryd.func46 (by kernel_rfl) (by kernel_rfl) (by kernel_rfl) (e:=Extern.SlicesOverlaps.overlaps #[27,27] #[4]) (by kernel_rfl) #[.slice (some ⟨g1,0*p_.cellsOf 3,none⟩) 1 c1,.slice (some ⟨g0,(i+1)*p_.cellsOf 3,none⟩) (n+1-(i+1)) c0] w'
   rw[hover]at hfun
   have hex:(execOp a'.eval (opN insR4 6)).run p_ w'= .ok (.value (.bool false)) w':=by
     have e:execOp a'.eval (opN insR4 6)=(do let d←resolve a'.eval { callee:= .value (.func 46),args:= #[.tmp 61,.tmp 66],argTypes:= #[27,27]} (opN insR4 6).type;invoke d.target d.args):=by simp only[execOp,ho]
     have k6:a'.eval (.tmp 61)=_:=k6
     have j6:a'.eval (.tmp 66)=_:=j6
     rw[e]
     have hsim:(do let d←resolve a'.eval { callee:= .value (.func 46),args:= #[.tmp 61,.tmp 66],argTypes:= #[27,27]} (opN insR4 6).type;invoke d.target d.args:Sem Next).run p_ w'=(callFunc 46 #[a'.eval (.tmp 61),a'.eval (.tmp 66)]).run p_ w':=by
       simp[resolve,invoke,Act.eval,Deferred.ofValue]
     rw[hsim,k6,j6,hfun]
     rfl
   refine⟨.bool false,w',ι',hex,Ext.refl _ _,?_⟩
   rw[hd]
   exact(h1.put (x:= .c (.bool false)) .c (some 67)).keep [0,1,2,7,8,67]
end Go.Proofs.YtmjldphagbobpaaDoor
namespace Go.Proofs.YtmjldphagbobpaaDoor
open IntKind (i64 u8 i32 u32 u64)
open _root_.Go.Proofs.Tryd renaming prog→p_
open Go.RowKit
def k8_ (C:List AV)(i:Nat)(x:AV):List AV:=C.take i++x::C.drop i
def insISpec:HSpec
  | [.sl 0 0 n,.c (.int .i64 i),.sl 1 0 1],[some ⟨t,false,C⟩,some ⟨t2,false,[x]⟩]=>if t=3∧t2=3 then
      some (.sl 2 0 (n+1),[none,none,iB (k8_ C i.toNat x)],[0≤i,i≤n,n≤255,C.length=n])else none
  |_,_=>none
theorem fillB {C:List AV}{x:AV}{n i:Nat}(hi:i<n)(hC:C.length=n):∃D1,D1.length=n+1∧
    List.take (i+0) (C.take i++List.replicate (n+1-i) .any)++List.take (min (n+1-i) 1) [x]++List.drop (i+0+min (n+1-i) 1) (C.take i++List.replicate (n+1-i) .any)=D1∧
    List.take (i+1+0) D1++List.take (min (n+1-(i+1)) (n-i)) (List.take (n-i) (List.drop (i+0) C))++List.drop (i+1+0+min (n+1-(i+1)) (n-i)) D1=k8_ C i x:=by
  have m1:min (n+1-i) 1=1:=by omega
  have m2:min (n+1-(i+1)) (n-i)=n-i:=by omega
  have lt:(C.take i).length=i:=by rw[List.length_take];omega
  have ld:(C.drop i).length=n-i:=by rw[List.length_drop];omega
  have lz:(List.replicate (n+1-i) AV.any).length=n-i+1:=by rw[List.length_replicate];omega
  have e0:(C.drop i).take (n-i)=C.drop i:=List.take_of_length_le (by omega)
  simp only[Nat.add_zero,m1,m2,e0,List.take_succ_cons,List.take_zero]
  rw[show k8_ C i x=C.take i++x::C.drop i from rfl]
  generalize C.take i=A at*
  generalize C.drop i=B at*
  generalize List.replicate (n+1-i) AV.any=Z at*
  have e1:(A++Z).take i=A:=by rw[←lt,List.take_left]
  have e2:(A++Z).drop (i+1)=Z.drop 1:=by rw[←lt,List.drop_append];simp
  have lz2:(Z.drop 1).length=n-i:=by rw[List.length_drop];omega
  rw[e1,e2]
  refine⟨_,?_,rfl,?_⟩
  ·simp only[List.length_append,lt,List.length_singleton,lz2];omega
  ·have l1:(A++[x]).length=i+1:=by rw[List.length_append,lt];rfl
   have e3:(A++[x]++Z.drop 1).take (i+1)=A++[x]:=by rw[←l1,List.take_left]
   have e4:(A++[x]++Z.drop 1).drop (i+1+(n-i))=[]:=List.drop_of_length_le (by rw[List.length_append,l1,lz2];exact Nat.le_refl _)
   rw[e3,e4]
   simp
theorem fillC {C:List AV}{x:AV}{n i:Nat}(hi:i<n)(hC:C.length=n):∃D1,D1.length=n+1∧
    List.take (i+1+0) (C++[AV.any])++List.take (min (n+1-(i+1)) (n+1-i)) (List.take (n+1-i) (List.drop (i+0) (C++[AV.any])))++List.drop (i+1+0+min (n+1-(i+1)) (n+1-i)) (C++[AV.any])=D1∧
    List.take (i+0) D1++List.take (min (n+1-i) 1) [x]++List.drop (i+0+min (n+1-i) 1) D1=k8_ C i x:=by
  have m1:min (n+1-i) 1=1:=by omega
  have m2:min (n+1-(i+1)) (n+1-i)=n-i:=by omega
  have lt:(C.take (i+1)).length=i+1:=by rw[List.length_take];omega
  have ld:(C.drop i).length=n-i:=by rw[List.length_drop];omega
  have e1:(C++[AV.any]).take (i+1)=C.take (i+1):=List.take_append_of_le_length (by omega)
  have e2:(C++[AV.any]).drop i=C.drop i++[.any]:=List.drop_append_of_le_length (by omega)
  have e3:((C.drop i++[AV.any]).take (n+1-i)).take (n-i)=C.drop i:=by
    rw[List.take_take,Nat.min_eq_left (by omega),List.take_append_of_le_length (by omega),List.take_of_length_le (by omega)]
  have e4:(C++[AV.any]).drop (i+1+(n-i))=[]:=List.drop_of_length_le (by rw[List.length_append,List.length_singleton];omega)
  simp only[Nat.add_zero,m1,m2,e1,e2,e3,e4,List.append_nil,List.take_succ_cons,List.take_zero]
  refine⟨_,?_,rfl,?_⟩
  ·rw[List.length_append,lt,ld];omega
  ·have e5:(C.take (i+1)++C.drop i).take i=C.take i:=by
     rw[List.take_append_of_le_length (by omega),List.take_take,Nat.min_eq_left (by omega)]
   have e6:(C.take (i+1)++C.drop i).drop (i+1)=C.drop i:=by
     have:=List.drop_left (l₁:=C.take (i+1)) (l₂:=C.drop i)
     rw[lt]at this
     exact this
   rw[e5,e6]
   simp[k8_]
abbrev insR (w:World) (ι:Pl) (C:List AV) (i n:Nat) (x:AV):Ending→World→Prop:=fun e w'=>∃v ι',e= .returned v∧Ext w ι w' ι'∧HpRel p_ w' ι' [none,none,iB (k8_ C i x)]∧VR p_ w' ι' true (.sl 2 0 (n+1)) v
theorem ins_mid (C:List AV)(x:AV)(n i:Nat)(hn:n≤255)(hi:i<n)(hC:C.length=n){w:World}{ι:Pl}{vs:Array Value}(hh:HpRel p_ w ι (iH C x))(hl:3=vs.size)
    (hv:∀j,j<3→VR p_ w ι true ([AV.sl 0 0 n,.c (.int .i64 i),.sl 1 0 1].getD j .any) (vs.getD j undef)):Calls p_ 31 vs w (insR w ι C i n x):=by
  refine body_calls (c:=insC) (args:=[AV.sl 0 0 n,.c (.int .i64 i),.sl 1 0 1]) Tryd.func31 (by kernel_rfl) hh hl hv fun a0 hS0=>?_
  have hS0:StRel p_ w ι (iF n i [] (iH C x)) a0:=hS0
  have hb:(iH C x)[0]? =some (some ⟨3,false,C⟩):=rfl
  refine wp_piece (by kernel_rfl) ((ip0_all C x n i hi hn hC).tri mixed w6_) hS0 fun a1 w1 ι1 h1 x1=>?_
  refine wp_piece (by kernel_rfl) ((ip1_all C x n i hi hn hC).tri mixed w6_) h1 fun a2 w2 ι2 h2 x2=>?_
  refine wp_piece (by kernel_rfl) ((ip2_all C x n i hi hn hC).tri mixed w6_) h2 fun a3 w3 ι3 h3 x3=>?_
  refine wp_piece (by kernel_rfl) ((ip3_all C x n i hi hn hC).tri mixed w6_) h3 fun a4 w4 ι4 h4 x4=>?_
  refine wp_piece (by kernel_rfl) ((ip4_all C x n i hi hn hC).tri mixed w6_) h4 fun a5 w5 ι5 h5 x5=>?_
  refine wp_piece (by kernel_rfl) ((ip5_all C x n i hi hn hC).tri mixed w6_) h5 fun a6 w6 ι6 h6 x6=>?_
  have E:=((((x1.trans x2).trans x3).trans x4).trans x5).trans x6
  clear h1 h2 h3 h4 h5 x1 x2 x3 x4 x5 x6
  have h6:StRel p_ w6 ι6 (iT8 n i [] (iH C x)) a6:=h6
  obtain⟨N,hr,hNm⟩:∃N,Room w6 ι6 N∧N≤maxLen:=by
    obtain⟨g,cap,cur,fz,hg,hcur,hn2,hs,hm,_⟩:=(h6.fr.rel 0:VR p_ w6 ι6 true (.sl 0 0 n) _).slPlace (h6.hp.live hb) (by omega)
    simp only[cells3]at hs
    exact⟨cur.size,⟨g,cur,_,fz,hg,hcur,rfl⟩,by omega⟩
  show insC6.wp p_ _ a6 w6
  refine a9_ (by kernel_rfl) ?_
  refine a9_ (by kernel_rfl) ?_
  refine r8_all C x n i N (decide (((n+1:Nat):Int)>((N:Nat):Int))) hn hi hNm rfl h6 hr fun a7 w7 ι7 h7 x7=>?_
  have E7:=E.trans (x7.toK 2)
  have hr7:=hr.ext (x7.toK 2) h7.hp hb
  have hS7:StRel p_ w7 ι7 (iT8 n i [] (iH C x)) a7:=h7.keep [0,1,2,7,8]
  have hc:=h7.ev (.tmp 31)
  show(Code.rgt (Code.lft insC6)).wp p_ _ a7 w7
  rw[show Code.rgt (Code.lft insC6)= .cond (.tmp 31) insB9 .skip from by kernel_rfl]
  by_cases hcap:N<n+1
  ·have hg:decide (((n+1:Nat):Int)>((N:Nat):Int))=true:=by rw[decide_eq_true_eq];omega
   rw[hg]at hc
   refine wp_cond_true hc.cInv ?_
   refine a9_ (by kernel_rfl) ?_
   refine r9_all C x n i N hn hi hcap hC hS7 hr7 fun a8 w8 ι8 h8 x8=>?_
   have hZ:(C.take i++List.replicate (n+1-i) AV.any).length=n+1:=by rw[List.length_append,List.length_take,List.length_replicate];omega
   obtain⟨D1,d0,d1,d2⟩:=fillB (x:=x) hi hC
   refine((ipB_all C _ D1 _ x n i hi hn hC hZ d0 d1 d2).tri mixed w6_) w8 ι8 a8 _ h8 fun a9 w9 ι9 h9 x9=>?_
   have E9:=(E7.trans (x8.toK 2)).trans x9
   refine post_ret h9 (r:= .sl 2 0 (n+1)) (by kernel_rfl) fun v hvr=>?_
   obtain⟨ι10,e10,h10⟩:=c4_ [0,1] h9.hp
   exact⟨v,ι10,rfl,(ext_of_extK hh E9).trans e10,h10,hvr.mono e10⟩
  ·have hg:decide (((n+1:Nat):Int)>((N:Nat):Int))=false:=by rw[decide_eq_false_iff_not];omega
   rw[hg]at hc
   refine wp_cond_false hc.cInv ?_
   refine wp_skip ?_
   show insR13.wp p_ _ a7 w7
   refine a9_ (by kernel_rfl) ?_
   refine r13_all C x n i N hn hi (by omega) hC hS7 hr7 fun a8 w8 ι8 h8 x8=>?_
   show(Code.rgt insR13).wp p_ _ a8 w8
   refine a9_ (by kernel_rfl) ?_
   show insX14.wp p_ _ a8 w8
   refine a9_ (by kernel_rfl) ?_
   have hZ:(C++[AV.any]).length=n+1:=by rw[List.length_append,List.length_singleton,hC]
   refine r14_all (C++[.any]) x n i hn hi hZ h8 fun a9 w9 ι9 h9 x9=>?_
   have hc9:=h9.ev (.tmp 68)
   show(Code.rgt insX14).wp p_ _ a9 w9
   rw[show Code.rgt insX14= .cond (.tmp 68) insC15 .skip from by kernel_rfl]
   refine wp_cond_true hc9.cInv ?_
   have hS9:StRel p_ w9 ι9 (iG n i [(7,.c (.int .i64 1)),(8,.c (.int .i64 n))] (iH (C++[.any]) x)) a9:=h9.keep [0,1,2,7,8]
   obtain⟨D1,d0,d1,d2⟩:=fillC (x:=x) hi hC
   refine((ipC_all (C++[AV.any]) D1 _ x n i hi hn hZ d0 d1 d2).tri mixed w6_) w9 ι9 a9 _ hS9 fun a10 w10 ι10 h10 x10=>?_
   have E10:=((E7.trans (x8.toK 2)).trans (x9.toK 2)).trans x10
   have E11:=ext_of_extK hh E10
   refine post_ret h10 (r:= .sl 0 0 (n+1)) (by kernel_rfl) fun v hvr=>?_
   have hb10:[iB (k8_ C i x),iB [x]][0]? =some (some ⟨3,false,k8_ C i x⟩):=rfl
   obtain⟨g,cap,cur,fz,hg,hcur,hn2,hs,hm,rfl⟩:=hvr.slPlace (h10.hp.live hb10) (by omega)
   obtain⟨cur',fz',hcur',q0,q1,q2,q3,q4⟩:=(h10.hp.live hb10).cells hg hcur
   rw[hcur]at hcur';cases hcur'
   have hput:Put w10 w10 g cur 3 fz:=⟨rfl,rfl,rfl,rfl,hcur,fun k hk=>rfl⟩
   obtain⟨e12,h12⟩:=h10.hp.moveIn (b:=0) (B:=⟨3,false,k8_ C i x⟩) hg (by show 0<2;decide) hput q0 q1 q2 q3
   obtain⟨ι13,e13,h13⟩:=c4_ [1] h12
   refine⟨_,ι13,rfl,(E11.trans e12).trans e13,h13,VR.mono e13 ?_⟩
   exact .slAt (by show upd (upd ι10 0 .dead) 2 (.here g) 2= .here g;simp) hcur hn2 hs hm
open Classical in
theorem insI_ok:u0_ p_ 31 insISpec:=by
  intro args hp r hp' q hs hq w ι vs hh hl hv
  unfold insISpec at hs
  split at hs
  ·rename_i n i t C t2 x
   split at hs
   ·rename_i hc
    obtain⟨rfl,rfl⟩:=hc
    simp only[oi_]at hs
    obtain⟨rfl,rfl,rfl⟩:=hs
    obtain⟨h1,h2,h3,h4,_⟩:=hq
    obtain⟨i,rfl⟩:∃k:Nat,i=(k:Int):=⟨i.toNat,by omega⟩
    rw[Int.toNat_natCast]
    by_cases hi:i<n
    ·exact⟨⟨_,_,Tryd.func31,rfl,by decide⟩,ins_mid C x n i h3 hi h4 hh hl hv⟩
    ·have hin:i=n:=by omega
     subst hin
     obtain⟨hh1,p,e,hp⟩:=ipE_all C x i i rfl h3 h4
     have hput:k8_ C i x=C.take i++[x]:=by unfold k8_;rw[List.drop_of_length_le (by omega)]
     rw[hput]
     have ok:u0_ p_ 31 (fun a h=>if a=[.sl 0 0 i,.c (.int .i64 i),.sl 1 0 1]∧h=iH C x then some (.sl 2 0 (i+1),[none,none,some ⟨3,false,C.take i++[x]⟩],[])else none):=by
       refine n6_ mixed w6_ fun args hp r hp' q hs _=>?_
       split at hs
       ·rename_i hc
        obtain⟨rfl,rfl⟩:=hc
        simp only[oi_]at hs
        obtain⟨rfl,rfl,rfl⟩:=hs
        exact⟨_,_,_,_,e,hp⟩
       ·simp at hs
     exact ok _ _ _ _ [] (if_pos ⟨rfl,rfl⟩) trivial w ι vs hh hl hv
   ·simp at hs
  ·simp at hs
end Go.Proofs.YtmjldphagbobpaaDoor
