import Derived.Test.YtmjldphagbobpaaDoorBas
set_option linter.unusedVariables false
set_option linter.unusedSimpArgs false
namespace Go.Proofs.YtmjldphagbobpaaDoor
open IntKind (i64 u8 i32 u32 u64)
open _root_.Go.Proofs.Tryd renaming prog→p_
open Go.RowKit
def unI (l:List AV):List Int:=l.map fun x=>match x with
  | .c (.int .i64 n)=>n
  |_=>0
def z2_ (L:List Int):List AV:=L.map fun n=> .c (.int .i64 n)
abbrev ints (L:List Int):List AV:=z2_ L
abbrev unints (l:List AV):List Int:=unI l
theorem ints_length (L:List Int):(ints L).length=L.length:=by simp[z2_]
theorem v3_ (L:List Int):(z2_ L).length=L.length:=by simp[z2_]
theorem v8_ (L:List Int):unI (z2_ L)=L:=by
  unfold unI z2_
  rw[List.map_map]
  conv=>rhs;rw[←List.map_id L]
  apply List.map_congr_left
  intro n _
  rfl
theorem unints_ints (L:List Int):unints (ints L)=L:=v8_ L
theorem j3_ (L:List Int)(i:Nat)(h:i<L.length):((z2_ L).drop i).headD .any= .c (.int .i64 (L.getD i 0)):=by
  unfold z2_
  rw[←List.map_drop,List.drop_eq_getElem_cons h]
  simp[List.getD,h]
theorem ints_headD (a:List Int)(i:Nat)(h:i<a.length):((ints a).drop i).headD .any= .c (.int .i64 (a.getD i 0)):=j3_ a i h
def itS (a b:List Int)(k i:Nat):St:=⟨frame 26 [(0,.fs 1 k (z2_ a)),(1,.fs 1 k (z2_ b)),(5,.c (.int .i64 i))],[]⟩
def itR:St:=⟨frame 26 [(4,.c (.bool false))],[]⟩
theorem itA_all (a b:List Int)(k i:Nat)(x y:Int)(hi:i<k)(ha:y0_ (((z2_ a).drop i).headD .any) (.c (.int .i64 x)))(hb:y0_ (((z2_ b).drop i).headD .any) (.c (.int .i64 y)))(hxy:x=y)(hk:k≤1000000000)(hal:(z2_ a).length=k)(hbl:(z2_ b).length=k):x1_ Ext0 p_ cl0 (z1_ p_ 12 4) (itS a b k i) (.normal) (itS a b k (i+1)):=by
  refine⟨⟨true,(bs [(14,true),(25,false)]++[(20,⟨.c (.int .i64 x),none⟩),(24,⟨.c (.int .i64 y),none⟩)])⟩,_,60,⟨[],[0,1,5],[]⟩,[decide ((↑i:Int)<↑k)=true,
 (0:Int)≤↑i,
 (↑i:Int)<↑k,
 (((0:Nat):Nat)<((List.drop i (z2_ a)).length)),
 y0_ ((List.drop i (z2_ a)).headD AV.any) ((AV.c ((Value.int .i64 x)))),
 (0:Int)≤↑i,
 (↑i:Int)<↑k,
 (((0:Nat):Nat)<((List.drop i (z2_ b)).length)),
 y0_ ((List.drop i (z2_ b)).headD AV.any) ((AV.c ((Value.int .i64 y)))),
 (x !=y)=false,
 (i64.min:Int)≤↑i+1,
 (↑i+1:Int)≤i64.max],z4_,by decide,by kernel_rfl,?_⟩
  all_goals try simp(disch:=omega) only[std,List.length_drop,hal,hbl]
  all_goals repeat' apply And.intro
  all_goals first|exact True.intro|omega|with_reducible (first|rfl|assumption)|exact ha|exact hb|exact hxy|exact hal|exact hbl|rfl
theorem itB_all (a b:List Int)(k i:Nat)(x y:Int)(hi:i<k)(ha:y0_ (((z2_ a).drop i).headD .any) (.c (.int .i64 x)))(hb:y0_ (((z2_ b).drop i).headD .any) (.c (.int .i64 y)))(hxy:¬x=y)(hk:k≤1000000000)(hal:(z2_ a).length=k)(hbl:(z2_ b).length=k):x1_ Ext0 p_ cl0 (z1_ p_ 12 4) (itS a b k i) (.ret) (itR):=by
  refine⟨⟨true,(bs [(14,true),(25,true)]++[(20,⟨.c (.int .i64 x),none⟩),(24,⟨.c (.int .i64 y),none⟩)])⟩,_,60,⟨[],[4],[]⟩,[decide ((↑i:Int)<↑k)=true,
 (0:Int)≤↑i,
 (↑i:Int)<↑k,
 (((0:Nat):Nat)<((List.drop i (z2_ a)).length)),
 y0_ ((List.drop i (z2_ a)).headD AV.any) ((AV.c ((Value.int .i64 x)))),
 (0:Int)≤↑i,
 (↑i:Int)<↑k,
 (((0:Nat):Nat)<((List.drop i (z2_ b)).length)),
 y0_ ((List.drop i (z2_ b)).headD AV.any) ((AV.c ((Value.int .i64 y)))),
 (x !=y)=true],z4_,by decide,by kernel_rfl,?_⟩
  all_goals try simp(disch:=omega) only[std,List.length_drop,hal,hbl]
  all_goals repeat' apply And.intro
  all_goals first|exact True.intro|omega|with_reducible (first|rfl|assumption)|exact ha|exact hb|exact hxy|exact hal|exact hbl|rfl
theorem itZ_all (a b:List Int)(k i:Nat)(x y:Int)(hi:i=k)(hk:k≤1000000000)(hal:(z2_ a).length=k)(hbl:(z2_ b).length=k):x1_ Ext0 p_ cl0 (z1_ p_ 12 4) (itS a b k i) (.exit 0) (itS a b k i):=by
  refine⟨⟨true,(bs [(14,false)]++[(20,⟨.c (.int .i64 x),none⟩),(24,⟨.c (.int .i64 y),none⟩)])⟩,_,60,⟨[],[0,1,5],[]⟩,[decide ((↑i:Int)<↑k)=false],z4_,by decide,by kernel_rfl,?_⟩
  all_goals try simp(disch:=omega) only[std,List.length_drop,hal,hbl]
  all_goals repeat' apply And.intro
  all_goals first|exact True.intro|omega|with_reducible (first|rfl|assumption)|exact hi|exact hal|exact hbl|rfl
theorem it_walk (a b:List Int)(hl:a.length≤1000000000)(he:b.length=a.length):Tri Ext0 p_ (.loop (z1_ p_ 12 4)) (itS a b a.length 0) (if a=b then .exit 0 else .ret) (if a=b then itS a b a.length a.length else itR):=by
  have h1:=v3_ a
  have h2:=(v3_ b).trans he
  refine n9_ mixed w6_ (fun i=>itS a b a.length i) (fun i=>i≤a.length∧∀j,j<i→a.getD j 0=b.getD j 0) (fun i=>a.length-i) (fun i hx=>?_) 0 ⟨Nat.zero_le _,fun j hj=>absurd hj (Nat.not_lt_zero _)⟩
  obtain⟨k1,k2⟩:=hx
  by_cases hi:i<a.length
  ·have ha:y0_ (((z2_ a).drop i).headD .any) (.c (.int .i64 (a.getD i 0))):=by rw[j3_ a i hi];exact u3_ _
   have hb:y0_ (((z2_ b).drop i).headD .any) (.c (.int .i64 (b.getD i 0))):=by rw[j3_ b i (by omega)];exact u3_ _
   by_cases hxy:a.getD i 0=b.getD i 0
   ·refine .inl ⟨i+1,⟨hi,fun j hj=>?_⟩,by omega,itA_all a b a.length i _ _ hi ha hb hxy hl h1 h2⟩
    by_cases hji:j<i
    ·exact k2 j hji
    ·have:j=i:=by omega
     rw[this];exact hxy
   ·have hne:¬a=b:=fun e=>hxy (by rw[e])
    rw[if_neg hne,if_neg hne]
    exact .inr ⟨by simp,itB_all a b a.length i _ _ hi ha hb hxy hl h1 h2⟩
  ·have hia:i=a.length:=by omega
   subst hia
   have heq:a=b:=by
     apply List.ext_getElem he.symm
     intro j hj hj2
     have:=k2 j hj
     simpa [List.getD,hj,hj2]using this
   rw[if_pos heq,if_pos heq]
   exact .inr ⟨by simp,itZ_all a b a.length a.length 0 0 rfl hl h1 h2⟩
noncomputable def itLp (a b:List Int)(k:Nat)(e:Exit)(R:St):List (Nat×Lp):=[(4,⟨z1_ p_ 12 4,⟨[],[0,1,5],[]⟩,itS a b k 0,e,R⟩)]
theorem itm1_all (a b:List Int)(k m:Nat)(hne:¬k=m):∃(h:Hints) (p:List Prop),y3_ p_ 12 (z8_ p_ cl0 h (y1_ ([])) 60 12 ([.fs 1 k (z2_ a),.fs 1 m (z2_ b)]) ([]))=some (.c (.bool false),p)∧z7_ p:=by
  refine⟨⟨true,(bs [(10,true)])⟩,[((↑k:Int) !=(↑m:Int))=true],by kernel_rfl,?_⟩
  all_goals try simp(disch:=omega) only[std]
  all_goals repeat' apply And.intro
  all_goals first|exact True.intro|omega|with_reducible (first|rfl|assumption)|(intro e;exact hne (by omega))|(apply hne;omega)|exact hne|rfl
theorem itm2_all (a b:List Int)(k m:Nat)(hkl:k≤1000000000):∃(h:Hints) (p:List Prop),y3_ p_ 12 (z8_ p_ cl0 h (y1_ ((itLp a b k .ret itR))) 60 12 ([.fs 1 k (z2_ a),.fs 1 k (z2_ b)]) ([]))=some (.c (.bool false),p)∧z7_ p:=by
  refine⟨⟨true,(bs [(10,false)])⟩,[((↑k:Int) !=(↑k:Int))=false,
 ((z1_ p_ (12:FuncId) (4:Nat):Go.Code))=(z1_ p_ (12:FuncId) (4:Nat)),
 ((itS a b k (0:Nat):St))=(itS a b k (0:Nat))],by kernel_rfl,?_⟩
  all_goals try simp(disch:=omega) only[std]
  all_goals repeat' apply And.intro
  all_goals first|exact True.intro|omega|with_reducible (first|rfl|assumption)|(intro e;exact hne (by omega))|(apply hne;omega)|rfl
theorem itm3_all (a b:List Int)(k m:Nat)(hkl:k≤1000000000):∃(h:Hints) (p:List Prop),y3_ p_ 12 (z8_ p_ cl0 h (y1_ ((itLp a b k (.exit 0) (itS a b k k)))) 60 12 ([.fs 1 k (z2_ a),.fs 1 k (z2_ b)]) ([]))=some (.c (.bool true),p)∧z7_ p:=by
  refine⟨⟨true,(bs [(10,false)])⟩,[((↑k:Int) !=(↑k:Int))=false,
 ((z1_ p_ (12:FuncId) (4:Nat):Go.Code))=(z1_ p_ (12:FuncId) (4:Nat)),
 ((itS a b k (0:Nat):St))=(itS a b k (0:Nat))],by kernel_rfl,?_⟩
  all_goals try simp(disch:=omega) only[std]
  all_goals repeat' apply And.intro
  all_goals first|exact True.intro|omega|with_reducible (first|rfl|assumption)|(intro e;exact hne (by omega))|(apply hne;omega)|rfl
def intsSpec2:Spec
  | [.fs s n l,.fs s' n' l']=>some (.c (.bool (decide (unI l=unI l'))),[s=1,l=z2_ (unI l),n=(unI l).length,s'=1,l'=z2_ (unI l'),n'=(unI l').length,n≤1000000000])
  |_=>none
theorem ints2_ok:w2_ p_ 12 intsSpec2:=by
  refine v5_ mixed w6_ fun args r q hs hq=>?_
  unfold intsSpec2 at hs
  split at hs
  ·rename_i s n l s' n' l'
   simp only[oi_]at hs
   obtain⟨rfl,rfl⟩:=hs
   obtain⟨rfl,h2,h3,rfl,h5,h6,h7,_⟩:=hq
   generalize unI l=a at*
   generalize unI l'=b at*
   subst h2 h3 h5 h6
   by_cases hlen:b.length=a.length
   ·have w:=it_walk a b h7 hlen
    rw[hlen]
    by_cases e:a=b
    ·rw[if_pos e,if_pos e]at w
     rw[decide_eq_true e]
     obtain⟨hh,p,ee,hp⟩:=itm3_all a b a.length 0 h7
     exact⟨_,_,_,_,x4_ z4_ List.nodup_nil w,ee,hp⟩
    ·rw[if_neg e,if_neg e]at w
     rw[decide_eq_false e]
     obtain⟨hh,p,ee,hp⟩:=itm2_all a b a.length 0 h7
     exact⟨_,_,_,_,x4_ z4_ List.nodup_nil w,ee,hp⟩
   ·have e:¬a=b:=fun e=>hlen (by rw[e])
    rw[decide_eq_false e]
    obtain⟨hh,p,ee,hp⟩:=itm1_all a b a.length b.length (fun e=>hlen e.symm)
    exact⟨_,_,_,_,z4_,ee,hp⟩
  ·simp at hs
end Go.Proofs.YtmjldphagbobpaaDoor
