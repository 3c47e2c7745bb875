import Derived.Test.YtmjldphagbobpaaDoorPnyT
set_option linter.unusedVariables false
set_option linter.unusedSimpArgs false
namespace Go.Proofs.YtmjldphagbobpaaDoor
open IntKind (i64 u8 i32 u32 u64)
open _root_.Go.Proofs.Tryd renaming prog→p_
open Go.RowKit Pny Srt
def sel (N:List Nat)(P:Nat→Bool):List Nat:=((List.range N.length).filter P).map fun j=>N.getD j 0
theorem range_map (N:List Nat)(i:Nat)(h:i≤N.length):(List.range i).map (fun j=>N.getD j 0)=N.take i:=by
  induction i with
  |zero=>rfl
  |succ i ih=>rw[List.range_succ,List.map_append,ih (by omega),v9_ N i 0 (by omega)];rfl
theorem sel_all (N:List Nat)(P:Nat→Bool)(h:∀j,j<N.length→P j=true):sel N P=N:=by
  unfold sel
  rw[List.filter_eq_self.2 fun j hj=>h j (List.mem_range.1 hj),range_map N _ (Nat.le_refl _),List.take_length]
theorem sel_bas (N:List Nat):sel N (fun j=>decide (N.getD j 0<128)||([]:List Nat).contains j)=bas N:=by
  have h:bas N=((List.range N.length).map fun j=>N.getD j 0).filter fun z=>decide (z<128):=by
    rw[range_map N _ (Nat.le_refl _),List.take_length];rfl
  rw[h,List.filter_map]
  unfold sel
  congr 1
  refine List.filter_congr fun j _=>?_
  simp
theorem range_cut {k i:Nat}(h:i<k):∃T:List Nat,List.range k=List.range i++i::T∧∀j∈T,i<j:=by
  obtain⟨t,rfl⟩:∃t,k=i+(t+1):=⟨k-i-1,by omega⟩
  refine⟨(List.range t).map fun z=>i+(z+1),?_,fun j hj=>?_⟩
  ·rw[List.range_add,List.range_succ_eq_map,List.map_cons,List.map_map]
   rfl
  ·obtain⟨z,_,rfl⟩:=List.mem_map.1 hj
   omega
theorem sel_put (N:List Nat)(P Q:Nat→Bool){i:Nat}(hi:i<N.length)(hP:P i=false)(hQ:Q i=true)(h:∀j,j≠i→Q j=P j):
    sel N Q=(sel N P).take ((List.range i).filter P).length++N.getD i 0::(sel N P).drop ((List.range i).filter P).length:=by
  obtain⟨T,hT,hlt⟩:=range_cut hi
  have e1:(List.range i).filter Q=(List.range i).filter P:=List.filter_congr fun j hj=>h j (by have:=List.mem_range.1 hj;omega)
  have e2:T.filter Q=T.filter P:=List.filter_congr fun j hj=>h j (by have:=hlt j hj;omega)
  have eQ:sel N Q=((List.range i).filter P).map (fun j=>N.getD j 0)++N.getD i 0::(T.filter P).map fun j=>N.getD j 0:=by
    unfold sel
    rw[hT,List.filter_append,List.filter_cons_of_pos hQ,e1,e2,List.map_append,List.map_cons]
  have eP:sel N P=((List.range i).filter P).map (fun j=>N.getD j 0)++(T.filter P).map fun j=>N.getD j 0:=by
    unfold sel
    rw[hT,List.filter_append,List.filter_cons_of_neg (by rw[hP];simp),List.map_append]
  rw[eQ,eP,List.take_left' (by simp),List.drop_left' (by simp)]
theorem ahN_is (N:List Nat)(P:Nat→Bool){i:Nat}(hi:i<N.length)(h:∀j,j<i→P j=decide (N.getD j 0≤N.getD i 0)):((List.range i).filter P).length=ahN N i:=by
  unfold ahN
  rw[←range_map N i (by omega),List.filter_map,List.length_map]
  congr 1
  exact List.filter_congr fun j hj=>h j (List.mem_range.1 hj)
def dN (N:List Nat)(x:Stt)(i:Nat):Nat:=(N.getD i 0-x.c)*(x.out.length+1)+ahN N i-x.p
def puD (N:List Nat):Stt→List Nat→List Nat
  |_,[]=>[]
  |x,i::r=>dN N x i::puD N (stD x (dN N x i)) r
def Good (N:List Nat):Stt→List Nat→Prop
  |_,[]=>True
  |x,i::r=>(i<N.length∧x.c≤N.getD i 0∧ahN N i≤x.out.length∧x.p≤(N.getD i 0-x.c)*(x.out.length+1)+ahN N i∧okD x (dN N x i)=true)∧Good N (stD x (dN N x i)) r
theorem stD_dN {N:List Nat}{x:Stt}{i:Nat}(h1:x.c≤N.getD i 0)(h2:ahN N i≤x.out.length)(h3:x.p≤(N.getD i 0-x.c)*(x.out.length+1)+ahN N i):
    (x.p+dN N x i)/(x.out.length+1)=N.getD i 0-x.c∧(x.p+dN N x i)%(x.out.length+1)=ahN N i∧(stD x (dN N x i)).c=N.getD i 0∧(stD x (dN N x i)).p=ahN N i+1∧(stD x (dN N x i)).out=x.out.take (ahN N i)++N.getD i 0::x.out.drop (ahN N i):=by
  have e:x.p+dN N x i=ahN N i+(x.out.length+1)*(N.getD i 0-x.c):=by
    unfold dN
    rw[Nat.mul_comm (x.out.length+1)]
    omega
  have k1:(x.p+dN N x i)/(x.out.length+1)=N.getD i 0-x.c:=by
    rw[e,Nat.add_mul_div_left _ _ (by omega),Nat.div_eq_of_lt (by omega),Nat.zero_add]
  have k2:(x.p+dN N x i)%(x.out.length+1)=ahN N i:=by
    rw[e,Nat.add_mul_mod_self_left,Nat.mod_eq_of_lt (by omega)]
  have k3:x.c+(x.p+dN N x i)/(x.out.length+1)=N.getD i 0:=by rw[k1];omega
  refine⟨k1,k2,k3,?_,?_⟩
  ·show(x.p+dN N x i)%(x.out.length+1)+1=_
   rw[k2]
  ·show x.out.take ((x.p+dN N x i)%(x.out.length+1))++(x.c+(x.p+dN N x i)/(x.out.length+1))::x.out.drop ((x.p+dN N x i)%(x.out.length+1))=_
   rw[k2,k3]
def PA (N:List Nat)(a:List Nat)(j:Nat):Bool:=decide (N.getD j 0<128)||a.contains j
def Ord (N:List Nat)(x y:Nat):Prop:=N.getD x 0<N.getD y 0∨(N.getD x 0=N.getD y 0∧x≤y)
theorem ahN_mono {N:List Nat}{i0 i:Nat}(h:i0<i)(he:N.getD i0 0=N.getD i 0)(hi:i≤N.length):ahN N i0+1≤ahN N i:=by
  unfold ahN
  rw[←he]
  have e1:N.take i=N.take (i0+1)++(N.take i).drop (i0+1):=by
    have:=List.take_append_drop (i0+1) (N.take i)
    rw[List.take_take,Nat.min_eq_left (by omega)]at this
    exact this.symm
  rw[e1,List.filter_append,List.length_append,v9_ N i0 0 (by omega),List.filter_append,List.length_append,List.filter_cons_of_pos (by simp)]
  simp only[List.filter_nil,List.length_singleton]
  omega
theorem pu_run (N:List Nat)(hl:N.length≤255)(hok:∀z∈N,okC z=true)(o:List Nat)(hS:o.Pairwise (Ord N))(hM:∀j,j∈o↔j<N.length∧128≤N.getD j 0)(hN:o.Nodup):
    ∀(r a:List Nat) (x:Stt),o=a++r→x.out=sel N (PA N a)→((a=[]∧x.c=128∧x.p=0)∨∃i0,i0∈a∧(∀j∈a,j≠i0→Ord N j i0)∧x.c=N.getD i0 0∧x.p=ahN N i0+1)→Good N x r∧∃y,l2_ x (puD N x r)=some y∧y.out=N
  | [],a,x,ho,hx,hc=>by
    refine⟨trivial,x,rfl,?_⟩
    rw[hx]
    refine sel_all N _ fun j hj=>?_
    rw[List.append_nil]at ho
    unfold PA
    by_cases h:N.getD j 0<128
    ·rw[decide_eq_true h,Bool.true_or]
    ·rw[decide_eq_false h,Bool.false_or,←ho]
     exact List.contains_iff_mem.2 ((hM j).2 ⟨hj,by omega⟩)
  |i::r,a,x,ho,hx,hc=>by
   have hio:i∈o:=by rw[ho];simp
   obtain⟨hi,h128⟩:=(hM i).1 hio
   have hp:=hS
   rw[ho,List.pairwise_append,List.pairwise_cons]at hp
   obtain⟨_,⟨hir,_⟩,har⟩:=hp
   have hnd:=hN
   rw[ho,List.nodup_append]at hnd
   obtain⟨_,hn2,hn3⟩:=hnd
   have hia:i ∉ a:=fun h=>hn3 i h i (by simp) rfl
   have hPi:PA N a i=false:=by
     unfold PA
     rw[decide_eq_false (by omega),Bool.false_or]
     cases h:a.contains i with
     |false=>rfl
     |true=>exact absurd (List.contains_iff_mem.1 h) hia
   have hlow:∀j,j<i→PA N a j=decide (N.getD j 0≤N.getD i 0):=fun j hj=>by
     rw[Bool.eq_iff_iff,decide_eq_true_eq]
     unfold PA
     rw[Bool.or_eq_true,decide_eq_true_eq,List.contains_iff_mem]
     constructor
     ·rintro(h|h)
      ·omega
      ·have:=har j h i (by simp)
       unfold Ord at this
       omega
     ·intro h
      by_cases hlt:N.getD j 0<128
      ·exact .inl hlt
      ·have hjo:j∈o:=(hM j).2 ⟨by omega,by omega⟩
       rw[ho,List.mem_append,List.mem_cons]at hjo
       rcases hjo with h1|h1|h1
       ·exact .inr h1
       ·omega
       ·have:=hir j h1
        unfold Ord at this
        omega
   have hcnt:=ahN_is N (PA N a) hi hlow
   have hsel:sel N (PA N (a++[i]))=x.out.take (ahN N i)++N.getD i 0::x.out.drop (ahN N i):=by
     have:=sel_put N (PA N a) (PA N (a++[i])) hi hPi (by unfold PA;simp) (fun j hj=>by unfold PA;simp[hj])
     rw[this,hcnt,←hx]
   have hle:ahN N i≤x.out.length:=by
     rw[hx,←hcnt]
     obtain⟨T,hT,_⟩:=range_cut hi
     unfold sel
     rw[List.length_map,hT,List.filter_append,List.length_append]
     omega
   have hlen:x.out.length<N.length:=by
     rw[hx]
     unfold sel
     rw[List.length_map]
     have:=List.length_filter_lt_length_iff_exists (l:=List.range N.length) (p:=PA N a)
     rw[List.length_range]at this
     exact this.2 ⟨i,List.mem_range.2 hi,by rw[hPi];simp⟩
   have hcc:x.c≤N.getD i 0∧x.p≤(N.getD i 0-x.c)*(x.out.length+1)+ahN N i:=by
     rcases hc with⟨_,e1,e2⟩|⟨i0,h0,_,e1,e2⟩
     ·exact⟨by omega,by omega⟩
     ·have h1:=har i0 h0 i (by simp)
      have hi0:i0≠i:=fun e=>hia (e▸h0)
      obtain⟨hi0l,_⟩:=(hM i0).1 (by rw[ho];exact List.mem_append_left _ h0)
      unfold Ord at h1
      refine⟨by omega,?_⟩
      by_cases heq:N.getD i0 0=N.getD i 0
      ·have:=ahN_mono (N:=N) (i0:=i0) (i:=i) (by omega) heq (by omega)
       omega
      ·have h2:1*(x.out.length+1)≤(N.getD i 0-x.c)*(x.out.length+1):=Nat.mul_le_mul_right _ (by omega)
       have h3:ahN N i0+1≤x.out.length:=by
         rw[hx]
         have hc0:=ahN_is N (fun j=>decide (N.getD j 0≤N.getD i0 0)) hi0l (fun j _=>rfl)
         obtain⟨T,hT,_⟩:=range_cut hi0l
         unfold sel
         rw[List.length_map,hT,List.filter_append,List.length_append,List.filter_cons_of_pos (by unfold PA;rw[List.contains_iff_mem.2 h0,Bool.or_true]),List.length_cons,←hc0]
         have:((List.range i0).filter fun j=>decide (N.getD j 0≤N.getD i0 0)).length≤((List.range i0).filter (PA N a)).length:=by
           rw[←List.countP_eq_length_filter,←List.countP_eq_length_filter]
           refine List.countP_mono_left fun j hj hle=>?_
           have hj:=List.mem_range.1 hj
           rw[decide_eq_true_eq]at hle
           unfold PA
           rw[Bool.or_eq_true,decide_eq_true_eq,List.contains_iff_mem]
           by_cases hlt:N.getD j 0<128
           ·exact .inl hlt
           ·have hjo:j∈o:=(hM j).2 ⟨by omega,by omega⟩
            rw[ho,List.mem_append,List.mem_cons]at hjo
            rcases hjo with h1|h1|h1
            ·exact .inr h1
            ·subst h1;omega
            ·have:=har i0 h0 j (List.mem_cons_of_mem _ h1)
             unfold Ord at this
             omega
         omega
       omega
   obtain⟨s1,s2,s3,s4,s5⟩:=stD_dN hcc.1 hle hcc.2
   have hkd:okD x (dN N x i)=true:=by
     unfold okD
     rw[s1,Bool.and_eq_true,decide_eq_true_eq,Nat.add_sub_cancel' hcc.1]
     refine⟨hok _ ?_,by omega⟩
     have e:N[i]'hi=N.getD i 0:=by simp[List.getD,hi]
     rw[←e]
     exact List.getElem_mem _
   obtain⟨g,y,hy,hyo⟩:=pu_run N hl hok o hS hM hN r (a++[i]) (stD x (dN N x i)) (by rw[ho];simp) (s5.trans hsel.symm) (.inr ⟨i,by simp,fun j hj hne=>by
     rw[List.mem_append,List.mem_singleton]at hj
     rcases hj with hj|hj
     ·exact har j hj i (by simp)
     ·exact absurd hj hne,s3,s4⟩)
   refine⟨⟨⟨hi,hcc.1,hle,hcc.2,hkd⟩,g⟩,y,?_,hyo⟩
   show(if okD x (dN N x i)=true then l2_ (stD x (dN N x i)) (puD N (stD x (dN N x i)) r)else none)=some y
   rw[if_pos hkd]
   exact hy
theorem pu_enc (N:List Nat)(hl:N.length≤255)(hok:∀z∈N,okC z=true)(o:List Nat)(hS:o.Pairwise (Ord N))(hM:∀j,j∈o↔j<N.length∧128≤N.getD j 0)(hN:o.Nodup):
    Good N ⟨bas N,0,128⟩ o∧encE N (N.length+1) 128 (bas N).length 0=puD N ⟨bas N,0,128⟩ o:=by
  obtain⟨g,y,hy,hyo⟩:=pu_run N hl hok o hS hM hN o [] ⟨bas N,0,128⟩ rfl (sel_bas N).symm (.inl ⟨rfl,rfl,rfl⟩)
  obtain⟨z,z1,z2⟩:=enc_run N hl hok (N.length+1) 128 (bas N).length 0 ⟨bas N,0,128⟩ (by omega) rfl ⟨rfl,Nat.le_refl _,by simp only;omega⟩
  exact⟨g,(run_one (top_bas (bas N) (bas_lt N)) _ _ _ z y rfl z1 hy (z2.trans hyo.symm)).1⟩
theorem natL_at (L:List Int)(j:Nat):(w7_ L).getD j 0=(L.getD j 0).toNat:=by
  unfold w7_
  simp only[List.getD,List.getElem?_map]
  cases L[j]? <;>rfl
theorem ord_orO {L:List Int}(h:L.all okI=true):(orO L).Pairwise (Ord (w7_ L))∧(∀j,j∈orO L↔j<(w7_ L).length∧128≤(w7_ L).getD j 0)∧(orO L).Nodup:=by
  have hge:∀j,0≤L.getD j 0:=fun j=>by
    by_cases hj:j<L.length
    ·have e:L[j]'hj=L.getD j 0:=by simp[List.getD,hj]
     rw[←e]
     exact okI_ge (List.all_eq_true.1 h _ (List.getElem_mem _))
    ·simp[List.getD,List.getElem?_eq_none (by omega:L.length≤j)]
  have hlen:(w7_ L).length=L.length:=by simp[w7_]
  refine⟨?_,fun j=>?_,?_⟩
  ·refine(so_sor (x2_ L) (plc L L.length)).imp fun {x y} hle=>?_
   have h1:=hge x
   have h2:=hge y
   have hle:=i3_.1 hle
   unfold x2_ at hle
   unfold Ord
   rw[natL_at,natL_at]
   omega
  ·unfold orO
   rw[so_mem,hlen,natL_at]
   have h1:=hge j
   unfold plc
   rw[List.mem_filter,List.mem_range,decide_eq_true_eq]
   omega
  ·exact(e0_ (x2_ L) (plc L L.length)).nodup_iff.2 ((plc_inc L L.length).imp fun {x y} hlt=>Nat.ne_of_lt hlt)
end Go.Proofs.YtmjldphagbobpaaDoor
namespace Go.Proofs.YtmjldphagbobpaaDoor
open IntKind (i64 u8 i32 u32 u64)
open _root_.Go.Proofs.Tryd renaming prog→p_
open Go.RowKit Pny Srt
noncomputable def g6_:CallT:=p3_ p_ (r4_ [(30,signISpec),(58,orSpec),(59,ahSpec)]) (m0_ [(56,wbSpec),(37,bstSpec),(60,wrSpec),(32,tdSpec)]) 500 8
theorem clEc_ok:x7_ p_ g6_:=s3_ mixed (y8_ qsg_ok (y8_ order_ok (y8_ ahead_ok v2_))) (w5_ wb_ok (w5_ bst_ok (w5_ write_ok (w5_ told_ok s8_)))) 500 8
def ecS (C:List AV)(k i:Nat)(h:Heap):St:=⟨frame 80 [(0,.fs 1 k C),(4,.pt 0 0),(16,.fs 1 k C),(17,.c (.int .i64 k)),(18,.c (.int .i64 i))],h⟩
def ecA (C:List AV)(k:Nat)(h:Heap):St:=⟨frame 80 [(0,.fs 1 k C),(4,.pt 0 0)],h⟩
def ecN:St:=⟨frame 80 [(2,.c (str [])),(3,.c (.bool false))],[]⟩
theorem ecFA_all (C:List AV)(k i:Nat)(z:Int)(s:List UInt8)(x:UInt8)(hi:i<k)(hz:y0_ ((C.drop i).headD .any) (.c (.int .i64 z)))(hok:okI z=true)(hc:z<128)(hw:u8.wrap z=((x.toNat:Nat):Int))(hs:s=[])(hC:C.length=k)(hk:k≤255)(hsl:s.length≤255)(hxl:x.toNat<256):x1_ Ext0 p_ g6_ (z1_ p_ 42 5) (ecS C k i (wrF)) (.normal) (ecS C k (i+1) (wrWn (s.length+1) (s++[x]))):=by
  refine⟨⟨true,(bs [(19,true),(24,false),(26,true)]++[(21,⟨.c (.int .i64 z),none⟩),(28,⟨t4_ x,none⟩)])⟩,_,60,⟨[],[0,4,16,17,18],[0,2]⟩,[decide ((↑i:Int)<↑k)=true,
 (0:Int)≤↑i,
 (↑i:Int)<↑k,
 (((0:Nat):Nat)<((List.drop i C).length)),
 y0_ ((List.drop i C).headD AV.any) ((AV.c ((Value.int .i64 z)))),
 (!okI z)=false,
 decide ((z:Int)<128)=true,
 ((u8.wrap z:Int))=((↑x.toNat:Int)),
 (((0:Int):Int)≤((↑x.toNat:Int))),
 (((↑x.toNat:Int):Int)<((256:Int))),
 (i64.min:Int)≤↑i+1,
 (↑i+1:Int)≤i64.max],z4_,by decide,Eq.trans (b:=some ((.normal:Exit),⟨frame 80 [(0,(AV.fs 1 k C)),(4,(AV.pt 0 0)),(16,(AV.fs 1 k C)),(17,(AV.c ((Value.int .i64 ((↑k:Int)))))),(18,(AV.c ((Value.int .i64 ((↑i:Int)+(1:Int))))))],[(.some ⟨56,true,[(AV.pt 0 0),
 (AV.sl 1 0 1)]⟩),
 (.some ⟨5,false,[(AV.c ((Value.int .u8 ((↑(UInt8.ofNat x.toNat).toNat:Int)))))]⟩)]⟩,_)) (by kernel_rfl) (congrArg (fun S:St=>some ((.normal:Exit),S,_)) (by first|rfl|(simp(disch:=omega) only[std,List.length_drop,hC,UInt8.ofNat_toNat,Int.toNat_natCast,hok,Bool.not_true,hs,List.nil_append];first|done|rfl))),?_⟩
  all_goals try simp(disch:=omega) only[std,List.length_drop,hC,UInt8.ofNat_toNat,Int.toNat_natCast,hok,Bool.not_true,hs,List.nil_append]
  all_goals repeat' apply And.intro
  all_goals first|exact True.intro|omega|with_reducible (first|rfl|assumption)|exact hz|exact hw|exact hok|exact hs|exact hC|rfl
theorem ecFS_all (C:List AV)(k i:Nat)(z:Int)(s:List UInt8)(x:UInt8)(hi:i<k)(hz:y0_ ((C.drop i).headD .any) (.c (.int .i64 z)))(hok:okI z=true)(hc:¬z<128)(hC:C.length=k)(hk:k≤255)(hsl:s.length≤255)(hxl:x.toNat<256):x1_ Ext0 p_ g6_ (z1_ p_ 42 5) (ecS C k i (wrF)) (.normal) (ecS C k (i+1) wrF):=by
  refine⟨⟨true,(bs [(19,true),(24,false),(26,false)]++[(21,⟨.c (.int .i64 z),none⟩),(28,⟨t4_ x,none⟩)])⟩,_,60,⟨[],[0,4,16,17,18],[0]⟩,[decide ((↑i:Int)<↑k)=true,
 (0:Int)≤↑i,
 (↑i:Int)<↑k,
 (((0:Nat):Nat)<((List.drop i C).length)),
 y0_ ((List.drop i C).headD AV.any) ((AV.c ((Value.int .i64 z)))),
 (!okI z)=false,
 decide ((z:Int)<128)=false,
 (i64.min:Int)≤↑i+1,
 (↑i+1:Int)≤i64.max],z4_,by decide,by kernel_rfl,?_⟩
  all_goals try simp(disch:=omega) only[std,List.length_drop,hC,UInt8.ofNat_toNat,Int.toNat_natCast,hok,Bool.not_true]
  all_goals repeat' apply And.intro
  all_goals first|exact True.intro|omega|with_reducible (first|rfl|assumption)|exact hz|exact hw|exact hok|exact hC|rfl
theorem ecFN_all (C:List AV)(k i:Nat)(z:Int)(s:List UInt8)(x:UInt8)(hi:i<k)(hz:y0_ ((C.drop i).headD .any) (.c (.int .i64 z)))(hok:okI z=false)(hC:C.length=k)(hk:k≤255)(hsl:s.length≤255)(hxl:x.toNat<256):x1_ Ext0 p_ g6_ (z1_ p_ 42 5) (ecS C k i (wrF)) (.ret) (ecN):=by
  refine⟨⟨true,(bs [(19,true),(24,true)]++[(21,⟨.c (.int .i64 z),none⟩),(28,⟨t4_ x,none⟩)])⟩,_,60,⟨[],[2,3],[]⟩,[decide ((↑i:Int)<↑k)=true,
 (0:Int)≤↑i,
 (↑i:Int)<↑k,
 (((0:Nat):Nat)<((List.drop i C).length)),
 y0_ ((List.drop i C).headD AV.any) ((AV.c ((Value.int .i64 z)))),
 (!okI z)=true],z4_,by decide,by kernel_rfl,?_⟩
  all_goals try simp(disch:=omega) only[std,List.length_drop,hC,UInt8.ofNat_toNat,Int.toNat_natCast,hok,Bool.not_false]
  all_goals repeat' apply And.intro
  all_goals first|exact True.intro|omega|with_reducible (first|rfl|assumption)|exact hz|exact hw|exact hok|exact hC|rfl
theorem ecFZ_all (C:List AV)(k i:Nat)(z:Int)(s:List UInt8)(x:UInt8)(hi:i=k)(hC:C.length=k)(hk:k≤255)(hsl:s.length≤255)(hxl:x.toNat<256):x1_ Ext0 p_ g6_ (z1_ p_ 42 5) (ecS C k i (wrF)) (.exit 0) (ecA C k wrF):=by
  refine⟨⟨true,(bs [(19,false)]++[(21,⟨.c (.int .i64 z),none⟩),(28,⟨t4_ x,none⟩)])⟩,_,60,⟨[],[0,4],[0]⟩,[decide ((↑i:Int)<↑k)=false],z4_,by decide,by kernel_rfl,?_⟩
  all_goals try simp(disch:=omega) only[std,List.length_drop,hC,UInt8.ofNat_toNat,Int.toNat_natCast,Nat.add_zero]
  all_goals repeat' apply And.intro
  all_goals first|exact True.intro|omega|with_reducible (first|rfl|assumption)|exact hz|exact hw|exact hi|exact hC|rfl
theorem ecWA_all (C:List AV)(k i:Nat)(z:Int)(s:List UInt8)(x:UInt8)(hi:i<k)(hz:y0_ ((C.drop i).headD .any) (.c (.int .i64 z)))(hok:okI z=true)(hc:z<128)(hw:u8.wrap z=((x.toNat:Nat):Int))(h1:(z6_ s).take s.length++z6_ [x]=z6_ (s++[x]))(h2:(z6_ s).length=s.length)(hC:C.length=k)(hk:k≤255)(hsl:s.length≤255)(hxl:x.toNat<256):x1_ Ext0 p_ g6_ (z1_ p_ 42 5) (ecS C k i (wrW s)) (.normal) (ecS C k (i+1) (wrWn (s.length+1) (s++[x]))):=by
  refine⟨⟨true,(bs [(19,true),(24,false),(26,true)]++[(21,⟨.c (.int .i64 z),none⟩),(28,⟨t4_ x,none⟩)])⟩,_,60,⟨[],[0,4,16,17,18],[0,3]⟩,[decide ((↑i:Int)<↑k)=true,
 (0:Int)≤↑i,
 (↑i:Int)<↑k,
 (((0:Nat):Nat)<((List.drop i C).length)),
 y0_ ((List.drop i C).headD AV.any) ((AV.c ((Value.int .i64 z)))),
 (!okI z)=false,
 decide ((z:Int)<128)=true,
 ((u8.wrap z:Int))=((↑x.toNat:Int)),
 (((0:Int):Int)≤((↑x.toNat:Int))),
 (((↑x.toNat:Int):Int)<((256:Int))),
 ((s.length:Nat)≤((z6_ s).length)),
 ((s.length+(1:Nat):Nat)≤((140737488355328:Nat))),
 (i64.min:Int)≤↑i+1,
 (↑i+1:Int)≤i64.max],z4_,by decide,Eq.trans (b:=some ((.normal:Exit),⟨frame 80 [(0,(AV.fs 1 k C)),(4,(AV.pt 0 0)),(16,(AV.fs 1 k C)),(17,(AV.c ((Value.int .i64 ((↑k:Int)))))),(18,(AV.c ((Value.int .i64 ((↑i:Int)+(1:Int))))))],[(.some ⟨56,true,[(AV.pt 0 0),
 (AV.sl 1 0 (s.length+(1:Nat)))]⟩),
 (.some ⟨5,false,(List.take s.length (z6_ s)++z6_ [UInt8.ofNat x.toNat])⟩)]⟩,_)) (by kernel_rfl) (congrArg (fun S:St=>some ((.normal:Exit),S,_)) (by first|rfl|(simp(disch:=omega) only[std,List.length_drop,hC,UInt8.ofNat_toNat,Int.toNat_natCast,hok,Bool.not_true,h1,h2];first|done|rfl))),?_⟩
  all_goals try simp(disch:=omega) only[std,List.length_drop,hC,UInt8.ofNat_toNat,Int.toNat_natCast,hok,Bool.not_true,h1,h2]
  all_goals repeat' apply And.intro
  all_goals first|exact True.intro|omega|with_reducible (first|rfl|assumption)|exact hz|exact hw|exact hok|exact h1|exact h2|exact hC|rfl
theorem ecWS_all (C:List AV)(k i:Nat)(z:Int)(s:List UInt8)(x:UInt8)(hi:i<k)(hz:y0_ ((C.drop i).headD .any) (.c (.int .i64 z)))(hok:okI z=true)(hc:¬z<128)(hC:C.length=k)(hk:k≤255)(hsl:s.length≤255)(hxl:x.toNat<256):x1_ Ext0 p_ g6_ (z1_ p_ 42 5) (ecS C k i (wrW s)) (.normal) (ecS C k (i+1) (wrW s)):=by
  refine⟨⟨true,(bs [(19,true),(24,false),(26,false)]++[(21,⟨.c (.int .i64 z),none⟩),(28,⟨t4_ x,none⟩)])⟩,_,60,⟨[],[0,4,16,17,18],[0,1]⟩,[decide ((↑i:Int)<↑k)=true,
 (0:Int)≤↑i,
 (↑i:Int)<↑k,
 (((0:Nat):Nat)<((List.drop i C).length)),
 y0_ ((List.drop i C).headD AV.any) ((AV.c ((Value.int .i64 z)))),
 (!okI z)=false,
 decide ((z:Int)<128)=false,
 (i64.min:Int)≤↑i+1,
 (↑i+1:Int)≤i64.max],z4_,by decide,by kernel_rfl,?_⟩
  all_goals try simp(disch:=omega) only[std,List.length_drop,hC,UInt8.ofNat_toNat,Int.toNat_natCast,hok,Bool.not_true]
  all_goals repeat' apply And.intro
  all_goals first|exact True.intro|omega|with_reducible (first|rfl|assumption)|exact hz|exact hw|exact hok|exact hC|rfl
theorem ecWN_all (C:List AV)(k i:Nat)(z:Int)(s:List UInt8)(x:UInt8)(hi:i<k)(hz:y0_ ((C.drop i).headD .any) (.c (.int .i64 z)))(hok:okI z=false)(hC:C.length=k)(hk:k≤255)(hsl:s.length≤255)(hxl:x.toNat<256):x1_ Ext0 p_ g6_ (z1_ p_ 42 5) (ecS C k i (wrW s)) (.ret) (ecN):=by
  refine⟨⟨true,(bs [(19,true),(24,true)]++[(21,⟨.c (.int .i64 z),none⟩),(28,⟨t4_ x,none⟩)])⟩,_,60,⟨[],[2,3],[]⟩,[decide ((↑i:Int)<↑k)=true,
 (0:Int)≤↑i,
 (↑i:Int)<↑k,
 (((0:Nat):Nat)<((List.drop i C).length)),
 y0_ ((List.drop i C).headD AV.any) ((AV.c ((Value.int .i64 z)))),
 (!okI z)=true],z4_,by decide,by kernel_rfl,?_⟩
  all_goals try simp(disch:=omega) only[std,List.length_drop,hC,UInt8.ofNat_toNat,Int.toNat_natCast,hok,Bool.not_false]
  all_goals repeat' apply And.intro
  all_goals first|exact True.intro|omega|with_reducible (first|rfl|assumption)|exact hz|exact hw|exact hok|exact hC|rfl
theorem ecWZ_all (C:List AV)(k i:Nat)(z:Int)(s:List UInt8)(x:UInt8)(hi:i=k)(hC:C.length=k)(hk:k≤255)(hsl:s.length≤255)(hxl:x.toNat<256):x1_ Ext0 p_ g6_ (z1_ p_ 42 5) (ecS C k i (wrW s)) (.exit 0) (ecA C k (wrW s)):=by
  refine⟨⟨true,(bs [(19,false)]++[(21,⟨.c (.int .i64 z),none⟩),(28,⟨t4_ x,none⟩)])⟩,_,60,⟨[],[0,4],[0,1]⟩,[decide ((↑i:Int)<↑k)=false],z4_,by decide,by kernel_rfl,?_⟩
  all_goals try simp(disch:=omega) only[std,List.length_drop,hC,UInt8.ofNat_toNat,Int.toNat_natCast,Nat.add_zero]
  all_goals repeat' apply And.intro
  all_goals first|exact True.intro|omega|with_reducible (first|rfl|assumption)|exact hz|exact hw|exact hi|exact hC|rfl
def e2F (o:List Nat)(b c p:Nat)(f:Bool):Heap:=[some ⟨56,true,[.c (.pointer none),.c (.slice none 0 0)]⟩,some ⟨47,true,[.c (.int .i64 b),.c (.int .i64 c),.c (.int .i64 p),.c (.bool f)]⟩,some ⟨3,false,z0_ o⟩]
def e2W (o:List Nat)(s:List UInt8)(b c p:Nat)(f:Bool):Heap:=[some ⟨56,true,[.pt 0 0,.sl 3 0 s.length]⟩,some ⟨47,true,[.c (.int .i64 b),.c (.int .i64 c),.c (.int .i64 p),.c (.bool f)]⟩,some ⟨3,false,z0_ o⟩,some ⟨5,false,z6_ s⟩]
def e2S (N:List Nat)(m n q:Nat)(h:Heap):St:=⟨frame 80 [(0,.fs 1 N.length (z0_ N)),(4,.pt 0 0),(7,.c (.int .i64 n)),(8,.pt 1 0),(37,.sl 2 0 m),(38,.c (.int .i64 m)),(39,.c (.int .i64 q))],h⟩
def e2R (h:Heap):St:=⟨frame 80 [(4,.pt 0 0)],h⟩
theorem enF_all (N o:List Nat)(s w:List UInt8)(m n q i p c c0 pl x d b b2:Nat)(f:Bool)(hq:q<m)(hm:(z0_ o).length=m)(hmo:m≤255)(hi:((z0_ o).drop q).headD .any= .c (.int .i64 i))(hiN:i<N.length)(hNl:(z0_ N).length=N.length)(hN255:N.length≤255)(hx:((z0_ N).drop i).headD .any= .c (.int .i64 c))(hp:ahN N i=p)(hcc:c0≤c)(hxx:((c-c0:Nat):Int)*((n+1:Nat):Int)=(x:Nat))(hd:x+p=d+pl)(hcl:c≤1114111)(hnl:n≤255)(hpl:p≤255)(hpl2:pl≤256)(hd2:d≤2147483647)(hxl:x≤300000000)(hb:b≤1000)(hle:leB b 40 0 d=w)(hb2:adp d (n+1) (!f)=b2)(hsl:s.length≤90000):x1_ Ext0 p_ g6_ (z1_ p_ 42 17) (e2S N m n q (e2F o b c0 pl f)) (.normal) (e2S N m (n+1) (q+1) (e2W o w b2 c (p+1) true)):=by
  refine⟨⟨true,(bs [(40,true)]++[(42,⟨.c (.int .i64 i),none⟩),(45,⟨.c (.int .i64 p),none⟩),(49,⟨.c (.int .i64 c),none⟩),(52,⟨.c (.int .i64 (c-c0:Nat)),none⟩),(54,⟨.c (.int .i64 (n+1:Nat)),none⟩),(55,⟨.c (.int .i64 x),none⟩),(57,⟨.c (.int .i64 (x+p:Nat)),none⟩),(60,⟨.c (.int .i64 d),none⟩),(73,⟨.c (.int .i64 c),none⟩)])⟩,_,60,⟨[],[0,4,7,8,37,38,39],[0,1,2,3]⟩,[decide ((↑q:Int)<↑m)=true,
 (0:Int)≤↑q,
 (↑q:Int)<↑m,
 (((0:Nat):Nat)<((List.drop (q+(0:Nat)) (z0_ o)).length)),
 y0_ ((List.drop (q+(0:Nat)) (z0_ o)).headD AV.any) ((AV.c ((Value.int .i64 ((↑i:Int)))))),
 (((1:Nat):Nat))=((1:Nat)),
 ((z0_ N:List AV))=(z0_ (z5_ (z0_ N))),
 ((N.length:Nat))=((z5_ (z0_ N)).length),
 (0:Int)≤↑i,
 (↑i:Int)<↑N.length,
 ((N.length:Nat)≤((255:Nat))),
 (((↑(ahN (z5_ (z0_ N)) i):Int):Int))=((↑p:Int)),
 (0:Int)≤↑i,
 (↑i:Int)<↑N.length,
 (((0:Nat):Nat)<((List.drop i (z0_ N)).length)),
 y0_ ((List.drop i (z0_ N)).headD AV.any) ((AV.c ((Value.int .i64 ((↑c:Int)))))),
 (((0:Nat):Nat)<((3:Nat))),
 (i64.min:Int)≤↑c-↑c0,
 (↑c-↑c0:Int)≤i64.max,
 (↑c-↑c0:Int)=↑(c-c0),
 (i64.min:Int)≤↑n+1,
 (↑n+1:Int)≤i64.max,
 (↑n+1:Int)=↑(n+1),
 (i64.min:Int)≤↑(c-c0)*↑(n+1),
 (↑(c-c0)*↑(n+1):Int)≤i64.max,
 (↑(c-c0)*↑(n+1):Int)=↑x,
 (i64.min:Int)≤↑x+↑p,
 (↑x+↑p:Int)≤i64.max,
 (↑x+↑p:Int)=↑(x+p),
 (((0:Nat):Nat)<((2:Nat))),
 (i64.min:Int)≤↑(x+p)-↑pl,
 (↑(x+p)-↑pl:Int)≤i64.max,
 (↑(x+p)-↑pl:Int)=↑d,
 (((0:Nat):Nat)<((4:Nat))),
 (0:Int)≤↑d,
 (↑d:Int)≤2147483647,
 (0:Int)≤↑b,
 (↑b:Int)≤100000,
 (i64.min:Int)≤↑n+1,
 (↑n+1:Int)≤i64.max,
 (0:Int)≤↑d,
 (↑d:Int)≤2147483647,
 (1:Int)≤↑n+1,
 (↑n+1:Int)≤1000,
 (0:Int)≤↑b,
 (0:Int)≤↑c0,
 (0:Int)≤↑pl,
 (0:Int)≤↑i,
 (↑i:Int)<↑N.length,
 (((0:Nat):Nat)<((List.drop i (z0_ N)).length)),
 y0_ ((List.drop i (z0_ N)).headD AV.any) ((AV.c ((Value.int .i64 ((↑c:Int)))))),
 (i64.min:Int)≤↑p+1,
 (↑p+1:Int)≤i64.max,
 (((2:Nat):Nat)≤((4:Nat))),
 (((3:Nat):Nat)≤((4:Nat))),
 (i64.min:Int)≤↑q+1,
 (↑q+1:Int)≤i64.max],z4_,by decide,Eq.trans (b:=some ((.normal:Exit),⟨frame 80 [(0,(AV.fs 1 N.length (z0_ N))),(4,(AV.pt 0 0)),(7,(AV.c ((Value.int .i64 ((↑n:Int)+(1:Int)))))),(8,(AV.pt 1 0)),(37,(AV.sl 2 0 m)),(38,(AV.c ((Value.int .i64 ((↑m:Int)))))),(39,(AV.c ((Value.int .i64 ((↑q:Int)+(1:Int))))))],[(.some ⟨56,true,[(AV.pt 0 0),
 (AV.sl 3 0 ((leB b (40:Nat) (0:Nat) d).length))]⟩),
 (.some ⟨47,true,[(AV.c ((Value.int .i64 ((↑(adp d ((↑n:Int)+(1:Int)).toNat !f):Int))))),
 (AV.c ((Value.int .i64 ((↑c:Int))))),
 (AV.c ((Value.int .i64 ((↑p:Int)+(1:Int))))),
 (AV.c ((Value.bool true)))]⟩),
 (.some ⟨3,false,(z0_ o)⟩),
 (.some ⟨5,false,(z6_ (leB b (40:Nat) (0:Nat) d))⟩)]⟩,_)) (by kernel_rfl) (congrArg (fun S:St=>some ((.normal:Exit),S,_)) (by first|rfl|(simp(disch:=omega) only[std,Nat.add_zero,hm,hi,hx,hNl,hp,hle,hb2,w9_,List.length_drop,Int.toNat_natCast,f6_];first|done|rfl))),?_⟩
  all_goals try simp(disch:=omega) only[std,Nat.add_zero,hm,hi,hx,hNl,hp,hle,hb2,w9_,List.length_drop,Int.toNat_natCast,f6_]
  all_goals repeat' apply And.intro
  all_goals first|exact True.intro|omega|with_reducible (first|rfl|assumption)|exact hxx|rfl|exact hm|exact hi|exact hNl|exact hx|exact hp|exact hd|exact hle|exact hb2
theorem enW_all (N o:List Nat)(s w:List UInt8)(m n q i p c c0 pl x d b b2:Nat)(f:Bool)(hq:q<m)(hm:(z0_ o).length=m)(hmo:m≤255)(hi:((z0_ o).drop q).headD .any= .c (.int .i64 i))(hiN:i<N.length)(hNl:(z0_ N).length=N.length)(hN255:N.length≤255)(hx:((z0_ N).drop i).headD .any= .c (.int .i64 c))(hp:ahN N i=p)(hcc:c0≤c)(hxx:((c-c0:Nat):Int)*((n+1:Nat):Int)=(x:Nat))(hd:x+p=d+pl)(hcl:c≤1114111)(hnl:n≤255)(hpl:p≤255)(hpl2:pl≤256)(hd2:d≤2147483647)(hxl:x≤300000000)(hb:b≤1000)(hle:leB b 40 0 d=w)(hb2:adp d (n+1) (!f)=b2)(hsl:s.length≤90000):x1_ Ext0 p_ g6_ (z1_ p_ 42 17) (e2S N m n q (e2W o s b c0 pl f)) (.normal) (e2S N m (n+1) (q+1) (e2W o (s++w) b2 c (p+1) true)):=by
  refine⟨⟨true,(bs [(40,true)]++[(42,⟨.c (.int .i64 i),none⟩),(45,⟨.c (.int .i64 p),none⟩),(49,⟨.c (.int .i64 c),none⟩),(52,⟨.c (.int .i64 (c-c0:Nat)),none⟩),(54,⟨.c (.int .i64 (n+1:Nat)),none⟩),(55,⟨.c (.int .i64 x),none⟩),(57,⟨.c (.int .i64 (x+p:Nat)),none⟩),(60,⟨.c (.int .i64 d),none⟩),(73,⟨.c (.int .i64 c),none⟩)])⟩,_,60,⟨[],[0,4,7,8,37,38,39],[0,1,2,4]⟩,[decide ((↑q:Int)<↑m)=true,
 (0:Int)≤↑q,
 (↑q:Int)<↑m,
 (((0:Nat):Nat)<((List.drop (q+(0:Nat)) (z0_ o)).length)),
 y0_ ((List.drop (q+(0:Nat)) (z0_ o)).headD AV.any) ((AV.c ((Value.int .i64 ((↑i:Int)))))),
 (((1:Nat):Nat))=((1:Nat)),
 ((z0_ N:List AV))=(z0_ (z5_ (z0_ N))),
 ((N.length:Nat))=((z5_ (z0_ N)).length),
 (0:Int)≤↑i,
 (↑i:Int)<↑N.length,
 ((N.length:Nat)≤((255:Nat))),
 (((↑(ahN (z5_ (z0_ N)) i):Int):Int))=((↑p:Int)),
 (0:Int)≤↑i,
 (↑i:Int)<↑N.length,
 (((0:Nat):Nat)<((List.drop i (z0_ N)).length)),
 y0_ ((List.drop i (z0_ N)).headD AV.any) ((AV.c ((Value.int .i64 ((↑c:Int)))))),
 (((0:Nat):Nat)<((3:Nat))),
 (i64.min:Int)≤↑c-↑c0,
 (↑c-↑c0:Int)≤i64.max,
 (↑c-↑c0:Int)=↑(c-c0),
 (i64.min:Int)≤↑n+1,
 (↑n+1:Int)≤i64.max,
 (↑n+1:Int)=↑(n+1),
 (i64.min:Int)≤↑(c-c0)*↑(n+1),
 (↑(c-c0)*↑(n+1):Int)≤i64.max,
 (↑(c-c0)*↑(n+1):Int)=↑x,
 (i64.min:Int)≤↑x+↑p,
 (↑x+↑p:Int)≤i64.max,
 (↑x+↑p:Int)=↑(x+p),
 (((0:Nat):Nat)<((2:Nat))),
 (i64.min:Int)≤↑(x+p)-↑pl,
 (↑(x+p)-↑pl:Int)≤i64.max,
 (↑(x+p)-↑pl:Int)=↑d,
 (((0:Nat):Nat)<((4:Nat))),
 (0:Int)≤↑d,
 (↑d:Int)≤2147483647,
 (0:Int)≤↑b,
 (↑b:Int)≤100000,
 ((z6_ s:List AV))=(z6_ (x8_ (z6_ s))),
 ((s.length:Nat))=((x8_ (z6_ s)).length),
 ((s.length:Nat)≤((90000:Nat))),
 (i64.min:Int)≤↑n+1,
 (↑n+1:Int)≤i64.max,
 (0:Int)≤↑d,
 (↑d:Int)≤2147483647,
 (1:Int)≤↑n+1,
 (↑n+1:Int)≤1000,
 (0:Int)≤↑b,
 (0:Int)≤↑c0,
 (0:Int)≤↑pl,
 (0:Int)≤↑i,
 (↑i:Int)<↑N.length,
 (((0:Nat):Nat)<((List.drop i (z0_ N)).length)),
 y0_ ((List.drop i (z0_ N)).headD AV.any) ((AV.c ((Value.int .i64 ((↑c:Int)))))),
 (i64.min:Int)≤↑p+1,
 (↑p+1:Int)≤i64.max,
 (((2:Nat):Nat)≤((4:Nat))),
 (((3:Nat):Nat)≤((4:Nat))),
 (i64.min:Int)≤↑q+1,
 (↑q+1:Int)≤i64.max],z4_,by decide,Eq.trans (b:=some ((.normal:Exit),⟨frame 80 [(0,(AV.fs 1 N.length (z0_ N))),(4,(AV.pt 0 0)),(7,(AV.c ((Value.int .i64 ((↑n:Int)+(1:Int)))))),(8,(AV.pt 1 0)),(37,(AV.sl 2 0 m)),(38,(AV.c ((Value.int .i64 ((↑m:Int)))))),(39,(AV.c ((Value.int .i64 ((↑q:Int)+(1:Int))))))],[(.some ⟨56,true,[(AV.pt 0 0),
 (AV.sl 3 0 ((x8_ (z6_ s)++leB b (40:Nat) (0:Nat) d).length))]⟩),
 (.some ⟨47,true,[(AV.c ((Value.int .i64 ((↑(adp d ((↑n:Int)+(1:Int)).toNat !f):Int))))),
 (AV.c ((Value.int .i64 ((↑c:Int))))),
 (AV.c ((Value.int .i64 ((↑p:Int)+(1:Int))))),
 (AV.c ((Value.bool true)))]⟩),
 (.some ⟨3,false,(z0_ o)⟩),
 (.some ⟨5,false,(z6_ (x8_ (z6_ s)++leB b (40:Nat) (0:Nat) d))⟩)]⟩,_)) (by kernel_rfl) (congrArg (fun S:St=>some ((.normal:Exit),S,_)) (by first|rfl|(simp(disch:=omega) only[std,Nat.add_zero,hm,hi,hx,hNl,hp,hle,hb2,w9_,List.length_drop,Int.toNat_natCast,f6_,p1_];first|done|rfl))),?_⟩
  all_goals try simp(disch:=omega) only[std,Nat.add_zero,hm,hi,hx,hNl,hp,hle,hb2,w9_,List.length_drop,Int.toNat_natCast,f6_,p1_]
  all_goals repeat' apply And.intro
  all_goals first|exact True.intro|omega|with_reducible (first|rfl|assumption)|exact hxx|rfl|exact hm|exact hi|exact hNl|exact hx|exact hp|exact hd|exact hle|exact hb2
theorem enZF_all (N o:List Nat)(s:List UInt8)(m n q c0 pl b:Nat)(f:Bool)(hq:q=m):x1_ Ext0 p_ g6_ (z1_ p_ 42 17) (e2S N m n q (e2F o b c0 pl f)) (.exit 2) (e2R (wrF)):=by
  refine⟨⟨true,(bs [(40,false)])⟩,_,60,⟨[],[4],[0]⟩,[decide ((↑q:Int)<↑m)=false],z4_,by decide,by kernel_rfl,?_⟩
  all_goals try simp(disch:=omega) only[std]
  all_goals repeat' apply And.intro
  all_goals first|exact True.intro|omega|with_reducible (first|rfl|assumption)|exact hq|rfl
theorem enZW_all (N o:List Nat)(s:List UInt8)(m n q c0 pl b:Nat)(f:Bool)(hq:q=m):x1_ Ext0 p_ g6_ (z1_ p_ 42 17) (e2S N m n q (e2W o s b c0 pl f)) (.exit 2) (e2R (wrW s)):=by
  refine⟨⟨true,(bs [(40,false)])⟩,_,60,⟨[],[4],[0,3]⟩,[decide ((↑q:Int)<↑m)=false],z4_,by decide,by kernel_rfl,?_⟩
  all_goals try simp(disch:=omega) only[std]
  all_goals repeat' apply And.intro
  all_goals first|exact True.intro|omega|with_reducible (first|rfl|assumption)|exact hq|rfl
def wrG (s:List UInt8):Heap:=match s with
  | []=>wrF
  |_::_=>wrW s
theorem wrG_ne {s:List UInt8}(h:s≠[]):wrG s=wrW s:=by
  cases s with
  |nil=>exact absurd rfl h
  |cons c r=>rfl
theorem wrG_snoc (s:List UInt8)(x:UInt8):wrG (s++[x])=wrWn (s.length+1) (s++[x]):=by
  rw[wrG_ne (by simp)]
  show wrWn (s++[x]).length _=_
  rw[List.length_append];rfl
theorem ec_walk (L:List Int)(hl:L.length≤255):Tri Ext0 p_ (.loop (z1_ p_ 42 5)) (ecS (z2_ L) L.length 0 wrF) (if L.all okI=true then .exit 0 else .ret) (if L.all okI=true then ecA (z2_ L) L.length (wrG (fsB L))else ecN):=by
  refine n9_ mixed clEc_ok (fun i=>ecS (z2_ L) L.length i (wrG (fsB (L.take i)))) (fun i=>i≤L.length∧(L.take i).all okI=true) (fun i=>L.length-i) (fun i hx=>?_) 0 ⟨Nat.zero_le _,rfl⟩
  obtain⟨h1,h2⟩:=hx
  have hb:=fsB_len L i
  by_cases hi:i<L.length
  ·have ha:y0_ (((z2_ L).drop i).headD .any) (.c (.int .i64 (L.getD i 0))):=by rw[j3_ L i hi];exact u3_ _
   have htk:(L.take (i+1)).all okI=((L.take i).all okI&&okI (L.getD i 0)):=by
     rw[v9_ L i 0 hi,List.all_append];simp
   cases hok:okI (L.getD i 0)with
   |false=>
    have:L.all okI=false:=by
      rw[←List.take_append_drop (i+1) L,List.all_append,htk,hok];simp
    rw[this]
    by_cases hs:fsB (L.take i)=[]
    ·rw[hs]
     exact .inr ⟨by simp,ecFN_all (z2_ L) L.length i _ [] 0 hi ha hok (v3_ L) hl (Nat.zero_le _) (by decide)⟩
    ·rw[wrG_ne hs]
     exact .inr ⟨by simp,ecWN_all (z2_ L) L.length i _ _ 0 hi ha hok (v3_ L) hl (by omega) (by decide)⟩
   |true=>
    have h0:=okI_ge hok
    refine .inl ⟨i+1,⟨hi,by rw[htk,h2,hok];rfl⟩,by omega,?_⟩
    rw[fsB_snoc L i hi h0]
    by_cases hz:L.getD i 0<128
    ·have hw:u8.wrap (L.getD i 0)=(((UInt8.ofNat (L.getD i 0).toNat).toNat:Nat):Int):=by
       rw[UInt8.toNat_ofNat',p6_ h0 (by omega)]
       omega
     rw[if_pos hz,wrG_snoc]
     by_cases hs:fsB (L.take i)=[]
     ·have:=ecFA_all (z2_ L) L.length i _ (fsB (L.take i)) _ hi ha hok hz hw hs (v3_ L) hl (by omega) (UInt8.toNat_lt _)
      rw[show wrG (fsB (L.take i))=wrF by rw[hs];rfl]
      exact this
     ·rw[wrG_ne hs]
      exact ecWA_all (z2_ L) L.length i _ _ _ hi ha hok hz hw (k4_ _ _) (w0_ _) (v3_ L) hl (by omega) (UInt8.toNat_lt _)
    ·rw[if_neg hz]
     by_cases hs:fsB (L.take i)=[]
     ·rw[hs]
      exact ecFS_all (z2_ L) L.length i _ [] 0 hi ha hok hz (v3_ L) hl (Nat.zero_le _) (by decide)
     ·rw[wrG_ne hs]
      exact ecWS_all (z2_ L) L.length i _ _ 0 hi ha hok hz (v3_ L) hl (by omega) (by decide)
  ·have he:i=L.length:=by omega
   subst he
   rw[List.take_length]at*
   rw[h2]
   by_cases hs:fsB L=[]
   ·rw[hs]
    exact .inr ⟨by simp,ecFZ_all (z2_ L) L.length L.length 0 [] 0 rfl (v3_ L) hl (Nat.zero_le _) (by decide)⟩
   ·rw[wrG_ne hs]
    exact .inr ⟨by simp,ecWZ_all (z2_ L) L.length L.length 0 _ 0 rfl (v3_ L) hl (by omega) (by decide)⟩
def e2G (o:List Nat)(s:List UInt8)(b c p:Nat)(f:Bool):Heap:=match s with
  | []=>e2F o b c p f
  |_::_=>e2W o s b c p f
theorem e2G_ne {o:List Nat}{s:List UInt8}(h:s≠[])(b c p:Nat)(f:Bool):e2G o s b c p f=e2W o s b c p f:=by
  cases s with
  |nil=>exact absurd rfl h
  |cons c r=>rfl
theorem en_walk (N o:List Nat)(hl:N.length≤255)(hok:∀z∈N,okC z=true)(hol:o.length≤255)(X0:Stt)(s0 fin:List UInt8)(hg:Good N X0 o)(hs0:s0.length≤300)(hc0:X0.c≤1114111)(hp0:X0.p≤256)(hn0:X0.out.length≤255)(hf:s0++wrT (puD N X0 o) X0.out.length 72 true=fin):
    Tri Ext0 p_ (.loop (z1_ p_ 42 17)) (e2S N o.length X0.out.length 0 (e2G o s0 72 X0.c X0.p false)) (.exit 2) (e2R (wrG fin)):=by
  refine n9_ mixed clEc_ok (fun x:Stt×Nat×Bool×List UInt8×Nat=>e2S N o.length x.1.out.length x.2.2.2.2 (e2G o x.2.2.2.1 x.2.1 x.1.c x.1.p x.2.2.1)) (fun x=>x.2.2.2.2≤o.length∧Good N x.1 (o.drop x.2.2.2.2)∧x.2.2.2.1.length≤300+40*x.2.2.2.2∧x.1.c≤1114111∧x.1.p≤256∧x.1.out.length≤255∧x.2.1≤1000∧x.2.2.2.1++wrT (puD N x.1 (o.drop x.2.2.2.2)) x.1.out.length x.2.1 (!x.2.2.1)=fin) (fun x=>o.length-x.2.2.2.2) (fun x hx=>?_) (X0,72,false,s0,0) ⟨Nat.zero_le _,hg,hs0,hc0,hp0,hn0,by simp,hf⟩
  clear hg hs0 hc0 hp0 hn0 hf
  obtain⟨X,b,f,s,q⟩:=x
  obtain⟨h1,h2,h3,h4,h5,h6,h7,h8⟩:=hx
  simp only at h1 h2 h3 h4 h5 h6 h7 h8 ⊢
  by_cases hq:q<o.length
  ·rw[show o.drop q=o.getD q 0::o.drop (q+1)from drop_step hq]at h2 h8
   generalize hi:o.getD q 0=i at*
   obtain⟨⟨g1,g2,g3,g4,g5⟩,g6⟩:=h2
   obtain⟨s1,s2,s3,s4,s5⟩:=stD_dN g2 g3 g4
   have hd:=(okD_le g5).1
   have hn:=(okD_le g5).2.2.1
   have hdd:(N.getD i 0-X.c)*(X.out.length+1)+ahN N i=dN N X i+X.p:=by
     unfold dN
     omega
   have hc:N.getD i 0≤1114111:=by
     have e:N[i]'g1=N.getD i 0:=by simp[List.getD,g1]
     rw[←e]
     exact okC_le (hok _ (List.getElem_mem _))
   have hio:((z0_ o).drop q).headD .any= .c (.int .i64 (i:Nat)):=by rw[h7_ o q hq,hi]
   have hle:=leB_le b 40 0 (dN N X i)
   have had:=adp_any (dN N X i) (X.out.length+1) (!f)
   have hne:leB b 40 0 (dN N X i)≠[]:=leB_ne b 39 0 (dN N X i)
   have h8:s++(leB b 40 0 (dN N X i)++wrT (puD N (stD X (dN N X i)) (o.drop (q+1))) (X.out.length+1) (adp (dN N X i) (X.out.length+1) (!f)) false)=fin:=h8
   have hlen:=c5_ X (dN N X i)
   refine .inl ⟨(stD X (dN N X i),adp (dN N X i) (X.out.length+1) (!f),true,s++leB b 40 0 (dN N X i),q+1),⟨by simp only;omega,g6,by simp only[List.length_append];omega,by simp only;omega,by simp only;omega,by simp only;omega,had,by simp only;rw[hlen,List.append_assoc];exact h8⟩,by simp only;omega,?_⟩
   simp only
   have hne2:s++leB b 40 0 (dN N X i)≠[]:=fun e=>hne (List.append_eq_nil_iff.1 e).2
   rw[hlen,s3,s4,e2G_ne hne2]
   by_cases hs:s=[]
   ·subst hs
    rw[List.nil_append]
    exact enF_all N o [] _ o.length X.out.length q i (ahN N i) (N.getD i 0) X.c X.p _ (dN N X i) b _ f hq (y7_ o) hol hio g1 (y7_ N) hl (h7_ N i g1) rfl g2 (Int.natCast_mul _ _).symm hdd hc h6 (by omega) h5 (by omega) (by omega) h7 rfl rfl (by simp)
   ·rw[e2G_ne hs]
    exact enW_all N o s _ o.length X.out.length q i (ahN N i) (N.getD i 0) X.c X.p _ (dN N X i) b _ f hq (y7_ o) hol hio g1 (y7_ N) hl (h7_ N i g1) rfl g2 (Int.natCast_mul _ _).symm hdd hc h6 (by omega) h5 (by omega) (by omega) h7 rfl rfl (by omega)
  ·have hqe:q=o.length:=by omega
   rw[List.drop_of_length_le (by omega)]at h8
   have h8:s++[]=fin:=h8
   rw[List.append_nil]at h8
   subst h8
   by_cases hs:s=[]
   ·subst hs
    exact .inr ⟨by simp,enZF_all N o [] o.length X.out.length q X.c X.p b f hqe⟩
   ·rw[e2G_ne hs,wrG_ne hs]
    exact .inr ⟨by simp,enZW_all N o s o.length X.out.length q X.c X.p b f hqe⟩
end Go.Proofs.YtmjldphagbobpaaDoor
namespace Go.Proofs.YtmjldphagbobpaaDoor
open IntKind (i64 u8 i32 u32 u64)
open _root_.Go.Proofs.Tryd renaming prog→p_
open Go.RowKit Pny Srt
def e2X (o:List Nat)(n:Nat)(C:List AV)(b c p:Nat)(f:Bool):Heap:=[some ⟨56,true,[.pt 0 0,.sl 3 0 n]⟩,some ⟨47,true,[.c (.int .i64 b),.c (.int .i64 c),.c (.int .i64 p),.c (.bool f)]⟩,some ⟨3,false,z0_ o⟩,some ⟨5,false,C⟩]
noncomputable def ecLp1 (C:List AV)(k:Nat)(e:Exit)(R:St):Nat×Lp:=(5,⟨z1_ p_ 42 5,⟨[],[0,4,16,17,18],[0]⟩,ecS C k 0 wrF,e,R⟩)
noncomputable def ecLp2 (N:List Nat)(M:List Nat)(n:Nat)(h R:Heap):Nat×Lp:=(17,⟨z1_ p_ 42 17,⟨[],[0,4,7,8,37,38,39],M⟩,e2S N (plc (unI (z0_ N)) (unI (z0_ N)).length).length n 0 h,.exit 2,e2R R⟩)
theorem ecm1_all (C:List AV)(k:Nat)(hk:¬k≤255):∃(h:Hints) (p:List Prop),y3_ p_ 42 (z8_ p_ g6_ h (y1_ ([])) 60 42 ([.fs 1 k C]) ([]))=some (.tu [.c (str []),.c (.bool false)],p)∧z7_ p:=by
  refine⟨⟨true,(bs [(15,true)])⟩,[decide ((↑k:Int)>255)=true],by kernel_rfl,?_⟩
  all_goals try simp(disch:=omega) only[std]
  all_goals repeat' apply And.intro
  all_goals first|exact True.intro|omega|with_reducible (first|rfl|assumption)|rfl
theorem ecm2_all (C:List AV)(k:Nat)(hk:k≤255):∃(h:Hints) (p:List Prop),y3_ p_ 42 (z8_ p_ g6_ h (y1_ ([ecLp1 C k .ret ecN])) 60 42 ([.fs 1 k C]) ([]))=some (.tu [.c (str []),.c (.bool false)],p)∧z7_ p:=by
  refine⟨⟨true,(bs [(15,false)])⟩,[decide ((↑k:Int)>255)=false,
 ((z1_ p_ (42:FuncId) (5:Nat):Go.Code))=(z1_ p_ (42:FuncId) (5:Nat)),
 ((ecS C k (0:Nat) wrF:St))=(ecS C k (0:Nat) wrF)],by kernel_rfl,?_⟩
  all_goals try simp(disch:=omega) only[std]
  all_goals repeat' apply And.intro
  all_goals first|exact True.intro|omega|with_reducible (first|rfl|assumption)|rfl
theorem ecmFF_all (N:List Nat)(L:List Int)(s t:List UInt8)(hk:N.length≤255)(hu:unI (z0_ N)=L)(hr:z0_ N=z2_ L)(hNL:N.length=L.length)(hsm:SmI L):∃(h:Hints) (p:List Prop),y3_ p_ 42 (z8_ p_ g6_ h (y1_ ([ecLp1 (z0_ N) N.length (.exit 0) (ecA (z0_ N) N.length (wrF)),ecLp2 N [0,2,3] 0 (e2F (orO (unI (z0_ N))) 72 128 0 false) wrF])) 60 42 ([.fs 1 N.length (z0_ N)]) ([]))=some (.tu [.c (str ([])),.c (.bool true)],p)∧z7_ p:=by
  refine⟨⟨true,(bs [(15,false)]++[])⟩,[decide ((↑N.length:Int)>255)=false,
 ((z1_ p_ (42:FuncId) (5:Nat):Go.Code))=(z1_ p_ (42:FuncId) (5:Nat)),
 ((ecS (z0_ N) N.length (0:Nat) wrF:St))=(ecS (z0_ N) N.length (0:Nat) wrF),
 (((4:Nat):Nat)≤((4:Nat))),
 (((1:Nat):Nat))=((1:Nat)),
 ((z0_ N:List AV))=(z2_ (unI (z0_ N))),
 ((N.length:Nat))=((unI (z0_ N)).length),
 ((N.length:Nat)≤((255:Nat))),
 SmI (unI (z0_ N)),
 ((z1_ p_ (42:FuncId) (17:Nat):Go.Code))=(z1_ p_ (42:FuncId) (17:Nat)),
 ((e2S N (plc (unI (z0_ N)) (unI (z0_ N)).length).length (0:Nat) (0:Nat) (e2F (orO (unI (z0_ N))) (72:Nat) (128:Nat) (0:Nat) false):St))=(e2S N (plc (unI (z0_ N)) (unI (z0_ N)).length).length (0:Nat) (0:Nat) (e2F (orO (unI (z0_ N))) (72:Nat) (128:Nat) (0:Nat) false))],by kernel_rfl,?_⟩
  all_goals try simp(disch:=omega) only[std,hu]
  all_goals repeat' apply And.intro
  all_goals first|exact True.intro|omega|with_reducible (first|rfl|assumption)|exact hsm|exact hu|exact hr|exact hNL|exact hsm|rfl
theorem ecmFW_all (N:List Nat)(L:List Int)(s t:List UInt8)(hk:N.length≤255)(hu:unI (z0_ N)=L)(hr:z0_ N=z2_ L)(hNL:N.length=L.length)(hsm:SmI L)(ht:0<t.length)(htl:t.length≤100000)(hb:x8_ (List.take t.length (z6_ t))=t)(hbo:u4_ (List.take t.length (z6_ t)))(htb:(z6_ t).length=t.length):∃(h:Hints) (p:List Prop),y3_ p_ 42 (z8_ p_ g6_ h (y1_ ([ecLp1 (z0_ N) N.length (.exit 0) (ecA (z0_ N) N.length (wrF)),ecLp2 N [0,2,3] 0 (e2F (orO (unI (z0_ N))) 72 128 0 false) (wrW t)])) 60 42 ([.fs 1 N.length (z0_ N)]) ([]))=some (.tu [.c (str (t)),.c (.bool true)],p)∧z7_ p:=by
  refine⟨⟨true,(bs [(15,false)]++[])⟩,[decide ((↑N.length:Int)>255)=false,
 ((z1_ p_ (42:FuncId) (5:Nat):Go.Code))=(z1_ p_ (42:FuncId) (5:Nat)),
 ((ecS (z0_ N) N.length (0:Nat) wrF:St))=(ecS (z0_ N) N.length (0:Nat) wrF),
 (((4:Nat):Nat)≤((4:Nat))),
 (((1:Nat):Nat))=((1:Nat)),
 ((z0_ N:List AV))=(z2_ (unI (z0_ N))),
 ((N.length:Nat))=((unI (z0_ N)).length),
 ((N.length:Nat)≤((255:Nat))),
 SmI (unI (z0_ N)),
 ((z1_ p_ (42:FuncId) (17:Nat):Go.Code))=(z1_ p_ (42:FuncId) (17:Nat)),
 ((e2S N (plc (unI (z0_ N)) (unI (z0_ N)).length).length (0:Nat) (0:Nat) (e2F (orO (unI (z0_ N))) (72:Nat) (128:Nat) (0:Nat) false):St))=(e2S N (plc (unI (z0_ N)) (unI (z0_ N)).length).length (0:Nat) (0:Nat) (e2F (orO (unI (z0_ N))) (72:Nat) (128:Nat) (0:Nat) false)),
 (((0:Nat):Nat)<(t.length)),
 ((t.length:Nat)≤((z6_ t).length)),
 u4_ (List.take t.length (z6_ t)),
 ((t.length:Nat)≤((4611686018427387904:Nat)))],Eq.trans (b:=some ((AV.tu [(AV.c ((str (x8_ (List.take t.length (z6_ t)))))),
 (AV.c ((Value.bool true)))]),_)) (by kernel_rfl) (congrArg (fun r=>some (r,_)) (by first|rfl|(simp(disch:=omega) only[std,hu,hb];first|done|rfl))),?_⟩
  all_goals try simp(disch:=omega) only[std,hu,hb]
  all_goals repeat' apply And.intro
  all_goals first|exact True.intro|omega|with_reducible (first|rfl|assumption)|exact hbo|exact hsm|exact hu|exact hr|exact hNL|exact hb|exact htb|rfl
theorem ecmWW_all (N:List Nat)(L:List Int)(s t:List UInt8)(hk:N.length≤255)(hu:unI (z0_ N)=L)(hr:z0_ N=z2_ L)(hNL:N.length=L.length)(hsm:SmI L)(hs:0<s.length)(hsl:s.length≤255)(hsb:(z6_ s).length=s.length)(ht:0<t.length)(htl:t.length≤100000)(hb:x8_ (List.take t.length (z6_ t))=t)(hbo:u4_ (List.take t.length (z6_ t)))(htb:(z6_ t).length=t.length):∃(h:Hints) (p:List Prop),y3_ p_ 42 (z8_ p_ g6_ h (y1_ ([ecLp1 (z0_ N) N.length (.exit 0) (ecA (z0_ N) N.length (wrW s)),ecLp2 N [0,5,6,3] s.length (e2X (orO (unI (z0_ N))) (s.length+1) ((z6_ s).take s.length++z6_ [UInt8.ofNat 45]) 72 128 0 false) (wrW t)])) 60 42 ([.fs 1 N.length (z0_ N)]) ([]))=some (.tu [.c (str (t)),.c (.bool true)],p)∧z7_ p:=by
  refine⟨⟨true,(bs [(15,false)]++bs [(33,true)])⟩,[decide ((↑N.length:Int)>255)=false,
 ((z1_ p_ (42:FuncId) (5:Nat):Go.Code))=(z1_ p_ (42:FuncId) (5:Nat)),
 ((ecS (z0_ N) N.length (0:Nat) wrF:St))=(ecS (z0_ N) N.length (0:Nat) wrF),
 decide ((↑s.length:Int)>0)=true,
 (0:Int)≤45,
 (45:Int)<256,
 ((s.length:Nat)≤((z6_ s).length)),
 ((s.length+(1:Nat):Nat)≤((140737488355328:Nat))),
 (((4:Nat):Nat)≤((4:Nat))),
 (((1:Nat):Nat))=((1:Nat)),
 ((z0_ N:List AV))=(z2_ (unI (z0_ N))),
 ((N.length:Nat))=((unI (z0_ N)).length),
 ((N.length:Nat)≤((255:Nat))),
 SmI (unI (z0_ N)),
 ((z1_ p_ (42:FuncId) (17:Nat):Go.Code))=(z1_ p_ (42:FuncId) (17:Nat)),
 ((e2S N (plc (unI (z0_ N)) (unI (z0_ N)).length).length s.length (0:Nat) (e2X (orO (unI (z0_ N))) (s.length+(1:Nat)) (List.take s.length (z6_ s)++z6_ [UInt8.ofNat (45:Nat)]) (72:Nat) (128:Nat) (0:Nat) false):St))=(e2S N (plc (unI (z0_ N)) (unI (z0_ N)).length).length s.length (0:Nat) (e2X (orO (unI (z0_ N))) (s.length+(1:Nat)) (List.take s.length (z6_ s)++z6_ [UInt8.ofNat (45:Nat)]) (72:Nat) (128:Nat) (0:Nat) false)),
 (((0:Nat):Nat)<(t.length)),
 ((t.length:Nat)≤((z6_ t).length)),
 u4_ (List.take t.length (z6_ t)),
 ((t.length:Nat)≤((4611686018427387904:Nat)))],Eq.trans (b:=some ((AV.tu [(AV.c ((str (x8_ (List.take t.length (z6_ t)))))),
 (AV.c ((Value.bool true)))]),_)) (by kernel_rfl) (congrArg (fun r=>some (r,_)) (by first|rfl|(simp(disch:=omega) only[std,hu,hb];first|done|rfl))),?_⟩
  all_goals try simp(disch:=omega) only[std,hu,hb]
  all_goals repeat' apply And.intro
  all_goals first|exact True.intro|omega|with_reducible (first|rfl|assumption)|exact hbo|exact hsm|exact hu|exact hr|exact hNL|exact hsb|exact hb|exact htb|rfl
theorem hyp_len (n:Nat):(hyp n).length≤1:=by
  unfold hyp
  split<;>simp
theorem str_facts (t:List UInt8)(h:t≠[]):0<t.length∧x8_ (List.take t.length (z6_ t))=t∧u4_ (List.take t.length (z6_ t)):=by
  have e:List.take t.length (z6_ t)=z6_ t:=List.take_of_length_le (by rw[w0_];exact Nat.le_refl _)
  rw[e]
  refine⟨?_,p1_ t,n3_ t⟩
  cases t with
  |nil=>exact absurd rfl h
  |cons c r=>simp
theorem ec_at (L:List Int):∃hs lp fuel p,q3_ Ext0 p_ lp∧y3_ p_ 42 (z8_ p_ g6_ hs lp fuel 42 [.fs 1 L.length (z2_ L)] [])=some (.tu [.c (str (a5_ L)),.c (.bool (mayI L))],p)∧z7_ p:=by
  unfold a5_ mayI
  by_cases hl:L.length≤255
  ·rw[decide_eq_true hl,Bool.true_and]
   have w1:=ec_walk L hl
   cases hok:L.all okI with
   |false=>
    rw[hok]at w1
    obtain⟨hh,p,e,hp⟩:=ecm2_all (z2_ L) L.length hl
    exact⟨_,_,_,_,x4_ z4_ nd0 w1,e,hp⟩
   |true=>
    rw[hok]at w1
    have hN:=rowN_nats hok
    have hlen:(w7_ L).length=L.length:=by simp[w7_]
    have hsm:SmI L:=fun z hz=>by
      have h:=List.all_eq_true.1 hok z hz
      exact⟨okI_ge h,by have:=okC_le (okI_toNat h);have:=okI_ge h;omega⟩
    have hu:unI (z0_ (w7_ L))=L:=by rw[←hN,v8_]
    have hs:=natL_ok hok
    have hf:(fsB L).length=(bas (w7_ L)).length:=by simp[fsB,byt]
    have hfl:=fsB_len L L.length
    rw[List.take_length]at hfl
    obtain⟨oS,oM,oN⟩:=ord_orO hok
    have hol:(orO L).length=(plc L L.length).length:=so_len _ _
    have hpl:=plc_len L L.length
    obtain⟨hg,hE⟩:=pu_enc (w7_ L) (by omega) hs (orO L) oS oM oN
    have hEnc:p4_ (w7_ L)=fsB L++(hyp (bas (w7_ L)).length++wrT (puD (w7_ L) ⟨bas (w7_ L),0,128⟩ (orO L)) (bas (w7_ L)).length 72 true):=by rw[←hE];rfl
    rw[hN,←hlen]at w1 ⊢
    simp only[if_true]at w1 ⊢
    have nd024:[0,2,3].Nodup:=by decide
    have nd053:[0,5,6,3].Nodup:=by decide
    by_cases hz:fsB L=[]
    ·have hb0:(bas (w7_ L)).length=0:=by rw[←hf,hz];rfl
     rw[hz]at w1 hEnc
     have hh0:hyp (bas (w7_ L)).length=[]:=by rw[hb0];rfl
     rw[hh0,List.nil_append]at hEnc
     have w2:=en_walk (w7_ L) (orO L) (by omega) hs (by omega) ⟨bas (w7_ L),0,128⟩ [] (p4_ (w7_ L)) hg (Nat.zero_le _) (by simp) (by simp) (by simp only;omega) hEnc.symm
     simp only[hb0]at w2
     rw[hol]at w2
     by_cases ht:p4_ (w7_ L)=[]
     ·rw[ht]at w2 ⊢
      obtain⟨hh,p,e,hq⟩:=ecmFF_all (w7_ L) L [] [] (by omega) hu hN.symm hlen hsm
      refine⟨_,_,_,_,x4_ (x4_ z4_ nd024 ?_) nd0 w1,e,hq⟩
      show Tri Ext0 _ _ (e2S (w7_ L) (plc (unI (z0_ (w7_ L))) (unI (z0_ (w7_ L))).length).length 0 0 (e2F (orO (unI (z0_ (w7_ L)))) 72 128 0 false)) _ _
      rw[hu]
      exact w2
     ·obtain⟨t1,t2,t3⟩:=str_facts _ ht
      rw[wrG_ne ht]at w2
      have htl:(p4_ (w7_ L)).length≤100000:=by
        obtain⟨w,e1,_,_,e2,e3⟩:=d3_ (l:=w7_ L) (by unfold l8_;rw[decide_eq_true (by omega),Bool.true_and];exact List.all_eq_true.2 hs)
        have e4:=hyp_len (bas (w7_ L)).length
        have e5:(byt (bas (w7_ L))).length=(bas (w7_ L)).length:=by simp[byt]
        rw[e1,List.length_append,List.length_append]
        omega
      obtain⟨hh,p,e,hq⟩:=ecmFW_all (w7_ L) L [] (p4_ (w7_ L)) (by omega) hu hN.symm hlen hsm t1 htl t2 t3 (w0_ _)
      refine⟨_,_,_,_,x4_ (x4_ z4_ nd024 ?_) nd0 w1,e,hq⟩
      show Tri Ext0 _ _ (e2S (w7_ L) (plc (unI (z0_ (w7_ L))) (unI (z0_ (w7_ L))).length).length 0 0 (e2F (orO (unI (z0_ (w7_ L)))) 72 128 0 false)) _ _
      rw[hu]
      exact w2
    ·obtain⟨s1,_,_⟩:=str_facts _ hz
     rw[wrG_ne hz]at w1
     have hh1:hyp (bas (w7_ L)).length=[45]:=by unfold hyp;rw[if_pos (by omega)]
     rw[hh1,←List.append_assoc]at hEnc
     have w2:=en_walk (w7_ L) (orO L) (by omega) hs (by omega) ⟨bas (w7_ L),0,128⟩ (fsB L++[45]) (p4_ (w7_ L)) hg (by simp only[List.length_append,List.length_singleton];omega) (by simp) (by simp) (by simp only;omega) hEnc.symm
     have ht:p4_ (w7_ L)≠[]:=by rw[hEnc];simp
     obtain⟨t1,t2,t3⟩:=str_facts _ ht
     rw[wrG_ne ht,e2G_ne (by simp)]at w2
     simp only[←hf]at w2
     rw[hol]at w2
     have htl:(p4_ (w7_ L)).length≤100000:=by
       obtain⟨w,e1,_,_,e2,e3⟩:=d3_ (l:=w7_ L) (by unfold l8_;rw[decide_eq_true (by omega),Bool.true_and];exact List.all_eq_true.2 hs)
       have e4:=hyp_len (bas (w7_ L)).length
       have e5:(byt (bas (w7_ L))).length=(bas (w7_ L)).length:=by simp[byt]
       rw[e1,List.length_append,List.length_append]
       omega
     obtain⟨hh,p,e,hq⟩:=ecmWW_all (w7_ L) L (fsB L) (p4_ (w7_ L)) (by omega) hu hN.symm hlen hsm s1 (by omega) (w0_ _) t1 htl t2 t3 (w0_ _)
     refine⟨_,_,_,_,x4_ (x4_ z4_ nd053 ?_) nd0 w1,e,hq⟩
     show Tri Ext0 _ _ (e2S (w7_ L) (plc (unI (z0_ (w7_ L))) (unI (z0_ (w7_ L))).length).length (fsB L).length 0 (e2X (orO (unI (z0_ (w7_ L)))) ((fsB L).length+1) ((z6_ (fsB L)).take (fsB L).length++z6_ [UInt8.ofNat 45]) 72 128 0 false)) _ _
     rw[hu,show e2X (orO L) ((fsB L).length+1) ((z6_ (fsB L)).take (fsB L).length++z6_ [UInt8.ofNat 45]) 72 128 0 false=e2W (orO L) (fsB L++[45]) 72 128 0 false by
       rw[show UInt8.ofNat 45=45 from rfl,k4_]
       show _=e2X (orO L) (fsB L++[45]).length _ 72 128 0 false
       rw[List.length_append];rfl]
     exact w2
  ·rw[decide_eq_false hl,Bool.false_and]
   obtain⟨hh,p,e,hp⟩:=ecm1_all (z2_ L) L.length hl
   exact⟨_,_,_,_,z4_,e,hp⟩
theorem penc_ok:w2_ p_ 42 enc7Spec:=by
  refine v5_ mixed clEc_ok fun args r q hs hq=>?_
  unfold enc7Spec at hs
  split at hs
  ·rename_i s n l
   simp only[oi_]at hs
   obtain⟨rfl,rfl⟩:=hs
   obtain⟨rfl,h2,h3,_⟩:=hq
   generalize unI l=L at*
   subst h2 h3
   exact ec_at L
  ·simp at hs
end Go.Proofs.YtmjldphagbobpaaDoor
