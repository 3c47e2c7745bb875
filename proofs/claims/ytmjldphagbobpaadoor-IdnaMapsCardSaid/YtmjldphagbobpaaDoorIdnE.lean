import Derived.Test.YtmjldphagbobpaaDoorIdnB
import Derived.Test.YtmjldphagbobpaaDoorTextN
import Derived.Test.YtmjldphagbobpaaDoorPnyH
set_option linter.unusedVariables false
set_option linter.unusedSimpArgs false
namespace Go.Proofs.YtmjldphagbobpaaDoor
open Go.RowKit U8 Idn
def toZ (c:Int):List Int:=
  if(65≤c∧c≤90)∨(192≤c∧c≤214)∨(216≤c∧c≤222)∨(913≤c∧c≤929)∨(931≤c∧c≤937)∨(1040≤c∧c≤1071)then [c+32]
  else if(256≤c∧c≤302)∧c%2=0 then [c+1]else if 1024≤c∧c≤1039 then [c+80]
  else if c=304 then [105,775]else if c=8228∨c=12290∨c=65377 then [46]else if c=8448 then [97,47,99]else if c=8453 then [99,47,111]
  else if 9312≤c∧c≤9320 then [c-9312+49]else if 65313≤c∧c≤65338 then [c-65248+32]else if 65281≤c∧c≤65374 then [c-65248]
  else if 120782≤c∧c≤120831 then [48+(c-120782)%10]else []
def k2_ (c:Int):Prop:=c=173∨c=8203∨c=8288∨c=65279
def validP (c:Int):Prop:=¬(c=215∨c=247)∧((0≤c∧c≤127)∨(223≤c∧c≤255)∨(257≤c∧c≤303)∨(768≤c∧c≤879)∨(945≤c∧c≤969)∨(1072≤c∧c≤1119)∨(12353≤c∧c≤12438)∨(12449≤c∧c≤12538)∨(19968≤c∧c≤40959)∨(44032≤c∧c≤55203)∨(127744≤c∧c≤128511))
instance (c:Int):Decidable (k2_ c):=by unfold k2_;infer_instance
instance (c:Int):Decidable (validP c):=by unfold validP;infer_instance
def i5_ (c:Int):Bool:=decide (validP c)
def x5_ (c:Int):Int:=if toZ c≠[]then 2 else if k2_ c then 3 else if i5_ c=true then 1 else 0
def u1_ (c:Int):List UInt8:=if toZ c≠[]then join (sgL (toZ c))else if k2_ c then []else if i5_ c=true then y2_ (sgn c)else []
theorem toZ_sgn {c z:Int}(h:z∈toZ c):0≤z∧z≤2000:=by
  unfold toZ at h
  repeat' split at h
  all_goals simp only[List.mem_cons,List.mem_nil_iff,or_false]at h
  all_goals omega
theorem toZ_len (c:Int):(toZ c).length≤3:=by
  unfold toZ
  repeat' split
  all_goals simp
theorem toZ_rng (c:Int):s1_ (toZ c):=fun z h=>by
  have:=toZ_sgn h
  omega
theorem rowN_tk (L:List Int):List.take L.length (z2_ L)=z2_ L:=List.take_of_length_le (by rw[v3_];exact Nat.le_refl _)
def mapSpec:Spec
  | [.c (.int .i64 c)]=>some (.tu [.c (str (u1_ c)),.c (.int .i64 (x5_ c))],[-9223372036854775808≤c,c≤9223372036854775807])
  |_=>none
def i6_ (z:Int):Bool:=x5_ z==1&&z !=46
def farZ (L:List Int):Bool:=L.any fun z=>decide (127<z)
def t2_ (L:List Int):Bool:=L.all i6_&&farZ L&& !decide (768≤L.headD 0∧L.headD 0≤879)
theorem getD_mem (L:List Int)(i:Nat)(h:i<L.length):L.getD i 0∈L:=by
  have:L[i]=L.getD i 0:=by simp[List.getD,h]
  rw[←this];exact List.getElem_mem _
def labelSpec:Spec
  | [.fs s n l]=>some (.c (.bool (t2_ (unI l))),[s=1,l=z2_ (unI l),n=(unI l).length,n≤1000000000,s1_ (unI l)])
  |_=>none
theorem h0_ (N:List Nat):List.take N.length (z0_ N)=z0_ N:=List.take_of_length_le (by rw[y7_];exact Nat.le_refl _)
theorem decL_rng {d:List UInt8}(hd:d.length≤100000):s1_ (z9_ (x0_ d)):=by
  unfold x0_
  cases h:Pny.m8_ d with
  |none=>intro z hz;cases hz
  |some N=>
   obtain⟨h1,_⟩:=Pny.enc_dec (by omega) h
   unfold Pny.l8_ at h1
   rw[Bool.and_eq_true,List.all_eq_true]at h1
   intro z hz
   obtain⟨c,hc,rfl⟩:=List.mem_map.1 hz
   have:=okC_le (h1.2 c hc)
   omega
theorem decL_255 (d:List UInt8):(x0_ d).length≤255:=by
  unfold x0_ Pny.m8_
  split
  ·split
   ·split
    ·rename_i h;simpa using h
    ·simp
   ·simp
  ·simp
theorem encV_2500 (L:List Int):(a5_ L).length≤2500:=by
  unfold a5_
  split
  ·rename_i h
   unfold mayI at h
   rw[Bool.and_eq_true,decide_eq_true_eq]at h
   have hm:Pny.l8_ (w7_ L)=true:=by
     unfold Pny.l8_
     rw[Bool.and_eq_true,decide_eq_true_eq,List.all_eq_true]
     exact⟨by simp only[w7_,List.length_map];exact h.1,natL_ok h.2⟩
   obtain⟨w,e,_,_,k1,k2⟩:=Pny.d3_ hm
   have hn:(w7_ L).length=L.length:=by simp[w7_]
   have hh:(Pny.hyp (Pny.bas (w7_ L)).length).length≤1:=by unfold Pny.hyp;split<;>simp
   rw[e,List.length_append,List.length_append]
   have:(Pny.byt (Pny.bas (w7_ L))).length=(Pny.bas (w7_ L)).length:=by simp[Pny.byt]
   omega
  ·simp
theorem textZ_len (z:Int):(u1_ z).length≤100:=by
  unfold u1_
  have h1:=l4_ (sgL (toZ z))
  have h2:=toZ_len z
  have h3:(sgL (toZ z)).length=(toZ z).length:=by simp[sgL]
  have h4:=(U8.p7_ (sgn z)).2
  repeat' split
  all_goals first|omega|(simp only[List.length_nil];omega)
theorem take_map (N:List Nat)(i:Nat)(h:i<N.length):(N.take (i+1)).flatMap n8_=(N.take i).flatMap n8_++n8_ (N.getD i 0):=by
  rw[v9_ N i 0 h,List.flatMap_append];simp
theorem take_all (N:List Nat)(i:Nat)(h:i<N.length):(N.take (i+1)).all (fun c=>r6_ c !=0)=((N.take i).all (fun c=>r6_ c !=0)&&r6_ (N.getD i 0) !=0):=by
  rw[v9_ N i 0 h,List.all_append];simp
theorem out_len (N:List Nat):(N.flatMap n8_).length≤3*N.length:=by
  induction N with
  |nil=>simp
  |cons c r ih=>
   rw[List.flatMap_cons,List.length_append,List.length_cons]
   have hc:(n8_ c).length≤3:=by
     unfold n8_
     split
     ·exact to_len c
     ·split<;>simp
   omega
def w3_ (s:List UInt8):Prop:=∀q,r0_ (z3_ s)=some q→(join q).length≤100000
def domSpec:Spec
  | [.c (.string s)]=>some (.tu [.c (str ((y9_ (sb s)).getD [])),.c (.bool (y9_ (sb s)).isSome)],[(sb s).length≤100000,w3_ (sb s)])
  |_=>none
end Go.Proofs.YtmjldphagbobpaaDoor
namespace Go.Proofs.YtmjldphagbobpaaDoor
open Go.RowKit U8 Idn
theorem toZ_nat (c:Nat):toZ (c:Int)=z9_ (toN c):=by
  unfold toZ toN plus32
  have e1:(btw c 65 90||btw c 192 214||btw c 216 222||btw c 913 929||btw c 931 937||btw c 1040 1071)=true↔((65≤(c:Int)∧(c:Int)≤90)∨(192≤(c:Int)∧(c:Int)≤214)∨(216≤(c:Int)∧(c:Int)≤222)∨(913≤(c:Int)∧(c:Int)≤929)∨(931≤(c:Int)∧(c:Int)≤937)∨(1040≤(c:Int)∧(c:Int)≤1071)):=by
    simp only[Bool.or_eq_true,m1_];omega
  have e2:(btw c 256 302&&c%2==0)=true↔((256≤(c:Int)∧(c:Int)≤302)∧(c:Int)%2=0):=by
    rw[Bool.and_eq_true,m1_,beq_iff_eq];omega
  have b:∀lo hi:Nat,btw c lo hi=true↔((lo:Int)≤(c:Int)∧(c:Int)≤(hi:Int)):=fun lo hi=>by rw[m1_];omega
  by_cases h1:(65≤(c:Int)∧(c:Int)≤90)∨(192≤(c:Int)∧(c:Int)≤214)∨(216≤(c:Int)∧(c:Int)≤222)∨(913≤(c:Int)∧(c:Int)≤929)∨(931≤(c:Int)∧(c:Int)≤937)∨(1040≤(c:Int)∧(c:Int)≤1071)
  ·rw[if_pos h1,if_pos (e1.2 h1)];rfl
  rw[if_neg h1,if_neg (mt e1.1 h1)]
  by_cases h2:(256≤(c:Int)∧(c:Int)≤302)∧(c:Int)%2=0
  ·rw[if_pos h2,if_pos (e2.2 h2)];rfl
  rw[if_neg h2,if_neg (mt e2.1 h2)]
  by_cases h3:1024≤(c:Int)∧(c:Int)≤1039
  ·rw[if_pos h3,if_pos ((b 1024 1039).2 h3)];rfl
  rw[if_neg h3,if_neg (mt (b 1024 1039).1 h3)]
  by_cases h4:c=304
  ·rw[if_pos (by omega),if_pos h4];rfl
  rw[if_neg (by omega),if_neg h4]
  by_cases h5:c=8228∨c=12290∨c=65377
  ·rw[if_pos (by omega),if_pos h5];rfl
  rw[if_neg (by omega),if_neg h5]
  by_cases h6:c=8448
  ·rw[if_pos (by omega),if_pos h6];rfl
  rw[if_neg (by omega),if_neg h6]
  by_cases h7:c=8453
  ·rw[if_pos (by omega),if_pos h7];rfl
  rw[if_neg (by omega),if_neg h7]
  by_cases h8:9312≤(c:Int)∧(c:Int)≤9320
  ·rw[if_pos h8,if_pos ((b 9312 9320).2 h8)]
   simp only[z9_,List.map_cons,List.map_nil,List.cons.injEq,and_true]
   omega
  rw[if_neg h8,if_neg (mt (b 9312 9320).1 h8)]
  by_cases h9:65313≤(c:Int)∧(c:Int)≤65338
  ·rw[if_pos h9,if_pos ((b 65313 65338).2 h9)]
   simp only[z9_,List.map_cons,List.map_nil,List.cons.injEq,and_true]
   omega
  rw[if_neg h9,if_neg (mt (b 65313 65338).1 h9)]
  by_cases h10:65281≤(c:Int)∧(c:Int)≤65374
  ·rw[if_pos h10,if_pos ((b 65281 65374).2 h10)]
   simp only[z9_,List.map_cons,List.map_nil,List.cons.injEq,and_true]
   omega
  rw[if_neg h10,if_neg (mt (b 65281 65374).1 h10)]
  by_cases h11:120782≤(c:Int)∧(c:Int)≤120831
  ·rw[if_pos h11,if_pos ((b 120782 120831).2 h11)]
   simp only[z9_,List.map_cons,List.map_nil,List.cons.injEq,and_true]
   omega
  rw[if_neg h11,if_neg (mt (b 120782 120831).1 h11)]
  rfl
theorem gone_nat (c:Nat):k2_ (c:Int)↔goneN c=true:=by
  unfold k2_ goneN
  simp only[Bool.or_eq_true,beq_iff_eq]
  omega
theorem valid_nat (c:Nat):i5_ (c:Int)=validN c:=by
  unfold i5_ validN
  rw[Bool.eq_iff_iff,decide_eq_true_eq]
  unfold validP
  simp only[Bool.and_eq_true,Bool.or_eq_true,Bool.not_eq_true',Bool.or_eq_false_iff,beq_eq_false_iff_ne,m1_]
  omega
theorem natI_nil {l:List Nat} :z9_ l=[]↔l=[]:=by cases l<;>simp[z9_]
theorem e8_ (c:Nat):x5_ (c:Int)=(r6_ c:Nat):=by
  unfold x5_ r6_
  rw[toZ_nat]
  by_cases h1:toN c=[]
  ·rw[if_neg (show ¬(z9_ (toN c)≠[])by rw[ne_eq,natI_nil];simpa using h1),if_neg (show ¬(toN c≠[])by simpa using h1)]
   by_cases h2:goneN c=true
   ·rw[if_pos ((gone_nat c).2 h2),if_pos h2];rfl
   ·rw[if_neg (mt (gone_nat c).1 h2),if_neg h2,valid_nat]
    split<;>rfl
  ·rw[if_pos (show z9_ (toN c)≠[]by rw[ne_eq,natI_nil];exact h1),if_pos h1];rfl
theorem text_nat {c:Nat}(hc:r6_ c≠0):u1_ (c:Int)=join (n8_ c):=by
  have hok:=map_ok hc
  unfold r6_ at hc
  unfold u1_ n8_
  rw[toZ_nat]
  by_cases h1:toN c=[]
  ·rw[if_neg (show ¬(z9_ (toN c)≠[])by rw[ne_eq,natI_nil];simpa using h1),if_neg (show ¬(toN c≠[])by simpa using h1)]
   rw[if_neg (show ¬(toN c≠[])by simpa using h1)]at hc
   by_cases h2:goneN c=true
   ·rw[if_pos ((gone_nat c).2 h2),if_pos h2];rfl
   ·rw[if_neg h2]at hc
    rw[if_neg (mt (gone_nat c).1 h2),if_neg h2,valid_nat]
    split at hc
    ·rename_i h3
     rw[if_pos h3,sgn_okC hok]
     simp[join]
    ·exact absurd rfl hc
  ·rw[if_pos (show z9_ (toN c)≠[]by rw[ne_eq,natI_nil];exact h1),if_pos h1,sgL_natI fun d hd=>g9_ (to_stays hd).1]
theorem fine_nat (c:Nat):i6_ (c:Int)=(r6_ c==1&&c !=46):=by
  unfold i6_
  rw[e8_,Bool.eq_iff_iff]
  simp only[Bool.and_eq_true,beq_iff_eq,bne_iff_ne]
  omega
theorem label_nat (l:List Nat):t2_ (z9_ l)=l6_ l:=by
  unfold t2_ l6_ farZ z9_
  rw[List.all_map,List.any_map]
  have h1:l.all (i6_ ∘ fun c:Nat=>(c:Int))=l.all fun c=>r6_ c==1&&c !=46:=by
    congr 1;funext c;exact fine_nat c
  have h2:l.any ((fun z:Int=>decide (127<z)) ∘ fun c:Nat=>(c:Int))=l.any fun c=>decide (127<c):=by
    congr 1;funext c
    exact decide_eq_decide.2 (by simp only;omega)
  rw[h1,h2]
  congr 2
  have h3:(l.map fun c:Nat=>(c:Int)).headD 0=((l.headD 0:Nat):Int):=by cases l<;>rfl
  rw[h3]
  unfold btw
  rw[←Bool.decide_and]
  exact decide_eq_decide.2 (by omega)
theorem unI_natI (N:List Nat):unI (z0_ N)=z9_ N:=by
  unfold unI z0_ z9_
  rw[List.map_map]
  rfl
theorem rowN_natI (N:List Nat):z2_ (z9_ N)=z0_ N:=by
  unfold z2_ z0_ z9_
  rw[List.map_map]
  rfl
theorem may_nat (l:List Nat):mayI (z9_ l)=Pny.l8_ l:=by
  unfold mayI Pny.l8_ z9_
  rw[List.length_map,List.all_map]
  congr 2
theorem natL_I (l:List Nat):w7_ (z9_ l)=l:=by
  unfold w7_ z9_
  rw[List.map_map]
  conv=>rhs;rw[←List.map_id l]
  apply List.map_congr_left
  intro n _
  show((n:Nat):Int).toNat=n
  omega
theorem natI_rng2 {l:List Nat}(h:∀c∈l,okC c):s1_ (z9_ l):=fun z hz=>by
  obtain⟨c,hc,rfl⟩:=List.mem_map.1 hz
  have:=h c hc
  unfold okC at this
  omega
theorem join_len_low:∀{l:List Nat},(∀c∈l,okC c)→(l.length≤(join l).length∧((join l).length=l.length↔p2_ l=true))
  | [],_=>⟨Nat.le_refl _,by simp[join,p2_]⟩
  |c::r,h=>by
   obtain⟨h1,h2⟩:=join_len_low (l:=r) fun d hd=>h d (.tail _ hd)
   have hc:=U8.p7_ c
   have h128:(y2_ c).length=1↔c<128:=by
     constructor
     ·intro e
      apply Classical.byContradiction
      intro hn
      by_cases k2:c<2048
      ·rw[e2 (by omega) k2]at e;simp at e
      ·by_cases k3:c<65536
       ·rw[e3 (by omega) k3]at e;simp at e
       ·rw[e4 (by omega)]at e;simp at e
     ·intro e
      rw[e1 e];rfl
   rw[s5_,List.length_append,List.length_cons]
   refine⟨by omega,?_⟩
   have hl:p2_ (c::r)=true↔c<128∧p2_ r=true:=by
     unfold p2_
     rw[List.all_cons,Bool.and_eq_true,decide_eq_true_eq]
   rw[hl]
   constructor
   ·intro e
    exact⟨h128.1 (by omega),h2.1 (by omega)⟩
   ·intro e
    have:=h128.2 e.1
    have:=h2.2 e.2
    omega
theorem join_byt {l:List Nat}(h:p2_ l=true):join l=Pny.byt l:=by
  rw[k0_]at h
  unfold join Pny.byt
  induction l with
  |nil=>rfl
  |cons c r ih=>
   rw[List.flatMap_cons,List.map_cons,ih fun d hd=>h d (.tail _ hd),e1 (h c (.head _))]
   rfl
theorem join_head {c:Nat}{r:List Nat}{x:UInt8}{t:List UInt8}(hx:x.toNat<128)(h:join (c::r)=x::t)(hc:okC c):c=x.toNat∧join r=t:=by
  rw[s5_]at h
  by_cases k1:c<128
  ·rw[e1 k1]at h
   obtain⟨a,b⟩:=List.cons.inj h
   refine⟨?_,b⟩
   rw[←a,t1_ (by omega)]
  ·exfalso
   have hb:∀n:Nat,128≤n→n<256→¬UInt8.ofNat n=x:=fun n h1 h2 e=>by
     rw[←e,t1_ h2]at hx;omega
   unfold okC at hc
   by_cases k2:c<2048
   ·rw[e2 (by omega) k2]at h
    exact hb _ (by omega) (by omega) (List.cons.inj h).1
   ·by_cases k3:c<65536
    ·rw[e3 (by omega) k3]at h
     exact hb _ (by omega) (by omega) (List.cons.inj h).1
    ·rw[e4 (by omega)]at h
     exact hb _ (by omega) (by omega) (List.cons.inj h).1
theorem join_front:∀(p:List UInt8),(∀x∈p,x.toNat<128)→∀{l:List Nat},(∀c∈l,okC c)→((join l).take p.length=p↔l.take p.length=t5_ p)
  | [],_,l,_=>by simp[t5_]
  |x::p,hp,[],_=>by simp[join,t5_]
  |x::p,hp,c::r,h=>by
   have ih:=join_front p (fun y hy=>hp y (.tail _ hy)) (l:=r) fun d hd=>h d (.tail _ hd)
   have hx:=hp x (.head _)
   constructor
   ·intro e
    cases hj:join (c::r)with
    |nil=>rw[hj]at e;simp at e
    |cons y t=>
     rw[hj,List.length_cons,List.take_succ_cons]at e
     obtain⟨a,b⟩:=List.cons.inj e
     subst a
     obtain⟨e1,e2⟩:=join_head hx hj (h c (.head _))
     rw[←e2]at b
     rw[List.length_cons,List.take_succ_cons,ih.1 b,e1]
     rfl
   ·intro e
    rw[List.length_cons,List.take_succ_cons]at e
    obtain⟨a,b⟩:=List.cons.inj (show c::r.take p.length=x.toNat::t5_ p from e)
    subst a
    rw[s5_,e1 hx,UInt8.ofNat_toNat,List.length_cons]
    show x::(join r).take p.length=_
    rw[ih.2 b]
theorem join_xn {l:List Nat}(h:∀c∈l,okC c):(join l).take 4=xnB↔l.take 4=xnN:=join_front xnB (by decide) h
def labT (l:List Nat):List UInt8:=if l.take 4=xnN∨p2_ l=true then join l else xnB++a5_ (z9_ l)
def labB (l:List Nat):Bool:=(j1_ l).isSome
theorem labF_key {l:List Nat}{t:List UInt8}(h:j1_ l=some t):t=labT l:=by
  unfold j1_ at h
  unfold labT
  split at h
  ·rename_i hx
   split at h
   ·rename_i hc
    obtain rfl:=Option.some.inj h
    rw[Bool.and_eq_true]at hc
    rw[if_pos (.inl hx),join_byt hc.1]
   ·cases h
  ·rename_i hx
   split at h
   ·rename_i hl
    obtain rfl:=Option.some.inj h
    rw[if_pos (.inr hl),join_byt hl]
   ·rename_i hl
    split at h
    ·rename_i hc
     obtain rfl:=Option.some.inj h
     rw[Bool.and_eq_true]at hc
     rw[if_neg (by rintro(h|h)<;>contradiction)]
     unfold a5_
     rw[may_nat,natL_I,if_pos hc.1]
    ·cases h
theorem labF_is (l:List Nat):j1_ l=if labB l=true then some (labT l)else none:=by
  unfold labB
  cases h:j1_ l with
  |none=>rfl
  |some t=>rw[labF_key h];rfl
theorem ints_natI (N:List Nat):ints (z9_ N)=z0_ N:=rowN_natI N
end Go.Proofs.YtmjldphagbobpaaDoor
