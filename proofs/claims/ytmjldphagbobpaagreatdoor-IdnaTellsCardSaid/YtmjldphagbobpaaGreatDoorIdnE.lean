import Derived.Test.YtmjldphagbobpaaGreatDoorIdnB
import Derived.Test.YtmjldphagbobpaaGreatDoorTextN
import Derived.Test.YtmjldphagbobpaaGreatDoorPnyH
set_option linter.unusedVariables false
set_option linter.unusedSimpArgs false
namespace Go.Proofs.YtmjldphagbobpaaGreatDoor
open Go.RowKit U8 Idn
set_option maxRecDepth 100000
def toZ (c:Int):List Int:=
  if(65≤c∧c≤90)∨(192≤c∧c≤214)∨(216≤c∧c≤222)∨(913≤c∧c≤929)∨(931≤c∧c≤937)∨(1040≤c∧c≤1071)then [c+32]
  else if(256≤c∧c≤302)∧c%2=0 then [c+1]else if 1024≤c∧c≤1039 then [c+80]
  else if c=304 then [105,775]else if c=8228∨c=12290∨c=65377 then [46]else if c=8448 then [97,47,99]else if c=8453 then [99,47,111]
  else if 9312≤c∧c≤9320 then [c-9312+49]else if 65313≤c∧c≤65338 then [c-65248+32]else if 65281≤c∧c≤65374 then [c-65248]
  else if 120782≤c∧c≤120831 then [48+(c-120782)%10]else []
def m0_ (c:Int):Prop:=c=173∨c=8203∨c=8288∨c=65279
def validP (c:Int):Prop:=¬(c=215∨c=247)∧((0≤c∧c≤127)∨(223≤c∧c≤255)∨(257≤c∧c≤303)∨(768≤c∧c≤879)∨(945≤c∧c≤969)∨(1072≤c∧c≤1119)∨(12353≤c∧c≤12438)∨(12449≤c∧c≤12538)∨(19968≤c∧c≤40959)∨(44032≤c∧c≤55203)∨(127744≤c∧c≤128511))
instance (c:Int):Decidable (m0_ c):=by unfold m0_;infer_instance
instance (c:Int):Decidable (validP c):=by unfold validP;infer_instance
def m4_ (c:Int):Bool:=decide (validP c)
def w8_ (c:Int):Int:=if toZ c≠[]then 2 else if m0_ c then 3 else if m4_ c=true then 1 else 0
def s0_ (c:Int):List UInt8:=if toZ c≠[]then join (sgL (toZ c))else if m0_ c then []else if m4_ c=true then y5_ (sgn c)else []
theorem toZ_sgn {c z:Int}(h:z∈toZ c):0≤z∧z≤2000:=by
  unfold toZ at h
  repeat' split at h
  all_goals simp only[List.mem_cons,List.mem_nil_iff,or_false]at h
  all_goals omega
theorem toZ_len (c:Int):(toZ c).length≤3:=by
  unfold toZ
  repeat' split
  all_goals simp
theorem toZ_rng (c:Int):s9_ (toZ c):=fun z h=>by
  have:=toZ_sgn h
  omega
theorem rowN_tk (L:List Int):List.take L.length (z4_ L)=z4_ L:=List.take_of_length_le (by rw[v0_];exact Nat.le_refl _)
def h8_:Spec
  | [.c (.int .i64 c)]=>some (.tu [.c (str (s0_ c)),.c (.int .i64 (w8_ c))],[-9223372036854775808≤c,c≤9223372036854775807])
  |_=>none
def n6_ (z:Int):Bool:=w8_ z==1&&z !=46
def farZ (L:List Int):Bool:=L.any fun z=>decide (127<z)
def u8_ (L:List Int):Bool:=L.all n6_&&farZ L&& !decide (768≤L.headD 0∧L.headD 0≤879)
theorem getD_mem (L:List Int)(i:Nat)(h:i<L.length):L.getD i 0∈L:=by
  have:L[i]=L.getD i 0:=by simp[List.getD,h]
  rw[←this];exact List.getElem_mem _
def i4_:Spec
  | [.fs s n l]=>some (.c (.bool (u8_ (unI l))),[s=1,l=z4_ (unI l),n=(unI l).length,n≤1000000000,s9_ (unI l)])
  |_=>none
theorem h0_ (N:List Nat):List.take N.length (z0_ N)=z0_ N:=List.take_of_length_le (by rw[y6_];exact Nat.le_refl _)
theorem decL_rng {d:List UInt8}(hd:d.length≤100000):s9_ (z8_ (x7_ d)):=by
  unfold x7_
  cases h:Pny.p9_ d with
  |none=>intro z hz;cases hz
  |some N=>
   obtain⟨h1,_⟩:=Pny.enc_dec (by omega) h
   unfold Pny.e6_ at h1
   rw[Bool.and_eq_true,List.all_eq_true]at h1
   intro z hz
   obtain⟨c,hc,rfl⟩:=List.mem_map.1 hz
   have:=okC_le (h1.2 c hc)
   omega
theorem decL_255 (d:List UInt8):(x7_ d).length≤255:=by
  unfold x7_ Pny.p9_
  split
  ·split
   ·split
    ·rename_i h;simpa using h
    ·simp
   ·simp
  ·simp
theorem encV_2500 (L:List Int):(l3_ L).length≤2500:=by
  unfold l3_
  split
  ·rename_i h
   unfold l6_ at h
   rw[Bool.and_eq_true,decide_eq_true_eq]at h
   have hm:Pny.e6_ (w0_ L)=true:=by
     unfold Pny.e6_
     rw[Bool.and_eq_true,decide_eq_true_eq,List.all_eq_true]
     exact⟨by simp only[w0_,List.length_map];exact h.1,natL_ok h.2⟩
   obtain⟨w,e,_,_,k1,k2⟩:=Pny.enc_shape hm
   have hn:(w0_ L).length=L.length:=by simp[w0_]
   have hh:(Pny.hyp (Pny.bas (w0_ L)).length).length≤1:=by unfold Pny.hyp;split<;>simp
   rw[e,List.length_append,List.length_append]
   have:(Pny.byt (Pny.bas (w0_ L))).length=(Pny.bas (w0_ L)).length:=by simp[Pny.byt]
   omega
  ·simp
theorem textZ_len (z:Int):(s0_ z).length≤100:=by
  unfold s0_
  have h1:=join_len (sgL (toZ z))
  have h2:=toZ_len z
  have h3:(sgL (toZ z)).length=(toZ z).length:=by simp[sgL]
  have h4:=(U8.l8_ (sgn z)).2
  repeat' split
  all_goals first|omega|(simp only[List.length_nil];omega)
theorem take_map (N:List Nat)(i:Nat)(h:i<N.length):(N.take (i+1)).flatMap k0_=(N.take i).flatMap k0_++k0_ (N.getD i 0):=by
  rw[v1_ N i 0 h,List.flatMap_append];simp
theorem take_all (N:List Nat)(i:Nat)(h:i<N.length):(N.take (i+1)).all (fun c=>n8_ c !=0)=((N.take i).all (fun c=>n8_ c !=0)&&n8_ (N.getD i 0) !=0):=by
  rw[v1_ N i 0 h,List.all_append];simp
theorem out_len (N:List Nat):(N.flatMap k0_).length≤3*N.length:=by
  induction N with
  |nil=>simp
  |cons c r ih=>
   rw[List.flatMap_cons,List.length_append,List.length_cons]
   have hc:(k0_ c).length≤3:=by
     unfold k0_
     split
     ·exact to_len c
     ·split<;>simp
   omega
def k2_ (s:List UInt8):Prop:=∀q,l9_ (z1_ s)=some q→(join q).length≤100000
def domSpec:Spec
  | [.c (.string s)]=>some (.tu [.c (str ((c9_ (sb s)).getD [])),.c (.bool (c9_ (sb s)).isSome)],[(sb s).length≤100000,k2_ (sb s)])
  |_=>none
end Go.Proofs.YtmjldphagbobpaaGreatDoor
namespace Go.Proofs.YtmjldphagbobpaaGreatDoor
open Go.RowKit U8 Idn
set_option maxRecDepth 100000
theorem toZ_nat (c:Nat):toZ (c:Int)=z8_ (toN c):=by
  unfold toZ toN plus32
  have e1:(btw c 65 90||btw c 192 214||btw c 216 222||btw c 913 929||btw c 931 937||btw c 1040 1071)=true↔((65≤(c:Int)∧(c:Int)≤90)∨(192≤(c:Int)∧(c:Int)≤214)∨(216≤(c:Int)∧(c:Int)≤222)∨(913≤(c:Int)∧(c:Int)≤929)∨(931≤(c:Int)∧(c:Int)≤937)∨(1040≤(c:Int)∧(c:Int)≤1071)):=by
    simp only[Bool.or_eq_true,m7_];omega
  have e2:(btw c 256 302&&c%2==0)=true↔((256≤(c:Int)∧(c:Int)≤302)∧(c:Int)%2=0):=by
    rw[Bool.and_eq_true,m7_,beq_iff_eq];omega
  have b:∀lo hi:Nat,btw c lo hi=true↔((lo:Int)≤(c:Int)∧(c:Int)≤(hi:Int)):=fun lo hi=>by rw[m7_];omega
  by_cases h1:(65≤(c:Int)∧(c:Int)≤90)∨(192≤(c:Int)∧(c:Int)≤214)∨(216≤(c:Int)∧(c:Int)≤222)∨(913≤(c:Int)∧(c:Int)≤929)∨(931≤(c:Int)∧(c:Int)≤937)∨(1040≤(c:Int)∧(c:Int)≤1071)
  ·rw[if_pos h1,if_pos (e1.2 h1)];rfl
  rw[if_neg h1,if_neg (mt e1.1 h1)]
  by_cases h2:(256≤(c:Int)∧(c:Int)≤302)∧(c:Int)%2=0
  ·rw[if_pos h2,if_pos (e2.2 h2)];rfl
  rw[if_neg h2,if_neg (mt e2.1 h2)]
  by_cases h3:1024≤(c:Int)∧(c:Int)≤1039
  ·rw[if_pos h3,if_pos ((b 1024 1039).2 h3)];rfl
  rw[if_neg h3,if_neg (mt (b 1024 1039).1 h3)]
  by_cases h4:c=304
  ·rw[if_pos (by omega),if_pos h4];rfl
  rw[if_neg (by omega),if_neg h4]
  by_cases h5:c=8228∨c=12290∨c=65377
  ·rw[if_pos (by omega),if_pos h5];rfl
  rw[if_neg (by omega),if_neg h5]
  by_cases h6:c=8448
  ·rw[if_pos (by omega),if_pos h6];rfl
  rw[if_neg (by omega),if_neg h6]
  by_cases h7:c=8453
  ·rw[if_pos (by omega),if_pos h7];rfl
  rw[if_neg (by omega),if_neg h7]
  by_cases h8:9312≤(c:Int)∧(c:Int)≤9320
  ·rw[if_pos h8,if_pos ((b 9312 9320).2 h8)]
   simp only[z8_,List.map_cons,List.map_nil,List.cons.injEq,and_true]
   omega
  rw[if_neg h8,if_neg (mt (b 9312 9320).1 h8)]
  by_cases h9:65313≤(c:Int)∧(c:Int)≤65338
  ·rw[if_pos h9,if_pos ((b 65313 65338).2 h9)]
   simp only[z8_,List.map_cons,List.map_nil,List.cons.injEq,and_true]
   omega
  rw[if_neg h9,if_neg (mt (b 65313 65338).1 h9)]
  by_cases h10:65281≤(c:Int)∧(c:Int)≤65374
  ·rw[if_pos h10,if_pos ((b 65281 65374).2 h10)]
   simp only[z8_,List.map_cons,List.map_nil,List.cons.injEq,and_true]
   omega
  rw[if_neg h10,if_neg (mt (b 65281 65374).1 h10)]
  by_cases h11:120782≤(c:Int)∧(c:Int)≤120831
  ·rw[if_pos h11,if_pos ((b 120782 120831).2 h11)]
   simp only[z8_,List.map_cons,List.map_nil,List.cons.injEq,and_true]
   omega
  rw[if_neg h11,if_neg (mt (b 120782 120831).1 h11)]
  rfl
theorem gone_nat (c:Nat):m0_ (c:Int)↔goneN c=true:=by
  unfold m0_ goneN
  simp only[Bool.or_eq_true,beq_iff_eq]
  omega
theorem valid_nat (c:Nat):m4_ (c:Int)=validN c:=by
  unfold m4_ validN
  rw[Bool.eq_iff_iff,decide_eq_true_eq]
  unfold validP
  simp only[Bool.and_eq_true,Bool.or_eq_true,Bool.not_eq_true',Bool.or_eq_false_iff,beq_eq_false_iff_ne,m7_]
  omega
theorem natI_nil {l:List Nat} :z8_ l=[]↔l=[]:=by cases l<;>simp[z8_]
theorem kind_nat (c:Nat):w8_ (c:Int)=(n8_ c:Nat):=by
  unfold w8_ n8_
  rw[toZ_nat]
  by_cases h1:toN c=[]
  ·rw[if_neg (show ¬(z8_ (toN c)≠[])by rw[ne_eq,natI_nil];simpa using h1),if_neg (show ¬(toN c≠[])by simpa using h1)]
   by_cases h2:goneN c=true
   ·rw[if_pos ((gone_nat c).2 h2),if_pos h2];rfl
   ·rw[if_neg (mt (gone_nat c).1 h2),if_neg h2,valid_nat]
    split<;>rfl
  ·rw[if_pos (show z8_ (toN c)≠[]by rw[ne_eq,natI_nil];exact h1),if_pos h1];rfl
theorem text_nat {c:Nat}(hc:n8_ c≠0):s0_ (c:Int)=join (k0_ c):=by
  have hok:=map_ok hc
  unfold n8_ at hc
  unfold s0_ k0_
  rw[toZ_nat]
  by_cases h1:toN c=[]
  ·rw[if_neg (show ¬(z8_ (toN c)≠[])by rw[ne_eq,natI_nil];simpa using h1),if_neg (show ¬(toN c≠[])by simpa using h1)]
   rw[if_neg (show ¬(toN c≠[])by simpa using h1)]at hc
   by_cases h2:goneN c=true
   ·rw[if_pos ((gone_nat c).2 h2),if_pos h2];rfl
   ·rw[if_neg h2]at hc
    rw[if_neg (mt (gone_nat c).1 h2),if_neg h2,valid_nat]
    split at hc
    ·rename_i h3
     rw[if_pos h3,sgn_okC hok]
     simp[join]
    ·exact absurd rfl hc
  ·rw[if_pos (show z8_ (toN c)≠[]by rw[ne_eq,natI_nil];exact h1),if_pos h1,sgL_natI fun d hd=>stays_ok (to_stays hd).1]
theorem fine_nat (c:Nat):n6_ (c:Int)=(n8_ c==1&&c !=46):=by
  unfold n6_
  rw[kind_nat,Bool.eq_iff_iff]
  simp only[Bool.and_eq_true,beq_iff_eq,bne_iff_ne]
  omega
theorem label_nat (l:List Nat):u8_ (z8_ l)=d0_ l:=by
  unfold u8_ d0_ farZ z8_
  rw[List.all_map,List.any_map]
  have h1:l.all (n6_ ∘ fun c:Nat=>(c:Int))=l.all fun c=>n8_ c==1&&c !=46:=by
    congr 1;funext c;exact fine_nat c
  have h2:l.any ((fun z:Int=>decide (127<z)) ∘ fun c:Nat=>(c:Int))=l.any fun c=>decide (127<c):=by
    congr 1;funext c
    exact decide_eq_decide.2 (by simp only;omega)
  rw[h1,h2]
  congr 2
  have h3:(l.map fun c:Nat=>(c:Int)).headD 0=((l.headD 0:Nat):Int):=by cases l<;>rfl
  rw[h3]
  unfold btw
  rw[←Bool.decide_and]
  exact decide_eq_decide.2 (by omega)
theorem unI_natI (N:List Nat):unI (z0_ N)=z8_ N:=by
  unfold unI z0_ z8_
  rw[List.map_map]
  rfl
theorem rowN_natI (N:List Nat):z4_ (z8_ N)=z0_ N:=by
  unfold z4_ z0_ z8_
  rw[List.map_map]
  rfl
theorem may_nat (l:List Nat):l6_ (z8_ l)=Pny.e6_ l:=by
  unfold l6_ Pny.e6_ z8_
  rw[List.length_map,List.all_map]
  congr 2
theorem natL_I (l:List Nat):w0_ (z8_ l)=l:=by
  unfold w0_ z8_
  rw[List.map_map]
  conv=>rhs;rw[←List.map_id l]
  apply List.map_congr_left
  intro n _
  show((n:Nat):Int).toNat=n
  omega
theorem natI_rng2 {l:List Nat}(h:∀c∈l,okC c):s9_ (z8_ l):=fun z hz=>by
  obtain⟨c,hc,rfl⟩:=List.mem_map.1 hz
  have:=h c hc
  unfold okC at this
  omega
theorem join_len_low:∀{l:List Nat},(∀c∈l,okC c)→(l.length≤(join l).length∧((join l).length=l.length↔p3_ l=true))
  | [],_=>⟨Nat.le_refl _,by simp[join,p3_]⟩
  |c::r,h=>by
   obtain⟨h1,h2⟩:=join_len_low (l:=r) fun d hd=>h d (.tail _ hd)
   have hc:=U8.l8_ c
   have h128:(y5_ c).length=1↔c<128:=by
     constructor
     ·intro e
      apply Classical.byContradiction
      intro hn
      by_cases k2:c<2048
      ·rw[e2 (by omega) k2]at e;simp at e
      ·by_cases k3:c<65536
       ·rw[e3 (by omega) k3]at e;simp at e
       ·rw[e4 (by omega)]at e;simp at e
     ·intro e
      rw[e1 e];rfl
   rw[n4_,List.length_append,List.length_cons]
   refine⟨by omega,?_⟩
   have hl:p3_ (c::r)=true↔c<128∧p3_ r=true:=by
     unfold p3_
     rw[List.all_cons,Bool.and_eq_true,decide_eq_true_eq]
   rw[hl]
   constructor
   ·intro e
    exact⟨h128.1 (by omega),h2.1 (by omega)⟩
   ·intro e
    have:=h128.2 e.1
    have:=h2.2 e.2
    omega
theorem join_byt {l:List Nat}(h:p3_ l=true):join l=Pny.byt l:=by
  rw[c5_]at h
  unfold join Pny.byt
  induction l with
  |nil=>rfl
  |cons c r ih=>
   rw[List.flatMap_cons,List.map_cons,ih fun d hd=>h d (.tail _ hd),e1 (h c (.head _))]
   rfl
theorem join_head {c:Nat}{r:List Nat}{x:UInt8}{t:List UInt8}(hx:x.toNat<128)(h:join (c::r)=x::t)(hc:okC c):c=x.toNat∧join r=t:=by
  rw[n4_]at h
  by_cases k1:c<128
  ·rw[e1 k1]at h
   obtain⟨a,b⟩:=List.cons.inj h
   refine⟨?_,b⟩
   rw[←a,r5_ (by omega)]
  ·exfalso
   have hb:∀n:Nat,128≤n→n<256→¬UInt8.ofNat n=x:=fun n h1 h2 e=>by
     rw[←e,r5_ h2]at hx;omega
   unfold okC at hc
   by_cases k2:c<2048
   ·rw[e2 (by omega) k2]at h
    exact hb _ (by omega) (by omega) (List.cons.inj h).1
   ·by_cases k3:c<65536
    ·rw[e3 (by omega) k3]at h
     exact hb _ (by omega) (by omega) (List.cons.inj h).1
    ·rw[e4 (by omega)]at h
     exact hb _ (by omega) (by omega) (List.cons.inj h).1
theorem join_front:∀(p:List UInt8),(∀x∈p,x.toNat<128)→∀{l:List Nat},(∀c∈l,okC c)→((join l).take p.length=p↔l.take p.length=natsB p)
  | [],_,l,_=>by simp[natsB]
  |x::p,hp,[],_=>by simp[join,natsB]
  |x::p,hp,c::r,h=>by
   have ih:=join_front p (fun y hy=>hp y (.tail _ hy)) (l:=r) fun d hd=>h d (.tail _ hd)
   have hx:=hp x (.head _)
   constructor
   ·intro e
    cases hj:join (c::r)with
    |nil=>rw[hj]at e;simp at e
    |cons y t=>
     rw[hj,List.length_cons,List.take_succ_cons]at e
     obtain⟨a,b⟩:=List.cons.inj e
     subst a
     obtain⟨e1,e2⟩:=join_head hx hj (h c (.head _))
     rw[←e2]at b
     rw[List.length_cons,List.take_succ_cons,ih.1 b,e1]
     rfl
   ·intro e
    rw[List.length_cons,List.take_succ_cons]at e
    obtain⟨a,b⟩:=List.cons.inj (show c::r.take p.length=x.toNat::natsB p from e)
    subst a
    rw[n4_,e1 hx,UInt8.ofNat_toNat,List.length_cons]
    show x::(join r).take p.length=_
    rw[ih.2 b]
theorem join_xn {l:List Nat}(h:∀c∈l,okC c):(join l).take 4=xnB↔l.take 4=xnN:=join_front xnB (by decide) h
def k4_ (l:List Nat):List UInt8:=if l.take 4=xnN∨p3_ l=true then join l else xnB++l3_ (z8_ l)
def h1_ (l:List Nat):Bool:=(labF l).isSome
theorem labF_key {l:List Nat}{t:List UInt8}(h:labF l=some t):t=k4_ l:=by
  unfold labF at h
  unfold k4_
  split at h
  ·rename_i hx
   split at h
   ·rename_i hc
    obtain rfl:=Option.some.inj h
    rw[Bool.and_eq_true]at hc
    rw[if_pos (.inl hx),join_byt hc.1]
   ·cases h
  ·rename_i hx
   split at h
   ·rename_i hl
    obtain rfl:=Option.some.inj h
    rw[if_pos (.inr hl),join_byt hl]
   ·rename_i hl
    split at h
    ·rename_i hc
     obtain rfl:=Option.some.inj h
     rw[Bool.and_eq_true]at hc
     rw[if_neg (by rintro(h|h)<;>contradiction)]
     unfold l3_
     rw[may_nat,natL_I,if_pos hc.1]
    ·cases h
theorem labF_is (l:List Nat):labF l=if h1_ l=true then some (k4_ l)else none:=by
  unfold h1_
  cases h:labF l with
  |none=>rfl
  |some t=>rw[labF_key h];rfl
theorem ints_natI (N:List Nat):ints (z8_ N)=z0_ N:=rowN_natI N
end Go.Proofs.YtmjldphagbobpaaGreatDoor
