import Derived.Test.YtmjldphagbobpaaDoorDig
set_option linter.unusedVariables false
set_option linter.unusedSimpArgs false
namespace Go.Proofs.YtmjldphagbobpaaDoor.Pny
open Go.RowKit
def wo (c:UInt8):Int:=if f3_ (c.toNat:Nat) 36≥10 then f3_ (c.toNat:Nat) 36-10 else if f3_ (c.toNat:Nat) 36≥0 then f3_ (c.toNat:Nat) 36+26 else-1
def chr (d:Nat):UInt8:=if d<26 then UInt8.ofNat (97+d)else UInt8.ofNat (22+d)
def low (c:UInt8):UInt8:=if 65≤c.toNat∧c.toNat≤90 then UInt8.ofNat (c.toNat+32)else c
theorem wo_chr {d:Nat}(h:d<36):wo (chr d)=d:=by
  have k:∀y:Fin 36,wo (chr y.val)=(y.val:Nat):=by decide+kernel
  exact k ⟨d,h⟩
theorem wo_bd:∀c:UInt8,-1≤wo c∧wo c≤35:=byte_all (by decide+kernel)
theorem chr_wo:∀c:UInt8,0≤wo c→chr (wo c).toNat=low c:=byte_all (by decide+kernel)
def bnd (j b:Nat):Nat:=max 1 (min 26 (36*(j+1)-b))
theorem bnd_bd (j b:Nat):1≤bnd j b∧bnd j b≤26:=by unfold bnd;omega
def leB (b:Nat):Nat→Nat→Nat→List UInt8
  |0,_,_=>[]
  |f+1,j,d=>if d<bnd j b then [chr d]else chr (bnd j b+(d-bnd j b)%(36-bnd j b))::leB b f (j+1) ((d-bnd j b)/(36-bnd j b))
def rdB (b:Nat):Nat→Nat→Nat→List UInt8→Option (Nat×Nat)
  |_,_,_,[]=>none
  |j,w,a,c::r=>
   if wo c<0 then none
   else if a+(wo c).toNat*w>2147483647 then none
   else if(wo c).toNat<bnd j b then some (a+(wo c).toNat*w,1)
   else match rdB b (j+1) (w*(36-bnd j b)) (a+(wo c).toNat*w) r with
     |some (v,k)=>some (v,k+1)
     |none=>none
theorem m4_ (b f j d:Nat):leB b (f+1) j d=if d<bnd j b then [chr d]else chr (bnd j b+(d-bnd j b)%(36-bnd j b))::leB b f (j+1) ((d-bnd j b)/(36-bnd j b)):=rfl
theorem rdB_cons (b j w a:Nat)(c:UInt8)(r:List UInt8):rdB b j w a (c::r)=if wo c<0 then none
    else if a+(wo c).toNat*w>2147483647 then none
    else if(wo c).toNat<bnd j b then some (a+(wo c).toNat*w,1)
    else match rdB b (j+1) (w*(36-bnd j b)) (a+(wo c).toNat*w) r with
      |some (v,k)=>some (v,k+1)
      |none=>none:=rfl
theorem quo_lt {t d m:Nat}(h1:1≤t)(h2:t≤26)(h:d<10*m):(d-t)/(36-t)<m:=by
  rw[Nat.div_lt_iff_lt_mul (by omega)]
  have:m*10≤m*(36-t):=Nat.mul_le_mul_left _ (by omega)
  omega
theorem quo_eq {t d:Nat}(h2:t≤26)(h:t≤d):t+(d-t)%(36-t)+(36-t)*((d-t)/(36-t))=d:=by
  have:=Nat.mod_add_div (d-t) (36-t)
  omega
theorem rd_le (b:Nat):∀(f j w a d:Nat) (r:List UInt8),d<10^f→a+w*d≤2147483647→rdB b j w a (leB b (f+1) j d++r)=some (a+w*d,(leB b (f+1) j d).length)
  |f,j,w,a,d,r,hf,hv=>by
   obtain⟨t1,t2⟩:=bnd_bd j b
   rw[m4_]
   by_cases h:d<bnd j b
   ·rw[if_pos h]
    show rdB b j w a (chr d::r)=_
    rw[rdB_cons,wo_chr (by omega),if_neg (by omega),Int.toNat_natCast,if_neg (by rw[Nat.mul_comm];omega),if_pos h,Nat.mul_comm]
    rfl
   ·rw[if_neg h]
    have hq:=quo_eq t2 (Nat.le_of_not_lt h)
    have hm:(d-bnd j b)%(36-bnd j b)<36-bnd j b:=Nat.mod_lt _ (by omega)
    match f,hf with
    |0,hf=>simp at hf;omega
    |f+1,hf=>
     have hlt:=quo_lt (m:=10^f) t1 t2 (by rw[Nat.pow_succ]at hf;omega:d<10*10^f)
     generalize hc:bnd j b+(d-bnd j b)%(36-bnd j b)=c at*
     generalize hd:(d-bnd j b)/(36-bnd j b)=q at*
     have e:w*d=c*w+w*(36-bnd j b)*q:=by
       rw[←hq,Nat.mul_add,Nat.mul_comm w c,Nat.mul_assoc]
     have ih:=rd_le b f (j+1) (w*(36-bnd j b)) (a+c*w) q r hlt (by omega)
     rw[List.cons_append,rdB_cons,wo_chr (by omega),if_neg (by omega),Int.toNat_natCast,if_neg (by omega),if_neg (by omega),ih]
     simp only[List.length_cons,Option.some.injEq,Prod.mk.injEq,and_true]
     omega
theorem le_rd (b:Nat):∀(s:List UInt8) (f j w a v k:Nat),s.length≤f→rdB b j w a s=some (v,k)→∃d,v=a+w*d∧1≤k∧k≤s.length∧(s.take k).map low=leB b f j d∧(1≤w→d≤2147483647)
  | [],f,j,w,a,v,k,hf,h=>by simp[rdB]at h
  |c::r,f,j,w,a,v,k,hf,h=>by
   obtain⟨t1,t2⟩:=bnd_bd j b
   obtain⟨w1,w2⟩:=wo_bd c
   rw[rdB_cons]at h
   split at h
   ·cases h
   ·rename_i h0
    have hlow:=chr_wo c (by omega)
    obtain⟨f,rfl⟩:∃g,f=g+1:=⟨f-1,by simp only[List.length_cons]at hf;omega⟩
    generalize hd:(wo c).toNat=d at*
    have hd35:d≤35:=by omega
    split at h
    ·cases h
    ·rename_i hv
     split at h
     ·rename_i hlt
      simp only[oi_]at h
      obtain⟨rfl,rfl⟩:=h
      refine⟨d,by rw[Nat.mul_comm],by omega,by simp,?_,fun _=>by omega⟩
      rw[m4_,if_pos hlt,hlow]
      rfl
     ·rename_i hge
      split at h
      ·rename_i v' k' hr
       simp only[oi_]at h
       obtain⟨rfl,rfl⟩:=h
       obtain⟨q,e1,e2,e3,e4,e5⟩:=le_rd b r f (j+1) (w*(36-bnd j b)) (a+d*w) v' k' (by simp only[List.length_cons]at hf;omega) hr
       have hsub:d-bnd j b<36-bnd j b:=by omega
       have k1:(d+(36-bnd j b)*q-bnd j b)=(d-bnd j b)+(36-bnd j b)*q:=by omega
       have k2:(d+(36-bnd j b)*q-bnd j b)%(36-bnd j b)=d-bnd j b:=by
         rw[k1,Nat.add_mul_mod_self_left,Nat.mod_eq_of_lt hsub]
       have k3:(d+(36-bnd j b)*q-bnd j b)/(36-bnd j b)=q:=by
         rw[k1,Nat.add_mul_div_left _ _ (by omega),Nat.div_eq_of_lt hsub,Nat.zero_add]
       refine⟨d+(36-bnd j b)*q,?_,by omega,by simp only[List.length_cons];omega,?_,?_⟩
       ·rw[e1,Nat.mul_add,Nat.mul_comm w d,←Nat.mul_assoc,Nat.add_assoc]
       ·rw[m4_,if_neg (by omega),k2,k3,←e4,List.take_succ_cons,List.map_cons,show bnd j b+(d-bnd j b)=d by omega,hlow]
       ·intro hw
        have hle:v'≤2147483647:=rdB_le b r (j+1) _ _ v' k' hr
        have:d+(36-bnd j b)*q≤w*(d+(36-bnd j b)*q):=Nat.le_mul_of_pos_left _ hw
        have e:w*(d+(36-bnd j b)*q)=d*w+w*(36-bnd j b)*q:=by rw[Nat.mul_add,Nat.mul_comm w d,←Nat.mul_assoc]
        omega
      ·cases h
where
  rdB_le (b:Nat):∀(s:List UInt8) (j w a v k:Nat),rdB b j w a s=some (v,k)→v≤2147483647
  | [],j,w,a,v,k,h=>by simp[rdB]at h
  |c::r,j,w,a,v,k,h=>by
   rw[rdB_cons]at h
   split at h
   ·cases h
   ·split at h
    ·cases h
    ·split at h
     ·simp only[oi_]at h
      omega
     ·split at h
      ·rename_i v' k' hr
       simp only[oi_]at h
       rw[←h.1]
       exact rdB_le b r _ _ _ v' k' hr
      ·cases h
end Go.Proofs.YtmjldphagbobpaaDoor.Pny
namespace Go.Proofs.YtmjldphagbobpaaDoor.Pny
open Go.RowKit
def adG:Nat→Nat→Nat→Nat
  |0,e,k=>k+36*e/(e+38)
  |f+1,e,k=>if e>455 then adG f (e/35) (k+36)else k+36*e/(e+38)
def adE (d n:Nat)(first:Bool):Nat:=(if first=true then d/700 else d/2)+(if first=true then d/700 else d/2)/n
def adp (d n:Nat)(first:Bool):Nat:=adG 20 (adE d n first) 0
def okC (c:Nat):Bool:=decide (c≤1114111)&& !(decide (55296≤c)&&decide (c≤57343))
structure Stt where
  out:List Nat
  p:Nat
  c:Nat
def stD (x:Stt)(d:Nat):Stt:=⟨x.out.take ((x.p+d)%(x.out.length+1))++(x.c+(x.p+d)/(x.out.length+1))::x.out.drop ((x.p+d)%(x.out.length+1)),(x.p+d)%(x.out.length+1)+1,x.c+(x.p+d)/(x.out.length+1)⟩
def okD (x:Stt)(d:Nat):Bool:=okC (x.c+(x.p+d)/(x.out.length+1))&&decide (x.out.length<255)
def l2_:Stt→List Nat→Option Stt
  |x,[]=>some x
  |x,d::r=>if okD x d=true then l2_ (stD x d) r else none
theorem runD_app:∀(a b:List Nat) (x:Stt),l2_ x (a++b)=(l2_ x a).bind fun y=>l2_ y b
  | [],b,x=>rfl
  |d::a,b,x=>by
   show(if okD x d=true then l2_ (stD x d) (a++b)else none)=((if okD x d=true then l2_ (stD x d) a else none).bind _)
   split
   ·exact runD_app a b _
   ·rfl
theorem c5_ (x:Stt)(d:Nat):(stD x d).out.length=x.out.length+1:=by
  have:(x.p+d)%(x.out.length+1)<x.out.length+1:=Nat.mod_lt _ (by omega)
  unfold stD
  simp only[List.length_append,List.length_take,List.length_cons,List.length_drop]
  omega
def t9_ (c:Nat):List Nat→Nat→Nat→List Nat×Nat×Nat
  | [],n,d=>([],n,d)
  |x::r,n,d=>if x<c then t9_ c r n (d+1)
   else if x=c then(d::(t9_ c r (n+1) 0).1,(t9_ c r (n+1) 0).2)
   else t9_ c r n d
def q1_ (l:List Nat)(c:Nat):Nat:=l.foldl (fun m x=>if c≤x then min m x else m) 1114112
def encE (l:List Nat):Nat→Nat→Nat→Nat→List Nat
  |0,_,_,_=>[]
  |f+1,c,n,d=>if n<l.length then
    (t9_ (q1_ l c) l n (d+(q1_ l c-c)*(n+1))).1++encE l f (q1_ l c+1) (t9_ (q1_ l c) l n (d+(q1_ l c-c)*(n+1))).2.1 ((t9_ (q1_ l c) l n (d+(q1_ l c-c)*(n+1))).2.2+1)
   else []
structure Way (x:Stt) (c n k d:Nat):Prop where
  len:x.out.length=n
  le:x.c≤c
  eq:d+(x.c*(n+1)+x.p)=c*(n+1)+k
theorem way_step {x:Stt}{c n k d:Nat}(h:Way x c n k d)(hk:k≤n):(x.p+d)/(n+1)=c-x.c∧(x.p+d)%(n+1)=k:=by
  obtain⟨h1,h2,h3⟩:=h
  have e:x.p+d=k+(n+1)*(c-x.c):=by
    have:c*(n+1)=x.c*(n+1)+(n+1)*(c-x.c):=by
      rw[Nat.mul_comm (n+1),←Nat.add_mul,Nat.add_sub_cancel' h2]
    omega
  rw[e]
  constructor
  ·rw[Nat.add_mul_div_left _ _ (by omega),Nat.div_eq_of_lt (by omega),Nat.zero_add]
  ·rw[Nat.add_mul_mod_self_left,Nat.mod_eq_of_lt (by omega)]
theorem scan_run (c:Nat)(hc:okC c=true):∀(r a:List Nat) (x:Stt) (n d:Nat),(a++r).length≤255→x.out=a.filter (fun z=>decide (z≤c))++r.filter (fun z=>decide (z<c))→Way x c n (a.filter (fun z=>decide (z≤c))).length d→
    ∃y,l2_ x (t9_ c r n d).1=some y∧y.out=(a++r).filter (fun z=>decide (z≤c))∧Way y c (t9_ c r n d).2.1 (t9_ c r n d).2.1 (t9_ c r n d).2.2∧y.c≤c
  | [],a,x,n,d,hl,ho,hw=>by
    rw[List.filter_nil,List.append_nil]at ho
    have e:(a.filter (fun z=>decide (z≤c))).length=n:=by rw[←ho];exact hw.len
    rw[e]at hw
    exact⟨x,rfl,by rw[List.append_nil];exact ho,hw,hw.le⟩
  |z::r,a,x,n,d,hl,ho,hw=>by
   have hap:a++z::r=(a++[z])++r:=by simp
   by_cases h1:z<c
   ·have e1:(a++[z]).filter (fun z=>decide (z≤c))=a.filter (fun z=>decide (z≤c))++[z]:=by
      rw[List.filter_append,List.filter_cons,if_pos (by simp;omega),List.filter_nil]
    have e2:(z::r).filter (fun z=>decide (z<c))=z::r.filter (fun z=>decide (z<c)):=by
      rw[List.filter_cons,if_pos (by simpa using h1)]
    have e3:t9_ c (z::r) n d=t9_ c r n (d+1):=if_pos h1
    rw[e3,hap]
    refine scan_run c hc r (a++[z]) x n (d+1) (by rw[←hap];exact hl) (by rw[ho,e1,e2];simp) ⟨hw.len,hw.le,?_⟩
    rw[e1,List.length_append,List.length_singleton]
    have:=hw.eq
    omega
   ·by_cases h2:z=c
    ·subst h2
     have e1:(a++[z]).filter (fun y=>decide (y≤z))=a.filter (fun y=>decide (y≤z))++[z]:=by
       rw[List.filter_append,List.filter_cons,if_pos (by simp),List.filter_nil]
     have e2:(z::r).filter (fun y=>decide (y<z))=r.filter (fun y=>decide (y<z)):=by
       rw[List.filter_cons,if_neg (by simp)]
     have e3:t9_ z (z::r) n d=(d::(t9_ z r (n+1) 0).1,(t9_ z r (n+1) 0).2):=by
       show(if z<z then _ else if z=z then _ else _)=_
       rw[if_neg (by omega),if_pos rfl]
     rw[e2]at ho
     have hk:(a.filter (fun y=>decide (y≤z))).length≤n:=by
       have:=congrArg List.length ho
       rw[hw.len,List.length_append]at this
       omega
     obtain⟨s1,s2⟩:=way_step hw hk
     have hcc:x.c+(z-x.c)=z:=by have:=hw.le;omega
     have hn:n<255:=by
       have h3:=congrArg List.length ho
       have h4:(a.filter (fun y=>decide (y≤z))).length≤a.length:=List.length_filter_le ..
       have h5:(r.filter (fun y=>decide (y<z))).length≤r.length:=List.length_filter_le ..
       rw[hw.len,List.length_append]at h3
       rw[List.length_append,List.length_cons]at hl
       omega
     have hok:okD x d=true:=by
       unfold okD
       rw[hw.len,s1,hcc,hc,decide_eq_true hn]
       rfl
     have hst:stD x d=⟨a.filter (fun y=>decide (y≤z))++z::r.filter (fun y=>decide (y<z)),(a.filter (fun y=>decide (y≤z))).length+1,z⟩:=by
       unfold stD
       rw[hw.len,s1,s2,hcc,ho,List.take_left,List.drop_left]
     obtain⟨y,y1,y2,y3,y4⟩:=scan_run z hc r (a++[z]) (stD x d) (n+1) 0 (by rw[←hap];exact hl) (by rw[hst,e1];simp) ⟨by rw[c5_,hw.len],by rw[hst];exact Nat.le_refl _,by
       rw[hst,e1,List.length_append,List.length_singleton]
       simp only
       omega⟩
     rw[e3,hap]
     refine⟨y,?_,y2,y3,y4⟩
     show(if okD x d=true then _ else none)=_
     rw[if_pos hok]
     exact y1
    ·have e1:(a++[z]).filter (fun z=>decide (z≤c))=a.filter (fun z=>decide (z≤c)):=by
       rw[List.filter_append,List.filter_cons,if_neg (by simp;omega),List.filter_nil,List.append_nil]
     have e2:(z::r).filter (fun z=>decide (z<c))=r.filter (fun z=>decide (z<c)):=by
       rw[List.filter_cons,if_neg (by simpa using h1)]
     have e3:t9_ c (z::r) n d=t9_ c r n d:=by
       show(if z<c then _ else if z=c then _ else _)=_
       rw[if_neg h1,if_neg h2]
     rw[e3,hap]
     exact scan_run c hc r (a++[z]) x n d (by rw[←hap];exact hl) (by rw[ho,e1,e2]) ⟨hw.len,hw.le,by rw[e1];exact hw.eq⟩
theorem least_go (c:Nat):∀(l:List Nat) (m:Nat),let k:=l.foldl (fun m x=>if c≤x then min m x else m) m;k≤m∧(∀x∈l,c≤x→k≤x)∧(k=m∨(k∈l∧c≤k))
  | [],m=>⟨Nat.le_refl _,fun x hx=>(by cases hx),.inl rfl⟩
  |z::r,m=>by
   obtain⟨h1,h2,h3⟩:=least_go c r (if c≤z then min m z else m)
   simp only[List.foldl_cons]at h1 h2 h3 ⊢
   generalize hk:r.foldl (fun m x=>if c≤x then min m x else m) (if c≤z then min m z else m)=k at*
   by_cases hz:c≤z
   ·rw[if_pos hz]at h1 h3
    refine⟨by omega,fun x hx hx2=>?_,?_⟩
    ·rcases List.mem_cons.1 hx with rfl|hx
     ·omega
     ·exact h2 x hx hx2
    ·rcases h3 with h3|⟨h3,h4⟩
     ·by_cases hm:m≤z
      ·exact .inl (by omega)
      ·exact .inr ⟨by rw[h3,Nat.min_eq_right (by omega)];exact List.mem_cons_self,by omega⟩
     ·exact .inr ⟨List.mem_cons_of_mem _ h3,h4⟩
   ·rw[if_neg hz]at h1 h3
    refine⟨h1,fun x hx hx2=>?_,?_⟩
    ·rcases List.mem_cons.1 hx with rfl|hx
     ·omega
     ·exact h2 x hx hx2
    ·rcases h3 with h3|⟨h3,h4⟩
     ·exact .inl h3
     ·exact .inr ⟨List.mem_cons_of_mem _ h3,h4⟩
theorem least_of {l:List Nat}{c:Nat}(hs:∀x∈l,x≤1114111)(h:∃x∈l,c≤x):q1_ l c∈l∧c≤q1_ l c∧∀x∈l,c≤x→q1_ l c≤x:=by
  obtain⟨h1,h2,h3⟩:=least_go c l 1114112
  unfold q1_
  rcases h3 with h3|⟨h3,h4⟩
  ·obtain⟨x,hx,hx2⟩:=h
   have:=h2 x hx hx2
   have:=hs x hx
   omega
  ·exact⟨h3,h4,h2⟩
theorem filter_lt_len {l:List Nat}{c:Nat}(h:(l.filter (fun z=>decide (z<c))).length<l.length):∃x∈l,c≤x:=by
  apply Classical.byContradiction
  intro hn
  have:l.filter (fun z=>decide (z<c))=l:=List.filter_eq_self.2 fun x hx=>by
    have:¬c≤x:=fun hc=>hn ⟨x,hx,hc⟩
    simpa using this
  rw[this]at h
  omega
theorem enc_run (l:List Nat)(hl:l.length≤255)(hs:∀x∈l,okC x=true):∀(f c n d:Nat) (x:Stt),l.length<n+f→x.out=l.filter (fun z=>decide (z<c))→Way x c n 0 d→∃y,l2_ x (encE l f c n d)=some y∧y.out=l
  |0,c,n,d,x,hf,ho,hw=>by
   have h1:=hw.len
   have h2:(l.filter (fun z=>decide (z<c))).length≤l.length:=List.length_filter_le ..
   rw[ho]at h1
   omega
  |f+1,c,n,d,x,hf,ho,hw=>by
   have hs':∀x∈l,x≤1114111:=fun x hx=>by
     have:=hs x hx
     unfold okC at this
     simp only[Bool.and_eq_true,decide_eq_true_eq]at this
     exact this.1
   have hlen:=hw.len
   rw[ho]at hlen
   show ∃y,l2_ x (if n<l.length then _ else [])=some y∧y.out=l
   by_cases hn:n<l.length
   ·rw[if_pos hn]
    obtain⟨m1,m2,m3⟩:=least_of hs' (filter_lt_len (c:=c) (by omega))
    generalize q1_ l c=m at*
    have hfe:l.filter (fun z=>decide (z<c))=l.filter (fun z=>decide (z<m)):=by
      apply List.filter_congr
      intro x hx
      have:=m3 x hx
      by_cases h:x<c
      ·rw[decide_eq_true h,decide_eq_true (by omega)]
      ·rw[decide_eq_false h,decide_eq_false (by have:=this (by omega);omega)]
    obtain⟨y,y1,y2,y3,y4⟩:=scan_run m (hs m m1) l [] x n (d+(m-c)*(n+1)) (by simpa using hl) (by rw[ho,hfe];rfl) ⟨hw.len,by have:=hw.le;omega,by
      have h3:=hw.eq
      have:m*(n+1)=c*(n+1)+(m-c)*(n+1):=by rw[←Nat.add_mul,Nat.add_sub_cancel' m2]
      simp only[List.filter_nil,List.length_nil]
      omega⟩
    rw[List.nil_append]at y2
    have hgt:n<(t9_ m l n (d+(m-c)*(n+1))).2.1:=by
      have h5:=y3.len
      rw[y2]at h5
      have h6:(l.filter (fun z=>decide (z<m))).length<(l.filter (fun z=>decide (z≤m))).length:=by
        apply filter_more m1
      rw[←hfe]at h6
      omega
    generalize t9_ m l n (d+(m-c)*(n+1))=s at*
    have hle1:l.filter (fun z=>decide (z≤m))=l.filter (fun z=>decide (z<m+1)):=by
      apply List.filter_congr
      intro x hx
      exact decide_eq_decide.2 (by omega)
    obtain⟨w,w1,w2⟩:=enc_run l hl hs f (m+1) s.2.1 (s.2.2+1) y (by omega) (by rw[y2,hle1]) ⟨y3.len,by omega,by
      have h3:=y3.eq
      have:(m+1)*(s.2.1+1)=m*(s.2.1+1)+(s.2.1+1):=by rw[Nat.add_mul,Nat.one_mul]
      omega⟩
    exact⟨w,by rw[runD_app,y1];exact w1,w2⟩
   ·rw[if_neg hn]
    refine⟨x,rfl,?_⟩
    rw[ho]
    exact List.filter_eq_self.2 fun z hz=>by
      apply Classical.byContradiction
      intro hc
      have h2:(l.filter (fun z=>decide (z<c))).length<l.length:=List.length_filter_lt_length_iff_exists.2 ⟨z,hz,hc⟩
      omega
where
  filter_more:∀{l:List Nat} {m:Nat},m∈l→(l.filter (fun z=>decide (z<m))).length<(l.filter (fun z=>decide (z≤m))).length
  |z::r,m,h=>by
   rcases List.mem_cons.1 h with rfl|h
   ·rw[List.filter_cons,if_neg (by simp),List.filter_cons,if_pos (by simp),List.length_cons]
    have:(r.filter (fun z=>decide (z<m))).length≤(r.filter (fun z=>decide (z≤m))).length:=by
      have e:r.filter (fun z=>decide (z<m))=(r.filter (fun z=>decide (z≤m))).filter (fun z=>decide (z<m)):=by
        rw[List.filter_filter]
        apply List.filter_congr
        intro x _
        by_cases hx:x<m
        ·simp[hx];omega
        ·simp[hx]
      rw[e]
      exact List.length_filter_le ..
    omega
   ·have ih:=filter_more h
    rw[List.filter_cons,List.filter_cons]
    by_cases hz:z<m
    ·rw[if_pos (by simpa using hz),if_pos (by simp;omega),List.length_cons,List.length_cons]
     omega
    ·rw[if_neg (by simpa using hz)]
     split
     ·rw[List.length_cons];omega
     ·exact ih
end Go.Proofs.YtmjldphagbobpaaDoor.Pny
namespace Go.Proofs.YtmjldphagbobpaaDoor.Pny
open Go.RowKit
theorem okD_le {x:Stt}{d:Nat}(h:okD x d=true):d≤284098560∧(128≤x.c→d≤284065919)∧x.out.length<255∧okC (x.c+(x.p+d)/(x.out.length+1))=true:=by
  unfold okD at h
  rw[Bool.and_eq_true,decide_eq_true_eq]at h
  obtain⟨h1,h2⟩:=h
  refine⟨?_,?_,h2,h1⟩
  all_goals
    unfold okC at h1
    simp only[Bool.and_eq_true,decide_eq_true_eq]at h1
    have h3:=h1.1
    have hq:=Nat.div_add_mod (x.p+d) (x.out.length+1)
    have hm:(x.p+d)%(x.out.length+1)<x.out.length+1:=Nat.mod_lt _ (by omega)
    generalize (x.p+d)/(x.out.length+1)=q at*
    have hb:(x.out.length+1)*q≤255*q:=Nat.mul_le_mul_right _ (by omega)
    omega
def wrT:List Nat→Nat→Nat→Bool→List UInt8
  | [],_,_,_=>[]
  |d::r,n,b,f=>leB b 40 0 d++wrT r (n+1) (adp d (n+1) f) false
def c8_:Nat→Stt→Nat→Bool→List UInt8→Option (List Nat)
  |_,x,_,_,[]=>some x.out
  |0,_,_,_,_::_=>none
  |g+1,x,b,f,c::s=>match rdB b 0 1 0 (c::s)with
   |none=>none
   |some (d,k)=>if okD x d=true then c8_ g (stD x d) (adp d (x.out.length+1) f) false ((c::s).drop k)else none
theorem leB_ne (b f j d:Nat):leB b (f+1) j d≠[]:=by
  rw[m4_];split<;>simp
theorem decT_cons (g:Nat)(x:Stt)(b:Nat)(f:Bool){s:List UInt8}(h:s≠[]):c8_ (g+1) x b f s=match rdB b 0 1 0 s with
    |none=>none
    |some (d,k)=>if okD x d=true then c8_ g (stD x d) (adp d (x.out.length+1) f) false (s.drop k)else none:=by
  cases s with
  |nil=>exact absurd rfl h
  |cons c s=>rfl
theorem decT_wr:∀(ds:List Nat) (g:Nat) (x y:Stt) (b:Nat) (f:Bool),ds.length≤g→l2_ x ds=some y→c8_ g x b f (wrT ds x.out.length b f)=some y.out
  | [],g,x,y,b,f,hg,h=>by
    obtain rfl:x=y:=Option.some.inj h
    cases g<;>rfl
  |d::r,g,x,y,b,f,hg,h=>by
   obtain⟨g,rfl⟩:∃k,g=k+1:=⟨g-1,by simp only[List.length_cons]at hg;omega⟩
   have h:(if okD x d=true then l2_ (stD x d) r else none)=some y:=h
   split at h
   ·rename_i hok
    have hd:=(okD_le hok).1
    have hr:=rd_le b 39 0 1 0 d (wrT r (x.out.length+1) (adp d (x.out.length+1) f) false) (Nat.lt_of_le_of_lt hd (by decide)) (by omega)
    rw[Nat.zero_add,Nat.one_mul]at hr
    show c8_ (g+1) x b f (leB b 40 0 d++wrT r (x.out.length+1) (adp d (x.out.length+1) f) false)=_
    rw[decT_cons _ _ _ _ (by simp[leB_ne]),hr]
    simp only
    rw[if_pos hok,List.drop_left]
    have ih:=decT_wr r g (stD x d) y (adp d (x.out.length+1) f) false (by simp only[List.length_cons]at hg;omega) h
    rw[c5_]at ih
    exact ih
   ·cases h
theorem decT_is:∀(g:Nat) (x:Stt) (b:Nat) (f:Bool) (s:List UInt8) (l:List Nat),s.length≤400000→c8_ g x b f s=some l→∃ds y,l2_ x ds=some y∧y.out=l∧s.map low=wrT ds x.out.length b f
  |g,x,b,f,[],l,_,h=>⟨[],x,rfl,by cases g<;>exact Option.some.inj h,rfl⟩
  |0,x,b,f,c::s,l,_,h=>by cases h
  |g+1,x,b,f,c::s,l,hl,h=>by
   rw[decT_cons _ _ _ _ (by simp)]at h
   split at h
   ·cases h
   ·rename_i d k hr
    split at h
    ·rename_i hok
     have hd:=(okD_le hok).1
     obtain⟨e,e1,e2,e3,e4,e5⟩:=le_rd b (c::s) (max 40 (c::s).length) 0 1 0 d k (by omega) hr
     obtain rfl:e=d:=by omega
     rw[leB_more b (max 40 (c::s).length) 0 e (by omega) (Nat.lt_of_le_of_lt hd (by decide))]at e4
     obtain⟨ds,y,h1,h2,h3⟩:=decT_is g (stD x e) (adp e (x.out.length+1) f) false ((c::s).drop k) l (by rw[List.length_drop];omega) h
     refine⟨e::ds,y,?_,h2,?_⟩
     ·show(if okD x e=true then l2_ (stD x e) ds else none)=_
      rw[if_pos hok];exact h1
     ·show _=leB b 40 0 e++wrT ds (x.out.length+1) (adp e (x.out.length+1) f) false
      rw[c5_]at h3
      rw[←e4,←h3,←List.map_append,List.take_append_drop]
    ·cases h
where
  leB_more (b:Nat):∀(f j d:Nat),40≤f→d<10^39→leB b f j d=leB b 40 j d:=by
    have key:∀(g f j d:Nat),g+1≤f→d<10^g→leB b f j d=leB b (g+1) j d:=by
      intro g
      induction g with
      |zero=>
       intro f j d hf hd
       obtain⟨f,rfl⟩:∃k,f=k+1:=⟨f-1,by omega⟩
       have:=(bnd_bd j b).1
       have h0:d=0:=by simpa using hd
       rw[m4_,m4_,if_pos (by omega),if_pos (by omega)]
      |succ g ih=>
       intro f j d hf hd
       obtain⟨f,rfl⟩:∃k,f=k+1:=⟨f-1,by omega⟩
       obtain⟨t1,t2⟩:=bnd_bd j b
       rw[m4_,m4_ b (g+1)]
       split
       ·rfl
       ·rw[ih f (j+1) _ (by omega) (quo_lt t1 t2 (by rw[Nat.pow_succ]at hd;omega))]
    exact fun f j d hf hd=>key 39 f j d hf hd
def c9_:List UInt8→Nat→Nat→Nat
  | [],_,cur=>cur
  |c::r,i,cur=>c9_ r (i+1) (if c=45∧1≤i then i else cur)
def r7_ (s:List UInt8):Nat:=c9_ s 0 0
theorem cutG_none:∀(r:List UInt8) (i cur:Nat),(∀c∈r,c≠45)→c9_ r i cur=cur
  | [],_,_,_=>rfl
  |c::r,i,cur,h=>by
   have hc:=h c List.mem_cons_self
   show c9_ r (i+1) _=cur
   rw[if_neg (fun e=>hc e.1)]
   exact cutG_none r (i+1) cur fun d hd=>h d (List.mem_cons_of_mem _ hd)
theorem cutG_app:∀(a b:List UInt8) (i cur:Nat),1≤i+a.length→(∀c∈b,c≠45)→c9_ (a++45::b) i cur=i+a.length
  | [],b,i,cur,h,hb=>by
    show c9_ b (i+1) (if(45:UInt8)=45∧1≤i then i else cur)=_
    simp only[List.length_nil,Nat.add_zero]at h ⊢
    rw[if_pos ⟨trivial,h⟩]
    exact cutG_none b _ _ hb
  |c::a,b,i,cur,h,hb=>by
   show c9_ (a++45::b) (i+1) _=_
   rw[cutG_app a b (i+1) _ (by omega) hb,List.length_cons]
   omega
theorem cutG_spec:∀(r:List UInt8) (i cur:Nat),c9_ r i cur=cur∨∃j,c9_ r i cur=i+j∧j<r.length∧r.getD j 0=45∧1≤i+j
  | [],_,_=> .inl rfl
  |c::r,i,cur=>by
   show c9_ r (i+1) (if c=45∧1≤i then i else cur)=cur∨∃j,c9_ r (i+1) (if c=45∧1≤i then i else cur)=i+j∧_
   by_cases h:c=45∧1≤i
   ·rw[if_pos h]
    rcases cutG_spec r (i+1) i with e|⟨j,e1,e2,e3,e4⟩
    ·exact .inr ⟨0,by rw[e];rfl,by simp,by simpa using h.1,by omega⟩
    ·exact .inr ⟨j+1,by rw[e1];omega,by simpa using e2,by simpa using e3,by omega⟩
   ·rw[if_neg h]
    rcases cutG_spec r (i+1) cur with e|⟨j,e1,e2,e3,e4⟩
    ·exact .inl e
    ·exact .inr ⟨j+1,by rw[e1];omega,by simpa using e2,by simpa using e3,by omega⟩
def bas (l:List Nat):List Nat:=l.filter fun z=>decide (z<128)
def byt (l:List Nat):List UInt8:=l.map UInt8.ofNat
def hyp (n:Nat):List UInt8:=if 0<n then [45]else []
def p4_ (l:List Nat):List UInt8:=byt (bas l)++(hyp (bas l).length++wrT (encE l (l.length+1) 128 (bas l).length 0) (bas l).length 72 true)
def l8_ (l:List Nat):Bool:=decide (l.length≤255)&&l.all okC
def m8_ (s:List UInt8):Option (List Nat):=
  if(s.take (r7_ s)).all (fun c=>decide (c.toNat<128))=true then
    match c8_ s.length ⟨(s.take (r7_ s)).map UInt8.toNat,0,128⟩ 72 true (if 0<r7_ s then s.drop (r7_ s+1)else s)with
    |some l=>if l.length≤255 then some l else none
    |none=>none
  else none
theorem le_dig (b:Nat):∀(f j d:Nat),∀c∈leB b f j d,∃k,k<36∧c=chr k
  |0,j,d,c,h=>by cases h
  |f+1,j,d,c,h=>by
   obtain⟨t1,t2⟩:=bnd_bd j b
   rw[m4_]at h
   split at h
   ·rename_i hlt
    obtain rfl:=List.mem_singleton.1 h
    exact⟨d,by omega,rfl⟩
   ·rcases List.mem_cons.1 h with rfl|h
    ·exact⟨_,by have:(d-bnd j b)%(36-bnd j b)<36-bnd j b:=Nat.mod_lt _ (by omega);omega,rfl⟩
    ·exact le_dig b f (j+1) _ c h
theorem wr_dig:∀(ds:List Nat) (n b:Nat) (f:Bool),∀c∈wrT ds n b f,∃k,k<36∧c=chr k
  | [],n,b,f,c,h=>by cases h
  |d::r,n,b,f,c,h=>by
   rcases List.mem_append.1 h with h|h
   ·exact le_dig b 40 0 d c h
   ·exact wr_dig r _ _ _ c h
theorem chr_no {k:Nat}(h:k<36):chr k≠45∧low (chr k)=chr k∧¬(65≤(chr k).toNat∧(chr k).toNat≤90)∧0≤wo (chr k):=by
  have key:∀y:Fin 36,chr y.val≠45∧low (chr y.val)=chr y.val∧¬(65≤(chr y.val).toNat∧(chr y.val).toNat≤90)∧0≤wo (chr y.val):=by decide+kernel
  exact key ⟨k,h⟩
theorem wr_len_le:∀(ds:List Nat) (n b:Nat) (f:Bool),ds.length≤(wrT ds n b f).length
  | [],_,_,_=>Nat.le_refl _
  |d::r,n,b,f=>by
   have h1:0<(leB b 40 0 d).length:=List.length_pos_iff.2 (leB_ne b 39 0 d)
   have h2:=wr_len_le r (n+1) (adp d (n+1) f) false
   show _≤(leB b 40 0 d++_).length
   rw[List.length_append,List.length_cons]
   omega
theorem byt_nat {l:List Nat}(h:∀z∈l,z<128):(byt l).map UInt8.toNat=l∧(byt l).all (fun c=>decide (c.toNat<128))=true:=by
  constructor
  ·unfold byt
   rw[List.map_map]
   conv=>rhs;rw[←List.map_id l]
   apply List.map_congr_left
   intro z hz
   have:=h z hz
   simp only[Function.comp,id,UInt8.toNat_ofNat']
   omega
  ·rw[List.all_eq_true]
   intro c hc
   obtain⟨z,hz,rfl⟩:=List.mem_map.1 hc
   have:=h z hz
   rw[decide_eq_true_eq,UInt8.toNat_ofNat']
   omega
theorem bas_lt (l:List Nat):∀z∈bas l,z<128:=fun z hz=>by simpa using(List.mem_filter.1 hz).2
theorem enc_cut (a:List UInt8)(w:List UInt8)(hw:∀c∈w,c≠45):r7_ (a++(hyp a.length++w))=a.length:=by
  unfold r7_ hyp
  by_cases h:0<a.length
  ·rw[if_pos h]
   show c9_ (a++45::w) 0 0=_
   rw[cutG_app a w 0 0 (by omega) hw]
   omega
  ·rw[if_neg h]
   have:a=[]:=List.length_eq_zero_iff.1 (by omega)
   subst this
   exact cutG_none w 0 0 hw
theorem dec_enc {l:List Nat}(h:l8_ l=true):m8_ (p4_ l)=some l:=by
  unfold l8_ at h
  rw[Bool.and_eq_true,decide_eq_true_eq,List.all_eq_true]at h
  obtain⟨h1,h2⟩:=h
  have hb:=bas_lt l
  obtain⟨b1,b2⟩:=byt_nat hb
  have hlen:(byt (bas l)).length=(bas l).length:=by simp[byt]
  obtain⟨y,y1,y2⟩:=enc_run l h1 h2 (l.length+1) 128 (bas l).length 0 ⟨bas l,0,128⟩ (by omega) rfl ⟨rfl,Nat.le_refl _,by simp only;omega⟩
  have hw:=wr_dig (encE l (l.length+1) 128 (bas l).length 0) (bas l).length 72 true
  have hl:=wr_len_le (encE l (l.length+1) 128 (bas l).length 0) (bas l).length 72 true
  have hd:=decT_wr (encE l (l.length+1) 128 (bas l).length 0)
  unfold p4_
  generalize encE l (l.length+1) 128 (bas l).length 0=ds at*
  have hd:=hd (byt (bas l)++(hyp (bas l).length++wrT ds (bas l).length 72 true)).length ⟨bas l,0,128⟩ y 72 true (by rw[List.length_append,List.length_append];omega) y1
  simp only at hd
  generalize wrT ds (bas l).length 72 true=w at*
  have hc:=enc_cut (byt (bas l)) w (fun c hc=>by obtain⟨k,k1,rfl⟩:=hw c hc;exact(chr_no k1).1)
  rw[hlen]at hc
  unfold m8_
  rw[hc,←hlen,List.take_left,b1,b2,if_pos rfl]
  have hrest:(if 0<(byt (bas l)).length then(byt (bas l)++(hyp (byt (bas l)).length++w)).drop ((byt (bas l)).length+1)else byt (bas l)++(hyp (byt (bas l)).length++w))=w:=by
    unfold hyp
    by_cases h:0<(byt (bas l)).length
    ·rw[if_pos h,if_pos h,←List.drop_drop,List.drop_left]
     rfl
    ·rw[if_neg h,if_neg h,List.length_eq_zero_iff.1 (show(byt (bas l)).length=0 by omega)]
     rfl
  rw[hrest,hlen,hd,y2]
  simp only
  rw[if_pos h1]
end Go.Proofs.YtmjldphagbobpaaDoor.Pny
namespace Go.Proofs.YtmjldphagbobpaaDoor.Pny
open Go.RowKit
structure Top (x:Stt):Prop where
  le:∀z∈x.out,z≤x.c
  p:x.p≤x.out.length
  lt:∀z∈x.out.drop x.p,z<x.c
structure Put (x:Stt):Prop extends Top x where
  one:∃a b,x.out=a++x.c::b∧x.p=a.length+1
theorem put_step {x:Stt}(h:Top x)(d:Nat):Put (stD x d)∧x.c≤(stD x d).c:=by
  have hm:(x.p+d)%(x.out.length+1)<x.out.length+1:=Nat.mod_lt _ (by omega)
  have hdm:=Nat.div_add_mod (x.p+d) (x.out.length+1)
  unfold stD
  generalize hk:(x.p+d)%(x.out.length+1)=k at*
  generalize hq:(x.p+d)/(x.out.length+1)=q at*
  have htl:(x.out.take k).length=k:=by rw[List.length_take];omega
  have hsub:∀z∈x.out.drop k,z<x.c+q:=by
    intro z hz
    by_cases h0:q=0
    ·subst h0
     have hpk:x.p≤k:=by omega
     have:z∈x.out.drop x.p:=by
       rw[show k=x.p+(k-x.p)by omega,←List.drop_drop]at hz
       exact List.mem_of_mem_drop hz
     have:=h.lt z this
     omega
    ·have:=h.le z (List.mem_of_mem_drop hz)
     omega
  refine⟨⟨⟨fun z hz=>?_,?_,?_⟩,⟨x.out.take k,x.out.drop k,rfl,by simp only[htl]⟩⟩,by simp only;omega⟩
  ·simp only at hz ⊢
   rcases List.mem_append.1 hz with hz|hz
   ·have:=h.le z (List.mem_of_mem_take hz);omega
   ·rcases List.mem_cons.1 hz with rfl|hz
    ·omega
    ·have:=hsub z hz;omega
  ·simp only[List.length_append,List.length_cons,htl]
   omega
  ·simp only
   intro z hz
   rw[show k+1=(x.out.take k).length+1 by rw[htl],←List.drop_drop,List.drop_left]at hz
   exact hsub z hz
theorem c0_:∀(ds:List Nat) (x y:Stt),Top x→l2_ x ds=some y→Top y∧y.out.length=x.out.length+ds.length∧x.c≤y.c
  | [],x,y,h,hr=>by
    obtain rfl:x=y:=Option.some.inj hr
    exact⟨h,by simp,Nat.le_refl _⟩
  |d::r,x,y,h,hr=>by
   have hr:(if okD x d=true then l2_ (stD x d) r else none)=some y:=hr
   split at hr
   ·obtain⟨h1,h2⟩:=put_step h d
    obtain⟨k1,k2,k3⟩:=c0_ r (stD x d) y h1.toTop hr
    refine⟨k1,?_,by omega⟩
    rw[k2,c5_,List.length_cons]
    omega
   ·cases hr
theorem put_same {x y:Stt}(hx:Put x)(hy:Put y)(h:x.out=y.out):x=y:=by
  obtain⟨a,b,e1,e2⟩:=hx.one
  obtain⟨a',b',e3,e4⟩:=hy.one
  have hc:x.c=y.c:=by
    have h1:=hx.le y.c (by rw[h,e3];simp)
    have h2:=hy.le x.c (by rw[←h,e1];simp)
    omega
  have key:∀(u v:Stt),u.out=v.out→u.c=v.c→(∀z∈u.out.drop u.p,z<u.c)→(∃a b,v.out=a++v.c::b∧v.p=a.length+1)→v.p≤u.p:=by
    intro u v ho hcc hlt ⟨a,b,f1,f2⟩
    apply Classical.byContradiction
    intro hn
    have hm:v.c∈u.out.drop u.p:=by
      rw[ho,f1,List.drop_append_of_le_length (by omega)]
      simp
    have:=hlt _ hm
    omega
  have h1:=key x y h hc hx.lt hy.one
  have h2:=key y x h.symm hc.symm hy.lt hx.one
  cases x;cases y
  simp only at h hc h1 h2
  subst h hc
  have: ‹Nat› = ‹Nat› :=rfl
  congr 1
  omega
theorem step_back {x:Stt}(d:Nat):(stD x d).out.take ((stD x d).p-1)++(stD x d).out.drop (stD x d).p=x.out:=by
  have hm:(x.p+d)%(x.out.length+1)<x.out.length+1:=Nat.mod_lt _ (by omega)
  unfold stD
  generalize (x.p+d)%(x.out.length+1)=k at*
  have htl:(x.out.take k).length=k:=by rw[List.length_take];omega
  simp only[Nat.add_sub_cancel]
  have e1:(x.out.take k++(x.c+(x.p+d)/(x.out.length+1))::x.out.drop k).take k=x.out.take k:=by
    conv=>lhs;rw[←htl]
    rw[htl]
    exact List.take_left' htl
  have e2:(x.out.take k++(x.c+(x.p+d)/(x.out.length+1))::x.out.drop k).drop (k+1)=x.out.drop k:=by
    rw[←List.drop_drop,List.drop_left' htl]
    rfl
  rw[e1,e2,List.take_append_drop]
theorem runD_snoc {x y:Stt}{ds:List Nat}{d:Nat}(h:l2_ x (ds++[d])=some y):∃u,l2_ x ds=some u∧y=stD u d:=by
  rw[runD_app]at h
  cases hu:l2_ x ds with
  |none=>rw[hu]at h;cases h
  |some u=>
   rw[hu]at h
   have h:(if okD u d=true then some (stD u d)else none)=some y:=h
   split at h
   ·exact⟨u,rfl,(Option.some.inj h).symm⟩
   ·cases h
theorem run_one {x:Stt}(hx:Top x):∀(n:Nat) (ds es:List Nat) (y z:Stt),ds.length=n→l2_ x ds=some y→l2_ x es=some z→y.out=z.out→ds=es∧y=z
  |0,ds,es,y,z,hn,h1,h2,ho=>by
   have k1:=(c0_ ds x y hx h1).2.1
   have k2:=(c0_ es x z hx h2).2.1
   rw[ho]at k1
   obtain rfl:ds=[]:=List.length_eq_zero_iff.1 hn
   obtain rfl:es=[]:=List.length_eq_zero_iff.1 (by simp only[List.length_nil]at k1;omega)
   exact⟨rfl,Option.some.inj (h1.symm.trans h2)⟩
  |n+1,ds,es,y,z,hn,h1,h2,ho=>by
   have k1:=(c0_ ds x y hx h1).2.1
   have k2:=(c0_ es x z hx h2).2.1
   rw[ho]at k1
   rcases List.eq_nil_or_concat ds with rfl|⟨ds,d,e1⟩
   ·simp at hn
   rcases List.eq_nil_or_concat es with rfl|⟨es,e,e2⟩
   ·simp only[List.length_nil]at k2;omega
   rw[List.concat_eq_append]at e1 e2
   subst e1 e2
   obtain⟨u,u1,u2⟩:=runD_snoc h1
   obtain⟨v,v1,v2⟩:=runD_snoc h2
   have tu:=(c0_ ds x u hx u1).1
   have tv:=(c0_ es x v hx v1).1
   have hyz:y=z:=put_same (by rw[u2];exact(put_step tu d).1) (by rw[v2];exact(put_step tv e).1) ho
   have huv:u.out=v.out:=by
     rw[←step_back (x:=u) d,←step_back (x:=v) e,←u2,←v2,hyz]
   obtain⟨i1,i2⟩:=run_one hx n ds es u v (by simpa using hn) u1 v1 huv
   subst i1 i2
   have hde:d=e:=by
     have hs:stD u d=stD u e:=by rw[←u2,←v2,hyz]
     have q1:=Nat.div_add_mod (u.p+d) (u.out.length+1)
     have q2:=Nat.div_add_mod (u.p+e) (u.out.length+1)
     unfold stD at hs
     simp only[Stt.mk.injEq]at hs
     obtain⟨_,s2,s3⟩:=hs
     have s2':(u.p+d)%(u.out.length+1)=(u.p+e)%(u.out.length+1):=by omega
     have s3':(u.p+d)/(u.out.length+1)=(u.p+e)/(u.out.length+1):=by omega
     rw[s2',s3']at q1
     omega
   exact⟨by rw[hde],hyz⟩
theorem top_bas (a:List Nat)(h:∀z∈a,z<128):Top ⟨a,0,128⟩:=⟨fun z hz=>Nat.le_of_lt (h z hz),Nat.zero_le _,fun z hz=>h z hz⟩
theorem stD_c {x:Stt}(h:128≤x.c)(d:Nat):128≤(stD x d).c:=Nat.le_trans h (Nat.le_add_right _ _)
theorem run_bas:∀(ds:List Nat) (x y:Stt),128≤x.c→l2_ x ds=some y→bas y.out=bas x.out∧(∀z∈y.out,z∈x.out∨okC z=true)∧(ds≠[]→y.out.length≤255)
  | [],x,y,hc,h=>by
    obtain rfl:x=y:=Option.some.inj h
    exact⟨rfl,fun z hz=> .inl hz,fun h=>absurd rfl h⟩
  |d::r,x,y,hc,h=>by
   have h:(if okD x d=true then l2_ (stD x d) r else none)=some y:=h
   split at h
   ·rename_i hok
    obtain⟨_,_,o3,o4⟩:=okD_le hok
    obtain⟨h1,h2,h3⟩:=run_bas r (stD x d) y (stD_c hc d) h
    refine⟨?_,fun z hz=>?_,fun _=>?_⟩
    ·rw[h1]
     unfold bas stD
     simp only[List.filter_append]
     rw[List.filter_cons,if_neg (by have h9:=stD_c hc d;unfold stD at h9;simp only at h9;rw[decide_eq_true_eq];omega),←List.filter_append,List.take_append_drop]
    ·rcases h2 z hz with hz|hz
     ·unfold stD at hz
      simp only at hz
      rcases List.mem_append.1 hz with hz|hz
      ·exact .inl (List.mem_of_mem_take hz)
      ·rcases List.mem_cons.1 hz with rfl|hz
       ·exact .inr o4
       ·exact .inl (List.mem_of_mem_drop hz)
     ·exact .inr hz
    ·by_cases hr:r=[]
     ·subst hr
      obtain rfl:stD x d=y:=Option.some.inj h
      rw[c5_];omega
     ·exact h3 hr
   ·cases h
theorem enc_dec {s:List UInt8}{l:List Nat}(hs:s.length≤400000)(h:m8_ s=some l):l8_ l=true∧∃a w,s=a++(hyp a.length++w)∧p4_ l=a++(hyp a.length++w.map low)∧a.length≤l.length:=by
  unfold m8_ at h
  split at h
  ·rename_i hall
   split at h
   ·rename_i l' hd
    split at h
    ·rename_i h255
     obtain rfl:=Option.some.inj h
     have hcut:r7_ s=0∨(r7_ s<s.length∧s.getD (r7_ s) 0=45∧1≤r7_ s):=by
       rcases cutG_spec s 0 0 with e|⟨j,e1,e2,e3,e4⟩
       ·exact .inl e
       ·have e1:r7_ s=j:=by unfold r7_;rw[e1,Nat.zero_add]
        exact .inr ⟨by rw[e1];exact e2,by rw[e1];exact e3,by omega⟩
     generalize hk:r7_ s=k at*
     generalize ha:s.take k=a at*
     generalize hw:(if 0<k then s.drop (k+1)else s)=w at*
     have hka:a.length=k:=by
       rw[←ha,List.length_take]
       rcases hcut with e|⟨e,_⟩<;>omega
     have hsw:s=a++(hyp a.length++w):=by
       rw[hka,←ha,←hw]
       unfold hyp
       rcases hcut with e|⟨e1,e2,e3⟩
       ·subst e;simp
       ·rw[if_pos (by omega),if_pos (by omega)]
        have:=drop_cons s k e1
        rw[e2]at this
        show s=s.take k++(45::s.drop (k+1))
        rw[←this,List.take_append_drop]
     have hwl:w.length≤400000:=by
       have:=congrArg List.length hsw
       rw[List.length_append,List.length_append]at this
       omega
     obtain⟨ds,y,r1,r2,r3⟩:=decT_is s.length ⟨a.map UInt8.toNat,0,128⟩ 72 true w l' hwl hd
     have hal:∀z∈a.map UInt8.toNat,z<128:=by
       intro z hz
       obtain⟨c,hc,rfl⟩:=List.mem_map.1 hz
       simpa using List.all_eq_true.1 hall c hc
     obtain⟨b1,b2,b3⟩:=run_bas ds _ y (Nat.le_refl _) r1
     have hbas:bas l'=a.map UInt8.toNat:=by
       rw[←r2,b1]
       exact List.filter_eq_self.2 fun z hz=>by simpa using hal z hz
     have hok:∀z∈l',okC z=true:=by
       intro z hz
       rw[←r2]at hz
       rcases b2 z hz with hz|hz
       ·have:=hal z hz
        unfold okC
        rw[decide_eq_true (by omega),decide_eq_false (by omega)]
        rfl
       ·exact hz
     have hmay:l8_ l'=true:=by
       unfold l8_
       rw[decide_eq_true h255,List.all_eq_true.2 hok]
       rfl
     refine⟨hmay,a,w,hsw,?_,?_⟩
     ·obtain⟨y',y1,y2⟩:=enc_run l' h255 hok (l'.length+1) 128 (bas l').length 0 ⟨bas l',0,128⟩ (by omega) rfl ⟨rfl,Nat.le_refl _,by simp only;omega⟩
      rw[←hbas]at r1
      obtain⟨hds,_⟩:=run_one (top_bas (bas l') (bas_lt l')) ds.length ds _ y y' rfl r1 y1 (by rw[r2,y2])
      unfold p4_
      rw[←hds]
      have hba:byt (bas l')=a:=by
        rw[hbas]
        unfold byt
        rw[List.map_map]
        conv=>rhs;rw[←List.map_id a]
        apply List.map_congr_left
        intro c _
        simp only[Function.comp,id,UInt8.ofNat_toNat]
      have hbl:(bas l').length=a.length:=by rw[hbas,List.length_map]
      simp only[List.length_map]at r3
      rw[hba,hbl,r3]
     ·have:=(c0_ ds _ y (top_bas _ hal) r1).2.1
      rw[r2]at this
      simp only[List.length_map]at this
      omega
    ·cases h
   ·cases h
  ·cases h
theorem adG_le:∀(m f e k:Nat),m≤f→e≤455*35^m→adG f e k≤k+36*m+35
  |m,0,e,k,hm,he=>by
   obtain rfl:m=0:=by omega
   unfold adG
   have:36*e/(e+38)≤35:=by
     rw[Nat.div_le_iff_le_mul_add_pred (by omega)]
     omega
   omega
  |m,f+1,e,k,hm,he=>by
   show(if e>455 then adG f (e/35) (k+36)else k+36*e/(e+38))≤_
   split
   ·rename_i h
    obtain⟨m,rfl⟩:∃j,m=j+1:=⟨m-1,by
      cases m with
      |zero=>simp at he;omega
      |succ m=>omega⟩
    have:=adG_le m f (e/35) (k+36) (by omega) (by
      rw[Nat.div_le_iff_le_mul_add_pred (by omega)]
      rw[Nat.pow_succ]at he
      omega)
    omega
   ·rename_i h
    have:36*e/(e+38)≤35:=by
      rw[Nat.div_le_iff_le_mul_add_pred (by omega)]
      omega
    omega
theorem adp_le {d n:Nat}(f:Bool)(hd:d≤284098560):adp d n f≤179:=by
  have he:adE d n f≤455*35^4:=by
    unfold adE
    have h1:(if f=true then d/700 else d/2)≤142049280:=by split<;>omega
    generalize (if f=true then d/700 else d/2)=e at*
    have h2:e/n≤e:=Nat.div_le_self e n
    have:(455*35^4:Nat)=682784375:=by decide
    omega
  exact adG_le 4 20 _ 0 (by omega) he
theorem quo_le {t d B:Nat}(h1:1≤t)(h2:t≤26)(h:d<10*B+36):(d-t)/(36-t)≤B:=by
  have hm:t*B≤26*B:=Nat.mul_le_mul_right _ h2
  have:d-t<(B+1)*(36-t):=by
    have e:(B+1)*(36-t)=36*B+36-t*B-t:=by
      rw[Nat.mul_sub,Nat.add_mul,Nat.one_mul,Nat.mul_comm B 36,Nat.add_mul,Nat.one_mul,Nat.mul_comm B t]
      omega
    rw[e]
    omega
  exact Nat.le_of_lt_succ (by rw[Nat.div_lt_iff_lt_mul (by omega)];exact this)
theorem leB_len {b:Nat}(hb:b≤262){d:Nat}(hd:d≤284065919):(leB b 40 0 d).length≤8:=by
  have step:∀(f j d B m:Nat),d<10*B+36→(∀q,q≤B→(leB b f (j+1) q).length≤m)→(leB b (f+1) j d).length≤m+1:=by
    intro f j d B m hd h
    obtain⟨t1,t2⟩:=bnd_bd j b
    rw[m4_]
    split
    ·simp
    ·rw[List.length_cons]
     have:=h _ (quo_le t1 t2 hd)
     omega
  have l7:∀q,q≤25→(leB b 33 7 q).length≤1:=by
    intro q hq
    have:bnd 7 b=26:=by unfold bnd;omega
    rw[m4_,if_pos (by omega)]
    simp
  have l6:∀q,q≤281→(leB b 34 6 q).length≤2:=fun q hq=>step 33 6 q 25 1 (by omega) l7
  have l5:∀q,q≤2837→(leB b 35 5 q).length≤3:=fun q hq=>step 34 5 q 281 2 (by omega) l6
  have l4:∀q,q≤28403→(leB b 36 4 q).length≤4:=fun q hq=>step 35 4 q 2837 3 (by omega) l5
  have l3:∀q,q≤284063→(leB b 37 3 q).length≤5:=fun q hq=>step 36 3 q 28403 4 (by omega) l4
  have l2:∀q,q≤2840656→(leB b 38 2 q).length≤6:=fun q hq=>step 37 2 q 284063 5 (by omega) l3
  have l1:∀q,q≤28406589→(leB b 39 1 q).length≤7:=fun q hq=>step 38 1 q 2840656 6 (by omega) l2
  exact step 39 0 d 28406589 7 (by omega) l1
theorem wrT_len:∀(ds:List Nat) (x y:Stt) (b:Nat) (f:Bool),128≤x.c→b≤262→l2_ x ds=some y→(wrT ds x.out.length b f).length≤8*ds.length
  | [],x,y,b,f,hc,hb,h=>Nat.zero_le _
  |d::r,x,y,b,f,hc,hb,h=>by
   have h:(if okD x d=true then l2_ (stD x d) r else none)=some y:=h
   split at h
   ·rename_i hok
    obtain⟨o1,o2,o3,o4⟩:=okD_le hok
    have h1:=leB_len hb (o2 hc)
    have ha:=adp_le (n:=x.out.length+1) f o1
    have h2:=wrT_len r (stD x d) y (adp d (x.out.length+1) f) false (stD_c hc d) (by omega) h
    rw[c5_]at h2
    show(leB b 40 0 d++_).length≤_
    rw[List.length_append,List.length_cons]
    omega
   ·cases h
theorem d3_ {l:List Nat}(h:l8_ l=true):∃w,p4_ l=byt (bas l)++(hyp (bas l).length++w)∧(∀c∈w,∃k,k<36∧c=chr k)∧l.length-(bas l).length≤w.length∧w.length≤8*(l.length-(bas l).length)∧(bas l).length≤l.length:=by
  unfold l8_ at h
  rw[Bool.and_eq_true,decide_eq_true_eq,List.all_eq_true]at h
  obtain⟨h1,h2⟩:=h
  obtain⟨y,y1,y2⟩:=enc_run l h1 h2 (l.length+1) 128 (bas l).length 0 ⟨bas l,0,128⟩ (by omega) rfl ⟨rfl,Nat.le_refl _,by simp only;omega⟩
  have hle:(bas l).length≤l.length:=List.length_filter_le _ _
  have hw:=wr_dig (encE l (l.length+1) 128 (bas l).length 0) (bas l).length 72 true
  have hl:=wr_len_le (encE l (l.length+1) 128 (bas l).length 0) (bas l).length 72 true
  have h8:=wrT_len (encE l (l.length+1) 128 (bas l).length 0) _ y 72 true (Nat.le_refl _) (by omega) y1
  obtain⟨_,ht,_⟩:=c0_ _ _ _ (top_bas (bas l) (bas_lt l)) y1
  rw[y2]at ht
  simp only at ht h8
  refine⟨_,rfl,hw,by omega,by omega,hle⟩
end Go.Proofs.YtmjldphagbobpaaDoor.Pny
