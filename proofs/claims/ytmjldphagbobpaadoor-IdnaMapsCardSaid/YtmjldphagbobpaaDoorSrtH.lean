import Derived.WalkKit
import Derived.Test.YtmjldphagbobpaaDoorPnyH
import Derived.Test.YtmjldphagbobpaaDoorInts
import Derived.Test.YtmjldphagbobpaaDoorLevQ
set_option linter.unusedVariables false
set_option linter.unusedSimpArgs false
namespace Go.Proofs.YtmjldphagbobpaaDoor.Srt
open IntKind (i64 u8 i32 u32 u64)
open _root_.Go.Proofs.Tryd renaming prog→p_
def le (κ:Nat→Int)(x y:Nat):Bool:=decide (κ x<κ y)||(decide (κ x=κ y)&&decide (x≤y))
theorem i3_ {κ:Nat→Int}{x y:Nat} :le κ x y=true↔κ x<κ y∨(κ x=κ y∧x≤y):=by simp[le]
theorem le_trans {κ:Nat→Int}(x y z:Nat)(h1:le κ x y=true)(h2:le κ y z=true):le κ x z=true:=by
  rw[i3_]at *;omega
theorem le_total {κ:Nat→Int}(x y:Nat):(le κ x y||le κ y x)=true:=by
  rw[Bool.or_eq_true,i3_,i3_];omega
theorem le_anti {κ:Nat→Int}{x y:Nat}(h1:le κ x y=true)(h2:le κ y x=true):x=y:=by
  rw[i3_]at *;omega
def Sor (κ:Nat→Int)(l:List Nat):Prop:=l.Pairwise fun x y=>le κ x y=true
def so (κ:Nat→Int)(l:List Nat):List Nat:=l.mergeSort (le κ)
theorem so_sor (κ:Nat→Int)(l:List Nat):Sor κ (so κ l):=List.pairwise_mergeSort le_trans le_total l
theorem e0_ (κ:Nat→Int)(l:List Nat):(so κ l).Perm l:=List.mergeSort_perm l _
theorem so_eq {κ:Nat→Int}{l m:List Nat}(h:Sor κ l)(p:l.Perm m):l=so κ m:=
  List.Perm.eq_of_pairwise (fun a b _ _ h1 h2=>le_anti h1 h2) h (so_sor κ m) (p.trans (e0_ κ m).symm)
theorem so_len (κ:Nat→Int)(l:List Nat):(so κ l).length=l.length:=(e0_ κ l).length_eq
theorem so_mem {κ:Nat→Int}{l:List Nat}{x:Nat} :x∈so κ l↔x∈l:=(e0_ κ l).mem_iff
theorem so_nil (κ:Nat→Int):so κ []=[]:=(so_eq List.Pairwise.nil (List.Perm.refl _)).symm
theorem so_same {κ:Nat→Int}{l m:List Nat}(p:l.Perm m):so κ l=so κ m:=so_eq (so_sor κ l) ((e0_ κ l).trans p)
theorem so_one (κ:Nat→Int)(x:Nat):so κ [x]=[x]:=(so_eq (List.pairwise_singleton _ _) (List.Perm.refl _)).symm
theorem so_ins {κ:Nat→Int}{T1 T2 Z:List Nat}{y:Nat}(h:Sor κ (T1++T2))(h1:∀s∈T1,le κ s y=true)(h2:∀s∈T2,le κ y s=true)(p:(y::(T1++T2)).Perm Z):T1++y::T2=so κ Z:=by
  obtain⟨a,b,c⟩:=List.pairwise_append.1 h
  refine so_eq (List.pairwise_append.2 ⟨a,List.pairwise_cons.2 ⟨h2,b⟩,fun x hx z hz=>?_⟩) (List.perm_middle.trans p)
  rcases List.mem_cons.1 hz with rfl|hz
  ·exact h1 x hx
  ·exact c x hx z hz
theorem d9_ {κ:Nat→Int}{l:List Nat}(h:Sor κ l){i j:Nat}(hij:i≤j)(hj:j<l.length):κ (l.getD i 0)≤κ (l.getD j 0):=by
  rcases Nat.lt_or_ge i j with hlt|hge
  ·have:=List.pairwise_iff_getElem.1 h i j (by omega) hj hlt
   have e1:l.getD i 0=l[i]:=by simp[List.getD,show i<l.length by omega]
   have e2:l.getD j 0=l[j]:=by simp[List.getD,hj]
   rw[e1,e2]
   rw[i3_]at this
   omega
  ·have:i=j:=by omega
   subst this
   exact Int.le_refl _
theorem so_cut {κ:Nat→Int}{A1 A2 B1 B2:List Nat}(hA:Sor κ (A1++A2))(hB:Sor κ (B1++B2))(hp:∀x∈A1++A2,∀y∈B1++B2,x<y)(h1:∀x∈A1,∀y∈B2,κ x≤κ y)(h2:∀x∈A2,∀y∈B1,κ y<κ x):
    so κ (A1++B1)++so κ (A2++B2)=so κ ((A1++A2)++(B1++B2)):=by
  obtain⟨a1,a2,a3⟩:=List.pairwise_append.1 hA
  obtain⟨b1,b2,b3⟩:=List.pairwise_append.1 hB
  refine so_eq (List.pairwise_append.2 ⟨so_sor _ _,so_sor _ _,fun x hx y hy=>?_⟩) ?_
  ·rw[so_mem,List.mem_append]at hx hy
   rcases hx with hx|hx<;>rcases hy with hy|hy
   ·exact a3 x hx y hy
   ·have k1:=h1 x hx y hy
    have k2:=hp x (List.mem_append_left _ hx) y (List.mem_append_right _ hy)
    rw[i3_];omega
   ·have k1:=h2 y hy x hx
    rw[i3_];omega
   ·exact b3 x hx y hy
  ·refine((e0_ _ _).append (e0_ _ _)).trans ?_
   rw[List.append_assoc,List.append_assoc]
   refine List.Perm.append_left _ ?_
   rw[←List.append_assoc,←List.append_assoc]
   exact List.Perm.append_right _ List.perm_append_comm
structure Cut (κ:Nat→Int) (A B:List Nat) (h u:Nat):Prop where
  u1:h-B.length≤u
  u2:u≤A.length
  u3:u≤h
  l:∀i,h-B.length≤i→i<u→¬κ (B.getD (h-1-i) 0)<κ (A.getD i 0)
  r:∀i,u≤i→i<A.length→i<h→κ (B.getD (h-1-i) 0)<κ (A.getD i 0)
theorem j0_ {l:List Nat}{x:Nat}(h:x∈l):∃i,i<l.length∧x=l.getD i 0:=by
  obtain⟨i,hi,rfl⟩:=List.getElem_of_mem h
  exact⟨i,hi,by simp[List.getD,hi]⟩
theorem getD_take {l:List Nat}{n i:Nat}(h:i<n):(l.take n).getD i 0=l.getD i 0:=by
  simp[List.getD,List.getElem?_take,h]
theorem getD_drop (l:List Nat)(n i:Nat):(l.drop n).getD i 0=l.getD (n+i) 0:=by
  simp[List.getD,List.getElem?_drop]
theorem cut_so {κ:Nat→Int}{A B:List Nat}{h u:Nat}(hA:Sor κ A)(hB:Sor κ B)(hp:∀x∈A,∀y∈B,x<y)(c:Cut κ A B h u):
    so κ (A.take u++B.take (h-u))++so κ (A.drop u++B.drop (h-u))=so κ (A++B):=by
  obtain⟨u1,u2,u3,cl,cr⟩:=c
  have e1:A.take u++A.drop u=A:=List.take_append_drop u A
  have e2:B.take (h-u)++B.drop (h-u)=B:=List.take_append_drop (h-u) B
  have:=so_cut (κ:=κ) (A1:=A.take u) (A2:=A.drop u) (B1:=B.take (h-u)) (B2:=B.drop (h-u)) (by rw[e1];exact hA) (by rw[e2];exact hB) (by rw[e1,e2];exact hp) ?_ ?_
  ·rw[e1,e2]at this;exact this
  ·intro x hx y hy
   obtain⟨i,hi,rfl⟩:=j0_ hx
   obtain⟨j,hj,rfl⟩:=j0_ hy
   rw[List.length_take]at hi
   rw[List.length_drop]at hj
   rw[getD_take (by omega),getD_drop]
   have k1:=cl (u-1) (by omega) (by omega)
   have k2:=d9_ hA (show i≤u-1 by omega) (by omega)
   have k3:=d9_ hB (show h-u≤h-u+j by omega) (by omega)
   rw[show h-1-(u-1)=h-u by omega]at k1
   omega
  ·intro x hx y hy
   obtain⟨i,hi,rfl⟩:=j0_ hx
   obtain⟨j,hj,rfl⟩:=j0_ hy
   rw[List.length_drop]at hi
   rw[List.length_take]at hj
   rw[getD_take (by omega),getD_drop]
   have k1:=cr u (by omega) (by omega) (by omega)
   have k2:=d9_ hA (show u≤u+i by omega) (by omega)
   have k3:=d9_ hB (show j≤h-1-u by omega) (by omega)
   omega
def seg (D:List Nat)(i j:Nat):List Nat:=(D.take j).drop i
def put (D:List Nat)(a b:Nat)(Z:List Nat):List Nat:=D.take a++(Z++D.drop b)
theorem f9_ (D:List Nat){i j:Nat}(h:j≤D.length):(seg D i j).length=j-i:=by
  unfold seg;rw[List.length_drop,List.length_take];omega
theorem put_len (D:List Nat){a b:Nat}{Z:List Nat}(h:b≤D.length)(hab:a≤b)(hZ:Z.length=b-a):(put D a b Z).length=D.length:=by
  unfold put;rw[List.length_append,List.length_append,List.length_take,List.length_drop];omega
theorem p0_ {P U R:List Nat}{a b:Nat}(ha:P.length=a)(hb:a+U.length=b):seg (P++(U++R)) a b=U:=by
  subst ha hb
  unfold seg
  rw[←List.append_assoc,show P.length+U.length=(P++U).length by simp,List.take_left,List.drop_left]
theorem put_at {P U R Z:List Nat}{a b:Nat}(ha:P.length=a)(hb:a+U.length=b):put (P++(U++R)) a b Z=P++(Z++R):=by
  subst ha hb
  unfold put
  rw[List.take_left,←List.append_assoc P U R,show P.length+U.length=(P++U).length by simp,List.drop_left]
theorem seg_put (D:List Nat){a b:Nat}(h:a≤b):put D a b (seg D a b)=D:=by
  unfold put seg
  have e:D.take a=(D.take b).take a:=by rw[List.take_take,Nat.min_eq_left h]
  rw[e,←List.append_assoc,List.take_append_drop,List.take_append_drop]
theorem dec2 (D:List Nat){a b:Nat}(h1:a≤b)(h2:b≤D.length):∃P U Q,D=P++(U++Q)∧P.length=a∧U.length=b-a∧P=D.take a∧U=seg D a b∧Q=D.drop b:=
  ⟨D.take a,seg D a b,D.drop b,(seg_put D h1).symm,by rw[List.length_take];omega,f9_ D h2,rfl,rfl,rfl⟩
theorem getD_mid (A:List Nat)(x:Nat)(R:List Nat){i:Nat}(h:A.length=i):(A++x::R).getD i 0=x:=by
  subst h;simp[List.getD]
theorem set_mid (A:List Nat)(x y:Nat)(R:List Nat){i:Nat}(h:A.length=i):(A++x::R).set i y=A++y::R:=by
  subst h;simp
theorem swp (A B C:List Nat)(x y:Nat){i j:Nat}(hi:A.length=i)(hj:i+1+B.length=j):((A++(x::(B++y::C))).set i y).set j x=A++(y::(B++x::C)):=by
  rw[set_mid A x y _ hi]
  have:=set_mid (A++y::B) y x C (i:=j) (by simp;omega)
  simpa using this
theorem getD_swp (A B C:List Nat)(x y:Nat){j:Nat}(hj:A.length+1+B.length=j):(A++(x::(B++y::C))).getD j 0=y:=by
  have:=getD_mid (A++x::B) y C (i:=j) (by simp;omega)
  simpa using this
def bsr (t:Nat→Bool):Nat→Nat→Nat→Nat
  |0,i,_=>i
  |f+1,i,j=>if i<j then(if t ((i+j)/2)=true then bsr t f ((i+j)/2+1) j else bsr t f i ((i+j)/2))else i
theorem bsr_is (t:Nat→Bool):∀(f i j:Nat),i≤j→j-i≤f→(∀c c',i≤c→c≤c'→c'<j→t c'=true→t c=true)→
    i≤bsr t f i j∧bsr t f i j≤j∧(∀c,i≤c→c<bsr t f i j→t c=true)∧∀c,bsr t f i j≤c→c<j→t c=false
  |0,i,j,h1,h2,h3=>⟨Nat.le_refl _,h1,fun c k1 k2=>by have k2:c<i:=k2;omega,fun c k1 k2=>by have k1:i≤c:=k1;omega⟩
  |f+1,i,j,h1,h2,h3=>by
   unfold bsr
   by_cases hij:i<j
   ·rw[if_pos hij]
    generalize hh:(i+j)/2=h at*
    cases ht:t h with
    |true=>
     rw[if_pos rfl]
     obtain⟨a,b,c,d⟩:=bsr_is t f (h+1) j (by omega) (by omega) (fun c c' k1 k2 k3=>h3 c c' (by omega) k2 k3)
     refine⟨by omega,b,fun x k1 k2=>?_,d⟩
     by_cases hx:x≤h
     ·exact h3 x h k1 hx (by omega) ht
     ·exact c x (by omega) k2
    |false=>
     rw[if_neg (by simp)]
     obtain⟨a,b,c,d⟩:=bsr_is t f i h (by omega) (by omega) (fun c c' k1 k2 k3=>h3 c c' k1 k2 (by omega))
     refine⟨a,by omega,c,fun x k1 k2=>?_⟩
     by_cases hx:x<h
     ·exact d x k1 hx
     ·cases hc:t x with
      |false=>rfl
      |true=>
       have:=h3 h x (by omega) (by omega) k2 hc
       rw[ht]at this;cases this
   ·rw[if_neg hij]
    exact⟨Nat.le_refl _,h1,fun c k1 k2=>by omega,fun c k1 k2=>by omega⟩
def hop (P U:List Nat)(y:Nat)(R:List Nat)(u:Nat):List Nat:=P++(U.take u++y::(U.drop u++R))
theorem hop_len (P U:List Nat)(y:Nat)(R:List Nat)(u:Nat):(hop P U y R u).length=P.length+U.length+1+R.length:=by
  unfold hop;simp only[List.length_append,List.length_cons,List.length_take,List.length_drop];omega
theorem hop_form {P U R:List Nat}{y u:Nat}(h:u<U.length):hop P U y R u=(P++U.take u)++(y::([]++(U.getD u 0)::(U.drop (u+1)++R)))∧hop P U y R (u+1)=(P++U.take u)++((U.getD u 0)::([]++y::(U.drop (u+1)++R))):=by
  have e1:U.drop u=U.getD u 0::U.drop (u+1):=by
    rw[List.drop_eq_getElem_cons h];simp[List.getD,h]
  have e2:U.take (u+1)=U.take u++[U.getD u 0]:=by
    rw[List.take_add_one];simp[List.getD,h]
  unfold hop
  rw[e1,e2]
  constructor<;>simp
theorem hop_at {P U R:List Nat}{y u i:Nat}(h:u≤U.length)(hi:P.length+u=i):(hop P U y R u).getD i 0=y:=by
  unfold hop
  rw[←List.append_assoc]
  exact getD_mid _ _ _ (by rw[List.length_append,List.length_take];omega)
theorem hop_next {P U R:List Nat}{y u i:Nat}(h:u<U.length)(hi:P.length+u+1=i):(hop P U y R u).getD i 0=U.getD u 0:=by
  rw[(hop_form h).1]
  exact getD_swp _ [] _ _ _ (by rw[List.length_append,List.length_take];simp;omega)
theorem hop_back {P U R:List Nat}{y u i:Nat}(h:u<U.length)(hi:P.length+u=i):(hop P U y R (u+1)).getD i 0=U.getD u 0:=by
  rw[(hop_form h).2]
  exact getD_mid _ _ _ (by rw[List.length_append,List.length_take];omega)
theorem hop_up {P U R:List Nat}{y u i:Nat}(h:u<U.length)(hi:P.length+u=i):((hop P U y R u).set i (U.getD u 0)).set (i+1) y=hop P U y R (u+1):=by
  rw[(hop_form h).1,(hop_form h).2]
  exact swp _ [] _ _ _ (by rw[List.length_append,List.length_take];omega) (by simp)
theorem hop_down {P U R:List Nat}{y u i:Nat}(h:u<U.length)(hi:P.length+u=i):((hop P U y R (u+1)).set (i+1) (U.getD u 0)).set i y=hop P U y R u:=by
  rw[List.set_comm _ _ (by omega),(hop_form h).1,(hop_form h).2]
  exact swp _ [] _ _ _ (by rw[List.length_append,List.length_take];omega) (by simp)
theorem hop_0 (P U:List Nat)(y:Nat)(R:List Nat):hop P U y R 0=P++(([y]++U)++R):=by simp[hop]
theorem hop_all (P U:List Nat)(y:Nat)(R:List Nat):hop P U y R U.length=P++((U++[y])++R):=by simp[hop]
theorem hop_put (P U:List Nat)(y:Nat)(R:List Nat)(u:Nat):hop P U y R u=P++((U.take u++y::U.drop u)++R):=by simp[hop]
def k7_ (P U M V R:List Nat)(i:Nat):List Nat:=P++((V.take i++U.drop i)++(M++((U.take i++V.drop i)++R)))
theorem exch_len {P U M V R:List Nat}(i:Nat)(h:V.length=U.length):(k7_ P U M V R i).length=P.length+U.length+M.length+U.length+R.length:=by
  unfold k7_;simp only[List.length_append,List.length_take,List.length_drop];omega
theorem exch_form {P U M V R:List Nat}{i:Nat}(h:V.length=U.length)(hi:i<U.length):
    k7_ P U M V R i=(P++V.take i)++(U.getD i 0::((U.drop (i+1)++(M++U.take i))++(V.getD i 0::(V.drop (i+1)++R))))∧
    k7_ P U M V R (i+1)=(P++V.take i)++(V.getD i 0::((U.drop (i+1)++(M++U.take i))++(U.getD i 0::(V.drop (i+1)++R)))):=by
  have e1:U.drop i=U.getD i 0::U.drop (i+1):=by
    rw[List.drop_eq_getElem_cons hi];simp[List.getD,hi]
  have e2:U.take (i+1)=U.take i++[U.getD i 0]:=by
    rw[List.take_add_one];simp[List.getD,hi]
  have e3:V.drop i=V.getD i 0::V.drop (i+1):=by
    rw[List.drop_eq_getElem_cons (by omega)];simp[List.getD,show i<V.length by omega]
  have e4:V.take (i+1)=V.take i++[V.getD i 0]:=by
    rw[List.take_add_one];simp[List.getD,show i<V.length by omega]
  unfold k7_
  rw[e1,e2,e3,e4]
  constructor<;>simp
theorem exch_step {P U M V R:List Nat}{i a b:Nat}(h:V.length=U.length)(hi:i<U.length)(ha:P.length=a)(hb:a+U.length+M.length=b):
    (k7_ P U M V R i).getD (a+i) 0=U.getD i 0∧(k7_ P U M V R i).getD (b+i) 0=V.getD i 0∧((k7_ P U M V R i).set (a+i) (V.getD i 0)).set (b+i) (U.getD i 0)=k7_ P U M V R (i+1):=by
  obtain⟨e1,e2⟩:=exch_form (P:=P) (M:=M) (R:=R) h hi
  have l1:(P++V.take i).length=a+i:=by rw[List.length_append,List.length_take];omega
  have l2:a+i+1+(U.drop (i+1)++(M++U.take i)).length=b+i:=by simp only[List.length_append,List.length_take,List.length_drop];omega
  rw[e1,e2]
  refine⟨getD_mid _ _ _ l1,getD_swp _ _ _ _ _ (by rw[l1];exact l2),swp _ _ _ _ _ l1 l2⟩
theorem exch_0 (P U M V R:List Nat):k7_ P U M V R 0=P++(U++(M++(V++R))):=by simp[k7_]
theorem exch_all {P U M V R:List Nat}(h:V.length=U.length):k7_ P U M V R U.length=P++(V++(M++(U++R))):=by
  unfold k7_
  rw[←h,List.take_length,List.drop_length,h,List.take_length,List.drop_length]
  simp
def t6_ (κ:Nat→Int)(bs:Nat)(l:List Nat):List Nat:=
  if h:l=[]∨bs=0 then []else so κ (l.take bs)++t6_ κ bs (l.drop bs)
termination_by l.length
decreasing_by
  have:l.length≠0:=fun e=>h (.inl (List.eq_nil_of_length_eq_zero e))
  rw[List.length_drop];omega
theorem m7_ (κ:Nat→Int)(bs:Nat):t6_ κ bs []=[]:=by rw[t6_];simp
theorem i9_ (κ:Nat→Int){bs:Nat}(hb:0<bs)(l:List Nat):t6_ κ bs l=so κ (l.take bs)++t6_ κ bs (l.drop bs):=by
  by_cases hl:l=[]
  ·subst hl
   rw[List.take_nil,List.drop_nil,m7_,so_nil];rfl
  ·rw[t6_,dif_neg (by rintro(h|h);exact hl h;omega)]
theorem e6_ (κ:Nat→Int){bs:Nat}(hb:0<bs){l:List Nat}(h:l.length≤bs):t6_ κ bs l=so κ l:=by
  rw[i9_ κ hb,List.take_of_length_le h,List.drop_of_length_le h,m7_,List.append_nil]
theorem chunks_app (κ:Nat→Int){bs:Nat}(hb:0<bs):∀(q:Nat) (X Y:List Nat),X.length=q*bs→t6_ κ bs (X++Y)=t6_ κ bs X++t6_ κ bs Y
  |0,X,Y,h=>by
   have:X=[]:=List.eq_nil_of_length_eq_zero (by omega)
   subst this
   rw[m7_];rfl
  |q+1,X,Y,h=>by
   rw[Nat.succ_mul]at h
   rw[i9_ κ hb (X++Y),i9_ κ hb X,List.take_append_of_le_length (by omega),List.drop_append_of_le_length (by omega),chunks_app κ hb q _ Y (by rw[List.length_drop];omega),List.append_assoc]
theorem chunks_len (κ:Nat→Int){bs:Nat}(hb:0<bs):∀(n:Nat) (l:List Nat),l.length≤n→(t6_ κ bs l).length=l.length
  |0,l,h=>by
   have:l=[]:=List.eq_nil_of_length_eq_zero (by omega)
   subst this;rw[m7_]
  |n+1,l,h=>by
   by_cases hl:l=[]
   ·subst hl;rw[m7_]
   ·have:l.length≠0:=fun e=>hl (List.eq_nil_of_length_eq_zero e)
    rw[i9_ κ hb,List.length_append,so_len,chunks_len κ hb n _ (by rw[List.length_drop];omega),List.length_take,List.length_drop]
    omega
end Go.Proofs.YtmjldphagbobpaaDoor.Srt
namespace Go.Proofs.YtmjldphagbobpaaDoor
open IntKind (i64 u8 i32 u32 u64)
open _root_.Go.Proofs.Tryd renaming prog→p_
open Go.RowKit Srt
def SmI (L:List Int):Prop:=∀z∈L,0≤z∧z≤1114111
theorem smI_at {L:List Int}(h:SmI L){i:Nat}(hi:i<L.length):0≤L.getD i 0∧L.getD i 0≤1114111:=by
  have e:L.getD i 0=L[i]:=by simp[List.getD,hi]
  rw[e]
  exact h _ (List.getElem_mem hi)
def cmpSpec:Spec
  | [.c (.int .i64 x),.c (.int .i64 y),.fp [.fs s n l]]=>some (.c (.int .i64 ((unI l).getD x.toNat 0-(unI l).getD y.toNat 0)),[s=1,l=z2_ (unI l),n=(unI l).length,SmI (unI l),0≤x,x<n,0≤y,y<n])
  |_=>none
theorem cmo_all (L:List Int)(x y:Nat)(u v:Int)(hx:x<L.length)(hy:y<L.length)(ha:y0_ (((z2_ L).drop x).headD .any) (.c (.int .i64 u)))(hb:y0_ (((z2_ L).drop y).headD .any) (.c (.int .i64 v)))(hp:0≤u)(hp2:u≤1114111)(hq:0≤v)(hq2:v≤1114111)(hl:(z2_ L).length=L.length):∃(h:Hints) (p:List Prop),y3_ p_ 73 (z8_ p_ cl0 h (y1_ ([])) 60 73 ([.c (.int .i64 x),.c (.int .i64 y),.fp [.fs 1 L.length (z2_ L)]]) ([]))=some (.c (.int .i64 (u-v)),p)∧z7_ p:=by
  refine⟨⟨true,([(9,⟨.c (.int .i64 u),none⟩),(13,⟨.c (.int .i64 v),none⟩)])⟩,[(((0:Nat):Nat)<((1:Nat))),
 (0:Int)≤↑x,
 (↑x:Int)<↑L.length,
 (((0:Nat):Nat)<((List.drop x (z2_ L)).length)),
 y0_ ((List.drop x (z2_ L)).headD AV.any) ((AV.c ((Value.int .i64 u)))),
 (((0:Nat):Nat)<((1:Nat))),
 (0:Int)≤↑y,
 (↑y:Int)<↑L.length,
 (((0:Nat):Nat)<((List.drop y (z2_ L)).length)),
 y0_ ((List.drop y (z2_ L)).headD AV.any) ((AV.c ((Value.int .i64 v)))),
 (i64.min:Int)≤u-v,
 (u-v:Int)≤i64.max],by kernel_rfl,?_⟩
  all_goals try simp(disch:=omega) only[std,List.length_drop,hl]
  all_goals repeat' apply And.intro
  all_goals first|exact True.intro|omega|with_reducible (first|rfl|assumption)|exact ha|exact hb|exact hl|rfl
theorem cmp_ok:w2_ p_ 73 cmpSpec:=by
  refine v5_ mixed w6_ fun args r q hs hq=>?_
  unfold cmpSpec at hs
  split at hs
  ·rename_i x y s n l
   simp only[oi_]at hs
   obtain⟨rfl,rfl⟩:=hs
   obtain⟨rfl,h2,h3,h4,h5,h6,h7,h8,_⟩:=hq
   generalize unI l=L at*
   subst h2 h3
   obtain⟨x,rfl⟩:∃k:Nat,x=(k:Int):=⟨x.toNat,by omega⟩
   obtain⟨y,rfl⟩:∃k:Nat,y=(k:Int):=⟨y.toNat,by omega⟩
   rw[Int.toNat_natCast,Int.toNat_natCast]
   have k1:=smI_at h4 (i:=x) (by omega)
   have k2:=smI_at h4 (i:=y) (by omega)
   obtain⟨hh,p,e,hp⟩:=cmo_all L x y _ _ (by omega) (by omega) (by rw[j3_ L x (by omega)];exact u3_ _) (by rw[j3_ L y (by omega)];exact u3_ _) k1.1 k1.2 k2.1 k2.2 (v3_ L)
   exact⟨_,_,_,_,z4_,e,hp⟩
  ·simp at hs
noncomputable def c7_:CallT:=l3_ p_ (r4_ [(73,cmpSpec)]) 500 8
theorem clCm_ok:x7_ p_ c7_:=q7_ mixed (y8_ cmp_ok v2_) 500 8
theorem g3_ (D:List Nat)(i x:Nat)(h:i<D.length):(z0_ D).take i++[.c (.int .i64 x)]++(z0_ D).drop (i+1)=z0_ (D.set i x):=by
  unfold z0_
  rw[List.map_set,List.set_eq_take_append_cons_drop,if_pos (by simpa using h)]
  simp
def srH (D:List Nat)(n:Nat)(C:List AV):Heap:=[some ⟨3,false,z0_ D⟩,some ⟨27,true,[.fs 1 n C]⟩]
def srF:AV:= .fn 73 [.pt 1 0]
theorem kp2 {ns:List (Nat×TypeId)}{K:List Nat} :Fi.keeps ⟨ns,K,[0,1]⟩ 2:=⟨by simp,rfl⟩
def swS (D:List Nat)(n k a b c i:Nat)(C:List AV):St:=⟨frame 38 [(0,.sl 0 0 n),(1,.c (.int .i64 a)),(2,.c (.int .i64 b)),(3,.c (.int .i64 c)),(10,.c (.int .i64 i))],srH D k C⟩
theorem swA_all (D D1 D2:List Nat)(n k a b c i x y:Nat)(C:List AV)(hi:i<c)(ha:a+i<n)(hb:b+i<n)(hx:y0_ (((z0_ D).drop (a+i)).headD .any) (.c (.int .i64 x)))(hy:y0_ (((z0_ D).drop (b+i)).headD .any) (.c (.int .i64 y)))(hs1:(z0_ D).take (a+i)++[.c (.int .i64 y)]++(z0_ D).drop (a+i+1)=z0_ D1)(hs2:(z0_ D1).take (b+i)++[.c (.int .i64 x)]++(z0_ D1).drop (b+i+1)=z0_ D2)(hn:n≤255)(hc:c≤255)(hD:(z0_ D).length=n)(hD1:(z0_ D1).length=n):x9_ 2 p_ cl0 (z1_ p_ 86 1) (swS D n k a b c i C) (.normal) (swS D2 n k a b c (i+1) C):=by
  refine⟨⟨true,(bs [(13,true)]++[(19,⟨.c (.int .i64 (a+i:Nat)),none⟩),(23,⟨.c (.int .i64 (b+i:Nat)),none⟩),(27,⟨.c (.int .i64 (b+i:Nat)),none⟩),(29,⟨.c (.int .i64 y),none⟩),(33,⟨.c (.int .i64 (a+i:Nat)),none⟩),(35,⟨.c (.int .i64 x),none⟩),(100036,⟨.any,some (z0_ D1)⟩),(100037,⟨.any,some (z0_ D2)⟩)])⟩,_,60,⟨[],[0,1,2,3,10],[0,1]⟩,[decide ((↑i:Int)<↑c)=true,
 (i64.min:Int)≤↑a+↑i,
 (↑a+↑i:Int)≤i64.max,
 (↑a+↑i:Int)=↑(a+i),
 (i64.min:Int)≤↑b+↑i,
 (↑b+↑i:Int)≤i64.max,
 (↑b+↑i:Int)=↑(b+i),
 (i64.min:Int)≤↑b+↑i,
 (↑b+↑i:Int)≤i64.max,
 (↑b+↑i:Int)=↑(b+i),
 (0:Int)≤↑(b+i),
 (↑(b+i):Int)<↑n,
 (((0:Nat):Nat)<((List.drop (b+i+(0:Nat)) (z0_ D)).length)),
 y0_ ((List.drop (b+i+(0:Nat)) (z0_ D)).headD AV.any) ((AV.c ((Value.int .i64 ((↑y:Int)))))),
 (i64.min:Int)≤↑a+↑i,
 (↑a+↑i:Int)≤i64.max,
 (↑a+↑i:Int)=↑(a+i),
 (0:Int)≤↑(a+i),
 (↑(a+i):Int)<↑n,
 (((0:Nat):Nat)<((List.drop (a+i+(0:Nat)) (z0_ D)).length)),
 y0_ ((List.drop (a+i+(0:Nat)) (z0_ D)).headD AV.any) ((AV.c ((Value.int .i64 ((↑x:Int)))))),
 (0:Int)≤↑(a+i),
 (↑(a+i):Int)<↑n,
 ((a+i+(0:Nat)+(1:Nat):Nat)≤((z0_ D).length)),
 y0_ (AV.any) (AV.any),
 ((List.take (a+i+(0:Nat)) (z0_ D)++[AV.c (Value.int IntKind.i64 (↑y:Int))]++List.drop (a+i+(0:Nat)+(1:Nat)) (z0_ D):List AV))=(z0_ D1),
 (0:Int)≤↑(b+i),
 (↑(b+i):Int)<↑n,
 ((b+i+(0:Nat)+(1:Nat):Nat)≤((z0_ D1).length)),
 y0_ (AV.any) (AV.any),
 ((List.take (b+i+(0:Nat)) (z0_ D1)++[AV.c (Value.int IntKind.i64 (↑x:Int))]++List.drop (b+i+(0:Nat)+(1:Nat)) (z0_ D1):List AV))=(z0_ D2),
 (i64.min:Int)≤↑i+1,
 (↑i+1:Int)≤i64.max],y4_,by decide,by kernel_rfl,?_⟩
  all_goals try simp(disch:=omega) only[std,List.length_drop,hD,hD1]
  all_goals repeat' apply And.intro
  all_goals first|exact True.intro|omega|with_reducible (first|rfl|assumption)|exact hx|exact hy|exact hs1|exact hs2|exact hD|exact hD1|rfl
theorem swZ_all (D D1 D2:List Nat)(n k a b c i x y:Nat)(C:List AV)(hi:i=c)(hn:n≤255)(hc:c≤255)(hD:(z0_ D).length=n)(hD1:(z0_ D1).length=n):x9_ 2 p_ cl0 (z1_ p_ 86 1) (swS D n k a b c i C) (.exit 0) (swS D n k a b c i C):=by
  refine⟨⟨true,(bs [(13,false)]++[(19,⟨.c (.int .i64 (a+i:Nat)),none⟩),(23,⟨.c (.int .i64 (b+i:Nat)),none⟩),(27,⟨.c (.int .i64 (b+i:Nat)),none⟩),(29,⟨.c (.int .i64 y),none⟩),(33,⟨.c (.int .i64 (a+i:Nat)),none⟩),(35,⟨.c (.int .i64 x),none⟩),(100036,⟨.any,some (z0_ D1)⟩),(100037,⟨.any,some (z0_ D2)⟩)])⟩,_,60,⟨[],[0,1,2,3,10],[0,1]⟩,[decide ((↑i:Int)<↑c)=false],y4_,by decide,by kernel_rfl,?_⟩
  all_goals try simp(disch:=omega) only[std,List.length_drop,hD,hD1]
  all_goals repeat' apply And.intro
  all_goals first|exact True.intro|omega|with_reducible (first|rfl|assumption)|exact hx|exact hy|exact hs1|exact hs2|exact hi|exact hD|exact hD1|rfl
theorem r3_ {D:List Nat}{i x:Nat}(h:i<D.length)(e:D.getD i 0=x):y0_ (((z0_ D).drop i).headD .any) (.c (.int .i64 x)):=by
  rw[h7_ D i h,e];exact u3_ _
def swD (D:List Nat)(a b c:Nat):List Nat:=D.take a++(seg D b (b+c)++(seg D (a+c) b++(seg D a (a+c)++D.drop (b+c))))
def swSpec:HSpec
  | [.sl 0 0 n,.c (.int .i64 a),.c (.int .i64 b),.c (.int .i64 c),.fn f [.pt 1 0]],[some ⟨t,false,C⟩,some ⟨t2,true,[.fs s k l]⟩]=>if(t=3∧t2=27)∧(f=73∧s=1)then
      some (.tu [],srH (swD (z5_ C) a.toNat b.toNat c.toNat) k l,[C=z0_ (z5_ C),(z5_ C).length=n,n≤255,0≤a,0≤c,a+c≤b,b+c≤n])else none
  |_,_=>none
theorem sw_walk (P U M V R:List Nat)(k:Nat)(C:List AV)(hV:V.length=U.length)(hn:P.length+U.length+M.length+U.length+R.length≤255):
    Tri (ExtK 2) p_ (.loop (z1_ p_ 86 1)) (swS (k7_ P U M V R 0) (P.length+U.length+M.length+U.length+R.length) k P.length (P.length+U.length+M.length) U.length 0 C) (.exit 0)
      (swS (k7_ P U M V R U.length) (P.length+U.length+M.length+U.length+R.length) k P.length (P.length+U.length+M.length) U.length U.length C):=by
  refine loop_upK mixed w6_ (fun i=>swS (k7_ P U M V R i) (P.length+U.length+M.length+U.length+R.length) k P.length (P.length+U.length+M.length) U.length i C) U.length (by simp) (fun i hi=>?_) ?_ 0 (Nat.zero_le _)
  ·obtain⟨e1,e2,e3⟩:=exch_step (P:=P) (M:=M) (R:=R) (a:=P.length) (b:=P.length+U.length+M.length) hV hi rfl rfl
   have hl:=exch_len (P:=P) (M:=M) (R:=R) i hV
   refine swA_all (k7_ P U M V R i) ((k7_ P U M V R i).set (P.length+i) (V.getD i 0)) (k7_ P U M V R (i+1)) _ k _ _ _ i (U.getD i 0) (V.getD i 0) C hi (by omega) (by omega) (r3_ (by omega) e1) (r3_ (by omega) e2) (g3_ _ _ _ (by omega)) ?_ hn (by omega) (by rw[y7_];exact hl) (by rw[y7_,List.length_set];exact hl)
   rw[g3_ _ _ _ (by rw[List.length_set];omega),e3]
  ·exact swZ_all (k7_ P U M V R U.length) (k7_ P U M V R U.length) [] _ k _ _ U.length U.length 0 0 C rfl hn (by omega) (by rw[y7_];exact exch_len _ hV) (by rw[y7_];exact exch_len _ hV)
noncomputable def swLp (D D2:List Nat)(n k a b c:Nat)(C:List AV):List (Nat×Lp):=[(1,⟨z1_ p_ 86 1,⟨[],[0,1,2,3,10],[0,1]⟩,swS D n k a b c 0 C,.exit 0,swS D2 n k a b c c C⟩)]
theorem swb_all (D D2:List Nat)(n k a b c:Nat)(C:List AV):∃(h:Hints) (p:List Prop),y5_ [] (z8_ p_ cl0 h (y1_ (swLp D D2 n k a b c C)) 60 86 ([.sl 0 0 n,.c (.int .i64 a),.c (.int .i64 b),.c (.int .i64 c),srF]) (srH D k C))=some (.tu [],srH D2 k C,p)∧z7_ p:=by
  refine⟨⟨true,bs []⟩,[((z1_ p_ (86:FuncId) (1:Nat):Go.Code))=(z1_ p_ (86:FuncId) (1:Nat)),
 ((swS D n k a b c (0:Nat) C:St))=(swS D n k a b c (0:Nat) C)],by kernel_rfl,?_⟩
  all_goals try simp(disch:=omega) only[std]
  all_goals repeat' apply And.intro
  all_goals first|exact True.intro|omega|with_reducible (first|rfl|assumption)|rfl
theorem exch_is (P U M V R:List Nat)(h:V.length=U.length):swD (P++(U++(M++(V++R)))) P.length (P.length+U.length+M.length) U.length=k7_ P U M V R U.length:=by
  rw[exch_all h]
  unfold swD
  have e1:(P++(U++(M++(V++R)))).take P.length=P:=List.take_left
  have e2:seg (P++(U++(M++(V++R)))) P.length (P.length+U.length)=U:=p0_ rfl rfl
  have e3:seg (P++(U++(M++(V++R)))) (P.length+U.length) (P.length+U.length+M.length)=M:=by
    rw[←List.append_assoc P U];exact p0_ (by simp) rfl
  have e4:seg (P++(U++(M++(V++R)))) (P.length+U.length+M.length) (P.length+U.length+M.length+U.length)=V:=by
    rw[←List.append_assoc P U,←List.append_assoc (P++U) M];exact p0_ (by simp;omega) (by rw[h])
  have e5:(P++(U++(M++(V++R)))).drop (P.length+U.length+M.length+U.length)=R:=by
    rw[←List.append_assoc P U,←List.append_assoc (P++U) M,←List.append_assoc (P++U++M) V,show P.length+U.length+M.length+U.length=(P++U++M++V).length by simp;omega,List.drop_left]
  rw[e1,e2,e3,e4,e5]
theorem sw_at (P U M V R:List Nat)(k:Nat)(C:List AV)(hV:V.length=U.length){n a b c:Nat}(hn:P.length+U.length+M.length+U.length+R.length=n)(ha:P.length=a)(hb:P.length+U.length+M.length=b)(hc:U.length=c)(h:n≤255):
    ∃ks hs lp fuel p,q3_ (ExtK 2) p_ lp∧y5_ ks (z8_ p_ cl0 hs lp fuel 86 [.sl 0 0 n,.c (.int .i64 a),.c (.int .i64 b),.c (.int .i64 c),srF] (srH (P++(U++(M++(V++R)))) k C))=some (.tu [],srH (swD (P++(U++(M++(V++R)))) a b c) k C,p)∧z7_ p:=by
  subst hn ha hb hc
  have w:=sw_walk P U M V R k C hV h
  rw[exch_is _ _ _ _ _ hV]
  rw[exch_0]at w
  obtain⟨hh,p,e,hp⟩:=swb_all (P++(U++(M++(V++R)))) (k7_ P U M V R U.length) (P.length+U.length+M.length+U.length+R.length) k P.length (P.length+U.length+M.length) U.length C
  exact⟨_,_,_,_,_,s2_ y4_ kp2 w,e,hp⟩
theorem dec5 (D:List Nat){a b c:Nat}(h1:a+c≤b)(h2:b+c≤D.length):∃P U M V R,D=P++(U++(M++(V++R)))∧P.length=a∧U.length=c∧M.length=b-(a+c)∧V.length=c:=by
  refine⟨D.take a,seg D a (a+c),seg D (a+c) b,seg D b (b+c),D.drop (b+c),?_,by rw[List.length_take];omega,by rw[f9_ D (by omega)];omega,by rw[f9_ D (by omega)],by rw[f9_ D (by omega)];omega⟩
  have k:∀i j,i≤j→seg D i j++D.drop j=D.drop i:=by
    intro i j hij
    unfold seg
    conv=>rhs;rw[←List.take_append_drop j D]
    rw[List.drop_append]
    by_cases hj:j≤D.length
    ·rw[List.length_take,Nat.min_eq_left hj,Nat.sub_eq_zero_of_le hij,List.drop_zero]
    ·rw[List.drop_of_length_le (show D.length≤j by omega)];simp
  rw[k _ _ (by omega),k _ _ (by omega),k _ _ (by omega),List.take_append_drop]
theorem sw_ok:u0_ p_ 86 swSpec:=by
  refine zb0_ mixed w6_ fun args hp r hp' q hs hq=>?_
  unfold swSpec at hs
  split at hs
  ·rename_i n a b c f t C t2 s k l
   split at hs
   ·rename_i hc
    obtain⟨⟨rfl,rfl⟩,rfl,rfl⟩:=hc
    simp only[oi_]at hs
    obtain⟨rfl,rfl,rfl⟩:=hs
    obtain⟨h1,h2,h3,h4,h5,h6,h7,_⟩:=hq
    obtain⟨a,rfl⟩:∃k:Nat,a=(k:Int):=⟨a.toNat,by omega⟩
    obtain⟨b,rfl⟩:∃k:Nat,b=(k:Int):=⟨b.toNat,by omega⟩
    obtain⟨c,rfl⟩:∃k:Nat,c=(k:Int):=⟨c.toNat,by omega⟩
    simp only[Int.toNat_natCast]
    generalize z5_ C=D at*
    subst h1
    obtain⟨P,U,M,V,R,rfl,e1,e2,e3,e4⟩:=dec5 D (a:=a) (b:=b) (c:=c) (by omega) (by omega)
    simp only[List.length_append]at h2
    exact sw_at P U M V R k l (by omega) (by omega) e1 (by omega) e2 h3
   ·simp at hs
  ·simp at hs
end Go.Proofs.YtmjldphagbobpaaDoor
namespace Go.Proofs.YtmjldphagbobpaaDoor
open IntKind (i64 u8 i32 u32 u64)
open _root_.Go.Proofs.Tryd renaming prog→p_
open Go.RowKit Srt
noncomputable def clSw:CallT:=p3_ p_ (r4_ []) (m0_ [(86,swSpec)]) 500 8
theorem clSw_ok:x7_ p_ clSw:=s3_ mixed v2_ (w5_ sw_ok s8_) 500 8
def rtS (D:List Nat)(n k a m b i j:Nat)(C:List AV):St:=⟨frame 58 [(0,.sl 0 0 n),(1,.c (.int .i64 a)),(2,.c (.int .i64 m)),(3,.c (.int .i64 b)),(4,srF),(10,.c (.int .i64 i)),(11,.c (.int .i64 j))],srH D k C⟩
theorem rtA_all (D:List Nat)(n k a m b i j:Nat)(C:List AV)(hij:j<i)(hn:n≤255)(hD:D.length=n)(him:i≤m)(hj:m+j≤n)(hu:z5_ (z0_ D)=D):x9_ 2 p_ clSw (z1_ p_ 85 2) (rtS D n k a m b i j C) (.normal) (rtS (swD D (m-i) m j) n k a m b (i-j) j C):=by
  refine⟨⟨true,(bs [(20,true),(23,true)]++[(27,⟨.c (.int .i64 (m-i:Nat)),none⟩),(34,⟨.c (.int .i64 (i-j:Nat)),none⟩),(38,⟨.c (.int .i64 (m-i:Nat)),none⟩),(41,⟨.c (.int .i64 (m+j:Nat)),none⟩),(43,⟨.c (.int .i64 (m+j-i:Nat)),none⟩),(49,⟨.c (.int .i64 (j-i:Nat)),none⟩)])⟩,_,60,⟨[],[0,1,2,3,4,10,11],[0,1]⟩,[((↑i:Int) !=(↑j:Int))=true,
 decide ((↑i:Int)>↑j)=true,
 (i64.min:Int)≤↑m-↑i,
 (↑m-↑i:Int)≤i64.max,
 (↑m-↑i:Int)=↑(m-i),
 ((z0_ D:List AV))=(z0_ (z5_ (z0_ D))),
 (((z5_ (z0_ D)).length:Nat))=(n),
 ((n:Nat)≤((255:Nat))),
 (0:Int)≤↑(m-i),
 (0:Int)≤↑j,
 (↑(m-i)+↑j:Int)≤↑m,
 (↑m+↑j:Int)≤↑n,
 (i64.min:Int)≤↑i-↑j,
 (↑i-↑j:Int)≤i64.max,
 (↑i-↑j:Int)=↑(i-j)],y4_,by decide,Eq.trans (b:=some ((.normal:Exit),⟨frame 58 [(0,(AV.sl 0 0 n)),(1,(AV.c ((Value.int .i64 ((↑a:Int)))))),(2,(AV.c ((Value.int .i64 ((↑m:Int)))))),(3,(AV.c ((Value.int .i64 ((↑b:Int)))))),(4,(AV.fn 73 [(AV.pt 1 0)])),(10,(AV.c ((Value.int .i64 ((↑(i-j):Int)))))),(11,(AV.c ((Value.int .i64 ((↑j:Int))))))],[(.some ⟨3,false,(z0_ (swD (z5_ (z0_ D)) (m-i) m j))⟩),
 (.some ⟨27,true,[(AV.fs 1 k C)]⟩)]⟩,_)) (by kernel_rfl) (congrArg (fun S:St=>some ((.normal:Exit),S,_)) (by first|rfl|(simp(disch:=omega) only[std,hu];first|done|rfl))),?_⟩
  all_goals try simp(disch:=omega) only[std,hu]
  all_goals repeat' apply And.intro
  all_goals first|exact True.intro|omega|with_reducible (first|rfl|assumption)|exact hD|exact hu|rfl
theorem rtB_all (D:List Nat)(n k a m b i j:Nat)(C:List AV)(hij:i<j)(hn:n≤255)(hD:D.length=n)(him:i≤m)(hj:m+j≤n)(hu:z5_ (z0_ D)=D):x9_ 2 p_ clSw (z1_ p_ 85 2) (rtS D n k a m b i j C) (.normal) (rtS (swD D (m-i) (m+j-i) i) n k a m b i (j-i) C):=by
  refine⟨⟨true,(bs [(20,true),(23,false)]++[(27,⟨.c (.int .i64 (m-i:Nat)),none⟩),(34,⟨.c (.int .i64 (i-j:Nat)),none⟩),(38,⟨.c (.int .i64 (m-i:Nat)),none⟩),(41,⟨.c (.int .i64 (m+j:Nat)),none⟩),(43,⟨.c (.int .i64 (m+j-i:Nat)),none⟩),(49,⟨.c (.int .i64 (j-i:Nat)),none⟩)])⟩,_,60,⟨[],[0,1,2,3,4,10,11],[0,1]⟩,[((↑i:Int) !=(↑j:Int))=true,
 decide ((↑i:Int)>↑j)=false,
 (i64.min:Int)≤↑m-↑i,
 (↑m-↑i:Int)≤i64.max,
 (↑m-↑i:Int)=↑(m-i),
 (i64.min:Int)≤↑m+↑j,
 (↑m+↑j:Int)≤i64.max,
 (↑m+↑j:Int)=↑(m+j),
 (i64.min:Int)≤↑(m+j)-↑i,
 (↑(m+j)-↑i:Int)≤i64.max,
 (↑(m+j)-↑i:Int)=↑(m+j-i),
 ((z0_ D:List AV))=(z0_ (z5_ (z0_ D))),
 (((z5_ (z0_ D)).length:Nat))=(n),
 ((n:Nat)≤((255:Nat))),
 (0:Int)≤↑(m-i),
 (0:Int)≤↑i,
 (↑(m-i)+↑i:Int)≤↑(m+j-i),
 (↑(m+j-i)+↑i:Int)≤↑n,
 (i64.min:Int)≤↑j-↑i,
 (↑j-↑i:Int)≤i64.max,
 (↑j-↑i:Int)=↑(j-i)],y4_,by decide,Eq.trans (b:=some ((.normal:Exit),⟨frame 58 [(0,(AV.sl 0 0 n)),(1,(AV.c ((Value.int .i64 ((↑a:Int)))))),(2,(AV.c ((Value.int .i64 ((↑m:Int)))))),(3,(AV.c ((Value.int .i64 ((↑b:Int)))))),(4,(AV.fn 73 [(AV.pt 1 0)])),(10,(AV.c ((Value.int .i64 ((↑i:Int)))))),(11,(AV.c ((Value.int .i64 ((↑(j-i):Int))))))],[(.some ⟨3,false,(z0_ (swD (z5_ (z0_ D)) (m-i) (m+j-i) i))⟩),
 (.some ⟨27,true,[(AV.fs 1 k C)]⟩)]⟩,_)) (by kernel_rfl) (congrArg (fun S:St=>some ((.normal:Exit),S,_)) (by first|rfl|(simp(disch:=omega) only[std,hu];first|done|rfl))),?_⟩
  all_goals try simp(disch:=omega) only[std,hu]
  all_goals repeat' apply And.intro
  all_goals first|exact True.intro|omega|with_reducible (first|rfl|assumption)|exact hD|exact hu|rfl
theorem rtZ_all (D:List Nat)(n k a m b i j:Nat)(C:List AV)(hij:i=j)(hn:n≤255)(hD:D.length=n)(him:i≤m)(hj:m+j≤n)(hu:z5_ (z0_ D)=D):x9_ 2 p_ clSw (z1_ p_ 85 2) (rtS D n k a m b i j C) (.exit 0) (rtS D n k a m b i j C):=by
  refine⟨⟨true,(bs [(20,false)]++[(27,⟨.c (.int .i64 (m-i:Nat)),none⟩),(34,⟨.c (.int .i64 (i-j:Nat)),none⟩),(38,⟨.c (.int .i64 (m-i:Nat)),none⟩),(41,⟨.c (.int .i64 (m+j:Nat)),none⟩),(43,⟨.c (.int .i64 (m+j-i:Nat)),none⟩),(49,⟨.c (.int .i64 (j-i:Nat)),none⟩)])⟩,_,60,⟨[],[0,1,2,3,4,10,11],[0,1]⟩,[((↑i:Int) !=(↑j:Int))=false],y4_,by decide,by kernel_rfl,?_⟩
  all_goals try simp(disch:=omega) only[std,hu]
  all_goals repeat' apply And.intro
  all_goals first|exact True.intro|omega|with_reducible (first|rfl|assumption)|exact hij|exact hD|exact hu|rfl
def rotG (m:Nat):Nat→List Nat→Nat→Nat→List Nat×Nat
  |0,D,i,j=>(D,i)
  |f+1,D,i,j=>if i=j then(D,i)else if j<i then rotG m f (swD D (m-i) m j) (i-j) j else rotG m f (swD D (m-i) (m+j-i) i) i (j-i)
theorem rotG_is:∀(f m i j:Nat) (P U V Q:List Nat),U.length=i→V.length=j→P.length+i=m→i+j≤f→0<i→0<j→
    ∃D' g,rotG m f (P++(U++(V++Q))) i j=(D',g)∧D'.length=P.length+i+j+Q.length∧g≤i∧g≤j∧swD D' (m-g) m g=P++(V++(U++Q))
  |0,m,i,j,P,U,V,Q,h1,h2,h3,h4,h5,h6=>by omega
  |f+1,m,i,j,P,U,V,Q,h1,h2,h3,h4,h5,h6=>by
   unfold rotG
   by_cases hij:i=j
   ·rw[if_pos hij]
    refine⟨_,_,rfl,by simp only[List.length_append];omega,Nat.le_refl _,by omega,?_⟩
    have:=exch_is P U [] V Q (by omega)
    rw[exch_all (by omega)]at this
    rw[show m-i=P.length by omega,show m=P.length+U.length+([]:List Nat).length by simp;omega,←h1]
    exact this
   ·rw[if_neg hij]
    by_cases hlt:j<i
    ·rw[if_pos hlt]
     obtain⟨U1,U2,rfl,hU1⟩:∃U1 U2,U=U1++U2∧U1.length=j:=⟨U.take j,U.drop j,(List.take_append_drop j U).symm,by rw[List.length_take];omega⟩
     rw[List.length_append]at h1
     have:=exch_is P U1 U2 V Q (by omega)
     rw[exch_all (by omega)]at this
     have e:swD (P++(U1++U2++(V++Q))) (m-i) m j=(P++V)++(U2++(U1++Q)):=by
       rw[show m-i=P.length by omega,show m=P.length+U1.length+U2.length by omega,←hU1,List.append_assoc U1,this,List.append_assoc]
     rw[e]
     obtain⟨D',g,k1,k2,k3,k4,k5⟩:=rotG_is f m (i-j) j (P++V) U2 U1 Q (by omega) hU1 (by rw[List.length_append];omega) (by omega) (by omega) h6
     rw[List.length_append]at k2
     exact⟨D',g,k1,by omega,by omega,k4,by rw[k5];simp⟩
    ·rw[if_neg hlt]
     obtain⟨V1,V2,rfl,hV2⟩:∃V1 V2,V=V1++V2∧V2.length=i:=⟨V.take (j-i),V.drop (j-i),(List.take_append_drop _ V).symm,by rw[List.length_drop];omega⟩
     rw[List.length_append]at h2
     have:=exch_is P U V1 V2 Q (by omega)
     rw[exch_all (by omega)]at this
     have e:swD (P++(U++(V1++V2++Q))) (m-i) (m+j-i) i=P++(V2++(V1++(U++Q))):=by
       rw[show m-i=P.length by omega,show m+j-i=P.length+U.length+V1.length by omega,←h1,List.append_assoc V1,this]
     rw[e]
     obtain⟨D',g,k1,k2,k3,k4,k5⟩:=rotG_is f m i (j-i) P V2 V1 (U++Q) hV2 (by omega) h3 (by omega) h5 (by omega)
     rw[List.length_append]at k2
     exact⟨D',g,k1,by omega,k3,by omega,by rw[k5];simp⟩
theorem swD_len (D:List Nat){a b c:Nat}(h1:a+c≤b)(h2:b+c≤D.length):(swD D a b c).length=D.length:=by
  unfold swD
  simp only[List.length_append,List.length_take,List.length_drop]
  rw[f9_ D (by omega),f9_ D (by omega),f9_ D (by omega)]
  omega
theorem rt_walk (n k a m b:Nat)(C:List AV)(hn:n≤255)(f0:Nat)(D0:List Nat)(i0 j0:Nat)(h0:D0.length=n)(h1:i0+j0≤f0)(h2:0<i0)(h3:0<j0)(h4:i0≤m)(h5:m+j0≤n):
    Tri (ExtK 2) p_ (.loop (z1_ p_ 85 2)) (rtS D0 n k a m b i0 j0 C) (.exit 0) (rtS (rotG m f0 D0 i0 j0).1 n k a m b (rotG m f0 D0 i0 j0).2 (rotG m f0 D0 i0 j0).2 C):=by
  obtain⟨G,hG⟩:∃G,rotG m f0 D0 i0 j0=G:=⟨_,rfl⟩
  rw[hG]
  refine i1_ mixed clSw_ok (fun x:Nat×List Nat×Nat×Nat=>rtS x.2.1 n k a m b x.2.2.1 x.2.2.2 C) (fun x=>(x.2.1.length=n∧rotG m x.1 x.2.1 x.2.2.1 x.2.2.2=G)∧(x.2.2.1+x.2.2.2≤x.1∧0<x.2.2.1∧0<x.2.2.2)∧x.2.2.1≤m∧m+x.2.2.2≤n) (fun x=>x.1) (fun x hx=>?_) (f0,D0,i0,j0) ⟨⟨h0,hG⟩,⟨h1,h2,h3⟩,h4,h5⟩
  obtain⟨f,D,i,j⟩:=x
  obtain⟨⟨g0,g1⟩,⟨g2,g3,g4⟩,g5,g6⟩:=hx
  simp only at g0 g1 g2 g3 g4 g5 g6 ⊢
  obtain⟨f,rfl⟩:∃e,f=e+1:=⟨f-1,by omega⟩
  unfold rotG at g1
  by_cases hij:i=j
  ·rw[if_pos hij]at g1
   rw[←g1]
   subst hij
   exact .inr ⟨by simp,rtZ_all D n k a m b i i C rfl hn g0 g5 g6 (w9_ D)⟩
  ·rw[if_neg hij]at g1
   by_cases hlt:j<i
   ·rw[if_pos hlt]at g1
    exact .inl ⟨(f,swD D (m-i) m j,i-j,j),⟨⟨(swD_len D (by omega) (by omega)).trans g0,g1⟩,⟨by simp only;omega,by simp only;omega,g4⟩,by simp only;omega,g6⟩,by simp,rtA_all D n k a m b i j C hlt hn g0 g5 g6 (w9_ D)⟩
   ·rw[if_neg hlt]at g1
    exact .inl ⟨(f,swD D (m-i) (m+j-i) i,i,j-i),⟨⟨(swD_len D (by omega) (by omega)).trans g0,g1⟩,⟨by simp only;omega,g3,by simp only;omega⟩,g5,by simp only;omega⟩,by simp,rtB_all D n k a m b i j C (by omega) hn g0 g5 g6 (w9_ D)⟩
noncomputable def rtLp (D D2:List Nat)(n k a m b i j g:Nat)(C:List AV):List (Nat×Lp):=[(2,⟨z1_ p_ 85 2,⟨[],[0,1,2,3,4,10,11],[0,1]⟩,rtS D n k a m b i j C,.exit 0,rtS D2 n k a m b g g C⟩)]
theorem rtb_all (D D2:List Nat)(n k a m b g:Nat)(C:List AV)(hn:n≤255)(h1:a≤m)(h2:m≤b)(h3:b≤n)(hD:D2.length=n)(hg:g≤m)(hg2:m+g≤n)(hu:z5_ (z0_ D2)=D2):∃(h:Hints) (p:List Prop),y5_ [] (z8_ p_ clSw h (y1_ (rtLp D D2 n k a m b (m-a) (b-m) g C)) 60 85 ([.sl 0 0 n,.c (.int .i64 a),.c (.int .i64 m),.c (.int .i64 b),srF]) (srH D k C))=some (.tu [],srH (swD D2 (m-g) m g) k C,p)∧z7_ p:=by
  refine⟨⟨true,([(14,⟨.c (.int .i64 (m-a:Nat)),none⟩),(17,⟨.c (.int .i64 (b-m:Nat)),none⟩),(53,⟨.c (.int .i64 (m-g:Nat)),none⟩)])⟩,[(i64.min:Int)≤↑m-↑a,
 (↑m-↑a:Int)≤i64.max,
 (↑m-↑a:Int)=↑(m-a),
 (i64.min:Int)≤↑b-↑m,
 (↑b-↑m:Int)≤i64.max,
 (↑b-↑m:Int)=↑(b-m),
 ((z1_ p_ (85:FuncId) (2:Nat):Go.Code))=(z1_ p_ (85:FuncId) (2:Nat)),
 ((rtS D n k a m b (m-a) (b-m) C:St))=(rtS D n k a m b (m-a) (b-m) C),
 (i64.min:Int)≤↑m-↑g,
 (↑m-↑g:Int)≤i64.max,
 (↑m-↑g:Int)=↑(m-g),
 ((z0_ D2:List AV))=(z0_ (z5_ (z0_ D2))),
 (((z5_ (z0_ D2)).length:Nat))=(n),
 ((n:Nat)≤((255:Nat))),
 (0:Int)≤↑(m-g),
 (0:Int)≤↑g,
 (↑(m-g)+↑g:Int)≤↑m,
 (↑m+↑g:Int)≤↑n],Eq.trans (b:=some ((AV.tu []),[(.some ⟨3,false,(z0_ (swD (z5_ (z0_ D2)) (m-g) m g))⟩),
 (.some ⟨27,true,[(AV.fs 1 k C)]⟩)],_)) (by kernel_rfl) (congrArg (fun r:AV×Heap=>some (r.1,r.2,_)) (a₁:=(_,_)) (a₂:=(_,_)) (by first|rfl|(simp(disch:=omega) only[std,hu];first|done|rfl))),?_⟩
  all_goals try simp(disch:=omega) only[std,hu]
  all_goals repeat' apply And.intro
  all_goals first|exact True.intro|omega|with_reducible (first|rfl|assumption)|exact hD|exact hu|rfl
def u6_ (D:List Nat)(a m b:Nat):List Nat:=put D a b (seg D m b++seg D a m)
def rotSpec:HSpec
  | [.sl 0 0 n,.c (.int .i64 a),.c (.int .i64 m),.c (.int .i64 b),.fn f [.pt 1 0]],[some ⟨t,false,C⟩,some ⟨t2,true,[.fs s k l]⟩]=>if(t=3∧t2=27)∧(f=73∧s=1)then
      some (.tu [],srH (u6_ (z5_ C) a.toNat m.toNat b.toNat) k l,[C=z0_ (z5_ C),(z5_ C).length=n,n≤255,0≤a,a<m,m<b,b≤n])else none
  |_,_=>none
theorem rot_ok:u0_ p_ 85 rotSpec:=by
  refine zb0_ mixed clSw_ok fun args hp r hp' q hs hq=>?_
  unfold rotSpec at hs
  split at hs
  ·rename_i n a m b f t C t2 s k l
   split at hs
   ·rename_i hc
    obtain⟨⟨rfl,rfl⟩,rfl,rfl⟩:=hc
    simp only[oi_]at hs
    obtain⟨rfl,rfl,rfl⟩:=hs
    obtain⟨h1,h2,h3,h4,h5,h6,h7,_⟩:=hq
    obtain⟨a,rfl⟩:∃k:Nat,a=(k:Int):=⟨a.toNat,by omega⟩
    obtain⟨m,rfl⟩:∃k:Nat,m=(k:Int):=⟨m.toNat,by omega⟩
    obtain⟨b,rfl⟩:∃k:Nat,b=(k:Int):=⟨b.toNat,by omega⟩
    simp only[Int.toNat_natCast]
    generalize z5_ C=D at*
    subst h1
    obtain⟨D',g,k1,k2,k3,k4,k5⟩:=rotG_is (m-a+(b-m)) m (m-a) (b-m) (D.take a) (seg D a m) (seg D m b) (D.drop b) (f9_ D (by omega)) (f9_ D (by omega)) (by rw[List.length_take];omega) (Nat.le_refl _) (by omega) (by omega)
    have eD:D.take a++(seg D a m++(seg D m b++D.drop b))=D:=by
      have e1:=seg_put D (a:=a) (b:=m) (by omega)
      have e2:seg D m b++D.drop b=D.drop m:=by
        have:=congrArg (List.drop m) (seg_put D (a:=m) (b:=b) (by omega))
        unfold put at this
        rw[List.drop_append_of_le_length (by rw[List.length_take];omega),List.drop_of_length_le (by rw[List.length_take];omega),List.nil_append]at this
        exact this
      rw[e2];exact e1
    rw[eD]at k1
    rw[List.length_take,List.length_drop]at k2
    have w:=rt_walk n k a m b l h3 (m-a+(b-m)) D (m-a) (b-m) h2 (Nat.le_refl _) (by omega) (by omega) (by omega) (by omega)
    rw[k1]at w
    have eR:u6_ D a m b=swD D' (m-g) m g:=by
      rw[k5];unfold u6_ put;rw[List.append_assoc]
    rw[eR]
    obtain⟨hh,p,e,hp⟩:=rtb_all D D' n k a m b g l h3 (by omega) (by omega) (by omega) (by omega) (by omega) (by omega) (w9_ D')
    exact⟨_,_,_,_,_,s2_ y4_ kp2 w,e,hp⟩
   ·simp at hs
  ·simp at hs
end Go.Proofs.YtmjldphagbobpaaDoor
namespace Go.Proofs.YtmjldphagbobpaaDoor
open IntKind (i64 u8 i32 u32 u64)
open _root_.Go.Proofs.Tryd renaming prog→p_
open Go.RowKit Srt
def x2_ (L:List Int)(i:Nat):Int:=L.getD i 0
def BdR (D:List Nat)(k:Nat):Prop:=∀z∈D,z<k
def inS (D:List Nat)(n a b i j:Nat)(L:List Int):St:=⟨frame 53 [(0,.sl 0 0 n),(1,.c (.int .i64 a)),(2,.c (.int .i64 b)),(3,srF),(8,.c (.int .i64 i)),(9,.c (.int .i64 j))],srH D L.length (z2_ L)⟩
def isO (D:List Nat)(n a b i:Nat)(L:List Int):St:=⟨frame 53 [(0,.sl 0 0 n),(1,.c (.int .i64 a)),(2,.c (.int .i64 b)),(3,srF),(8,.c (.int .i64 i))],srH D L.length (z2_ L)⟩
theorem inA_all (D D1 D2:List Nat)(n a b i j x y:Nat)(z:Int)(L:List Int)(hja:a<j)(hz0:z<0)(hn:n≤255)(hj:j<n)(hx:y0_ (((z0_ D).drop j).headD .any) (.c (.int .i64 x)))(hy:y0_ (((z0_ D).drop (j-1)).headD .any) (.c (.int .i64 y)))(hz:L.getD x 0-L.getD y 0=z)(hxl:x<L.length)(hyl:y<L.length)(hsm:SmI L)(hs1:(z0_ D).take j++[.c (.int .i64 y)]++(z0_ D).drop (j+1)=z0_ D1)(hs2:(z0_ D1).take (j-1)++[.c (.int .i64 x)]++(z0_ D1).drop (j-1+1)=z0_ D2)(hD:(z0_ D).length=n)(hD1:(z0_ D1).length=n):x9_ 2 p_ c7_ (z1_ p_ 83 4) (inS D n a b i j L) (.normal) (inS D2 n a b i (j-1) L):=by
  refine⟨⟨true,(bs [(20,true),(33,true)]++[(26,⟨.c (.int .i64 x),none⟩),(29,⟨.c (.int .i64 (j-1:Nat)),none⟩),(31,⟨.c (.int .i64 y),none⟩),(32,⟨.c (.int .i64 z),none⟩),(41,⟨.c (.int .i64 (j-1:Nat)),none⟩),(44,⟨.c (.int .i64 (j-1:Nat)),none⟩),(46,⟨.c (.int .i64 y),none⟩),(50,⟨.c (.int .i64 x),none⟩),(100051,⟨.any,some (z0_ D1)⟩),(100052,⟨.any,some (z0_ D2)⟩),(36,⟨.c (.int .i64 (j-1:Nat)),none⟩)])⟩,_,60,⟨[],[0,1,2,3,8,9],[0,1]⟩,[decide ((↑j:Int)>↑a)=true,
 (0:Int)≤↑j,
 (↑j:Int)<↑n,
 (((0:Nat):Nat)<((List.drop (j+(0:Nat)) (z0_ D)).length)),
 y0_ ((List.drop (j+(0:Nat)) (z0_ D)).headD AV.any) ((AV.c ((Value.int .i64 ((↑x:Int)))))),
 (i64.min:Int)≤↑j-1,
 (↑j-1:Int)≤i64.max,
 (↑j-1:Int)=↑(j-1),
 (0:Int)≤↑(j-1),
 (↑(j-1):Int)<↑n,
 (((0:Nat):Nat)<((List.drop (j-(1:Nat)+(0:Nat)) (z0_ D)).length)),
 y0_ ((List.drop (j-(1:Nat)+(0:Nat)) (z0_ D)).headD AV.any) ((AV.c ((Value.int .i64 ((↑y:Int)))))),
 (((1:Nat):Nat))=((1:Nat)),
 ((z2_ L:List AV))=(z2_ (unI (z2_ L))),
 ((L.length:Nat))=((unI (z2_ L)).length),
 SmI (unI (z2_ L)),
 (0:Int)≤↑x,
 (↑x:Int)<↑L.length,
 (0:Int)≤↑y,
 (↑y:Int)<↑L.length,
 (s9_ [] (AV.c (Value.int IntKind.i64 ((unI (z2_ L)).getD x (0:Int)-(unI (z2_ L)).getD y (0:Int)))))=true,
 (((unI (z2_ L)).getD x (0:Int)-(unI (z2_ L)).getD y (0:Int):Int))=(z),
 decide ((z:Int)<0)=true,
 (i64.min:Int)≤↑j-1,
 (↑j-1:Int)≤i64.max,
 (↑j-1:Int)=↑(j-1),
 (i64.min:Int)≤↑j-1,
 (↑j-1:Int)≤i64.max,
 (↑j-1:Int)=↑(j-1),
 (0:Int)≤↑(j-1),
 (↑(j-1):Int)<↑n,
 (((0:Nat):Nat)<((List.drop (j-(1:Nat)+(0:Nat)) (z0_ D)).length)),
 y0_ ((List.drop (j-(1:Nat)+(0:Nat)) (z0_ D)).headD AV.any) ((AV.c ((Value.int .i64 ((↑y:Int)))))),
 (0:Int)≤↑j,
 (↑j:Int)<↑n,
 (((0:Nat):Nat)<((List.drop (j+(0:Nat)) (z0_ D)).length)),
 y0_ ((List.drop (j+(0:Nat)) (z0_ D)).headD AV.any) ((AV.c ((Value.int .i64 ((↑x:Int)))))),
 (0:Int)≤↑j,
 (↑j:Int)<↑n,
 ((j+(0:Nat)+(1:Nat):Nat)≤((z0_ D).length)),
 y0_ (AV.any) (AV.any),
 ((List.take (j+(0:Nat)) (z0_ D)++[AV.c (Value.int IntKind.i64 (↑y:Int))]++List.drop (j+(0:Nat)+(1:Nat)) (z0_ D):List AV))=(z0_ D1),
 (0:Int)≤↑(j-1),
 (↑(j-1):Int)<↑n,
 ((j-(1:Nat)+(0:Nat)+(1:Nat):Nat)≤((z0_ D1).length)),
 y0_ (AV.any) (AV.any),
 ((List.take (j-(1:Nat)+(0:Nat)) (z0_ D1)++[AV.c (Value.int IntKind.i64 (↑x:Int))]++List.drop (j-(1:Nat)+(0:Nat)+(1:Nat)) (z0_ D1):List AV))=(z0_ D2),
 (i64.min:Int)≤↑j-1,
 (↑j-1:Int)≤i64.max,
 (↑j-1:Int)=↑(j-1)],y4_,by decide,by kernel_rfl,?_⟩
  all_goals try simp(disch:=omega) only[std,List.length_drop,hD,hD1,v8_]
  all_goals repeat' apply And.intro
  all_goals first|exact True.intro|omega|with_reducible (first|rfl|assumption)|exact hx|exact hy|exact hs1|exact hs2|exact hz|exact hsm|exact hD|exact hD1|rfl
theorem inY_all (D D1 D2:List Nat)(n a b i j x y:Nat)(z:Int)(L:List Int)(hja:a<j)(hz0:¬z<0)(hn:n≤255)(hj:j<n)(hx:y0_ (((z0_ D).drop j).headD .any) (.c (.int .i64 x)))(hy:y0_ (((z0_ D).drop (j-1)).headD .any) (.c (.int .i64 y)))(hz:L.getD x 0-L.getD y 0=z)(hxl:x<L.length)(hyl:y<L.length)(hsm:SmI L)(hs1:(z0_ D).take j++[.c (.int .i64 y)]++(z0_ D).drop (j+1)=z0_ D1)(hs2:(z0_ D1).take (j-1)++[.c (.int .i64 x)]++(z0_ D1).drop (j-1+1)=z0_ D2)(hD:(z0_ D).length=n)(hD1:(z0_ D1).length=n):x9_ 2 p_ c7_ (z1_ p_ 83 4) (inS D n a b i j L) (.exit 2) (isO D n a b i L):=by
  refine⟨⟨true,(bs [(20,true),(33,false)]++[(26,⟨.c (.int .i64 x),none⟩),(29,⟨.c (.int .i64 (j-1:Nat)),none⟩),(31,⟨.c (.int .i64 y),none⟩),(32,⟨.c (.int .i64 z),none⟩),(41,⟨.c (.int .i64 (j-1:Nat)),none⟩),(44,⟨.c (.int .i64 (j-1:Nat)),none⟩),(46,⟨.c (.int .i64 y),none⟩),(50,⟨.c (.int .i64 x),none⟩),(100051,⟨.any,some (z0_ D1)⟩),(100052,⟨.any,some (z0_ D2)⟩),(36,⟨.c (.int .i64 (j-1:Nat)),none⟩)])⟩,_,60,⟨[],[0,1,2,3,8],[0,1]⟩,[decide ((↑j:Int)>↑a)=true,
 (0:Int)≤↑j,
 (↑j:Int)<↑n,
 (((0:Nat):Nat)<((List.drop (j+(0:Nat)) (z0_ D)).length)),
 y0_ ((List.drop (j+(0:Nat)) (z0_ D)).headD AV.any) ((AV.c ((Value.int .i64 ((↑x:Int)))))),
 (i64.min:Int)≤↑j-1,
 (↑j-1:Int)≤i64.max,
 (↑j-1:Int)=↑(j-1),
 (0:Int)≤↑(j-1),
 (↑(j-1):Int)<↑n,
 (((0:Nat):Nat)<((List.drop (j-(1:Nat)+(0:Nat)) (z0_ D)).length)),
 y0_ ((List.drop (j-(1:Nat)+(0:Nat)) (z0_ D)).headD AV.any) ((AV.c ((Value.int .i64 ((↑y:Int)))))),
 (((1:Nat):Nat))=((1:Nat)),
 ((z2_ L:List AV))=(z2_ (unI (z2_ L))),
 ((L.length:Nat))=((unI (z2_ L)).length),
 SmI (unI (z2_ L)),
 (0:Int)≤↑x,
 (↑x:Int)<↑L.length,
 (0:Int)≤↑y,
 (↑y:Int)<↑L.length,
 (s9_ [] (AV.c (Value.int IntKind.i64 ((unI (z2_ L)).getD x (0:Int)-(unI (z2_ L)).getD y (0:Int)))))=true,
 (((unI (z2_ L)).getD x (0:Int)-(unI (z2_ L)).getD y (0:Int):Int))=(z),
 decide ((z:Int)<0)=false],y4_,by decide,by kernel_rfl,?_⟩
  all_goals try simp(disch:=omega) only[std,List.length_drop,hD,hD1,v8_]
  all_goals repeat' apply And.intro
  all_goals first|exact True.intro|omega|with_reducible (first|rfl|assumption)|exact hx|exact hy|exact hs1|exact hs2|exact hz|exact hsm|exact hD|exact hD1|rfl
theorem inZ_all (D:List Nat)(n a b i j:Nat)(L:List Int)(hja:j=a):x9_ 2 p_ c7_ (z1_ p_ 83 4) (inS D n a b i j L) (.exit 2) (isO D n a b i L):=by
  refine⟨⟨true,(bs [(20,false)])⟩,_,60,⟨[],[0,1,2,3,8],[0,1]⟩,[decide ((↑j:Int)>↑a)=false],y4_,by decide,by kernel_rfl,?_⟩
  all_goals try simp(disch:=omega) only[std]
  all_goals repeat' apply And.intro
  all_goals first|exact True.intro|omega|with_reducible (first|rfl|assumption)|exact hja|rfl
theorem in_walk (P T R:List Nat)(y:Nat)(b i:Nat)(L:List Int){n:Nat}(hn:P.length+T.length+1+R.length=n)(hn2:n≤255)(hT:Sor (x2_ L) T)(hlt:∀z∈T,z<y)(hsm:SmI L)(hbT:BdR T L.length)(hby:y<L.length):
    Tri (ExtK 2) p_ (.loop (z1_ p_ 83 4)) (inS (hop P T y R T.length) n P.length b i (P.length+T.length) L) (.exit 2) (isO (P++(so (x2_ L) (T++[y])++R)) n P.length b i L):=by
  have fin:∀u,u≤T.length→(∀i,u≤i→i<T.length→x2_ L y<x2_ L (T.getD i 0))→(u=0∨¬x2_ L y<x2_ L (T.getD (u-1) 0))→hop P T y R u=P++(so (x2_ L) (T++[y])++R):=by
    intro u hu h1 h2
    rw[hop_put]
    congr 2
    refine so_ins (by rw[List.take_append_drop];exact hT) (fun s hs=>?_) (fun s hs=>?_) (by rw[List.take_append_drop];exact(List.perm_append_singleton y T).symm)
    ·obtain⟨k,hk,rfl⟩:=j0_ hs
     have hm:=hlt _ (List.mem_of_mem_take hs)
     rw[List.length_take]at hk
     rw[getD_take (by omega)]at hm ⊢
     have:=d9_ hT (i:=k) (j:=u-1) (by omega) (by omega)
     have h2:=h2.resolve_left (by omega)
     rw[i3_];omega
    ·obtain⟨k,hk,rfl⟩:=j0_ hs
     rw[List.length_drop]at hk
     rw[getD_drop]
     have:=h1 (u+k) (by omega) (by omega)
     rw[i3_];omega
  refine i1_ mixed clCm_ok (fun u:Nat=>inS (hop P T y R u) n P.length b i (P.length+u) L) (fun u=>u≤T.length∧∀i,u≤i→i<T.length→x2_ L y<x2_ L (T.getD i 0)) (fun u=>u) (fun u hu=>?_) T.length ⟨Nat.le_refl _,fun i h1 h2=>by omega⟩
  obtain⟨h1,h2⟩:=hu
  have hl:=hop_len P T y R u
  have hD:(z0_ (hop P T y R u)).length=n:=by rw[y7_];omega
  have ey:=hop_at (P:=P) (U:=T) (R:=R) (y:=y) h1 rfl
  cases u with
  |zero=>
   rw[←fin 0 h1 h2 (.inl rfl)]
   exact .inr ⟨by simp,inZ_all (hop P T y R 0) n P.length b i (P.length+0) L rfl⟩
  |succ v=>
   have ex:=hop_back (P:=P) (U:=T) (R:=R) (y:=y) (u:=v) (i:=P.length+(v+1)-1) (by omega) (by omega)
   have hbv:T.getD v 0<L.length:=hbT _ (by
     have e:T.getD v 0=T[v]:=by simp[List.getD,show v<T.length by omega]
     rw[e];exact List.getElem_mem _)
   have hst:=hop_down (P:=P) (U:=T) (R:=R) (y:=y) (u:=v) (i:=P.length+v) (by omega) rfl
   have hst2:(z0_ ((hop P T y R (v+1)).set (P.length+v+1) (T.getD v 0))).take (P.length+v)++[.c (.int .i64 y)]++(z0_ ((hop P T y R (v+1)).set (P.length+v+1) (T.getD v 0))).drop (P.length+v+1)=z0_ (hop P T y R v):=by
     rw[g3_ _ _ _ (by rw[List.length_set];omega),hst]
   by_cases hlt2:x2_ L y<x2_ L (T.getD v 0)
   ·refine .inl ⟨v,⟨by omega,fun i h3 h4=>?_⟩,by omega,?_⟩
    ·rcases Nat.eq_or_lt_of_le h3 with rfl|h3
     ·exact hlt2
     ·exact h2 i h3 h4
    ·exact inA_all (hop P T y R (v+1)) ((hop P T y R (v+1)).set (P.length+v+1) (T.getD v 0)) (hop P T y R v) n P.length b i (P.length+(v+1)) y (T.getD v 0) _ L (by omega) (by have:L.getD y 0<L.getD (T.getD v 0) 0:=hlt2;omega) hn2 (by omega) (r3_ (by omega) ey) (r3_ (by omega) ex) rfl hby hbv hsm (g3_ _ _ _ (by omega)) (hst2) hD (by rw[y7_,List.length_set];omega)
   ·rw[←fin (v+1) h1 h2 (.inr hlt2)]
    exact .inr ⟨by simp,inY_all (hop P T y R (v+1)) ((hop P T y R (v+1)).set (P.length+v+1) (T.getD v 0)) (hop P T y R v) n P.length b i (P.length+(v+1)) y (T.getD v 0) _ L (by omega) (by have:¬L.getD y 0<L.getD (T.getD v 0) 0:=hlt2;omega) hn2 (by omega) (r3_ (by omega) ey) (r3_ (by omega) ex) rfl hby hbv hsm (g3_ _ _ _ (by omega)) (hst2) hD (by rw[y7_,List.length_set];omega)⟩
noncomputable def inLp (D D2:List Nat)(n a b i:Nat)(L:List Int):List (Nat×Lp):=[(4,⟨z1_ p_ 83 4,⟨[],[0,1,2,3,8,9],[0,1]⟩,inS D n a b i i L,.exit 2,isO D2 n a b i L⟩)]
theorem isA_all (D D2:List Nat)(n a b i:Nat)(L:List Int)(hi:i<b)(hlp:q3_ (ExtK 2) p_ (y1_ (inLp D D2 n a b i L)))(hn:n≤255)(hb:b≤n):x9_ 2 p_ c7_ (z1_ p_ 83 1) (isO D n a b i L) (.normal) (isO D2 n a b (i+1) L):=by
  refine⟨⟨true,(bs [(14,true)])⟩,_,60,⟨[],[0,1,2,3,8],[0,1]⟩,[decide ((↑i:Int)<↑b)=true,
 ((z1_ p_ (83:FuncId) (4:Nat):Go.Code))=(z1_ p_ (83:FuncId) (4:Nat)),
 ((inS D n a b i i L:St))=(inS D n a b i i L),
 (i64.min:Int)≤↑i+1,
 (↑i+1:Int)≤i64.max],hlp,by decide,by kernel_rfl,?_⟩
  all_goals try simp(disch:=omega) only[std]
  all_goals repeat' apply And.intro
  all_goals first|exact True.intro|omega|with_reducible (first|rfl|assumption)|exact hlp|rfl
theorem isZ_all (D D2:List Nat)(n a b i:Nat)(L:List Int)(hi:¬i<b)(hn:n≤255)(hb:b≤n):x9_ 2 p_ c7_ (z1_ p_ 83 1) (isO D n a b i L) (.exit 0) (isO D n a b i L):=by
  refine⟨⟨true,(bs [(14,false)])⟩,_,60,⟨[],[0,1,2,3,8],[0,1]⟩,[decide ((↑i:Int)<↑b)=false],y4_,by decide,by kernel_rfl,?_⟩
  all_goals try simp(disch:=omega) only[std]
  all_goals repeat' apply And.intro
  all_goals first|exact True.intro|omega|with_reducible (first|rfl|assumption)|rfl
theorem take_snoc {l:List Nat}{k:Nat}(h:k<l.length):l.take (k+1)=l.take k++[l.getD k 0]:=by
  rw[List.take_add_one];simp[List.getD,h]
theorem drop_step {l:List Nat}{k:Nat}(h:k<l.length):l.drop k=l.getD k 0::l.drop (k+1):=by
  rw[List.drop_eq_getElem_cons h];simp[List.getD,h]
theorem inc_take {X:List Nat}(h:X.Pairwise (· < ·)){k:Nat}(hk:k<X.length):∀z∈X.take k,z<X.getD k 0:=by
  intro z hz
  obtain⟨i,hi,rfl⟩:=j0_ hz
  rw[List.length_take]at hi
  rw[getD_take (by omega)]
  have:=List.pairwise_iff_getElem.1 h i k (by omega) hk (by omega)
  simpa [List.getD,show i<X.length by omega,hk]using this
theorem is_walk (P X Q:List Nat)(L:List Int){n:Nat}(hn:P.length+X.length+Q.length=n)(hn2:n≤255)(hX:X.Pairwise (· < ·))(hsm:SmI L)(hb:BdR X L.length):
    Tri (ExtK 2) p_ (.loop (z1_ p_ 83 1)) (isO (P++(X++Q)) n P.length (P.length+X.length) (P.length+1) L) (.exit 0) (isO (P++(so (x2_ L) X++Q)) n P.length (P.length+X.length) (max (P.length+1) (P.length+X.length)) L):=by
  have e0:P++(X++Q)=P++(so (x2_ L) (X.take 1)++(X.drop 1++Q)):=by
    cases X with
    |nil=>rw[List.take_nil,so_nil];rfl
    |cons x r=>rw[List.take_succ_cons,List.take_zero,so_one];rfl
  rw[e0]
  refine i1_ mixed clCm_ok (fun i:Nat=>isO (P++(so (x2_ L) (X.take (i+1))++(X.drop (i+1)++Q))) n P.length (P.length+X.length) (P.length+1+i) L) (fun i=>i=0∨i+1≤X.length) (fun i=>X.length-i) (fun i hi=>?_) 0 (.inl rfl)
  by_cases h:i+1<X.length
  ·have hT:=so_sor (x2_ L) (X.take (i+1))
   have hTl:(so (x2_ L) (X.take (i+1))).length=i+1:=by rw[so_len,List.length_take];omega
   have w:=in_walk P (so (x2_ L) (X.take (i+1))) (X.drop (i+2)++Q) (X.getD (i+1) 0) (P.length+X.length) (P.length+1+i) L (n:=n) (by rw[hTl,List.length_append,List.length_drop];omega) hn2 hT
     (fun z hz=>inc_take hX h z (so_mem.1 hz)) hsm (fun z hz=>hb z (List.mem_of_mem_take (so_mem.1 hz))) (hb _ (by
       have e:X.getD (i+1) 0=X[i+1]:=by simp[List.getD,h]
       rw[e];exact List.getElem_mem _))
   rw[hop_all,hTl]at w
   have e1:P++(so (x2_ L) (X.take (i+1))++[X.getD (i+1) 0]++(X.drop (i+2)++Q))=P++(so (x2_ L) (X.take (i+1))++(X.drop (i+1)++Q)):=by
     rw[drop_step h];simp
   have e2:so (x2_ L) (so (x2_ L) (X.take (i+1))++[X.getD (i+1) 0])=so (x2_ L) (X.take (i+1+1)):=by
     rw[take_snoc h]
     exact so_same ((e0_ _ _).append_right _)
   rw[e1,e2]at w
   refine .inl ⟨i+1,.inr h,by omega,?_⟩
   exact isA_all (P++(so (x2_ L) (X.take (i+1))++(X.drop (i+1)++Q))) (P++(so (x2_ L) (X.take (i+1+1))++(X.drop (i+1+1)++Q))) n P.length (P.length+X.length) (P.length+1+i) L (by omega)
     (s2_ y4_ kp2 (by rw[show P.length+(i+1)=P.length+1+i by omega]at w;exact w)) hn2 (by omega)
  ·have e1:X.take (i+1)=X:=List.take_of_length_le (by omega)
   have e2:X.drop (i+1)=[]:=List.drop_of_length_le (by omega)
   rw[e1,e2,List.nil_append]
   have e3:P.length+1+i=max (P.length+1) (P.length+X.length):=by omega
   rw[e3]
   exact .inr ⟨by simp,isZ_all (P++(so (x2_ L) X++Q)) [] n P.length (P.length+X.length) _ L (by omega) hn2 (by omega)⟩
noncomputable def isLp (D D2:List Nat)(n a b i:Nat)(L:List Int):List (Nat×Lp):=[(1,⟨z1_ p_ 83 1,⟨[],[0,1,2,3,8],[0,1]⟩,isO D n a b (a+1) L,.exit 0,isO D2 n a b i L⟩)]
theorem isb_all (D D2:List Nat)(n a b i:Nat)(L:List Int)(hn:n≤255)(h1:a≤n):∃(h:Hints) (p:List Prop),y5_ [] (z8_ p_ c7_ h (y1_ (isLp D D2 n a b i L)) 60 83 ([.sl 0 0 n,.c (.int .i64 a),.c (.int .i64 b),srF]) (srH D L.length (z2_ L)))=some (.tu [],srH D2 L.length (z2_ L),p)∧z7_ p:=by
  refine⟨⟨true,bs []⟩,[(i64.min:Int)≤↑a+1,
 (↑a+1:Int)≤i64.max,
 ((z1_ p_ (83:FuncId) (1:Nat):Go.Code))=(z1_ p_ (83:FuncId) (1:Nat)),
 ((isO D n a b (a+(1:Nat)) L:St))=(isO D n a b (a+(1:Nat)) L)],by kernel_rfl,?_⟩
  all_goals try simp(disch:=omega) only[std]
  all_goals repeat' apply And.intro
  all_goals first|exact True.intro|omega|with_reducible (first|rfl|assumption)|rfl
def IncR (D:List Nat)(a b:Nat):Prop:=(seg D a b).Pairwise (· < ·)
def insSpec:HSpec
  | [.sl 0 0 n,.c (.int .i64 a),.c (.int .i64 b),.fn f [.pt 1 0]],[some ⟨t,false,C⟩,some ⟨t2,true,[.fs s k l]⟩]=>if(t=3∧t2=27)∧(f=73∧s=1)then
      some (.tu [],srH (put (z5_ C) a.toNat b.toNat (so (x2_ (unI l)) (seg (z5_ C) a.toNat b.toNat))) k l,[C=z0_ (z5_ C),(z5_ C).length=n,n≤255,0≤a,a≤b,b≤n,l=z2_ (unI l),k=(unI l).length,SmI (unI l),BdR (z5_ C) k,IncR (z5_ C) a.toNat b.toNat])else none
  |_,_=>none
theorem ins_ok:u0_ p_ 83 insSpec:=by
  refine zb0_ mixed clCm_ok fun args hp r hp' q hs hq=>?_
  unfold insSpec at hs
  split at hs
  ·rename_i n a b f t C t2 s k l
   split at hs
   ·rename_i hc
    obtain⟨⟨rfl,rfl⟩,rfl,rfl⟩:=hc
    simp only[oi_]at hs
    obtain⟨rfl,rfl,rfl⟩:=hs
    obtain⟨h1,h2,h3,h4,h5,h6,h7,h8,h9,h10,h11,_⟩:=hq
    obtain⟨a,rfl⟩:∃k:Nat,a=(k:Int):=⟨a.toNat,by omega⟩
    obtain⟨b,rfl⟩:∃k:Nat,b=(k:Int):=⟨b.toNat,by omega⟩
    simp only[Int.toNat_natCast]at h11 ⊢
    generalize unI l=L at*
    generalize z5_ C=D at*
    subst h1 h7 h8
    obtain⟨P,X,Q,rfl,e1,e2,e3,e4,e5⟩:=dec2 D (a:=a) (b:=b) (by omega) (by omega)
    simp only[List.length_append]at h2
    have hX:X.Pairwise (· < ·):=by rw[e4];exact h11
    have w:=is_walk P X Q L (n:=n) (by omega) h3 hX h9 (fun z hz=>h10 z (by simp[hz]))
    rw[put_at e1 (by omega),p0_ e1 (by omega)]
    rw[e1,show a+X.length=b by omega]at w
    obtain⟨hh,p,e,hp⟩:=isb_all (P++(X++Q)) (P++(so (x2_ L) X++Q)) n a b (max (a+1) b) L h3 (by omega)
    exact⟨_,_,_,_,_,s2_ y4_ kp2 w,e,hp⟩
   ·simp at hs
  ·simp at hs
end Go.Proofs.YtmjldphagbobpaaDoor
namespace Go.Proofs.YtmjldphagbobpaaDoor
open IntKind (i64 u8 i32 u32 u64)
open _root_.Go.Proofs.Tryd renaming prog→p_
open Go.RowKit Srt
theorem u64w (n:Nat)(h:n≤1000):u64.wrap ((n:Nat):Int)=((n:Nat):Int):=u64_wrap (by omega) (by omega)
theorem shr1 (n:Nat):((n:Nat):Int).fdiv ((2:Int)^(1:Nat))=((n/2:Nat):Int):=by
  rw[Int.fdiv_eq_ediv_of_nonneg _ (by decide)]
  omega
def smF (D:List Nat)(n a m b:Nat)(L:List Int)(l:List (Nat×AV)):St:=⟨frame 220 ([(0,.sl 0 0 n),(1,.c (.int .i64 a)),(2,.c (.int .i64 m)),(3,.c (.int .i64 b)),(4,srF)]++l),srH D L.length (z2_ L)⟩
def saS (D:List Nat)(n a m b i j:Nat)(L:List Int):St:=smF D n a m b L [(10,.c (.int .i64 i)),(11,.c (.int .i64 j))]
def sbS (D:List Nat)(n a m b i j:Nat)(L:List Int):St:=smF D n a m b L [(14,.c (.int .i64 i)),(15,.c (.int .i64 j))]
def seS (D:List Nat)(n a m b mid i j:Nat)(L:List Int):St:=smF D n a m b L [(18,.c (.int .i64 mid)),(19,.c (.int .i64 (mid+m:Nat))),(22,.c (.int .i64 (mid+m-1:Nat))),(20,.c (.int .i64 i)),(21,.c (.int .i64 j))]
theorem saA_all (D:List Nat)(n a m b i j h x y:Nat)(z:Int)(L:List Int)(hij:i<j)(hz0:z<0)(hn:n≤255)(hj:j≤n)(ha:a<n)(hh:(i+j)/2=h)(hx:y0_ (((z0_ D).drop h).headD .any) (.c (.int .i64 x)))(hy:y0_ (((z0_ D).drop a).headD .any) (.c (.int .i64 y)))(hz:L.getD x 0-L.getD y 0=z)(hxl:x<L.length)(hyl:y<L.length)(hsm:SmI L)(hD:(z0_ D).length=n):x9_ 2 p_ c7_ (z1_ p_ 84 3) (saS D n a m b i j L) (.normal) (saS D n a m b (h+1) j L):=by
  refine⟨⟨true,(bs [(33,true),(50,true)]++[(36,⟨.c (.int .i64 (i+j:Nat)),none⟩),(37,⟨.c (.int .u64 (i+j:Nat)),none⟩),(38,⟨.c (.int .u64 h),none⟩),(39,⟨.c (.int .i64 h),none⟩),(44,⟨.c (.int .i64 x),none⟩),(48,⟨.c (.int .i64 y),none⟩),(49,⟨.c (.int .i64 z),none⟩)])⟩,_,60,⟨[],[0,1,2,3,4,10,11],[0,1]⟩,[decide ((↑i:Int)<↑j)=true,
 (i64.min:Int)≤↑i+↑j,
 (↑i+↑j:Int)≤i64.max,
 (↑i+↑j:Int)=↑(i+j),
 ((u64.wrap (↑(i+j):Int):Int))=((↑(i+j):Int)),
 (((↑(i+j):Int).fdiv ((2:Int)^(1:Nat)):Int))=((↑h:Int)),
 ((i64.wrap (↑h:Int):Int))=((↑h:Int)),
 (0:Int)≤↑h,
 (↑h:Int)<↑n,
 (((0:Nat):Nat)<((List.drop (h+(0:Nat)) (z0_ D)).length)),
 y0_ ((List.drop (h+(0:Nat)) (z0_ D)).headD AV.any) ((AV.c ((Value.int .i64 ((↑x:Int)))))),
 (0:Int)≤↑a,
 (↑a:Int)<↑n,
 (((0:Nat):Nat)<((List.drop (a+(0:Nat)) (z0_ D)).length)),
 y0_ ((List.drop (a+(0:Nat)) (z0_ D)).headD AV.any) ((AV.c ((Value.int .i64 ((↑y:Int)))))),
 (((1:Nat):Nat))=((1:Nat)),
 ((z2_ L:List AV))=(z2_ (unI (z2_ L))),
 ((L.length:Nat))=((unI (z2_ L)).length),
 SmI (unI (z2_ L)),
 (0:Int)≤↑x,
 (↑x:Int)<↑L.length,
 (0:Int)≤↑y,
 (↑y:Int)<↑L.length,
 (s9_ [] (AV.c (Value.int IntKind.i64 ((unI (z2_ L)).getD x (0:Int)-(unI (z2_ L)).getD y (0:Int)))))=true,
 (((unI (z2_ L)).getD x (0:Int)-(unI (z2_ L)).getD y (0:Int):Int))=(z),
 decide ((z:Int)<0)=true,
 (i64.min:Int)≤↑h+1,
 (↑h+1:Int)≤i64.max],y4_,by decide,by kernel_rfl,?_⟩
  all_goals try simp(disch:=omega) only[std,List.length_drop,hD,v8_,u64w,shr1]
  all_goals repeat' apply And.intro
  all_goals first|exact True.intro|omega|with_reducible (first|rfl|assumption)|exact hx|exact hy|exact hz|exact hsm|exact hh|exact hD|rfl
theorem saB_all (D:List Nat)(n a m b i j h x y:Nat)(z:Int)(L:List Int)(hij:i<j)(hz0:¬z<0)(hn:n≤255)(hj:j≤n)(ha:a<n)(hh:(i+j)/2=h)(hx:y0_ (((z0_ D).drop h).headD .any) (.c (.int .i64 x)))(hy:y0_ (((z0_ D).drop a).headD .any) (.c (.int .i64 y)))(hz:L.getD x 0-L.getD y 0=z)(hxl:x<L.length)(hyl:y<L.length)(hsm:SmI L)(hD:(z0_ D).length=n):x9_ 2 p_ c7_ (z1_ p_ 84 3) (saS D n a m b i j L) (.normal) (saS D n a m b i h L):=by
  refine⟨⟨true,(bs [(33,true),(50,false)]++[(36,⟨.c (.int .i64 (i+j:Nat)),none⟩),(37,⟨.c (.int .u64 (i+j:Nat)),none⟩),(38,⟨.c (.int .u64 h),none⟩),(39,⟨.c (.int .i64 h),none⟩),(44,⟨.c (.int .i64 x),none⟩),(48,⟨.c (.int .i64 y),none⟩),(49,⟨.c (.int .i64 z),none⟩)])⟩,_,60,⟨[],[0,1,2,3,4,10,11],[0,1]⟩,[decide ((↑i:Int)<↑j)=true,
 (i64.min:Int)≤↑i+↑j,
 (↑i+↑j:Int)≤i64.max,
 (↑i+↑j:Int)=↑(i+j),
 ((u64.wrap (↑(i+j):Int):Int))=((↑(i+j):Int)),
 (((↑(i+j):Int).fdiv ((2:Int)^(1:Nat)):Int))=((↑h:Int)),
 ((i64.wrap (↑h:Int):Int))=((↑h:Int)),
 (0:Int)≤↑h,
 (↑h:Int)<↑n,
 (((0:Nat):Nat)<((List.drop (h+(0:Nat)) (z0_ D)).length)),
 y0_ ((List.drop (h+(0:Nat)) (z0_ D)).headD AV.any) ((AV.c ((Value.int .i64 ((↑x:Int)))))),
 (0:Int)≤↑a,
 (↑a:Int)<↑n,
 (((0:Nat):Nat)<((List.drop (a+(0:Nat)) (z0_ D)).length)),
 y0_ ((List.drop (a+(0:Nat)) (z0_ D)).headD AV.any) ((AV.c ((Value.int .i64 ((↑y:Int)))))),
 (((1:Nat):Nat))=((1:Nat)),
 ((z2_ L:List AV))=(z2_ (unI (z2_ L))),
 ((L.length:Nat))=((unI (z2_ L)).length),
 SmI (unI (z2_ L)),
 (0:Int)≤↑x,
 (↑x:Int)<↑L.length,
 (0:Int)≤↑y,
 (↑y:Int)<↑L.length,
 (s9_ [] (AV.c (Value.int IntKind.i64 ((unI (z2_ L)).getD x (0:Int)-(unI (z2_ L)).getD y (0:Int)))))=true,
 (((unI (z2_ L)).getD x (0:Int)-(unI (z2_ L)).getD y (0:Int):Int))=(z),
 decide ((z:Int)<0)=false],y4_,by decide,by kernel_rfl,?_⟩
  all_goals try simp(disch:=omega) only[std,List.length_drop,hD,v8_,u64w,shr1]
  all_goals repeat' apply And.intro
  all_goals first|exact True.intro|omega|with_reducible (first|rfl|assumption)|exact hx|exact hy|exact hz|exact hsm|exact hh|exact hD|rfl
theorem saZ_all (D:List Nat)(n a m b i j:Nat)(L:List Int)(hij:¬i<j):x9_ 2 p_ c7_ (z1_ p_ 84 3) (saS D n a m b i j L) (.exit 0) (saS D n a m b i j L):=by
  refine⟨⟨true,(bs [(33,false)])⟩,_,60,⟨[],[0,1,2,3,4,10,11],[0,1]⟩,[decide ((↑i:Int)<↑j)=false],y4_,by decide,by kernel_rfl,?_⟩
  all_goals try simp(disch:=omega) only[std]
  all_goals repeat' apply And.intro
  all_goals first|exact True.intro|omega|with_reducible (first|rfl|assumption)|rfl
theorem sbA_all (D:List Nat)(n a m b i j h x y:Nat)(z:Int)(L:List Int)(hij:i<j)(hz0:¬z<0)(hn:n≤255)(hj:j≤n)(ha:m<n)(hh:(i+j)/2=h)(hx:y0_ (((z0_ D).drop m).headD .any) (.c (.int .i64 x)))(hy:y0_ (((z0_ D).drop h).headD .any) (.c (.int .i64 y)))(hz:L.getD x 0-L.getD y 0=z)(hxl:x<L.length)(hyl:y<L.length)(hsm:SmI L)(hD:(z0_ D).length=n):x9_ 2 p_ c7_ (z1_ p_ 84 15) (sbS D n a m b i j L) (.normal) (sbS D n a m b (h+1) j L):=by
  refine⟨⟨true,(bs [(85,true),(102,false)]++[(88,⟨.c (.int .i64 (i+j:Nat)),none⟩),(89,⟨.c (.int .u64 (i+j:Nat)),none⟩),(90,⟨.c (.int .u64 h),none⟩),(91,⟨.c (.int .i64 h),none⟩),(96,⟨.c (.int .i64 x),none⟩),(100,⟨.c (.int .i64 y),none⟩),(101,⟨.c (.int .i64 z),none⟩)])⟩,_,60,⟨[],[0,1,2,3,4,14,15],[0,1]⟩,[decide ((↑i:Int)<↑j)=true,
 (i64.min:Int)≤↑i+↑j,
 (↑i+↑j:Int)≤i64.max,
 (↑i+↑j:Int)=↑(i+j),
 ((u64.wrap (↑(i+j):Int):Int))=((↑(i+j):Int)),
 (((↑(i+j):Int).fdiv ((2:Int)^(1:Nat)):Int))=((↑h:Int)),
 ((i64.wrap (↑h:Int):Int))=((↑h:Int)),
 (0:Int)≤↑m,
 (↑m:Int)<↑n,
 (((0:Nat):Nat)<((List.drop (m+(0:Nat)) (z0_ D)).length)),
 y0_ ((List.drop (m+(0:Nat)) (z0_ D)).headD AV.any) ((AV.c ((Value.int .i64 ((↑x:Int)))))),
 (0:Int)≤↑h,
 (↑h:Int)<↑n,
 (((0:Nat):Nat)<((List.drop (h+(0:Nat)) (z0_ D)).length)),
 y0_ ((List.drop (h+(0:Nat)) (z0_ D)).headD AV.any) ((AV.c ((Value.int .i64 ((↑y:Int)))))),
 (((1:Nat):Nat))=((1:Nat)),
 ((z2_ L:List AV))=(z2_ (unI (z2_ L))),
 ((L.length:Nat))=((unI (z2_ L)).length),
 SmI (unI (z2_ L)),
 (0:Int)≤↑x,
 (↑x:Int)<↑L.length,
 (0:Int)≤↑y,
 (↑y:Int)<↑L.length,
 (s9_ [] (AV.c (Value.int IntKind.i64 ((unI (z2_ L)).getD x (0:Int)-(unI (z2_ L)).getD y (0:Int)))))=true,
 (((unI (z2_ L)).getD x (0:Int)-(unI (z2_ L)).getD y (0:Int):Int))=(z),
 decide ((z:Int)<0)=false,
 (i64.min:Int)≤↑h+1,
 (↑h+1:Int)≤i64.max],y4_,by decide,by kernel_rfl,?_⟩
  all_goals try simp(disch:=omega) only[std,List.length_drop,hD,v8_,u64w,shr1]
  all_goals repeat' apply And.intro
  all_goals first|exact True.intro|omega|with_reducible (first|rfl|assumption)|exact hx|exact hy|exact hz|exact hsm|exact hh|exact hD|rfl
theorem sbB_all (D:List Nat)(n a m b i j h x y:Nat)(z:Int)(L:List Int)(hij:i<j)(hz0:z<0)(hn:n≤255)(hj:j≤n)(ha:m<n)(hh:(i+j)/2=h)(hx:y0_ (((z0_ D).drop m).headD .any) (.c (.int .i64 x)))(hy:y0_ (((z0_ D).drop h).headD .any) (.c (.int .i64 y)))(hz:L.getD x 0-L.getD y 0=z)(hxl:x<L.length)(hyl:y<L.length)(hsm:SmI L)(hD:(z0_ D).length=n):x9_ 2 p_ c7_ (z1_ p_ 84 15) (sbS D n a m b i j L) (.normal) (sbS D n a m b i h L):=by
  refine⟨⟨true,(bs [(85,true),(102,true)]++[(88,⟨.c (.int .i64 (i+j:Nat)),none⟩),(89,⟨.c (.int .u64 (i+j:Nat)),none⟩),(90,⟨.c (.int .u64 h),none⟩),(91,⟨.c (.int .i64 h),none⟩),(96,⟨.c (.int .i64 x),none⟩),(100,⟨.c (.int .i64 y),none⟩),(101,⟨.c (.int .i64 z),none⟩)])⟩,_,60,⟨[],[0,1,2,3,4,14,15],[0,1]⟩,[decide ((↑i:Int)<↑j)=true,
 (i64.min:Int)≤↑i+↑j,
 (↑i+↑j:Int)≤i64.max,
 (↑i+↑j:Int)=↑(i+j),
 ((u64.wrap (↑(i+j):Int):Int))=((↑(i+j):Int)),
 (((↑(i+j):Int).fdiv ((2:Int)^(1:Nat)):Int))=((↑h:Int)),
 ((i64.wrap (↑h:Int):Int))=((↑h:Int)),
 (0:Int)≤↑m,
 (↑m:Int)<↑n,
 (((0:Nat):Nat)<((List.drop (m+(0:Nat)) (z0_ D)).length)),
 y0_ ((List.drop (m+(0:Nat)) (z0_ D)).headD AV.any) ((AV.c ((Value.int .i64 ((↑x:Int)))))),
 (0:Int)≤↑h,
 (↑h:Int)<↑n,
 (((0:Nat):Nat)<((List.drop (h+(0:Nat)) (z0_ D)).length)),
 y0_ ((List.drop (h+(0:Nat)) (z0_ D)).headD AV.any) ((AV.c ((Value.int .i64 ((↑y:Int)))))),
 (((1:Nat):Nat))=((1:Nat)),
 ((z2_ L:List AV))=(z2_ (unI (z2_ L))),
 ((L.length:Nat))=((unI (z2_ L)).length),
 SmI (unI (z2_ L)),
 (0:Int)≤↑x,
 (↑x:Int)<↑L.length,
 (0:Int)≤↑y,
 (↑y:Int)<↑L.length,
 (s9_ [] (AV.c (Value.int IntKind.i64 ((unI (z2_ L)).getD x (0:Int)-(unI (z2_ L)).getD y (0:Int)))))=true,
 (((unI (z2_ L)).getD x (0:Int)-(unI (z2_ L)).getD y (0:Int):Int))=(z),
 decide ((z:Int)<0)=true],y4_,by decide,by kernel_rfl,?_⟩
  all_goals try simp(disch:=omega) only[std,List.length_drop,hD,v8_,u64w,shr1]
  all_goals repeat' apply And.intro
  all_goals first|exact True.intro|omega|with_reducible (first|rfl|assumption)|exact hx|exact hy|exact hz|exact hsm|exact hh|exact hD|rfl
theorem sbZ_all (D:List Nat)(n a m b i j:Nat)(L:List Int)(hij:¬i<j):x9_ 2 p_ c7_ (z1_ p_ 84 15) (sbS D n a m b i j L) (.exit 4) (sbS D n a m b i j L):=by
  refine⟨⟨true,(bs [(85,false)])⟩,_,60,⟨[],[0,1,2,3,4,14,15],[0,1]⟩,[decide ((↑i:Int)<↑j)=false],y4_,by decide,by kernel_rfl,?_⟩
  all_goals try simp(disch:=omega) only[std]
  all_goals repeat' apply And.intro
  all_goals first|exact True.intro|omega|with_reducible (first|rfl|assumption)|rfl
theorem seA_all (D:List Nat)(n a m b mid i j h x y:Nat)(z:Int)(L:List Int)(hij:i<j)(hz0:¬z<0)(hn:n≤255)(hj:j≤n)(hp:h+1≤mid+m)(hp2:mid+m-1-h<n)(hh:(i+j)/2=h)(hx:y0_ (((z0_ D).drop (mid+m-1-h)).headD .any) (.c (.int .i64 x)))(hy:y0_ (((z0_ D).drop h).headD .any) (.c (.int .i64 y)))(hz:L.getD x 0-L.getD y 0=z)(hxl:x<L.length)(hyl:y<L.length)(hsm:SmI L)(hD:(z0_ D).length=n):x9_ 2 p_ c7_ (z1_ p_ 84 33) (seS D n a m b mid i j L) (.normal) (seS D n a m b mid (h+1) j L):=by
  refine⟨⟨true,(bs [(151,true),(170,false)]++[(154,⟨.c (.int .i64 (i+j:Nat)),none⟩),(155,⟨.c (.int .u64 (i+j:Nat)),none⟩),(156,⟨.c (.int .u64 h),none⟩),(157,⟨.c (.int .i64 h),none⟩),(162,⟨.c (.int .i64 (mid+m-1-h:Nat)),none⟩),(164,⟨.c (.int .i64 x),none⟩),(168,⟨.c (.int .i64 y),none⟩),(169,⟨.c (.int .i64 z),none⟩)])⟩,_,60,⟨[],[0,1,2,3,4,18,19,20,21,22],[0,1]⟩,[decide ((↑i:Int)<↑j)=true,
 (i64.min:Int)≤↑i+↑j,
 (↑i+↑j:Int)≤i64.max,
 (↑i+↑j:Int)=↑(i+j),
 ((u64.wrap (↑(i+j):Int):Int))=((↑(i+j):Int)),
 (((↑(i+j):Int).fdiv ((2:Int)^(1:Nat)):Int))=((↑h:Int)),
 ((i64.wrap (↑h:Int):Int))=((↑h:Int)),
 (i64.min:Int)≤↑(mid+m-1)-↑h,
 (↑(mid+m-1)-↑h:Int)≤i64.max,
 (↑(mid+m-1)-↑h:Int)=↑(mid+m-1-h),
 (0:Int)≤↑(mid+m-1-h),
 (↑(mid+m-1-h):Int)<↑n,
 (((0:Nat):Nat)<((List.drop (mid+m-(1:Nat)-h+(0:Nat)) (z0_ D)).length)),
 y0_ ((List.drop (mid+m-(1:Nat)-h+(0:Nat)) (z0_ D)).headD AV.any) ((AV.c ((Value.int .i64 ((↑x:Int)))))),
 (0:Int)≤↑h,
 (↑h:Int)<↑n,
 (((0:Nat):Nat)<((List.drop (h+(0:Nat)) (z0_ D)).length)),
 y0_ ((List.drop (h+(0:Nat)) (z0_ D)).headD AV.any) ((AV.c ((Value.int .i64 ((↑y:Int)))))),
 (((1:Nat):Nat))=((1:Nat)),
 ((z2_ L:List AV))=(z2_ (unI (z2_ L))),
 ((L.length:Nat))=((unI (z2_ L)).length),
 SmI (unI (z2_ L)),
 (0:Int)≤↑x,
 (↑x:Int)<↑L.length,
 (0:Int)≤↑y,
 (↑y:Int)<↑L.length,
 (s9_ [] (AV.c (Value.int IntKind.i64 ((unI (z2_ L)).getD x (0:Int)-(unI (z2_ L)).getD y (0:Int)))))=true,
 (((unI (z2_ L)).getD x (0:Int)-(unI (z2_ L)).getD y (0:Int):Int))=(z),
 decide ((z:Int)<0)=false,
 (i64.min:Int)≤↑h+1,
 (↑h+1:Int)≤i64.max],y4_,by decide,by kernel_rfl,?_⟩
  all_goals try simp(disch:=omega) only[std,List.length_drop,hD,v8_,u64w,shr1]
  all_goals repeat' apply And.intro
  all_goals first|exact True.intro|omega|with_reducible (first|rfl|assumption)|exact hx|exact hy|exact hz|exact hsm|exact hh|exact hD|rfl
theorem seB_all (D:List Nat)(n a m b mid i j h x y:Nat)(z:Int)(L:List Int)(hij:i<j)(hz0:z<0)(hn:n≤255)(hj:j≤n)(hp:h+1≤mid+m)(hp2:mid+m-1-h<n)(hh:(i+j)/2=h)(hx:y0_ (((z0_ D).drop (mid+m-1-h)).headD .any) (.c (.int .i64 x)))(hy:y0_ (((z0_ D).drop h).headD .any) (.c (.int .i64 y)))(hz:L.getD x 0-L.getD y 0=z)(hxl:x<L.length)(hyl:y<L.length)(hsm:SmI L)(hD:(z0_ D).length=n):x9_ 2 p_ c7_ (z1_ p_ 84 33) (seS D n a m b mid i j L) (.normal) (seS D n a m b mid i h L):=by
  refine⟨⟨true,(bs [(151,true),(170,true)]++[(154,⟨.c (.int .i64 (i+j:Nat)),none⟩),(155,⟨.c (.int .u64 (i+j:Nat)),none⟩),(156,⟨.c (.int .u64 h),none⟩),(157,⟨.c (.int .i64 h),none⟩),(162,⟨.c (.int .i64 (mid+m-1-h:Nat)),none⟩),(164,⟨.c (.int .i64 x),none⟩),(168,⟨.c (.int .i64 y),none⟩),(169,⟨.c (.int .i64 z),none⟩)])⟩,_,60,⟨[],[0,1,2,3,4,18,19,20,21,22],[0,1]⟩,[decide ((↑i:Int)<↑j)=true,
 (i64.min:Int)≤↑i+↑j,
 (↑i+↑j:Int)≤i64.max,
 (↑i+↑j:Int)=↑(i+j),
 ((u64.wrap (↑(i+j):Int):Int))=((↑(i+j):Int)),
 (((↑(i+j):Int).fdiv ((2:Int)^(1:Nat)):Int))=((↑h:Int)),
 ((i64.wrap (↑h:Int):Int))=((↑h:Int)),
 (i64.min:Int)≤↑(mid+m-1)-↑h,
 (↑(mid+m-1)-↑h:Int)≤i64.max,
 (↑(mid+m-1)-↑h:Int)=↑(mid+m-1-h),
 (0:Int)≤↑(mid+m-1-h),
 (↑(mid+m-1-h):Int)<↑n,
 (((0:Nat):Nat)<((List.drop (mid+m-(1:Nat)-h+(0:Nat)) (z0_ D)).length)),
 y0_ ((List.drop (mid+m-(1:Nat)-h+(0:Nat)) (z0_ D)).headD AV.any) ((AV.c ((Value.int .i64 ((↑x:Int)))))),
 (0:Int)≤↑h,
 (↑h:Int)<↑n,
 (((0:Nat):Nat)<((List.drop (h+(0:Nat)) (z0_ D)).length)),
 y0_ ((List.drop (h+(0:Nat)) (z0_ D)).headD AV.any) ((AV.c ((Value.int .i64 ((↑y:Int)))))),
 (((1:Nat):Nat))=((1:Nat)),
 ((z2_ L:List AV))=(z2_ (unI (z2_ L))),
 ((L.length:Nat))=((unI (z2_ L)).length),
 SmI (unI (z2_ L)),
 (0:Int)≤↑x,
 (↑x:Int)<↑L.length,
 (0:Int)≤↑y,
 (↑y:Int)<↑L.length,
 (s9_ [] (AV.c (Value.int IntKind.i64 ((unI (z2_ L)).getD x (0:Int)-(unI (z2_ L)).getD y (0:Int)))))=true,
 (((unI (z2_ L)).getD x (0:Int)-(unI (z2_ L)).getD y (0:Int):Int))=(z),
 decide ((z:Int)<0)=true],y4_,by decide,by kernel_rfl,?_⟩
  all_goals try simp(disch:=omega) only[std,List.length_drop,hD,v8_,u64w,shr1]
  all_goals repeat' apply And.intro
  all_goals first|exact True.intro|omega|with_reducible (first|rfl|assumption)|exact hx|exact hy|exact hz|exact hsm|exact hh|exact hD|rfl
theorem seZ_all (D:List Nat)(n a m b mid i j:Nat)(L:List Int)(hij:¬i<j):x9_ 2 p_ c7_ (z1_ p_ 84 33) (seS D n a m b mid i j L) (.exit 8) (seS D n a m b mid i j L):=by
  refine⟨⟨true,(bs [(151,false)])⟩,_,60,⟨[],[0,1,2,3,4,18,19,20,21,22],[0,1]⟩,[decide ((↑i:Int)<↑j)=false],y4_,by decide,by kernel_rfl,?_⟩
  all_goals try simp(disch:=omega) only[std]
  all_goals repeat' apply And.intro
  all_goals first|exact True.intro|omega|with_reducible (first|rfl|assumption)|rfl
def muS (D:List Nat)(n a m b i k:Nat)(L:List Int):St:=smF D n a m b L [(10,.c (.int .i64 i)),(13,.c (.int .i64 k))]
def mdS (D:List Nat)(n a m b i k:Nat)(L:List Int):St:=smF D n a m b L [(14,.c (.int .i64 i)),(17,.c (.int .i64 k))]
theorem muA_all (D D1 D2:List Nat)(n a m b i k x y:Nat)(L:List Int)(hik:k+1<i)(hn:n≤255)(hi:i≤n)(hx:y0_ (((z0_ D).drop k).headD .any) (.c (.int .i64 x)))(hy:y0_ (((z0_ D).drop (k+1)).headD .any) (.c (.int .i64 y)))(hs1:(z0_ D).take k++[.c (.int .i64 y)]++(z0_ D).drop (k+1)=z0_ D1)(hs2:(z0_ D1).take (k+1)++[.c (.int .i64 x)]++(z0_ D1).drop (k+1+1)=z0_ D2)(hD:(z0_ D).length=n)(hD1:(z0_ D1).length=n):x9_ 2 p_ cl0 (z1_ p_ 84 9) (muS D n a m b i k L) (.normal) (muS D2 n a m b i (k+1) L):=by
  refine⟨⟨true,(bs [(58,true)]++[(65,⟨.c (.int .i64 (k+1:Nat)),none⟩),(68,⟨.c (.int .i64 (k+1:Nat)),none⟩),(70,⟨.c (.int .i64 y),none⟩),(74,⟨.c (.int .i64 x),none⟩),(100075,⟨.any,some (z0_ D1)⟩),(100076,⟨.any,some (z0_ D2)⟩)])⟩,_,60,⟨[],[0,1,2,3,4,10,13],[0,1]⟩,[(i64.min:Int)≤↑i-1,
 (↑i-1:Int)≤i64.max,
 decide ((↑k:Int)<↑i-1)=true,
 (i64.min:Int)≤↑k+1,
 (↑k+1:Int)≤i64.max,
 (↑k+1:Int)=↑(k+1),
 (i64.min:Int)≤↑k+1,
 (↑k+1:Int)≤i64.max,
 (↑k+1:Int)=↑(k+1),
 (0:Int)≤↑(k+1),
 (↑(k+1):Int)<↑n,
 (((0:Nat):Nat)<((List.drop (k+(1:Nat)+(0:Nat)) (z0_ D)).length)),
 y0_ ((List.drop (k+(1:Nat)+(0:Nat)) (z0_ D)).headD AV.any) ((AV.c ((Value.int .i64 ((↑y:Int)))))),
 (0:Int)≤↑k,
 (↑k:Int)<↑n,
 (((0:Nat):Nat)<((List.drop (k+(0:Nat)) (z0_ D)).length)),
 y0_ ((List.drop (k+(0:Nat)) (z0_ D)).headD AV.any) ((AV.c ((Value.int .i64 ((↑x:Int)))))),
 (0:Int)≤↑k,
 (↑k:Int)<↑n,
 ((k+(0:Nat)+(1:Nat):Nat)≤((z0_ D).length)),
 y0_ (AV.any) (AV.any),
 ((List.take (k+(0:Nat)) (z0_ D)++[AV.c (Value.int IntKind.i64 (↑y:Int))]++List.drop (k+(0:Nat)+(1:Nat)) (z0_ D):List AV))=(z0_ D1),
 (0:Int)≤↑(k+1),
 (↑(k+1):Int)<↑n,
 ((k+(1:Nat)+(0:Nat)+(1:Nat):Nat)≤((z0_ D1).length)),
 y0_ (AV.any) (AV.any),
 ((List.take (k+(1:Nat)+(0:Nat)) (z0_ D1)++[AV.c (Value.int IntKind.i64 (↑x:Int))]++List.drop (k+(1:Nat)+(0:Nat)+(1:Nat)) (z0_ D1):List AV))=(z0_ D2),
 (i64.min:Int)≤↑k+1,
 (↑k+1:Int)≤i64.max],y4_,by decide,by kernel_rfl,?_⟩
  all_goals try simp(disch:=omega) only[std,List.length_drop,hD,hD1]
  all_goals repeat' apply And.intro
  all_goals first|exact True.intro|omega|with_reducible (first|rfl|assumption)|exact hx|exact hy|exact hs1|exact hs2|exact hD|exact hD1|rfl
theorem mdA_all (D D1 D2:List Nat)(n a m b i k x y:Nat)(L:List Int)(hik:i<k)(hn:n≤255)(hi:k<n)(hx:y0_ (((z0_ D).drop k).headD .any) (.c (.int .i64 x)))(hy:y0_ (((z0_ D).drop (k-1)).headD .any) (.c (.int .i64 y)))(hs1:(z0_ D).take k++[.c (.int .i64 y)]++(z0_ D).drop (k+1)=z0_ D1)(hs2:(z0_ D1).take (k-1)++[.c (.int .i64 x)]++(z0_ D1).drop (k-1+1)=z0_ D2)(hD:(z0_ D).length=n)(hD1:(z0_ D1).length=n):x9_ 2 p_ cl0 (z1_ p_ 84 21) (mdS D n a m b i k L) (.normal) (mdS D2 n a m b i (k-1) L):=by
  refine⟨⟨true,(bs [(110,true)]++[(117,⟨.c (.int .i64 (k-1:Nat)),none⟩),(120,⟨.c (.int .i64 (k-1:Nat)),none⟩),(122,⟨.c (.int .i64 y),none⟩),(126,⟨.c (.int .i64 x),none⟩),(100127,⟨.any,some (z0_ D1)⟩),(100128,⟨.any,some (z0_ D2)⟩),(112,⟨.c (.int .i64 (k-1:Nat)),none⟩)])⟩,_,60,⟨[],[0,1,2,3,4,14,17],[0,1]⟩,[decide ((↑k:Int)>↑i)=true,
 (i64.min:Int)≤↑k-1,
 (↑k-1:Int)≤i64.max,
 (↑k-1:Int)=↑(k-1),
 (i64.min:Int)≤↑k-1,
 (↑k-1:Int)≤i64.max,
 (↑k-1:Int)=↑(k-1),
 (0:Int)≤↑(k-1),
 (↑(k-1):Int)<↑n,
 (((0:Nat):Nat)<((List.drop (k-(1:Nat)+(0:Nat)) (z0_ D)).length)),
 y0_ ((List.drop (k-(1:Nat)+(0:Nat)) (z0_ D)).headD AV.any) ((AV.c ((Value.int .i64 ((↑y:Int)))))),
 (0:Int)≤↑k,
 (↑k:Int)<↑n,
 (((0:Nat):Nat)<((List.drop (k+(0:Nat)) (z0_ D)).length)),
 y0_ ((List.drop (k+(0:Nat)) (z0_ D)).headD AV.any) ((AV.c ((Value.int .i64 ((↑x:Int)))))),
 (0:Int)≤↑k,
 (↑k:Int)<↑n,
 ((k+(0:Nat)+(1:Nat):Nat)≤((z0_ D).length)),
 y0_ (AV.any) (AV.any),
 ((List.take (k+(0:Nat)) (z0_ D)++[AV.c (Value.int IntKind.i64 (↑y:Int))]++List.drop (k+(0:Nat)+(1:Nat)) (z0_ D):List AV))=(z0_ D1),
 (0:Int)≤↑(k-1),
 (↑(k-1):Int)<↑n,
 ((k-(1:Nat)+(0:Nat)+(1:Nat):Nat)≤((z0_ D1).length)),
 y0_ (AV.any) (AV.any),
 ((List.take (k-(1:Nat)+(0:Nat)) (z0_ D1)++[AV.c (Value.int IntKind.i64 (↑x:Int))]++List.drop (k-(1:Nat)+(0:Nat)+(1:Nat)) (z0_ D1):List AV))=(z0_ D2),
 (i64.min:Int)≤↑k-1,
 (↑k-1:Int)≤i64.max,
 (↑k-1:Int)=↑(k-1)],y4_,by decide,by kernel_rfl,?_⟩
  all_goals try simp(disch:=omega) only[std,List.length_drop,hD,hD1]
  all_goals repeat' apply And.intro
  all_goals first|exact True.intro|omega|with_reducible (first|rfl|assumption)|exact hx|exact hy|exact hs1|exact hs2|exact hD|exact hD1|rfl
theorem muZ_all (D:List Nat)(n a m b i k:Nat)(L:List Int)(hik:k+1=i)(hi:i≤255):x9_ 2 p_ cl0 (z1_ p_ 84 9) (muS D n a m b i k L) (.exit 2) (muS D n a m b i k L):=by
  refine⟨⟨true,(bs [(58,false)])⟩,_,60,⟨[],[0,1,2,3,4,10,13],[0,1]⟩,[(i64.min:Int)≤↑i-1,
 (↑i-1:Int)≤i64.max,
 decide ((↑k:Int)<↑i-1)=false],y4_,by decide,by kernel_rfl,?_⟩
  all_goals try simp(disch:=omega) only[std]
  all_goals repeat' apply And.intro
  all_goals first|exact True.intro|omega|with_reducible (first|rfl|assumption)|exact hik|rfl
theorem mdZ_all (D:List Nat)(n a m b i k:Nat)(L:List Int)(hik:i=k):x9_ 2 p_ cl0 (z1_ p_ 84 21) (mdS D n a m b i k L) (.exit 6) (mdS D n a m b i k L):=by
  refine⟨⟨true,(bs [(110,false)])⟩,_,60,⟨[],[0,1,2,3,4,14,17],[0,1]⟩,[decide ((↑k:Int)>↑i)=false],y4_,by decide,by kernel_rfl,?_⟩
  all_goals try simp(disch:=omega) only[std]
  all_goals repeat' apply And.intro
  all_goals first|exact True.intro|omega|with_reducible (first|rfl|assumption)|exact hik|rfl
end Go.Proofs.YtmjldphagbobpaaDoor
namespace Go.Proofs.YtmjldphagbobpaaDoor
open IntKind (i64 u8 i32 u32 u64)
open _root_.Go.Proofs.Tryd renaming prog→p_
open Go.RowKit Srt
theorem bs_walk {cl:CallT}(hcl:x7_ p_ cl){b:Code}(S:Nat→Nat→St)(t:Nat→Bool)(lo hi:Nat){e:Exit}(he:e≠ .normal)
    (hA:∀i j h,lo≤i→i<j→j≤hi→(i+j)/2=h→t h=true→x9_ 2 p_ cl b (S i j) .normal (S (h+1) j))
    (hB:∀i j h,lo≤i→i<j→j≤hi→(i+j)/2=h→t h=false→x9_ 2 p_ cl b (S i j) .normal (S i h))
    (hZ:∀i j,¬i<j→x9_ 2 p_ cl b (S i j) e (S i j)) (hlh:lo≤hi):Tri (ExtK 2) p_ (.loop b) (S lo hi) e (S (bsr t (hi-lo) lo hi) (bsr t (hi-lo) lo hi)):=by
  obtain⟨s,hs⟩:∃s,bsr t (hi-lo) lo hi=s:=⟨_,rfl⟩
  rw[hs]
  refine i1_ mixed hcl (fun x:Nat×Nat×Nat=>S x.2.1 x.2.2) (fun x=>(lo≤x.2.1∧x.2.1≤x.2.2)∧x.2.2≤hi∧x.2.2-x.2.1≤x.1∧bsr t x.1 x.2.1 x.2.2=s) (fun x=>x.2.2-x.2.1) (fun x hx=>?_) (hi-lo,lo,hi) ⟨⟨Nat.le_refl _,hlh⟩,Nat.le_refl _,Nat.le_refl _,hs⟩
  obtain⟨f,i,j⟩:=x
  obtain⟨⟨h1,h2⟩,h3,h4,h5⟩:=hx
  simp only at h1 h2 h3 h4 h5 ⊢
  by_cases hij:i<j
  ·obtain⟨f,rfl⟩:∃g,f=g+1:=⟨f-1,by omega⟩
   unfold bsr at h5
   rw[if_pos hij]at h5
   cases ht:t ((i+j)/2)with
   |true=>
    rw[if_pos ht]at h5
    exact .inl ⟨(f,(i+j)/2+1,j),⟨⟨by simp only;omega,by simp only;omega⟩,h3,by simp only;omega,h5⟩,by simp only;omega,hA i j _ h1 hij h3 rfl ht⟩
   |false=>
    rw[if_neg (by rw[ht];simp)]at h5
    exact .inl ⟨(f,i,(i+j)/2),⟨⟨h1,by simp only;omega⟩,by simp only;omega,by simp only;omega,h5⟩,by simp only;omega,hB i j _ h1 hij h3 rfl ht⟩
  ·have e:i=s:=by
     rw[←h5]
     cases f with
     |zero=>rfl
     |succ f=>unfold bsr;rw[if_neg hij]
   have e2:j=i:=by omega
   subst e2
   rw[←e]
   exact .inr ⟨he,hZ j j hij⟩
theorem b9_ {D:List Nat}{k i:Nat}(h:BdR D k)(hi:i<D.length):D.getD i 0<k:=by
  have e:D.getD i 0=D[i]:=by simp[List.getD,hi]
  rw[e];exact h _ (List.getElem_mem hi)
def ltK (L:List Int)(D:List Nat)(c d:Nat):Bool:=decide (x2_ L (D.getD c 0)<x2_ L (D.getD d 0))
theorem ltK_t {L:List Int}{D:List Nat}{c d:Nat}(h:ltK L D c d=true):L.getD (D.getD c 0) 0-L.getD (D.getD d 0) 0<0:=by
  have h:x2_ L (D.getD c 0)<x2_ L (D.getD d 0):=of_decide_eq_true h
  unfold x2_ at h;omega
theorem ltK_f {L:List Int}{D:List Nat}{c d:Nat}(h:ltK L D c d=false):¬L.getD (D.getD c 0) 0-L.getD (D.getD d 0) 0<0:=by
  have h:¬x2_ L (D.getD c 0)<x2_ L (D.getD d 0):=of_decide_eq_false h
  unfold x2_ at h;omega
theorem sa_walk (D:List Nat)(n a m b:Nat)(L:List Int)(hn:n≤255)(hD:D.length=n)(hsm:SmI L)(hb:BdR D L.length)(ha:a<n)(hmb:m≤b)(hbn:b≤n):
    Tri (ExtK 2) p_ (.loop (z1_ p_ 84 3)) (saS D n a m b m b L) (.exit 0) (saS D n a m b (bsr (fun c=>ltK L D c a) (b-m) m b) (bsr (fun c=>ltK L D c a) (b-m) m b) L):=by
  have hDn:(z0_ D).length=n:=by rw[y7_];exact hD
  refine bs_walk clCm_ok (fun i j=>saS D n a m b i j L) (fun c=>ltK L D c a) m b (by simp) (fun i j h h1 h2 h3 h4 h5=>?_) (fun i j h h1 h2 h3 h4 h5=>?_) (fun i j h=>saZ_all D n a m b i j L h) hmb
  ·exact saA_all D n a m b i j h _ _ _ L h2 (ltK_t h5) hn (by omega) ha h4 (r3_ (by omega) rfl) (r3_ (by omega) rfl) rfl (b9_ hb (by omega)) (b9_ hb (by omega)) hsm hDn
  ·exact saB_all D n a m b i j h _ _ _ L h2 (ltK_f h5) hn (by omega) ha h4 (r3_ (by omega) rfl) (r3_ (by omega) rfl) rfl (b9_ hb (by omega)) (b9_ hb (by omega)) hsm hDn
theorem sb_walk (D:List Nat)(n a m b:Nat)(L:List Int)(hn:n≤255)(hD:D.length=n)(hsm:SmI L)(hb:BdR D L.length)(ha:a≤m)(hmn:m<n):
    Tri (ExtK 2) p_ (.loop (z1_ p_ 84 15)) (sbS D n a m b a m L) (.exit 4) (sbS D n a m b (bsr (fun c=> !ltK L D m c) (m-a) a m) (bsr (fun c=> !ltK L D m c) (m-a) a m) L):=by
  have hDn:(z0_ D).length=n:=by rw[y7_];exact hD
  refine bs_walk clCm_ok (fun i j=>sbS D n a m b i j L) (fun c=> !ltK L D m c) a m (by simp) (fun i j h h1 h2 h3 h4 h5=>?_) (fun i j h h1 h2 h3 h4 h5=>?_) (fun i j h=>sbZ_all D n a m b i j L h) ha
  ·exact sbA_all D n a m b i j h _ _ _ L h2 (ltK_f (by simpa using h5)) hn (by omega) hmn h4 (r3_ (by omega) rfl) (r3_ (by omega) rfl) rfl (b9_ hb (by omega)) (b9_ hb (by omega)) hsm hDn
  ·exact sbB_all D n a m b i j h _ _ _ L h2 (ltK_t (by simpa using h5)) hn (by omega) hmn h4 (r3_ (by omega) rfl) (r3_ (by omega) rfl) rfl (b9_ hb (by omega)) (b9_ hb (by omega)) hsm hDn
theorem se_walk (D:List Nat)(n a m b mid lo hi:Nat)(L:List Int)(hn:n≤255)(hD:D.length=n)(hsm:SmI L)(hb:BdR D L.length)(hlh:lo≤hi)(h1:hi≤n)(h2:hi≤mid+m)(h3:mid+m≤n+lo):
    Tri (ExtK 2) p_ (.loop (z1_ p_ 84 33)) (seS D n a m b mid lo hi L) (.exit 8) (seS D n a m b mid (bsr (fun c=> !ltK L D (mid+m-1-c) c) (hi-lo) lo hi) (bsr (fun c=> !ltK L D (mid+m-1-c) c) (hi-lo) lo hi) L):=by
  have hDn:(z0_ D).length=n:=by rw[y7_];exact hD
  refine bs_walk clCm_ok (fun i j=>seS D n a m b mid i j L) (fun c=> !ltK L D (mid+m-1-c) c) lo hi (by simp) (fun i j h g1 g2 g3 g4 g5=>?_) (fun i j h g1 g2 g3 g4 g5=>?_) (fun i j h=>seZ_all D n a m b mid i j L h) hlh
  ·exact seA_all D n a m b mid i j h _ _ _ L g2 (ltK_f (by simpa using g5)) hn (by omega) (by omega) (by omega) g4 (r3_ (by omega) rfl) (r3_ (by omega) rfl) rfl (b9_ hb (by omega)) (b9_ hb (by omega)) hsm hDn
  ·exact seB_all D n a m b mid i j h _ _ _ L g2 (ltK_t (by simpa using g5)) hn (by omega) (by omega) (by omega) g4 (r3_ (by omega) rfl) (r3_ (by omega) rfl) rfl (b9_ hb (by omega)) (b9_ hb (by omega)) hsm hDn
theorem mu_walk (P V R:List Nat)(y:Nat)(n a m b v:Nat)(L:List Int)(hn:n≤255)(hl:P.length+V.length+1+R.length=n)(ha:P.length=a)(hv:v≤V.length):
    Tri (ExtK 2) p_ (.loop (z1_ p_ 84 9)) (muS (hop P V y R 0) n a m b (a+v+1) a L) (.exit 2) (muS (hop P V y R v) n a m b (a+v+1) (a+v) L):=by
  have h:=loop_upK (k:=2) mixed w6_ (b:=z1_ p_ 84 9) (fun u=>muS (hop P V y R u) n a m b (a+v+1) (a+u) L) v (e:= .exit 2) (R:=muS (hop P V y R v) n a m b (a+v+1) (a+v) L) (by simp) (fun u hu=>?_) ?_ 0 (Nat.zero_le _)
  ·exact h
  ·have hl1:=hop_len P V y R u
   have e1:=hop_at (P:=P) (U:=V) (R:=R) (y:=y) (u:=u) (i:=a+u) (by omega) (by omega)
   have e2:=hop_next (P:=P) (U:=V) (R:=R) (y:=y) (u:=u) (i:=a+u+1) (by omega) (by omega)
   have e3:=hop_up (P:=P) (U:=V) (R:=R) (y:=y) (u:=u) (i:=a+u) (by omega) (by omega)
   refine muA_all (hop P V y R u) ((hop P V y R u).set (a+u) (V.getD u 0)) (hop P V y R (u+1)) n a m b (a+v+1) (a+u) y (V.getD u 0) L (by omega) hn (by omega) (r3_ (by omega) e1) (r3_ (by omega) e2) (g3_ _ _ _ (by omega)) ?_ (by rw[y7_];omega) (by rw[y7_,List.length_set];omega)
   rw[g3_ _ _ _ (by rw[List.length_set];omega),e3]
  ·have hl1:=hop_len P V y R v
   exact muZ_all (hop P V y R v) n a m b (a+v+1) (a+v) L rfl (by omega)
theorem md_walk (P U R:List Nat)(y:Nat)(n a m b v:Nat)(L:List Int)(hn:n≤255)(hl:P.length+U.length+1+R.length=n)(ha:P.length=a)(hm:a+U.length=m)(hv:v≤U.length):
    Tri (ExtK 2) p_ (.loop (z1_ p_ 84 21)) (mdS (hop P U y R U.length) n a m b (a+v) m L) (.exit 6) (mdS (hop P U y R v) n a m b (a+v) (a+v) L):=by
  subst hm
  refine i1_ mixed w6_ (fun u=>mdS (hop P U y R u) n a (a+U.length) b (a+v) (a+u) L) (fun u=>v≤u∧u≤U.length) (fun u=>u) (fun u hu=>?_) U.length ⟨hv,Nat.le_refl _⟩
  obtain⟨h1,h2⟩:=hu
  by_cases hu:v<u
  ·obtain⟨u,rfl⟩:∃w,u=w+1:=⟨u-1,by omega⟩
   have hl1:=hop_len P U y R (u+1)
   have e1:=hop_at (P:=P) (U:=U) (R:=R) (y:=y) (u:=u+1) (i:=a+(u+1)) (by omega) (by omega)
   have e2:=hop_back (P:=P) (U:=U) (R:=R) (y:=y) (u:=u) (i:=a+(u+1)-1) (by omega) (by omega)
   have e3:=hop_down (P:=P) (U:=U) (R:=R) (y:=y) (u:=u) (i:=a+u) (by omega) (by omega)
   refine .inl ⟨u,⟨by omega,by omega⟩,by omega,?_⟩
   refine mdA_all (hop P U y R (u+1)) ((hop P U y R (u+1)).set (a+u+1) (U.getD u 0)) (hop P U y R u) n a (a+U.length) b (a+v) (a+(u+1)) y (U.getD u 0) L (by omega) hn (by omega) (r3_ (by omega) e1) (r3_ (by omega) e2) (g3_ _ _ _ (by omega)) ?_ (by rw[y7_];omega) (by rw[y7_,List.length_set];omega)
   have:=g3_ ((hop P U y R (u+1)).set (a+u+1) (U.getD u 0)) (a+u) y (by rw[List.length_set];omega)
   rw[e3]at this
   exact this
  ·have:u=v:=by omega
   subst this
   exact .inr ⟨by simp,mdZ_all (hop P U y R u) n a (a+U.length) b (a+u) (a+u) L rfl⟩
noncomputable def saLp (D:List Nat)(n a m b s:Nat)(L:List Int):Nat×Lp:=(3,⟨z1_ p_ 84 3,⟨[],[0,1,2,3,4,10,11],[0,1]⟩,saS D n a m b m b L,.exit 0,saS D n a m b s s L⟩)
noncomputable def muLp (D D2:List Nat)(n a m b i k:Nat)(L:List Int):Nat×Lp:=(9,⟨z1_ p_ 84 9,⟨[],[0,1,2,3,4,10,13],[0,1]⟩,muS D n a m b i a L,.exit 2,muS D2 n a m b i k L⟩)
noncomputable def sbLp (D:List Nat)(n a m b s:Nat)(L:List Int):Nat×Lp:=(15,⟨z1_ p_ 84 15,⟨[],[0,1,2,3,4,14,15],[0,1]⟩,sbS D n a m b a m L,.exit 4,sbS D n a m b s s L⟩)
noncomputable def mdLp (D D2:List Nat)(n a m b i:Nat)(L:List Int):Nat×Lp:=(21,⟨z1_ p_ 84 21,⟨[],[0,1,2,3,4,14,17],[0,1]⟩,mdS D n a m b i m L,.exit 6,mdS D2 n a m b i i L⟩)
noncomputable def seLp (D:List Nat)(n a m b mid lo hi s:Nat)(L:List Int):Nat×Lp:=(33,⟨z1_ p_ 84 33,⟨[],[0,1,2,3,4,18,19,20,21,22],[0,1]⟩,seS D n a m b mid lo hi L,.exit 8,seS D n a m b mid s s L⟩)
theorem sy1_all (D D2:List Nat)(n a m b s k:Nat)(L:List Int)(hn:n≤255)(h1:a+1=m)(h2:m≤n):∃(h:Hints) (p:List Prop),y5_ [] (z8_ p_ cl0 h (y1_ ([saLp D n a m b s L,muLp D D2 n a m b s k L])) 60 84 ([.sl 0 0 n,.c (.int .i64 a),.c (.int .i64 m),.c (.int .i64 b),srF]) (srH D L.length (z2_ L)))=some (.tu [],srH D2 L.length (z2_ L),p)∧z7_ p:=by
  refine⟨⟨true,(bs [(28,true)])⟩,[(i64.min:Int)≤↑m-↑a,
 (↑m-↑a:Int)≤i64.max,
 ((↑m:Int)-(↑a:Int)==(1:Int))=true,
 ((z1_ p_ (84:FuncId) (3:Nat):Go.Code))=(z1_ p_ (84:FuncId) (3:Nat)),
 ((saS D n a m b m b L:St))=(saS D n a m b m b L),
 ((z1_ p_ (84:FuncId) (9:Nat):Go.Code))=(z1_ p_ (84:FuncId) (9:Nat)),
 ((muS D n a m b s a L:St))=(muS D n a m b s a L)],by kernel_rfl,?_⟩
  all_goals try simp(disch:=omega) only[std]
  all_goals repeat' apply And.intro
  all_goals first|exact True.intro|omega|with_reducible (first|rfl|assumption)|exact h1|rfl
theorem sy2_all (D D2:List Nat)(n a m b s:Nat)(L:List Int)(hn:n≤255)(h1:¬a+1=m)(h0:a≤m)(h2:m+1=b)(h3:b≤n):∃(h:Hints) (p:List Prop),y5_ [] (z8_ p_ cl0 h (y1_ ([sbLp D n a m b s L,mdLp D D2 n a m b s L])) 60 84 ([.sl 0 0 n,.c (.int .i64 a),.c (.int .i64 m),.c (.int .i64 b),srF]) (srH D L.length (z2_ L)))=some (.tu [],srH D2 L.length (z2_ L),p)∧z7_ p:=by
  refine⟨⟨true,(bs [(28,false),(80,true)])⟩,[(i64.min:Int)≤↑m-↑a,
 (↑m-↑a:Int)≤i64.max,
 ((↑m:Int)-(↑a:Int)==(1:Int))=false,
 (i64.min:Int)≤↑b-↑m,
 (↑b-↑m:Int)≤i64.max,
 ((↑b:Int)-(↑m:Int)==(1:Int))=true,
 ((z1_ p_ (84:FuncId) (15:Nat):Go.Code))=(z1_ p_ (84:FuncId) (15:Nat)),
 ((sbS D n a m b a m L:St))=(sbS D n a m b a m L),
 ((z1_ p_ (84:FuncId) (21:Nat):Go.Code))=(z1_ p_ (84:FuncId) (21:Nat)),
 ((mdS D n a m b s m L:St))=(mdS D n a m b s m L)],by kernel_rfl,?_⟩
  all_goals try simp(disch:=omega) only[std]
  all_goals repeat' apply And.intro
  all_goals first|exact True.intro|omega|with_reducible (first|rfl|assumption)|exact h1|exact h2|rfl
end Go.Proofs.YtmjldphagbobpaaDoor
namespace Go.Proofs.YtmjldphagbobpaaDoor
open IntKind (i64 u8 i32 u32 u64)
open _root_.Go.Proofs.Tryd renaming prog→p_
open Go.RowKit Srt
def t8_ (L:List Int)(D:List Nat)(a b:Nat):Prop:=Sor (x2_ L) (seg D a b)
def LtR (D:List Nat)(a m b:Nat):Prop:=∀x∈seg D a m,∀y∈seg D m b,x<y
def soD (L:List Int)(D:List Nat)(a b:Nat):List Nat:=put D a b (so (x2_ L) (seg D a b))
def symSpec (K:Nat):HSpec
  | [.sl 0 0 n,.c (.int .i64 a),.c (.int .i64 m),.c (.int .i64 b),.fn f [.pt 1 0]],[some ⟨t,false,C⟩,some ⟨t2,true,[.fs s k l]⟩]=>if(t=3∧t2=27)∧(f=73∧s=1)then
      some (.tu [],srH (soD (unI l) (z5_ C) a.toNat b.toNat) k l,[C=z0_ (z5_ C),(z5_ C).length=n,n≤255,0≤a,a<m,m<b,b≤n,l=z2_ (unI l),k=(unI l).length,SmI (unI l),BdR (z5_ C) k,t8_ (unI l) (z5_ C) a.toNat m.toNat,t8_ (unI l) (z5_ C) m.toNat b.toNat,LtR (z5_ C) a.toNat m.toNat b.toNat,b-a<K])else none
  |_,_=>none
noncomputable def clSy (K:Nat):CallT:=p3_ p_ (r4_ [(73,cmpSpec)]) (m0_ [(85,rotSpec),(84,symSpec K)]) 500 8
noncomputable def sy3T_B (K n a m b s e mid:Nat)(D D1 D2 D3:List Nat)(L:List Int):List (Nat×Hint):=bs [(28,false),(80,false),(140,true)]++[(131,⟨.c (.int .i64 (a+b:Nat)),none⟩),(132,⟨.c (.int .u64 (a+b:Nat)),none⟩),(133,⟨.c (.int .u64 mid),none⟩),(134,⟨.c (.int .i64 mid),none⟩),(137,⟨.c (.int .i64 (mid+m:Nat)),none⟩),(143,⟨.c (.int .i64 (mid+m-b:Nat)),none⟩),(148,⟨.c (.int .i64 (mid+m-1:Nat)),none⟩),(177,⟨.c (.int .i64 e),none⟩)]
theorem sy3T_all (K n a m b s e mid:Nat)(D D1 D2 D3:List Nat)(L:List Int)(h40:mid<m)(hn:n≤255)(g1:a+1<m)(g2:m+1<b)(g3:b≤n)(hmid:(a+b)/2=mid)(he:s+e=mid+m)(hbs:b≤mid+m∨m≤mid)(q1:a≤s)(q2:s≤m)(q3:s≤mid)(q4:e≤b)(n1:¬(s<m∧m<e)→D1=D)(n2:¬(a<s∧s<mid)→D2=D1)(n3:¬(mid<e∧e<b)→D3=D2)(hD1:u6_ D s m e=D1)(hD2:soD L D1 a mid=D2)(hD3:soD L D2 mid b=D3)(l0:D.length=n)(l1:D1.length=n)(l2:D2.length=n)(b1:BdR D1 L.length)(b2:BdR D2 L.length)(hsm:SmI L)(k1:t8_ L D1 a s)(k2:t8_ L D1 s mid)(k3:LtR D1 a s mid)(k4:t8_ L D2 mid e)(k5:t8_ L D2 e b)(k6:LtR D2 mid e b)(hK:b≤a+K):∃(h:Hints) (p:List Prop),y5_ [] (z8_ p_ (clSy K) h (y1_ ([seLp D n a m b mid (mid+m-b) mid s L])) 60 84 ([.sl 0 0 n,.c (.int .i64 a),.c (.int .i64 m),.c (.int .i64 b),srF]) (srH D L.length (z2_ L)))=some (.tu [],srH D3 L.length (z2_ L),p)∧z7_ p:=by
  refine v0_ (decide ((↑m:Int)<(↑e:Int))) (fun hc184=>v0_ (decide ((↑a:Int)<(↑s:Int))) (fun hc194=>v0_ (decide ((↑e:Int)<(↑b:Int))) (fun hc212=>⟨⟨true,bs [(180,true),(184,true),(194,true),(198,true),(208,true),(212,true)]++sy3T_B K n a m b s e mid D D1 D2 D3 L⟩,[(i64.min:Int)≤↑m-↑a,
 (↑m-↑a:Int)≤i64.max,
 ((↑m:Int)-(↑a:Int)==(1:Int))=false,
 (i64.min:Int)≤↑b-↑m,
 (↑b-↑m:Int)≤i64.max,
 ((↑b:Int)-(↑m:Int)==(1:Int))=false,
 (i64.min:Int)≤↑a+↑b,
 (↑a+↑b:Int)≤i64.max,
 (↑a+↑b:Int)=↑(a+b),
 ((u64.wrap (↑(a+b):Int):Int))=((↑(a+b):Int)),
 (((↑(a+b):Int).fdiv ((2:Int)^(1:Nat)):Int))=((↑mid:Int)),
 ((i64.wrap (↑mid:Int):Int))=((↑mid:Int)),
 (i64.min:Int)≤↑mid+↑m,
 (↑mid+↑m:Int)≤i64.max,
 (↑mid+↑m:Int)=↑(mid+m),
 decide ((↑m:Int)>↑mid)=true,
 (i64.min:Int)≤↑(mid+m)-↑b,
 (↑(mid+m)-↑b:Int)≤i64.max,
 (↑(mid+m)-↑b:Int)=↑(mid+m-b),
 (i64.min:Int)≤↑(mid+m)-1,
 (↑(mid+m)-1:Int)≤i64.max,
 (↑(mid+m)-1:Int)=↑(mid+m-1),
 ((z1_ p_ (84:FuncId) (33:Nat):Go.Code))=(z1_ p_ (84:FuncId) (33:Nat)),
 ((seS D n a m b mid (mid+m-b) mid L:St))=(seS D n a m b mid (mid+m-b) mid L),
 (i64.min:Int)≤↑(mid+m)-↑s,
 (↑(mid+m)-↑s:Int)≤i64.max,
 (↑(mid+m)-↑s:Int)=↑e,
 decide ((↑s:Int)<↑m)=true,
 decide ((↑m:Int)<↑e)=true,
 ((z0_ D:List AV))=(z0_ (z5_ (z0_ D))),
 (((z5_ (z0_ D)).length:Nat))=(n),
 ((n:Nat)≤((255:Nat))),
 (0:Int)≤↑s,
 (↑s:Int)<↑m,
 (↑m:Int)<↑e,
 (↑e:Int)≤↑n,
 decide ((↑a:Int)<↑s)=true,
 decide ((↑s:Int)<↑mid)=true,
 ((z0_ (u6_ (z5_ (z0_ D)) s m e):List AV))=(z0_ (z5_ (z0_ (u6_ (z5_ (z0_ D)) s m e)))),
 (((z5_ (z0_ (u6_ (z5_ (z0_ D)) s m e))).length:Nat))=(n),
 ((n:Nat)≤((255:Nat))),
 (0:Int)≤↑a,
 (↑a:Int)<↑s,
 (↑s:Int)<↑mid,
 (↑mid:Int)≤↑n,
 ((z2_ L:List AV))=(z2_ (unI (z2_ L))),
 ((L.length:Nat))=((unI (z2_ L)).length),
 SmI (unI (z2_ L)),
 BdR (z5_ (z0_ (u6_ (z5_ (z0_ D)) s m e))) L.length,
 t8_ (unI (z2_ L)) (z5_ (z0_ (u6_ (z5_ (z0_ D)) s m e))) a s,
 t8_ (unI (z2_ L)) (z5_ (z0_ (u6_ (z5_ (z0_ D)) s m e))) s mid,
 LtR (z5_ (z0_ (u6_ (z5_ (z0_ D)) s m e))) a s mid,
 (↑mid-↑a:Int)<↑K,
 decide ((↑mid:Int)<↑e)=true,
 decide ((↑e:Int)<↑b)=true,
 ((z0_ (soD (unI (z2_ L)) (z5_ (z0_ (u6_ (z5_ (z0_ D)) s m e))) a mid):List AV))=(z0_ (z5_ (z0_ (soD (unI (z2_ L)) (z5_ (z0_ (u6_ (z5_ (z0_ D)) s m e))) a mid)))),
 (((z5_ (z0_ (soD (unI (z2_ L)) (z5_ (z0_ (u6_ (z5_ (z0_ D)) s m e))) a mid))).length:Nat))=(n),
 ((n:Nat)≤((255:Nat))),
 (0:Int)≤↑mid,
 (↑mid:Int)<↑e,
 (↑e:Int)<↑b,
 (↑b:Int)≤↑n,
 ((z2_ L:List AV))=(z2_ (unI (z2_ L))),
 ((L.length:Nat))=((unI (z2_ L)).length),
 SmI (unI (z2_ L)),
 BdR (z5_ (z0_ (soD (unI (z2_ L)) (z5_ (z0_ (u6_ (z5_ (z0_ D)) s m e))) a mid))) L.length,
 t8_ (unI (z2_ L)) (z5_ (z0_ (soD (unI (z2_ L)) (z5_ (z0_ (u6_ (z5_ (z0_ D)) s m e))) a mid))) mid e,
 t8_ (unI (z2_ L)) (z5_ (z0_ (soD (unI (z2_ L)) (z5_ (z0_ (u6_ (z5_ (z0_ D)) s m e))) a mid))) e b,
 LtR (z5_ (z0_ (soD (unI (z2_ L)) (z5_ (z0_ (u6_ (z5_ (z0_ D)) s m e))) a mid))) mid e b,
 (↑b-↑mid:Int)<↑K],Eq.trans (b:=some ((AV.tu []),[(.some ⟨3,false,(z0_
  (soD (unI (z2_ L)) (z5_ (z0_ (soD (unI (z2_ L)) (z5_ (z0_ (u6_ (z5_ (z0_ D)) s m e))) a mid))) mid b))⟩),
 (.some ⟨27,true,[(AV.fs 1 L.length (z2_ L))]⟩)],_)) (by kernel_rfl) (congrArg (fun r:AV×Heap=>some (r.1,r.2,_)) (a₁:=(_,_)) (a₂:=(_,_)) ?_),?_⟩)
    (fun hc212=>⟨⟨true,bs [(180,true),(184,true),(194,true),(198,true),(208,true),(212,false)]++sy3T_B K n a m b s e mid D D1 D2 D3 L⟩,[(i64.min:Int)≤↑m-↑a,
 (↑m-↑a:Int)≤i64.max,
 ((↑m:Int)-(↑a:Int)==(1:Int))=false,
 (i64.min:Int)≤↑b-↑m,
 (↑b-↑m:Int)≤i64.max,
 ((↑b:Int)-(↑m:Int)==(1:Int))=false,
 (i64.min:Int)≤↑a+↑b,
 (↑a+↑b:Int)≤i64.max,
 (↑a+↑b:Int)=↑(a+b),
 ((u64.wrap (↑(a+b):Int):Int))=((↑(a+b):Int)),
 (((↑(a+b):Int).fdiv ((2:Int)^(1:Nat)):Int))=((↑mid:Int)),
 ((i64.wrap (↑mid:Int):Int))=((↑mid:Int)),
 (i64.min:Int)≤↑mid+↑m,
 (↑mid+↑m:Int)≤i64.max,
 (↑mid+↑m:Int)=↑(mid+m),
 decide ((↑m:Int)>↑mid)=true,
 (i64.min:Int)≤↑(mid+m)-↑b,
 (↑(mid+m)-↑b:Int)≤i64.max,
 (↑(mid+m)-↑b:Int)=↑(mid+m-b),
 (i64.min:Int)≤↑(mid+m)-1,
 (↑(mid+m)-1:Int)≤i64.max,
 (↑(mid+m)-1:Int)=↑(mid+m-1),
 ((z1_ p_ (84:FuncId) (33:Nat):Go.Code))=(z1_ p_ (84:FuncId) (33:Nat)),
 ((seS D n a m b mid (mid+m-b) mid L:St))=(seS D n a m b mid (mid+m-b) mid L),
 (i64.min:Int)≤↑(mid+m)-↑s,
 (↑(mid+m)-↑s:Int)≤i64.max,
 (↑(mid+m)-↑s:Int)=↑e,
 decide ((↑s:Int)<↑m)=true,
 decide ((↑m:Int)<↑e)=true,
 ((z0_ D:List AV))=(z0_ (z5_ (z0_ D))),
 (((z5_ (z0_ D)).length:Nat))=(n),
 ((n:Nat)≤((255:Nat))),
 (0:Int)≤↑s,
 (↑s:Int)<↑m,
 (↑m:Int)<↑e,
 (↑e:Int)≤↑n,
 decide ((↑a:Int)<↑s)=true,
 decide ((↑s:Int)<↑mid)=true,
 ((z0_ (u6_ (z5_ (z0_ D)) s m e):List AV))=(z0_ (z5_ (z0_ (u6_ (z5_ (z0_ D)) s m e)))),
 (((z5_ (z0_ (u6_ (z5_ (z0_ D)) s m e))).length:Nat))=(n),
 ((n:Nat)≤((255:Nat))),
 (0:Int)≤↑a,
 (↑a:Int)<↑s,
 (↑s:Int)<↑mid,
 (↑mid:Int)≤↑n,
 ((z2_ L:List AV))=(z2_ (unI (z2_ L))),
 ((L.length:Nat))=((unI (z2_ L)).length),
 SmI (unI (z2_ L)),
 BdR (z5_ (z0_ (u6_ (z5_ (z0_ D)) s m e))) L.length,
 t8_ (unI (z2_ L)) (z5_ (z0_ (u6_ (z5_ (z0_ D)) s m e))) a s,
 t8_ (unI (z2_ L)) (z5_ (z0_ (u6_ (z5_ (z0_ D)) s m e))) s mid,
 LtR (z5_ (z0_ (u6_ (z5_ (z0_ D)) s m e))) a s mid,
 (↑mid-↑a:Int)<↑K,
 decide ((↑mid:Int)<↑e)=true,
 decide ((↑e:Int)<↑b)=false],Eq.trans (b:=some ((AV.tu []),[(.some ⟨3,false,(z0_ (soD (unI (z2_ L)) (z5_ (z0_ (u6_ (z5_ (z0_ D)) s m e))) a mid))⟩),
 (.some ⟨27,true,[(AV.fs 1 L.length (z2_ L))]⟩)],_)) (by kernel_rfl) (congrArg (fun r:AV×Heap=>some (r.1,r.2,_)) (a₁:=(_,_)) (a₂:=(_,_)) ?_),?_⟩))
    (fun hc194=>⟨⟨true,bs [(180,true),(184,true),(194,false),(208,true),(212,false)]++sy3T_B K n a m b s e mid D D1 D2 D3 L⟩,[(i64.min:Int)≤↑m-↑a,
 (↑m-↑a:Int)≤i64.max,
 ((↑m:Int)-(↑a:Int)==(1:Int))=false,
 (i64.min:Int)≤↑b-↑m,
 (↑b-↑m:Int)≤i64.max,
 ((↑b:Int)-(↑m:Int)==(1:Int))=false,
 (i64.min:Int)≤↑a+↑b,
 (↑a+↑b:Int)≤i64.max,
 (↑a+↑b:Int)=↑(a+b),
 ((u64.wrap (↑(a+b):Int):Int))=((↑(a+b):Int)),
 (((↑(a+b):Int).fdiv ((2:Int)^(1:Nat)):Int))=((↑mid:Int)),
 ((i64.wrap (↑mid:Int):Int))=((↑mid:Int)),
 (i64.min:Int)≤↑mid+↑m,
 (↑mid+↑m:Int)≤i64.max,
 (↑mid+↑m:Int)=↑(mid+m),
 decide ((↑m:Int)>↑mid)=true,
 (i64.min:Int)≤↑(mid+m)-↑b,
 (↑(mid+m)-↑b:Int)≤i64.max,
 (↑(mid+m)-↑b:Int)=↑(mid+m-b),
 (i64.min:Int)≤↑(mid+m)-1,
 (↑(mid+m)-1:Int)≤i64.max,
 (↑(mid+m)-1:Int)=↑(mid+m-1),
 ((z1_ p_ (84:FuncId) (33:Nat):Go.Code))=(z1_ p_ (84:FuncId) (33:Nat)),
 ((seS D n a m b mid (mid+m-b) mid L:St))=(seS D n a m b mid (mid+m-b) mid L),
 (i64.min:Int)≤↑(mid+m)-↑s,
 (↑(mid+m)-↑s:Int)≤i64.max,
 (↑(mid+m)-↑s:Int)=↑e,
 decide ((↑s:Int)<↑m)=true,
 decide ((↑m:Int)<↑e)=true,
 ((z0_ D:List AV))=(z0_ (z5_ (z0_ D))),
 (((z5_ (z0_ D)).length:Nat))=(n),
 ((n:Nat)≤((255:Nat))),
 (0:Int)≤↑s,
 (↑s:Int)<↑m,
 (↑m:Int)<↑e,
 (↑e:Int)≤↑n,
 decide ((↑a:Int)<↑s)=false,
 decide ((↑mid:Int)<↑e)=true,
 decide ((↑e:Int)<↑b)=false],Eq.trans (b:=some ((AV.tu []),[(.some ⟨3,false,(z0_ (u6_ (z5_ (z0_ D)) s m e))⟩),
 (.some ⟨27,true,[(AV.fs 1 L.length (z2_ L))]⟩)],_)) (by kernel_rfl) (congrArg (fun r:AV×Heap=>some (r.1,r.2,_)) (a₁:=(_,_)) (a₂:=(_,_)) ?_),?_⟩))
    (fun hc184=>⟨⟨true,bs [(180,true),(184,false),(194,true),(198,false),(208,true),(212,true)]++sy3T_B K n a m b s e mid D D1 D2 D3 L⟩,[(i64.min:Int)≤↑m-↑a,
 (↑m-↑a:Int)≤i64.max,
 ((↑m:Int)-(↑a:Int)==(1:Int))=false,
 (i64.min:Int)≤↑b-↑m,
 (↑b-↑m:Int)≤i64.max,
 ((↑b:Int)-(↑m:Int)==(1:Int))=false,
 (i64.min:Int)≤↑a+↑b,
 (↑a+↑b:Int)≤i64.max,
 (↑a+↑b:Int)=↑(a+b),
 ((u64.wrap (↑(a+b):Int):Int))=((↑(a+b):Int)),
 (((↑(a+b):Int).fdiv ((2:Int)^(1:Nat)):Int))=((↑mid:Int)),
 ((i64.wrap (↑mid:Int):Int))=((↑mid:Int)),
 (i64.min:Int)≤↑mid+↑m,
 (↑mid+↑m:Int)≤i64.max,
 (↑mid+↑m:Int)=↑(mid+m),
 decide ((↑m:Int)>↑mid)=true,
 (i64.min:Int)≤↑(mid+m)-↑b,
 (↑(mid+m)-↑b:Int)≤i64.max,
 (↑(mid+m)-↑b:Int)=↑(mid+m-b),
 (i64.min:Int)≤↑(mid+m)-1,
 (↑(mid+m)-1:Int)≤i64.max,
 (↑(mid+m)-1:Int)=↑(mid+m-1),
 ((z1_ p_ (84:FuncId) (33:Nat):Go.Code))=(z1_ p_ (84:FuncId) (33:Nat)),
 ((seS D n a m b mid (mid+m-b) mid L:St))=(seS D n a m b mid (mid+m-b) mid L),
 (i64.min:Int)≤↑(mid+m)-↑s,
 (↑(mid+m)-↑s:Int)≤i64.max,
 (↑(mid+m)-↑s:Int)=↑e,
 decide ((↑s:Int)<↑m)=true,
 decide ((↑m:Int)<↑e)=false,
 decide ((↑a:Int)<↑s)=true,
 decide ((↑s:Int)<↑mid)=false,
 decide ((↑mid:Int)<↑e)=true,
 decide ((↑e:Int)<↑b)=true,
 ((z0_ D:List AV))=(z0_ (z5_ (z0_ D))),
 (((z5_ (z0_ D)).length:Nat))=(n),
 ((n:Nat)≤((255:Nat))),
 (0:Int)≤↑mid,
 (↑mid:Int)<↑e,
 (↑e:Int)<↑b,
 (↑b:Int)≤↑n,
 ((z2_ L:List AV))=(z2_ (unI (z2_ L))),
 ((L.length:Nat))=((unI (z2_ L)).length),
 SmI (unI (z2_ L)),
 BdR (z5_ (z0_ D)) L.length,
 t8_ (unI (z2_ L)) (z5_ (z0_ D)) mid e,
 t8_ (unI (z2_ L)) (z5_ (z0_ D)) e b,
 LtR (z5_ (z0_ D)) mid e b,
 (↑b-↑mid:Int)<↑K],Eq.trans (b:=some ((AV.tu []),[(.some ⟨3,false,(z0_ (soD (unI (z2_ L)) (z5_ (z0_ D)) mid b))⟩),
 (.some ⟨27,true,[(AV.fs 1 L.length (z2_ L))]⟩)],_)) (by kernel_rfl) (congrArg (fun r:AV×Heap=>some (r.1,r.2,_)) (a₁:=(_,_)) (a₂:=(_,_)) ?_),?_⟩)
  all_goals try simp only[dz]at hc184
  all_goals try simp only[dz]at hc194
  all_goals try simp only[dz]at hc212
  all_goals first|(refine(have hq:=n1 ?_;?_);(focus omega);subst hq)|skip
  all_goals first|(refine(have hq:=n2 ?_;?_);(focus omega);subst hq)|skip
  all_goals first|(refine(have hq:=n3 ?_;?_);(focus omega);subst hq)|skip
  any_goals(
    simp(disch:=omega) only[std,w9_,v8_,hD1,hD2,hD3]
    first|done|rfl
    done)
  all_goals try simp(disch:=omega) only[std,u64w,shr1,w9_,v8_,hD1,hD2,hD3]
  all_goals repeat' apply And.intro
  all_goals first|exact True.intro|omega|with_reducible (first|rfl|assumption)|exact hmid|exact he|exact hD1|exact hD2|exact hD3|exact l0|exact l1|exact l2|exact b1|exact b2|exact hsm|exact k1|exact k2|exact k3|exact k4|exact k5|exact k6|rfl
noncomputable def sy3F_B (K n a m b s e mid:Nat)(D D1 D2 D3:List Nat)(L:List Int):List (Nat×Hint):=bs [(28,false),(80,false),(140,false)]++[(131,⟨.c (.int .i64 (a+b:Nat)),none⟩),(132,⟨.c (.int .u64 (a+b:Nat)),none⟩),(133,⟨.c (.int .u64 mid),none⟩),(134,⟨.c (.int .i64 mid),none⟩),(137,⟨.c (.int .i64 (mid+m:Nat)),none⟩),(143,⟨.c (.int .i64 (mid+m-b:Nat)),none⟩),(148,⟨.c (.int .i64 (mid+m-1:Nat)),none⟩),(177,⟨.c (.int .i64 e),none⟩)]
theorem sy3F_all (K n a m b s e mid:Nat)(D D1 D2 D3:List Nat)(L:List Int)(h40:m≤mid)(hn:n≤255)(g1:a+1<m)(g2:m+1<b)(g3:b≤n)(hmid:(a+b)/2=mid)(he:s+e=mid+m)(hbs:b≤mid+m∨m≤mid)(q1:a≤s)(q2:s≤m)(q3:s≤mid)(q4:e≤b)(n1:¬(s<m∧m<e)→D1=D)(n2:¬(a<s∧s<mid)→D2=D1)(n3:¬(mid<e∧e<b)→D3=D2)(hD1:u6_ D s m e=D1)(hD2:soD L D1 a mid=D2)(hD3:soD L D2 mid b=D3)(l0:D.length=n)(l1:D1.length=n)(l2:D2.length=n)(b1:BdR D1 L.length)(b2:BdR D2 L.length)(hsm:SmI L)(k1:t8_ L D1 a s)(k2:t8_ L D1 s mid)(k3:LtR D1 a s mid)(k4:t8_ L D2 mid e)(k5:t8_ L D2 e b)(k6:LtR D2 mid e b)(hK:b≤a+K):∃(h:Hints) (p:List Prop),y5_ [] (z8_ p_ (clSy K) h (y1_ ([seLp D n a m b mid a m s L])) 60 84 ([.sl 0 0 n,.c (.int .i64 a),.c (.int .i64 m),.c (.int .i64 b),srF]) (srH D L.length (z2_ L)))=some (.tu [],srH D3 L.length (z2_ L),p)∧z7_ p:=by
  refine v0_ (decide ((↑s:Int)<(↑m:Int))) (fun hc180=>v0_ (decide ((↑a:Int)<(↑s:Int))) (fun hc194=>⟨⟨true,bs [(180,true),(184,true),(194,true),(198,true),(208,true),(212,true)]++sy3F_B K n a m b s e mid D D1 D2 D3 L⟩,[(i64.min:Int)≤↑m-↑a,
 (↑m-↑a:Int)≤i64.max,
 ((↑m:Int)-(↑a:Int)==(1:Int))=false,
 (i64.min:Int)≤↑b-↑m,
 (↑b-↑m:Int)≤i64.max,
 ((↑b:Int)-(↑m:Int)==(1:Int))=false,
 (i64.min:Int)≤↑a+↑b,
 (↑a+↑b:Int)≤i64.max,
 (↑a+↑b:Int)=↑(a+b),
 ((u64.wrap (↑(a+b):Int):Int))=((↑(a+b):Int)),
 (((↑(a+b):Int).fdiv ((2:Int)^(1:Nat)):Int))=((↑mid:Int)),
 ((i64.wrap (↑mid:Int):Int))=((↑mid:Int)),
 (i64.min:Int)≤↑mid+↑m,
 (↑mid+↑m:Int)≤i64.max,
 (↑mid+↑m:Int)=↑(mid+m),
 decide ((↑m:Int)>↑mid)=false,
 (i64.min:Int)≤↑(mid+m)-1,
 (↑(mid+m)-1:Int)≤i64.max,
 (↑(mid+m)-1:Int)=↑(mid+m-1),
 ((z1_ p_ (84:FuncId) (33:Nat):Go.Code))=(z1_ p_ (84:FuncId) (33:Nat)),
 ((seS D n a m b mid a m L:St))=(seS D n a m b mid a m L),
 (i64.min:Int)≤↑(mid+m)-↑s,
 (↑(mid+m)-↑s:Int)≤i64.max,
 (↑(mid+m)-↑s:Int)=↑e,
 decide ((↑s:Int)<↑m)=true,
 decide ((↑m:Int)<↑e)=true,
 ((z0_ D:List AV))=(z0_ (z5_ (z0_ D))),
 (((z5_ (z0_ D)).length:Nat))=(n),
 ((n:Nat)≤((255:Nat))),
 (0:Int)≤↑s,
 (↑s:Int)<↑m,
 (↑m:Int)<↑e,
 (↑e:Int)≤↑n,
 decide ((↑a:Int)<↑s)=true,
 decide ((↑s:Int)<↑mid)=true,
 ((z0_ (u6_ (z5_ (z0_ D)) s m e):List AV))=(z0_ (z5_ (z0_ (u6_ (z5_ (z0_ D)) s m e)))),
 (((z5_ (z0_ (u6_ (z5_ (z0_ D)) s m e))).length:Nat))=(n),
 ((n:Nat)≤((255:Nat))),
 (0:Int)≤↑a,
 (↑a:Int)<↑s,
 (↑s:Int)<↑mid,
 (↑mid:Int)≤↑n,
 ((z2_ L:List AV))=(z2_ (unI (z2_ L))),
 ((L.length:Nat))=((unI (z2_ L)).length),
 SmI (unI (z2_ L)),
 BdR (z5_ (z0_ (u6_ (z5_ (z0_ D)) s m e))) L.length,
 t8_ (unI (z2_ L)) (z5_ (z0_ (u6_ (z5_ (z0_ D)) s m e))) a s,
 t8_ (unI (z2_ L)) (z5_ (z0_ (u6_ (z5_ (z0_ D)) s m e))) s mid,
 LtR (z5_ (z0_ (u6_ (z5_ (z0_ D)) s m e))) a s mid,
 (↑mid-↑a:Int)<↑K,
 decide ((↑mid:Int)<↑e)=true,
 decide ((↑e:Int)<↑b)=true,
 ((z0_ (soD (unI (z2_ L)) (z5_ (z0_ (u6_ (z5_ (z0_ D)) s m e))) a mid):List AV))=(z0_ (z5_ (z0_ (soD (unI (z2_ L)) (z5_ (z0_ (u6_ (z5_ (z0_ D)) s m e))) a mid)))),
 (((z5_ (z0_ (soD (unI (z2_ L)) (z5_ (z0_ (u6_ (z5_ (z0_ D)) s m e))) a mid))).length:Nat))=(n),
 ((n:Nat)≤((255:Nat))),
 (0:Int)≤↑mid,
 (↑mid:Int)<↑e,
 (↑e:Int)<↑b,
 (↑b:Int)≤↑n,
 ((z2_ L:List AV))=(z2_ (unI (z2_ L))),
 ((L.length:Nat))=((unI (z2_ L)).length),
 SmI (unI (z2_ L)),
 BdR (z5_ (z0_ (soD (unI (z2_ L)) (z5_ (z0_ (u6_ (z5_ (z0_ D)) s m e))) a mid))) L.length,
 t8_ (unI (z2_ L)) (z5_ (z0_ (soD (unI (z2_ L)) (z5_ (z0_ (u6_ (z5_ (z0_ D)) s m e))) a mid))) mid e,
 t8_ (unI (z2_ L)) (z5_ (z0_ (soD (unI (z2_ L)) (z5_ (z0_ (u6_ (z5_ (z0_ D)) s m e))) a mid))) e b,
 LtR (z5_ (z0_ (soD (unI (z2_ L)) (z5_ (z0_ (u6_ (z5_ (z0_ D)) s m e))) a mid))) mid e b,
 (↑b-↑mid:Int)<↑K],Eq.trans (b:=some ((AV.tu []),[(.some ⟨3,false,(z0_
  (soD (unI (z2_ L)) (z5_ (z0_ (soD (unI (z2_ L)) (z5_ (z0_ (u6_ (z5_ (z0_ D)) s m e))) a mid))) mid b))⟩),
 (.some ⟨27,true,[(AV.fs 1 L.length (z2_ L))]⟩)],_)) (by kernel_rfl) (congrArg (fun r:AV×Heap=>some (r.1,r.2,_)) (a₁:=(_,_)) (a₂:=(_,_)) ?_),?_⟩)
    (fun hc194=>v0_ (decide ((↑e:Int)<(↑b:Int))) (fun hc212=>⟨⟨true,bs [(180,true),(184,true),(194,false),(208,true),(212,true)]++sy3F_B K n a m b s e mid D D1 D2 D3 L⟩,[(i64.min:Int)≤↑m-↑a,
 (↑m-↑a:Int)≤i64.max,
 ((↑m:Int)-(↑a:Int)==(1:Int))=false,
 (i64.min:Int)≤↑b-↑m,
 (↑b-↑m:Int)≤i64.max,
 ((↑b:Int)-(↑m:Int)==(1:Int))=false,
 (i64.min:Int)≤↑a+↑b,
 (↑a+↑b:Int)≤i64.max,
 (↑a+↑b:Int)=↑(a+b),
 ((u64.wrap (↑(a+b):Int):Int))=((↑(a+b):Int)),
 (((↑(a+b):Int).fdiv ((2:Int)^(1:Nat)):Int))=((↑mid:Int)),
 ((i64.wrap (↑mid:Int):Int))=((↑mid:Int)),
 (i64.min:Int)≤↑mid+↑m,
 (↑mid+↑m:Int)≤i64.max,
 (↑mid+↑m:Int)=↑(mid+m),
 decide ((↑m:Int)>↑mid)=false,
 (i64.min:Int)≤↑(mid+m)-1,
 (↑(mid+m)-1:Int)≤i64.max,
 (↑(mid+m)-1:Int)=↑(mid+m-1),
 ((z1_ p_ (84:FuncId) (33:Nat):Go.Code))=(z1_ p_ (84:FuncId) (33:Nat)),
 ((seS D n a m b mid a m L:St))=(seS D n a m b mid a m L),
 (i64.min:Int)≤↑(mid+m)-↑s,
 (↑(mid+m)-↑s:Int)≤i64.max,
 (↑(mid+m)-↑s:Int)=↑e,
 decide ((↑s:Int)<↑m)=true,
 decide ((↑m:Int)<↑e)=true,
 ((z0_ D:List AV))=(z0_ (z5_ (z0_ D))),
 (((z5_ (z0_ D)).length:Nat))=(n),
 ((n:Nat)≤((255:Nat))),
 (0:Int)≤↑s,
 (↑s:Int)<↑m,
 (↑m:Int)<↑e,
 (↑e:Int)≤↑n,
 decide ((↑a:Int)<↑s)=false,
 decide ((↑mid:Int)<↑e)=true,
 decide ((↑e:Int)<↑b)=true,
 ((z0_ (u6_ (z5_ (z0_ D)) s m e):List AV))=(z0_ (z5_ (z0_ (u6_ (z5_ (z0_ D)) s m e)))),
 (((z5_ (z0_ (u6_ (z5_ (z0_ D)) s m e))).length:Nat))=(n),
 ((n:Nat)≤((255:Nat))),
 (0:Int)≤↑mid,
 (↑mid:Int)<↑e,
 (↑e:Int)<↑b,
 (↑b:Int)≤↑n,
 ((z2_ L:List AV))=(z2_ (unI (z2_ L))),
 ((L.length:Nat))=((unI (z2_ L)).length),
 SmI (unI (z2_ L)),
 BdR (z5_ (z0_ (u6_ (z5_ (z0_ D)) s m e))) L.length,
 t8_ (unI (z2_ L)) (z5_ (z0_ (u6_ (z5_ (z0_ D)) s m e))) mid e,
 t8_ (unI (z2_ L)) (z5_ (z0_ (u6_ (z5_ (z0_ D)) s m e))) e b,
 LtR (z5_ (z0_ (u6_ (z5_ (z0_ D)) s m e))) mid e b,
 (↑b-↑mid:Int)<↑K],Eq.trans (b:=some ((AV.tu []),[(.some ⟨3,false,(z0_ (soD (unI (z2_ L)) (z5_ (z0_ (u6_ (z5_ (z0_ D)) s m e))) mid b))⟩),
 (.some ⟨27,true,[(AV.fs 1 L.length (z2_ L))]⟩)],_)) (by kernel_rfl) (congrArg (fun r:AV×Heap=>some (r.1,r.2,_)) (a₁:=(_,_)) (a₂:=(_,_)) ?_),?_⟩)
    (fun hc212=>⟨⟨true,bs [(180,true),(184,true),(194,false),(208,true),(212,false)]++sy3F_B K n a m b s e mid D D1 D2 D3 L⟩,[(i64.min:Int)≤↑m-↑a,
 (↑m-↑a:Int)≤i64.max,
 ((↑m:Int)-(↑a:Int)==(1:Int))=false,
 (i64.min:Int)≤↑b-↑m,
 (↑b-↑m:Int)≤i64.max,
 ((↑b:Int)-(↑m:Int)==(1:Int))=false,
 (i64.min:Int)≤↑a+↑b,
 (↑a+↑b:Int)≤i64.max,
 (↑a+↑b:Int)=↑(a+b),
 ((u64.wrap (↑(a+b):Int):Int))=((↑(a+b):Int)),
 (((↑(a+b):Int).fdiv ((2:Int)^(1:Nat)):Int))=((↑mid:Int)),
 ((i64.wrap (↑mid:Int):Int))=((↑mid:Int)),
 (i64.min:Int)≤↑mid+↑m,
 (↑mid+↑m:Int)≤i64.max,
 (↑mid+↑m:Int)=↑(mid+m),
 decide ((↑m:Int)>↑mid)=false,
 (i64.min:Int)≤↑(mid+m)-1,
 (↑(mid+m)-1:Int)≤i64.max,
 (↑(mid+m)-1:Int)=↑(mid+m-1),
 ((z1_ p_ (84:FuncId) (33:Nat):Go.Code))=(z1_ p_ (84:FuncId) (33:Nat)),
 ((seS D n a m b mid a m L:St))=(seS D n a m b mid a m L),
 (i64.min:Int)≤↑(mid+m)-↑s,
 (↑(mid+m)-↑s:Int)≤i64.max,
 (↑(mid+m)-↑s:Int)=↑e,
 decide ((↑s:Int)<↑m)=true,
 decide ((↑m:Int)<↑e)=true,
 ((z0_ D:List AV))=(z0_ (z5_ (z0_ D))),
 (((z5_ (z0_ D)).length:Nat))=(n),
 ((n:Nat)≤((255:Nat))),
 (0:Int)≤↑s,
 (↑s:Int)<↑m,
 (↑m:Int)<↑e,
 (↑e:Int)≤↑n,
 decide ((↑a:Int)<↑s)=false,
 decide ((↑mid:Int)<↑e)=true,
 decide ((↑e:Int)<↑b)=false],Eq.trans (b:=some ((AV.tu []),[(.some ⟨3,false,(z0_ (u6_ (z5_ (z0_ D)) s m e))⟩),
 (.some ⟨27,true,[(AV.fs 1 L.length (z2_ L))]⟩)],_)) (by kernel_rfl) (congrArg (fun r:AV×Heap=>some (r.1,r.2,_)) (a₁:=(_,_)) (a₂:=(_,_)) ?_),?_⟩)))
    (fun hc180=>v0_ (decide ((↑s:Int)<(↑mid:Int))) (fun hc198=>⟨⟨true,bs [(180,false),(194,true),(198,true),(208,false)]++sy3F_B K n a m b s e mid D D1 D2 D3 L⟩,[(i64.min:Int)≤↑m-↑a,
 (↑m-↑a:Int)≤i64.max,
 ((↑m:Int)-(↑a:Int)==(1:Int))=false,
 (i64.min:Int)≤↑b-↑m,
 (↑b-↑m:Int)≤i64.max,
 ((↑b:Int)-(↑m:Int)==(1:Int))=false,
 (i64.min:Int)≤↑a+↑b,
 (↑a+↑b:Int)≤i64.max,
 (↑a+↑b:Int)=↑(a+b),
 ((u64.wrap (↑(a+b):Int):Int))=((↑(a+b):Int)),
 (((↑(a+b):Int).fdiv ((2:Int)^(1:Nat)):Int))=((↑mid:Int)),
 ((i64.wrap (↑mid:Int):Int))=((↑mid:Int)),
 (i64.min:Int)≤↑mid+↑m,
 (↑mid+↑m:Int)≤i64.max,
 (↑mid+↑m:Int)=↑(mid+m),
 decide ((↑m:Int)>↑mid)=false,
 (i64.min:Int)≤↑(mid+m)-1,
 (↑(mid+m)-1:Int)≤i64.max,
 (↑(mid+m)-1:Int)=↑(mid+m-1),
 ((z1_ p_ (84:FuncId) (33:Nat):Go.Code))=(z1_ p_ (84:FuncId) (33:Nat)),
 ((seS D n a m b mid a m L:St))=(seS D n a m b mid a m L),
 (i64.min:Int)≤↑(mid+m)-↑s,
 (↑(mid+m)-↑s:Int)≤i64.max,
 (↑(mid+m)-↑s:Int)=↑e,
 decide ((↑s:Int)<↑m)=false,
 decide ((↑a:Int)<↑s)=true,
 decide ((↑s:Int)<↑mid)=true,
 ((z0_ D:List AV))=(z0_ (z5_ (z0_ D))),
 (((z5_ (z0_ D)).length:Nat))=(n),
 ((n:Nat)≤((255:Nat))),
 (0:Int)≤↑a,
 (↑a:Int)<↑s,
 (↑s:Int)<↑mid,
 (↑mid:Int)≤↑n,
 ((z2_ L:List AV))=(z2_ (unI (z2_ L))),
 ((L.length:Nat))=((unI (z2_ L)).length),
 SmI (unI (z2_ L)),
 BdR (z5_ (z0_ D)) L.length,
 t8_ (unI (z2_ L)) (z5_ (z0_ D)) a s,
 t8_ (unI (z2_ L)) (z5_ (z0_ D)) s mid,
 LtR (z5_ (z0_ D)) a s mid,
 (↑mid-↑a:Int)<↑K,
 decide ((↑mid:Int)<↑e)=false],Eq.trans (b:=some ((AV.tu []),[(.some ⟨3,false,(z0_ (soD (unI (z2_ L)) (z5_ (z0_ D)) a mid))⟩),
 (.some ⟨27,true,[(AV.fs 1 L.length (z2_ L))]⟩)],_)) (by kernel_rfl) (congrArg (fun r:AV×Heap=>some (r.1,r.2,_)) (a₁:=(_,_)) (a₂:=(_,_)) ?_),?_⟩)
    (fun hc198=>⟨⟨true,bs [(180,false),(194,true),(198,false),(208,false)]++sy3F_B K n a m b s e mid D D1 D2 D3 L⟩,[(i64.min:Int)≤↑m-↑a,
 (↑m-↑a:Int)≤i64.max,
 ((↑m:Int)-(↑a:Int)==(1:Int))=false,
 (i64.min:Int)≤↑b-↑m,
 (↑b-↑m:Int)≤i64.max,
 ((↑b:Int)-(↑m:Int)==(1:Int))=false,
 (i64.min:Int)≤↑a+↑b,
 (↑a+↑b:Int)≤i64.max,
 (↑a+↑b:Int)=↑(a+b),
 ((u64.wrap (↑(a+b):Int):Int))=((↑(a+b):Int)),
 (((↑(a+b):Int).fdiv ((2:Int)^(1:Nat)):Int))=((↑mid:Int)),
 ((i64.wrap (↑mid:Int):Int))=((↑mid:Int)),
 (i64.min:Int)≤↑mid+↑m,
 (↑mid+↑m:Int)≤i64.max,
 (↑mid+↑m:Int)=↑(mid+m),
 decide ((↑m:Int)>↑mid)=false,
 (i64.min:Int)≤↑(mid+m)-1,
 (↑(mid+m)-1:Int)≤i64.max,
 (↑(mid+m)-1:Int)=↑(mid+m-1),
 ((z1_ p_ (84:FuncId) (33:Nat):Go.Code))=(z1_ p_ (84:FuncId) (33:Nat)),
 ((seS D n a m b mid a m L:St))=(seS D n a m b mid a m L),
 (i64.min:Int)≤↑(mid+m)-↑s,
 (↑(mid+m)-↑s:Int)≤i64.max,
 (↑(mid+m)-↑s:Int)=↑e,
 decide ((↑s:Int)<↑m)=false,
 decide ((↑a:Int)<↑s)=true,
 decide ((↑s:Int)<↑mid)=false,
 decide ((↑mid:Int)<↑e)=false],Eq.trans (b:=some ((AV.tu []),[(.some ⟨3,false,(z0_ D)⟩),
 (.some ⟨27,true,[(AV.fs 1 L.length (z2_ L))]⟩)],_)) (by kernel_rfl) (congrArg (fun r:AV×Heap=>some (r.1,r.2,_)) (a₁:=(_,_)) (a₂:=(_,_)) ?_),?_⟩))
  all_goals try simp only[dz]at hc180
  all_goals try simp only[dz]at hc194
  all_goals try simp only[dz]at hc212
  all_goals try simp only[dz]at hc198
  all_goals first|(refine(have hq:=n1 ?_;?_);(focus omega);subst hq)|skip
  all_goals first|(refine(have hq:=n2 ?_;?_);(focus omega);subst hq)|skip
  all_goals first|(refine(have hq:=n3 ?_;?_);(focus omega);subst hq)|skip
  any_goals(
    simp(disch:=omega) only[std,w9_,v8_,hD1,hD2,hD3]
    first|done|rfl
    done)
  all_goals try simp(disch:=omega) only[std,u64w,shr1,w9_,v8_,hD1,hD2,hD3]
  all_goals repeat' apply And.intro
  all_goals first|exact True.intro|omega|with_reducible (first|rfl|assumption)|exact hmid|exact he|exact hD1|exact hD2|exact hD3|exact l0|exact l1|exact l2|exact b1|exact b2|exact hsm|exact k1|exact k2|exact k3|exact k4|exact k5|exact k6|rfl
theorem so_id {κ:Nat→Int}{l:List Nat}(h:Sor κ l):so κ l=l:=(so_eq h (List.Perm.refl _)).symm
theorem sy_parts {L:List Int}{P A1 A2 B1 B2 Q:List Nat}{n a m b s e mid:Nat}(ha:P.length=a)(hs:a+A1.length=s)(hm:s+A2.length=m)(he:m+B1.length=e)(hb:e+B2.length=b)(hmid:s+B1.length=mid)
    (hA:Sor (x2_ L) (A1++A2)) (hB:Sor (x2_ L) (B1++B2)) (hlt:∀x∈A1++A2,∀y∈B1++B2,x<y) (hbd:BdR (P++(A1++(A2++(B1++(B2++Q))))) L.length):
    ∃D1 D2 D3,D1=u6_ (P++(A1++(A2++(B1++(B2++Q))))) s m e∧D2=soD L D1 a mid∧D3=soD L D2 mid b∧D3=P++(so (x2_ L) (A1++B1)++(so (x2_ L) (A2++B2)++Q))∧
     (¬(s<m∧m<e)→D1=P++(A1++(A2++(B1++(B2++Q)))))∧(¬(a<s∧s<mid)→D2=D1)∧(¬(mid<e∧e<b)→D3=D2)∧
     D1.length=(P++(A1++(A2++(B1++(B2++Q))))).length∧D2.length=(P++(A1++(A2++(B1++(B2++Q))))).length∧BdR D1 L.length∧BdR D2 L.length∧
     t8_ L D1 a s∧t8_ L D1 s mid∧LtR D1 a s mid∧t8_ L D2 mid e∧t8_ L D2 e b∧LtR D2 mid e b:=by
  obtain⟨a1,a2,_⟩:=List.pairwise_append.1 hA
  obtain⟨b1,b2,_⟩:=List.pairwise_append.1 hB
  have e1:u6_ (P++(A1++(A2++(B1++(B2++Q))))) s m e=P++(A1++(B1++(A2++(B2++Q)))):=by
    unfold u6_
    have k1:P++(A1++(A2++(B1++(B2++Q))))=(P++A1)++((A2++B1)++(B2++Q)):=by simp
    have k2:P++(A1++(A2++(B1++(B2++Q))))=(P++A1++A2)++(B1++(B2++Q)):=by simp
    have k3:P++(A1++(A2++(B1++(B2++Q))))=(P++A1)++(A2++(B1++(B2++Q))):=by simp
    have h1:seg (P++(A1++(A2++(B1++(B2++Q))))) m e=B1:=by rw[k2];exact p0_ (by simp only[List.length_append];omega) he
    have h2:seg (P++(A1++(A2++(B1++(B2++Q))))) s m=A2:=by rw[k3];exact p0_ (by simp only[List.length_append];omega) hm
    rw[h1,h2,k1,put_at (by simp only[List.length_append];omega) (by simp only[List.length_append];omega)]
    simp
  have e2:soD L (P++(A1++(B1++(A2++(B2++Q))))) a mid=P++(so (x2_ L) (A1++B1)++(A2++(B2++Q))):=by
    unfold soD
    rw[←List.append_assoc A1 B1,put_at ha (by simp only[List.length_append];omega),p0_ ha (by simp only[List.length_append];omega)]
  have hl1:(so (x2_ L) (A1++B1)).length=A1.length+B1.length:=by rw[so_len,List.length_append]
  have e3:soD L (P++(so (x2_ L) (A1++B1)++(A2++(B2++Q)))) mid b=P++(so (x2_ L) (A1++B1)++(so (x2_ L) (A2++B2)++Q)):=by
    unfold soD
    rw[←List.append_assoc P,←List.append_assoc A2 B2,put_at (by rw[List.length_append,hl1];omega) (by simp only[List.length_append];omega),p0_ (by rw[List.length_append,hl1];omega) (by simp only[List.length_append];omega),List.append_assoc]
  refine⟨_,_,_,e1.symm,e2.symm,e3.symm,rfl,fun h=>?_,fun h=>?_,fun h=>?_,by simp only[List.length_append];omega,by simp only[List.length_append,hl1];omega,fun z hz=>hbd z ?_,fun z hz=>hbd z ?_,?_,?_,?_,?_,?_,?_⟩
  ·rcases Nat.eq_zero_or_pos A2.length with h2|h2
   ·rw[List.eq_nil_of_length_eq_zero h2];simp
   ·have:B1.length=0:=by omega
    rw[List.eq_nil_of_length_eq_zero this];simp
  ·rcases Nat.eq_zero_or_pos A1.length with h2|h2
   ·rw[List.eq_nil_of_length_eq_zero h2,List.nil_append,so_id b1];rfl
   ·have:B1.length=0:=by omega
    rw[List.eq_nil_of_length_eq_zero this,List.append_nil,so_id a1];rfl
  ·rcases Nat.eq_zero_or_pos A2.length with h2|h2
   ·rw[List.eq_nil_of_length_eq_zero h2,List.nil_append,so_id b2];rfl
   ·have:B2.length=0:=by omega
    rw[List.eq_nil_of_length_eq_zero this,List.append_nil,so_id a2];rfl
  ·simp only[List.mem_append]at hz ⊢
   rcases hz with h|h|h|h|h|h<;>simp[h]
  ·simp only[List.mem_append,so_mem]at hz ⊢
   rcases hz with h|(h|h)|h|h|h<;>simp[h]
  ·unfold t8_
   rw[p0_ ha hs];exact a1
  ·unfold t8_
   rw[←List.append_assoc P,p0_ (by simp only[List.length_append];omega) hmid];exact b1
  ·intro x hx y hy
   rw[p0_ ha hs]at hx
   rw[←List.append_assoc P,p0_ (by simp only[List.length_append];omega) hmid]at hy
   exact hlt x (List.mem_append_left _ hx) y (List.mem_append_left _ hy)
  ·unfold t8_
   rw[←List.append_assoc P,p0_ (by rw[List.length_append,hl1];omega) (by omega)];exact a2
  ·unfold t8_
   rw[←List.append_assoc P,←List.append_assoc (P++so (x2_ L) (A1++B1)),p0_ (by rw[List.length_append,List.length_append,hl1];omega) hb];exact b2
  ·intro x hx y hy
   rw[←List.append_assoc P,p0_ (by rw[List.length_append,hl1];omega) (by omega)]at hx
   rw[←List.append_assoc P,←List.append_assoc (P++so (x2_ L) (A1++B1)),p0_ (by rw[List.length_append,List.length_append,hl1];omega) hb]at hy
   exact hlt x (List.mem_append_right _ hx) y (List.mem_append_right _ hy)
theorem getA (P A R:List Nat){a i:Nat}(ha:P.length=a)(hi:i<A.length):(P++(A++R)).getD (a+i) 0=A.getD i 0:=by
  subst ha
  simp only[List.getD]
  rw[List.getElem?_append_right (by omega),Nat.add_sub_cancel_left,List.getElem?_append_left hi]
theorem getB (P A B R:List Nat){m j:Nat}(hm:P.length+A.length=m)(hj:j<B.length):(P++(A++(B++R))).getD (m+j) 0=B.getD j 0:=by
  rw[←List.append_assoc]
  exact getA (P++A) B R (by rw[List.length_append];exact hm) hj
theorem sy_cut {L:List Int}{P A B Q:List Nat}{a m b mid lo hi:Nat}(ha:P.length=a)(hm:a+A.length=m)(hb:m+B.length=b)(hmid:(a+b)/2=mid)(hA:Sor (x2_ L) A)(hB:Sor (x2_ L) B)
    (hlo:lo=a+(mid-a-B.length)) (hhi:hi=a+min A.length (mid-a)):∃u,bsr (fun c=> !ltK L (P++(A++(B++Q))) (mid+m-1-c) c) (hi-lo) lo hi=a+u∧Cut (x2_ L) A B (mid-a) u:=by
  have hA':∀i,i<A.length→(P++(A++(B++Q))).getD (a+i) 0=A.getD i 0:=fun i hi=>getA P A (B++Q) ha hi
  have hB':∀j,j<B.length→(P++(A++(B++Q))).getD (m+j) 0=B.getD j 0:=fun j hj=>getB P A B Q (by omega) hj
  have tv:∀i,i<A.length→i<mid-a→mid-a-B.length≤i→ltK L (P++(A++(B++Q))) (mid+m-1-(a+i)) (a+i)=decide (x2_ L (B.getD (mid-a-1-i) 0)<x2_ L (A.getD i 0)):=by
    intro i h1 h2 h3
    unfold ltK
    rw[hA' i h1,show mid+m-1-(a+i)=m+(mid-a-1-i)by omega,hB' _ (by omega)]
  obtain⟨k1,k2,k3,k4⟩:=bsr_is (fun c=> !ltK L (P++(A++(B++Q))) (mid+m-1-c) c) (hi-lo) lo hi (by omega) (Nat.le_refl _) (fun c c' h1 h2 h3 h4=>by
    obtain⟨i,rfl⟩:∃i,c=a+i:=⟨c-a,by omega⟩
    obtain⟨i',rfl⟩:∃i,c'=a+i:=⟨c'-a,by omega⟩
    have h4:(!ltK L (P++(A++(B++Q))) (mid+m-1-(a+i')) (a+i'))=true:=h4
    show(!ltK L (P++(A++(B++Q))) (mid+m-1-(a+i)) (a+i))=true
    rw[tv i' (by omega) (by omega) (by omega)]at h4
    rw[tv i (by omega) (by omega) (by omega)]
    simp only[Bool.not_eq_true',decide_eq_false_iff_not]at h4 ⊢
    have m1:=d9_ hA (i:=i) (j:=i') (by omega) (by omega)
    have m2:=d9_ hB (i:=mid-a-1-i') (j:=mid-a-1-i) (by omega) (by omega)
    omega)
  generalize bsr (fun c=> !ltK L (P++(A++(B++Q))) (mid+m-1-c) c) (hi-lo) lo hi=s at*
  obtain⟨u,rfl⟩:∃u,s=a+u:=⟨s-a,by omega⟩
  refine⟨u,rfl,by omega,by omega,by omega,fun i h1 h2=>?_,fun i h1 h2 h3=>?_⟩
  ·have h:=k3 (a+i) (by omega) (by omega)
   have h:(!ltK L (P++(A++(B++Q))) (mid+m-1-(a+i)) (a+i))=true:=h
   rw[tv i (by omega) (by omega) (by omega)]at h
   simpa using h
  ·have h:=k4 (a+i) (by omega) (by omega)
   have h:(!ltK L (P++(A++(B++Q))) (mid+m-1-(a+i)) (a+i))=false:=h
   rw[tv i (by omega) (by omega) (by omega)]at h
   simpa using h
end Go.Proofs.YtmjldphagbobpaaDoor
namespace Go.Proofs.YtmjldphagbobpaaDoor
open IntKind (i64 u8 i32 u32 u64)
open _root_.Go.Proofs.Tryd renaming prog→p_
open Go.RowKit Srt
theorem len_one {D:List Nat}(h:D.length=1):∃y,D=[y]:=by
  match D,h with
  | [y],_=>exact⟨y,rfl⟩
theorem dec4 (D:List Nat){a m b:Nat}(h1:a≤m)(h2:m≤b)(h3:b≤D.length):∃P A B Q,D=P++(A++(B++Q))∧P.length=a∧a+A.length=m∧m+B.length=b∧A=seg D a m∧B=seg D m b:=by
  obtain⟨P,U,M,V,R,hD,e1,e2,e3,e4⟩:=dec5 D (a:=a) (b:=m) (c:=0) (by omega) (by omega)
  have:U=[]:=List.eq_nil_of_length_eq_zero e2
  have:V=[]:=List.eq_nil_of_length_eq_zero e4
  subst_vars
  simp only[List.nil_append]at*
  obtain⟨P2,U2,Q2,hR,k1,k2,_,_,_⟩:=dec2 R (a:=0) (b:=b-m) (by omega) (by simp only[List.length_append]at h3;omega)
  have:P2=[]:=List.eq_nil_of_length_eq_zero k1
  subst this
  rw[List.nil_append]at hR
  subst hR
  exact⟨P,M,U2,Q2,rfl,rfl,by omega,by omega,(p0_ rfl (by omega)).symm,by rw[←List.append_assoc];exact(p0_ (by rw[List.length_append];omega) (by omega)).symm⟩
structure SyH (P A B Q:List Nat) (n a m b:Nat) (L:List Int):Prop where
  e1:P.length=a
  e2:a+A.length=m
  e3:m+B.length=b
  h2:P.length+(A.length+(B.length+Q.length))=n
  h3:n≤255
  h5:a<m
  h6:m<b
  hA:Sor (x2_ L) A
  hB:Sor (x2_ L) B
  hlt:∀x∈A,∀y∈B,x<y
  h10:SmI L
  h11:BdR (P++(A++(B++Q))) L.length
def SyG (P A B Q:List Nat)(n a m b:Nat)(L:List Int):Prop:=∃cl ks hs lp fuel p,x7_ p_ cl∧q3_ (ExtK 2) p_ lp∧
  y5_ ks (z8_ p_ cl hs lp fuel 84 [.sl 0 0 n,.c (.int .i64 a),.c (.int .i64 m),.c (.int .i64 b),srF] (srH (P++(A++(B++Q))) L.length (z2_ L)))=some (.tu [],srH (P++(so (x2_ L) (A++B)++Q)) L.length (z2_ L),p)∧z7_ p
theorem sym1 {P A B Q:List Nat}{n a m b:Nat}{L:List Int}(h:SyH P A B Q n a m b L)(c1:a+1=m):SyG P A B Q n a m b L:=by
  obtain⟨e1,e2,e3,h2,h3,h5,h6,hA,hB,hlt,h10,h11⟩:=h
  obtain⟨x,rfl⟩:=len_one (D:=A) (by omega)
  have w1:=sa_walk (P++([x]++(B++Q))) n a m b L h3 (by simp only[List.length_append];omega) h10 h11 (by omega) (by omega) (by omega)
  have hx:(P++([x]++(B++Q))).getD a 0=x:=getD_mid P x (B++Q) e1
  have hb':∀j,j<B.length→(P++([x]++(B++Q))).getD (m+j) 0=B.getD j 0:=fun j hj=>getB P [x] B Q (by simp;omega) hj
  obtain⟨k1,k2,k3,k4⟩:=bsr_is (fun c=>ltK L (P++([x]++(B++Q))) c a) (b-m) m b (by omega) (Nat.le_refl _) (fun c c' g1 g2 g3 g4=>by
    obtain⟨i,rfl⟩:∃i,c=m+i:=⟨c-m,by omega⟩
    obtain⟨i',rfl⟩:∃i,c'=m+i:=⟨c'-m,by omega⟩
    simp only[ltK,hx,hb' i (by omega),hb' i' (by omega),decide_eq_true_eq]at g4 ⊢
    have:=d9_ hB (i:=i) (j:=i') (by omega) (by omega)
    omega)
  generalize bsr (fun c=>ltK L (P++([x]++(B++Q))) c a) (b-m) m b=s at*
  obtain⟨v,rfl⟩:∃v,s=m+v:=⟨s-m,by omega⟩
  have w2:=mu_walk P B Q x n a m b v L h3 (by simp only[List.length_singleton]at h2;omega) e1 (by omega)
  rw[hop_0,List.append_assoc [x] B Q,show a+v+1=m+v by omega]at w2
  have hfin:hop P B x Q v=P++(so (x2_ L) ([x]++B)++Q):=by
    rw[hop_put]
    congr 2
    refine so_ins (by rw[List.take_append_drop];exact hB) (fun z hz=>?_) (fun z hz=>?_) (by rw[List.take_append_drop];exact List.Perm.refl _)
    ·obtain⟨i,hi,rfl⟩:=j0_ hz
     rw[List.length_take]at hi
     rw[getD_take (by omega)]
     have:=k3 (m+i) (by omega) (by omega)
     simp only[ltK,hx,hb' i (by omega),decide_eq_true_eq]at this
     rw[i3_];omega
    ·have hz2:=hlt x (by simp) z (List.mem_of_mem_drop hz)
     obtain⟨i,hi,rfl⟩:=j0_ hz
     rw[List.length_drop]at hi
     rw[getD_drop]at hz2 ⊢
     have:=k4 (m+(v+i)) (by omega) (by omega)
     simp only[ltK,hx,hb' (v+i) (by omega),decide_eq_false_iff_not]at this
     rw[i3_];omega
  rw[hfin]at w2
  obtain⟨hh,p,e,hp⟩:=sy1_all (P++([x]++(B++Q))) _ n a m b (m+v) (a+v) L h3 c1 (by omega)
  exact⟨_,_,_,_,_,_,w6_,s2_ (s2_ y4_ kp2 w2) kp2 w1,e,hp⟩
theorem sym2 {P A B Q:List Nat}{n a m b:Nat}{L:List Int}(h:SyH P A B Q n a m b L)(c1:¬a+1=m)(c2:m+1=b):SyG P A B Q n a m b L:=by
  obtain⟨e1,e2,e3,h2,h3,h5,h6,hA,hB,hlt,h10,h11⟩:=h
  obtain⟨y,rfl⟩:=len_one (D:=B) (by omega)
  have w1:=sb_walk (P++(A++([y]++Q))) n a m b L h3 (by simp only[List.length_append];omega) h10 h11 (by omega) (by omega)
  have hy:(P++(A++([y]++Q))).getD m 0=y:=by
    have:=getD_mid (P++A) y Q (i:=m) (by rw[List.length_append];omega)
    simpa using this
  have ha':∀j,j<A.length→(P++(A++([y]++Q))).getD (a+j) 0=A.getD j 0:=fun j hj=>getA P A ([y]++Q) e1 hj
  obtain⟨k1,k2,k3,k4⟩:=bsr_is (fun c=> !ltK L (P++(A++([y]++Q))) m c) (m-a) a m (by omega) (Nat.le_refl _) (fun c c' g1 g2 g3 g4=>by
    obtain⟨i,rfl⟩:∃i,c=a+i:=⟨c-a,by omega⟩
    obtain⟨i',rfl⟩:∃i,c'=a+i:=⟨c'-a,by omega⟩
    simp only[ltK,hy,ha' i (by omega),ha' i' (by omega),Bool.not_eq_true',decide_eq_false_iff_not]at g4 ⊢
    have:=d9_ hA (i:=i) (j:=i') (by omega) (by omega)
    omega)
  generalize bsr (fun c=> !ltK L (P++(A++([y]++Q))) m c) (m-a) a m=s at*
  obtain⟨v,rfl⟩:∃v,s=a+v:=⟨s-a,by omega⟩
  have w2:=md_walk P A Q y n a m b v L h3 (by simp only[List.length_singleton]at h2;omega) e1 (by omega) (by omega)
  rw[hop_all,List.append_assoc A [y] Q]at w2
  have hfin:hop P A y Q v=P++(so (x2_ L) (A++[y])++Q):=by
    rw[hop_put]
    congr 2
    refine so_ins (by rw[List.take_append_drop];exact hA) (fun z hz=>?_) (fun z hz=>?_) (by rw[List.take_append_drop];exact(List.perm_append_singleton y A).symm)
    ·have hz2:=hlt z (List.mem_of_mem_take hz) y (by simp)
     obtain⟨i,hi,rfl⟩:=j0_ hz
     rw[List.length_take]at hi
     rw[getD_take (by omega)]at hz2 ⊢
     have:=k3 (a+i) (by omega) (by omega)
     simp only[ltK,hy,ha' i (by omega),Bool.not_eq_true',decide_eq_false_iff_not]at this
     rw[i3_];omega
    ·obtain⟨i,hi,rfl⟩:=j0_ hz
     rw[List.length_drop]at hi
     rw[getD_drop]
     have:=k4 (a+(v+i)) (by omega) (by omega)
     simp only[ltK,hy,ha' (v+i) (by omega),Bool.not_eq_false',decide_eq_true_eq]at this
     rw[i3_];omega
  rw[hfin]at w2
  obtain⟨hh,p,e,hp⟩:=sy2_all (P++(A++([y]++Q))) _ n a m b (a+v) L h3 c1 (by omega) c2 (by omega)
  exact⟨_,_,_,_,_,_,w6_,s2_ (s2_ y4_ kp2 w2) kp2 w1,e,hp⟩
set_option maxHeartbeats 1000000 in
theorem sym3 {P A B Q:List Nat}{n a m b:Nat}{L:List Int}(h:SyH P A B Q n a m b L){K:Nat}(clok:x7_ p_ (clSy K))(hK:b≤a+K)(c1:¬a+1=m)(c2:¬m+1=b):SyG P A B Q n a m b L:=by
  obtain⟨e1,e2,e3,h2,h3,h5,h6,hA,hB,hlt,h10,h11⟩:=h
  obtain⟨mid,hmid⟩:∃mid,(a+b)/2=mid:=⟨_,rfl⟩
  have hD:(P++(A++(B++Q))).length=n:=by simp only[List.length_append];omega
  obtain⟨u,hu,hcut⟩:=sy_cut (L:=L) (Q:=Q) (lo:=a+(mid-a-B.length)) (hi:=a+min A.length (mid-a)) e1 e2 e3 hmid hA hB rfl rfl
  have w1:=se_walk (P++(A++(B++Q))) n a m b mid (a+(mid-a-B.length)) (a+min A.length (mid-a)) L h3 hD h10 h11 (by omega) (by omega) (by omega) (by omega)
  rw[hu]at w1
  have hcs:=cut_so hA hB hlt hcut
  obtain⟨u1,u2,u3,_,_⟩:=hcut
  have ea:A=A.take u++A.drop u:=(List.take_append_drop u A).symm
  have eb:B=B.take (mid-a-u)++B.drop (mid-a-u):=(List.take_append_drop _ B).symm
  have la:(A.take u).length=u:=by rw[List.length_take];omega
  have la2:(A.drop u).length=A.length-u:=List.length_drop
  have lb:(B.take (mid-a-u)).length=mid-a-u:=by rw[List.length_take];omega
  have lb2:(B.drop (mid-a-u)).length=B.length-(mid-a-u):=List.length_drop
  have hsp:P++(A++(B++Q))=P++(A.take u++(A.drop u++(B.take (mid-a-u)++(B.drop (mid-a-u)++Q)))):=by
    rw[←List.append_assoc (B.take _),←eb,←List.append_assoc (A.take u),←ea]
  obtain⟨D1,D2,D3,d1,d2,d3,d4,n1,n2,n3,l1,l2,b1,b2,q1,q2,q3,q4,q5,q6⟩:=sy_parts (L:=L) (P:=P) (A1:=A.take u) (A2:=A.drop u) (B1:=B.take (mid-a-u)) (B2:=B.drop (mid-a-u)) (Q:=Q) (n:=n) (a:=a) (m:=m) (b:=b) (s:=a+u) (e:=m+(mid-a-u)) (mid:=mid)
    e1 (by omega) (by omega) (by omega) (by omega) (by omega) (by rw[←ea];exact hA) (by rw[←eb];exact hB) (by rw[←ea,←eb];exact hlt) (by rw[←hsp];exact h11)
  rw[←hsp]at d1 n1 l1 l2
  have hD3:D3=P++(so (x2_ L) (A++B)++Q):=by rw[d4,←List.append_assoc (so _ _),hcs]
  unfold SyG
  rw[←hD3]
  rw[hD]at l1 l2
  by_cases c3:mid<m
  ·have w2:=w1
   rw[show a+(mid-a-B.length)=mid+m-b by omega,show a+min A.length (mid-a)=mid by omega]at w2
   obtain⟨hh,p,e,hp⟩:=sy3T_all K n a m b (a+u) (m+(mid-a-u)) mid (P++(A++(B++Q))) D1 D2 D3 L c3 h3 (by omega) (by omega) (by omega) hmid (by omega) (by omega) (by omega) (by omega) (by omega) (by omega) n1 n2 n3 d1.symm d2.symm d3.symm hD l1 l2 b1 b2 h10 q1 q2 q3 q4 q5 q6 (by omega)
   exact⟨_,_,_,_,_,_,clok,s2_ y4_ kp2 w2,e,hp⟩
  ·have w2:=w1
   rw[show a+(mid-a-B.length)=a by omega,show a+min A.length (mid-a)=m by omega]at w2
   obtain⟨hh,p,e,hp⟩:=sy3F_all K n a m b (a+u) (m+(mid-a-u)) mid (P++(A++(B++Q))) D1 D2 D3 L (by omega) h3 (by omega) (by omega) (by omega) hmid (by omega) (by omega) (by omega) (by omega) (by omega) (by omega) n1 n2 n3 d1.symm d2.symm d3.symm hD l1 l2 b1 b2 h10 q1 q2 q3 q4 q5 q6 (by omega)
   exact⟨_,_,_,_,_,_,clok,s2_ y4_ kp2 w2,e,hp⟩
theorem sym_ok:∀K,u0_ p_ 84 (symSpec K)
  |0=>by
   intro args hp r hp' q hs hq
   unfold symSpec at hs
   split at hs
   ·split at hs
    ·simp only[oi_]at hs
     obtain⟨rfl,rfl,rfl⟩:=hs
     obtain⟨_,_,_,h4,h5,h6,_,_,_,_,_,_,_,_,h15,_⟩:=hq
     exfalso;omega
    ·simp at hs
   ·simp at hs
  |K+1=>by
   have clok:x7_ p_ (clSy K):=s3_ mixed (y8_ cmp_ok v2_) (w5_ rot_ok (w5_ (sym_ok K) s8_)) 500 8
   refine hspec_any mixed fun args hp r hp' q hs hq=>?_
   unfold symSpec at hs
   split at hs
   ·rename_i n a m b f t C t2 s k l
    split at hs
    ·rename_i hc
     obtain⟨⟨rfl,rfl⟩,rfl,rfl⟩:=hc
     simp only[oi_]at hs
     obtain⟨rfl,rfl,rfl⟩:=hs
     obtain⟨h1,h2,h3,h4,h5,h6,h7,h8,h9,h10,h11,h12,h13,h14,h15,_⟩:=hq
     obtain⟨a,rfl⟩:∃k:Nat,a=(k:Int):=⟨a.toNat,by omega⟩
     obtain⟨m,rfl⟩:∃k:Nat,m=(k:Int):=⟨m.toNat,by omega⟩
     obtain⟨b,rfl⟩:∃k:Nat,b=(k:Int):=⟨b.toNat,by omega⟩
     simp only[Int.toNat_natCast]at h12 h13 h14 ⊢
     generalize unI l=L at*
     generalize z5_ C=D at*
     subst h1 h8 h9
     obtain⟨P,A,B,Q,rfl,e1,e2,e3,e4,e5⟩:=dec4 D (a:=a) (m:=m) (b:=b) (by omega) (by omega) (by omega)
     have hA:Sor (x2_ L) A:=by rw[e4];exact h12
     have hB:Sor (x2_ L) B:=by rw[e5];exact h13
     have hlt:∀x∈A,∀y∈B,x<y:=fun x hx y hy=>h14 x (by rw[←e4];exact hx) y (by rw[←e5];exact hy)
     clear e4 e5 h12 h13 h14
     have hso:soD L (P++(A++(B++Q))) a b=P++(so (x2_ L) (A++B)++Q):=by
       unfold soD
       rw[←List.append_assoc A B,put_at e1 (by rw[List.length_append];omega),p0_ e1 (by rw[List.length_append];omega)]
     rw[hso]
     simp only[List.length_append]at h2
     have hS:SyH P A B Q n a m b L:=⟨e1,e2,e3,h2,h3,by omega,by omega,hA,hB,hlt,h10,h11⟩
     by_cases c1:a+1=m
     ·exact sym1 hS c1
     ·by_cases c2:m+1=b
      ·exact sym2 hS c1 c2
      ·exact sym3 hS clok (by omega) c1 c2
    ·simp at hs
   ·simp at hs
end Go.Proofs.YtmjldphagbobpaaDoor
namespace Go.Proofs.YtmjldphagbobpaaDoor
open IntKind (i64 u8 i32 u32 u64)
open _root_.Go.Proofs.Tryd renaming prog→p_
open Go.RowKit Srt
noncomputable def clSt:CallT:=p3_ p_ (r4_ []) (m0_ [(83,insSpec),(84,symSpec 256)]) 500 8
theorem clSt_ok:x7_ p_ clSt:=s3_ mixed v2_ (w5_ ins_ok (w5_ (sym_ok 256) s8_)) 500 8
def stF (D:List Nat)(n w:Nat)(L:List Int)(l:List (Nat×AV)):St:=⟨frame 63 ([(0,.sl 0 0 n),(1,.c (.int .i64 n)),(2,srF),(6,.c (.int .i64 w))]++l),srH D L.length (z2_ L)⟩
def stS (D:List Nat)(n w a b:Nat)(L:List Int):St:=stF D n w L [(7,.c (.int .i64 a)),(8,.c (.int .i64 b))]
def soS (D:List Nat)(n w:Nat)(L:List Int):St:=stF D n w L []
theorem st1A_all (D:List Nat)(n a b:Nat)(L:List Int)(hn:n≤255)(hbn:b≤n)(hab:a≤b)(hD:D.length=n)(hsm:SmI L)(hbd:BdR D L.length)(hi:IncR D a b):x9_ 2 p_ clSt (z1_ p_ 80 2) (stS D n 20 a b L) (.normal) (stS (soD L D a b) n 20 b (b+20) L):=by
  refine⟨⟨true,(bs [(13,true)]++[(22,⟨.c (.int .i64 (b+20:Nat)),none⟩)])⟩,_,60,⟨[],[0,1,2,6,7,8],[0,1]⟩,[decide ((↑b:Int)≤↑n)=true,
 ((z0_ D:List AV))=(z0_ (z5_ (z0_ D))),
 (((z5_ (z0_ D)).length:Nat))=(n),
 ((n:Nat)≤((255:Nat))),
 (0:Int)≤↑a,
 (↑a:Int)≤↑b,
 (↑b:Int)≤↑n,
 ((z2_ L:List AV))=(z2_ (unI (z2_ L))),
 ((L.length:Nat))=((unI (z2_ L)).length),
 SmI (unI (z2_ L)),
 BdR (z5_ (z0_ D)) L.length,
 IncR (z5_ (z0_ D)) a b,
 (i64.min:Int)≤↑b+↑(20:Nat),
 (↑b+↑(20:Nat):Int)≤i64.max,
 (↑b+↑(20:Nat):Int)=↑(b+20)],y4_,by decide,Eq.trans (b:=some ((.normal:Exit),⟨frame 63 [(0,(AV.sl 0 0 n)),(1,(AV.c ((Value.int .i64 ((↑n:Int)))))),(2,(AV.fn 73 [(AV.pt 1 0)])),(6,(AV.c ((Value.int .i64 20)))),(7,(AV.c ((Value.int .i64 ((↑b:Int)))))),(8,(AV.c ((Value.int .i64 ((↑(b+(20:Nat)):Int))))))],[(.some ⟨3,false,(z0_ (put (z5_ (z0_ D)) a b (so (x2_ (unI (z2_ L))) (seg (z5_ (z0_ D)) a b))))⟩),
 (.some ⟨27,true,[(AV.fs 1 L.length (z2_ L))]⟩)]⟩,_)) (by kernel_rfl) (congrArg (fun S:St=>some ((.normal:Exit),S,_)) (by first|rfl|(simp(disch:=omega) only[std,w9_,v8_];first|done|rfl))),?_⟩
  all_goals try simp(disch:=omega) only[std,w9_,v8_]
  all_goals repeat' apply And.intro
  all_goals first|exact True.intro|omega|with_reducible (first|rfl|assumption)|exact hD|exact hsm|exact hbd|exact hi|rfl
theorem st1Z_all (D:List Nat)(n a b:Nat)(L:List Int)(hbn:¬b≤n):x9_ 2 p_ clSt (z1_ p_ 80 2) (stS D n 20 a b L) (.exit 0) (stS D n 20 a b L):=by
  refine⟨⟨true,(bs [(13,false)])⟩,_,60,⟨[],[0,1,2,6,7,8],[0,1]⟩,[decide ((↑b:Int)≤↑n)=false],y4_,by decide,by kernel_rfl,?_⟩
  all_goals try simp(disch:=omega) only[std]
  all_goals repeat' apply And.intro
  all_goals first|exact True.intro|omega|with_reducible (first|rfl|assumption)|rfl
theorem st3A_all (D:List Nat)(n w a m b:Nat)(L:List Int)(hn:n≤255)(hbs:w≤1000)(hb0:0<w)(hm:a+w=m)(hmb:m+w=b)(hbn:b≤n)(hD:D.length=n)(hsm:SmI L)(hbd:BdR D L.length)(k1:t8_ L D a m)(k2:t8_ L D m b)(k3:LtR D a m b):x9_ 2 p_ clSt (z1_ p_ 80 9) (stS D n w a b L) (.normal) (stS (soD L D a b) n w b (b+2*w) L):=by
  refine⟨⟨true,(bs [(35,true)]++[(40,⟨.c (.int .i64 m),none⟩),(47,⟨.c (.int .i64 (2*w:Nat)),none⟩),(48,⟨.c (.int .i64 (b+2*w:Nat)),none⟩)])⟩,_,60,⟨[],[0,1,2,6,7,8],[0,1]⟩,[decide ((↑b:Int)≤↑n)=true,
 (i64.min:Int)≤↑a+↑w,
 (↑a+↑w:Int)≤i64.max,
 (↑a+↑w:Int)=↑m,
 ((z0_ D:List AV))=(z0_ (z5_ (z0_ D))),
 (((z5_ (z0_ D)).length:Nat))=(n),
 ((n:Nat)≤((255:Nat))),
 (0:Int)≤↑a,
 (↑a:Int)<↑m,
 (↑m:Int)<↑b,
 (↑b:Int)≤↑n,
 ((z2_ L:List AV))=(z2_ (unI (z2_ L))),
 ((L.length:Nat))=((unI (z2_ L)).length),
 SmI (unI (z2_ L)),
 BdR (z5_ (z0_ D)) L.length,
 t8_ (unI (z2_ L)) (z5_ (z0_ D)) a m,
 t8_ (unI (z2_ L)) (z5_ (z0_ D)) m b,
 LtR (z5_ (z0_ D)) a m b,
 (↑b-↑a:Int)<↑(256:Nat),
 (i64.min:Int)≤2*↑w,
 (2*↑w:Int)≤i64.max,
 (2*↑w:Int)=↑(2*w),
 (i64.min:Int)≤↑b+↑(2*w),
 (↑b+↑(2*w):Int)≤i64.max,
 (↑b+↑(2*w):Int)=↑(b+2*w)],y4_,by decide,Eq.trans (b:=some ((.normal:Exit),⟨frame 63 [(0,(AV.sl 0 0 n)),(1,(AV.c ((Value.int .i64 ((↑n:Int)))))),(2,(AV.fn 73 [(AV.pt 1 0)])),(6,(AV.c ((Value.int .i64 ((↑w:Int)))))),(7,(AV.c ((Value.int .i64 ((↑b:Int)))))),(8,(AV.c ((Value.int .i64 ((↑(b+(2:Nat)*w):Int))))))],[(.some ⟨3,false,(z0_ (soD (unI (z2_ L)) (z5_ (z0_ D)) a b))⟩),
 (.some ⟨27,true,[(AV.fs 1 L.length (z2_ L))]⟩)]⟩,_)) (by kernel_rfl) (congrArg (fun S:St=>some ((.normal:Exit),S,_)) (by first|rfl|(simp(disch:=omega) only[std,w9_,v8_];first|done|rfl))),?_⟩
  all_goals try simp(disch:=omega) only[std,w9_,v8_]
  all_goals repeat' apply And.intro
  all_goals first|exact True.intro|omega|with_reducible (first|rfl|assumption)|exact hm|exact hmb|exact hD|exact hsm|exact hbd|exact k1|exact k2|exact k3|rfl
theorem st3Z_all (D:List Nat)(n w a b:Nat)(L:List Int)(hbn:¬b≤n):x9_ 2 p_ clSt (z1_ p_ 80 9) (stS D n w a b L) (.exit 4) (stS D n w a b L):=by
  refine⟨⟨true,(bs [(35,false)])⟩,_,60,⟨[],[0,1,2,6,7,8],[0,1]⟩,[decide ((↑b:Int)≤↑n)=false],y4_,by decide,by kernel_rfl,?_⟩
  all_goals try simp(disch:=omega) only[std]
  all_goals repeat' apply And.intro
  all_goals first|exact True.intro|omega|with_reducible (first|rfl|assumption)|rfl
noncomputable def st3Lp (D D3:List Nat)(n w a b:Nat)(L:List Int):List (Nat×Lp):=[(9,⟨z1_ p_ 80 9,⟨[],[0,1,2,6,7,8],[0,1]⟩,stS D n w 0 (2*w) L,.exit 4,stS D3 n w a b L⟩)]
theorem st2A_all (D D3:List Nat)(n w a m b:Nat)(L:List Int)(hlp:q3_ (ExtK 2) p_ (y1_ (st3Lp D D3 n w a b L)))(hn:n≤255)(hbn:w<n)(ham:a+w=m)(han:a≤n)(hm:m<n)(hD:D3.length=n)(hsm:SmI L)(hbd:BdR D3 L.length)(k1:t8_ L D3 a m)(k2:t8_ L D3 m n)(k3:LtR D3 a m n)(hb0:0<w):x9_ 2 p_ clSt (z1_ p_ 80 7) (soS D n w L) (.normal) (soS (soD L D3 a n) n (2*w) L):=by
  refine⟨⟨true,(bs [(30,true),(54,true)]++[(32,⟨.c (.int .i64 (2*w:Nat)),none⟩),(51,⟨.c (.int .i64 m),none⟩),(62,⟨.c (.int .i64 (2*w:Nat)),none⟩)])⟩,_,60,⟨[],[0,1,2,6],[0,1]⟩,[decide ((↑w:Int)<↑n)=true,
 (i64.min:Int)≤2*↑w,
 (2*↑w:Int)≤i64.max,
 (2*↑w:Int)=↑(2*w),
 ((z1_ p_ (80:FuncId) (9:Nat):Go.Code))=(z1_ p_ (80:FuncId) (9:Nat)),
 ((stS D n w (0:Nat) ((2:Nat)*w) L:St))=(stS D n w (0:Nat) ((2:Nat)*w) L),
 (i64.min:Int)≤↑a+↑w,
 (↑a+↑w:Int)≤i64.max,
 (↑a+↑w:Int)=↑m,
 decide ((↑m:Int)<↑n)=true,
 ((z0_ D3:List AV))=(z0_ (z5_ (z0_ D3))),
 (((z5_ (z0_ D3)).length:Nat))=(n),
 ((n:Nat)≤((255:Nat))),
 (0:Int)≤↑a,
 (↑a:Int)<↑m,
 (↑m:Int)<↑n,
 (↑n:Int)≤↑n,
 ((z2_ L:List AV))=(z2_ (unI (z2_ L))),
 ((L.length:Nat))=((unI (z2_ L)).length),
 SmI (unI (z2_ L)),
 BdR (z5_ (z0_ D3)) L.length,
 t8_ (unI (z2_ L)) (z5_ (z0_ D3)) a m,
 t8_ (unI (z2_ L)) (z5_ (z0_ D3)) m n,
 LtR (z5_ (z0_ D3)) a m n,
 (↑n-↑a:Int)<↑(256:Nat),
 (i64.min:Int)≤↑w*2,
 (↑w*2:Int)≤i64.max,
 (↑w*2:Int)=↑(2*w)],hlp,by decide,Eq.trans (b:=some ((.normal:Exit),⟨frame 63 [(0,(AV.sl 0 0 n)),(1,(AV.c ((Value.int .i64 ((↑n:Int)))))),(2,(AV.fn 73 [(AV.pt 1 0)])),(6,(AV.c ((Value.int .i64 ((↑((2:Nat)*w):Int))))))],[(.some ⟨3,false,(z0_ (soD (unI (z2_ L)) (z5_ (z0_ D3)) a n))⟩),
 (.some ⟨27,true,[(AV.fs 1 L.length (z2_ L))]⟩)]⟩,_)) (by kernel_rfl) (congrArg (fun S:St=>some ((.normal:Exit),S,_)) (by first|rfl|(simp(disch:=omega) only[std,w9_,v8_];first|done|rfl))),?_⟩
  all_goals try simp(disch:=omega) only[std,w9_,v8_]
  all_goals repeat' apply And.intro
  all_goals first|exact True.intro|omega|with_reducible (first|rfl|assumption)|exact hlp|exact ham|exact hD|exact hsm|exact hbd|exact k1|exact k2|exact k3|rfl
theorem st2B_all (D D3:List Nat)(n w a m b:Nat)(L:List Int)(hlp:q3_ (ExtK 2) p_ (y1_ (st3Lp D D3 n w a b L)))(hn:n≤255)(hbn:w<n)(ham:a+w=m)(han:a≤n)(hm:¬m<n):x9_ 2 p_ clSt (z1_ p_ 80 7) (soS D n w L) (.normal) (soS D3 n (2*w) L):=by
  refine⟨⟨true,(bs [(30,true),(54,false)]++[(32,⟨.c (.int .i64 (2*w:Nat)),none⟩),(51,⟨.c (.int .i64 m),none⟩),(62,⟨.c (.int .i64 (2*w:Nat)),none⟩)])⟩,_,60,⟨[],[0,1,2,6],[0,1]⟩,[decide ((↑w:Int)<↑n)=true,
 (i64.min:Int)≤2*↑w,
 (2*↑w:Int)≤i64.max,
 (2*↑w:Int)=↑(2*w),
 ((z1_ p_ (80:FuncId) (9:Nat):Go.Code))=(z1_ p_ (80:FuncId) (9:Nat)),
 ((stS D n w (0:Nat) ((2:Nat)*w) L:St))=(stS D n w (0:Nat) ((2:Nat)*w) L),
 (i64.min:Int)≤↑a+↑w,
 (↑a+↑w:Int)≤i64.max,
 (↑a+↑w:Int)=↑m,
 decide ((↑m:Int)<↑n)=false,
 (i64.min:Int)≤↑w*2,
 (↑w*2:Int)≤i64.max,
 (↑w*2:Int)=↑(2*w)],hlp,by decide,by kernel_rfl,?_⟩
  all_goals try simp(disch:=omega) only[std,w9_,v8_]
  all_goals repeat' apply And.intro
  all_goals first|exact True.intro|omega|with_reducible (first|rfl|assumption)|exact hlp|exact ham|rfl
theorem st2Z_all (D:List Nat)(n w:Nat)(L:List Int)(hbn:¬w<n):x9_ 2 p_ clSt (z1_ p_ 80 7) (soS D n w L) (.exit 2) (soS D n w L):=by
  refine⟨⟨true,(bs [(30,false)])⟩,_,60,⟨[],[0,1,2,6],[0,1]⟩,[decide ((↑w:Int)<↑n)=false],y4_,by decide,by kernel_rfl,?_⟩
  all_goals try simp(disch:=omega) only[std]
  all_goals repeat' apply And.intro
  all_goals first|exact True.intro|omega|with_reducible (first|rfl|assumption)|rfl
noncomputable def stLp (D D1 D3:List Nat)(n a b w:Nat)(L:List Int):List (Nat×Lp):=[(2,⟨z1_ p_ 80 2,⟨[],[0,1,2,6,7,8],[0,1]⟩,stS D n 20 0 20 L,.exit 0,stS D1 n 20 a b L⟩),(7,⟨z1_ p_ 80 7,⟨[],[0,1,2,6],[0,1]⟩,soS (soD (unI (z2_ L)) (z5_ (z0_ D1)) a n) n 20 L,.exit 2,soS D3 n w L⟩)]
theorem stb_all (D D1 D3:List Nat)(n a b w:Nat)(L:List Int)(hn:n≤255)(han:a≤n)(hD:D1.length=n)(hsm:SmI L)(hbd:BdR D1 L.length)(hi:IncR D1 a n):∃(h:Hints) (p:List Prop),y5_ [] (z8_ p_ clSt h (y1_ (stLp D D1 D3 n a b w L)) 60 80 ([.sl 0 0 n,.c (.int .i64 n),srF]) (srH D L.length (z2_ L)))=some (.tu [],srH D3 L.length (z2_ L),p)∧z7_ p:=by
  refine⟨⟨true,bs []⟩,[((z1_ p_ (80:FuncId) (2:Nat):Go.Code))=(z1_ p_ (80:FuncId) (2:Nat)),
 ((stS D n (20:Nat) (0:Nat) (20:Nat) L:St))=(stS D n (20:Nat) (0:Nat) (20:Nat) L),
 ((z0_ D1:List AV))=(z0_ (z5_ (z0_ D1))),
 (((z5_ (z0_ D1)).length:Nat))=(n),
 ((n:Nat)≤((255:Nat))),
 (0:Int)≤↑a,
 (↑a:Int)≤↑n,
 (↑n:Int)≤↑n,
 ((z2_ L:List AV))=(z2_ (unI (z2_ L))),
 ((L.length:Nat))=((unI (z2_ L)).length),
 SmI (unI (z2_ L)),
 BdR (z5_ (z0_ D1)) L.length,
 IncR (z5_ (z0_ D1)) a n,
 ((z1_ p_ (80:FuncId) (7:Nat):Go.Code))=(z1_ p_ (80:FuncId) (7:Nat)),
 ((soS (soD (unI (z2_ L)) (z5_ (z0_ D1)) a n) n (20:Nat) L:St))=(soS (soD (unI (z2_ L)) (z5_ (z0_ D1)) a n) n (20:Nat) L)],by kernel_rfl,?_⟩
  all_goals try simp(disch:=omega) only[std,w9_,v8_]
  all_goals repeat' apply And.intro
  all_goals first|exact True.intro|omega|with_reducible (first|rfl|assumption)|exact hD|exact hsm|exact hbd|exact hi|rfl
theorem inc_seg {X:List Nat}(h:X.Pairwise (· < ·))(i j:Nat):(seg X i j).Pairwise (· < ·):=by
  unfold seg
  exact(h.sublist (List.take_sublist _ _)).sublist (List.drop_sublist _ _)
theorem inc_app {A B:List Nat}(h:(A++B).Pairwise (· < ·)):∀x∈A,∀y∈B,x<y:=(List.pairwise_append.1 h).2.2
def stR (L:List Int)(X:List Nat)(a:Nat):List Nat:=t6_ (x2_ L) 20 (X.take a)++X.drop a
theorem f1_ (κ:Nat→Int){w:Nat}(h:0<w)(l:List Nat):(t6_ κ w l).length=l.length:=chunks_len κ h _ l (Nat.le_refl _)
theorem chunks_mem {κ:Nat→Int}{w:Nat}(h:0<w):∀(n:Nat) (l:List Nat),l.length≤n→∀z,z∈t6_ κ w l↔z∈l
  |0,l,hl,z=>by
   have:l=[]:=List.eq_nil_of_length_eq_zero (by omega)
   subst this;rw[m7_]
  |n+1,l,hl,z=>by
   by_cases he:l=[]
   ·subst he;rw[m7_]
   ·have h0:l.length≠0:=fun e=>he (List.eq_nil_of_length_eq_zero e)
    rw[i9_ κ h,List.mem_append,so_mem,chunks_mem h n (l.drop w) (by rw[List.length_drop];omega),←List.mem_append,List.take_append_drop]
theorem stR_len (L:List Int)(X:List Nat)(a:Nat):(stR L X a).length=X.length:=by
  unfold stR
  rw[List.length_append,f1_ _ (by decide),List.length_take,List.length_drop];omega
theorem stR_bd {L:List Int}{X:List Nat}(h:BdR X L.length)(a:Nat):BdR (stR L X a) L.length:=by
  intro z hz
  unfold stR at hz
  rcases List.mem_append.1 hz with h1|h1
  ·exact h z (List.mem_of_mem_take ((chunks_mem (by decide) _ _ (Nat.le_refl _) z).1 h1))
  ·exact h z (List.mem_of_mem_drop h1)
theorem stR_form (L:List Int)(X:List Nat){a b:Nat}(h:a≤b):stR L X a=t6_ (x2_ L) 20 (X.take a)++(seg X a b++X.drop b)∧X.take b=X.take a++seg X a b:=by
  have e:X.take b=X.take a++seg X a b:=by
    unfold seg
    conv=>lhs;rw[←List.take_append_drop a (X.take b)]
    rw[List.take_take,Nat.min_eq_left h]
  refine⟨?_,e⟩
  unfold stR
  congr 1
  have:=List.take_append_drop b X
  rw[e,List.append_assoc]at this
  conv=>lhs;rw[←this]
  by_cases ha:a≤X.length
  ·rw[List.drop_append_of_le_length (by rw[List.length_take];omega),List.drop_of_length_le (by rw[List.length_take];omega),List.nil_append]
  ·have k1:seg X a b=[]:=by unfold seg;exact List.drop_of_length_le (by rw[List.length_take];omega)
   have k2:X.drop b=[]:=List.drop_of_length_le (by omega)
   rw[k1,k2,List.append_nil,List.append_nil,List.drop_of_length_le (by rw[List.length_take];omega)]
theorem stR_step (L:List Int)(X:List Nat){q a b:Nat}(ha:a=q*20)(hb:b≤X.length)(hab:a≤b)(hb2:b≤a+20):soD L (stR L X a) a b=t6_ (x2_ L) 20 (X.take b)++X.drop b∧seg (stR L X a) a b=seg X a b:=by
  obtain⟨e1,e2⟩:=stR_form L X hab
  have l1:(t6_ (x2_ L) 20 (X.take a)).length=a:=by rw[f1_ _ (by decide),List.length_take];omega
  have l2:=f9_ X (i:=a) hb
  have k:seg (stR L X a) a b=seg X a b:=by rw[e1];exact p0_ l1 (by omega)
  refine⟨?_,k⟩
  unfold soD
  rw[k,e1,put_at l1 (by omega),e2,chunks_app (x2_ L) (by decide) q _ _ (by rw[List.length_take];omega),e6_ (x2_ L) (l:=seg X a b) (by decide) (by omega),List.append_assoc]
theorem st1_walk (X:List Nat)(L:List Int){n:Nat}(hn:X.length=n)(hn2:n≤255)(hX:X.Pairwise (· < ·))(hsm:SmI L)(hb:BdR X L.length):
    Tri (ExtK 2) p_ (.loop (z1_ p_ 80 2)) (stS X n 20 0 20 L) (.exit 0) (stS (stR L X (n/20*20)) n 20 (n/20*20) (n/20*20+20) L):=by
  have e0:X=stR L X 0:=by unfold stR;rw[List.take_zero,m7_];rfl
  have h:=loop_upK (k:=2) mixed clSt_ok (b:=z1_ p_ 80 2) (fun q=>stS (stR L X (q*20)) n 20 (q*20) (q*20+20) L) (n/20) (e:= .exit 0) (R:=stS (stR L X (n/20*20)) n 20 (n/20*20) (n/20*20+20) L) (by simp) (fun q hq=>?_) ?_ 0 (Nat.zero_le _)
  ·simp only[Nat.zero_mul,Nat.zero_add]at h
   rw[←e0]at h
   exact h
  ·obtain⟨k1,k2⟩:=stR_step L X (q:=q) (a:=q*20) (b:=q*20+20) rfl (by omega) (by omega) (by omega)
   have:=st1A_all (stR L X (q*20)) n (q*20) (q*20+20) L hn2 (by omega) (by omega) (by rw[stR_len];exact hn) hsm (stR_bd hb _) (by unfold IncR;rw[k2];exact inc_seg hX _ _)
   rw[k1]at this
   rw[Nat.succ_mul]
   exact this
  ·exact st1Z_all _ n _ _ L (by omega)
def mgR (L:List Int)(X:List Nat)(w a:Nat):List Nat:=t6_ (x2_ L) (2*w) (X.take a)++t6_ (x2_ L) w (X.drop a)
theorem mgR_len (L:List Int)(X:List Nat){w:Nat}(hw:0<w)(a:Nat):(mgR L X w a).length=X.length:=by
  unfold mgR
  rw[List.length_append,f1_ _ (by omega),f1_ _ hw,List.length_take,List.length_drop];omega
theorem mgR_bd {L:List Int}{X:List Nat}(h:BdR X L.length){w:Nat}(hw:0<w)(a:Nat):BdR (mgR L X w a) L.length:=by
  intro z hz
  unfold mgR at hz
  rcases List.mem_append.1 hz with h1|h1
  ·exact h z (List.mem_of_mem_take ((chunks_mem (by omega) _ _ (Nat.le_refl _) z).1 h1))
  ·exact h z (List.mem_of_mem_drop ((chunks_mem hw _ _ (Nat.le_refl _) z).1 h1))
theorem take_drop_app (X:List Nat){a b:Nat}(h:a≤b):X.take b=X.take a++(X.drop a).take (b-a):=by
  have:b=a+(b-a):=by omega
  conv=>lhs;rw[this]
  exact List.take_add
theorem mgR_step (L:List Int)(X:List Nat){w q a m b:Nat}(hw:0<w)(ha:a=q*(2*w))(hm:m=a+w)(hmb:m≤b)(hb2:b≤a+2*w)(hb:b≤X.length)(hX:X.Pairwise (· < ·)):
    soD L (mgR L X w a) a b=t6_ (x2_ L) (2*w) (X.take b)++t6_ (x2_ L) w ((X.drop m).drop (b-m))∧t8_ L (mgR L X w a) a m∧((b-m=w∨b=X.length)→t8_ L (mgR L X w a) m b∧LtR (mgR L X w a) a m b)∨¬(b-m=w∨b=X.length):=by
  by_cases hc:b-m=w∨b=X.length
  ·left
   have l1:(t6_ (x2_ L) (2*w) (X.take a)).length=a:=by rw[f1_ _ (by omega),List.length_take];omega
   have e1:mgR L X w a=t6_ (x2_ L) (2*w) (X.take a)++(so (x2_ L) ((X.drop a).take w)++(so (x2_ L) ((X.drop m).take w)++t6_ (x2_ L) w ((X.drop m).drop w))):=by
     unfold mgR
     rw[i9_ _ hw (X.drop a),i9_ _ hw ((X.drop a).drop w),List.drop_drop,←hm]
   have e2:(X.drop m).take w=(X.drop m).take (b-m):=by
     rcases hc with h|h
     ·rw[h]
     ·rw[List.take_of_length_le (by rw[List.length_drop];omega),List.take_of_length_le (by rw[List.length_drop];omega)]
   have e3:(X.drop m).drop w=(X.drop m).drop (b-m):=by
     rcases hc with h|h
     ·rw[h]
     ·rw[List.drop_of_length_le (by rw[List.length_drop];omega),List.drop_of_length_le (by rw[List.length_drop];omega)]
   rw[e2,e3]at e1
   have y1:(so (x2_ L) ((X.drop a).take w)).length=w:=by rw[so_len,List.length_take,List.length_drop];omega
   have y2:(so (x2_ L) ((X.drop m).take (b-m))).length=b-m:=by rw[so_len,List.length_take,List.length_drop];omega
   have s1:seg (mgR L X w a) a m=so (x2_ L) ((X.drop a).take w):=by rw[e1];exact p0_ l1 (by omega)
   have s2:seg (mgR L X w a) m b=so (x2_ L) ((X.drop m).take (b-m)):=by rw[e1,←List.append_assoc];exact p0_ (by rw[List.length_append];omega) (by omega)
   have s3:seg (mgR L X w a) a b=so (x2_ L) ((X.drop a).take w)++so (x2_ L) ((X.drop m).take (b-m)):=by rw[e1,←List.append_assoc (so _ _)];exact p0_ l1 (by rw[List.length_append];omega)
   have hsplit:(X.drop a).take (b-a)=(X.drop a).take w++(X.drop m).take (b-m):=by
     rw[take_drop_app (X.drop a) (a:=w) (b:=b-a) (by omega),List.drop_drop,←hm,show b-a-w=b-m by omega]
   refine⟨?_,?_,fun _=>⟨?_,?_⟩⟩
   ·unfold soD
    rw[s3,e1,←List.append_assoc (so _ _),put_at l1 (by rw[List.length_append];omega)]
    rw[take_drop_app X (show a≤b by omega),chunks_app (x2_ L) (by omega) q _ _ (by rw[List.length_take];omega),e6_ (x2_ L) (l:=(X.drop a).take (b-a)) (by omega) (by rw[List.length_take];omega),List.append_assoc]
    congr 2
    rw[hsplit]
    exact so_same ((e0_ _ _).append (e0_ _ _))
   ·unfold t8_;rw[s1];exact so_sor _ _
   ·unfold t8_;rw[s2];exact so_sor _ _
   ·intro x hx y hy
    rw[s1,so_mem]at hx
    rw[s2,so_mem]at hy
    have hp:((X.drop a).take w++(X.drop m).take (b-m)).Pairwise (· < ·):=by
      rw[←hsplit]
      exact(hX.sublist (List.drop_sublist _ _)).sublist (List.take_sublist _ _)
    exact inc_app hp x hx y hy
  ·exact .inr hc
theorem st3_walk (X:List Nat)(L:List Int){n w:Nat}(hw:0<w)(hw2:w≤1000)(hn:X.length=n)(hn2:n≤255)(hX:X.Pairwise (· < ·))(hsm:SmI L)(hb:BdR X L.length):
    Tri (ExtK 2) p_ (.loop (z1_ p_ 80 9)) (stS (t6_ (x2_ L) w X) n w 0 (2*w) L) (.exit 4) (stS (mgR L X w (n/(2*w)*(2*w))) n w (n/(2*w)*(2*w)) (n/(2*w)*(2*w)+2*w) L):=by
  have e0:t6_ (x2_ L) w X=mgR L X w 0:=by unfold mgR;rw[List.take_zero,m7_];rfl
  have hdiv:n/(2*w)*(2*w)≤n:=Nat.div_mul_le_self _ _
  have hlt:n<n/(2*w)*(2*w)+2*w:=by
    have:=Nat.lt_div_mul_add (a:=n) (b:=2*w) (by omega)
    omega
  have h:=loop_upK (k:=2) mixed clSt_ok (b:=z1_ p_ 80 9) (fun q=>stS (mgR L X w (q*(2*w))) n w (q*(2*w)) (q*(2*w)+2*w) L) (n/(2*w)) (e:= .exit 4) (R:=stS (mgR L X w (n/(2*w)*(2*w))) n w (n/(2*w)*(2*w)) (n/(2*w)*(2*w)+2*w) L) (by simp) (fun q hq=>?_) ?_ 0 (Nat.zero_le _)
  ·simp only[Nat.zero_mul,Nat.zero_add]at h
   rw[←e0]at h
   exact h
  ·have hq2:(q+1)*(2*w)≤n/(2*w)*(2*w):=Nat.mul_le_mul_right _ hq
   have hs:(q+1)*(2*w)=q*(2*w)+2*w:=Nat.succ_mul _ _
   rw[hs]at hq2 ⊢
   generalize hqa:q*(2*w)=a at*
   rcases mgR_step L X (q:=q) (a:=a) (m:=a+w) (b:=a+2*w) hw hqa.symm rfl (by omega) (Nat.le_refl _) (by omega) hX with⟨k1,k2,k3⟩|k
   ·obtain⟨k3,k4⟩:=k3 (.inl (by omega))
    have:=st3A_all (mgR L X w a) n w a (a+w) (a+2*w) L hn2 hw2 hw rfl (by omega) (by omega) (by rw[mgR_len _ _ hw];exact hn) hsm (mgR_bd hb hw _) k2 k3 k4
    rw[k1,List.drop_drop,show a+w+(a+2*w-(a+w))=a+2*w by omega]at this
    exact this
   ·exact absurd (.inl (by omega)) k
  ·exact st3Z_all _ n w _ _ L (by omega)
def endW (n:Nat):Nat→Nat→Nat
  |0,w=>w
  |f+1,w=>if w<n then endW n f (2*w)else w
theorem st2_walk (X:List Nat)(L:List Int){n:Nat}(hn:X.length=n)(hn2:n≤255)(hX:X.Pairwise (· < ·))(hsm:SmI L)(hb:BdR X L.length):
    ∃w,Tri (ExtK 2) p_ (.loop (z1_ p_ 80 7)) (soS (t6_ (x2_ L) 20 X) n 20 L) (.exit 2) (soS (so (x2_ L) X) n w L):=by
  refine⟨endW n 300 20,?_⟩
  obtain⟨W,hW⟩:∃W,endW n 300 20=W:=⟨_,rfl⟩
  rw[hW]
  refine i1_ mixed clSt_ok (fun x:Nat×Nat=>soS (t6_ (x2_ L) x.2 X) n x.2 L) (fun x=>endW n x.1 x.2=W∧(20≤x.2∧x.2≤510)∧n-x.2≤x.1) (fun x=>n-x.2) (fun x hx=>?_) (300,20) ⟨hW,⟨Nat.le_refl _,by simp⟩,by simp only;omega⟩
  obtain⟨f,w⟩:=x
  obtain⟨h1,⟨h2,h3⟩,h4⟩:=hx
  simp only at h1 h2 h3 h4 ⊢
  have hw:0<w:=by omega
  by_cases hwn:w<n
  ·obtain⟨f,rfl⟩:∃g,f=g+1:=⟨f-1,by omega⟩
   unfold endW at h1
   rw[if_pos hwn]at h1
   have w3:=st3_walk X L hw (by omega) hn hn2 hX hsm hb
   have hdiv:n/(2*w)*(2*w)≤n:=Nat.div_mul_le_self _ _
   have hlt:n<n/(2*w)*(2*w)+2*w:=by
     have:=Nat.lt_div_mul_add (a:=n) (b:=2*w) (by omega)
     omega
   have lp:=s2_ (m:=9) y4_ (L:=⟨z1_ p_ 80 9,⟨[],[0,1,2,6,7,8],[0,1]⟩,_,.exit 4,_⟩) kp2 w3
   refine .inl ⟨(f,2*w),⟨h1,⟨by simp only;omega,by simp only;omega⟩,by simp only;omega⟩,by simp only;omega,?_⟩
   generalize hqa:n/(2*w)*(2*w)=a at*
   by_cases hm:a+w<n
   ·rcases mgR_step L X (q:=n/(2*w)) (a:=a) (m:=a+w) (b:=n) hw hqa.symm rfl (by omega) (by omega) (by omega) hX with⟨k1,k2,k3⟩|k
    ·obtain⟨k3,k4⟩:=k3 (.inr hn.symm)
     have:=st2A_all (t6_ (x2_ L) w X) (mgR L X w a) n w a (a+w) (a+2*w) L lp hn2 hwn rfl hdiv hm (by rw[mgR_len _ _ hw];exact hn) hsm (mgR_bd hb hw _) k2 k3 k4 hw
     rw[k1,←hn,List.take_length,List.drop_of_length_le (l:=X.drop (a+w)) (by rw[List.length_drop];omega),m7_,List.append_nil]at this
     rw[←hn]
     exact this
    ·exact absurd (.inr hn.symm) k
   ·have:=st2B_all (t6_ (x2_ L) w X) (mgR L X w a) n w a (a+w) (a+2*w) L lp hn2 hwn rfl hdiv hm
    have e:mgR L X w a=t6_ (x2_ L) (2*w) X:=by
      unfold mgR
      have:=chunks_app (x2_ L) (bs:=2*w) (by omega) (n/(2*w)) (X.take a) (X.drop a) (by rw[List.length_take,hqa];omega)
      rw[List.take_append_drop]at this
      rw[this,e6_ (x2_ L) (bs:=w) (l:=X.drop a) hw (by rw[List.length_drop];omega),e6_ (x2_ L) (bs:=2*w) (l:=X.drop a) (by omega) (by rw[List.length_drop];omega)]
    rw[e]at this
    exact this
  ·have e:w=W:=by
     rw[←h1]
     cases f with
     |zero=>rfl
     |succ f=>unfold endW;rw[if_neg hwn]
   have es:t6_ (x2_ L) w X=so (x2_ L) X:=e6_ _ hw (by omega)
   rw[es,←e]
   exact .inr ⟨by simp,st2Z_all (so (x2_ L) X) n w L hwn⟩
def IncA (X:List Nat):Prop:=X.Pairwise (· < ·)
def stbSpec:HSpec
  | [.sl 0 0 n,.c (.int .i64 n2),.fn f [.pt 1 0]],[some ⟨t,false,C⟩,some ⟨t2,true,[.fs s k l]⟩]=>if(t=3∧t2=27)∧(f=73∧s=1)then
      some (.tu [],srH (so (x2_ (unI l)) (z5_ C)) k l,[C=z0_ (z5_ C),(z5_ C).length=n,n≤255,n2=n,l=z2_ (unI l),k=(unI l).length,SmI (unI l),BdR (z5_ C) k,IncA (z5_ C)])else none
  |_,_=>none
theorem stb_ok:u0_ p_ 80 stbSpec:=by
  refine zb0_ mixed clSt_ok fun args hp r hp' q hs hq=>?_
  unfold stbSpec at hs
  split at hs
  ·rename_i n n2 f t C t2 s k l
   split at hs
   ·rename_i hc
    obtain⟨⟨rfl,rfl⟩,rfl,rfl⟩:=hc
    simp only[oi_]at hs
    obtain⟨rfl,rfl,rfl⟩:=hs
    obtain⟨h1,h2,h3,h4,h5,h6,h7,h8,h9,_⟩:=hq
    generalize unI l=L at*
    generalize z5_ C=X at*
    subst h1 h4 h5 h6
    have w1:=st1_walk X L h2 h3 h9 h7 h8
    obtain⟨w,w2⟩:=st2_walk X L h2 h3 h9 h7 h8
    have hdiv:n/20*20≤n:=Nat.div_mul_le_self _ _
    have hlt:n<n/20*20+20:=by omega
    obtain⟨k1,k2⟩:=stR_step L X (q:=n/20) (a:=n/20*20) (b:=n) rfl (by omega) hdiv (by omega)
    rw[←h2,List.take_length,List.drop_length,List.append_nil,h2]at k1
    obtain⟨hh,p,e,hp⟩:=stb_all X (stR L X (n/20*20)) (so (x2_ L) X) n (n/20*20) (n/20*20+20) w L h3 hdiv (by rw[stR_len];exact h2) h7 (stR_bd h8 _) (by unfold IncR;rw[k2];exact inc_seg h9 _ _)
    rw[←k1]at w2
    have ex:soS (soD L (stR L X (n/20*20)) (n/20*20) n) n 20 L=soS (soD (unI (z2_ L)) (z5_ (z0_ (stR L X (n/20*20)))) (n/20*20) n) n 20 L:=by rw[v8_,w9_]
    rw[ex]at w2
    exact⟨_,_,_,_,_,s2_ (s2_ y4_ kp2 w2) kp2 w1,e,hp⟩
   ·simp at hs
  ·simp at hs
def sstSpec:HSpec
  | [.sl 0 0 n,.fn f [.pt 1 0]],[some ⟨t,false,C⟩,some ⟨t2,true,[.fs s k l]⟩]=>if(t=3∧t2=27)∧(f=73∧s=1)then
      some (.tu [],srH (so (x2_ (unI l)) (z5_ C)) k l,[C=z0_ (z5_ C),(z5_ C).length=n,n≤255,l=z2_ (unI l),k=(unI l).length,SmI (unI l),BdR (z5_ C) k,IncA (z5_ C)])else none
  |_,_=>none
noncomputable def clSs:CallT:=p3_ p_ (r4_ []) (m0_ [(80,stbSpec)]) 500 8
theorem clSs_ok:x7_ p_ clSs:=s3_ mixed v2_ (w5_ stb_ok s8_) 500 8
theorem sst_all (D:List Nat)(n:Nat)(L:List Int)(hn:n≤255)(hD:D.length=n)(hsm:SmI L)(hbd:BdR D L.length)(hi:IncA D):∃(h:Hints) (p:List Prop),y5_ [] (z8_ p_ clSs h (y1_ ([])) 60 72 ([.sl 0 0 n,srF]) (srH D L.length (z2_ L)))=some (.tu [],srH (so (x2_ L) D) L.length (z2_ L),p)∧z7_ p:=by
  refine⟨⟨true,bs []⟩,[((z0_ D:List AV))=(z0_ (z5_ (z0_ D))),
 (((z5_ (z0_ D)).length:Nat))=(n),
 ((n:Nat)≤((255:Nat))),
 (↑n:Int)=↑n,
 ((z2_ L:List AV))=(z2_ (unI (z2_ L))),
 ((L.length:Nat))=((unI (z2_ L)).length),
 SmI (unI (z2_ L)),
 BdR (z5_ (z0_ D)) L.length,
 IncA (z5_ (z0_ D))],Eq.trans (b:=some ((AV.tu []),[(.some ⟨3,false,(z0_ (so (x2_ (unI (z2_ L))) (z5_ (z0_ D))))⟩),
 (.some ⟨27,true,[(AV.fs 1 L.length (z2_ L))]⟩)],_)) (by kernel_rfl) (congrArg (fun r:AV×Heap=>some (r.1,r.2,_)) (a₁:=(_,_)) (a₂:=(_,_)) (by first|rfl|(simp(disch:=omega) only[std,w9_,v8_];first|done|rfl))),?_⟩
  all_goals try simp(disch:=omega) only[std,w9_,v8_]
  all_goals repeat' apply And.intro
  all_goals first|exact True.intro|omega|with_reducible (first|rfl|assumption)|exact hD|exact hsm|exact hbd|exact hi|rfl
theorem sst_ok:u0_ p_ 72 sstSpec:=by
  refine zb0_ mixed clSs_ok fun args hp r hp' q hs hq=>?_
  unfold sstSpec at hs
  split at hs
  ·rename_i n f t C t2 s k l
   split at hs
   ·rename_i hc
    obtain⟨⟨rfl,rfl⟩,rfl,rfl⟩:=hc
    simp only[oi_]at hs
    obtain⟨rfl,rfl,rfl⟩:=hs
    obtain⟨h1,h2,h3,h5,h6,h7,h8,h9,_⟩:=hq
    generalize unI l=L at*
    generalize z5_ C=X at*
    subst h1 h5 h6
    obtain⟨hh,p,e,hp⟩:=sst_all X n L h3 h2 h7 h8 h9
    exact⟨_,_,_,_,_,y4_,e,hp⟩
   ·simp at hs
  ·simp at hs
end Go.Proofs.YtmjldphagbobpaaDoor
