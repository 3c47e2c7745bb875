import Derived.Test.YtmjldphagbobpaaDoorPnyD
import Derived.Test.YtmjldphagbobpaaDoorTextN
set_option linter.unusedVariables false
set_option linter.unusedSimpArgs false
namespace Go.Proofs.YtmjldphagbobpaaDoor.Idn
open Go.RowKit
def btw (c lo hi:Nat):Bool:=decide (lo≤c)&&decide (c≤hi)
theorem m1_ {c lo hi:Nat} :btw c lo hi=true↔lo≤c∧c≤hi:=by unfold btw;rw[Bool.and_eq_true,decide_eq_true_eq,decide_eq_true_eq]
def plus32 (c:Nat):Bool:=btw c 65 90||btw c 192 214||btw c 216 222||btw c 913 929||btw c 931 937||btw c 1040 1071
def toN (c:Nat):List Nat:=
  if plus32 c=true then [c+32]else if(btw c 256 302&&c%2==0)=true then [c+1]else if btw c 1024 1039=true then [c+80]
  else if c=304 then [105,775]else if c=8228∨c=12290∨c=65377 then [46]else if c=8448 then [97,47,99]else if c=8453 then [99,47,111]
  else if btw c 9312 9320=true then [c-9312+49]else if btw c 65313 65338=true then [c-65248+32]else if btw c 65281 65374=true then [c-65248]
  else if btw c 120782 120831=true then [48+(c-120782)%10]else []
def goneN (c:Nat):Bool:=c==173||c==8203||c==8288||c==65279
def validN (c:Nat):Bool:= !(c==215||c==247)&&(btw c 0 127||btw c 223 255||btw c 257 303||btw c 768 879||btw c 945 969||btw c 1072 1119||btw c 12353 12438||btw c 12449 12538||btw c 19968 40959||btw c 44032 55203||btw c 127744 128511)
def r6_ (c:Nat):Nat:=if toN c≠[]then 2 else if goneN c=true then 3 else if validN c=true then 1 else 0
def n8_ (c:Nat):List Nat:=if toN c≠[]then toN c else if goneN c=true then []else [c]
def j2_ (c:Nat):Prop:=toN c=[]∧goneN c=false∧validN c=true
theorem stays_iff {c:Nat} :j2_ c↔r6_ c=1:=by
  unfold j2_ r6_
  by_cases h1:toN c=[]
  ·rw[if_neg (by simpa using h1)]
   cases h2:goneN c<;>cases h3:validN c<;>simp[h1]
  ·rw[if_pos h1];simp[h1]
theorem l5_ {d:Nat}(h:(d≤127∧¬(65≤d∧d≤90))∨(223≤d∧d≤246)∨(248≤d∧d≤255)∨(257≤d∧d≤303∧d%2=1)∨d=775∨(945≤d∧d≤969)∨(1072≤d∧d≤1119)):j2_ d:=by
  have b:∀lo hi,¬(lo≤d∧d≤hi)→btw d lo hi=false:=fun lo hi h=>by
    cases e:btw d lo hi with
    |false=>rfl
    |true=>exact absurd (m1_.1 e) h
  refine⟨?_,?_,?_⟩
  ·unfold toN plus32
   rw[b 65 90 (by omega),b 192 214 (by omega),b 216 222 (by omega),b 913 929 (by omega),b 931 937 (by omega),b 1040 1071 (by omega),b 1024 1039 (by omega),b 9312 9320 (by omega),b 65313 65338 (by omega),b 65281 65374 (by omega),b 120782 120831 (by omega)]
   rw[if_neg (by simp),if_neg (by
     rw[Bool.and_eq_true,m1_,beq_iff_eq]
     omega),if_neg (by simp),if_neg (by omega),if_neg (by omega),if_neg (by omega),if_neg (by omega),if_neg (by simp),if_neg (by simp),if_neg (by simp),if_neg (by simp)]
  ·unfold goneN
   simp only[Bool.or_eq_false_iff,beq_eq_false_iff_ne]
   omega
  ·unfold validN
   rw[Bool.and_eq_true]
   constructor
   ·simp only[Bool.not_eq_true',Bool.or_eq_false_iff,beq_eq_false_iff_ne]
    omega
   ·simp only[Bool.or_eq_true,m1_]
    omega
theorem to_stays {c d:Nat}(h:d∈toN c):j2_ d∧d≠c:=by
  unfold toN plus32 at h
  split at h
  ·rename_i e
   simp only[Bool.or_eq_true,m1_]at e
   have h:=List.mem_singleton.1 h
   exact⟨l5_ (by omega),by omega⟩
  split at h
  ·rename_i e
   rw[Bool.and_eq_true,m1_,beq_iff_eq]at e
   have h:=List.mem_singleton.1 h
   exact⟨l5_ (by omega),by omega⟩
  split at h
  ·rename_i e
   rw[m1_]at e
   have h:=List.mem_singleton.1 h
   exact⟨l5_ (by omega),by omega⟩
  split at h
  ·simp only[List.mem_cons,List.mem_nil_iff,or_false]at h
   exact⟨l5_ (by omega),by omega⟩
  split at h
  ·obtain rfl:=List.mem_singleton.1 h
   exact⟨l5_ (by omega),by omega⟩
  split at h
  ·rename_i e
   simp only[List.mem_cons,List.mem_nil_iff,or_false]at h
   have h:d=97∨d=47∨d=99:=h
   exact⟨l5_ (.inl (by omega)),by omega⟩
  split at h
  ·rename_i e
   simp only[List.mem_cons,List.mem_nil_iff,or_false]at h
   have h:d=99∨d=47∨d=111:=h
   exact⟨l5_ (.inl (by omega)),by omega⟩
  split at h
  ·rename_i e
   rw[m1_]at e
   have h:=List.mem_singleton.1 h
   exact⟨l5_ (by omega),by omega⟩
  split at h
  ·rename_i e
   rw[m1_]at e
   have h:=List.mem_singleton.1 h
   exact⟨l5_ (by omega),by omega⟩
  split at h
  ·rename_i e0 e
   rw[m1_]at e e0
   have h:=List.mem_singleton.1 h
   exact⟨l5_ (by omega),by omega⟩
  split at h
  ·rename_i e
   rw[m1_]at e
   have h:=List.mem_singleton.1 h
   exact⟨l5_ (by omega),by omega⟩
  ·cases h
theorem to_len (c:Nat):(toN c).length≤3:=by
  unfold toN
  repeat' split
  all_goals simp
theorem map_ok {c:Nat}(h:r6_ c≠0):U8.okC c:=by
  unfold U8.okC
  apply Classical.byContradiction
  intro hn
  apply h
  have b:∀lo hi,¬(lo≤c∧c≤hi)→btw c lo hi=false:=fun lo hi h=>by
    cases e:btw c lo hi with
    |false=>rfl
    |true=>exact absurd (m1_.1 e) h
  have h1:toN c=[]:=by
    unfold toN plus32
    rw[b 65 90 (by omega),b 192 214 (by omega),b 216 222 (by omega),b 913 929 (by omega),b 931 937 (by omega),b 1040 1071 (by omega),b 256 302 (by omega),b 1024 1039 (by omega),b 9312 9320 (by omega),b 65313 65338 (by omega),b 65281 65374 (by omega),b 120782 120831 (by omega)]
    rw[if_neg (by simp),if_neg (by simp),if_neg (by simp),if_neg (by omega),if_neg (by omega),if_neg (by omega),if_neg (by omega),if_neg (by simp),if_neg (by simp),if_neg (by simp),if_neg (by simp)]
  have h2:goneN c=false:=by
    unfold goneN
    simp only[Bool.or_eq_false_iff,beq_eq_false_iff_ne]
    omega
  have h3:validN c=false:=by
    unfold validN
    rw[b 0 127 (by omega),b 223 255 (by omega),b 257 303 (by omega),b 768 879 (by omega),b 945 969 (by omega),b 1072 1119 (by omega),b 12353 12438 (by omega),b 12449 12538 (by omega),b 19968 40959 (by omega),b 44032 55203 (by omega),b 127744 128511 (by omega)]
    simp
  unfold r6_
  rw[h1,h2,h3]
  simp
theorem g9_ {c:Nat}(h:j2_ c):U8.okC c:=map_ok (by rw[stays_iff.1 h];decide)
theorem stays_out {c:Nat}(h:j2_ c):n8_ c=[c]:=by
  obtain⟨h1,h2,h3⟩:=h
  unfold n8_
  rw[if_neg (by simpa using h1),if_neg (by rw[h2];simp)]
theorem out_stays {c d:Nat}(hc:r6_ c≠0)(h:d∈n8_ c):j2_ d:=by
  unfold n8_ at h
  split at h
  ·exact(to_stays h).1
  ·rename_i h1
   split at h
   ·cases h
   ·rename_i h2
    obtain rfl:=List.mem_singleton.1 h
    unfold r6_ at hc
    rw[if_neg h1,if_neg h2]at hc
    refine⟨by simpa using h1,by simpa using h2,?_⟩
    cases h3:validN d with
    |true=>rfl
    |false=>rw[h3]at hc;simp at hc
theorem stays_small {c:Nat}(h:j2_ c):¬(65≤c∧c≤90):=by
  intro hc
  have:toN c=[c+32]:=by
    unfold toN plus32
    rw[m1_.2 hc];simp
  have h1:=h.1
  rw[this]at h1
  cases h1
theorem b0_ {c:Nat}(h:c<128)(h2:¬(65≤c∧c≤90)):j2_ c:=l5_ (by omega)
def r0_ (cs:List Nat):Option (List Nat):=if cs.all (fun c=>r6_ c !=0)=true then some (cs.flatMap n8_)else none
theorem put_app (a b:List Nat):r0_ (a++b)=match r0_ a,r0_ b with
    |some x,some y=>some (x++y)
    |_,_=>none:=by
  unfold r0_
  rw[List.all_append,List.flatMap_append]
  cases h1:a.all (fun c=>r6_ c !=0)<;>cases h2:b.all (fun c=>r6_ c !=0)<;>simp
theorem put_stays {cs:List Nat}(h:∀c∈cs,j2_ c):r0_ cs=some cs:=by
  unfold r0_
  rw[if_pos (List.all_eq_true.2 fun c hc=>by rw[bne_iff_ne,stays_iff.1 (h c hc)];decide)]
  congr 1
  induction cs with
  |nil=>rfl
  |cons c r ih=>rw[List.flatMap_cons,stays_out (h c (.head _)),ih fun d hd=>h d (.tail _ hd)];rfl
theorem put_out {cs q:List Nat}(h:r0_ cs=some q):∀c∈q,j2_ c:=by
  unfold r0_ at h
  split at h
  ·rename_i hall
   obtain rfl:=Option.some.inj h
   intro d hd
   obtain⟨c,hc,hd⟩:=List.mem_flatMap.1 hd
   exact out_stays (bne_iff_ne.1 (List.all_eq_true.1 hall c hc)) hd
  ·cases h
theorem put_len {cs q:List Nat}(h:r0_ cs=some q):q.length≤3*cs.length:=by
  unfold r0_ at h
  split at h
  ·obtain rfl:=Option.some.inj h
   clear h
   induction cs with
   |nil=>simp
   |cons c r ih=>
    rw[List.flatMap_cons,List.length_append,List.length_cons]
    have hc:(n8_ c).length≤3:=by
      unfold n8_
      split
      ·exact to_len c
      ·split<;>simp
    rename_i hall
    rw[List.all_cons,Bool.and_eq_true]at hall
    have:=ih hall.2
    omega
  ·cases h
end Go.Proofs.YtmjldphagbobpaaDoor.Idn
namespace Go.Proofs.YtmjldphagbobpaaDoor.Idn
open Go.RowKit Pny
def l6_ (l:List Nat):Bool:=l.all (fun c=>r6_ c==1&&c !=46)&&l.any (fun c=>decide (127<c))&& !btw (l.headD 0) 768 879
def p2_ (l:List Nat):Bool:=l.all fun c=>decide (c<128)
def xnN:List Nat:=[120,110,45,45]
def xnB:List UInt8:=[120,110,45,45]
def j1_ (l:List Nat):Option (List UInt8):=
  if l.take 4=xnN then(if(p2_ l&&((m8_ (byt (l.drop 4))).map l6_).getD false)=true then some (byt l)else none)
  else if p2_ l=true then some (byt l)
  else if(l8_ l&&l6_ l)=true then some (xnB++p4_ l)else none
def t5_ (t:List UInt8):List Nat:=t.map UInt8.toNat
theorem byt_natsB (t:List UInt8):byt (t5_ t)=t:=by
  unfold byt t5_
  rw[List.map_map]
  conv=>rhs;rw[←List.map_id t]
  apply List.map_congr_left
  intro c _
  exact UInt8.ofNat_toNat
theorem natsB_byt {l:List Nat}(h:∀c∈l,c<256):t5_ (byt l)=l:=by
  unfold byt t5_
  rw[List.map_map]
  conv=>rhs;rw[←List.map_id l]
  apply List.map_congr_left
  intro c hc
  exact U8.t1_ (h c hc)
theorem natsB_app (a b:List UInt8):t5_ (a++b)=t5_ a++t5_ b:=List.map_append
theorem k0_ {l:List Nat} :p2_ l=true↔∀c∈l,c<128:=by
  unfold p2_
  rw[List.all_eq_true]
  simp
def nameC (c:Nat):Prop:=c<128∧c≠46∧¬(65≤c∧c≤90)
theorem encP_name {l:List Nat}(h:l8_ l=true)(hs:∀c∈l,j2_ c∧c≠46):∀c∈t5_ (p4_ l),nameC c:=by
  obtain⟨w,e,hw,_⟩:=d3_ h
  intro c hc
  obtain⟨x,hx,rfl⟩:=List.mem_map.1 hc
  rw[e]at hx
  rcases List.mem_append.1 hx with hx|hx
  ·obtain⟨d,hd,rfl⟩:=List.mem_map.1 hx
   obtain⟨d1,d2⟩:=List.mem_filter.1 hd
   have d2:d<128:=by simpa using d2
   rw[U8.t1_ (by omega)]
   exact⟨d2,(hs d d1).2,stays_small (hs d d1).1⟩
  ·rcases List.mem_append.1 hx with hx|hx
   ·unfold hyp at hx
    split at hx
    ·obtain rfl:=List.mem_singleton.1 hx
     exact⟨by decide,by decide,by decide⟩
    ·cases hx
   ·obtain⟨k,hk,rfl⟩:=hw x hx
    have h1:=chr_no hk
    have h2:∀y:Fin 36,(chr y.val).toNat<128∧(chr y.val).toNat≠46:=by decide+kernel
    exact⟨(h2 ⟨k,hk⟩).1,(h2 ⟨k,hk⟩).2,h1.2.2.1⟩
theorem lab_out {l:List Nat}{t:List UInt8}(hs:∀c∈l,j2_ c∧c≠46)(h:j1_ l=some t):(∀c∈t5_ t,nameC c)∧j1_ (t5_ t)=some t:=by
  unfold j1_ at h
  have plain:∀(hl:p2_ l=true),t=byt l→(∀c∈t5_ t,nameC c)∧t5_ t=l:=fun hl e=>by
    rw[k0_]at hl
    have e2:t5_ t=l:=by rw[e];exact natsB_byt fun c hc=>by have:=hl c hc;omega
    refine⟨fun c hc=>?_,e2⟩
    rw[e2]at hc
    exact⟨hl c hc,(hs c hc).2,stays_small (hs c hc).1⟩
  split at h
  ·rename_i hx
   split at h
   ·rename_i hc
    obtain rfl:=Option.some.inj h
    rw[Bool.and_eq_true]at hc
    obtain⟨p1,p2⟩:=plain hc.1 rfl
    refine⟨p1,?_⟩
    rw[p2]
    unfold j1_
    rw[if_pos hx,if_pos (by rw[Bool.and_eq_true];exact hc)]
   ·cases h
  ·rename_i hx
   split at h
   ·rename_i hl
    obtain rfl:=Option.some.inj h
    obtain⟨p1,p2⟩:=plain hl rfl
    refine⟨p1,?_⟩
    rw[p2]
    unfold j1_
    rw[if_neg hx,if_pos hl]
   ·split at h
    ·rename_i hc
     obtain rfl:=Option.some.inj h
     rw[Bool.and_eq_true]at hc
     have hn:=encP_name hc.1 hs
     have hx4:t5_ (xnB++p4_ l)=xnN++t5_ (p4_ l):=natsB_app _ _
     have hall:∀c∈t5_ (xnB++p4_ l),nameC c:=fun c hc=>by
       rw[hx4]at hc
       rcases List.mem_append.1 hc with hc|hc
       ·have:∀c∈xnN,nameC c:=by
          intro c hc
          simp only[xnN,List.mem_cons,List.mem_nil_iff,or_false]at hc
          unfold nameC
          omega
        exact this c hc
       ·exact hn c hc
     refine⟨hall,?_⟩
     have hlow:p2_ (t5_ (xnB++p4_ l))=true:=k0_.2 fun c hc=>(hall c hc).1
     have ht:(t5_ (xnB++p4_ l)).take 4=xnN:=by rw[hx4];rfl
     have hd:(t5_ (xnB++p4_ l)).drop 4=t5_ (p4_ l):=by rw[hx4];rfl
     unfold j1_
     rw[if_pos ht,hlow,hd,byt_natsB,dec_enc hc.1,byt_natsB,Option.map_some,Option.getD_some,hc.2]
     rfl
    ·cases h
def spl:List Nat→List (List Nat)
  | []=>[[]]
  |c::r=>if c=46 then []::spl r else(c::(spl r).headD [])::(spl r).tail
theorem spl_cons (c:Nat)(r:List Nat):spl (c::r)=if c=46 then []::spl r else(c::(spl r).headD [])::(spl r).tail:=rfl
theorem d1_:∀q,spl q≠[]
  | []=>by simp[spl]
  |c::r=>by unfold spl;split<;>simp
theorem spl_app:∀(a b:List Nat),spl (a++46::b)=spl a++spl b
  | [],b=>by rw[List.nil_append,spl_cons,if_pos rfl];rfl
  |c::a,b=>by
   have ih:=spl_app a b
   have hn:=d1_ a
   rw[List.cons_append,spl_cons,spl_cons,ih]
   split
   ·rfl
   ·cases h:spl a with
    |nil=>exact absurd h hn
    |cons x r=>rfl
theorem spl_no:∀{q:List Nat},(∀c∈q,c≠46)→spl q=[q]
  | [],_=>rfl
  |c::r,h=>by
   unfold spl
   rw[if_neg (h c (.head _)),spl_no fun d hd=>h d (.tail _ hd)]
   rfl
theorem spl_mem:∀(q:List Nat),∀l∈spl q,∀c∈l,c∈q∧c≠46
  | [],l,hl,c,hc=>by
    obtain rfl:=List.mem_singleton.1 hl
    cases hc
  |d::r,l,hl,c,hc=>by
   have ih:=spl_mem r
   have hne:=d1_ r
   unfold spl at hl
   split at hl
   ·rcases List.mem_cons.1 hl with rfl|hl
    ·cases hc
    ·have:=ih l hl c hc
     exact⟨.tail _ this.1,this.2⟩
   ·rename_i hd
    cases hs:spl r with
    |nil=>exact absurd hs hne
    |cons x t=>
     rw[hs]at hl ih
     simp only[List.headD_cons,List.tail_cons]at hl
     rcases List.mem_cons.1 hl with rfl|hl
     ·rcases List.mem_cons.1 hc with rfl|hc
      ·exact⟨.head _,hd⟩
      ·have:=ih x (.head _) c hc
       exact⟨.tail _ this.1,this.2⟩
     ·have:=ih l (.tail _ hl) c hc
      exact⟨.tail _ this.1,this.2⟩
def h5_:List (List Nat)→Option (List UInt8)
  | []=>some []
  |l::r=>match r with
   | []=>j1_ l
   |_::_=>match j1_ l,h5_ r with
    |some a,some b=>some (a++46::b)
    |_,_=>none
theorem domL_one (l:List Nat):h5_ [l]=j1_ l:=rfl
theorem e7_ (l:List Nat){r:List (List Nat)}(h:r≠[]):h5_ (l::r)=match j1_ l,h5_ r with
    |some a,some b=>some (a++46::b)
    |_,_=>none:=by
  cases r with
  |nil=>exact absurd rfl h
  |cons x t=>rfl
theorem domL_app:∀(A B:List (List Nat)),A≠[]→B≠[]→h5_ (A++B)=match h5_ A,h5_ B with
    |some a,some b=>some (a++46::b)
    |_,_=>none
  | [],B,h,_=>absurd rfl h
  | [l],B,_,hB=>by rw[List.singleton_append,e7_ l hB];rfl
  |l::x::A,B,_,hB=>by
   have ih:=domL_app (x::A) B (by simp) hB
   rw[List.cons_append,e7_ l (by simp),ih,e7_ l (by simp)]
   cases j1_ l<;>cases h5_ (x::A)<;>cases h5_ B<;>simp
def y9_ (s:List UInt8):Option (List UInt8):=match r0_ (U8.z3_ s)with
  |some q=>h5_ (spl q)
  |none=>none
theorem domL_out:∀(ls:List (List Nat)) (t:List UInt8),ls≠[]→(∀l∈ls,∀c∈l,j2_ c∧c≠46)→h5_ ls=some t→(∀c∈t5_ t,nameC c∨c=46)∧h5_ (spl (t5_ t))=some t
  | [],t,h,_,_=>absurd rfl h
  | [l],t,_,hs,h=>by
    obtain⟨h1,h2⟩:=lab_out (hs l (.head _)) h
    refine⟨fun c hc=> .inl (h1 c hc),?_⟩
    rw[spl_no fun c hc=>(h1 c hc).2.1]
    exact h2
  |l::x::r,t,_,hs,h=>by
   rw[e7_ l (by simp)]at h
   split at h
   ·rename_i a b ha hb
    obtain rfl:=Option.some.inj h
    obtain⟨h1,h2⟩:=lab_out (hs l (.head _)) ha
    obtain⟨k1,k2⟩:=domL_out (x::r) b (by simp) (fun l hl=>hs l (.tail _ hl)) hb
    have e:t5_ (a++46::b)=t5_ a++46::t5_ b:=natsB_app _ _
    refine⟨fun c hc=>?_,?_⟩
    ·rw[e]at hc
     rcases List.mem_append.1 hc with hc|hc
     ·exact .inl (h1 c hc)
     ·rcases List.mem_cons.1 hc with rfl|hc
      ·exact .inr rfl
      ·exact k1 c hc
    ·rw[e,spl_app,spl_no fun c hc=>(h1 c hc).2.1,domL_app _ _ (by simp) (d1_ _),domL_one,h2,k2]
   ·cases h
theorem signs_plain {t:List UInt8}(h:∀c∈t5_ t,c<128):U8.z3_ t=t5_ t:=by
  have hp:∀x∈t,x.toNat<128:=fun x hx=>h _ (List.mem_map.2 ⟨x,hx,rfl⟩)
  have:=U8.n7_ (t5_ t) (U8.plain_ok t hp)
  rw[show U8.join (t5_ t)=t from U8.plain_join t hp]at this
  exact this
theorem dom_once {s t:List UInt8}(h:y9_ s=some t):(∀c∈t5_ t,c<128∧¬(65≤c∧c≤90))∧y9_ t=some t:=by
  unfold y9_ at h
  split at h
  ·rename_i q hq
   have hst:=put_out hq
   obtain⟨h1,h2⟩:=domL_out (spl q) t (d1_ q) (fun l hl c hc=>⟨hst c (spl_mem q l hl c hc).1,(spl_mem q l hl c hc).2⟩) h
   have h3:∀c∈t5_ t,c<128∧¬(65≤c∧c≤90):=fun c hc=>by
     rcases h1 c hc with⟨a,_,b⟩|rfl
     ·exact⟨a,b⟩
     ·exact⟨by omega,by omega⟩
   refine⟨h3,?_⟩
   unfold y9_
   rw[signs_plain fun c hc=>(h3 c hc).1,put_stays fun c hc=>b0_ (h3 c hc).1 (h3 c hc).2]
   exact h2
  ·cases h
theorem dom_put {cs q:List Nat}(h:r0_ cs=some q):y9_ (U8.join q)=h5_ (spl q):=by
  have hst:=put_out h
  unfold y9_
  rw[U8.n7_ q fun c hc=>g9_ (hst c hc),put_stays hst]
theorem signs_split:∀(b:List UInt8) {Y:List UInt8},U8.fresh Y→U8.z3_ (b++Y)=U8.z3_ b++U8.z3_ Y:=by
  intro b Y hY
  refine U8.za0_ (p:=fun b=>U8.z3_ (b++Y)=U8.z3_ b++U8.z3_ Y) (by simp[U8.g8_]) (fun l hl ih=>?_) b
  have hne:l++Y≠[]:=by simp[hl]
  obtain⟨h1,h2,_⟩:=U8.nx_pos hl
  rw[U8.r8_ hne,U8.nx_app hl hY,U8.r8_ hl,List.drop_append_of_le_length h2,ih]
  rfl
theorem signs_dot (s t:List UInt8):U8.z3_ (s++46::t)=U8.z3_ s++46::U8.z3_ t:=by
  have hf:U8.fresh (46::t):= .inr (.inl (by show(46:UInt8).toNat<128;decide))
  rw[signs_split s hf]
  have:=U8.signs_enc (c:=46) (.inl (by omega)) t
  rw[show U8.z3_ (46::t)=46::U8.z3_ t from this]
theorem dom_dot (s t:List UInt8):y9_ (s++46::t)=match y9_ s,y9_ t with
    |some a,some b=>some (a++46::b)
    |_,_=>none:=by
  unfold y9_
  rw[signs_dot,put_app]
  have h46:r0_ (46::U8.z3_ t)=match r0_ (U8.z3_ t)with
     |some y=>some (46::y)
     |none=>none:=by
    have e:=put_app [46] (U8.z3_ t)
    rw[put_stays (cs:=[46]) (fun c hc=>by obtain rfl:=List.mem_singleton.1 hc;exact b0_ (by omega) (by omega))]at e
    rw[show 46::U8.z3_ t=[46]++U8.z3_ t from rfl,e]
    cases r0_ (U8.z3_ t)<;>rfl
  rw[h46]
  cases h1:r0_ (U8.z3_ s)with
  |none=>cases r0_ (U8.z3_ t)<;>rfl
  |some x=>
   cases h2:r0_ (U8.z3_ t)with
   |none=>
    simp only
    cases h5_ (spl x)<;>rfl
   |some y=>
    simp only[spl_app]
    rw[domL_app _ _ (d1_ x) (d1_ y)]
theorem dom_label {l:List Nat}(hl:l6_ l=true)(h255:l.length≤255):y9_ (U8.join l)=if l.take 4=xnN then none else some (xnB++p4_ l):=by
  unfold l6_ at hl
  rw[Bool.and_eq_true,Bool.and_eq_true,List.all_eq_true,List.any_eq_true]at hl
  obtain⟨⟨h1,c,hc,h2⟩,h3⟩:=hl
  have hst:∀c∈l,j2_ c∧c≠46:=fun c hc=>by
    have:=h1 c hc
    rw[Bool.and_eq_true,beq_iff_eq,bne_iff_ne]at this
    exact⟨stays_iff.2 this.1,this.2⟩
  have hlow:p2_ l=false:=by
    cases e:p2_ l with
    |false=>rfl
    |true=>
     have:=k0_.1 e c hc
     have h2:127<c:=by simpa using h2
     omega
  have hmay:l8_ l=true:=by
    unfold l8_
    rw[Bool.and_eq_true,decide_eq_true_eq,List.all_eq_true]
    refine⟨h255,fun c hc=>?_⟩
    have:=g9_ (hst c hc).1
    unfold U8.okC at this
    unfold okC
    rw[Bool.and_eq_true,decide_eq_true_eq,Bool.not_eq_true',Bool.and_eq_false_iff,decide_eq_false_iff_not,decide_eq_false_iff_not]
    omega
  unfold y9_
  rw[U8.n7_ l fun c hc=>g9_ (hst c hc).1,put_stays fun c hc=>(hst c hc).1]
  simp only
  rw[spl_no fun c hc=>(hst c hc).2,domL_one]
  unfold j1_
  have hL:l6_ l=true:=by
    unfold l6_
    rw[Bool.and_eq_true,Bool.and_eq_true,List.all_eq_true,List.any_eq_true]
    exact⟨⟨h1,c,hc,h2⟩,h3⟩
  split
  ·rw[hlow,Bool.false_and];rfl
  ·rw[hlow,if_neg (by simp),if_pos (by rw[hmay,hL];rfl)]
theorem dom_gone {a b:List Nat}{c:Nat}(ha:∀x∈a,U8.okC x)(hb:∀x∈b,U8.okC x)(hc:r6_ c=3):y9_ (U8.join (a++c::b))=y9_ (U8.join (a++b)):=by
  have hc0:U8.okC c:=map_ok (by rw[hc];decide)
  have ho:n8_ c=[]:=by
    unfold r6_ at hc
    unfold n8_
    split at hc
    ·cases hc
    ·rename_i h1
     rw[if_neg h1]
     split at hc
     ·rename_i h2
      rw[if_pos h2]
     ·split at hc<;>cases hc
  have h1:U8.z3_ (U8.join (a++c::b))=a++c::b:=U8.n7_ _ fun x hx=>by
    rcases List.mem_append.1 hx with hx|hx
    ·exact ha x hx
    ·rcases List.mem_cons.1 hx with rfl|hx
     ·exact hc0
     ·exact hb x hx
  have h2:U8.z3_ (U8.join (a++b))=a++b:=U8.n7_ _ fun x hx=>by
    rcases List.mem_append.1 hx with hx|hx
    ·exact ha x hx
    ·exact hb x hx
  unfold y9_
  rw[h1,h2]
  have e:r0_ (a++c::b)=r0_ (a++b):=by
    unfold r0_
    have hk:(r6_ c !=0)=true:=by rw[hc];rfl
    simp only[List.all_append,List.all_cons,List.flatMap_append,List.flatMap_cons,ho,hk,Bool.true_and,List.nil_append]
  rw[e]
end Go.Proofs.YtmjldphagbobpaaDoor.Idn
