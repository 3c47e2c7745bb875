import Derived.Test.YtmjldphagbobpaaGreatDoorPnyD
import Derived.Test.YtmjldphagbobpaaGreatDoorTextN
set_option linter.unusedVariables false
set_option linter.unusedSimpArgs false
namespace Go.Proofs.YtmjldphagbobpaaGreatDoor.Idn
open Go.RowKit
set_option maxRecDepth 100000
def btw (c lo hi:Nat):Bool:=decide (lo≤c)&&decide (c≤hi)
theorem m7_ {c lo hi:Nat} :btw c lo hi=true↔lo≤c∧c≤hi:=by unfold btw;rw[Bool.and_eq_true,decide_eq_true_eq,decide_eq_true_eq]
def plus32 (c:Nat):Bool:=btw c 65 90||btw c 192 214||btw c 216 222||btw c 913 929||btw c 931 937||btw c 1040 1071
def toN (c:Nat):List Nat:=
  if plus32 c=true then [c+32]else if(btw c 256 302&&c%2==0)=true then [c+1]else if btw c 1024 1039=true then [c+80]
  else if c=304 then [105,775]else if c=8228∨c=12290∨c=65377 then [46]else if c=8448 then [97,47,99]else if c=8453 then [99,47,111]
  else if btw c 9312 9320=true then [c-9312+49]else if btw c 65313 65338=true then [c-65248+32]else if btw c 65281 65374=true then [c-65248]
  else if btw c 120782 120831=true then [48+(c-120782)%10]else []
def goneN (c:Nat):Bool:=c==173||c==8203||c==8288||c==65279
def validN (c:Nat):Bool:= !(c==215||c==247)&&(btw c 0 127||btw c 223 255||btw c 257 303||btw c 768 879||btw c 945 969||btw c 1072 1119||btw c 12353 12438||btw c 12449 12538||btw c 19968 40959||btw c 44032 55203||btw c 127744 128511)
def n8_ (c:Nat):Nat:=if toN c≠[]then 2 else if goneN c=true then 3 else if validN c=true then 1 else 0
def k0_ (c:Nat):List Nat:=if toN c≠[]then toN c else if goneN c=true then []else [c]
def stays (c:Nat):Prop:=toN c=[]∧goneN c=false∧validN c=true
theorem stays_iff {c:Nat} :stays c↔n8_ c=1:=by
  unfold stays n8_
  by_cases h1:toN c=[]
  ·rw[if_neg (by simpa using h1)]
   cases h2:goneN c<;>cases h3:validN c<;>simp[h1]
  ·rw[if_pos h1];simp[h1]
theorem j3_ {d:Nat}(h:(d≤127∧¬(65≤d∧d≤90))∨(223≤d∧d≤246)∨(248≤d∧d≤255)∨(257≤d∧d≤303∧d%2=1)∨d=775∨(945≤d∧d≤969)∨(1072≤d∧d≤1119)):stays d:=by
  have b:∀lo hi,¬(lo≤d∧d≤hi)→btw d lo hi=false:=fun lo hi h=>by
    cases e:btw d lo hi with
    |false=>rfl
    |true=>exact absurd (m7_.1 e) h
  refine⟨?_,?_,?_⟩
  ·unfold toN plus32
   rw[b 65 90 (by omega),b 192 214 (by omega),b 216 222 (by omega),b 913 929 (by omega),b 931 937 (by omega),b 1040 1071 (by omega),b 1024 1039 (by omega),b 9312 9320 (by omega),b 65313 65338 (by omega),b 65281 65374 (by omega),b 120782 120831 (by omega)]
   rw[if_neg (by simp),if_neg (by
     rw[Bool.and_eq_true,m7_,beq_iff_eq]
     omega),if_neg (by simp),if_neg (by omega),if_neg (by omega),if_neg (by omega),if_neg (by omega),if_neg (by simp),if_neg (by simp),if_neg (by simp),if_neg (by simp)]
  ·unfold goneN
   simp only[Bool.or_eq_false_iff,beq_eq_false_iff_ne]
   omega
  ·unfold validN
   rw[Bool.and_eq_true]
   constructor
   ·simp only[Bool.not_eq_true',Bool.or_eq_false_iff,beq_eq_false_iff_ne]
    omega
   ·simp only[Bool.or_eq_true,m7_]
    omega
theorem to_stays {c d:Nat}(h:d∈toN c):stays d∧d≠c:=by
  unfold toN plus32 at h
  split at h
  ·rename_i e
   simp only[Bool.or_eq_true,m7_]at e
   have h:=List.mem_singleton.1 h
   exact⟨j3_ (by omega),by omega⟩
  split at h
  ·rename_i e
   rw[Bool.and_eq_true,m7_,beq_iff_eq]at e
   have h:=List.mem_singleton.1 h
   exact⟨j3_ (by omega),by omega⟩
  split at h
  ·rename_i e
   rw[m7_]at e
   have h:=List.mem_singleton.1 h
   exact⟨j3_ (by omega),by omega⟩
  split at h
  ·simp only[List.mem_cons,List.mem_nil_iff,or_false]at h
   exact⟨j3_ (by omega),by omega⟩
  split at h
  ·obtain rfl:=List.mem_singleton.1 h
   exact⟨j3_ (by omega),by omega⟩
  split at h
  ·rename_i e
   simp only[List.mem_cons,List.mem_nil_iff,or_false]at h
   have h:d=97∨d=47∨d=99:=h
   exact⟨j3_ (.inl (by omega)),by omega⟩
  split at h
  ·rename_i e
   simp only[List.mem_cons,List.mem_nil_iff,or_false]at h
   have h:d=99∨d=47∨d=111:=h
   exact⟨j3_ (.inl (by omega)),by omega⟩
  split at h
  ·rename_i e
   rw[m7_]at e
   have h:=List.mem_singleton.1 h
   exact⟨j3_ (by omega),by omega⟩
  split at h
  ·rename_i e
   rw[m7_]at e
   have h:=List.mem_singleton.1 h
   exact⟨j3_ (by omega),by omega⟩
  split at h
  ·rename_i e0 e
   rw[m7_]at e e0
   have h:=List.mem_singleton.1 h
   exact⟨j3_ (by omega),by omega⟩
  split at h
  ·rename_i e
   rw[m7_]at e
   have h:=List.mem_singleton.1 h
   exact⟨j3_ (by omega),by omega⟩
  ·cases h
theorem to_len (c:Nat):(toN c).length≤3:=by
  unfold toN
  repeat' split
  all_goals simp
theorem map_ok {c:Nat}(h:n8_ c≠0):U8.okC c:=by
  unfold U8.okC
  apply Classical.byContradiction
  intro hn
  apply h
  have b:∀lo hi,¬(lo≤c∧c≤hi)→btw c lo hi=false:=fun lo hi h=>by
    cases e:btw c lo hi with
    |false=>rfl
    |true=>exact absurd (m7_.1 e) h
  have h1:toN c=[]:=by
    unfold toN plus32
    rw[b 65 90 (by omega),b 192 214 (by omega),b 216 222 (by omega),b 913 929 (by omega),b 931 937 (by omega),b 1040 1071 (by omega),b 256 302 (by omega),b 1024 1039 (by omega),b 9312 9320 (by omega),b 65313 65338 (by omega),b 65281 65374 (by omega),b 120782 120831 (by omega)]
    rw[if_neg (by simp),if_neg (by simp),if_neg (by simp),if_neg (by omega),if_neg (by omega),if_neg (by omega),if_neg (by omega),if_neg (by simp),if_neg (by simp),if_neg (by simp),if_neg (by simp)]
  have h2:goneN c=false:=by
    unfold goneN
    simp only[Bool.or_eq_false_iff,beq_eq_false_iff_ne]
    omega
  have h3:validN c=false:=by
    unfold validN
    rw[b 0 127 (by omega),b 223 255 (by omega),b 257 303 (by omega),b 768 879 (by omega),b 945 969 (by omega),b 1072 1119 (by omega),b 12353 12438 (by omega),b 12449 12538 (by omega),b 19968 40959 (by omega),b 44032 55203 (by omega),b 127744 128511 (by omega)]
    simp
  unfold n8_
  rw[h1,h2,h3]
  simp
theorem stays_ok {c:Nat}(h:stays c):U8.okC c:=map_ok (by rw[stays_iff.1 h];decide)
theorem out_stays {c d:Nat}(hc:n8_ c≠0)(h:d∈k0_ c):stays d:=by
  unfold k0_ at h
  split at h
  ·exact(to_stays h).1
  ·rename_i h1
   split at h
   ·cases h
   ·rename_i h2
    obtain rfl:=List.mem_singleton.1 h
    unfold n8_ at hc
    rw[if_neg h1,if_neg h2]at hc
    refine⟨by simpa using h1,by simpa using h2,?_⟩
    cases h3:validN d with
    |true=>rfl
    |false=>rw[h3]at hc;simp at hc
def l9_ (cs:List Nat):Option (List Nat):=if cs.all (fun c=>n8_ c !=0)=true then some (cs.flatMap k0_)else none
theorem put_out {cs q:List Nat}(h:l9_ cs=some q):∀c∈q,stays c:=by
  unfold l9_ at h
  split at h
  ·rename_i hall
   obtain rfl:=Option.some.inj h
   intro d hd
   obtain⟨c,hc,hd⟩:=List.mem_flatMap.1 hd
   exact out_stays (bne_iff_ne.1 (List.all_eq_true.1 hall c hc)) hd
  ·cases h
theorem put_len {cs q:List Nat}(h:l9_ cs=some q):q.length≤3*cs.length:=by
  unfold l9_ at h
  split at h
  ·obtain rfl:=Option.some.inj h
   clear h
   induction cs with
   |nil=>simp
   |cons c r ih=>
    rw[List.flatMap_cons,List.length_append,List.length_cons]
    have hc:(k0_ c).length≤3:=by
      unfold k0_
      split
      ·exact to_len c
      ·split<;>simp
    rename_i hall
    rw[List.all_cons,Bool.and_eq_true]at hall
    have:=ih hall.2
    omega
  ·cases h
end Go.Proofs.YtmjldphagbobpaaGreatDoor.Idn
namespace Go.Proofs.YtmjldphagbobpaaGreatDoor.Idn
open Go.RowKit Pny
set_option maxRecDepth 100000
def d0_ (l:List Nat):Bool:=l.all (fun c=>n8_ c==1&&c !=46)&&l.any (fun c=>decide (127<c))&& !btw (l.headD 0) 768 879
def p3_ (l:List Nat):Bool:=l.all fun c=>decide (c<128)
def xnN:List Nat:=[120,110,45,45]
def xnB:List UInt8:=[120,110,45,45]
def labF (l:List Nat):Option (List UInt8):=
  if l.take 4=xnN then(if(p3_ l&&((p9_ (byt (l.drop 4))).map d0_).getD false)=true then some (byt l)else none)
  else if p3_ l=true then some (byt l)
  else if(e6_ l&&d0_ l)=true then some (xnB++j4_ l)else none
def natsB (t:List UInt8):List Nat:=t.map UInt8.toNat
theorem c5_ {l:List Nat} :p3_ l=true↔∀c∈l,c<128:=by
  unfold p3_
  rw[List.all_eq_true]
  simp
def spl:List Nat→List (List Nat)
  | []=>[[]]
  |c::r=>if c=46 then []::spl r else(c::(spl r).headD [])::(spl r).tail
theorem spl_cons (c:Nat)(r:List Nat):spl (c::r)=if c=46 then []::spl r else(c::(spl r).headD [])::(spl r).tail:=rfl
theorem spl_ne:∀q,spl q≠[]
  | []=>by simp[spl]
  |c::r=>by unfold spl;split<;>simp
theorem spl_mem:∀(q:List Nat),∀l∈spl q,∀c∈l,c∈q∧c≠46
  | [],l,hl,c,hc=>by
    obtain rfl:=List.mem_singleton.1 hl
    cases hc
  |d::r,l,hl,c,hc=>by
   have ih:=spl_mem r
   have hne:=spl_ne r
   unfold spl at hl
   split at hl
   ·rcases List.mem_cons.1 hl with rfl|hl
    ·cases hc
    ·have:=ih l hl c hc
     exact⟨.tail _ this.1,this.2⟩
   ·rename_i hd
    cases hs:spl r with
    |nil=>exact absurd hs hne
    |cons x t=>
     rw[hs]at hl ih
     simp only[List.headD_cons,List.tail_cons]at hl
     rcases List.mem_cons.1 hl with rfl|hl
     ·rcases List.mem_cons.1 hc with rfl|hc
      ·exact⟨.head _,hd⟩
      ·have:=ih x (.head _) c hc
       exact⟨.tail _ this.1,this.2⟩
     ·have:=ih l (.tail _ hl) c hc
      exact⟨.tail _ this.1,this.2⟩
def domL:List (List Nat)→Option (List UInt8)
  | []=>some []
  |l::r=>match r with
   | []=>labF l
   |_::_=>match labF l,domL r with
    |some a,some b=>some (a++46::b)
    |_,_=>none
theorem domL_one (l:List Nat):domL [l]=labF l:=rfl
theorem domL_cons (l:List Nat){r:List (List Nat)}(h:r≠[]):domL (l::r)=match labF l,domL r with
    |some a,some b=>some (a++46::b)
    |_,_=>none:=by
  cases r with
  |nil=>exact absurd rfl h
  |cons x t=>rfl
def c9_ (s:List UInt8):Option (List UInt8):=match l9_ (U8.z1_ s)with
  |some q=>domL (spl q)
  |none=>none
end Go.Proofs.YtmjldphagbobpaaGreatDoor.Idn
