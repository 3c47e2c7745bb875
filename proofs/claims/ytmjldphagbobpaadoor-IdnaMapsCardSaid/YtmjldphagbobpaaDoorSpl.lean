import Derived.Test.YtmjldphagbobpaaDoorBas
set_option linter.unusedVariables false
set_option linter.unusedSimpArgs false
namespace Go.Proofs.YtmjldphagbobpaaDoor
open Go.RowKit
def w4_ (k:UInt8):List UInt8→List (List UInt8)
  | []=>[[]]
  |c::r=>if c=k then []::w4_ k r else(c::(w4_ k r).headD [])::(w4_ k r).tail
theorem g0_ (k c:UInt8)(r:List UInt8):w4_ k (c::r)=if c=k then []::w4_ k r else(c::(w4_ k r).headD [])::(w4_ k r).tail:=rfl
theorem splC_ne (k:UInt8):∀q,w4_ k q≠[]
  | []=>by simp[w4_]
  |c::r=>by unfold w4_;split<;>simp
theorem splC_pre (k:UInt8):∀(e t:List UInt8),(∀x∈e,x≠k)→w4_ k (e++t)=(e++(w4_ k t).headD [])::(w4_ k t).tail
  | [],t,_=>by
    cases h:w4_ k t with
    |nil=>exact absurd h (splC_ne k t)
    |cons x r=>rw[List.nil_append,h];rfl
  |c::e,t,h=>by
   rw[List.cons_append,g0_,if_neg (h c (.head _)),splC_pre k e t fun x hx=>h x (.tail _ hx)]
   rfl
theorem splC_no {k:UInt8}{e:List UInt8}(h:∀x∈e,x≠k):w4_ k e=[e]:=by
  have:=splC_pre k e [] h
  rw[List.append_nil]at this
  rw[this]
  simp[w4_]
theorem splC_app (k:UInt8):∀(a b:List UInt8),w4_ k (a++k::b)=w4_ k a++w4_ k b
  | [],b=>by rw[List.nil_append,g0_,if_pos rfl];rfl
  |c::a,b=>by
   have ih:=splC_app k a b
   have hn:=splC_ne k a
   rw[List.cons_append,g0_,g0_,ih]
   split
   ·rfl
   ·cases h:w4_ k a with
    |nil=>exact absurd h hn
    |cons x r=>rfl
theorem j8_ (k:UInt8):∀q,(w4_ k q).length=q.count k+1
  | []=>rfl
  |c::r=>by
   have ih:=j8_ k r
   have hn:=splC_ne k r
   rw[g0_,List.count_cons]
   by_cases h:c=k
   ·rw[if_pos h,if_pos (by simpa using h),List.length_cons,ih]
   ·rw[if_neg h,if_neg (by simpa using h),List.length_cons,List.length_tail,ih]
    omega
theorem splC_le (k:UInt8):∀q,(w4_ k q).length≤q.length+1:=fun q=>by
  rw[j8_]
  have:=List.count_le_length (a:=k) (l:=q)
  omega
theorem splC_len (k:UInt8):∀l,∀t∈w4_ k l,t.length≤l.length∧∀x∈t,x∈l∧x≠k
  | [],t,h=>by obtain rfl:=List.mem_singleton.1 h;exact⟨Nat.le_refl _,fun x hx=>by cases hx⟩
  |c::r,t,h=>by
   have ih:=splC_len k r
   have hn:=splC_ne k r
   rw[g0_]at h
   split at h
   ·rcases List.mem_cons.1 h with rfl|h
    ·exact⟨by simp,fun x hx=>by cases hx⟩
    ·obtain⟨h1,h2⟩:=ih t h
     exact⟨by simp only[List.length_cons];omega,fun x hx=>⟨.tail _ (h2 x hx).1,(h2 x hx).2⟩⟩
   ·rename_i hc
    cases hs:w4_ k r with
    |nil=>exact absurd hs hn
    |cons x y=>
     rw[hs]at h ih
     simp only[List.headD_cons,List.tail_cons]at h
     rcases List.mem_cons.1 h with rfl|h
     ·obtain⟨h1,h2⟩:=ih x (.head _)
      refine⟨by simp only[List.length_cons];omega,fun z hz=>?_⟩
      rcases List.mem_cons.1 hz with rfl|hz
      ·exact⟨.head _,hc⟩
      ·exact⟨.tail _ (h2 z hz).1,(h2 z hz).2⟩
     ·obtain⟨h1,h2⟩:=ih t (.tail _ h)
      exact⟨by simp only[List.length_cons];omega,fun x hx=>⟨.tail _ (h2 x hx).1,(h2 x hx).2⟩⟩
def jnC (k:UInt8):List (List UInt8)→List UInt8
  | []=>[]
  |l::r=>match r with
   | []=>l
   |_::_=>l++k::jnC k r
theorem jnC_cons (k:UInt8)(l:List UInt8){r:List (List UInt8)}(h:r≠[]):jnC k (l::r)=l++k::jnC k r:=by
  cases r with
  |nil=>exact absurd rfl h
  |cons x t=>rfl
theorem splC_jn (k:UInt8):∀(L:List (List UInt8)),L≠[]→(∀t∈L,∀x∈t,x≠k)→w4_ k (jnC k L)=L
  | [],h,_=>absurd rfl h
  | [l],_,h=>splC_no (h l (.head _))
  |l::m::r,_,h=>by
   rw[jnC_cons k l (by simp),splC_app,splC_jn k (m::r) (by simp) fun t ht=>h t (.tail _ ht),splC_no (h l (.head _))]
   rfl
def t7_:List (List UInt8)→Nat
  | []=>0
  |l::r=>l.length+t7_ r
theorem sumL_app:∀(a b:List (List UInt8)),t7_ (a++b)=t7_ a+t7_ b
  | [],b=>by simp[t7_]
  |l::a,b=>by rw[List.cons_append,t7_,sumL_app a b,t7_];omega
theorem jnC_len (k:UInt8):∀(L:List (List UInt8)),L≠[]→(jnC k L).length+1=t7_ L+L.length
  | [],h=>absurd rfl h
  | [l],_=>by simp[jnC,t7_]
  |l::m::r,_=>by
   have ih:=jnC_len k (m::r) (by simp)
   have e1:t7_ (l::m::r)=l.length+t7_ (m::r):=rfl
   have e2:(l::m::r).length=(m::r).length+1:=rfl
   rw[jnC_cons k l (by simp),List.length_append,List.length_cons,e1,e2]
   omega
def tlC (k:UInt8)(L:List (List UInt8)):List UInt8:=L.flatMap fun l=>k::l
theorem jnC_tl (k:UInt8):∀(l:List UInt8) (r:List (List UInt8)),jnC k (l::r)=l++tlC k r
  |l,[]=>by simp[jnC,tlC]
  |l,m::r=>by rw[jnC_cons k l (by simp),jnC_tl k m r];rfl
theorem tlC_len (k:UInt8)(L:List (List UInt8)):(tlC k L).length=t7_ L+L.length:=by
  induction L with
  |nil=>rfl
  |cons l r ih=>
   rw[show tlC k (l::r)=(k::l)++tlC k r from rfl,List.length_append,ih,List.length_cons,List.length_cons,t7_]
   omega
theorem tlC_snoc (k:UInt8)(L:List (List UInt8))(l:List UInt8):tlC k (L++[l])=tlC k L++k::l:=by simp[tlC]
def u2_ (L:List (List UInt8)):List AV:=L.map fun l=> .c (str l)
def unstr:AV→List UInt8
  | .c (.string s)=>sb s
  |_=>[]
def j9_ (l:List AV):List (List UInt8):=l.map unstr
theorem o4_ (L:List (List UInt8)):(u2_ L).length=L.length:=List.length_map ..
theorem b4_ (L:List (List UInt8)):j9_ (u2_ L)=L:=by
  unfold j9_ u2_
  rw[List.map_map]
  conv=>rhs;rw[←List.map_id L]
  exact List.map_congr_left fun _ _=>rfl
theorem strs_app (a b:List (List UInt8)):u2_ (a++b)=u2_ a++u2_ b:=List.map_append
theorem strs_tk (L:List (List UInt8)):List.take L.length (u2_ L)=u2_ L:=List.take_of_length_le (by rw[o4_];exact Nat.le_refl _)
theorem strs_at (L:List (List UInt8))(i:Nat)(h:i<L.length):((u2_ L).drop i).headD .any= .c (str (L.getD i [])):=by
  unfold u2_
  rw[List.drop_eq_getElem_cons (by simpa using h)]
  simp[List.getD,h]
end Go.Proofs.YtmjldphagbobpaaDoor
