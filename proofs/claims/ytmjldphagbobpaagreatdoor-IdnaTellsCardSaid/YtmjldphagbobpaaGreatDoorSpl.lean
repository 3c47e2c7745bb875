import Derived.Test.YtmjldphagbobpaaGreatDoorBas
set_option linter.unusedVariables false
set_option linter.unusedSimpArgs false
namespace Go.Proofs.YtmjldphagbobpaaGreatDoor
open Go.RowKit
def v4_ (k:UInt8):List UInt8→List (List UInt8)
  | []=>[[]]
  |c::r=>if c=k then []::v4_ k r else(c::(v4_ k r).headD [])::(v4_ k r).tail
theorem splC_cons (k c:UInt8)(r:List UInt8):v4_ k (c::r)=if c=k then []::v4_ k r else(c::(v4_ k r).headD [])::(v4_ k r).tail:=rfl
theorem splC_ne (k:UInt8):∀q,v4_ k q≠[]
  | []=>by simp[v4_]
  |c::r=>by unfold v4_;split<;>simp
theorem splC_pre (k:UInt8):∀(e t:List UInt8),(∀x∈e,x≠k)→v4_ k (e++t)=(e++(v4_ k t).headD [])::(v4_ k t).tail
  | [],t,_=>by
    cases h:v4_ k t with
    |nil=>exact absurd h (splC_ne k t)
    |cons x r=>rw[List.nil_append,h];rfl
  |c::e,t,h=>by
   rw[List.cons_append,splC_cons,if_neg (h c (.head _)),splC_pre k e t fun x hx=>h x (.tail _ hx)]
   rfl
theorem i3_ (k:UInt8):∀q,(v4_ k q).length=q.count k+1
  | []=>rfl
  |c::r=>by
   have ih:=i3_ k r
   have hn:=splC_ne k r
   rw[splC_cons,List.count_cons]
   by_cases h:c=k
   ·rw[if_pos h,if_pos (by simpa using h),List.length_cons,ih]
   ·rw[if_neg h,if_neg (by simpa using h),List.length_cons,List.length_tail,ih]
    omega
theorem splC_le (k:UInt8):∀q,(v4_ k q).length≤q.length+1:=fun q=>by
  rw[i3_]
  have:=List.count_le_length (a:=k) (l:=q)
  omega
theorem splC_len (k:UInt8):∀l,∀t∈v4_ k l,t.length≤l.length∧∀x∈t,x∈l∧x≠k
  | [],t,h=>by obtain rfl:=List.mem_singleton.1 h;exact⟨Nat.le_refl _,fun x hx=>by cases hx⟩
  |c::r,t,h=>by
   have ih:=splC_len k r
   have hn:=splC_ne k r
   rw[splC_cons]at h
   split at h
   ·rcases List.mem_cons.1 h with rfl|h
    ·exact⟨by simp,fun x hx=>by cases hx⟩
    ·obtain⟨h1,h2⟩:=ih t h
     exact⟨by simp only[List.length_cons];omega,fun x hx=>⟨.tail _ (h2 x hx).1,(h2 x hx).2⟩⟩
   ·rename_i hc
    cases hs:v4_ k r with
    |nil=>exact absurd hs hn
    |cons x y=>
     rw[hs]at h ih
     simp only[List.headD_cons,List.tail_cons]at h
     rcases List.mem_cons.1 h with rfl|h
     ·obtain⟨h1,h2⟩:=ih x (.head _)
      refine⟨by simp only[List.length_cons];omega,fun z hz=>?_⟩
      rcases List.mem_cons.1 hz with rfl|hz
      ·exact⟨.head _,hc⟩
      ·exact⟨.tail _ (h2 z hz).1,(h2 z hz).2⟩
     ·obtain⟨h1,h2⟩:=ih t (.tail _ h)
      exact⟨by simp only[List.length_cons];omega,fun x hx=>⟨.tail _ (h2 x hx).1,(h2 x hx).2⟩⟩
def jnC (k:UInt8):List (List UInt8)→List UInt8
  | []=>[]
  |l::r=>match r with
   | []=>l
   |_::_=>l++k::jnC k r
theorem jnC_cons (k:UInt8)(l:List UInt8){r:List (List UInt8)}(h:r≠[]):jnC k (l::r)=l++k::jnC k r:=by
  cases r with
  |nil=>exact absurd rfl h
  |cons x t=>rfl
def r7_:List (List UInt8)→Nat
  | []=>0
  |l::r=>l.length+r7_ r
theorem sumL_app:∀(a b:List (List UInt8)),r7_ (a++b)=r7_ a+r7_ b
  | [],b=>by simp[r7_]
  |l::a,b=>by rw[List.cons_append,r7_,sumL_app a b,r7_];omega
def tlC (k:UInt8)(L:List (List UInt8)):List UInt8:=L.flatMap fun l=>k::l
theorem jnC_tl (k:UInt8):∀(l:List UInt8) (r:List (List UInt8)),jnC k (l::r)=l++tlC k r
  |l,[]=>by simp[jnC,tlC]
  |l,m::r=>by rw[jnC_cons k l (by simp),jnC_tl k m r];rfl
theorem tlC_len (k:UInt8)(L:List (List UInt8)):(tlC k L).length=r7_ L+L.length:=by
  induction L with
  |nil=>rfl
  |cons l r ih=>
   rw[show tlC k (l::r)=(k::l)++tlC k r from rfl,List.length_append,ih,List.length_cons,List.length_cons,r7_]
   omega
theorem tlC_snoc (k:UInt8)(L:List (List UInt8))(l:List UInt8):tlC k (L++[l])=tlC k L++k::l:=by simp[tlC]
def u4_ (L:List (List UInt8)):List AV:=L.map fun l=> .c (str l)
def unstr:AV→List UInt8
  | .c (.string s)=>sb s
  |_=>[]
def f1_ (l:List AV):List (List UInt8):=l.map unstr
theorem o2_ (L:List (List UInt8)):(u4_ L).length=L.length:=List.length_map ..
theorem b3_ (L:List (List UInt8)):f1_ (u4_ L)=L:=by
  unfold f1_ u4_
  rw[List.map_map]
  conv=>rhs;rw[←List.map_id L]
  exact List.map_congr_left fun _ _=>rfl
theorem strs_app (a b:List (List UInt8)):u4_ (a++b)=u4_ a++u4_ b:=List.map_append
theorem strs_tk (L:List (List UInt8)):List.take L.length (u4_ L)=u4_ L:=List.take_of_length_le (by rw[o2_];exact Nat.le_refl _)
theorem strs_at (L:List (List UInt8))(i:Nat)(h:i<L.length):((u4_ L).drop i).headD .any= .c (str (L.getD i [])):=by
  unfold u4_
  rw[List.drop_eq_getElem_cons (by simpa using h)]
  simp[List.getD,h]
end Go.Proofs.YtmjldphagbobpaaGreatDoor
