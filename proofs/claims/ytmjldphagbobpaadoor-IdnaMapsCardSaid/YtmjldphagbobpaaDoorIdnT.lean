import Derived.Test.YtmjldphagbobpaaDoorIdnE
import Derived.Test.YtmjldphagbobpaaDoorStr
import Derived.Test.YtmjldphagbobpaaDoorSpl
set_option linter.unusedVariables false
set_option linter.unusedSimpArgs false
namespace Go.Proofs.YtmjldphagbobpaaDoor
open Go.RowKit U8 Idn
theorem enc_no46 {c:Nat}(h:okC c)(hc:c≠46):∀x∈y2_ c,x≠46:=by
  intro x hx e
  subst e
  have h1:(46:UInt8)∈a7_ (y2_ c):=List.mem_filter.2 ⟨hx,by decide⟩
  rw[low_enc c h]at h1
  split at h1
  ·have h2:=congrArg UInt8.toNat (List.mem_singleton.1 h1)
   rw[t1_ (by omega)]at h2
   exact hc h2.symm
  ·cases h1
theorem spl_join:∀{q:List Nat},(∀c∈q,okC c)→w4_ 46 (join q)=(spl q).map join
  | [],_=>rfl
  |c::r,h=>by
   have ih:=spl_join fun d hd=>h d (.tail _ hd)
   rw[s5_]
   by_cases hc:c=46
   ·subst hc
    rw[spl_cons,if_pos rfl,List.map_cons,←ih]
    rfl
   ·rw[splC_pre _ _ _ (enc_no46 (h c (.head _)) hc),ih,spl_cons,if_neg hc]
    cases hs:spl r with
    |nil=>exact absurd hs (d1_ r)
    |cons x t=>simp[s5_]
def nmF (t:List UInt8):Option (List UInt8):=
  if q9_ xnB t=true then(if((Pny.m8_ (t.drop 4)).map l6_).getD false=true then some t else none)
  else if t.all (fun c=>decide (c.toNat<128))=true then some t
  else if(Pny.l8_ (z3_ t)&&l6_ (z3_ t))=true then some (xnB++Pny.p4_ (z3_ t))else none
theorem encP_low {l:List Nat}(h:Pny.l8_ l=true):∀x∈Pny.p4_ l,x.toNat<128:=by
  obtain⟨w,e,hw,_⟩:=Pny.d3_ h
  intro x hx
  rw[e]at hx
  rcases List.mem_append.1 hx with hx|hx
  ·obtain⟨d,hd,rfl⟩:=List.mem_map.1 hx
   have:=Pny.bas_lt l d hd
   rw[t1_ (by omega)]
   exact this
  ·rcases List.mem_append.1 hx with hx|hx
   ·unfold Pny.hyp at hx
    split at hx
    ·obtain rfl:=List.mem_singleton.1 hx;decide
    ·cases hx
   ·obtain⟨k,hk,rfl⟩:=hw x hx
    have h2:∀y:Fin 36,(Pny.chr y.val).toNat<128:=by decide+kernel
    exact h2 ⟨k,hk⟩
theorem decP_low {s:List UInt8}{l:List Nat}(hs:s.length≤400000)(h:Pny.m8_ s=some l):∀x∈s,x.toNat<128:=by
  obtain⟨hm,a,w,e,he,_⟩:=Pny.enc_dec hs h
  have hb:=encP_low hm
  rw[he]at hb
  intro x hx
  rw[e]at hx
  rcases List.mem_append.1 hx with hx|hx
  ·exact hb x (List.mem_append_left _ hx)
  ·rcases List.mem_append.1 hx with hx|hx
   ·exact hb x (List.mem_append_right _ (List.mem_append_left _ hx))
   ·have:=hb (Pny.low x) (List.mem_append_right _ (List.mem_append_right _ (List.mem_map.2 ⟨x,hx,rfl⟩)))
    unfold Pny.low at this
    split at this
    ·omega
    ·exact this
theorem join_low {l:List Nat}(h:∀c∈l,okC c):(join l).all (fun c=>decide (c.toNat<128))=p2_ l:=by
  cases hb:p2_ l with
  |true=>
   rw[join_byt hb,List.all_eq_true]
   intro x hx
   obtain⟨c,hc,rfl⟩:=List.mem_map.1 hx
   have:=k0_.1 hb c hc
   rw[t1_ (by omega)]
   simpa using this
  |false=>
   cases ha:(join l).all (fun c=>decide (c.toNat<128))with
   |false=>rfl
   |true=>
    have e1:a7_ (join l)=join l:=List.filter_eq_self.2 (List.all_eq_true.1 ha)
    have e2:=low_signs (join l)
    rw[n7_ l h,e1]at e2
    have e3:(lowS l).length≤l.length:=by
      unfold lowS
      rw[List.length_map]
      exact List.length_filter_le ..
    obtain⟨k1,k2⟩:=join_len_low h
    rw[e2]at k1 k2
    rw[k2.1 (by omega)]at hb
    cases hb
theorem preB_take (p l:List UInt8):q9_ p l=true↔l.take p.length=p:=by
  rw[preB_iff]
  constructor
  ·rintro⟨r,rfl⟩;simp
  ·intro h
   exact⟨l.drop p.length,by conv=>lhs;rw[←List.take_append_drop p.length l,h]⟩
theorem nm_join {l:List Nat}(h:∀c∈l,okC c)(hl:(join l).length≤400000):nmF (join l)=j1_ l:=by
  unfold nmF j1_
  rw[join_low h,n7_ l h]
  by_cases hx:l.take 4=xnN
  ·rw[if_pos ((preB_take xnB _).2 ((join_xn h).2 hx)),if_pos hx]
   have hd:(join l).drop 4=join (l.drop 4):=by
     conv=>lhs;rw[←List.take_append_drop 4 l,hx,a8_]
     rfl
   rw[hd]
   cases hb:p2_ l with
   |true=>
    have hb4:p2_ (l.drop 4)=true:=k0_.2 fun c hc=>k0_.1 hb c (List.mem_of_mem_drop hc)
    rw[join_byt hb,join_byt hb4,Bool.true_and]
   |false=>
    rw[Bool.false_and,if_neg (by simp:¬false=true)]
    cases hp:Pny.m8_ (join (l.drop 4))with
    |none=>rfl
    |some N=>
     have hlow:=decP_low (by rw[←hd,List.length_drop];omega) hp
     have h4:p2_ (l.drop 4)=true:=by
       rw[←join_low fun c hc=>h c (List.mem_of_mem_drop hc),List.all_eq_true]
       intro x hx
       simpa using hlow x hx
     have:p2_ l=true:=k0_.2 fun c hc=>by
       rw[←List.take_append_drop 4 l,hx]at hc
       rcases List.mem_append.1 hc with hc|hc
       ·simp only[xnN,List.mem_cons,List.mem_nil_iff,or_false]at hc;omega
       ·exact k0_.1 h4 c hc
     rw[this]at hb
     cases hb
  ·rw[if_neg (fun e=>hx ((join_xn h).1 ((preB_take xnB _).1 e))),if_neg hx]
   cases hb:p2_ l with
   |true=>rw[join_byt hb]
   |false=>rfl
def h3_ (L:List (List UInt8)):Bool:=L.all fun t=>(nmF t).isSome
def nmG (t:List UInt8):List UInt8:=(nmF t).getD []
theorem dom_names:∀(ls:List (List Nat)),ls≠[]→(∀l∈ls,(∀c∈l,okC c)∧(join l).length≤400000)→h5_ ls=if h3_ (ls.map join)=true then some (jnC 46 ((ls.map join).map nmG))else none
  | [],h,_=>absurd rfl h
  |l::r,_,h=>by
   obtain⟨h1,h2⟩:=h l (.head _)
   have e:=nm_join h1 h2
   cases r with
   |nil=>
    rw[domL_one,←e]
    unfold h3_ nmG
    simp only[List.map_cons,List.map_nil,List.all_cons,List.all_nil,Bool.and_true,jnC]
    cases nmF (join l)<;>rfl
   |cons x t=>
    have ih:=dom_names (x::t) (by simp) fun y hy=>h y (.tail _ hy)
    rw[e7_ l (by simp),ih,←e]
    have e2:h3_ ((l::x::t).map join)=((nmF (join l)).isSome&&h3_ ((x::t).map join)):=by unfold h3_;rw[List.map_cons,List.all_cons]
    rw[e2]
    have e3:jnC 46 (((l::x::t).map join).map nmG)=nmG (join l)++46::jnC 46 (((x::t).map join).map nmG):=rfl
    rw[e3]
    unfold nmG
    cases nmF (join l)with
    |none=>rfl
    |some a=>cases h3_ ((x::t).map join)<;>rfl
end Go.Proofs.YtmjldphagbobpaaDoor
