import Derived.Test.YtmjldphagbobpaaDoorLevN
set_option linter.unusedVariables false
set_option linter.unusedSimpArgs false
namespace Go.Proofs.YtmjldphagbobpaaDoor
open Go.RowKit
def f7_ (fi:Fi):Option (AV×Heap×List Prop)→Option (AV×Heap×List Prop)
  |some (.tu l,hp,p)=>some (.tu (fi.app ⟨l,hp⟩).fr,(fi.app ⟨l,hp⟩).hp,p)
  |some (r,hp,p)=>some ((fi.app ⟨[r],hp⟩).fr.headD .any,(fi.app ⟨[r],hp⟩).hp,p)
  |none=>none
variable [Gv] {P:Program}
theorem tell_tu {w:World}{κ:Pl}{l:List AV}{hp:Heap}{v:Value}(fi:Fi)(hnd:fi.m.Nodup)(hh:HpRel P w κ hp)(hv:VR P w κ true (.tu l) v):
    ∃ι',Ext0 w κ w ι'∧HpRel P w ι' (fi.app ⟨l,hp⟩).hp∧VR P w ι' true (.tu (fi.app ⟨l,hp⟩).fr) v:=by
  obtain⟨cs,rfl,hl,hr⟩:=hv.tuInv
  have hS:StRel P w κ ⟨l,hp⟩ { tmps:=cs,defers:=[]} :=by
    refine⟨⟨hl,fun t=>?_⟩,hh,rfl⟩
    by_cases ht:t<l.length
    ·exact hr t ht
    ·have:l.getD t .any= .any:=by simp[List.getD,List.getElem?_eq_none (by omega:l.length≤t)]
     show VR P w κ true (l.getD t .any) _
     rw[this];exact .any
  obtain⟨ι',h1,e⟩:=fi.ok hnd hS
  exact⟨ι',e,h1.hp,.tu h1.fr.len fun j hj=>h1.fr.rel j⟩
theorem tell_one {w:World}{κ:Pl}{r:AV}{hp:Heap}{v:Value}(fi:Fi)(hnd:fi.m.Nodup)(hh:HpRel P w κ hp)(hv:VR P w κ true r v):
    ∃ι',Ext0 w κ w ι'∧HpRel P w ι' (fi.app ⟨[r],hp⟩).hp∧VR P w ι' true ((fi.app ⟨[r],hp⟩).fr.headD .any) v:=by
  have hS:StRel P w κ ⟨[r],hp⟩ { tmps:= #[v],defers:=[]} :=by
    refine⟨⟨rfl,fun t=>?_⟩,hh,rfl⟩
    cases t with
    |zero=>exact hv
    |succ t=>exact .any
  obtain⟨ι',h1,e⟩:=fi.ok hnd hS
  refine⟨ι',e,h1.hp,?_⟩
  have h0:=h1.fr.rel 0
  have he:(fi.app ⟨[r],hp⟩).fr.headD .any=(fi.app ⟨[r],hp⟩).fr.getD 0 .any:=by
    cases (fi.app ⟨[r],hp⟩).fr<;>rfl
  rw[he]
  exact h0
theorem hspec_new (hm:P.follows .mixedOrders=true){cl:CallT}(hcl:x7_ P cl){f:FuncId}{spec:HSpec}
    (h:∀args hp r hp' q,spec args hp=some (r,hp',q)→z7_ q→hp=[]∧∃fi hs lp fuel p,fi.m.Nodup∧q3_ Ext0 P lp∧f7_ fi (z8_ P cl hs lp fuel f args [])=some (r,hp',p)∧z7_ p):u0_ P f spec:=by
  intro args hp r hp' q hspec hq w ι vs hh hl hv
  obtain⟨rfl,fi,hs,lp,fuel,p,hnd,hlp,hb,hp0⟩:=h args hp r hp' q hspec hq
  cases hb1:z8_ P cl hs lp fuel f args []with
  |none=>rw[hb1]at hb;simp[f7_]at hb
  |some x=>
   obtain⟨r1,hp1,p1⟩:=x
   rw[hb1]at hb
   have key:p1=p∧∀(w':World) (κ':Pl) (v:Value),HpRel P w' κ' hp1→VR P w' κ' true r1 v→∃ι',Ext0 w' κ' w' ι'∧HpRel P w' ι' hp'∧VR P w' ι' true r v:=by
     unfold f7_ at hb
     split at hb
     ·rename_i l hp2 p2 heq
      cases heq
      simp only[oi_]at hb
      obtain⟨rfl,rfl,rfl⟩:=hb
      exact⟨rfl,fun w' κ' v hh hv=>tell_tu fi hnd hh hv⟩
     ·rename_i r2 hp2 p2 hn heq
      cases heq
      simp only[oi_]at hb
      obtain⟨rfl,rfl,rfl⟩:=hb
      exact⟨rfl,fun w' κ' v hh hv=>tell_one fi hnd hh hv⟩
     ·simp at hb
   obtain⟨rfl,hres⟩:=key
   obtain⟨hbody,hcalls⟩:=d2_ rlExt0 hm hcl hlp hb1 hp0 hh hl hv
   refine⟨hbody,hcalls.mono fun e w' ⟨v,κ',he,hext,hhp,hr⟩=>?_⟩
   obtain⟨ι',e2,h2,h3⟩:=hres w' κ' v hhp hr
   exact⟨v,ι',he,ext_of_ext0 hh (hext.trans e2),h2,h3⟩
end Go.Proofs.YtmjldphagbobpaaDoor
namespace Go.Proofs.YtmjldphagbobpaaDoor
open Go.RowKit
structure ExtK (k:Nat) (w:World) (ι:Pl) (w':World) (ι':Pl):Prop where
  weak:Ext0 w ι w' ι'
  own:∀b g,b<k→ι b= .here g→ι' b= .dead∨(ι' b= .here g∧∀cur e fz,w.heap[g]? =some (.cells cur e fz)→∃cur' fz',w'.heap[g]? =some (.cells cur' e fz')∧cur'.size=cur.size)
  dead:∀b,b<k→ι b= .dead→ι' b= .dead
theorem Ext.toK (k:Nat){w w':World}{ι ι':Pl}(h:Ext w ι w' ι'):ExtK k w ι w' ι':=⟨h.weak,fun b g _ hb=>h.own b g hb,fun b _ hb=>h.dead b hb⟩
theorem ExtK.trans {k:Nat}{w w' w'':World}{ι ι' ι'':Pl}(h:ExtK k w ι w' ι')(j:ExtK k w' ι' w'' ι''):ExtK k w ι w'' ι'':=by
  refine⟨h.weak.trans j.weak,fun b g hk hb=>?_,fun b hk hb=>j.dead b hk (h.dead b hk hb)⟩
  rcases h.own b g hk hb with h1|⟨h1,h2⟩
  ·exact .inl (j.dead b hk h1)
  ·rcases j.own b g hk h1 with h3|⟨h3,h4⟩
   ·exact .inl h3
   ·refine .inr ⟨h3,fun cur e fz hc=>?_⟩
    obtain⟨cur1,fz1,e1,e2⟩:=h2 cur e fz hc
    obtain⟨cur2,fz2,e3,e4⟩:=h4 cur1 e fz1 e1
    exact⟨cur2,fz2,e3,e4.trans e2⟩
theorem rlExtK (k:Nat):RlOK (ExtK k):=⟨fun h=>h.toK k,ExtK.trans⟩
abbrev Fi.keeps (f:Fi) (k:Nat):Prop:=f.m.Nodup∧f.m.take k=List.range k
variable [Gv] {P:Program}
theorem Fi.okK {k:Nat}{w:World}{ι:Pl}{S:St}{a:Act}(f:Fi)(hnd:f.keeps k)(h:StRel P w ι S a):∃ι',StRel P w ι' (f.app S) a∧ExtK k w ι w ι':=by
  obtain⟨ι1,h1,e1⟩:=virt_ok f.ns h
  obtain⟨h2,e2⟩:=fin_ok (keep:=f.keep) hnd.1 h1
  have hat:∀b,b<k→f.m[b]? =some b:=by
    intro b hb
    have e:(f.m.take k)[b]? =(List.range k)[b]? :=by rw[hnd.2]
    rw[List.getElem?_take_of_lt hb,List.getElem?_range hb]at e
    exact e
  refine⟨_,h2,(e1.toK k).trans ⟨e2,fun b g hk hb=> .inr ⟨?_,fun cur e fz hc=>⟨cur,fz,hc,rfl⟩⟩,fun b hk hb=>?_⟩⟩
  ·rw[k9_ (hat b hk),hb];rfl
  ·rw[k9_ (hat b hk),hb];rfl
def x9_ (k:Nat)(P:Program)(cl:CallT)(b:Code)(S:St)(e:Exit)(S':St):Prop:=
  ∃(hs:Hints) (lp:Nat→Option Lp) (fuel:Nat) (fi:Fi) (p:List Prop),q3_ (ExtK k) P lp∧fi.keeps k∧o8_ fi (o6_ P cl hs lp fuel b S)=some (e,S',p)∧z7_ p
theorem x9_.tri {k:Nat}{cl:CallT}(hm:P.follows .mixedOrders=true)(hcl:x7_ P cl){b:Code}{S S':St}{e:Exit}(h:x9_ k P cl b S e S'):Tri (ExtK k) P b S e S':=by
  obtain⟨hs,lp,fuel,fi,p,hlp,hnd,hc,hp⟩:=h
  intro w ι a Q hS hQ
  cases hcc:o6_ P cl hs lp fuel b S with
  |none=>rw[hcc]at hc;simp[o8_]at hc
  |some x=>
   obtain⟨e1,S1,p1⟩:=x
   rw[hcc]at hc
   simp only[o8_,Option.some.injEq,Prod.mk.injEq]at hc
   obtain⟨rfl,hS1,rfl⟩:=hc
   refine(aCode_ok (rlExtK k) hm hcl hlp fuel b S S1 e1 p1 hcc hp).1 w ι a Q hS fun a' w' ι' hS' hext=>?_
   obtain⟨ι2,h2,e2⟩:=fi.okK hnd hS'
   rw[hS1]at h2
   exact hQ a' w' ι2 h2 (hext.trans e2)
theorem i1_ {k:Nat}{α:Type}{cl:CallT}(hm:P.follows .mixedOrders=true)(hcl:x7_ P cl){b:Code}(I:α→St)(Inv:α→Prop)(μ:α→Nat){e:Exit}{R:St}
    (round:∀x,Inv x→(∃x',Inv x'∧μ x'<μ x∧x9_ k P cl b (I x) .normal (I x'))∨(e≠ .normal∧x9_ k P cl b (I x) e R)) (x0:α) (h0:Inv x0):Tri (ExtK k) P (.loop b) (I x0) e R:=by
  have key:∀n x,Inv x→μ x<n→∀w ι a Q,StRel P w ι (I x) a→(∀a' w' ι',StRel P w' ι' R a'→ExtK k w ι w' ι'→Q e a' w')→Code.rounds P b Q n a w:=by
    intro n
    induction n with
    |zero=>intro x _ h;omega
    |succ n ih=>
     intro x hi hx w ι a Q hS hQ
     rw[rounds_succ]
     rcases round x hi with⟨x',hi',hlt,hr⟩|⟨hne,hr⟩
     ·exact hr.tri hm hcl w ι a _ hS fun a1 w1 ι1 hS1 e1=>ih x' hi' (by omega) w1 ι1 a1 Q hS1 fun a2 w2 ι2 hS2 e2=>hQ a2 w2 ι2 hS2 (e1.trans e2)
     ·refine hr.tri hm hcl w ι a _ hS fun a1 w1 ι1 hS1 e1=>?_
      have:=hQ a1 w1 ι1 hS1 e1
      cases e with
      |normal=>exact absurd rfl hne
      |_=>exact this
  intro w ι a Q hS hQ
  exact wp_loop_rounds _ (key (μ x0+1) x0 h0 (by omega) w ι a Q hS hQ)
theorem loop_upK {k:Nat}{cl:CallT}(hm:P.follows .mixedOrders=true)(hcl:x7_ P cl){b:Code}(I:Nat→St)(n:Nat){e:Exit}{R:St}(he:e≠ .normal)
    (round:∀i,i<n→x9_ k P cl b (I i) .normal (I (i+1))) (stop:x9_ k P cl b (I n) e R) (i:Nat) (hi:i≤n):Tri (ExtK k) P (.loop b) (I i) e R:=
  i1_ hm hcl I (fun i=>i≤n) (fun i=>n-i) (fun i hi=>by
    by_cases h:i<n
    ·exact .inl ⟨i+1,h,by omega,round i h⟩
    ·have:i=n:=by omega
     subst this
     exact .inr ⟨he,stop⟩) i hi
theorem y4_ {k:Nat} :q3_ (ExtK k) P (y1_ []):=fun _ _ h=>by cases h
theorem s2_ {m k:Nat}{L:Lp}{r:List (Nat×Lp)}(hlp:q3_ (ExtK k) P (y1_ r))(hnd:L.fi.keeps k)(h:Tri (ExtK k) P (.loop L.body) L.E L.e L.R):q3_ (ExtK k) P (y1_ ((m,L)::r)):=by
  intro i L' hL
  have hL:(if i=m then some L else y1_ r i)=some L':=hL
  split at hL
  ·cases hL
   intro w ι a Q S hS hE hQ
   obtain⟨ι2,h2,e2⟩:=L.fi.okK hnd hS
   rw[hE]at h2
   exact h w ι2 a Q h2 fun a' w' ι' hS' hext=>hQ a' w' ι' hS' (e2.trans hext)
  ·exact hlp i L' hL
theorem ext_of_extK {w w':World}{ι ι':Pl}{hp:Heap}(h0:HpRel P w ι hp)(e:ExtK hp.length w ι w' ι'):Ext w ι w' ι':=by
  have hf:∀b,hp.length≤b→ι b= .fresh:=fun b hb=>by have:=h0.blk b;rw[List.getElem?_eq_none hb]at this;exact this
  refine⟨e.weak.os,e.weak.tape,e.weak.output,e.weak.size,e.weak.hid,e.weak.hkeep,e.weak.blk,fun b g hb=>?_,fun b hb=>?_⟩
  ·rcases Nat.lt_or_ge b hp.length with h|h
   ·exact e.own b g h hb
   ·rw[hf b h]at hb;cases hb
  ·rcases Nat.lt_or_ge b hp.length with h|h
   ·exact e.dead b h hb
   ·rw[hf b h]at hb;cases hb
theorem hspec_any (hm:P.follows .mixedOrders=true){f:FuncId}{spec:HSpec}
    (h:∀args hp r hp' q,spec args hp=some (r,hp',q)→z7_ q→∃cl ks hs lp fuel p,x7_ P cl∧q3_ (ExtK hp.length) P lp∧y5_ ks (z8_ P cl hs lp fuel f args hp)=some (r,hp',p)∧z7_ p):u0_ P f spec:=by
  intro args hp r hp' q hspec hq w ι vs hh hl hv
  obtain⟨cl,ks,hs,lp,fuel,p,hcl,hlp,hb,hp0⟩:=h args hp r hp' q hspec hq
  cases hb1:z8_ P cl hs lp fuel f args hp with
  |none=>rw[hb1]at hb;simp[y5_]at hb
  |some x=>
   obtain⟨r1,hp1,p1⟩:=x
   rw[hb1]at hb
   simp only[y5_,Option.some.injEq,Prod.mk.injEq]at hb
   obtain⟨rfl,rfl,rfl⟩:=hb
   obtain⟨hbody,hcalls⟩:=d2_ (rlExtK hp.length) hm hcl hlp hb1 hp0 hh hl hv
   refine⟨hbody,hcalls.mono fun e w' ⟨v,ι',he,hext,hhp,hr⟩=>?_⟩
   obtain⟨ι2,e2,h2⟩:=c4_ ks hhp
   exact⟨v,ι2,he,(ext_of_extK hh hext).trans e2,h2,hr.mono e2⟩
theorem zb0_ (hm:P.follows .mixedOrders=true){cl:CallT}(hcl:x7_ P cl){f:FuncId}{spec:HSpec}
    (h:∀args hp r hp' q,spec args hp=some (r,hp',q)→z7_ q→∃ks hs lp fuel p,q3_ (ExtK hp.length) P lp∧y5_ ks (z8_ P cl hs lp fuel f args hp)=some (r,hp',p)∧z7_ p):u0_ P f spec:=
  hspec_any hm fun args hp r hp' q h1 h2=>by
    obtain⟨ks,hs,lp,fuel,p,k1,k2,k3⟩:=h args hp r hp' q h1 h2
    exact⟨cl,ks,hs,lp,fuel,p,hcl,k1,k2,k3⟩
end Go.Proofs.YtmjldphagbobpaaDoor
namespace Go.Proofs.YtmjldphagbobpaaDoor
open Go.RowKit
def Code.lft:Code→Code
  | .seq x _=>x
  |c=>c
def Code.rgt:Code→Code
  | .seq _ y=>y
  |c=>c
def Code.thn:Code→Code
  | .cond _ x _=>x
  |c=>c
def Code.rops:Code→Array Oper
  | .region _ o _=>o
  |_=> #[]
def codeOf (P:Program)(f:FuncId):Code:=
  match P.funcs[f]? with
  |some fn=>fn.body.getD .skip
  |none=> .skip
variable [Gv] {P:Program}
theorem body_calls {f:FuncId}{fn:Func}{c:Code}{args:List AV}{hp:Heap}{R:Ending→World→Prop}(hf:P.funcs[f]? =some fn)(hb:fn.body=some c)
    {w:World} {ι:Pl} {vs:Array Value} (hh:HpRel P w ι hp) (hl:args.length=vs.size) (hv:∀j,j<args.length→VR P w ι true (args.getD j .any) (vs.getD j undef))
    (H:∀a,StRel P w ι ⟨args++List.replicate (fn.ntmps-args.length) .any,hp⟩ a→c.wp P (bodyPost P fn R) a w):Calls P f vs w R:=by
  refine calls_of_wp hf hb (H _ ⟨⟨by simp[hl],fun t=>?_⟩,hh,rfl⟩)
  rw[getD_append]
  have e2:(vs++Array.replicate (fn.ntmps-vs.size) undef).getD t undef=if t<vs.size then vs.getD t undef else undef:=by
    rw[←w1_,←w1_]
    simp only[Array.toList_append,List.getD,List.getElem?_append,Array.length_toList,Array.toList_replicate,List.getElem?_replicate]
    split
    ·rfl
    ·split<;>rfl
  rw[e2]
  split
  ·rename_i hlt
   rw[if_pos (by omega)]
   exact hv t (by omega)
  ·rename_i hlt
   rw[if_neg (by omega)]
   have:(List.replicate (fn.ntmps-args.length) AV.any).getD (t-args.length) .any= .any:=by
     simp only[List.getD,List.getElem?_replicate]
     split<;>rfl
   rw[this]
   exact .any
theorem post_ret {fn:Func}{R:Ending→World→Prop}{w:World}{ι:Pl}{S:St}{a:Act}{r:AV}(hS:StRel P w ι S a)(hr:resAV P S.fr S.hp fn.results.toList=some r)(hR:∀v,VR P w ι true r v→R (.returned v) w):bodyPost P fn R .ret a w:=by
  obtain⟨v,hres,hrel⟩:=run_results (P:=P) hS.fr hS.hp hr
  exact⟨hS.df,v,hres,hR v hrel⟩
omit [Gv]in
theorem a9_ {Q:Exit→Act→World→Prop}{c:Code}{a:Act}{w:World}(h:c= .seq (Code.lft c) (Code.rgt c))(hw:(Code.lft c).wp P (Exit.then ((Code.rgt c).wp P Q) Q) a w):c.wp P Q a w:=by
  have:=wp_seq hw
  rwa [←h]at this
theorem wp_piece {X:Rl}{Q:Exit→Act→World→Prop}{c:Code}{a:Act}{w:World}{ι:Pl}{S S':St}(h:c= .seq (Code.lft c) (Code.rgt c))(ht:Tri X P (Code.lft c) S .normal S')(hS:StRel P w ι S a)
    (next:∀a' w' ι',StRel P w' ι' S' a'→X w ι w' ι'→(Code.rgt c).wp P Q a' w'):c.wp P Q a w:=
  a9_ h (ht w ι a _ hS fun a' w' ι' h1 h2=>next a' w' ι' h1 h2)
omit [Gv]in
theorem wpList_val {ops:Array Oper}{Q:Exit→Act→World→Prop}{l:List Oper}{o:Oper}{a:Act}{w w':World}{v:Value}(hg:o.guard=none)(he:(execOp a.eval o).run P w= .ok (.value v) w')
    (h:wpList P ops Q l (a.put o.dst v) w'):wpList P ops Q (o::l) a w:=by
  unfold wpList
  rw[if_pos (by unfold Region.wanted;rw[hg])]
  refine .inl ?_
  unfold Oper.wp
  rw[he,Oper.upon_value]
  exact h
theorem aOps_pre {cl:CallT}(hcl:x7_ P cl){hs:Hints}{ops:Array Oper}{Q:Exit→Act→World→Prop} :∀(l l2:List Oper) (S S':St) (p0 p:List Prop) (w:World) (ι:Pl) (a:Act),
    f0_ P cl hs ops l S p0=some (S',p)→z7_ p→StRel P w ι S a→(∀a' w' ι',StRel P w' ι' S' a'→Ext w ι w' ι'→wpList P ops Q l2 a' w')→wpList P ops Q (l++l2) a w
  | [],l2,S,S',p0,p,w,ι,a,h,hp',hS,hQ=>by
    simp only[f0_,Option.some.injEq,Prod.mk.injEq]at h
    obtain⟨rfl,rfl⟩:=h
    exact hQ a w ι hS (Ext.refl _ _)
  |o::r,l2,S,S',p0,p,w,ι,a,h,hp',hS,hQ=>by
   simp only[f0_]at h
   rw[List.cons_append]
   unfold wpList
   split at h
   ·rename_i hw
    split at h
    ·rename_i S1 q hq
     rw[if_pos (want_st hS hw)]
     exact .inl (doOp_ok hcl hS hq (u5_ (aOps_mono r _ _ _ _ h hp')).2 fun a' w' ι' hS' hext=>aOps_pre hcl r l2 S1 S' _ p w' ι' a' h hp' hS' fun a2 w2 ι2 h2 e2=>hQ a2 w2 ι2 h2 (hext.trans e2))
    ·simp at h
   ·rename_i hw
    rw[if_neg (by rw[want_st hS hw];simp)]
    exact aOps_pre hcl r l2 _ S' _ p w ι _ h hp' (hS.put (show VR P w ι true uAV undef from .c) o.dst) hQ
   ·simp at h
theorem StRel.keep {w:World}{ι:Pl}{S:St}{a:Act}(h:StRel P w ι S a)(keep:List Nat):StRel P w ι ⟨i8_ keep 0 S.fr,S.hp⟩ a:=by
  refine⟨⟨by rw[keepOnly_length];exact h.fr.len,fun t=>?_⟩,h.hp,h.df⟩
  rcases keepOnly_getD keep S.fr 0 t with hk|hk<;>rw[hk]
  ·exact .any
  ·exact h.fr.rel t
def opsKeep (keep:List Nat):Option (St×List Prop)→Option (St×List Prop)
  |some (S,p)=>some (⟨i8_ keep 0 S.fr,S.hp⟩,p)
  |none=>none
theorem aOps_keep {cl:CallT}(hcl:x7_ P cl){hs:Hints}{ops:Array Oper}{Q:Exit→Act→World→Prop}{l l2:List Oper}{S S':St}{p:List Prop}{w:World}{ι:Pl}{a:Act}{keep:List Nat}
    (h:opsKeep keep (f0_ P cl hs ops l S [])=some (S',p)) (hp':z7_ p) (hS:StRel P w ι S a) (hQ:∀a' w' ι',StRel P w' ι' S' a'→Ext w ι w' ι'→wpList P ops Q l2 a' w'):wpList P ops Q (l++l2) a w:=by
  cases hc:f0_ P cl hs ops l S []with
  |none=>rw[hc]at h;simp[opsKeep]at h
  |some x=>
   obtain⟨S1,p1⟩:=x
   rw[hc]at h
   simp only[opsKeep,Option.some.injEq,Prod.mk.injEq]at h
   obtain⟨rfl,rfl⟩:=h
   exact aOps_pre hcl l l2 S S1 [] p1 w ι a hc hp' hS fun a' w' ι' h1 h2=>hQ a' w' ι' (h1.keep keep) h2
end Go.Proofs.YtmjldphagbobpaaDoor
