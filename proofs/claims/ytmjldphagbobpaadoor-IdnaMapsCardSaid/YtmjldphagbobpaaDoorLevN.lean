import Derived.Test.YtmjldphagbobpaaDoorLevG
import Derived.LoopN
set_option linter.unusedVariables false
set_option linter.unusedSimpArgs false
namespace Go.Proofs.YtmjldphagbobpaaDoor
open IntKind (i64 u8 i32 u32 u64)
open Go.RowKit
variable [Gv] {P:Program} {w:World} {ι:Pl} {hp:Heap}
theorem doOpQ_ok {cl:CallT}(hcl:x7_ P cl){hs:Hints}{fr:List AV}{a:Act}{o:Oper}{av:AV}{p:List Prop}(hh:HpRel P w ι hp)(hρ:∀x∈o.op.operands,VR P w ι true (aEv fr x) (a.eval x))
    (h:doOpQ P cl hs hp fr o=some (av,p)) (hp':z7_ p) {K:Act→World→Prop} {Q:Exit→Act→World→Prop}
    (hK:∀v w',VR P w' ι true av v→Ext w ι w' ι→HpRel P w' ι hp→K (a.put o.dst v) w'):o.wp P a w K Q:=by
  unfold doOpQ at h
  split at h
  ·rename_i f args aT ho
   split at h
   ·rename_i g l hc
    split at h
    ·rename_i r hext
     have hmem:∀x,x=f∨x∈args→VR P w ι true (aEv fr x) (a.eval x):=fun x hx=>hρ x (by
       simp only[ho,Op.operands,Call.operands]
       rcases hx with rfl|hx
       ·simp
       ·simp[hx])
     obtain⟨vs,hl,hv,hres⟩:=callee_ok (hmem f (.inl rfl)) (fun x hx=>hmem x (.inr hx)) hc
     obtain⟨v,hrun,hvr⟩:=extA_ok hext hl hv
     have he:(execOp a.eval o).run P w= .ok (.value v) w:=by
       have:execOp a.eval o=(do let d←resolve a.eval { callee:= .value f,args,argTypes:=aT} o.type;invoke d.target d.args):=by simp only[execOp,ho]
       rw[this,hres _ _ rfl rfl w]
       exact hrun
     have hav:av=r:=by
       split at h
       ·simp only[oi_]at h
        exact h.1.symm
       ·simp only[oi_]at h
        rw[←h.2]at hp'
        rw[←h.1,avEq_eq hp'.1]
     unfold Oper.wp
     rw[he,Oper.upon_value]
     exact hK v w (by rw[hav];exact hvr) (Ext.refl _ _) hh
    split at h
    ·rename_i l' hfr
     split at h
     ·rename_i r hp2 q hcall
      split at h
      ·rename_i hflat
       split at h
       ·rename_i r' hfr'
        have hmem:∀x,x=f∨x∈args→VR P w ι true (aEv fr x) (a.eval x):=fun x hx=>hρ x (by
          simp only[ho,Op.operands,Call.operands]
          rcases hx with rfl|hx
          ·simp
          ·simp[hx])
        obtain⟨vs,hl,hv,hres⟩:=callee_ok (hmem f (.inl rfl)) (fun x hx=>hmem x (.inr hx)) hc
        have hq:z7_ q∧av=r':=by
          split at h
          ·simp only[oi_]at h
           exact⟨h.2▸hp',h.1.symm⟩
          ·simp only[oi_]at h
           rw[←h.2]at hp'
           obtain⟨h1,h2⟩:=u5_ hp'
           exact⟨h1,by rw[←h.1,avEq_eq h2.1]⟩
        obtain⟨f1,f2⟩:=freezeAll_ok hh (used:=usedIn l) (vs:=vs.toList) (by simpa using hl) (fun j hj=>by rw[w1_];exact hv j hj) hfr (fun b hm=>hm)
        obtain⟨⟨fn,c,h1,h2,h3⟩,hcalls⟩:=hcl g l' [] r hp2 q hcall hq.1 w (ι.iso (usedIn l)) vs (iso_rel hh _) (by simpa using f1) (fun j hj=>by rw[←w1_];exact(f2 j hj).open_)
        unfold Oper.wp
        have he:(execOp a.eval o).run P w= .ok (.enter g vs) w:=by
          have:execOp a.eval o=(do let d←resolve a.eval { callee:= .value f,args,argTypes:=aT} o.type;invoke d.target d.args):=by simp only[execOp,ho]
          rw[this,hres _ _ rfl rfl w]
          exact run_callFunc h1 h2 h3
        rw[he,Oper.upon_enter]
        refine hcalls.mono fun e w' ⟨v,κ',he',hext,hhk,hr⟩=>?_
        subst he'
        obtain⟨e0,h0⟩:=hh.ext hext.os hext.tape hext.output hext.size (iso_old hext)
        refine hK v w' ?_ e0 h0
        rw[hq.2]
        unfold freeze at hfr'
        split at hfr'
        ·rename_i b off n _
         split at hfr'
         ·rename_i B hb
          split at hfr'
          ·simp at hfr'
          ·rename_i hop
           simp only[Option.some.injEq]at hfr'
           subst hfr'
           have hop':B.op=false:=by simpa using hop
           rcases Nat.eq_zero_or_pos n with hn|hn
           ·subst hn
            obtain⟨x,cap,rfl,_⟩:=hr.slShape (hhk.notDead hb)
            have:(List.drop (q2_ off (P.cellsOf B.e)) B.cells).take (q2_ 0 (P.cellsOf B.e))=[]:=by rw[t3_];simp
            rw[this]
            exact .fsZero
           ·obtain⟨g',cap,cur,fz,hg,hcur,hn2,hs',hm,rfl⟩:=hr.slPlace (hhk.live hb) hn
            obtain⟨cur',fz',hcur',_,hlen,hone,hrel,hcell⟩:=(hhk.live hb).cells hg hcur
            rw[hcur]at hcur';cases hcur'
            have hge:=iso_new hext hhk hg
            have hlen2:((B.cells.drop (off*P.cellsOf B.e)).take (n*P.cellsOf B.e)).length≤n*P.cellsOf B.e:=by rw[List.length_take];omega
            have hlen3:((B.cells.drop (off*P.cellsOf B.e)).take (n*P.cellsOf B.e)).length+off*P.cellsOf B.e≤max B.cells.length (off*P.cellsOf B.e):=by rw[List.length_take,List.length_drop];omega
            rw[t3_,t3_]
            refine .fs (us:=fun j=>cur.getD (off*P.cellsOf B.e+j) undef) hn2 hlen2 (hhk.lt hg) (new_un hh hge) ?_ ?_ ?_
            ·intro j hj;exact hcell _ (by omega)
            ·intro j hj;exact hone _ (by omega)
            ·intro j hj
             rw[n1_ _ _ _ (by omega),l0_]
             have hx:=hrel (off*P.cellsOf B.e+j) (by omega)
             rw[hop']at hx
             rcases hflat with hc1|hc1
             ·exact hx.shrink rfl (fun g hg=>iso_back (c1_ hc1) hext hg)
             ·have hmem2:B.cells.getD (off*P.cellsOf B.e+j) .any∈B.cells:=by
                have hlt:off*P.cellsOf B.e+j<B.cells.length:=by omega
                have:B.cells.getD (off*P.cellsOf B.e+j) .any=B.cells[off*P.cellsOf B.e+j]:=by simp[List.getD,hlt]
                rw[this]
                exact List.getElem_mem hlt
              have hisc:=List.all_eq_true.1 (by simpa [s9_,hb]using hc1) _ hmem2
              generalize B.cells.getD (off*P.cellsOf B.e+j) .any=y at hisc hx
              cases y<;>simp[AV.isC]at hisc
              rw[hx.cInv]
              exact .c
         ·simp at hfr'
        ·rename_i hnsl
         split at hfr'
         ·rename_i hc2
          simp only[Option.some.injEq]at hfr'
          subst hfr'
          rcases hflat with hc1|hc1
          ·exact((hr.shut hc2).shrink rfl (fun g hg=>iso_back (c1_ hc1) hext hg)).open_
          ·refine(hr.flat (ι:=ι) ?_).open_
           unfold s9_ at hc1 ⊢
           split at hc1
           ·rfl
           ·rfl
           ·exact hc1
           ·exact hc1
           ·exact absurd rfl (hnsl _ _ _)
           ·simp at hc1
         ·simp at hfr'
       ·simp at h
      ·simp at h
     ·simp at h
    ·simp at h
   ·simp at h
  ·split at h
   ·rename_i r hr
    obtain⟨cks,av0,cmd0⟩:=r
    split at h
    ·rename_i v q hu
     simp only[oi_]at h
     obtain⟨rfl,rfl⟩:=h
     obtain⟨c1,c2,c3⟩:=useHint_ok hu hp'
     simp only at c1 c2 c3
     subst c2;subst c3
     obtain⟨n,w',ι',v',hrun,hn,hext,hhp,hv,hq⟩:=opS_ok hρ hh hr c1
     obtain⟨rfl,rfl⟩:=hq
     unfold Oper.wp
     rw[hrun]
     have fin:=hK v' w' hv hext hhp
     rcases hn with rfl|⟨rfl,rfl⟩
     ·rw[Oper.upon_value];exact fin
     ·rw[Oper.upon_skip];exact fin
    ·rename_i b off n B q hu
     split at h
     ·rename_i hcond
      simp only[oi_]at h
      obtain⟨rfl,rfl⟩:=h
      obtain⟨c1,c2,c3⟩:=useHint_ok hu hp'
      simp only at c1 c2 c3
      subst c2;subst c3
      obtain⟨m,w',ι',v',hrun,hn,hext,hhp,hv,hq⟩:=opS_ok hρ hh hr c1
      obtain⟨e0,h0⟩:=hh.ext hext.os hext.tape hext.output hext.size hq
      have fin:VR P w' ι true (.fs (P.cellsOf B.e) n (B.cells.take (q2_ n (P.cellsOf B.e)))) v':=by
        obtain⟨rfl,rfl,hop⟩:=hcond
        have hb:(hp++[some B])[hp.length]? =some (some B):=getElem?_snoc_same hp (some B)
        have hhp':HpRel P w' ι' (hp++[some B]):=hhp
        rcases Nat.eq_zero_or_pos n with hn0|hn0
        ·subst hn0
         obtain⟨x,cap,rfl,_⟩:=hv.slShape (hhp'.notDead hb)
         have:B.cells.take (q2_ 0 (P.cellsOf B.e))=[]:=by rw[t3_];simp
         rw[this]
         exact .fsZero
        ·obtain⟨g',cap,cur,fz,hg,hcur,hn2,hs',hm,rfl⟩:=hv.slPlace (hhp'.live hb) hn0
         obtain⟨cur',fz',hcur',_,hlen,hone,hrel,hcell⟩:=(hhp'.live hb).cells hg hcur
         rw[hcur]at hcur';cases hcur'
         have sub:∀k g,ι k= .here g→ι' k= .here g:=by
           intro k g hk
           rcases hext.own k g hk with hd|⟨h1,_⟩
           ·have hkl:k<hp.length:=by
              have:=hh.blk k
              rcases Nat.lt_or_ge k hp.length with hlt|hge
              ·exact hlt
              ·rw[List.getElem?_eq_none hge]at this;rw[show ι k= .fresh from this]at hk;cases hk
            have hs2:=hhp'.blk k
            have hs1:=hh.blk k
            rw[List.getElem?_append_left hkl]at hs2
            match hx:hp[k]?,hs1,hs2 with
            |none,hs1,_=>rw[show ι k= .fresh from hs1]at hk;cases hk
            |some none,hs1,_=>rw[show ι k= .dead from hs1]at hk;cases hk
            |some (some B'),_,hs2=>
             rcases hs2 with⟨k1,_⟩|⟨_,_,_,k1,_⟩|⟨_,_,_,k1,_⟩<;>rw[hd]at k1<;>cases k1
           ·exact h1
         have back:∀g,ι'.un g→ι.un g:=fun g hg=>⟨fun k hk=>hg.1 k (sub k g hk),by rw[←hext.hid];exact hg.2⟩
         have hgun:ι.un g':=by
           refine⟨fun k hk=>?_,by rw[←hext.hid];exact hhp'.nohid _ _ hg⟩
           have:=hhp'.inj _ _ _ (sub k g' hk) hg
           subst this
           have:=hh.freshLen
           rw[this]at hk;cases hk
         have hlen2:(B.cells.take (n*P.cellsOf B.e)).length≤n*P.cellsOf B.e:=by rw[List.length_take];omega
         have hlen3:(B.cells.take (n*P.cellsOf B.e)).length≤B.cells.length:=by rw[List.length_take];omega
         rw[t3_]
         refine .fs (us:=fun j=>cur.getD (0*P.cellsOf B.e+j) undef) hn2 hlen2 (hhp'.lt hg) hgun ?_ ?_ ?_
         ·intro j hj;exact hcell _ (by simp;omega)
         ·intro j hj;exact hone _ (by simp;omega)
         ·intro j hj
          rw[n1_ _ _ _ (by omega)]
          have hx:=hrel j (by omega)
          rw[hop]at hx
          simp only[Nat.zero_mul,Nat.zero_add]
          exact hx.shrink rfl back
      unfold Oper.wp
      rw[hrun]
      have fin:=hK v' w' fin e0 h0
      rcases hn with rfl|⟨rfl,rfl⟩
      ·rw[Oper.upon_value];exact fin
      ·rw[Oper.upon_skip];exact fin
     ·simp at h
    ·simp at h
   ·simp at h
end Go.Proofs.YtmjldphagbobpaaDoor
namespace Go.Proofs.YtmjldphagbobpaaDoor
open IntKind (i64 u8 i32 u32 u64)
open Go.RowKit
variable [Gv] {P:Program} {w:World} {ι:Pl} {hp:Heap}
inductive PredOf (ops:Array Oper):Nat→Nat→Prop
  |edge {j:Nat} {o:Oper} {e:Edge} :ops[j]? =some o→e∈o.after→Region.binds .any e=true→PredOf ops j e.on
  |more {j x:Nat} {o:Oper} {e:Edge} :ops[j]? =some o→e∈o.after→Region.binds .any e=true→PredOf ops e.on x→PredOf ops j x
omit [Gv]in
theorem mem_addAll:∀(l acc:List Nat) (x:Nat),x∈addAll l acc→x∈l∨x∈acc
  | [],acc,x,h=> .inr h
  |y::r,acc,x,h=>by
   simp only[addAll]at h
   rcases mem_addAll r _ x h with h|h
   ·exact .inl (List.mem_cons_of_mem _ h)
   ·split at h
    ·exact .inr h
    ·rcases List.mem_cons.1 h with rfl|h
     ·exact .inl (by simp)
     ·exact .inr h
omit [Gv]in
theorem predsGo_spec {ops:Array Oper} :∀(l:List Oper) (acc:List (List Nat)),(∀k,l[k]? =ops[acc.length+k]?)→(∀j x,x∈acc.getD j []→PredOf ops j x)→∀j x,x∈(d8_ l acc).getD j []→PredOf ops j x
  | [],acc,_,h,j,x,hx=>h j x hx
  |o::r,acc,ho,h,j,x,hx=>by
   simp only[d8_]at hx
   refine predsGo_spec r _ (fun k=>?_) ?_ j x hx
   ·have:=ho (k+1)
    simp only[List.getElem?_cons_succ]at this
    rw[this]
    congr 1
    simp
    omega
   ·intro j x hx
    have ho0:ops[acc.length]? =some o:=by have:=ho 0;simpa using this.symm
    by_cases hj:j<acc.length
    ·rw[List.getD,List.getElem?_append_left hj]at hx
     exact h j x hx
    ·by_cases hj2:j=acc.length
     ·subst hj2
      rw[List.getD,List.getElem?_append_right (Nat.le_refl _)]at hx
      simp only[Nat.sub_self,List.getElem?_cons_zero,Option.getD_some]at hx
      have fold:∀(es:List Edge) (l0:List Nat),(∀e∈es,e∈o.after)→(∀x∈l0,PredOf ops acc.length x)→
         ∀x∈es.foldl (fun l e=>if Region.binds .any e=true then addAll (e.on::acc.getD e.on []) l else l) l0,PredOf ops acc.length x:=by
        intro es
        induction es with
        |nil=>intro l0 _ h0 x hx;exact h0 x hx
        |cons e es ih=>
         intro l0 hes h0 x hx
         simp only[List.foldl_cons]at hx
         refine ih _ (fun e' he'=>hes e' (List.mem_cons_of_mem _ he')) ?_ x hx
         intro y hy
         split at hy
         ·rename_i hb
          rcases mem_addAll _ _ _ hy with hy|hy
          ·rcases List.mem_cons.1 hy with rfl|hy
           ·exact .edge ho0 (hes e (by simp)) hb
           ·exact .more ho0 (hes e (by simp)) hb (h _ _ hy)
          ·exact h0 y hy
         ·exact h0 y hy
      exact fold o.after.toList [] (fun e he=>by simpa using he) (by simp) x hx
     ·rw[List.getD,List.getElem?_eq_none (by simp;omega)]at hx
      simp at hx
def Downed (ops:Array Oper)(L:Nat→Bool):Prop:=∀j o e,L j=true→ops[j]? =some o→e∈o.after→Region.binds .any e=true→L e.on=true
omit [Gv]in
theorem Downed.pred {ops:Array Oper}{L:Nat→Bool}(h:Downed ops L){j x:Nat}(hp:PredOf ops j x)(hj:∀o e,ops[j]? =some o→e∈o.after→Region.binds .any e=true→L e.on=true):L x=true:=by
  induction hp with
  |edge ho he hb=>exact hj _ _ ho he hb
  |more ho he hb _ ih=>
   have h1:=hj _ _ ho he hb
   exact ih fun o' e' ho' he' hb'=>h _ o' e' h1 ho' he' hb'
def r2_ (fr:List AV)(ops:Array Oper)(V:Nat→AV)(L:Nat→Bool):Nat→Nat→AV
  |0,t=>fr.getD t .any
  |k+1,t=>match ops[k]? with
   |some o=>if L k=true∧o.dst=some t∧t<fr.length then V k else r2_ fr ops V L k t
   |none=>r2_ fr ops V L k t
omit [Gv]in
theorem e9_ {fr:List AV}{ops:Array Oper}{V:Nat→AV}{L L':Nat→Bool}{t:Nat} :∀{k:Nat},(∀i o,i<k→ops[i]? =some o→o.dst=some t→L i=L' i)→r2_ fr ops V L k t=r2_ fr ops V L' k t
  |0,_=>rfl
  |k+1,h=>by
   have ih:=e9_ (fr:=fr) (V:=V) (k:=k) fun i o hi ho hd=>h i o (by omega) ho hd
   simp only[r2_]
   split
   ·rename_i o ho
    by_cases hd:o.dst=some t
    ·rw[h k o (by omega) ho hd,ih]
    ·simp[hd,ih]
   ·exact ih
omit [Gv]in
theorem slotAt_past {fr:List AV}{ops:Array Oper}{V:Nat→AV}{L:Nat→Bool}{t i:Nat} :∀{k:Nat},i≤k→(∀j o,i≤j→j<k→ops[j]? =some o→L j=true→o.dst≠some t)→r2_ fr ops V L k t=r2_ fr ops V L i t
  |0,hi,_=>by
   obtain rfl:i=0:=by omega
   rfl
  |k+1,hi,h=>by
   by_cases hik:i=k+1
   ·rw[hik]
   ·have ih:=slotAt_past (fr:=fr) (V:=V) (k:=k) (i:=i) (by omega) fun j o h1 h2=>h j o h1 (by omega)
    simp only[r2_]
    split
    ·rename_i o ho
     rw[if_neg (by rintro⟨hL,hd,_⟩;exact h k o (by omega) (by omega) ho hL hd),ih]
    ·exact ih
omit [Gv]in
theorem slotAt_add {fr:List AV}{ops:Array Oper}{V:Nat→AV}{L L':Nat→Bool}{i n:Nat}{o:Oper}(ho:ops[i]? =some o)(hin:i<n)(hLi:L' i=true)(hL:∀j,j≠i→L' j=L j)
    (hlater:∀j o',i<j→j<n→ops[j]? =some o'→L j=true→o'.dst=o.dst→o.dst=none) (t:Nat):
    r2_ fr ops V L' n t=if o.dst=some t∧t<fr.length then V i else r2_ fr ops V L n t:=by
  by_cases hd:o.dst=some t
  ·by_cases hlt:t<fr.length
   ·rw[if_pos ⟨hd,hlt⟩]
    rw[slotAt_past (i:=i+1) (by omega) (fun j o' h1 h2 ho' hLj hd'=>by
     have hji:j≠i:=by omega
     rw[hL j hji]at hLj
     have:=hlater j o' (by omega) h2 ho' hLj (by rw[hd',hd])
     rw[hd]at this;cases this)]
    simp only[r2_,ho]
    rw[if_pos ⟨hLi,hd,hlt⟩]
   ·rw[if_neg (fun h=>hlt h.2)]
    have gen:∀(M:Nat→Bool) k,r2_ fr ops V M k t=fr.getD t .any:=by
      intro M k
      induction k with
      |zero=>rfl
      |succ k ih=>
       simp only[r2_]
       split
       ·rw[if_neg (fun h=>hlt h.2.2)];exact ih
       ·exact ih
    rw[gen,gen]
  ·rw[if_neg (fun h=>hd h.1)]
   refine e9_ fun j o' hj ho' hd'=>?_
   by_cases hji:j=i
   ·subst hji
    rw[ho]at ho';cases ho'
    exact absurd hd' hd
   ·exact hL j hji
structure LexF (ops:Array Oper) (K:Nat) (fr fr':List AV) (F:Nat→List AV) (V:Nat→AV):Prop where
  le:K≤ops.size
  first:F 0=fr
  last:F K=fr'
  step:∀i o,i<K→ops[i]? =some o→F (i+1)=(St.put ⟨F i,[]⟩ o.dst (V i)).fr
def LexAt [Gv](P:Program)(cl:CallT)(hs:Hints)(ops:Array Oper)(hp:Heap)(F:Nat→List AV)(V:Nat→AV)(i:Nat)(o:Oper):Prop:=
  (i7_ ops (F i) o=some true∧∃q,doOpQ P cl hs hp (F i) o=some (V i,q)∧z7_ q)∨(i7_ ops (F i) o=some false∧V i=uAV)
omit [Gv]in
theorem putFr (fr:List AV)(hp hp':Heap)(d:Option Tmp)(v:AV):(St.put ⟨fr,hp⟩ d v).fr=(St.put ⟨fr,hp'⟩ d v).fr:=by
  cases d<;>rfl
theorem aOpsQ_mono {cl:CallT}{hs:Hints}{ops:Array Oper} :∀(l:List Oper) (fr fr':List AV) (p0 p:List Prop),aOpsQ P cl hs ops hp l fr p0=some (fr',p)→z7_ p→z7_ p0
  | [],fr,fr',p0,p,h,hp'=>by
    simp only[aOpsQ,Option.some.injEq,Prod.mk.injEq]at h
    rw[h.2];exact hp'
  |o::r,fr,fr',p0,p,h,hp'=>by
   simp only[aOpsQ]at h
   split at h
   ·split at h
    ·exact(u5_ (aOpsQ_mono r _ _ _ _ h hp')).1
    ·simp at h
   ·exact aOpsQ_mono r _ _ _ _ h hp'
   ·simp at h
theorem aOpsQ_lex {cl:CallT}{hs:Hints}{ops:Array Oper} :∀(l:List Oper) (fr fr':List AV) (p0 p:List Prop),aOpsQ P cl hs ops hp l fr p0=some (fr',p)→z7_ p→
    ∃(F:Nat→List AV) (V:Nat→AV),F 0=fr∧F l.length=fr'∧∀i o,l[i]? =some o→
     ((i7_ ops (F i) o=some true∧∃q,doOpQ P cl hs hp (F i) o=some (V i,q)∧z7_ q)∨(i7_ ops (F i) o=some false∧V i=uAV))∧F (i+1)=(St.put ⟨F i,hp⟩ o.dst (V i)).fr
  | [],fr,fr',p0,p,h,_=>by
    simp only[aOpsQ,Option.some.injEq,Prod.mk.injEq]at h
    exact⟨fun _=>fr,fun _=> .any,rfl,h.1,fun i o ho=>by simp at ho⟩
  |o::r,fr,fr',p0,p,h,hp'=>by
   have build:∀(v:AV) (p1:List Prop),aOpsQ P cl hs ops hp r (St.put ⟨fr,hp⟩ o.dst v).fr p1=some (fr',p)→
    ((i7_ ops fr o=some true∧∃q,doOpQ P cl hs hp fr o=some (v,q)∧z7_ q)∨(i7_ ops fr o=some false∧v=uAV))→
    ∃(F:Nat→List AV) (V:Nat→AV),F 0=fr∧F (o::r).length=fr'∧∀i o',(o::r)[i]? =some o'→
     ((i7_ ops (F i) o'=some true∧∃q,doOpQ P cl hs hp (F i) o'=some (V i,q)∧z7_ q)∨(i7_ ops (F i) o'=some false∧V i=uAV))∧F (i+1)=(St.put ⟨F i,hp⟩ o'.dst (V i)).fr:=by
     intro v p1 h1 h2
     obtain⟨F,V,f1,f2,f3⟩:=aOpsQ_lex r _ fr' p1 p h1 hp'
     refine⟨fun i=>match i with|0=>fr|i+1=>F i,fun i=>match i with|0=>v|i+1=>V i,rfl,f2,fun i o' ho'=>?_⟩
     cases i with
     |zero=>
      simp only[List.getElem?_cons_zero,Option.some.injEq]at ho'
      subst ho'
      exact⟨h2,f1⟩
     |succ i=>exact f3 i o' (by simpa using ho')
   simp only[aOpsQ]at h
   split at h
   ·rename_i hw
    split at h
    ·rename_i v q hq
     exact build v _ h (.inl ⟨hw,q,hq,(u5_ (aOpsQ_mono r _ _ _ _ h hp')).2⟩)
    ·simp at h
   ·rename_i hw
    exact build uAV _ h (.inr ⟨hw,rfl⟩)
   ·simp at h
omit [Gv]in
theorem LexF.slot {ops:Array Oper}{K:Nat}{fr fr':List AV}{F:Nat→List AV}{V:Nat→AV}(h:LexF ops K fr fr' F V):∀k,k≤K→(F k).length=fr.length∧∀t,(F k).getD t .any=r2_ fr ops V (fun _=>true) k t:=by
  intro k
  induction k with
  |zero=>intro _;rw[h.first];exact⟨rfl,fun _=>rfl⟩
  |succ k ih=>
   intro hk
   obtain⟨i1,i2⟩:=ih (by omega)
   have hle:=h.le
   have ho:ops[k]? =some ops[k]:=by simp[show k<ops.size by omega]
   have hF:=h.step k _ (by omega) ho
   rw[hF]
   cases hd:ops[k].dst with
   |none=>
    simp only[St.put]
    refine⟨i1,fun t=>?_⟩
    simp only[r2_,ho,hd]
    rw[if_neg (by simp)]
    exact i2 t
   |some d=>
    simp only[St.put,setL_eq]
    refine⟨by rw[List.length_set];exact i1,fun t=>?_⟩
    rw[set_getD,i1]
    simp only[r2_,ho,hd,Option.some.injEq,true_and]
    split
    ·rfl
    ·exact i2 t
omit [Gv]in
theorem want_ok {ops:Array Oper}{fr:List AV}{a:Act}{o:Oper}{b:Bool}(hg:∀j d want,o.guard=some (j,want)→(ops[j]?).bind (·.dst)=some d→VR P w ι true (fr.getD d .any) (a.tmps.getD d undef))
    (h:i7_ ops fr o=some b):Region.wanted o (yielded ops a.tmps)=b:=by
  unfold i7_ at h
  simp only[getL_eq]at h
  unfold Region.wanted
  split at h
  ·rename_i h0
   rw[h0]
   simpa using h
  ·rename_i j want h0
   rw[h0]
   simp only
   split at h
   ·rename_i d hd
    have hv:=hg j d want h0 hd
    split at h
    ·rename_i b' hb
     rw[hb]at hv
     have hv':=hv.cInv
     simp only[Option.some.injEq]at h
     have hy:yielded ops a.tmps j=some b':=by
       unfold yielded
       rw[hd]
       simp only[Option.bind_some]
       by_cases hlt:d<a.tmps.size
       ·have:a.tmps.getD d undef=a.tmps[d]:=by simp[Array.getD,hlt]
        rw[this]at hv'
        simp[hlt,hv']
       ·have:a.tmps.getD d undef=undef:=by simp[Array.getD,hlt]
        rw[this]at hv'
        simp[undef]at hv'
     rw[hy,←h]
     cases b'<;>cases want<;>rfl
    ·rename_i xs hb
     rw[hb]at hv
     have hv':=hv.cInv
     simp only[Option.some.injEq]at h
     have hy:yielded ops a.tmps j=none:=by
       unfold yielded
       rw[hd]
       simp only[Option.bind_some]
       by_cases hlt:d<a.tmps.size
       ·have:a.tmps.getD d undef=a.tmps[d]:=by simp[Array.getD,hlt]
        rw[this]at hv'
        simp[hlt,hv']
       ·simp[hlt]
     rw[hy,←h]
     rfl
    ·simp at h
   ·simp at h
omit [Gv]in
theorem tailN_le (ps:List (List Nat)):∀n,tailN ps n≤n
  |0=>Nat.le_refl _
  |n+1=>by
   simp only[tailN]
   split
   ·have:=tailN_le ps n;omega
   ·omega
omit [Gv]in
theorem tailN_spec (ps:List (List Nat)):∀n j,n-tailN ps n≤j→j<n→∀i,i<j→(ps.getD j []).contains i=true
  |0,j,_,hj,_,_=>by omega
  |n+1,j,h,hj,i,hi=>by
   simp only[tailN]at h
   split at h
   ·rename_i hall
    by_cases hjn:j=n
    ·subst hjn
     exact List.all_eq_true.1 hall i (List.mem_range.2 hi)
    ·exact tailN_spec ps n j (by omega) (by omega) i hi
   ·omega
omit [Gv]in
theorem tail_ok {ops:Array Oper}{K:Nat}(hK:∀j i,K≤j→i<j→j<ops.size→PredOf ops j i)(hback:∀j o e,ops[j]? =some o→e∈o.after→Region.binds .any e=true→e.on<j)
    (ready:∀(listed:Array Bool) i,listed.size=ops.size→(i∈Region.ready .any ops listed↔i<ops.size∧listed.getD i false=false∧∀o e,ops[i]? =some o→e∈o.after→Region.binds .any e=true→listed.getD e.on false=true))
    {Q:Exit→Act→World→Prop} :∀(n k:Nat) (listed:Array Bool) (a:Act) (w:World) (fuel:Nat),ops.size-k=n→K≤k→k≤ops.size→n≤fuel→listed.size=ops.size→(∀i,i<ops.size→listed.getD i false=decide (i<k))→
      wpList P ops Q (ops.toList.drop k) a w→wpAny P .any ops Q fuel listed a w:=by
  intro n
  induction n with
  |zero=>
   intro k listed a w fuel hn hKk hk hf hsz hl h
   have hkk:k=ops.size:=by omega
   have hq:Q .normal a w:=by
     rw[List.drop_eq_nil_of_le (by simp;omega)]at h
     exact h
   have hr:Region.ready .any ops listed=[]:=by
     apply List.eq_nil_iff_forall_not_mem.2
     intro i hi
     obtain⟨h1,h2,_⟩:=(ready listed i hsz).1 hi
     rw[hl i h1]at h2
     simp at h2
     omega
   cases fuel with
   |zero=>exact⟨hr,hq⟩
   |succ fuel=>exact⟨fun _=>hq,fun i hi=>(by rw[hr]at hi;cases hi)⟩
  |succ n ih=>
   intro k listed a w fuel hn hKk hk hf hsz hl h
   have hkl:k<ops.size:=by omega
   have ho:ops[k]? =some ops[k]:=by simp[hkl]
   cases fuel with
   |zero=>omega
   |succ fuel=>
    have only:∀i,i∈Region.ready .any ops listed→i=k:=by
      intro i hi
      obtain⟨h1,h2,h3⟩:=(ready listed i hsz).1 hi
      have h2':¬i<k:=by rw[hl i h1]at h2;simpa using h2
      rcases Nat.lt_or_ge k i with hki|hki
      ·have hd:Downed ops (fun i=>listed.getD i false):=by
         intro j o e hj hoj he hb
         have hjlt:j<ops.size:=(Array.getElem?_eq_some_iff.1 hoj).1
         have hj:listed.getD j false=true:=hj
         rw[hl j hjlt]at hj
         have hej:=hback j o e hoj he hb
         show listed.getD e.on false=true
         rw[hl e.on (by omega)]
         simp only[decide_eq_true_eq]at hj ⊢
         omega
       have:=hd.pred (hK i k (by omega) hki h1) h3
       have this:listed.getD k false=true:=this
       rw[hl k hkl]at this
       simp at this
      ·omega
    have isr:k∈Region.ready .any ops listed:=(ready listed k hsz).2 ⟨hkl,by rw[hl k hkl];simp,fun o e hoj he hb=>by
      have:=hback k o e hoj he hb
      rw[hl e.on (by omega)]
      simpa using this⟩
    refine⟨fun h0=>(by rw[h0]at isr;cases isr),fun i hi=>?_⟩
    have hik:=only i hi
    subst hik
    rw[List.drop_eq_getElem_cons (by simpa using hkl)]at h
    have e1:ops.toList[i]=ops[i]:=by simp
    rw[e1]at h
    unfold wpList at h
    unfold wpOp
    rw[ho]
    simp only
    have next:∀a' w',wpList P ops Q (ops.toList.drop (i+1)) a' w'→wpAny P .any ops Q fuel (listed.setIfInBounds i true) a' w':=by
      intro a' w' h'
      refine ih (i+1) _ a' w' fuel (by omega) (by omega) (by omega) (by omega) (by simp[hsz]) (fun j hj=>?_) h'
      by_cases hji:j=i
      ·subst hji
       simp[Array.getD,show j<listed.size by omega]
      ·have:(listed.setIfInBounds i true).getD j false=listed.getD j false:=by
         by_cases hjl:j<listed.size
         ·simp[Array.getD,hjl,Ne.symm hji]
         ·simp[Array.getD,hjl]
       rw[this,hl j hj]
       congr 1
       apply propext
       omega
    split at h
    ·rename_i hw
     rw[if_pos hw]
     rcases h with h|h
     ·exact .inl (Oper.wp_mono next h)
     ·exact .inr h
    ·rename_i hw
     rw[if_neg hw]
     exact next _ _ h
theorem orders_ok {cl:CallT}(hcl:x7_ P cl){hs:Hints}{ops:Array Oper}{fr fr':List AV}{F:Nat→List AV}{V:Nat→AV}(hlex:LexF ops (v7_ ops) fr fr' F V)(Un:Nat→Prop)(sp:Option Nat)
    (hstep0:∀i o,i<v7_ ops→Un i→ops[i]? =some o→LexAt P cl hs ops hp F V i o) (hok:drawOk ops=true)
    {Q:Exit→Act→World→Prop} {w0:World} (hQ:sp=none→∀a' w',StRel P w' ι ⟨fr',hp⟩ a'→Ext w0 ι w' ι→wpList P ops Q (ops.toList.drop (v7_ ops)) a' w')
    (hSp:∀s,sp=some s→s<v7_ ops∧∀(fuel:Nat) (listed:Array Bool) (a:Act) (w:World),listed.size=ops.size→Downed ops (fun i=>listed.getD i false)→(∀i,v7_ ops≤i→listed.getD i false=false)→listed.getD s false=false→
      (∀x,PredOf ops s x→listed.getD x false=true)→(∀o,ops[s]? =some o→∀x∈o.op.operands,VR P w ι true (aEv (F s) x) (a.eval x))→((List.range (v7_ ops)).filter fun i=> !(listed.setIfInBounds s true).getD i false).length+(ops.size-v7_ ops)≤fuel→a.tmps.size=fr.length→
      (∀t,VR P w ι true (r2_ fr ops V (fun i=>listed.getD i false) ops.size t) (a.tmps.getD t undef))→HpRel P w ι hp→Ext w0 ι w ι→a.defers=[]→wpOp P ops Q s (wpAny P .any ops Q fuel (listed.setIfInBounds s true)) a w):
    ∀(fuel:Nat) (listed:Array Bool) (a:Act) (w:World),listed.size=ops.size→Downed ops (fun i=>listed.getD i false)→(∀i,v7_ ops≤i→listed.getD i false=false)→(∀i,i<v7_ ops→listed.getD i false=false→Un i∨sp=some i)→(∀s,sp=some s→listed.getD s false=false)→
     ((List.range (v7_ ops)).filter fun i=> !listed.getD i false).length+(ops.size-v7_ ops)≤fuel→
     a.tmps.size=fr.length→(∀t,VR P w ι true (r2_ fr ops V (fun i=>listed.getD i false) ops.size t) (a.tmps.getD t undef))→HpRel P w ι hp→Ext w0 ι w ι→a.defers=[]→wpAny P .any ops Q fuel listed a w:=by
  have hok':=hok
  unfold drawOk at hok'
  simp only[Bool.and_eq_true,List.all_eq_true,List.mem_range]at hok'
  obtain⟨hback,hconf⟩:=hok'
  have preds:∀j x,x∈(d8_ ops.toList []).getD j []→PredOf ops j x:=predsGo_spec ops.toList [] (by simp) (by intro j x hx;simp at hx)
  have apart:∀i j o o',i<j→j<ops.size→ops[i]? =some o→ops[j]? =some o'→PredOf ops j i∨o.apart ops o'=true:=by
    intro i j o o' hij hj ho ho'
    have:=hconf j hj i hij
    simp only[Bool.or_eq_true,List.contains_iff_mem,ho,ho']at this
    rcases this with h|h
    ·exact .inl (preds j i h)
    ·exact .inr h
  have ready:∀(listed:Array Bool) i,listed.size=ops.size→(i∈Region.ready .any ops listed↔i<ops.size∧listed.getD i false=false∧∀o e,ops[i]? =some o→e∈o.after→Region.binds .any e=true→listed.getD e.on false=true):=by
    intro listed i hsz
    unfold Region.ready
    simp only[List.mem_filter,List.mem_range,Bool.and_eq_true,Bool.not_eq_true']
    constructor
    ·rintro⟨h1,h2,h3⟩
     have ho:ops[i]? =some ops[i]:=by simp[h1]
     refine⟨h1,?_,fun o e ho' he hb=>?_⟩
     ·have hlt:i<listed.size:=by omega
      simpa [Array.getD,hlt]using h2
     ·rw[ho]at ho';cases ho'
      rw[ho]at h3
      simp only[Option.map_some,Option.getD_some,Array.all_eq_true_iff_forall_mem,Bool.or_eq_true,Bool.not_eq_true']at h3
      rcases h3 e he with h|h
      ·rw[hb]at h;cases h
      ·exact h
    ·rintro⟨h1,h2,h3⟩
     have ho:ops[i]? =some ops[i]:=by simp[h1]
     refine⟨h1,?_,?_⟩
     ·have hlt:i<listed.size:=by omega
      simpa [Array.getD,hlt]using h2
     ·rw[ho]
      simp only[Option.map_some,Option.getD_some,Array.all_eq_true_iff_forall_mem,Bool.or_eq_true,Bool.not_eq_true']
      intro e he
      cases hb:Region.binds .any e with
      |false=>exact .inl rfl
      |true=>exact .inr (h3 _ e ho he hb)
  have hback':∀j o e,ops[j]? =some o→e∈o.after→Region.binds .any e=true→e.on<j:=by
    intro j o e ho he hb
    have hj:j<ops.size:=(Array.getElem?_eq_some_iff.1 ho).1
    have hb2:=hback j hj
    rw[ho]at hb2
    simp only[List.all_eq_true,Bool.or_eq_true,Bool.not_eq_true',decide_eq_true_eq]at hb2
    rcases hb2 e (by simpa using he)with h|h
    ·rw[hb]at h;cases h
    ·exact h
  have hKp:∀j i,v7_ ops≤j→i<j→j<ops.size→PredOf ops j i:=by
    intro j i hj hi hjs
    refine preds j i ?_
    have:=tailN_spec (d8_ ops.toList []) ops.size j hj hjs i hi
    simpa using this
  have hle:=hlex.le
  have done:∀(listed:Array Bool),listed.size=ops.size→Region.ready .any ops listed=[]→∀i,i<ops.size→listed.getD i false=true:=by
    intro listed hsz hr i
    induction i using Nat.strongRecOn with
    |_ i ih=>
     intro hi
     cases hc:listed.getD i false with
     |true=>rfl
     |false=>
      have:i∈Region.ready .any ops listed:=(ready listed i hsz).2 ⟨hi,hc,fun o e ho he hb=>by
        have hon:=hback' i o e ho he hb
        exact ih e.on hon (by omega)⟩
      rw[hr]at this
      cases this
  have fin:∀(fuel:Nat) (listed:Array Bool) (a:Act) (w:World),listed.size=ops.size→(∀s,sp=some s→listed.getD s false=false)→(∀i,i<v7_ ops→listed.getD i false=true)→(∀i,v7_ ops≤i→listed.getD i false=false)→ops.size-v7_ ops≤fuel→a.tmps.size=fr.length→
     (∀t,VR P w ι true (r2_ fr ops V (fun i=>listed.getD i false) ops.size t) (a.tmps.getD t undef))→HpRel P w ι hp→Ext w0 ι w ι→a.defers=[]→wpAny P .any ops Q fuel listed a w:=by
    intro fuel listed a w hsz hsp hall hno hf hlen hrel hh hext hdf
    have hsn:sp=none:=by
      cases hc:sp with
      |none=>rfl
      |some s=>
       have h1:=hsp s hc
       rw[hall s (hSp s hc).1]at h1
       cases h1
    obtain⟨l1,l2⟩:=hlex.slot (v7_ ops) (Nat.le_refl _)
    rw[hlex.last]at l1 l2
    refine tail_ok hKp hback' ready _ (v7_ ops) listed a w fuel rfl (Nat.le_refl _) hle hf hsz (fun i hi=>?_) (hQ hsn a w ⟨⟨by simp only[l1];exact hlen.symm,fun t=>?_⟩,hh,hdf⟩ hext)
    ·by_cases h:i<v7_ ops
     ·rw[hall i h];simp[h]
     ·rw[hno i (by omega)];simp[h]
    ·rw[l2 t,e9_ (L':=fun i=>listed.getD i false) (fun i o hi _ _=>(hall i hi).symm)]
     have:=hrel t
     rw[slotAt_past hle (fun j o' h1 h2 ho' hLj=>by have hLj:listed.getD j false=true:=hLj;rw[hno j h1]at hLj;cases hLj)]at this
     exact this
  intro fuel
  induction fuel with
  |zero=>
   intro listed a w hsz hdown hno hun hsp hcnt hlen hrel hh hext hdf
   have hall:∀i,i<v7_ ops→listed.getD i false=true:=by
     intro i hi
     cases hc:listed.getD i false with
     |true=>rfl
     |false=>
      have:i∈(List.range (v7_ ops)).filter fun i=> !listed.getD i false:=by simp only[List.mem_filter,List.mem_range,hi,hc];simp
      have:=List.length_pos_of_mem this
      omega
   exact fin 0 listed a w hsz hsp hall hno (by omega) hlen hrel hh hext hdf
  |succ fuel ih=>
   intro listed a w hsz hdown hno hun hsp hcnt hlen hrel hh hext hdf
   by_cases hall:∀i,i<v7_ ops→listed.getD i false=true
   ·exact fin (fuel+1) listed a w hsz hsp hall hno (by omega) hlen hrel hh hext hdf
   have⟨i0,hi0,hn0⟩:∃i,i<v7_ ops∧listed.getD i false=false:=by
     apply Classical.byContradiction
     intro hne
     refine hall fun i hi=>?_
     cases hc:listed.getD i false with
     |true=>rfl
     |false=>exact absurd ⟨i,hi,hc⟩ hne
   refine⟨fun hr=>(by have:=done listed hsz hr i0 (by omega);rw[hn0]at this;cases this),fun i hi=>?_⟩
   obtain⟨hin,hnl,hpre⟩:=(ready listed i hsz).1 hi
   have ho:ops[i]? =some ops[i]:=by simp[hin]
   have hiK:i<v7_ ops:=by
     rcases Nat.lt_or_ge i (v7_ ops)with h|h
     ·exact h
     ·have:=hdown.pred (hKp i i0 h (by omega) hin) hpre
      have this:listed.getD i0 false=true:=this
      rw[hn0]at this;cases this
   have hpred:∀x,PredOf ops i x→listed.getD x false=true:=fun x hx=>hdown.pred hx hpre
   have hset:∀k,(listed.setIfInBounds i true).getD k false=if k=i then true else listed.getD k false:=by
     intro k
     by_cases hk:k=i
     ·subst hk
      simp[Array.getD,show k<listed.size by omega]
     ·by_cases hkl:k<listed.size
      ·simp[Array.getD,hkl,Ne.symm hk,hk]
      ·simp[Array.getD,hkl,hk]
   have hcnt2:((List.range (v7_ ops)).filter fun k=> !(listed.setIfInBounds i true).getD k false).length+(ops.size-v7_ ops)≤fuel:=by
     have hmem:i∈(List.range (v7_ ops)).filter fun i=> !listed.getD i false:=by simp only[List.mem_filter,List.mem_range,hiK,hnl];simp
     have hlt:((List.range (v7_ ops)).filter fun k=> !(listed.setIfInBounds i true).getD k false).length<((List.range (v7_ ops)).filter fun i=> !listed.getD i false).length:=by
       have e1:((List.range (v7_ ops)).filter fun k=> !(listed.setIfInBounds i true).getD k false)=((List.range (v7_ ops)).filter fun i=> !listed.getD i false).filter fun k=>k !=i:=by
         rw[List.filter_filter]
         congr 1
         funext k
         rw[hset]
         by_cases hk:k=i
         ·subst hk;simp
         ·simp[hk]
       rw[e1]
       refine List.length_filter_lt_length_iff_exists.2 ⟨i,hmem,by simp⟩
     omega
   obtain⟨l1,l2⟩:=hlex.slot i (by omega)
   have later:∀j o',i<j→j<ops.size→ops[j]? =some o'→listed.getD j false=true→(ops[i]).apart ops o'=true:=by
     intro j o' hij hj ho' hLj
     rcases apart i j _ o' hij hj ho ho' with h|h
     ·have:=hdown.pred h (fun o e h1 h2 h3=>hdown j o e hLj h1 h2 h3)
      exact absurd (show listed.getD i false=true from this) (by rw[hnl];simp)
     ·exact h
   have look:∀t,t∈(ops[i]).looksAt ops→VR P w ι true ((F i).getD t .any) (a.tmps.getD t undef):=by
     intro t ht
     have e1:r2_ fr ops V (fun i=>listed.getD i false) ops.size t=r2_ fr ops V (fun i=>listed.getD i false) i t:=
       slotAt_past (by omega) fun j o' h1 h2 ho' hLj hd=>by
         by_cases hji:j=i
         ·subst hji;exact absurd (show listed.getD j false=true from hLj) (by rw[hnl];simp)
         ·exact(Oper.apart_spec (later j o' (by omega) h2 ho' hLj)).2.2 t hd ht
     have e2:r2_ fr ops V (fun i=>listed.getD i false) i t=r2_ fr ops V (fun _=>true) i t:=
       e9_ fun j o' hj ho' hd=>by
         rcases apart j i o' _ hj hin ho' ho with h|h
         ·exact hpred j h
         ·exact absurd ht ((Oper.apart_spec h).1 t hd)
     have:=hrel t
     rw[e1,e2]at this
     rw[l2 t]
     exact this
   have hops:∀x∈(ops[i]).op.operands,VR P w ι true (aEv (F i) x) (a.eval x):=by
     intro x hx
     cases x with
     |tmp t=>
      show VR P w ι true (getL (F i) t) _
      rw[getL_eq]
      refine look t ?_
      unfold Oper.looksAt
      exact List.mem_append_left _ (List.mem_filterMap.2 ⟨.tmp t,by simpa using hx,rfl⟩)
     |const v=>exact .c
     |global g=>exact gEv_ok hh g
     |func f=>exact .c
   by_cases hspi:sp=some i
   ·exact(hSp i hspi).2 fuel listed a w hsz hdown hno hnl hpred (fun o ho'=>by rw[ho]at ho';cases ho';exact hops) hcnt2 hlen hrel hh hext hdf
   have hstep:=hstep0 i _ hiK ((hun i hiK hnl).resolve_right hspi) ho
   have hguard:∀j d want,(ops[i]).guard=some (j,want)→(ops[j]?).bind (·.dst)=some d→VR P w ι true ((F i).getD d .any) (a.tmps.getD d undef):=by
     intro j d want hg hd
     refine look d ?_
     unfold Oper.looksAt
     refine List.mem_append_right _ ?_
     simp[hg,hd]
   have next:∀v w',VR P w' ι true (V i) v→Ext w ι w' ι→HpRel P w' ι hp→wpAny P .any ops Q fuel (listed.setIfInBounds i true) (a.put (ops[i]).dst v) w':=by
     intro v w' hv hext' hh'
     refine ih _ _ _ (by simp[hsz]) ?_ ?_ ?_ ?_ hcnt2 ?_ ?_ hh' (hext.trans hext') ?_
     ·intro j o e hj ho' he hb
      have hj:(listed.setIfInBounds i true).getD j false=true:=hj
      show(listed.setIfInBounds i true).getD e.on false=true
      rw[hset]at hj ⊢
      split
      ·rfl
      ·split at hj
       ·rename_i hji
        subst hji
        exact hpre o e ho' he hb
       ·exact hdown j o e hj ho' he hb
     ·intro k hk
      rw[hset,if_neg (by omega)]
      exact hno k hk
     ·intro k hk hkn
      rw[hset]at hkn
      split at hkn
      ·cases hkn
      ·exact hun k hk hkn
     ·intro s hs
      rw[hset,if_neg (by rintro rfl;exact hspi hs)]
      exact hsp s hs
     ·cases (ops[i]).dst<;>simp[Act.put,hlen]
     ·intro t
      rw[slotAt_add (L:=fun i=>listed.getD i false) ho hin (by simp only[hset];simp) (fun j hj=>by simp only[hset,hj,if_false]) (fun j o' hij hj ho' hLj hd=>by
        have hap:=Oper.apart_spec (later j o' hij hj ho' hLj)
        cases hdd:(ops[i]).dst with
        |none=>rfl
        |some d=>exact absurd (hd.trans hdd) (hap.2.1 d hdd))]
      have e:(a.put (ops[i]).dst v).tmps.getD t undef=if(ops[i]).dst=some t∧t<fr.length then v else a.tmps.getD t undef:=by
        cases hdd:(ops[i]).dst with
        |none=>simp[Act.put]
        |some d=>
         simp only[Act.put,Option.some.injEq]
         rw[setA_getD,hlen]
      rw[e]
      split
      ·exact hv
      ·exact(hrel t).mono hext'
     ·cases (ops[i]).dst<;>exact hdf
   unfold wpOp
   rw[ho]
   simp only
   rcases hstep with⟨hw,q,hq,hqq⟩|⟨hw,hV⟩
   ·rw[if_pos (want_ok hguard hw)]
    exact .inl (doOpQ_ok hcl hh hops hq hqq fun v w' hv hext' hh'=>next v w' hv hext' hh')
   ·rw[if_neg (by rw[want_ok hguard hw];simp)]
    refine next undef w ?_ (Ext.refl _ _) hh
    rw[hV]
    exact .c
omit [Gv]in
theorem float_op {hs:Hints}{o:Oper}(h:floatOk o=true)(ev:Operand→AV):∃r:Option Res,(∀hp,e5_ P hs ev hp o=r)∧∀k v c,r=some (k,v,c)→c= .nop:=by
  obtain⟨dst,op,ty,pos,after,guard⟩:=o
  unfold floatOk at h
  rw[Bool.and_eq_true]at h
  obtain⟨_,h⟩:=h
  have fb:∀(o:Oper) k v c,o9_ P ev o=some (k,v,c)→c= .nop:=by
    intro o k v c hr
    unfold o9_ at hr
    (repeat' split at hr)<;>first|(simp at hr;done)|(simp only[oi_]at hr;exact hr.2.2.symm)
  have bin:∀(op:BinOp) t x y z k v c,(op= .add∨op= .sub∨op= .mul)→e5_ P hs ev [] ⟨dst,.binOp op t x y z,ty,pos,after,guard⟩=some (k,v,c)→c= .nop:=by
    intro op t x y z k v c hop hr
    simp only[e5_]at hr
    split at hr
    ·unfold divA at hr
     rcases hop with rfl|rfl|rfl<;>((repeat' split at hr)<;>simp_all)
    ·have plain:e4_ P ev [] ⟨dst,.binOp op t x y z,ty,pos,after,guard⟩=some (k,v,c)→c= .nop:=by
       intro hr
       simp only[e4_,aOp2,aOp]at hr
       split at hr
       ·rename_i h2
        split at h2
        ·rcases hop with rfl|rfl|rfl<;>simp at h2
        ·simp at h2
       ·(repeat' split at hr)<;>first|(simp at hr;done)|(simp only[oi_]at hr;exact hr.2.2.symm)|exact fb _ _ _ _ hr
     simp only[aOpS0]at hr
     (repeat' split at hr)<;>first|exact plain hr|(simp at hr;done)|(simp only[oi_]at hr;exact hr.2.2.symm)
  split at h
  ·rename_i x heq
   simp only at heq;subst heq
   refine⟨e5_ P hs ev [] ⟨dst,.move x,ty,pos,after,guard⟩,fun hp=>?_,fun k v c hr=>?_⟩
   ·simp only[e5_,aOpS0,e4_,aOp2,aOp]
   ·simp only[e5_,aOpS0,e4_,aOp2,aOp,ite_self,Option.some.injEq,Prod.mk.injEq]at hr
    exact hr.2.2.symm
  ·rename_i x heq
   simp only at heq;subst heq
   refine⟨e5_ P hs ev [] ⟨dst,.assign x,ty,pos,after,guard⟩,fun hp=>?_,fun k v c hr=>?_⟩
   ·simp only[e5_,aOpS0,e4_,aOp2,aOp]
   ·simp only[e5_,aOpS0,e4_,aOp2,aOp,ite_self,Option.some.injEq,Prod.mk.injEq]at hr
    exact hr.2.2.symm
  ·rename_i t x y z heq
   simp only at heq;subst heq
   exact⟨e5_ P hs ev [] ⟨dst,.binOp .add t x y z,ty,pos,after,guard⟩,fun hp=>rfl,fun k v c hr=>bin .add t x y z k v c (by simp) hr⟩
  ·rename_i t x y z heq
   simp only at heq;subst heq
   exact⟨e5_ P hs ev [] ⟨dst,.binOp .sub t x y z,ty,pos,after,guard⟩,fun hp=>rfl,fun k v c hr=>bin .sub t x y z k v c (by simp) hr⟩
  ·rename_i t x y z heq
   simp only at heq;subst heq
   exact⟨e5_ P hs ev [] ⟨dst,.binOp .mul t x y z,ty,pos,after,guard⟩,fun hp=>rfl,fun k v c hr=>bin .mul t x y z k v c (by simp) hr⟩
  ·simp at h
theorem float_same {cl:CallT}{hs:Hints}{fr:List AV}{o:Oper}(h:floatOk o=true)(hp hp':Heap):doOpQ P cl hs hp fr o=doOpQ P cl hs hp' fr o:=by
  obtain⟨r,h1,h2⟩:=float_op (P:=P) (hs:=hs) h (aEv fr)
  unfold doOpQ
  split
  ·rename_i ho
   unfold floatOk at h
   rw[ho]at h
   simp at h
  ·rw[h1 hp,h1 hp']
   cases r with
   |none=>rfl
   |some x=>
    obtain⟨k,v,c⟩:=x
    obtain rfl:=h2 k v c rfl
    simp only
    cases hu:useHint hs.sym (j6_ hs (hkey o)) (k,v,Cmd.nop)with
    |none=>rfl
    |some y=>
     obtain⟨v',c',p'⟩:=y
     have hc:c'= .nop:=by
       unfold useHint at hu
       (repeat' split at hu)<;>first|(simp at hu;done)|(simp only[oi_]at hu;rw[←hu.2.1];try rfl)
     subst hc
     rfl
end Go.Proofs.YtmjldphagbobpaaDoor
namespace Go.Proofs.YtmjldphagbobpaaDoor
open IntKind (i64 u8 i32 u32 u64)
open Go.RowKit
variable {P:Program}
structure Ext0 (w:World) (ι:Pl) (w':World) (ι':Pl):Prop where
  os:w'.os=w.os
  tape:w'.tape=w.tape
  output:w'.output=w.output
  size:w.heap.size≤w'.heap.size
  hid:ι'.hid=ι.hid
  hkeep:∀g,g<w.heap.size→ι.hid g→w'.heap[g]? =w.heap[g]?
  blk:∀g,g<w.heap.size→ι.un g→w'.heap[g]? =w.heap[g]? ∧ι'.un g
theorem Ext.weak {w w':World}{ι ι':Pl}(h:Ext w ι w' ι'):Ext0 w ι w' ι':=⟨h.os,h.tape,h.output,h.size,h.hid,h.hkeep,h.blk⟩
theorem Ext0.trans {w w' w'':World}{ι ι' ι'':Pl}(h:Ext0 w ι w' ι')(k:Ext0 w' ι' w'' ι''):Ext0 w ι w'' ι'':=
  ⟨k.os.trans h.os,k.tape.trans h.tape,k.output.trans h.output,Nat.le_trans h.size k.size,k.hid.trans h.hid,
    fun g hg hh=>(k.hkeep g (Nat.lt_of_lt_of_le hg h.size) (by rw[h.hid];exact hh)).trans (h.hkeep g hg hh),
    fun g hg hn=>by
      obtain⟨e1,n1⟩:=h.blk g hg hn
      obtain⟨e2,n2⟩:=k.blk g (Nat.lt_of_lt_of_le hg h.size) n1
      exact⟨e2.trans e1,n2⟩⟩
theorem Ext0.refl (w:World)(ι:Pl):Ext0 w ι w ι:=(Ext.refl w ι).weak
abbrev Rl:=World→Pl→World→Pl→Prop
structure RlOK (X:Rl):Prop where
  of:∀{w ι w' ι'},Ext w ι w' ι'→X w ι w' ι'
  trans:∀{w ι w' ι' w'' ι''},X w ι w' ι'→X w' ι' w'' ι''→X w ι w'' ι''
theorem rlExt:RlOK Ext:=⟨id,Ext.trans⟩
theorem rlExt0:RlOK Ext0:=⟨Ext.weak,Ext0.trans⟩
variable [Gv]
def Tri (X:Rl)(P:Program)(code:Code)(S:St)(e:Exit)(S':St):Prop:=
  ∀w ι a Q,StRel P w ι S a→(∀a' w' ι',StRel P w' ι' S' a'→X w ι w' ι'→Q e a' w')→code.wp P Q a w
theorem want_st {w:World}{ι:Pl}{S:St}{a:Act}{ops:Array Oper}{o:Oper}{b:Bool}(h:StRel P w ι S a)(hw:i7_ ops S.fr o=some b):Region.wanted o (yielded ops a.tmps)=b:=
  want_ok (fun _ d _ _ _=>h.fr.rel d) hw
theorem aOps_mono {cl:CallT}{hs:Hints}{ops:Array Oper} :∀(l:List Oper) (S S':St) (p0 p:List Prop),f0_ P cl hs ops l S p0=some (S',p)→z7_ p→z7_ p0
  | [],S,S',p0,p,h,hp'=>by
    simp only[f0_,Option.some.injEq,Prod.mk.injEq]at h
    rw[h.2];exact hp'
  |o::r,S,S',p0,p,h,hp'=>by
   simp only[f0_]at h
   split at h
   ·split at h
    ·exact(u5_ (aOps_mono r _ _ _ _ h hp')).1
    ·simp at h
   ·exact aOps_mono r _ _ _ _ h hp'
   ·simp at h
theorem aOps_ok {X:Rl}(hX:RlOK X){cl:CallT}(hcl:x7_ P cl){hs:Hints}{ops:Array Oper}{Q:Exit→Act→World→Prop} :∀(l:List Oper) (S S':St) (p0 p:List Prop) (w:World) (ι:Pl) (a:Act),
    f0_ P cl hs ops l S p0=some (S',p)→z7_ p→StRel P w ι S a→(∀a' w' ι',StRel P w' ι' S' a'→X w ι w' ι'→Q .normal a' w')→wpList P ops Q l a w
  | [],S,S',p0,p,w,ι,a,h,hp',hS,hQ=>by
    simp only[f0_,Option.some.injEq,Prod.mk.injEq]at h
    obtain⟨rfl,rfl⟩:=h
    exact hQ a w ι hS (hX.of (Ext.refl _ _))
  |o::r,S,S',p0,p,w,ι,a,h,hp',hS,hQ=>by
   simp only[f0_]at h
   unfold wpList
   split at h
   ·rename_i hw
    split at h
    ·rename_i S1 q hq
     rw[if_pos (want_st hS hw)]
     exact .inl (doOp_ok hcl hS hq (u5_ (aOps_mono r _ _ _ _ h hp')).2 fun a' w' ι' hS' hext=>aOps_ok hX hcl r S1 S' _ p w' ι' a' h hp' hS' fun a2 w2 ι2 h2 e2=>hQ a2 w2 ι2 h2 (hX.trans (hX.of hext) e2))
    ·simp at h
   ·rename_i hw
    rw[if_neg (by rw[want_st hS hw];simp)]
    exact aOps_ok hX hcl r _ S' _ p w ι _ h hp' (hS.put (show VR P w ι true uAV undef from .c) o.dst) hQ
   ·simp at h
omit [Gv]in
theorem list_none {ops:Array Oper} :(∀k,(Array.replicate ops.size false).getD k false=false):=by
  intro k
  by_cases hlt:k<ops.size<;>simp[Array.getD,hlt]
theorem draws_ok {X:Rl}(hX:RlOK X)(hm:P.follows .mixedOrders=true){cl:CallT}(hcl:x7_ P cl){hs:Hints}{id:Nat}{ops:Array Oper}{S S':St}{fr':List AV}{p1 p:List Prop}(hok:drawOk ops=true)
    (h:aOpsQ P cl hs ops S.hp (ops.toList.take (cutN ops)) S.fr []=some (fr',p1)) (h2:f0_ P cl hs ops (ops.toList.drop (cutN ops)) ⟨fr',S.hp⟩ p1=some (S',p)) (hp':z7_ p):
    Tri X P (.region id ops true) S .normal S':=by
  intro w ι a Q hS hQ
  have hle:v7_ ops≤ops.size:=by unfold v7_;omega
  obtain⟨F,V,f1,f2,f3⟩:=aOpsQ_lex _ _ _ _ _ h (aOps_mono _ _ _ _ _ h2 hp')
  refine wp_region_any hm ?_
  have e0:=Ext.drew w ι
  have hslot:∀(V:Nat→AV) t,r2_ S.fr ops V (fun i=>(Array.replicate ops.size false).getD i false) ops.size t=S.fr.getD t .any:=by
    intro V t
    have gen:∀k,r2_ S.fr ops V (fun i=>(Array.replicate ops.size false).getD i false) k t=S.fr.getD t .any:=by
      intro k
      induction k with
      |zero=>rfl
      |succ k ih=>
       simp only[r2_]
       split
       ·rw[if_neg (by rintro⟨hL,_⟩;rw[list_none]at hL;cases hL)]
        exact ih
       ·exact ih
    exact gen _
  have hcnt:((List.range (v7_ ops)).filter fun i=> !(Array.replicate ops.size false).getD i false).length+(ops.size-v7_ ops)≤ops.size:=by
    have:=List.length_filter_le (fun i=> !(Array.replicate ops.size false).getD i false) (List.range (v7_ ops))
    simp only[List.length_range]at this
    omega
  by_cases hmid:midOk ops (v7_ ops-1)=true∧v7_ ops≠0
  ·obtain⟨hmid,hne⟩:=hmid
   obtain⟨s,hs1⟩:∃s,v7_ ops=s+1:=⟨v7_ ops-1,by omega⟩
   have hcut:cutN ops=s:=by unfold cutN;rw[if_pos hmid];omega
   rw[hcut]at h h2 f2 f3
   have hss:s<ops.size:=by omega
   have hlen:(ops.toList.take s).length=s:=by simp;omega
   rw[hlen]at f2
   have ho:ops[s]? =some ops[s]:=by simp[hss]
   rw[hs1,Nat.add_sub_cancel]at hmid
   unfold midOk at hmid
   rw[ho]at hmid
   simp only[Bool.and_eq_true,List.all_eq_true,List.mem_range,Bool.or_eq_true,List.contains_iff_mem,Option.isNone_iff_eq_none]at hmid
   obtain⟨⟨⟨hdst,hgd⟩,hst⟩,hfl⟩:=hmid
   have preds:∀j x,x∈(d8_ ops.toList []).getD j []→PredOf ops j x:=predsGo_spec ops.toList [] (by simp) (by intro j x hx;simp at hx)
   rw[List.drop_eq_getElem_cons (by simpa using hss)]at h2
   have e1:ops.toList[s]=ops[s]:=by simp
   rw[e1]at h2
   simp only[f0_]at h2
   have hw:i7_ ops fr' ops[s]=some true:=by unfold i7_;rw[hgd]
   rw[hw]at h2
   simp only at h2
   split at h2
   ·rename_i S1 q1 hd1
    have hq1:=(u5_ (aOps_mono _ _ _ _ _ h2 hp')).2
    have hstore:∃t x y,ops[s].op= .store t x y:=by
      revert hst
      cases ops[s].op<;>simp
    obtain⟨ty,xa,xb,hop⟩:=hstore
    unfold doOp at hd1
    rw[hop]at hd1
    simp only at hd1
    split at hd1
    ·rename_i r hr
     split at hd1
     ·rename_i v cmd q hu
      simp only[oi_]at hd1
      obtain⟨rfl,rfl⟩:=hd1
      obtain⟨c1,c2,c3⟩:=useHint_ok hu hq1
      obtain⟨cks,av,cmd'⟩:=r
      simp only at c1 c2 c3
      subst c2;subst c3
      have hS1:(St.put { fr:=fr',hp:=cmd.run S.hp} ops[s].dst v)=⟨fr',cmd.run S.hp⟩:=by rw[hdst];rfl
      have hS1:(St.put { ({ fr:=fr',hp:=S.hp} :St)with hp:=cmd.run S.hp} ops[s].dst v)=⟨fr',cmd.run S.hp⟩:=hS1
      rw[hS1]at h2
      have hF':LexF ops (v7_ ops) S.fr fr' (fun i=>F (min i s)) (fun i=>if i<s then V i else .any):=by
        refine⟨hle,?_,?_,fun i o hi ho'=>?_⟩
        ·show F (min 0 s)=S.fr
         rw[Nat.zero_min];exact f1
        ·show F (min (v7_ ops) s)=fr'
         rw[hs1,Nat.min_eq_right (by omega)];exact f2
        ·by_cases his:i<s
         ·have:=(f3 i o (by rw[List.getElem?_take_of_lt his];simpa using ho')).2
          show F (min (i+1) s)=(St.put ⟨F (min i s),[]⟩ o.dst (if i<s then V i else .any)).fr
          rw[if_pos his,Nat.min_eq_left (by omega),Nat.min_eq_left (by omega),this]
          exact putFr _ _ _ _ _
         ·have:i=s:=by omega
          subst this
          rw[ho]at ho';cases ho'
          show F (min (i+1) i)=(St.put ⟨F (min i i),[]⟩ ops[i].dst _).fr
          rw[hdst,Nat.min_eq_right (by omega),Nat.min_self]
          rfl
      have hAt:∀i o,i<s→ops[i]? =some o→LexAt P cl hs ops S.hp (fun i=>F (min i s)) (fun i=>if i<s then V i else .any) i o:=by
        intro i o his ho'
        have:=(f3 i o (by rw[List.getElem?_take_of_lt his];simpa using ho')).1
        show(i7_ ops (F (min i s)) o=some true∧∃q,doOpQ P cl hs S.hp (F (min i s)) o=some ((if i<s then V i else .any),q)∧z7_ q)∨(i7_ ops (F (min i s)) o=some false∧(if i<s then V i else .any)=uAV)
        rw[if_pos his,Nat.min_eq_left (by omega)]
        exact this
      refine orders_ok (hs:=hs) hcl hF' (fun i=>i<s) (some s) (fun i o _ hi ho'=>hAt i o hi ho') hok (w0:=w.drew) (ι:=ι) (fun hc=>by cases hc) ?_ ops.size _ a w.drew (by simp) ?_ (fun i _=>list_none i) (fun i hi _=>?_) (fun s _=>list_none s) hcnt hS.fr.len.symm ?_ ?_ (Ext.refl _ _) hS.df
      ·intro s' hs'
       cases hs'
       refine⟨by omega,fun fuel listed a w1 hsz hdown hno hnl hpre hops hcnt2 hlen2 hrel hh hext hdf=>?_⟩
       have hops:=hops _ ho
       have hFs:F (min s s)=fr':=by rw[Nat.min_self];exact f2
       have hops:∀x∈ops[s].op.operands,VR P w1 ι true (aEv fr' x) (a.eval x):=fun x hx=>by have:=hops x hx;rw[hFs]at this;exact this
       unfold wpOp
       rw[ho]
       simp only
       rw[if_pos (by rw[show Region.wanted ops[s] (yielded ops a.tmps)=true by unfold Region.wanted;rw[hgd]])]
       refine .inl ?_
       obtain⟨n,w',ι',v',hrun,hn,hext',hh',hv,_⟩:=opS_ok hops hh hr c1
       unfold Oper.wp
       rw[hrun]
       have hset:∀k,(listed.setIfInBounds s true).getD k false=if k=s then true else listed.getD k false:=by
         intro k
         by_cases hk:k=s
         ·subst hk
          simp[Array.getD,show k<listed.size by omega]
         ·by_cases hkl:k<listed.size
          ·simp[Array.getD,hkl,Ne.symm hk,hk]
          ·simp[Array.getD,hkl,hk]
       have fin:wpAny P .any ops Q fuel (listed.setIfInBounds s true) (a.put ops[s].dst v') w':=by
         rw[hdst]
         show wpAny P .any ops Q fuel (listed.setIfInBounds s true) a w'
         refine orders_ok (hp:=cmd.run S.hp) (hs:=hs) hcl hF' (fun i=>i<s∧∀o,ops[i]? =some o→floatOk o=true) none (fun i o _ hi ho'=>?_) hok (w0:=w') (ι:=ι') (fun _ a2 w2 hS2 e2=>?_) (fun s hc=>by cases hc) fuel _ a w' (by simp[hsz]) ?_ ?_ ?_ (fun s hc=>by cases hc) hcnt2 hlen2 ?_ hh' (Ext.refl _ _) hdf
         ·rcases hAt i o hi.1 ho' with⟨k1,q,k2,k3⟩|k
          ·exact .inl ⟨k1,q,by rw[float_same (hi.2 o ho') _ S.hp];exact k2,k3⟩
          ·exact .inr k
         ·rw[hs1]
          exact aOps_ok hX hcl _ _ S' _ p w2 ι' a2 h2 hp' hS2 fun a3 w3 ι3 h3 e3=>hQ a3 w3 ι3 h3 (hX.trans (hX.of (((e0.trans hext).trans hext').trans e2)) e3)
         ·intro j o e hj hoj he hb
          have hj:(listed.setIfInBounds s true).getD j false=true:=hj
          show(listed.setIfInBounds s true).getD e.on false=true
          rw[hset]at hj ⊢
          split
          ·rfl
          ·split at hj
           ·rename_i hji
            subst hji
            exact hpre _ (.edge hoj he hb)
           ·exact hdown j o e hj hoj he hb
         ·intro k hk
          rw[hset,if_neg (by omega)]
          exact hno k hk
         ·intro k hk hkn
          rw[hset]at hkn
          split at hkn
          ·cases hkn
          ·refine .inl ⟨by omega,fun o hok'=>?_⟩
           have hks:k<s:=by omega
           rcases hfl k hks with h|h
           ·have:=hpre k (preds s k h)
            rw[hkn]at this;cases this
           ·rw[hok']at h
            exact h
         ·intro t
          rw[e9_ (L':=fun i=>listed.getD i false) (fun j o hj hoj hd=>by
            show(listed.setIfInBounds s true).getD j false=listed.getD j false
            rw[hset,if_neg (by rintro rfl;rw[ho]at hoj;cases hoj;rw[hdst]at hd;cases hd)])]
          exact(hrel t).mono hext'
       rcases hn with rfl|⟨rfl,rfl⟩
       ·rw[Oper.upon_value];exact fin
       ·rw[Oper.upon_skip];exact fin
      ·intro j o e hj
       have hj:(Array.replicate ops.size false).getD j false=true:=hj
       rw[list_none]at hj;cases hj
      ·by_cases his:i<s
       ·exact .inl his
       ·exact .inr (by rw[show i=s by omega])
      ·intro t
       rw[hslot]
       exact(hS.fr.rel t).mono e0
      ·exact(HpRel.ext (w':=w.drew) hS.hp rfl rfl rfl (Nat.le_refl _) (fun _ _=>rfl)).2
     ·simp at hd1
    ·simp at hd1
   ·simp at h2
  ·have hcut:cutN ops=v7_ ops:=by
     unfold cutN
     split
     ·rename_i hc
      have:v7_ ops=0:=by
        apply Classical.byContradiction
        intro hne
        exact hmid ⟨hc,hne⟩
      omega
     ·rfl
   rw[hcut]at h h2 f2 f3
   have hlen:(ops.toList.take (v7_ ops)).length=v7_ ops:=by simp;omega
   rw[hlen]at f2
   have f3':∀i o,i<v7_ ops→ops[i]? =some o→_:=fun i o hi ho=>f3 i o (by rw[List.getElem?_take_of_lt hi];simpa using ho)
   have hlex:LexF ops (v7_ ops) S.fr fr' F V:=⟨hle,f1,f2,fun i o hi ho=>(f3' i o hi ho).2.trans (putFr _ _ _ _ _)⟩
   refine orders_ok (hs:=hs) hcl hlex (fun _=>True) none (fun i o hi _ ho=>(f3' i o hi ho).1) hok (w0:=w.drew) (ι:=ι) (fun _ a' w' hS' hext=>aOps_ok hX hcl _ _ S' p1 p w' ι a' h2 hp' hS' fun a2 w2 ι2 hS2 e2=>hQ a2 w2 ι2 hS2 (hX.trans (hX.of (e0.trans hext)) e2)) (fun s hc=>by cases hc) ops.size _ a w.drew (by simp) ?_ (fun i _=>list_none i) (fun i _ _=> .inl trivial) (fun s hc=>by cases hc) hcnt hS.fr.len.symm ?_ ?_ (Ext.refl _ _) hS.df
   ·intro j o e hj
    have hj:(Array.replicate ops.size false).getD j false=true:=hj
    rw[list_none]at hj;cases hj
   ·intro t
    rw[hslot]
    exact(hS.fr.rel t).mono e0
   ·exact(HpRel.ext (w':=w.drew) hS.hp rfl rfl rfl (Nat.le_refl _) (fun _ _=>rfl)).2
def q3_ (X:Rl)(P:Program)(lp:Nat→Option Lp):Prop:=∀k L,lp k=some L→∀w ι a Q S,StRel P w ι S a→L.fi.app S=L.E→(∀a' w' ι',StRel P w' ι' L.R a'→X w ι w' ι'→Q L.e a' w')→(Code.loop L.body).wp P Q a w
theorem aCode_ok {X:Rl}(hX:RlOK X)(hm:P.follows .mixedOrders=true){cl:CallT}(hcl:x7_ P cl){hs:Hints}{lp:Nat→Option Lp}(hlp:q3_ X P lp):∀(n:Nat) (code:Code) (S S':St) (e:Exit) (p:List Prop),
    o6_ P cl hs lp n code S=some (e,S',p)→z7_ p→Tri X P code S e S'∧
      ∀b,code= .loop b→(Code.rid b).bind lp=none→∃N,∀w ι a Q,StRel P w ι S a→(∀a' w' ι',StRel P w' ι' S' a'→X w ι w' ι'→Q e a' w')→Code.rounds P b Q N a w:=by
  intro n
  induction n with
  |zero=>intro code S S' e p h;simp[o6_]at h
  |succ n ih=>
   intro code S S' e p h hp'
   have plain:Tri X P code S e S'→(∀b,code≠ .loop b)→Tri X P code S e S'∧∀b,code= .loop b→(Code.rid b).bind lp=none→∃N,∀w ι a Q,StRel P w ι S a→(∀a' w' ι',StRel P w' ι' S' a'→X w ι w' ι'→Q e a' w')→Code.rounds P b Q N a w:=
     fun ht hn=>⟨ht,fun b hb=>absurd hb (hn b)⟩
   unfold o6_ at h
   split at h
   ·
     simp only[oi_]at h
     obtain⟨rfl,rfl,rfl⟩:=h
     exact plain (fun w ι a Q hS hQ=>wp_skip (hQ a w ι hS (hX.of (Ext.refl _ _)))) (by simp)
   ·
     split at h
     ·rename_i S1 q hq
      simp only[oi_]at h
      obtain⟨rfl,rfl,rfl⟩:=h
      exact plain (fun w ι a Q hS hQ=>wp_region_list (aOps_ok hX hcl _ S S1 [] q w ι a hq hp' hS hQ)) (by simp)
     ·simp at h
   ·
     split at h
     ·rename_i hok
      split at h
      ·rename_i fr q hq
       split at h
       ·rename_i S1 q1 hq1
        simp only[oi_]at h
        obtain⟨rfl,rfl,rfl⟩:=h
        exact plain (draws_ok hX hm hcl hok hq hq1 hp') (by simp)
       ·simp at h
      ·simp at h
     ·simp at h
   ·
     rename_i x y
     refine plain ?_ (by simp)
     intro w ι a Q hS hQ
     refine wp_seq ?_
     split at h
     ·rename_i S1 q1 h1
      split at h
      ·rename_i e2 S2 q2 h2
       simp only[oi_]at h
       obtain⟨rfl,rfl,rfl⟩:=h
       refine(ih x S S1 .normal q1 h1 (u5_ hp').1).1 w ι a _ hS fun a1 w1 ι1 hS1 e1=>?_
       exact(ih y S1 S2 e2 q2 h2 (u5_ hp').2).1 w1 ι1 a1 Q hS1 fun a2 w2 ι2 hS2 e2'=>hQ a2 w2 ι2 hS2 (hX.trans e1 e2')
      ·simp at h
     ·rename_i r hne
      refine(ih x S S' e p h hp').1 w ι a _ hS fun a1 w1 ι1 hS1 e1=>?_
      have:=hQ a1 w1 ι1 hS1 e1
      cases e with
      |normal=>exact absurd h (hne S' p)
      |_=>exact this
   ·
     rename_i c x y
     refine plain ?_ (by simp)
     intro w ι a Q hS hQ
     have hc:=hS.ev c
     split at h
     ·rename_i hb
      rw[hb]at hc
      exact wp_cond_true hc.cInv ((ih x S S' e p h hp').1 w ι a Q hS hQ)
     ·rename_i hb
      rw[hb]at hc
      exact wp_cond_false hc.cInv ((ih y S S' e p h hp').1 w ι a Q hS hQ)
     ·simp at h
   ·
     rename_i id b
     refine plain ?_ (by simp)
     intro w ι a Q hS hQ
     refine wp_block ?_
     split at h
     ·rename_i id' S1 q1 h1
      split at h
      ·rename_i hid
       simp only[oi_]at h
       obtain⟨rfl,rfl,rfl⟩:=h
       refine(ih b S S1 (.exit id') q1 h1 hp').1 w ι a _ hS fun a1 w1 ι1 hS1 e1=>?_
       simp only[Exit.inBlock,hid,if_true]
       exact hQ a1 w1 ι1 hS1 e1
      ·rename_i hid
       simp only[oi_]at h
       obtain⟨rfl,rfl,rfl⟩:=h
       refine(ih b S S1 (.exit id') q1 h1 hp').1 w ι a _ hS fun a1 w1 ι1 hS1 e1=>?_
       simp only[Exit.inBlock,hid,if_false]
       exact hQ a1 w1 ι1 hS1 e1
     ·rename_i r hne
      refine(ih b S S' e p h hp').1 w ι a _ hS fun a1 w1 ι1 hS1 e1=>?_
      have:=hQ a1 w1 ι1 hS1 e1
      cases e with
      |exit id'=>exact absurd h (hne id' S' p)
      |_=>exact this
   ·
    rename_i b
    split at h
    ·rename_i L hL
     simp only[oi_]at h
     obtain⟨rfl,rfl,rfl⟩:=h
     obtain⟨hb,hE,_⟩:=hp'
     obtain⟨k,hk,hlk⟩:=Option.bind_eq_some_iff.1 hL
     refine⟨fun w ι a Q hS hQ=>?_,fun b' hb' hn=>?_⟩
     ·rw[hb]
      exact hlp k L hlk w ι a Q S hS hE hQ
     ·cases hb'
      rw[hL]at hn;cases hn
    ·rename_i hnone
     have key:∃N,∀w ι a Q,StRel P w ι S a→(∀a' w' ι',StRel P w' ι' S' a'→X w ι w' ι'→Q e a' w')→Code.rounds P b Q N a w:=by
       split at h
       ·rename_i S1 q1 h1
        split at h
        ·rename_i e2 S2 q2 h2
         simp only[oi_]at h
         obtain⟨rfl,rfl,rfl⟩:=h
         have step:=(ih b S S1 .normal q1 h1 (u5_ hp').1).1
         obtain⟨N,hN⟩:=(ih (.loop b) S1 S2 e2 q2 h2 (u5_ hp').2).2 b rfl hnone
         refine⟨N+1,fun w ι a Q hS hQ=>?_⟩
         rw[rounds_succ]
         exact step w ι a _ hS fun a1 w1 ι1 hS1 e1=>hN w1 ι1 a1 Q hS1 fun a2 w2 ι2 hS2 e2'=>hQ a2 w2 ι2 hS2 (hX.trans e1 e2')
        ·simp at h
       ·rename_i r hne
        refine⟨1,fun w ι a Q hS hQ=>?_⟩
        rw[rounds_succ]
        refine(ih b S S' e p h hp').1 w ι a _ hS fun a1 w1 ι1 hS1 e1=>?_
        have:=hQ a1 w1 ι1 hS1 e1
        cases e with
        |normal=>exact absurd h (hne S' p)
        |_=>exact this
     refine⟨fun w ι a Q hS hQ=>?_,fun b' hb' _=>by cases hb';exact key⟩
     obtain⟨N,hN⟩:=key
     exact wp_loop_rounds N (hN w ι a Q hS hQ)
   ·
    simp only[oi_]at h
    obtain⟨rfl,rfl,rfl⟩:=h
    exact plain (fun w ι a Q hS hQ=>wp_exit (hQ a w ι hS (hX.of (Ext.refl _ _)))) (by simp)
   ·
    simp only[oi_]at h
    obtain⟨rfl,rfl,rfl⟩:=h
    exact plain (fun w ι a Q hS hQ=>wp_ret (hQ a w ι hS (hX.of (Ext.refl _ _)))) (by simp)
   ·simp at h
def resSem (tmps:Array Value):ResultVar→Sem Value
  | .tmp t=>pure (tmps.getD t undef)
  | .cell a t=>do loadVar t (←asAddr (tmps.getD a undef))
theorem run_resOne {w:World}{ι:Pl}{fr:List AV}{tmps:Array Value}{hp:Heap}(h:FrRel P w ι fr tmps)(hh:HpRel P w ι hp){x:ResultVar}{a:AV}(hx:resOne P fr hp x=some a):
    ∃v,(resSem tmps x).run P w= .ok v w∧VR P w ι true a v:=by
  cases x with
  |tmp t=>
   simp only[resOne,Option.some.injEq]at hx
   subst hx
   exact⟨_,rfl,h.rel t⟩
  |cell a' t=>
   simp only[resOne]at hx
   split at hx
   ·rename_i b off ha
    split at hx
    ·rename_i B hB
     split at hx
     ·rename_i k v hld
      split at hx
      ·rename_i hk
       simp only[Option.some.injEq]at hx
       subst hx
       have hr:=h.rel a'
       rw[ha]at hr
       generalize hρ:tmps.getD a' undef=vx at hr
       cases hr with
       |ptDead hd=>exact absurd hd (hh.notDead hB)
       |pt hg hh0=>
        rename_i g _ _ _
        obtain⟨cur,fz,hcur,hfz,hlen,hone,hrel,hcell⟩:=(hh.live hB).cells hg hh0
        obtain⟨u,hu1,hu2⟩:=run_load_row (P:=P) (w:=w) (ι:=ι) (g:=g) (off:=off) (us:=fun j=>cur.getD (off+j) undef)
          ⟨fun j hj=>by simp only[List.length_drop]at hj;exact hcell _ (by omega),fun j hj=>by simp only[List.length_drop]at hj;exact hone _ (by omega),
            fun j hj=>by simp only[List.length_drop]at hj;rw[l0_];exact(hrel _ (by omega)).open_⟩ hld (Ck.conj_of_all _ hk)
        refine⟨u,?_,hu2⟩
        have e:resSem tmps (.cell a' t)=Instr.loadAt t (.pointer (some ⟨g,off,none⟩)):=by
          unfold resSem Instr.loadAt
          simp only[hρ,asAddr,Instr.sureAddr]
        rw[e];exact hu1
      ·simp at hx
     ·simp at hx
    ·simp at hx
   ·simp at hx
theorem run_resAll {w:World}{ι:Pl}{fr:List AV}{tmps:Array Value}{hp:Heap}(h:FrRel P w ι fr tmps)(hh:HpRel P w ι hp):∀{l:List ResultVar} {as:List AV},resAll P fr hp l=some as→
    ∃vs:List Value,(l.mapM (resSem tmps)).run P w= .ok vs w∧vs.length=as.length∧∀j,j<as.length→VR P w ι true (as.getD j .any) (vs.getD j undef)
  | [],as,ha=>by
    simp only[resAll,Option.some.injEq]at ha
    subst ha
    exact⟨[],by simp,rfl,fun j hj=>by simp at hj⟩
  |x::r,as,ha=>by
   simp only[resAll]at ha
   split at ha
   ·rename_i a l hx hr
    simp only[Option.some.injEq]at ha
    subst ha
    obtain⟨v,h1,h2⟩:=run_resOne h hh hx
    obtain⟨vs,h3,h4,h5⟩:=run_resAll h hh hr
    refine⟨v::vs,?_,by simp[h4],fun j hj=>?_⟩
    ·simp only[List.mapM_cons]
     simp only[Sem.run_bind,Sem.run_pure,Result.andThen_ok,h1,h3]
    ·cases j with
     |zero=>exact h2
     |succ j=>simpa using h5 j (by simpa using hj)
   ·simp at ha
theorem run_results {fn:Func}{w:World}{ι:Pl}{fr:List AV}{tmps:Array Value}{hp:Heap}(h:FrRel P w ι fr tmps)(hh:HpRel P w ι hp){r:AV}(hr:resAV P fr hp fn.results.toList=some r):
    ∃v,(results fn tmps).run P w= .ok v w∧VR P w ι true r v:=by
  unfold resAV at hr
  cases hl:resAll P fr hp fn.results.toList with
  |none=>rw[hl]at hr;simp at hr
  |some as=>
   rw[hl]at hr
   simp only[Option.map_some,Option.some.injEq]at hr
   subst hr
   obtain⟨vs,h1,h2,h3⟩:=run_resAll h hh hl
   have hf:fn.results=fn.results.toList.toArray:=by simp
   have hm:(results fn tmps).run P w= .ok (if h:vs.toArray.size=1 then vs.toArray[0]else .tuple vs.toArray) w:=by
     have hg:results fn tmps=(do
         let vs←fn.results.mapM (resSem tmps)
         pure (if h:vs.size=1 then vs[0]else .tuple vs)):=by
       unfold results
       congr 1
     rw[hg,hf,List.mapM_toArray]
     simp only[Sem.run_bind,Sem.run_map,h1]
     rfl
   rw[hm]
   refine⟨_,rfl,?_⟩
   match as,vs,h2,h3 with
   | [],[],_,_=>exact .tu (by simp) (by intro j hj;simp at hj)
   | [a],[v],_,h3=>exact h3 0 (by simp)
   |a::b::c,u::v::x,h2,h3=>
    have hne:¬(u::v::x).toArray.size=1:=by simp
    rw[dif_neg hne]
    refine .tu (by simpa using h2.symm) fun j hj=>?_
    rw[toArray_getD]
    exact h3 j hj
theorem d2_ {X:Rl}(hX:RlOK X)(hm:P.follows .mixedOrders=true){cl:CallT}(hcl:x7_ P cl){hs:Hints}{lp:Nat→Option Lp}(hlp:q3_ X P lp){fuel:Nat}{f:FuncId}{args:List AV}{hp:Heap}{r:AV}{hp':Heap}{p:List Prop}
    (h:z8_ P cl hs lp fuel f args hp=some (r,hp',p)) (hp0:z7_ p) {w:World} {ι:Pl} {vs:Array Value} (hh:HpRel P w ι hp) (hl:args.length=vs.size) (hv:∀j,j<args.length→VR P w ι true (args.getD j .any) (vs.getD j undef)):
    HasBody P f∧Calls P f vs w fun e w'=>∃v ι',e= .returned v∧X w ι w' ι'∧HpRel P w' ι' hp'∧VR P w' ι' true r v:=by
  unfold z8_ at h
  split at h
  ·rename_i fn hf
   split at h
   ·rename_i c hb
    split at h
    ·simp at h
    ·rename_i hname
     refine⟨⟨fn,c,hf,hb,hname⟩,?_⟩
     have hS:StRel P w ι ⟨args++List.replicate (fn.ntmps-args.length) .any,hp⟩ { tmps:=vs++Array.replicate (fn.ntmps-vs.size) undef,defers:=[]} :=by
       refine⟨⟨by simp[hl],fun t=>?_⟩,hh,rfl⟩
       rw[getD_append]
       have e2:(vs++Array.replicate (fn.ntmps-vs.size) undef).getD t undef=if t<vs.size then vs.getD t undef else undef:=by
         rw[←w1_,←w1_]
         simp only[Array.toList_append,List.getD,List.getElem?_append,Array.length_toList,Array.toList_replicate,List.getElem?_replicate]
         split
         ·rfl
         ·split<;>rfl
       rw[e2]
       split
       ·rename_i hlt
        rw[if_pos (by omega)]
        exact hv t (by omega)
       ·rename_i hlt
        rw[if_neg (by omega)]
        have:(List.replicate (fn.ntmps-args.length) AV.any).getD (t-args.length) .any= .any:=by
          simp only[List.getD,List.getElem?_replicate]
          split<;>rfl
        rw[this]
        exact .any
     have fin:∀(e:Exit) (S':St) (q:List Prop),(e= .normal∨e= .ret)→o6_ P cl hs lp fuel c ⟨args++List.replicate (fn.ntmps-args.length) .any,hp⟩=some (e,S',q)→z7_ q→(resAV P S'.fr S'.hp fn.results.toList).map (fun r=>(r,S'.hp,q))=some (r,hp',p)→
        Calls P f vs w fun e w'=>∃v ι',e= .returned v∧X w ι w' ι'∧HpRel P w' ι' hp'∧VR P w' ι' true r v:=by
       intro e S' q he hc hq hr
       obtain⟨r1,hr1,hr2⟩:=Option.map_eq_some_iff.1 hr
       simp only[Prod.mk.injEq]at hr2
       obtain⟨rfl,hhp,_⟩:=hr2
       refine calls_of_wp hf hb ?_
       refine(aCode_ok hX hm hcl hlp fuel c _ S' e q hc hq).1 w ι _ _ hS fun a' w' ι' hS' hext=>?_
       obtain⟨v,hres,hrel⟩:=run_results (P:=P) hS'.fr hS'.hp hr1
       rcases he with rfl|rfl
       ·exact⟨hS'.df,_,hres,_,ι',rfl,hext,by rw[←hhp];exact hS'.hp,hrel⟩
       ·exact⟨hS'.df,_,hres,_,ι',rfl,hext,by rw[←hhp];exact hS'.hp,hrel⟩
     split at h
     ·rename_i S' q hc
      refine fin .normal S' q (.inl rfl) hc ?_ h
      obtain⟨r1,_,hr2⟩:=Option.map_eq_some_iff.1 h
      simp only[Prod.mk.injEq]at hr2
      rw[hr2.2.2];exact hp0
     ·rename_i S' q hc
      refine fin .ret S' q (.inr rfl) hc ?_ h
      obtain⟨r1,_,hr2⟩:=Option.map_eq_some_iff.1 h
      simp only[Prod.mk.injEq]at hr2
      rw[hr2.2.2];exact hp0
     ·simp at h
   ·simp at h
  ·simp at h
theorem lpNone (X:Rl)(P:Program):q3_ X P (fun _=>none):=fun _ _ h=>by cases h
theorem q7_ (hm:P.follows .mixedOrders=true){sg:Specs}(hsg:∀f spec,sg f=some spec→w2_ P f spec)(fuel:Nat):∀n,x7_ P (l3_ P sg fuel n)
  |0=>fun f args hp r hp' p h=>by simp[l3_]at h
  |n+1=>by
   intro f args hp r hp' p h hp0 w ι vs hh hl hv
   simp only[l3_]at h
   split at h
   ·rename_i spec hs
    split at h
    ·rename_i l hf
     split at h
     ·rename_i x hr
      obtain⟨r0,q0⟩:=x
      exact bySpec_ok (hsg f spec hs) hh hl hv hf hr h hp0
     ·simp at h
    ·simp at h
   ·exact d2_ rlExt hm (q7_ hm hsg fuel n) (lpNone _ _) h hp0 hh hl hv
end Go.Proofs.YtmjldphagbobpaaDoor
namespace Go.Proofs.YtmjldphagbobpaaDoor
open IntKind (i64 u8 i32 u32 u64)
open Go.RowKit
variable [Gv] {P:Program}
theorem virt_ok:∀(ns:List (Nat×TypeId)) {w:World} {ι:Pl} {S:St} {a:Act},StRel P w ι S a→∃ι',StRel P w ι' (S.virt ns) a∧Ext w ι w ι'
  | [],w,ι,S,a,h=>⟨ι,h,Ext.refl _ _⟩
  |(t,e)::r,w,ι,S,a,h=>by
   simp only[St.virt]
   split
   ·rename_i hc
    obtain⟨e1,h1⟩:=h.hp.pushVirt (B:=⟨e,false,[]⟩) rfl
    have hv:a.tmps.getD t undef= .slice none 0 0:=by
      have:=h.fr.rel t
      rw[hc]at this
      exact this.cInv
    have hS:StRel P w (upd ι S.hp.length .virt) ⟨List.set S.fr t (.sl S.hp.length 0 0),S.hp++[some ⟨e,false,[]⟩]⟩ a:=by
      refine⟨⟨by simp[h.fr.len],fun k=>?_⟩,h1,h.df⟩
      rw[set_getD]
      split
      ·rename_i hk
       obtain⟨rfl,_⟩:=hk
       rw[hv]
       exact .slZero
      ·exact(h.fr.rel k).mono e1
    obtain⟨ι',h2,e2⟩:=virt_ok r hS
    exact⟨ι',h2,e1.trans e2⟩
   ·exact virt_ok r h
def Loc.unfresh:Loc→Loc
  | .fresh=> .dead
  |x=>x
def placeOf (ι:Pl)(m:List Nat)(i:Nat):Loc:=
  match m[i]? with
  |some b=>(ι b).unfresh
  |none=> .fresh
def Pl.ren (ι:Pl)(m:List Nat):Pl:= { ι with at_:=placeOf ι m}
omit [Gv]in
theorem k9_ {ι:Pl}{m:List Nat}{i b:Nat}(h:m[i]? =some b):ι.ren m i=(ι b).unfresh:=by
  show placeOf ι m i=_
  unfold placeOf
  rw[h]
omit [Gv]in
theorem ren_none {ι:Pl}{m:List Nat}{i:Nat}(h:m[i]? =none):ι.ren m i= .fresh:=by
  show placeOf ι m i=_
  unfold placeOf
  rw[h]
omit [Gv]in
theorem ren_here {ι:Pl}{m:List Nat}{i g:Nat}(h:ι.ren m i= .here g):∃b,m[i]? =some b∧ι b= .here g:=by
  cases hm:m[i]? with
  |none=>rw[ren_none hm]at h;cases h
  |some b=>
   rw[k9_ hm]at h
   refine⟨b,rfl,?_⟩
   generalize ι b=x at h ⊢
   cases x<;>simp[Loc.unfresh]at h ⊢
   exact h
omit [Gv]in
theorem ren_un {ι:Pl}{m:List Nat}{g:Nat}(h:ι.un g):(ι.ren m).un g:=
  ⟨fun i hi=>by obtain⟨b,_,hb⟩:=ren_here hi;exact h.1 b hb,h.2⟩
omit [Gv]in
theorem r5_ {m:List Nat}{b i:Nat}(h:m.findIdx? (· ==b)=some i):m[i]? =some b:=by
  have:=List.findIdx?_eq_some_iff_getElem.1 h
  obtain⟨hi,hb,_⟩:=this
  rw[List.getElem?_eq_getElem hi]
  simpa using hb
omit [Gv]in
theorem v4_ (m:List Nat):∀l:List AV,(AV.renAll m l).length=l.length
  | []=>rfl
  |a::r=>by simp[AV.renAll,v4_ m r]
omit [Gv]in
theorem p8_ (m:List Nat):∀(l:List AV) (j:Nat),(AV.renAll m l).getD j .any=(l.getD j .any).ren m
  | [],j=>by simp[AV.renAll,AV.ren]
  |a::r,0=>by simp[AV.renAll]
  |a::r,j+1=>by simpa [AV.renAll]using p8_ m r j
omit [Gv]in
theorem VR.renm {w:World}{ι:Pl}{m:List Nat}{o:Bool}{a:AV}{v:Value}(hv:VR P w ι o a v):VR P w (ι.ren m) o (a.ren m) v:=by
  induction hv with
  |any=>simp only[AV.ren];exact .any
  |c=>simp only[AV.ren];exact .c
  |slDead hd=>
   simp only[AV.ren]
   split
   ·rename_i i hi
    exact .slDead (by rw[k9_ (r5_ hi),hd];rfl)
   ·exact .any
  |slZero=>
   simp only[AV.ren]
   split
   ·exact .slZero
   ·exact .any
  |slAt hg hh hn hs hm=>
   simp only[AV.ren]
   split
   ·rename_i i hi
    exact .slAt (by rw[k9_ (r5_ hi),hg];rfl) hh hn hs hm
   ·exact .any
  |ptDead hd=>
   simp only[AV.ren]
   split
   ·rename_i i hi
    exact .ptDead (by rw[k9_ (r5_ hi),hd];rfl)
   ·exact .any
  |pt hg hh=>
   simp only[AV.ren]
   split
   ·rename_i i hi
    exact .pt (by rw[k9_ (r5_ hi),hg];rfl) hh
   ·exact .any
  |itrDead hd=>
   simp only[AV.ren]
   split
   ·rename_i i hi
    exact .itrDead (by rw[k9_ (r5_ hi),hd];rfl)
   ·exact .any
  |itr hg=>
   simp only[AV.ren]
   split
   ·rename_i i hi
    exact .itr (by rw[k9_ (r5_ hi),hg];rfl)
   ·exact .any
  |fsZero=>simp only[AV.ren];exact .fsZero
  |fs hn hl hg hno hc h1 hr _=>simp only[AV.ren];exact .fs hn hl hg (ren_un hno) hc h1 fun j hj=>(hr j hj).shrink rfl (fun g hg=>ren_un hg)
  |fp hg hno hc h1 hr _=>simp only[AV.ren];exact .fp hg (ren_un hno) hc h1 fun j hj=>(hr j hj).shrink rfl (fun g hg=>ren_un hg)
  |ag hl h1 _ ih=>
   simp only[AV.ren]
   exact .ag (by rw[v4_];exact hl) (fun j hj=>h1 j (by rw[v4_]at hj;exact hj)) fun j hj=>by rw[p8_];exact ih j (by rw[v4_]at hj;exact hj)
  |tu hl _ ih=>
   simp only[AV.ren]
   exact .tu (by rw[v4_];exact hl) fun j hj=>by rw[p8_];exact ih j (by rw[v4_]at hj;exact hj)
  |fn hl _ ih=>
   simp only[AV.ren]
   exact .fn (by rw[v4_];exact hl) fun j hj=>by rw[p8_];exact ih j (by rw[v4_]at hj;exact hj)
omit [Gv]in
theorem keepOnly_length (keep:List Nat):∀(l:List AV) (i:Nat),(i8_ keep i l).length=l.length
  | [],_=>rfl
  |a::r,i=>by simp[i8_,keepOnly_length keep r (i+1)]
omit [Gv]in
theorem keepOnly_getD (keep:List Nat):∀(l:List AV) (i j:Nat),(i8_ keep i l).getD j .any= .any∨(i8_ keep i l).getD j .any=l.getD j .any
  | [],_,_=> .inr rfl
  |a::r,i,0=>by
   simp only[i8_,List.getD_cons_zero]
   split
   ·exact .inr rfl
   ·exact .inl rfl
  |a::r,i,j+1=>by simpa [i8_]using keepOnly_getD keep r (i+1) j
theorem fin_ok {w:World}{ι:Pl}{S:St}{a:Act}{keep m:List Nat}(hnd:m.Nodup)(h:StRel P w ι S a):StRel P w (ι.ren m) (S.fin keep m) a∧Ext0 w ι w (ι.ren m):=by
  refine⟨⟨⟨?_,fun t=>?_⟩,⟨fun i=>?_,?_,?_,h.hp.hlt,fun g l hg=>(h.hp.gl g l hg).shrink rfl (fun g hg=>ren_un hg)⟩,h.df⟩,rfl,rfl,rfl,Nat.le_refl _,rfl,fun _ _ _=>rfl,fun g _ hn=>⟨rfl,ren_un hn⟩⟩
  ·simp only[St.fin,v4_,keepOnly_length];exact h.fr.len
  ·simp only[St.fin,p8_]
   rcases keepOnly_getD keep S.fr 0 t with hk|hk<;>rw[hk]
   ·simp only[AV.ren];exact .any
   ·exact(h.fr.rel t).renm
  ·simp only[St.fin,List.getElem?_map]
   cases hm:m[i]? with
   |none=>
    exact ren_none hm
   |some b=>
    simp only[Option.map_some]
    have hb:=h.hp.blk b
    cases hs:S.hp[b]? with
    |none=>
     rw[hs]at hb
     have:S.hp.getD b none=none:=by simp[List.getD,hs]
     rw[this]
     show ι.ren m i= .dead
     rw[k9_ hm,show ι b= .fresh from hb];rfl
    |some x=>
     rw[hs]at hb
     have:S.hp.getD b none=x:=by simp[List.getD,hs]
     rw[this]
     cases x with
     |none=>
      show ι.ren m i= .dead
      rw[k9_ hm,show ι b= .dead from hb];rfl
     |some B=>
      show BlkOK P w (ι.ren m) i (o0_ m B)
      have hc:(o0_ m B).cells.length=B.cells.length:=by unfold o0_;split<;>simp[v4_]
      have hop:(o0_ m B).op=B.op:=by unfold o0_;split<;>rfl
      have hee:(o0_ m B).e=B.e:=by unfold o0_;split<;>rfl
      rcases hb with⟨k1,k2⟩|⟨g,cur,fz,k1,k2,k3,k4,k5,k6⟩|⟨g,s,pos,k1,k2,k3,k4⟩
      ·refine .inl ⟨by rw[k9_ hm,k1];rfl,?_⟩
       exact List.eq_nil_of_length_eq_zero (by rw[hc,k2];rfl)
      rotate_left
      ·refine .inr (.inr ⟨g,s,pos,by rw[k9_ hm,k1];rfl,?_,k3,by rw[hop];exact k4⟩)
       unfold o0_
       rw[if_pos k4]
       simp only[k2,AV.renAll,AV.ren]
      ·refine .inr (.inl ⟨g,cur,fz,by rw[k9_ hm,k1];rfl,by rw[hee];exact k2,by rw[hee];exact k3,by rw[hc];exact k4,by rw[hc];exact k5,fun j hj=>?_⟩)
       rw[hc]at hj
       rw[hop]
       have hr:=k6 j hj
       unfold o0_
       split
       ·rename_i ho
        rw[ho]at hr ⊢
        simp only[p8_]
        exact hr.renm
       ·rename_i ho
        have ho':B.op=false:=by simpa using ho
        rw[ho']at hr ⊢
        exact hr.shrink rfl (fun g hg=>ren_un hg)
  ·intro i j g hi hj
   obtain⟨b,hb1,hb2⟩:=ren_here hi
   obtain⟨b',hb1',hb2'⟩:=ren_here hj
   have:=h.hp.inj _ _ _ hb2 hb2'
   subst this
   exact(List.getElem?_inj (List.getElem?_eq_some_iff.1 hb1).1 hnd).1 (hb1.trans hb1'.symm)
  ·intro i g hi
   obtain⟨b,_,hb2⟩:=ren_here hi
   exact h.hp.nohid b g hb2
theorem Fi.ok {w:World}{ι:Pl}{S:St}{a:Act}(f:Fi)(hnd:f.m.Nodup)(h:StRel P w ι S a):∃ι',StRel P w ι' (f.app S) a∧Ext0 w ι w ι':=by
  obtain⟨ι1,h1,e1⟩:=virt_ok f.ns h
  obtain⟨h2,e2⟩:=fin_ok (keep:=f.keep) hnd h1
  exact⟨_,h2,e1.weak.trans e2⟩
def o8_ (fi:Fi):Option (Exit×St×List Prop)→Option (Exit×St×List Prop)
  |some (e,S,p)=>some (e,fi.app S,p)
  |none=>none
def x1_ (X:Rl)(P:Program)(cl:CallT)(b:Code)(S:St)(e:Exit)(S':St):Prop:=
  ∃(hs:Hints) (lp:Nat→Option Lp) (fuel:Nat) (fi:Fi) (p:List Prop),q3_ X P lp∧fi.m.Nodup∧o8_ fi (o6_ P cl hs lp fuel b S)=some (e,S',p)∧z7_ p
theorem x1_.tri {cl:CallT}(hm:P.follows .mixedOrders=true)(hcl:x7_ P cl){b:Code}{S S':St}{e:Exit}(h:x1_ Ext0 P cl b S e S'):Tri Ext0 P b S e S':=by
  obtain⟨hs,lp,fuel,fi,p,hlp,hnd,hc,hp⟩:=h
  intro w ι a Q hS hQ
  cases hcc:o6_ P cl hs lp fuel b S with
  |none=>rw[hcc]at hc;simp[o8_]at hc
  |some x=>
   obtain⟨e1,S1,p1⟩:=x
   rw[hcc]at hc
   simp only[o8_,Option.some.injEq,Prod.mk.injEq]at hc
   obtain⟨rfl,hS1,rfl⟩:=hc
   refine(aCode_ok rlExt0 hm hcl hlp fuel b S S1 e1 p1 hcc hp).1 w ι a Q hS fun a' w' ι' hS' hext=>?_
   obtain⟨ι2,h2,e2⟩:=fi.ok hnd hS'
   rw[hS1]at h2
   exact hQ a' w' ι2 h2 (hext.trans e2)
theorem loop_ok {α:Type}{cl:CallT}(hm:P.follows .mixedOrders=true)(hcl:x7_ P cl){b:Code}(I:α→St)(μ:α→Nat){e:Exit}{R:St}
    (round:∀x,(∃x',μ x'<μ x∧x1_ Ext0 P cl b (I x) .normal (I x'))∨(e≠ .normal∧x1_ Ext0 P cl b (I x) e R)) (x0:α):Tri Ext0 P (.loop b) (I x0) e R:=by
  have key:∀n x,μ x<n→∀w ι a Q,StRel P w ι (I x) a→(∀a' w' ι',StRel P w' ι' R a'→Ext0 w ι w' ι'→Q e a' w')→Code.rounds P b Q n a w:=by
    intro n
    induction n with
    |zero=>intro x h;omega
    |succ n ih=>
     intro x hx w ι a Q hS hQ
     rw[rounds_succ]
     rcases round x with⟨x',hlt,hr⟩|⟨hne,hr⟩
     ·exact hr.tri hm hcl w ι a _ hS fun a1 w1 ι1 hS1 e1=>ih x' (by omega) w1 ι1 a1 Q hS1 fun a2 w2 ι2 hS2 e2=>hQ a2 w2 ι2 hS2 (e1.trans e2)
     ·refine hr.tri hm hcl w ι a _ hS fun a1 w1 ι1 hS1 e1=>?_
      have:=hQ a1 w1 ι1 hS1 e1
      cases e with
      |normal=>exact absurd rfl hne
      |_=>exact this
  intro w ι a Q hS hQ
  exact wp_loop_rounds _ (key (μ x0+1) x0 (by omega) w ι a Q hS hQ)
theorem lp_one {k:Nat}{L:Lp}(hnd:L.fi.m.Nodup)(h:Tri Ext0 P (.loop L.body) L.E L.e L.R):q3_ Ext0 P (fun i=>if i=k then some L else none):=by
  intro i L' hL w ι a Q S hS hE hQ
  have hL:(if i=k then some L else none)=some L':=hL
  split at hL
  ·cases hL
   obtain⟨ι2,h2,e2⟩:=L.fi.ok hnd hS
   rw[hE]at h2
   exact h w ι2 a Q h2 fun a' w' ι' hS' hext=>hQ a' w' ι' hS' (e2.trans hext)
  ·cases hL
theorem lp_more {k:Nat}{L:Lp}{lp:Nat→Option Lp}(hlp:q3_ Ext0 P lp)(hnd:L.fi.m.Nodup)(h:Tri Ext0 P (.loop L.body) L.E L.e L.R):q3_ Ext0 P (fun i=>if i=k then some L else lp i):=by
  intro i L' hL
  have hL:(if i=k then some L else lp i)=some L':=hL
  split at hL
  ·cases hL
   intro w ι a Q S hS hE hQ
   obtain⟨ι2,h2,e2⟩:=L.fi.ok hnd hS
   rw[hE]at h2
   exact h w ι2 a Q h2 fun a' w' ι' hS' hext=>hQ a' w' ι' hS' (e2.trans hext)
  ·exact hlp i L' hL
def Code.loopAt (k:Nat):Code→Option Code
  | .seq a b=>match Code.loopAt k a with
    |some c=>some c
    |none=>Code.loopAt k b
  | .block _ b| .scope b=>Code.loopAt k b
  | .cond _ a b=>match Code.loopAt k a with
    |some c=>some c
    |none=>Code.loopAt k b
  | .loop b=>if Code.rid b=some k then some b else Code.loopAt k b
  |_=>none
def z1_ (P:Program)(f:FuncId)(k:Nat):Code:=
  match P.funcs[f]? with
  |some fn=>match fn.body with
   |some c=>(Code.loopAt k c).getD .skip
   |none=> .skip
  |none=> .skip
def y1_:List (Nat×Lp)→Nat→Option Lp
  | [],_=>none
  |(k,L)::r,i=>if i=k then some L else y1_ r i
theorem z4_:q3_ Ext0 P (y1_ []):=fun _ _ h=>by cases h
theorem x4_ {k:Nat}{L:Lp}{r:List (Nat×Lp)}(hlp:q3_ Ext0 P (y1_ r))(hnd:L.fi.m.Nodup)(h:Tri Ext0 P (.loop L.body) L.E L.e L.R):q3_ Ext0 P (y1_ ((k,L)::r)):=lp_more (k:=k) hlp hnd h
def r4_:List (FuncId×Spec)→Specs
  | [],_=>none
  |(k,s)::r,f=>if f=k then some s else r4_ r f
theorem v2_:∀f spec,r4_ [] f=some spec→w2_ P f spec:=fun _ _ h=>by cases h
theorem y8_ {k:FuncId}{s:Spec}{r:List (FuncId×Spec)}(h:w2_ P k s)(hr:∀f spec,r4_ r f=some spec→w2_ P f spec):∀f spec,r4_ ((k,s)::r) f=some spec→w2_ P f spec:=by
  intro f spec hf
  have hf:(if f=k then some s else r4_ r f)=some spec:=hf
  split at hf
  ·rename_i he
   cases hf;rw[he];exact h
  ·exact hr f spec hf
omit [Gv]in
theorem byAll {α:Type}{F G:Nat→α}(N:Nat)(h:(List.range N).map F=(List.range N).map G)(n:Nat)(hn:n<N):F n=G n:=
  List.map_inj_left.1 h n (List.mem_range.2 hn)
def s7_:Option (AV×Heap×List Prop)→Option (AV×List Prop)
  |some (r,_,p)=>some (r,p)
  |none=>none
def Pl.none:Pl:= { at_:=fun _=> .fresh,hid:=fun _=>False}
def GlOK (P:Program)(w:World):Prop:=∀g l,Gv.gv g=some l→VR P w Pl.none false (.fp l) (.pointer (some ⟨g,0,none⟩))
theorem none_rel (w:World)(hg:GlOK P w):HpRel P w Pl.none []:=
  ⟨fun b=>by simp only[List.getElem?_nil];rfl,fun b b' g hb=>by simp[Pl.none]at hb,fun b g hb=>by simp[Pl.none]at hb,fun g hg=>hg.elim,hg⟩
theorem ext_of_ext0 {w w':World}{κ κ':Pl}(h0:HpRel P w κ [])(e:Ext0 w κ w' κ'):Ext w κ w' κ':=by
  have hf:∀b,κ b= .fresh:=fun b=>by have:=h0.blk b;simp only[List.getElem?_nil]at this;exact this
  exact⟨e.os,e.tape,e.output,e.size,e.hid,e.hkeep,e.blk,(fun b g hb=>by rw[hf b]at hb;cases hb),(fun b hb=>by rw[hf b]at hb;cases hb)⟩
theorem v5_ {cl:CallT}(hm:P.follows .mixedOrders=true)(hcl:x7_ P cl){f:FuncId}{spec:Spec}
    (h:∀args r q,spec args=some (r,q)→z7_ q→∃hs lp fuel p,q3_ Ext0 P lp∧y3_ P f (z8_ P cl hs lp fuel f args [])=some (r,p)∧z7_ p):w2_ P f spec:=by
  intro args r q hr hq w κ vs hh hl hv
  obtain⟨hs,lp,fuel,p,hlp,hb,hp⟩:=h args r q hr hq
  cases hbd:z8_ P cl hs lp fuel f args []with
  |none=>rw[hbd]at hb;simp[y3_]at hb
  |some x=>
   obtain⟨r',hp',p'⟩:=x
   rw[hbd]at hb
   have hpp:p'=p∧∀(w':World) (κ':Pl) (v:Value),HpRel P w' κ' hp'→VR P w' κ' true r' v→ResRel P w' κ' hp' f r v:=by
     unfold y3_ at hb
     split at hb
     ·rename_i b n hp1 p1 heq
      cases heq
      split at hb
      ·rename_i e B he hB
       split at hb
       ·rename_i hc
        simp only[oi_]at hb
        obtain⟨rfl,rfl⟩:=hb
        refine⟨rfl,fun w' κ' v _ hv=>⟨b,e,he,rfl,hv,?_⟩⟩
        rw[hB]
        obtain⟨h1,h2⟩:=hc
        cases B
        simp only at h1 h2
        subst h1;subst h2
        rfl
       ·simp at hb
      ·simp at hb
     ·simp at hb
     ·rename_i r1 hp1 p1 hn hn2 heq
      cases heq
      split at hb
      ·rename_i hc
       simp only[oi_]at hb
       obtain⟨rfl,rfl⟩:=hb
       refine⟨rfl,fun w' κ' v hhp hv=>?_⟩
       have hx:=hv.shut hc
       unfold ResRel
       split
       ·exact(hn2 _ _ _ rfl).elim
       ·exact hx
      ·simp at hb
     ·simp at hb
   obtain⟨rfl,hres⟩:=hpp
   obtain⟨hbody,hcalls⟩:=d2_ rlExt0 hm hcl hlp hbd hp hh hl (fun j hj=>(hv j hj).open_)
   exact⟨hbody,hcalls.mono fun e w' ⟨v,κ',he,hext,hhp,hv'⟩=>⟨v,κ',hp',he,ext_of_ext0 hh hext,hhp,hres w' κ' v hhp hv'⟩⟩
theorem law_of {cl:CallT}(hm:P.follows .mixedOrders=true)(hcl:x7_ P cl){f:FuncId}{args:List AV}{vs:Array Value}{w:World}{v:Value}(hgl:GlOK P w)(hl:args.length=vs.size)
    (hv:∀j,j<args.length→VR P w Pl.none true (args.getD j .any) (vs.getD j undef))
    (h:∃hs lp fuel p,q3_ Ext0 P lp∧s7_ (z8_ P cl hs lp fuel f args [])=some (.c v,p)∧z7_ p):Calls P f vs w fun e w'=>e= .returned v∧Below w.heap.size w w':=by
  obtain⟨hs,lp,fuel,p,hlp,hb,hp⟩:=h
  cases hb1:z8_ P cl hs lp fuel f args []with
  |none=>rw[hb1]at hb;simp[s7_]at hb
  |some x=>
  obtain⟨r,hp',p1⟩:=x
  rw[hb1]at hb
  simp only[s7_,Option.some.injEq,Prod.mk.injEq]at hb
  obtain⟨rfl,rfl⟩:=hb
  replace hb:=hb1
  obtain⟨_,hcalls⟩:=d2_ rlExt0 hm hcl hlp hb hp (none_rel w hgl) hl hv
  refine hcalls.mono fun e w' ⟨u,κ',he,hext,hhp,hres⟩=>?_
  rw[hres.cInv]at he
  exact⟨he,hext.os,hext.tape,hext.output,hext.size,fun k hk=>(hext.blk k hk ⟨fun b hb=>by simp[Pl.none]at hb,fun hh=>hh.elim⟩).1⟩
end Go.Proofs.YtmjldphagbobpaaDoor
namespace Go.Proofs.YtmjldphagbobpaaDoor
open IntKind (i64 u8 i32 u32 u64)
open Go.RowKit
variable [Gv] {P:Program}
def byteSpec (g:Int→Value):Spec
  | [.c (.int .u8 n)]=>some (.c (g n),[0≤n,n<256])
  |_=>none
def isRes (o:Option (AV×List Prop))(v:Value):Bool:=
  match o,v with
  |some (.c (.int k z),[]),.int k' z'=>decide (k=k')&&decide (z=z')
  |some (.c (.bool b),[]),.bool b'=>b==b'
  |_,_=>false
omit [Gv]in
theorem isRes_eq {o:Option (AV×List Prop)}{v:Value}(h:isRes o v=true):o=some (.c v,[]):=by
  unfold isRes at h
  split at h
  ·simp only[Bool.and_eq_true,decide_eq_true_eq]at h
   obtain⟨rfl,rfl⟩:=h
   rfl
  ·simp only[beq_iff_eq]at h
   subst h;rfl
  ·simp at h
theorem byteSpec_ok (hm:P.follows .mixedOrders=true){cl:CallT}(hcl:x7_ P cl){f:FuncId}{g:Int→Value}
    (h:((List.range 256).all fun n=>isRes (y3_ P f (z8_ P cl {} (y1_ []) 60 f [.c (.int .u8 (Int.ofNat n))] [])) (g (Int.ofNat n)))=true):w2_ P f (byteSpec g):=by
  refine v5_ hm hcl fun args r q hs hq=>?_
  unfold byteSpec at hs
  split at hs
  ·rename_i n
   simp only[oi_]at hs
   obtain⟨rfl,rfl⟩:=hs
   obtain⟨h0,h1,_⟩:=hq
   have hh:=isRes_eq (List.all_eq_true.1 h n.toNat (List.mem_range.2 (by omega)))
   have e:Int.ofNat n.toNat=n:=Int.toNat_of_nonneg h0
   simp only[e]at hh
   exact⟨{},y1_ [],60,[],z4_,hh,trivial⟩
  ·simp at hs
def frame (n:Nat)(l:List (Nat×AV)):List AV:=(List.range n).map fun i=>match l.find? (fun x=>x.1==i)with
  |some x=>x.2
  |none=> .any
def bs (l:List (Nat×Bool)):List (Nat×Hint):=l.map fun x=>(x.1,⟨.c (.bool x.2),none⟩)
omit [Gv]in
theorem conc_args {w:World}(l:List Value)(j:Nat)(_:j<(l.map AV.c).length):VR P w Pl.none true ((l.map AV.c).getD j .any) (l.toArray.getD j undef):=by
  have e:l.toArray.getD j undef=l.getD j undef:=by simp[List.getD]
  rw[e]
  simp only[List.length_map]at*
  rename_i hj
  simp only[List.getD,List.getElem?_map,List.getElem?_eq_getElem hj,Option.map_some,Option.getD_some]
  exact .c
theorem law_conc {cl:CallT}(hm:P.follows .mixedOrders=true)(hcl:x7_ P cl){f:FuncId}(vs:List Value){w:World}{v:Value}(hgl:GlOK P w)
    (h:∃hs lp fuel p,q3_ Ext0 P lp∧s7_ (z8_ P cl hs lp fuel f (vs.map AV.c) [])=some (.c v,p)∧z7_ p):Calls P f vs.toArray w fun e w'=>e= .returned v∧Below w.heap.size w w':=
  law_of hm hcl hgl (by simp) (conc_args vs) h
omit [Gv]in
theorem w0_ (l:List UInt8):(z6_ l).length=l.length:=by simp[z6_]
omit [Gv]in
theorem h1_ (a b:List UInt8):z6_ (a++b)=z6_ a++z6_ b:=by simp[z6_]
omit [Gv]in
theorem j7_ (l:List UInt8)(n:Nat):(z6_ l).take n=z6_ (l.take n):=by simp[z6_,List.map_take]
omit [Gv]in
theorem byts_drop (l:List UInt8)(n:Nat):(z6_ l).drop n=z6_ (l.drop n):=by simp[z6_,List.map_drop]
omit [Gv]in
theorem unbyte_byteC (x:UInt8):unbyte (t4_ x)=x:=by
  simp only[t4_,unbyte]
  apply UInt8.toNat_inj.1
  have:=x.toNat_lt
  simp
omit [Gv]in
theorem p1_ (l:List UInt8):x8_ (z6_ l)=l:=by
  induction l with
  |nil=>rfl
  |cons x r ih=>
   simp only[x8_,z6_,List.map_cons]at ih ⊢
   rw[ih,unbyte_byteC]
omit [Gv]in
theorem n3_ (l:List UInt8):u4_ (z6_ l):=by
  unfold u4_
  induction l with
  |nil=>rfl
  |cons x r ih=>
   simp only[z6_,List.map_cons,List.all_cons]at ih ⊢
   rw[ih]
   have:=x.toNat_lt
   simp only[t4_,isByte,Bool.and_true,decide_eq_true_eq]
   omega
omit [Gv]in
theorem byts_single (x:UInt8):[t4_ x]=z6_ [x]:=rfl
omit [Gv]in
theorem mulS_one (n:Nat):q2_ n 1=n:=by simp[q2_]
omit [Gv]in
theorem u8_lt (x:UInt8):0≤(x.toNat:Int)∧(x.toNat:Int)<256:=⟨by omega,by have:=x.toNat_lt;omega⟩
omit [Gv]in
theorem v9_ {α:Type}(l:List α)(i:Nat)(d:α)(h:i<l.length):l.take (i+1)=l.take i++[l.getD i d]:=by
  rw[List.take_add_one]
  simp[List.getD,h]
omit [Gv]in
theorem j5_:i64.min= -9223372036854775808:=by decide
omit [Gv]in
theorem j4_:i64.max=9223372036854775807:=by decide
omit [Gv]in
theorem u8_min:u8.min=0:=by decide
omit [Gv]in
theorem u8_max:u8.max=255:=by decide
omit [Gv]in
theorem byts_headD (l:List UInt8)(i:Nat)(h:i<l.length):((z6_ l).drop i).headD .any=t4_ (l.getD i 0):=by
  rw[byts_drop,List.drop_eq_getElem_cons h]
  simp[z6_,List.getD,h]
omit [Gv]in
theorem byts_set (l:List UInt8)(i:Nat)(y:UInt8)(h:i<l.length):(z6_ l).take i++[t4_ y]++(z6_ l).drop (i+1)=z6_ (l.set i y):=by
  rw[j7_,byts_drop,byts_single,←h1_,←h1_,List.set_eq_take_append_cons_drop,if_pos h,List.append_assoc,List.singleton_append]
omit [Gv]in
theorem byts_snoc (M:List UInt8)(y:UInt8):(z6_ M).take M.length++[t4_ y]=z6_ (M++[y]):=by
  rw[j7_,List.take_length,byts_single,h1_]
omit [Gv]in
theorem sl_eq {b n m:Nat}(h:n=m):y0_ (.sl b 0 n) (.sl b 0 m):=by subst h;exact u3_ _
def e3_ (p:Int→Bool)(l:List UInt8):Nat:=(l.takeWhile fun x=>p x.toNat).length
def trailN (p:Int→Bool)(l:List UInt8):Nat:=((l.drop (e3_ p l)).reverse.takeWhile fun x=>p x.toNat).length
def stripF (p:Int→Bool)(l:List UInt8):List UInt8:=(l.take (l.length-trailN p l)).drop (e3_ p l)
omit [Gv]in
theorem tw_le {α:Type}(q:α→Bool):∀l:List α,(l.takeWhile q).length≤l.length
  | []=>by simp
  |x::r=>by
   simp only[List.takeWhile_cons]
   split
   ·have:=tw_le q r;simp;omega
   ·simp
omit [Gv]in
theorem tw_lt {α:Type}(q:α→Bool)(d:α):∀(l:List α) (i:Nat),i<(l.takeWhile q).length→q (l.getD i d)=true
  | [],i,h=>by simp at h
  |x::r,i,h=>by
   simp only[List.takeWhile_cons]at h
   split at h
   ·cases i with
    |zero=>simpa
    |succ i=>simpa using tw_lt q d r i (by simpa using h)
   ·simp at h
omit [Gv]in
theorem tw_stop {α:Type}(q:α→Bool)(d:α):∀(l:List α),(l.takeWhile q).length<l.length→q (l.getD (l.takeWhile q).length d)=false
  | [],h=>by simp at h
  |x::r,h=>by
   simp only[List.takeWhile_cons]at h ⊢
   split
   ·rename_i hx
    rw[if_pos hx]at h
    simpa using tw_stop q d r (by simpa using h)
   ·rename_i hx
    simpa using hx
omit [Gv]in
theorem lead_le (p:Int→Bool)(l:List UInt8):e3_ p l≤l.length:=tw_le _ l
omit [Gv]in
theorem lead_lt {p:Int→Bool}{l:List UInt8}{i:Nat}(h:i<e3_ p l):p ((l.getD i 0).toNat:Int)=true:=tw_lt (fun x:UInt8=>p x.toNat) 0 l i h
omit [Gv]in
theorem lead_stop {p:Int→Bool}{l:List UInt8}(h:e3_ p l<l.length):p ((l.getD (e3_ p l) 0).toNat:Int)=false:=tw_stop (fun x:UInt8=>p x.toNat) 0 l h
omit [Gv]in
theorem trail_le (p:Int→Bool)(l:List UInt8):trailN p l≤l.length-e3_ p l:=by
  have:=tw_le (fun x:UInt8=>p x.toNat) (l.drop (e3_ p l)).reverse
  simpa [trailN]using this
omit [Gv]in
theorem rev_getD (l:List UInt8)(k j:Nat)(h:k+j<l.length):(l.drop k).reverse.getD j 0=l.getD (l.length-j-1) 0:=by
  have h1:j<(l.drop k).reverse.length:=by simp;omega
  have h2:l.length-j-1<l.length:=by omega
  simp only[List.getD,List.getElem?_eq_getElem h1,List.getElem?_eq_getElem h2,Option.getD_some]
  rw[List.getElem_reverse,List.getElem_drop]
  congr 1
  simp only[List.length_drop]
  omega
omit [Gv]in
theorem trail_lt {p:Int→Bool}{l:List UInt8}{j:Nat}(h:j<trailN p l):p ((l.getD (l.length-j-1) 0).toNat:Int)=true:=by
  have h1:=tw_lt (fun x:UInt8=>p x.toNat) 0 (l.drop (e3_ p l)).reverse j h
  have h2:=trail_le p l
  rwa [rev_getD l (e3_ p l) j (by omega)]at h1
omit [Gv]in
theorem trail_stop {p:Int→Bool}{l:List UInt8}(h:e3_ p l+trailN p l<l.length):p ((l.getD (l.length-trailN p l-1) 0).toNat:Int)=false:=by
  have h1:=tw_stop (fun x:UInt8=>p x.toNat) 0 (l.drop (e3_ p l)).reverse (by simp[trailN]at h ⊢;omega)
  rwa [show((l.drop (e3_ p l)).reverse.takeWhile fun x:UInt8=>p x.toNat).length=trailN p l from rfl,rev_getD l (e3_ p l) _ (by omega)]at h1
end Go.Proofs.YtmjldphagbobpaaDoor
namespace Go.Proofs.YtmjldphagbobpaaDoor
open IntKind (i64 u8 i32 u32 u64)
open Go.RowKit
variable [Gv] {P:Program}
abbrev HSpec:=List AV→Heap→Option (AV×Heap×List Prop)
abbrev HSpecs:=FuncId→Option HSpec
def u0_ [Gv](P:Program)(f:FuncId)(spec:HSpec):Prop:=
  ∀args hp r hp' p,spec args hp=some (r,hp',p)→z7_ p→∀w ι (vs:Array Value),HpRel P w ι hp→args.length=vs.size→(∀j,j<args.length→VR P w ι true (args.getD j .any) (vs.getD j undef))→
   HasBody P f∧Calls P f vs w fun e w'=>∃v ι',e= .returned v∧Ext w ι w' ι'∧HpRel P w' ι' hp'∧VR P w' ι' true r v
mutual
def AV.refs:AV→List Nat
  | .sl b _ _| .pt b _| .itr b=>[b]
  | .ag l| .tu l| .fn _ l=>AV.refsAll l
  |_=>[]
def AV.refsAll:List AV→List Nat
  | []=>[]
  |a::r=>AV.refs a++AV.refsAll r
end
def dedup:List Nat→List Nat→List Nat
  | [],acc=>acc
  |x::r,acc=>dedup r (if acc.contains x then acc else acc++[x])
def reach (hp:Heap):Nat→List Nat→List Nat
  |0,acc=>acc
  |n+1,acc=>reach hp n (dedup (acc.flatMap fun b=>match hp[b]? with
   |some (some B)=>if B.op then AV.refsAll B.cells else []
   |_=>[]) acc)
def nodupB:List Nat→Bool
  | []=>true
  |x::r=> !r.contains x&&nodupB r
omit [Gv]in
theorem nodupB_spec:∀{l:List Nat},nodupB l=true→l.Nodup
  | [],_=>List.nodup_nil
  |x::r,h=>by
   simp only[nodupB,Bool.and_eq_true,Bool.not_eq_true',List.contains_eq_mem,decide_eq_false_iff_not]at h
   exact List.nodup_cons.2 ⟨h.1,nodupB_spec h.2⟩
mutual
def AV.out (f:Nat→Nat):AV→AV
  | .sl b off n=> .sl (f b) off n
  | .pt b off=> .pt (f b) off
  | .itr b=> .itr (f b)
  | .ag l=> .ag (AV.outAll f l)
  | .tu l=> .tu (AV.outAll f l)
  | .fn g l=> .fn g (AV.outAll f l)
  |a=>a
def AV.outAll (f:Nat→Nat):List AV→List AV
  | []=>[]
  |a::r=>AV.out f a::AV.outAll f r
end
def f2_ (f:Nat→Nat)(B:Blk):Blk:=if B.op then { B with cells:=AV.outAll f B.cells} else B
def r1_ (m:List Nat)(N:Nat)(i:Nat):Nat:=if i<m.length then m.getD i 0 else N+(i-m.length)
def backHeap (m:List Nat)(hp hp':Heap):Heap:=
  (List.range (hp.length+(hp'.length-m.length))).map fun b=>
    if b<hp.length then
      match m.findIdx? (· ==b)with
      |some i=>(hp'.getD i none).map (f2_ (r1_ m hp.length))
      |none=>hp.getD b none
    else(hp'.getD (m.length+(b-hp.length)) none).map (f2_ (r1_ m hp.length))
def hCall (spec:HSpec)(args:List AV)(hp:Heap):Option (AV×Heap×List Prop):=
  let m:=reach hp 3 (dedup (AV.refsAll args) [])
  match spec (AV.renAll m args) (m.map fun b=>(hp.getD b none).map (o0_ m))with
  |some (r,hp',q)=>if nodupB m=true∧m.length≤hp'.length∧m.all (fun b=>decide (b<hp.length))=true then
     some (r.out (r1_ m hp.length),backHeap m hp hp',q)
   else none
  |none=>none
noncomputable def p3_ [Gv](P:Program)(sg:Specs)(hsg:HSpecs)(fuel:Nat):Nat→CallT
  |0=>fun _ _ _=>none
  |n+1=>fun f args hp=>match hsg f with
   |some spec=>hCall spec args hp
   |none=>match sg f with
    |some spec=>match g1_ hp P args with
     |some as=>match spec as with
      |some r=>bySpec P f args hp r
      |none=>none
     |none=>none
    |none=>z8_ P (p3_ P sg hsg fuel n) {} (fun _=>none) fuel f args hp
omit [Gv]in
theorem VR.renTo {w:World}{ι κ:Pl}{m:List Nat}(h1:∀i b,m[i]? =some b→κ i=(ι b).unfresh)(h2:∀g,ι.un g→κ.un g){o:Bool}{a:AV}{v:Value}(hv:VR P w ι o a v):VR P w κ o (a.ren m) v:=by
  induction hv with
  |any=>simp only[AV.ren];exact .any
  |c=>simp only[AV.ren];exact .c
  |slDead hd=>
   simp only[AV.ren]
   split
   ·rename_i i hi
    exact .slDead (by rw[h1 _ _ (r5_ hi),hd];rfl)
   ·exact .any
  |slZero=>
   simp only[AV.ren]
   split
   ·exact .slZero
   ·exact .any
  |slAt hg hh hn hs hm=>
   simp only[AV.ren]
   split
   ·rename_i i hi
    exact .slAt (by rw[h1 _ _ (r5_ hi),hg];rfl) hh hn hs hm
   ·exact .any
  |ptDead hd=>
   simp only[AV.ren]
   split
   ·rename_i i hi
    exact .ptDead (by rw[h1 _ _ (r5_ hi),hd];rfl)
   ·exact .any
  |pt hg hh=>
   simp only[AV.ren]
   split
   ·rename_i i hi
    exact .pt (by rw[h1 _ _ (r5_ hi),hg];rfl) hh
   ·exact .any
  |itrDead hd=>
   simp only[AV.ren]
   split
   ·rename_i i hi
    exact .itrDead (by rw[h1 _ _ (r5_ hi),hd];rfl)
   ·exact .any
  |itr hg=>
   simp only[AV.ren]
   split
   ·rename_i i hi
    exact .itr (by rw[h1 _ _ (r5_ hi),hg];rfl)
   ·exact .any
  |fsZero=>simp only[AV.ren];exact .fsZero
  |fs hn hl hg hno hc h1' hr _=>simp only[AV.ren];exact .fs hn hl hg (h2 _ hno) hc h1' fun j hj=>(hr j hj).shrink rfl h2
  |fp hg hno hc h1' hr _=>simp only[AV.ren];exact .fp hg (h2 _ hno) hc h1' fun j hj=>(hr j hj).shrink rfl h2
  |ag hl h1' _ ih=>
   simp only[AV.ren]
   exact .ag (by rw[v4_];exact hl) (fun j hj=>h1' j (by rw[v4_]at hj;exact hj)) fun j hj=>by rw[p8_];exact ih j (by rw[v4_]at hj;exact hj)
  |tu hl _ ih=>
   simp only[AV.ren]
   exact .tu (by rw[v4_];exact hl) fun j hj=>by rw[p8_];exact ih j (by rw[v4_]at hj;exact hj)
  |fn hl _ ih=>
   simp only[AV.ren]
   exact .fn (by rw[v4_];exact hl) fun j hj=>by rw[p8_];exact ih j (by rw[v4_]at hj;exact hj)
omit [Gv]in
theorem o7_ (f:Nat→Nat):∀l:List AV,(AV.outAll f l).length=l.length
  | []=>rfl
  |a::r=>by simp[AV.outAll,o7_ f r]
omit [Gv]in
theorem b5_ (f:Nat→Nat):∀(l:List AV) (j:Nat),(AV.outAll f l).getD j .any=(l.getD j .any).out f
  | [],j=>by simp[AV.outAll,AV.out]
  |a::r,0=>by simp[AV.outAll]
  |a::r,j+1=>by simpa [AV.outAll]using b5_ f r j
omit [Gv]in
theorem VR.outTo {w:World}{κ ι:Pl}{f:Nat→Nat}(h1:∀i,ι (f i)=κ i)(h2:∀g,κ.un g→ι.un g){o:Bool}{a:AV}{v:Value}(hv:VR P w κ o a v):VR P w ι o (a.out f) v:=by
  induction hv with
  |any=>simp only[AV.out];exact .any
  |c=>simp only[AV.out];exact .c
  |slDead hd=>simp only[AV.out];exact .slDead (by rw[h1,hd])
  |slZero=>simp only[AV.out];exact .slZero
  |slAt hg hh hn hs hm=>simp only[AV.out];exact .slAt (by rw[h1,hg]) hh hn hs hm
  |ptDead hd=>simp only[AV.out];exact .ptDead (by rw[h1,hd])
  |pt hg hh=>simp only[AV.out];exact .pt (by rw[h1,hg]) hh
  |itrDead hd=>simp only[AV.out];exact .itrDead (by rw[h1,hd])
  |itr hg=>simp only[AV.out];exact .itr (by rw[h1,hg])
  |fsZero=>simp only[AV.out];exact .fsZero
  |fs hn hl hg hno hc h1' hr _=>simp only[AV.out];exact .fs hn hl hg (h2 _ hno) hc h1' fun j hj=>(hr j hj).shrink rfl h2
  |fp hg hno hc h1' hr _=>simp only[AV.out];exact .fp hg (h2 _ hno) hc h1' fun j hj=>(hr j hj).shrink rfl h2
  |ag hl h1' _ ih=>
   simp only[AV.out]
   exact .ag (by rw[o7_];exact hl) (fun j hj=>h1' j (by rw[o7_]at hj;exact hj)) fun j hj=>by rw[b5_];exact ih j (by rw[o7_]at hj;exact hj)
  |tu hl _ ih=>
   simp only[AV.out]
   exact .tu (by rw[o7_];exact hl) fun j hj=>by rw[b5_];exact ih j (by rw[o7_]at hj;exact hj)
  |fn hl _ ih=>
   simp only[AV.out]
   exact .fn (by rw[o7_];exact hl) fun j hj=>by rw[b5_];exact ih j (by rw[o7_]at hj;exact hj)
def Pl.cut (ι:Pl)(m:List Nat):Pl:= { at_:=placeOf ι m,hid:=fun g=>ι.hid g∨∃b,ι b= .here g∧b ∉ m}
omit [Gv]in
theorem cut_at {ι:Pl}{m:List Nat}{i b:Nat}(h:m[i]? =some b):ι.cut m i=(ι b).unfresh:=k9_ (ι:=ι) h
omit [Gv]in
theorem cut_none {ι:Pl}{m:List Nat}{i:Nat}(h:m[i]? =none):ι.cut m i= .fresh:=ren_none (ι:=ι) h
omit [Gv]in
theorem cut_here {ι:Pl}{m:List Nat}{i g:Nat}(h:ι.cut m i= .here g):∃b,m[i]? =some b∧ι b= .here g:=ren_here (ι:=ι) h
omit [Gv]in
theorem cut_un {ι:Pl}{m:List Nat}{g:Nat}(h:ι.un g):(ι.cut m).un g:=
  ⟨fun i hi=>by obtain⟨b,_,hb⟩:=cut_here hi;exact h.1 b hb,fun hh=>by
    rcases hh with hh|⟨b,hb,_⟩
    ·exact h.2 hh
    ·exact h.1 b hb⟩
theorem cut_rel {w:World}{ι:Pl}{hp:Heap}{m:List Nat}(hnd:m.Nodup)(h:HpRel P w ι hp):HpRel P w (ι.cut m) (m.map fun b=>(hp.getD b none).map (o0_ m)):=by
  refine⟨fun i=>?_,?_,?_,?_,fun g l hg=>(h.gl g l hg).shrink rfl (fun g hg=>cut_un hg)⟩
  ·simp only[List.getElem?_map]
   cases hm:m[i]? with
   |none=>exact cut_none hm
   |some b=>
    simp only[Option.map_some]
    have hb:=h.blk b
    cases hs:hp[b]? with
    |none=>
     rw[hs]at hb
     have:hp.getD b none=none:=by simp[List.getD,hs]
     rw[this]
     show ι.cut m i= .dead
     rw[cut_at hm,show ι b= .fresh from hb];rfl
    |some x=>
     rw[hs]at hb
     have:hp.getD b none=x:=by simp[List.getD,hs]
     rw[this]
     cases x with
     |none=>
      show ι.cut m i= .dead
      rw[cut_at hm,show ι b= .dead from hb];rfl
     |some B=>
      show BlkOK P w (ι.cut m) i (o0_ m B)
      have hc:(o0_ m B).cells.length=B.cells.length:=by unfold o0_;split<;>simp[v4_]
      have hop:(o0_ m B).op=B.op:=by unfold o0_;split<;>rfl
      have hee:(o0_ m B).e=B.e:=by unfold o0_;split<;>rfl
      rcases hb with⟨k1,k2⟩|⟨g,cur,fz,k1,k2,k3,k4,k5,k6⟩|⟨g,s,pos,k1,k2,k3,k4⟩
      ·refine .inl ⟨by rw[cut_at hm,k1];rfl,?_⟩
       exact List.eq_nil_of_length_eq_zero (by rw[hc,k2];rfl)
      rotate_left
      ·refine .inr (.inr ⟨g,s,pos,by rw[cut_at hm,k1];rfl,?_,k3,by rw[hop];exact k4⟩)
       unfold o0_
       rw[if_pos k4]
       simp only[k2,AV.renAll,AV.ren]
      ·refine .inr (.inl ⟨g,cur,fz,by rw[cut_at hm,k1];rfl,by rw[hee];exact k2,by rw[hee];exact k3,by rw[hc];exact k4,by rw[hc];exact k5,fun j hj=>?_⟩)
       rw[hc]at hj
       rw[hop]
       have hr:=k6 j hj
       unfold o0_
       split
       ·rename_i ho
        rw[ho]at hr ⊢
        simp only[p8_]
        exact hr.renTo (fun i b hi=>cut_at hi) (fun g hg=>cut_un hg)
       ·rename_i ho
        have ho':B.op=false:=by simpa using ho
        rw[ho']at hr ⊢
        exact hr.shrink rfl (fun g hg=>cut_un hg)
  ·intro i j g hi hj
   obtain⟨b,hb1,hb2⟩:=cut_here hi
   obtain⟨b',hb1',hb2'⟩:=cut_here hj
   have:=h.inj _ _ _ hb2 hb2'
   subst this
   exact(List.getElem?_inj (List.getElem?_eq_some_iff.1 hb1).1 hnd).1 (hb1.trans hb1'.symm)
  ·intro i g hi hh
   obtain⟨b,hb1,hb2⟩:=cut_here hi
   rcases hh with hh|⟨b',hb',hn⟩
   ·exact h.nohid b g hb2 hh
   ·have:=h.inj _ _ _ hb2 hb'
    subst this
    exact hn (List.mem_of_getElem? hb1)
  ·intro g hh
   rcases hh with hh|⟨b,hb,_⟩
   ·exact h.hlt g hh
   ·exact h.lt hb
def Pl.join (ι κ:Pl)(m:List Nat)(N:Nat):Pl:=
  { at_:=fun b=>if b<N then(match m.findIdx? (· ==b)with|some i=>κ i| .none=>ι b)else κ (m.length+(b-N)),hid:=ι.hid}
omit [Gv]in
theorem join_back {ι κ:Pl}{m:List Nat}{N:Nat}(hnd:m.Nodup)(hlt:∀b∈m,b<N)(i:Nat):ι.join κ m N (r1_ m N i)=κ i:=by
  simp only[Pl.join]
  unfold r1_
  by_cases hi:i<m.length
  ·simp only[hi,if_true]
   have e:m.getD i 0=m[i]:=by simp[List.getD,hi]
   rw[e,if_pos (hlt _ (List.getElem_mem hi))]
   have hf:m.findIdx? (· ==m[i])=some i:=by
     rw[List.findIdx?_eq_some_iff_getElem]
     refine⟨hi,by simp,fun j hj=>?_⟩
     simp only[beq_iff_eq,Bool.not_eq_true,beq_eq_false_iff_ne,ne_eq]
     intro he
     have:=(List.getElem_inj hnd).1 he
     omega
   rw[hf]
  ·simp only[hi,if_false]
   rw[if_neg (by omega)]
   congr 1
   omega
omit [Gv]in
theorem l9_ {ι κ:Pl}{m:List Nat}{N b:Nat}(hb:b<N)(hm:b ∉ m):ι.join κ m N b=ι b:=by
  simp only[Pl.join]
  rw[if_pos hb]
  have:m.findIdx? (· ==b)=none:=by
    rw[List.findIdx?_eq_none_iff]
    intro x hx
    simp only[beq_eq_false_iff_ne,ne_eq]
    rintro rfl
    exact hm hx
  rw[this]
omit [Gv]in
theorem back_cases (m:List Nat)(N b:Nat):(∃i,b=r1_ m N i)∨(b<N∧b ∉ m):=by
  by_cases hb:b<N
  ·by_cases hm:b∈m
   ·obtain⟨i,hi,rfl⟩:=List.getElem_of_mem hm
    refine .inl ⟨i,?_⟩
    unfold r1_
    rw[if_pos hi]
    simp[List.getD,hi]
   ·exact .inr ⟨hb,hm⟩
  ·refine .inl ⟨m.length+(b-N),?_⟩
   unfold r1_
   rw[if_neg (by omega)]
   omega
theorem hCall_ok {f:FuncId}{spec:HSpec}(hs:u0_ P f spec){args:List AV}{hp:Heap}{r:AV}{hp':Heap}{p:List Prop}(h:hCall spec args hp=some (r,hp',p))(hp0:z7_ p)
    {w:World} {ι:Pl} {vs:Array Value} (hh:HpRel P w ι hp) (hl:args.length=vs.size) (hv:∀j,j<args.length→VR P w ι true (args.getD j .any) (vs.getD j undef)):
    HasBody P f∧Calls P f vs w fun e w'=>∃v ι',e= .returned v∧Ext w ι w' ι'∧HpRel P w' ι' hp'∧VR P w' ι' true r v:=by
  unfold hCall at h
  simp only at h
  generalize reach hp 3 (dedup (AV.refsAll args) [])=m at h
  split at h
  ·rename_i r0 hp0' q hspec
   split at h
   ·rename_i hc
    obtain⟨hc1,hlen,hc3⟩:=hc
    have hnd:=nodupB_spec hc1
    have hlt:∀b∈m,b<hp.length:=fun b hb=>by simpa using List.all_eq_true.1 hc3 b hb
    simp only[oi_]at h
    obtain⟨rfl,rfl,rfl⟩:=h
    obtain⟨hbody,hcalls⟩:=hs _ _ _ _ _ hspec hp0 w (ι.cut m) vs (cut_rel hnd hh) (by rw[v4_];exact hl) (fun j hj=>by
      rw[v4_]at hj
      rw[p8_]
      exact(hv j hj).renTo (fun i b hi=>cut_at hi) (fun g hg=>cut_un hg))
    refine⟨hbody,hcalls.mono fun e w' ⟨v,κ',he,hext,hhp,hr⟩=>?_⟩
    have hback:∀i,ι.join κ' m hp.length (r1_ m hp.length i)=κ' i:=join_back hnd hlt
    have hhidk:∀b g,ι b= .here g→b ∉ m→κ'.hid g:=fun b g hb hn=>by rw[hext.hid];exact .inr ⟨b,hb,hn⟩
    have hun:∀g,κ'.un g→(ι.join κ' m hp.length).un g:=by
      intro g hg
      refine⟨fun b hb=>?_,fun hx=>hg.2 (by rw[hext.hid];exact .inl hx)⟩
      rcases back_cases m hp.length b with⟨i,rfl⟩|⟨h1,h2⟩
      ·rw[hback]at hb;exact hg.1 i hb
      ·rw[l9_ h1 h2]at hb;exact hg.2 (hhidk b g hb h2)
    have fresh:∀b,hp.length≤b→ι b= .fresh:=fun b hb=>by
      have:=hh.blk b
      rw[List.getElem?_eq_none hb]at this
      exact this
    have E:Ext w ι w' (ι.join κ' m hp.length):=by
      refine⟨hext.os,hext.tape,hext.output,hext.size,rfl,fun g hg hx=>hext.hkeep g hg (.inl hx),fun g hg hx=>?_,fun b g hb=>?_,fun b hb=>?_⟩
      ·obtain⟨e1,e2⟩:=hext.blk g hg (cut_un hx)
       exact⟨e1,hun g e2⟩
      ·have hbl:b<hp.length:=by
         rcases Nat.lt_or_ge b hp.length with h|h
         ·exact h
         ·rw[fresh b h]at hb;cases hb
       by_cases hm:b∈m
       ·obtain⟨i,hi,rfl⟩:=List.getElem_of_mem hm
        have hi':m[i]? =some m[i]:=List.getElem?_eq_getElem hi
        have hF:r1_ m hp.length i=m[i]:=by unfold r1_;rw[if_pos hi];simp[List.getD,hi]
        have hk:=hback i
        rw[hF]at hk
        rw[hk]
        exact hext.own i g (by rw[cut_at hi',hb];rfl)
       ·refine .inr ⟨by rw[l9_ hbl hm];exact hb,fun cur e fz hcur=>⟨cur,fz,?_,rfl⟩⟩
        rw[hext.hkeep g (hh.lt hb) (.inr ⟨b,hb,hm⟩)]
        exact hcur
      ·have hbl:b<hp.length:=by
         rcases Nat.lt_or_ge b hp.length with h|h
         ·exact h
         ·rw[fresh b h]at hb;cases hb
       by_cases hm:b∈m
       ·obtain⟨i,hi,rfl⟩:=List.getElem_of_mem hm
        have hi':m[i]? =some m[i]:=List.getElem?_eq_getElem hi
        have hF:r1_ m hp.length i=m[i]:=by unfold r1_;rw[if_pos hi];simp[List.getD,hi]
        have hk:=hback i
        rw[hF]at hk
        rw[hk]
        exact hext.dead i (by rw[cut_at hi',hb];rfl)
       ·rw[l9_ hbl hm];exact hb
    refine⟨v,_,he,E,?_,hr.outTo hback hun⟩
    have getB:∀i,(backHeap m hp hp0')[r1_ m hp.length i]? =(hp0'[i]?).map (Option.map (f2_ (r1_ m hp.length))):=by
      intro i
      unfold backHeap
      rw[List.getElem?_map]
      by_cases hi:i<m.length
      ·have hF:r1_ m hp.length i=m[i]:=by unfold r1_;rw[if_pos hi];simp[List.getD,hi]
       have hml:=hlt _ (List.getElem_mem hi)
       have hf:m.findIdx? (· ==m[i])=some i:=by
         rw[List.findIdx?_eq_some_iff_getElem]
         refine⟨hi,by simp,fun j hj=>?_⟩
         simp only[beq_iff_eq,Bool.not_eq_true,beq_eq_false_iff_ne,ne_eq]
         intro he
         have:=(List.getElem_inj hnd).1 he
         omega
       have hi2:i<hp0'.length:=by omega
       generalize r1_ m hp.length=F at hF ⊢
       rw[hF,List.getElem?_range (by omega)]
       simp only[Option.map_some,hml,if_true,hf]
       simp[List.getD,hi2]
      ·have hF:r1_ m hp.length i=hp.length+(i-m.length):=by unfold r1_;rw[if_neg hi]
       generalize r1_ m hp.length=F at hF ⊢
       rw[hF]
       by_cases hi2:i<hp0'.length
       ·rw[List.getElem?_range (by omega)]
        simp only[Option.map_some]
        rw[if_neg (by omega)]
        have:m.length+(hp.length+(i-m.length)-hp.length)=i:=by omega
        rw[this]
        simp[List.getD,hi2]
       ·rw[List.getElem?_eq_none (by simp;omega),List.getElem?_eq_none (by omega)]
        rfl
    have getO:∀b,b<hp.length→b ∉ m→(backHeap m hp hp0')[b]? =hp[b]? :=by
      intro b hb hm
      unfold backHeap
      rw[List.getElem?_map,List.getElem?_range (by omega)]
      have:m.findIdx? (· ==b)=none:=by
        rw[List.findIdx?_eq_none_iff]
        intro x hx
        simp only[beq_eq_false_iff_ne,ne_eq]
        rintro rfl
        exact hm hx
      simp only[Option.map_some,hb,if_true,this]
      simp[List.getD,hb]
    refine⟨fun b=>?_,fun b b' g hb hb'=>?_,fun b g hb hx=>?_,fun g hg=>Nat.lt_of_lt_of_le (hh.hlt g hg) hext.size,fun g l hg=>(hh.gl g l hg).mono E⟩
    ·rcases back_cases m hp.length b with⟨i,rfl⟩|⟨h1,h2⟩
     ·rw[getB]
      have hbi:=hhp.blk i
      cases hx:hp0'[i]? with
      |none=>rw[hx]at hbi;exact(hback i).trans hbi
      |some x=>
       rw[hx]at hbi
       cases x with
       |none=>exact(hback i).trans hbi
       |some B=>
        show BlkOK P w' (ι.join κ' m hp.length) (r1_ m hp.length i) (f2_ (r1_ m hp.length) B)
        have hc:(f2_ (r1_ m hp.length) B).cells.length=B.cells.length:=by unfold f2_;split<;>simp[o7_]
        have hop:(f2_ (r1_ m hp.length) B).op=B.op:=by unfold f2_;split<;>rfl
        have hee:(f2_ (r1_ m hp.length) B).e=B.e:=by unfold f2_;split<;>rfl
        rcases hbi with⟨k1,k2⟩|⟨g,cur,fz,k1,k2,k3,k4,k5,k6⟩|⟨g,s,pos,k1,k2,k3,k4⟩
        ·refine .inl ⟨(hback i).trans k1,?_⟩
         exact List.eq_nil_of_length_eq_zero (by rw[hc,k2];rfl)
        rotate_left
        ·refine .inr (.inr ⟨g,s,pos,(hback i).trans k1,?_,k3,by rw[hop];exact k4⟩)
         unfold f2_
         rw[if_pos k4]
         simp only[k2,AV.outAll,AV.out]
        ·refine .inr (.inl ⟨g,cur,fz,(hback i).trans k1,by rw[hee];exact k2,by rw[hee];exact k3,by rw[hc];exact k4,by rw[hc];exact k5,fun j hj=>?_⟩)
         rw[hc]at hj
         rw[hop]
         have hr:=k6 j hj
         unfold f2_
         split
         ·rename_i ho
          rw[ho]at hr ⊢
          simp only[b5_]
          exact hr.outTo hback hun
         ·rename_i ho
          have ho':B.op=false:=by simpa using ho
          rw[ho']at hr ⊢
          exact hr.shrink rfl hun
     ·rw[getO b h1 h2]
      exact(hh.blk b).ext E (l9_ h1 h2) (fun g hg=>hext.hkeep g (hh.lt hg) (.inr ⟨b,hg,h2⟩))
    ·rcases back_cases m hp.length b with⟨i,rfl⟩|⟨h1,h2⟩<;>rcases back_cases m hp.length b' with⟨i',rfl⟩|⟨h1',h2'⟩
     ·rw[hback]at hb hb'
      rw[hhp.inj _ _ _ hb hb']
     ·rw[hback]at hb;rw[l9_ h1' h2']at hb'
      exact absurd (hhidk b' g hb' h2') (hhp.nohid _ _ hb)
     ·rw[hback]at hb';rw[l9_ h1 h2]at hb
      exact absurd (hhidk b g hb h2) (hhp.nohid _ _ hb')
     ·rw[l9_ h1 h2]at hb;rw[l9_ h1' h2']at hb'
      exact hh.inj _ _ _ hb hb'
    ·have hx':ι.hid g:=hx
     rcases back_cases m hp.length b with⟨i,rfl⟩|⟨h1,h2⟩
     ·rw[hback]at hb
      exact hhp.nohid _ _ hb (by rw[hext.hid];exact .inl hx')
     ·rw[l9_ h1 h2]at hb
      exact hh.nohid _ _ hb hx'
   ·simp at h
  ·simp at h
theorem s3_ (hm:P.follows .mixedOrders=true){sg:Specs}{hsg:HSpecs}(hs1:∀f spec,sg f=some spec→w2_ P f spec)(hs2:∀f spec,hsg f=some spec→u0_ P f spec)(fuel:Nat):∀n,x7_ P (p3_ P sg hsg fuel n)
  |0=>fun f args hp r hp' p h=>by simp[p3_]at h
  |n+1=>by
   intro f args hp r hp' p h hp0 w ι vs hh hl hv
   simp only[p3_]at h
   split at h
   ·rename_i spec hspec
    exact hCall_ok (hs2 f spec hspec) h hp0 hh hl hv
   ·split at h
    ·rename_i spec hs
     split at h
     ·rename_i l hf
      split at h
      ·rename_i x hr
       obtain⟨r0,q0⟩:=x
       exact bySpec_ok (hs1 f spec hs) hh hl hv hf hr h hp0
      ·simp at h
     ·simp at h
    ·exact d2_ rlExt hm (s3_ hm hs1 hs2 fuel n) (lpNone _ _) h hp0 hh hl hv
theorem hspec_of (hm:P.follows .mixedOrders=true){cl:CallT}(hcl:x7_ P cl){f:FuncId}{spec:HSpec}
    (h:∀args hp r hp' q,spec args hp=some (r,hp',q)→z7_ q→∃hs fuel p,z8_ P cl hs (fun _=>none) fuel f args hp=some (r,hp',p)∧z7_ p):u0_ P f spec:=by
  intro args hp r hp' q hspec hq w ι vs hh hl hv
  obtain⟨hs,fuel,p,hb,hp0⟩:=h args hp r hp' q hspec hq
  exact d2_ rlExt hm hcl (lpNone _ _) hb hp0 hh hl hv
def killAll (ks:List Nat)(hp:Heap):Heap:=ks.foldl (fun h b=>List.set h b none) hp
def y5_ (ks:List Nat):Option (AV×Heap×List Prop)→Option (AV×Heap×List Prop)
  |some (r,hp,p)=>some (r,killAll ks hp,p)
  |none=>none
theorem c4_ {w:World} :∀(ks:List Nat) {ι:Pl} {hp:Heap},HpRel P w ι hp→∃ι',Ext w ι w ι'∧HpRel P w ι' (killAll ks hp)
  | [],ι,hp,h=>⟨ι,Ext.refl _ _,h⟩
  |b::r,ι,hp,h=>by
   by_cases hb:b<hp.length
   ·obtain⟨e,h1⟩:=h.kill hb
    obtain⟨ι',e2,h2⟩:=c4_ r h1
    exact⟨ι',e.trans e2,h2⟩
   ·have:List.set hp b none=hp:=List.set_eq_of_length_le (by omega)
    show ∃ι',Ext w ι w ι'∧HpRel P w ι' (killAll r (List.set hp b none))
    rw[this]
    exact c4_ r h
theorem n6_ (hm:P.follows .mixedOrders=true){cl:CallT}(hcl:x7_ P cl){f:FuncId}{spec:HSpec}
    (h:∀args hp r hp' q,spec args hp=some (r,hp',q)→z7_ q→∃ks hs fuel p,y5_ ks (z8_ P cl hs (y1_ []) fuel f args hp)=some (r,hp',p)∧z7_ p):u0_ P f spec:=by
  intro args hp r hp' q hspec hq w ι vs hh hl hv
  obtain⟨ks,hs,fuel,p,hb,hp0⟩:=h args hp r hp' q hspec hq
  cases hb1:z8_ P cl hs (y1_ []) fuel f args hp with
  |none=>rw[hb1]at hb;simp[y5_]at hb
  |some x=>
   obtain⟨r1,hp1,p1⟩:=x
   rw[hb1]at hb
   simp only[y5_,Option.some.injEq,Prod.mk.injEq]at hb
   obtain⟨rfl,rfl,rfl⟩:=hb
   obtain⟨hbody,hcalls⟩:=d2_ rlExt hm hcl (lpNone _ _) (lp:=y1_ []) hb1 hp0 hh hl hv
   refine⟨hbody,hcalls.mono fun e w' ⟨v,ι',he,hext,hhp,hr⟩=>?_⟩
   obtain⟨ι2,e2,h2⟩:=c4_ ks hhp
   exact⟨v,ι2,he,hext.trans e2,h2,hr.mono e2⟩
def m0_:List (FuncId×HSpec)→HSpecs
  | [],_=>none
  |(k,s)::r,f=>if f=k then some s else m0_ r f
theorem s8_:∀f spec,m0_ [] f=some spec→u0_ P f spec:=fun _ _ h=>by cases h
theorem w5_ {k:FuncId}{s:HSpec}{r:List (FuncId×HSpec)}(h:u0_ P k s)(hr:∀f spec,m0_ r f=some spec→u0_ P f spec):∀f spec,m0_ ((k,s)::r) f=some spec→u0_ P f spec:=by
  intro f spec hf
  have hf:(if f=k then some s else m0_ r f)=some spec:=hf
  split at hf
  ·rename_i he
   cases hf;rw[he];exact h
  ·exact hr f spec hf
end Go.Proofs.YtmjldphagbobpaaDoor
namespace Go.Proofs.YtmjldphagbobpaaDoor
open IntKind (i64 u8 i32 u32 u64)
open Go.RowKit
variable [Gv]
omit [Gv]in
theorem i32_wrap {c:Int}(h1: -2147483648≤c)(h2:c≤2147483647):i32.wrap c=c:=wrap_in .i32 c h1 h2
omit [Gv]in
theorem p6_ {c:Int}(h1:0≤c)(h2:c≤255):u8.wrap c=c:=wrap_in .u8 c h1 h2
omit [Gv]in
theorem i64_wrap {c:Int}(h1: -9223372036854775808≤c)(h2:c≤9223372036854775807):i64.wrap c=c:=wrap_in .i64 c h1 h2
omit [Gv]in
theorem q8_ {c:Int}(h1:0≤c)(h2:c≤4294967295):u32.wrap c=c:=wrap_in .u32 c h1 h2
omit [Gv]in
theorem u64_wrap {c:Int}(h1:0≤c)(h2:c≤18446744073709551615):u64.wrap c=c:=wrap_in .u64 c h1 h2
omit [Gv]in
theorem tdN {a:Int}{k:Int}(h:0≤a):Int.tdiv a k=a/k:=Int.tdiv_eq_ediv_of_nonneg h
omit [Gv]in
theorem tmN {a:Int}{k:Int}(h:0≤a):Int.tmod a k=a%k:=Int.tmod_eq_emod_of_nonneg h
omit [Gv]in
theorem bytesOK_nil:u4_ []↔True:=⟨fun _=>trivial,fun _=>rfl⟩
omit [Gv]in
theorem bytesOK_cons (z:Int)(r:List AV):u4_ (.c (.int .u8 z)::r)↔(0≤z∧z<256)∧u4_ r:=by
  unfold u4_
  simp only[List.all_cons,isByte,Bool.and_eq_true,decide_eq_true_eq]
omit [Gv]in
theorem i32_min:i32.min= -2147483648:=by decide
omit [Gv]in
theorem i32_max:i32.max=2147483647:=by decide
omit [Gv]in
theorem u8_ofNat_eq {a b:Nat}(h:a=b):UInt8.ofNat a=UInt8.ofNat b:=by rw[h]
variable {P:Program}
theorem n9_ {α:Type}{cl:CallT}(hm:P.follows .mixedOrders=true)(hcl:x7_ P cl){b:Code}(I:α→St)(Inv:α→Prop)(μ:α→Nat){e:Exit}{R:St}
    (round:∀x,Inv x→(∃x',Inv x'∧μ x'<μ x∧x1_ Ext0 P cl b (I x) .normal (I x'))∨(e≠ .normal∧x1_ Ext0 P cl b (I x) e R)) (x0:α) (h0:Inv x0):Tri Ext0 P (.loop b) (I x0) e R:=
  loop_ok hm hcl (α:= {x:α // Inv x}) (fun x=>I x.val) (fun x=>μ x.val) (fun x=>by
    rcases round x.val x.property with⟨x',h,hm,hr⟩|h
    ·exact .inl ⟨⟨x',h⟩,hm,hr⟩
    ·exact .inr h) ⟨x0,h0⟩
theorem d6_ {cl:CallT}(hm:P.follows .mixedOrders=true)(hcl:x7_ P cl){b:Code}(I:Nat→St)(n:Nat){e:Exit}{R:St}(he:e≠ .normal)
    (round:∀i,i<n→x1_ Ext0 P cl b (I i) .normal (I (i+1))) (stop:x1_ Ext0 P cl b (I n) e R) (i:Nat) (hi:i≤n):Tri Ext0 P (.loop b) (I i) e R:=
  n9_ hm hcl I (fun i=>i≤n) (fun i=>n-i) (fun i hi=>by
    by_cases h:i<n
    ·exact .inl ⟨i+1,h,by omega,round i h⟩
    ·have:i=n:=by omega
     subst this
     exact .inr ⟨he,stop⟩) i hi
omit [Gv]in
theorem drop_cons (l:List UInt8)(i:Nat)(h:i<l.length):l.drop i=l.getD i 0::l.drop (i+1):=by
  rw[List.drop_eq_getElem_cons h]
  simp[List.getD,h]
omit [Gv]in
theorem v0_ {p:Prop}(b:Bool)(h1:b=true→p)(h2:b=false→p):p:=by
  cases b with
  |true=>exact h1 rfl
  |false=>exact h2 rfl
end Go.Proofs.YtmjldphagbobpaaDoor
