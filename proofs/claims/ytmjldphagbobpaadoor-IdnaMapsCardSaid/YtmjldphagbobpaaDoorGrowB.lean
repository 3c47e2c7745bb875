import Derived.Test.YtmjldphagbobpaaDoorGrowA
import Derived.Test.YtmjldphagbobpaaDoorShelfG
set_option linter.unusedVariables false
set_option linter.unusedSimpArgs false
namespace Go.Proofs.YtmjldphagbobpaaDoor
open _root_.Go.Proofs.Tryd renaming prog→p_
open Go.Proofs Go.Shelf Go.RowKit
def growSpec:HSpec
  | [.pt 0 0,.c (.int .i64 n)],[some ⟨t,true,[.pt 0 0,.c (.slice none 0 0)]⟩]=>if t=56 then
      some (.tu [],[some ⟨56,true,[.pt 0 0,.sl 1 0 0]⟩,some ⟨5,false,[]⟩],[0≤n,n≤281474976710656])else none
  |_,_=>none
theorem growX:Builder.Extra p_ Tryd.lays241_ren where
  sizeBuilder:=by kernel_rfl
  liesBuilder:=by kernel_rfl
  t5:=Tryd.underlying5
  a5:=Tryd.isAgg5
  z5:=Tryd.sizeOf5
  v5:=Tryd.zeroValue5
  infoByte:=by kernel_rfl
  cellsByte:=by kernel_rfl
  sizeByte:=by kernel_rfl
  neB5:=by decide
theorem frozen_no {w:World}{g o:Nat}{cur:Array Value}{e:TypeId}{fz:Nat×Nat}(hg:w.heap[g]? =some (.cells cur e fz))(hf:¬(fz.1≤o∧o<fz.2)):w.frozen? ⟨g,o,none⟩=false:=by
  obtain⟨f1,f2⟩:=fz
  simp only[World.frozen?,hg]
  simp only[Bool.and_eq_false_iff,decide_eq_false_iff_not]
  simp only at hf
  omega
theorem grow_body:HasBody p_ 49:=
  ⟨_,_,Tryd.func49,rfl,by decide⟩
theorem grow_ok:u0_ p_ 49 growSpec:=by
  intro args hp r hp' q hs hq w ι vs hh hl hv
  unfold growSpec at hs
  split at hs
  ·rename_i n t
   split at hs
   ·rename_i ht
    subst ht
    simp only[oi_]at hs
    obtain⟨rfl,rfl,rfl⟩:=hs
    obtain⟨h0,h1,_⟩:=hq
    obtain⟨l⟩:=vs
    match l,hl with
    | [v0,v1],_=>
    have hv0:=hv 0 (by simp)
    have hv1:=hv 1 (by simp)
    simp only[List.getD_cons_zero,List.getD_cons_succ]at hv0 hv1
    have e0:(#[v0,v1]:Array Value).getD 0 undef=v0:=rfl
    have e1:(#[v0,v1]:Array Value).getD 1 undef=v1:=rfl
    rw[e0]at hv0
    rw[e1]at hv1
    cases hv1
    have hb:=hh.live (b:=0) (B:=⟨56,true,[.pt 0 0,.c (.slice none 0 0)]⟩) rfl
    have hnd:=hh.notDead (b:=0) (B:=⟨56,true,[.pt 0 0,.c (.slice none 0 0)]⟩) rfl
    rcases hb with⟨_,hx⟩|⟨g,cur,fz,hg,hc,hfz,hsz,h1c,hr⟩|⟨_,_,_,_,hx,_⟩
    ·cases hx
    ·have hsz2:2≤cur.size:=hsz
     cases hv0 with
     |ptDead hd=>exact absurd hd hnd
     |pt hg' hc'=>
      rename_i g' cur' e' fz'
      rw[hg]at hg'
      cases hg'
      have hr1:=hr 1 (by decide)
      have hr0:=hr 0 (by decide)
      have hk1:cur.getD 1 undef= .slice none 0 0:=by
        have:VR p_ w ι true (.c (.slice none 0 0)) (cur.getD 1 undef):=hr1
        generalize cur.getD 1 undef=x at this
        cases this
        rfl
      have c0:w.cell? ⟨g,1,none⟩=some (.slice none 0 0):=by
        rw[←hk1]
        simp[World.cell?,hc,Array.getD,show 1<cur.size from hsz2]
      have f0:w.frozen? ⟨g,1,none⟩=false:=frozen_no hc (hfz.in_ 1 (by omega))
      have hlt:=hh.lt hg
      obtain⟨m,rfl⟩:∃m:Nat,n=m:=⟨n.toNat,by omega⟩
      obtain⟨cs,hle,hmax,hcall⟩:=grow_exact Tryd.lays241 growX g m w c0 f0 hlt (by omega)
      refine⟨grow_body,hcall.mono ?_⟩
      rintro e w' ⟨rfl,hos,htp,hout,hheap⟩
      obtain⟨ext1,hp1⟩:=hh.push (w':=w.alloc (.cells cs 5)) (cur:=cs) (fz:=(0,0)) (B:=⟨5,false,[]⟩) (s4_ _ _) ⟨fun off _ hx=>(by simp at hx),fun hx=>absurd (hx.symm.trans (show isU8 p_ 5=true from by kernel_rfl)) (by simp),fun hx=>absurd (hx.symm.trans (show isU8 p_ 5=true from by kernel_rfl)) (by simp)⟩ (by simp) (by intro j hj;simp at hj) (by intro j hj;simp at hj)
      have hc1:(w.alloc (.cells cs 5)).heap[g]? =some (.cells cur 56 fz):=(s4_ w (.cells cs 5)).old hlt |>.trans hc
      have hcn:(w.alloc (.cells cs 5)).heap[w.heap.size]? =some (.cells cs 5 (0,0)):=(s4_ w (.cells cs 5)).new
      have hput:Put (w.alloc (.cells cs 5)) w' g (cur.setIfInBounds 1 (.slice (some ⟨w.heap.size,0,none⟩) 0 cs.size)) 56 fz:=by
        have hset:(w.alloc (.cells cs 5)).setCell ⟨g,1,none⟩ (.slice (some ⟨w.heap.size,0,none⟩) 0 cs.size)=(w.alloc (.cells cs 5)).setRow g (cur.setIfInBounds 1 (.slice (some ⟨w.heap.size,0,none⟩) 0 cs.size)):=setCell_eq_setRow _ g 1 cur _ fz _ hc1
        have hh2:w'.heap=((w.alloc (.cells cs 5)).setRow g (cur.setIfInBounds 1 (.slice (some ⟨w.heap.size,0,none⟩) 0 cs.size))).heap:=by rw[hheap,←hset];rfl
        have hp0:=put_setRow (w.alloc (.cells cs 5)) g cur (cur.setIfInBounds 1 (.slice (some ⟨w.heap.size,0,none⟩) 0 cs.size)) _ fz hc1
        exact⟨hos,htp,hout,by rw[hh2];exact hp0.size,by rw[hh2];exact hp0.here,fun k hk=>by rw[hh2];exact hp0.other k hk⟩
      have hne:(0:Nat)≠1:=by decide
      have hg1:(upd ι 1 (.here w.heap.size)) 0= .here g:=by rw[y6_ hne];exact hg
      have hwr:=hp1.write (b:=0) (g:=g) (cur:=cur) (cur':=cur.setIfInBounds 1 (.slice (some ⟨w.heap.size,0,none⟩) 0 cs.size)) (fz:=fz) (B:=⟨56,true,[.pt 0 0,.sl 1 0 0]⟩) hg1 (by decide) hc1 hput (by simp) (hfz.same (by simp) (fun hu j hj=>by
          have hj2:j<cur.size:=by simpa using hj
          by_cases hj1:j=1
          ·subst hj1
           have he:(cur.setIfInBounds 1 (.slice (some ⟨w.heap.size,0,none⟩) 0 cs.size)).getD 1 undef= .slice (some ⟨w.heap.size,0,none⟩) 0 cs.size:=by
             simp[Array.getD,show 1<cur.size from by omega]
           rw[he];rfl
          ·have:=hfz.one hu j hj2
           simpa [Array.getD,Array.getElem_setIfInBounds,hj2,Ne.symm hj1]using this)) (by simpa using hsz2)
        (by
          intro j hj
          have:j<2:=hj
          by_cases hj1:j=1
          ·subst hj1
           have he:(cur.setIfInBounds 1 (.slice (some ⟨w.heap.size,0,none⟩) 0 cs.size)).getD 1 undef= .slice (some ⟨w.heap.size,0,none⟩) 0 cs.size:=by
             simp[Array.getD,show 1<cur.size from by omega]
           rw[he]
           rfl
          ·have hj0:j=0:=by omega
           subst hj0
           have:=h1c 0 (by decide)
           simpa [Array.getD,Array.getElem_setIfInBounds,show 0<cur.size from by omega]using this)
        (by
          intro j hj
          have:j<2:=hj
          by_cases hj1:j=1
          ·subst hj1
           have he:(cur.setIfInBounds 1 (.slice (some ⟨w.heap.size,0,none⟩) 0 cs.size)).getD 1 undef= .slice (some ⟨w.heap.size,0*p_.cellsOf 5,none⟩) 0 cs.size:=by
             simp[Array.getD,show 1<cur.size from by omega]
           rw[he]
           exact .slAt (by simp) hcn (Nat.zero_le _) (by rw[show p_.cellsOf 5=1 from by kernel_rfl];omega) hmax
          ·have hj0:j=0:=by omega
           subst hj0
           have he:(cur.setIfInBounds 1 (.slice (some ⟨w.heap.size,0,none⟩) 0 cs.size)).getD 0 undef=cur.getD 0 undef:=by
             simp[Array.getD,Array.getElem_setIfInBounds,show 0<cur.size from by omega]
           rw[he]
           exact VR.mono ext1 hr0)
      obtain⟨ext2,hp2⟩:=hwr
      exact⟨_,_,rfl,ext1.trans ext2,hp2,.tu rfl (by intro j hj;simp at hj)⟩
    ·cases hx
   ·simp at hs
  ·simp at hs
end Go.Proofs.YtmjldphagbobpaaDoor
