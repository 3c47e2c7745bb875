import Derived.Test.YtmjldphagbobpaaDoorLevN
import Derived.OpenShut
set_option linter.unusedVariables false
set_option linter.unusedSimpArgs false
namespace Go.Proofs.YtmjldphagbobpaaDoor
open Go.RowKit
def IsRow (k:IntKind)(w:World)(a:Option Addr)(len cap:Nat)(zs:List Int):Prop:=
  (a=none∧len=0∧cap=0∧zs=[])∨
  ∃x,a=some x∧len≤cap∧cap≤maxLen∧zs.length=cap∧(∀i,i<zs.length→w.cell? (x.add i)=some (.int k (zs.getD i 0)))∧∀n∈zs,(Lit.int k n).wf=true
theorem row_fs {P:Program}{k:IntKind}{w:World}{a:Option Addr}{len cap:Nat}{zs:List Int}(h:IsRow k w a len cap zs):
    len≤maxLen∧(∀n∈zs.take len,(Lit.int k n).wf=true)∧(zs.take len).length=len∧VR P w Pl.none true (.fs 1 len ((zs.take len).map fun n=> .c (.int k n))) (.slice a len cap):=by
  rcases h with⟨rfl,rfl,rfl,rfl⟩|⟨x,rfl,h1,h2,h3,h4,h5⟩
  ·exact⟨Nat.zero_le _,by simp,rfl,.fsZero⟩
  ·have hl:(zs.take len).length=len:=by rw[List.length_take];omega
   refine⟨by omega,fun n hn=>h5 n (List.mem_of_mem_take hn),hl,?_⟩
   by_cases h0:len=0
   ·subst h0
    exact .fsZero
   ·obtain⟨b,off,rfl,hc⟩:=Go.ints_at h4 (by omega)
    have hc0:=hc 0 (by omega)
    refine .fs (us:=fun j=> .int k (zs.getD j 0)) h1 ?_ (World.block_lt_of_cell? w _ hc0) ⟨fun b hb=>by simp[Pl.none]at hb,fun hh=>hh.elim⟩ (fun j hj=>?_) (fun j hj=>rfl) (fun j hj=>?_)
    ·rw[List.length_map,hl];omega
    ·rw[List.length_map,hl]at hj
     exact hc j (by omega)
    ·rw[List.length_map,hl]at hj
     have e:((zs.take len).map fun n=>AV.c (.int k n)).getD j .any= .c (.int k (zs.getD j 0)):=by
       have hj2:j<zs.length:=by omega
       simp[List.getD,List.getElem?_take,hj,hj2]
     rw[e];exact .c
theorem bytes_of:∀(zs:List Int),(∀n∈zs,(Lit.int .u8 n).wf=true)→∃l:List UInt8,zs.map (fun n=>AV.c (.int .u8 n))=z6_ l∧l.length=zs.length
  | [],_=>⟨[],rfl,rfl⟩
  |z::r,h=>by
   obtain⟨l,h1,h2⟩:=bytes_of r fun n hn=>h n (.tail _ hn)
   have hz:0≤z∧z<256:=by
     have:=h z (.head _)
     simp[Lit.wf,IntKind.min,IntKind.max,IntKind.signed,IntKind.bits]at this;omega
   refine⟨UInt8.ofNat z.toNat::l,?_,by simp[h2]⟩
   have e:AV.c (.int .u8 z)=t4_ (UInt8.ofNat z.toNat):=by
     unfold t4_
     rw[UInt8.toNat_ofNat']
     have:((z.toNat%2^8:Nat):Int)=z:=by omega
     rw[this]
   rw[List.map_cons,h1,e]
   rfl
theorem row_bytes {P:Program}{w:World}{a:Option Addr}{len cap:Nat}{zs:List Int}(h:IsRow .u8 w a len cap zs):
    ∃l:List UInt8,l.length=len∧len≤maxLen∧VR P w Pl.none true (.fs 1 l.length (z6_ l)) (.slice a len cap):=by
  obtain⟨h1,h2,h3,h4⟩:=row_fs (P:=P) h
  obtain⟨l,e1,e2⟩:=bytes_of _ h2
  rw[h3]at e2
  exact⟨l,e2,h1,by rw[e2,←e1];exact h4⟩
def rowI (L:List Int):List AV:=L.map fun n=> .c (.int .i64 n)
theorem row_ints {P:Program}{w:World}{a:Option Addr}{len cap:Nat}{zs:List Int}(h:IsRow .i64 w a len cap zs):
    ∃L:List Int,L.length=len∧len≤maxLen∧(∀n∈L,-9223372036854775808≤n∧n≤9223372036854775807)∧VR P w Pl.none true (.fs 1 L.length (rowI L)) (.slice a len cap):=by
  obtain⟨h1,h2,h3,h4⟩:=row_fs (P:=P) h
  refine⟨zs.take len,h3,h1,fun n hn=>?_,by rw[h3];exact h4⟩
  have:=h2 n hn
  simp[Lit.wf,IntKind.min,IntKind.max,IntKind.signed,IntKind.bits]at this;omega
variable {P:Program}
theorem args1 {w:World}{a:AV}{v:Value}(h:VR P w Pl.none true a v):∀j,j< [a].length→VR P w Pl.none true ([a].getD j .any) (#[v].getD j undef):=by
  intro j hj
  have:j=0:=by simpa using hj
  subst this;exact h
theorem args2 {w:World}{a b:AV}{u v:Value}(h1:VR P w Pl.none true a u)(h2:VR P w Pl.none true b v):∀j,j< [a,b].length→VR P w Pl.none true ([a,b].getD j .any) (#[u,v].getD j undef):=by
  intro j hj
  have:j=0∨j=1:=by simp at hj;omega
  rcases this with rfl|rfl
  ·exact h1
  ·exact h2
theorem args3 {w:World}{a b c:AV}{u v x:Value}(h1:VR P w Pl.none true a u)(h2:VR P w Pl.none true b v)(h3:VR P w Pl.none true c x):∀j,j< [a,b,c].length→VR P w Pl.none true ([a,b,c].getD j .any) (#[u,v,x].getD j undef):=by
  intro j hj
  have:j=0∨j=1∨j=2:=by simp at hj;omega
  rcases this with rfl|rfl|rfl
  ·exact h1
  ·exact h2
  ·exact h3
end Go.Proofs.YtmjldphagbobpaaDoor
