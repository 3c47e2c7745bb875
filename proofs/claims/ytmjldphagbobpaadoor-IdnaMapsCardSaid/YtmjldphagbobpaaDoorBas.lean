import Derived.Test.YtmjldphagbobpaaDoorLevN
import Derived.Test.YtmjldphagbobpaaDoorRows
import Derived.Lib.LaidU8T
import Derived.Lib.RuneBytes
set_option linter.unusedVariables false
set_option linter.unusedSimpArgs false
namespace Go.Proofs.YtmjldphagbobpaaDoor
open IntKind (i64 u8 i32 u32 u64)
open _root_.Go.Proofs.Tryd renaming prog→p_
open Go.RowKit
def GlAt (P:Program)(w:World)(x:Nat×List AV):Prop:=VR P w Pl.none false (.fp x.2) (.pointer (some ⟨x.1,0,none⟩))
def gvLook:List (Nat×List AV)→Nat→Option (List AV)
  | [],_=>none
  |x::r,g=>if g=x.1 then some x.2 else gvLook r g
theorem gvLook_mem:∀{L:List (Nat×List AV)} {g:Nat} {l:List AV},gvLook L g=some l→(g,l)∈L
  | [],_,_,h=>by cases h
  |x::r,g,l,h=>by
   unfold gvLook at h
   split at h
   ·rename_i hg
    subst hg
    obtain rfl:=Option.some.inj h
    exact List.mem_cons_self
   ·exact List.mem_cons_of_mem _ (gvLook_mem h)
theorem plNone_un (g:Nat):Pl.none.un g:=⟨fun b hb=>by simp[Pl.none]at hb,fun hh=>hh.elim⟩
def numAV (k:IntKind)(zs:List Int):List AV:=zs.map fun z=> .c (.int k z)
theorem glAt_ints {P:Program}{w:World}{g:Nat}{k:IntKind}{zs:List Int}(hp:0<zs.length)(h:∀j,j<zs.length→w.cell? ⟨g,j,none⟩=some (.int k (zs.getD j 0))):GlAt P w (g,numAV k zs):=by
  have hlen:(numAV k zs).length=zs.length:=by simp[numAV]
  refine .fp (us:=fun j=> .int k (zs.getD j 0)) (World.block_lt_of_cell? w _ (h 0 hp)) (plNone_un _) (fun j hj=>?_) (fun j hj=>rfl) (fun j hj=>?_)
  ·rw[hlen]at hj;simpa using h j hj
  ·rw[hlen]at hj
   have:(numAV k zs).getD j .any= .c (.int k (zs.getD j 0)):=by simp[numAV,List.getD,hj]
   rw[this];exact .c
def t0_:List AV:=(List.range 256).map fun c=> .c (.int .u8 (Lib.firstT c:Nat))
def s6_:List AV:=(List.range 16).flatMap fun i=>[.c (.int .u8 (Lib.accLo i:Nat)),.c (.int .u8 (Lib.accHi i:Nat))]
def gvU:List (Nat×List AV):=[(0,t0_),(1,s6_)]
theorem glU {w:World}(h:Lib.Utf8Tabs 0 1 w):∀x∈gvU,GlAt p_ w x:=by
  intro x hx
  rcases List.mem_cons.1 hx with rfl|hx
  ·have hlen:t0_.length=256:=by simp[t0_]
   have h0:=h.1 0 (by decide)
   refine .fp (us:=fun j=> .int .u8 (Lib.firstT j:Nat)) (World.block_lt_of_cell? w _ h0) (plNone_un _) (fun j hj=>?_) (fun j hj=>rfl) (fun j hj=>?_)
   ·rw[hlen]at hj;simpa using h.1 j hj
   ·rw[hlen]at hj
    have:t0_.getD j .any= .c (.int .u8 (Lib.firstT j:Nat)):=by simp[t0_,List.getD,hj]
    rw[this];exact .c
  ·obtain rfl:=List.mem_singleton.1 hx
   have hlen:s6_.length=32:=by decide
   have h0:=(h.2 0 (by decide)).1
   have key:∀j,j<32→s6_.getD j .any= .c (.int .u8 ((if j%2=0 then Lib.accLo (j/2)else Lib.accHi (j/2):Nat):Int)):=by
     intro j hj
     have e:s6_=(List.range 32).map fun j=>AV.c (.int .u8 ((if j%2=0 then Lib.accLo (j/2)else Lib.accHi (j/2):Nat):Int)):=by kernel_rfl
     rw[e]
     simp[List.getD,hj]
   refine .fp (us:=fun j=> .int .u8 ((if j%2=0 then Lib.accLo (j/2)else Lib.accHi (j/2):Nat):Int)) (World.block_lt_of_cell? w _ h0) (plNone_un _) (fun j hj=>?_) (fun j hj=>rfl) (fun j hj=>?_)
   ·rw[hlen]at hj
    have hk:=h.2 (j/2) (by omega)
    rcases Nat.mod_two_eq_zero_or_one j with hm|hm
    ·rw[if_pos hm]
     have e:j=2*(j/2):=by omega
     rw[Nat.zero_add,e]
     have e2:2*(j/2)/2=j/2:=by omega
     rw[e2]
     exact hk.1
    ·rw[if_neg (by omega)]
     have e:j=2*(j/2)+1:=by omega
     rw[Nat.zero_add,e]
     have e2:(2*(j/2)+1)/2=j/2:=by omega
     rw[e2]
     exact hk.2
   ·rw[hlen]at hj
    rw[key j hj];exact .c
def gvM:List (Nat×List AV):=[]
def gvL:List (Nat×List AV):=gvU++gvM
instance gvHere:Gv:=⟨gvLook gvL⟩
theorem glOK_of {w:World}(h:∀x∈gvL,GlAt p_ w x):GlOK p_ w:=fun g l hg=>h (g,l) (gvLook_mem hg)
theorem mixed:p_.follows .mixedOrders=true:=by kernel_rfl
noncomputable def cl0:CallT:=l3_ p_ (r4_ []) 500 8
theorem w6_:x7_ p_ cl0:=q7_ mixed v2_ 500 8
theorem av_f {x y:Nat}(h:x=y):y0_ (.c (.float .f64 x)) (.c (.float .f64 y)):=by subst h;exact u3_ _
theorem bytesOK1 (c:UInt8):u4_ [AV.c (Value.int IntKind.u8 (c.toNat:Nat))]:=n3_ [c]
theorem sl1 (c:UInt8)(r:List UInt8):List.drop 1 (List.take (r.length+1) (c::r))=r:=by simp
theorem p5_ (l:List UInt8):sb ⟨⟨l⟩⟩=l:=rfl
theorem u8_wf {a:Int}(h:(Lit.int .u8 a).wf=true):0≤a∧a<256:=by
  simp[Lit.wf,IntKind.min,IntKind.max,IntKind.signed,IntKind.bits]at h;omega
theorem l7_:Int.toNat (0:Int)=0:=rfl
theorem r9_:Int.toNat (1:Int)=1:=rfl
theorem q0_:Int.toNat (2:Int)=2:=rfl
theorem drop_getB (l:List UInt8)(i j:Nat):(l.drop i).getD j 0=l.getD (i+j) 0:=by
  simp[List.getD,List.getElem?_drop]
theorem c3_ (l:List UInt8):List.take l.length (z6_ l)=z6_ l:=List.take_of_length_le (by rw[w0_];exact Nat.le_refl _)
theorem byts_all (l:List UInt8):List.take l.length (List.drop 0 (z6_ l))=z6_ l:=by rw[List.drop_zero,c3_]
theorem byts_put (out x:List UInt8):(z6_ out).take out.length++z6_ x=z6_ (out++x):=by rw[c3_,h1_]
theorem byte_all {p:UInt8→Prop}(h:∀k:Fin 256,p (UInt8.ofNat k.val))(c:UInt8):p c:=by
  have:=h ⟨c.toNat,c.toNat_lt⟩
  simpa using this
theorem u8_ne {c:UInt8}{k:Nat}(hk:k<256)(h:c≠UInt8.ofNat k):¬(c.toNat:Int)=(k:Nat):=by
  intro e
  apply h
  apply UInt8.toNat_inj.1
  rw[UInt8.toNat_ofNat']
  omega
theorem u8_cast {a:Int}(h0:0≤a)(h1:a<256):∃c:UInt8,a=(c.toNat:Nat):=⟨UInt8.ofNat a.toNat,by
  rw[UInt8.toNat_ofNat']
  omega⟩
theorem i64_wf {a:Int}(h:(Lit.int .i64 a).wf=true): -9223372036854775808≤a∧a≤9223372036854775807:=by
  simp[Lit.wf,IntKind.min,IntKind.max,IntKind.signed,IntKind.bits]at h;omega
theorem str_wf {l:List UInt8}(h:(⟨⟨l⟩⟩:ByteArray).size≤maxLen):l.length≤9223372036854775807:=h
theorem spec_by {P:Program}{f:FuncId}{spec:Spec}(h:∀args r q,spec args=some (r,q)→z7_ q→∃s,w2_ P f s∧∃q',s args=some (r,q')∧z7_ q'):w2_ P f spec:=
  fun args r q hs hq w κ vs hh hl hv=>by
    obtain⟨s,ok,q',h1,h2⟩:=h args r q hs hq
    exact ok args r q' h1 h2 w κ vs hh hl hv
theorem byteMap_ok {f:FuncId}{cl:CallT}(hcl:x7_ p_ cl){g:Int→Value}(h:(List.range 256).map (fun n=>y3_ p_ f (z8_ p_ cl {} (y1_ []) 60 f [.c (.int .u8 (Int.ofNat n))] []))=(List.range 256).map (fun n=>some (.c (g (Int.ofNat n)),[]))):w2_ p_ f (byteSpec g):=by
  refine v5_ mixed hcl fun args r q hs hq=>?_
  unfold byteSpec at hs
  split at hs
  ·rename_i n
   simp only[oi_]at hs
   obtain⟨rfl,rfl⟩:=hs
   obtain⟨h0,h1,_⟩:=hq
   have hh:=byAll 256 h n.toNat (by omega)
   have e:Int.ofNat n.toNat=n:=Int.toNat_of_nonneg h0
   simp only[e]at hh
   exact⟨{},y1_ [],60,[],z4_,hh,trivial⟩
  ·simp at hs
theorem dz:((∀(p:Prop) [Decidable p],(decide p=true)=p)∧(∀(p:Prop) [Decidable p],(decide p=false)↔¬p))∧
    ((∀(α:Type) [BEq α] [LawfulBEq α] (a b:α),(a==b)=true↔a=b)∧(∀(α:Type) [BEq α] [LawfulBEq α] (a b:α),(a==b)=false↔¬a=b))∧
    ((∀(α:Type) [BEq α] [LawfulBEq α] (a b:α),(a !=b)=true↔¬a=b)∧(∀(α:Type) [BEq α] [LawfulBEq α] (a b:α),(a !=b)=false↔a=b))∧
    (((0:Int).toNat=0∧(1:Int).toNat=1∧(2:Int).toNat=2)∧(∀n:Nat,(n:Int).toNat=n)∧(∀l:List UInt8,sb ⟨⟨l⟩⟩=l)):=
  ⟨⟨fun p _=>decide_eq_true_eq,fun p _=>decide_eq_false_iff_not⟩,⟨fun α _ _ a b=>beq_iff_eq,fun α _ _ a b=>beq_eq_false_iff_ne⟩,⟨fun α _ _ a b=>bne_iff_ne,fun α _ _ a b=>bne_eq_false_iff_eq⟩,⟨⟨rfl,rfl,rfl⟩,fun n=>Int.toNat_natCast n,fun _=>rfl⟩⟩
theorem std:((∀(p:Prop) (r:List Prop),z7_ (p::r)=(p∧z7_ r))∧z7_ []=True∧(∀l:List UInt8,sb ⟨⟨l⟩⟩=l)∧(∀(c:UInt8) (r:List UInt8),List.drop 1 (List.take (r.length+1) (c::r))=r))∧
    (((0:Int).toNat=0∧(1:Int).toNat=1∧(2:Int).toNat=2)∧(∀n:Nat,(n:Int).toNat=n))∧
    ((∀(α:Type) (l:List α),l.take l.length=l)∧(∀(α:Type) (a:α) (l:List α) (n:Nat),(a::l).take (n+1)=a::l.take n)∧(∀(α:Type) (a:α) (l:List α) (n:Nat),(a::l).drop (n+1)=l.drop n)∧(∀(α:Type) (l:List α),l.drop 0=l)∧(∀(α:Type) (l:List α),l.take 0=[])∧(∀(α:Type) (a:α) (l:List α),(a::l).length=l.length+1)∧(∀(α:Type),([]:List α).length=0)∧(∀(α:Type) (a d:α) (l:List α),(a::l).getD 0 d=a))∧
    ((∀c:Int,-9223372036854775808≤c→c≤9223372036854775807→i64.wrap c=c)∧(∀c:Int,-2147483648≤c→c≤2147483647→i32.wrap c=c)∧(∀c:Int,0≤c→c≤255→u8.wrap c=c)∧(∀c:Int,0≤c→c≤4294967295→u32.wrap c=c)∧(∀a k:Int,0≤a→Int.tdiv a k=a/k)∧(∀a k:Int,0≤a→Int.tmod a k=a%k))∧
    (i64.min= -9223372036854775808∧i64.max=9223372036854775807∧u8.min=0∧u8.max=255)∧
    (((∀(p:Prop) [Decidable p],(decide p=true)=p)∧(∀(p:Prop) [Decidable p],(decide p=false)↔¬p))∧
    ((∀(α:Type) [BEq α] [LawfulBEq α] (a b:α),(a==b)=true↔a=b)∧(∀(α:Type) [BEq α] [LawfulBEq α] (a b:α),(a==b)=false↔¬a=b))∧
    ((∀(α:Type) [BEq α] [LawfulBEq α] (a b:α),(a !=b)=true↔¬a=b)∧(∀(α:Type) [BEq α] [LawfulBEq α] (a b:α),(a !=b)=false↔a=b)))∧
    ((¬False)=True∧(∀p:Prop,(p∧True)=p)∧(∀p:Prop,(True∧p)=p)∧(∀a:Int,0-a= -a)):=
  ⟨⟨fun _ _=>rfl,rfl,fun _=>rfl,sl1⟩,⟨⟨rfl,rfl,rfl⟩,fun n=>Int.toNat_natCast n⟩,⟨fun _ l=>List.take_length,fun _ _ _ _=>rfl,fun _ _ _ _=>rfl,fun _ _=>rfl,fun _ _=>List.take_zero,fun _ _ _=>rfl,fun _=>rfl,fun _ _ _ _=>rfl⟩,
    ⟨fun _ h1 h2=>i64_wrap h1 h2,fun _ h1 h2=>i32_wrap h1 h2,fun _ h1 h2=>p6_ h1 h2,fun _ h1 h2=>q8_ h1 h2,fun _ _ h=>tdN h,fun _ _ h=>tmN h⟩,⟨j5_,j4_,u8_min,u8_max⟩,
    ⟨dz.1,dz.2.1,dz.2.2.1⟩,⟨by simp,fun p=>and_true p,fun p=>true_and p,fun a=>Int.zero_sub a⟩⟩
end Go.Proofs.YtmjldphagbobpaaDoor
