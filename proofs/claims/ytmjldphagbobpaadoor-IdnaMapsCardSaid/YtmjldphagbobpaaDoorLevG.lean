import Derived.WalkKit
import Derived.WalkSpells
import Derived.WalkLawsBesides
import Derived.Lib.Bytealg
import Derived.ShutString
import Derived.Lib.UnsafeStr
import Derived.Laws.RangeString
import Derived.Lib.Builder
import Derived.Lib.OthersKept
set_option linter.unusedVariables false
set_option linter.unusedSimpArgs false
namespace Go.Proofs.YtmjldphagbobpaaDoor
theorem oi_:(∀(α:Type) (a b:α),(some a=some b)=(a=b))∧(∀(α β:Type) (a c:α) (b d:β),((a,b)=(c,d))=(a=c∧b=d)):=⟨fun _ _ _=>Option.some.injEq ..,fun _ _ _ _ _ _=>Prod.mk.injEq ..⟩
open IntKind (i64 u8 i32 u32 u64)
open Go.RowKit
inductive AV where
  |any
  |c (v:Value)
  |sl (b off n:Nat)
  |pt (b off:Nat)
  |fs (s n:Nat) (l:List AV)
  |fp (l:List AV)
  |ag (l:List AV)
  |tu (l:List AV)
  |fn (f:FuncId) (l:List AV)
  |itr (b:Nat)
  |iter (s:List UInt8) (pos:Nat)
class Gv where
  gv:Nat→Option (List AV)
structure Blk where
  e:TypeId
  op:Bool
  cells:List AV
abbrev Heap:=List (Option Blk)
structure St where
  fr:List AV
  hp:Heap
inductive Cmd where
  |nop
  |push (B:Blk)
  |set (b:Nat) (B:Blk)
  |move (b:Nat) (B:Blk)
  |kill (b:Nat)
def Cmd.run:Cmd→Heap→Heap
  | .nop,h=>h
  | .push B,h=>h++[some B]
  | .set b B,h=>List.set h b (some B)
  | .move b B,h=>List.set h b none++[some B]
  | .kill b,h=>List.set h b none
def Cmd.withCells (l:List AV):Cmd→Cmd
  | .nop=> .nop
  | .push B=> .push { B with cells:=l}
  | .set b B=> .set b { B with cells:=l}
  | .move b B=> .move b { B with cells:=l}
  | .kill b=> .kill b
def Cmd.cells:Cmd→List AV
  | .nop| .kill _=>[]
  | .push B| .set _ B| .move _ B=>B.cells
structure Ck where
  p:Prop
  b:Bool
  ok:b=true→p
def ck (p:Prop)[Decidable p]:Ck:=⟨p,decide p,fun h=>of_decide_eq_true h⟩
def Ck.all:List Ck→Bool
  | []=>true
  |k::r=>k.b&&Ck.all r
def Ck.conj:List Ck→Prop
  | []=>True
  |k::r=>k.p∧Ck.conj r
def z7_:List Prop→Prop
  | []=>True
  |p::r=>p∧z7_ r
theorem u5_:∀{l k:List Prop},z7_ (l++k)→z7_ l∧z7_ k
  | [],_,h=>⟨trivial,h⟩
  |_::_,_,h=>⟨⟨h.1,(u5_ h.2).1⟩,(u5_ h.2).2⟩
def Ck.props:List Ck→List Prop
  | []=>[]
  |k::r=>k.p::Ck.props r
theorem Ck.conj_of_props:∀(l:List Ck),z7_ (Ck.props l)→Ck.conj l
  | [],_=>trivial
  |_::r,h=>⟨h.1,Ck.conj_of_props r h.2⟩
theorem Ck.conj_of_all:∀(l:List Ck),Ck.all l=true→Ck.conj l
  | [],_=>trivial
  |k::r,h=>by
   simp only[Ck.all,Bool.and_eq_true]at h
   exact⟨k.ok h.1,Ck.conj_of_all r h.2⟩
def sb (s:ByteArray):List UInt8:=s.data.toList
def str (l:List UInt8):Value:= .string ⟨⟨l⟩⟩
def t4_ (x:UInt8):AV:= .c (.int .u8 x.toNat)
def z6_ (l:List UInt8):List AV:=l.map t4_
def q2_ (i s:Nat):Nat:=if s=1 then i else i*s
theorem t3_ (i s:Nat):q2_ i s=i*s:=by
  unfold q2_;split
  ·subst s;omega
  ·rfl
def pr {α:Type}(P:Program):Sem α→Option α
  | .pure a=>some a
  | .program k=>pr P (k P)
  | .mark _ k=>pr P k
  |_=>none
theorem pr_run {α:Type}(P:Program)(s:Sem α)(a:α)(w:World)(h:pr P s=some a):s.run P w= .ok a w:=by
  induction s with
  |pure x=>simp[pr]at h;subst h;rfl
  |program k ih=>exact ih P (by simpa [pr]using h)
  |mark m k ih=>exact ih (by simpa [pr]using h)
  |_=>simp[pr]at h
def AV.conc:AV→Value
  | .c v=>v
  |_=>undef
def AV.isC:AV→Bool
  | .c _=>true
  |_=>false
noncomputable def getL (l:List AV):Nat→AV:=List.rec (motive:=fun _=>Nat→AV) (fun _=> .any) (fun a _ ih n=>Nat.rec (motive:=fun _=>AV) a (fun m _=>ih m) n) l
noncomputable def setL (l:List AV):Nat→AV→List AV:=List.rec (motive:=fun _=>Nat→AV→List AV) (fun _ _=>[]) (fun a r ih n v=>Nat.rec (motive:=fun _=>List AV) (v::r) (fun m _=>a::ih m v) n) l
theorem getL_eq:∀(l:List AV) (n:Nat),getL l n=l.getD n .any
  | [],n=>by simp[getL]
  |a::r,0=>rfl
  |a::r,n+1=>by
   have:=getL_eq r n
   simpa [getL]using this
theorem setL_eq:∀(l:List AV) (n:Nat) (v:AV),setL l n v=List.set l n v
  | [],n,v=>by simp[setL]
  |a::r,0,v=>rfl
  |a::r,n+1,v=>by
   have:=setL_eq r n v
   simp only[setL]at this ⊢
   simp[this]
def gEv [Gv](g:Nat):AV:=
  match Gv.gv g with
  |some l=> .fp l
  |none=> .any
noncomputable def aEv [Gv](fr:List AV):Operand→AV
  | .tmp t=>getL fr t
  | .const v=> .c v
  | .func f=> .c (.func (.func f) #[] #[])
  | .global g=>gEv g
mutual
def AV.closed:AV→Bool
  | .sl .. | .pt .. | .itr _=>false
  | .ag l| .tu l| .fn _ l=>AV.closedAll l
  |_=>true
def AV.closedAll:List AV→Bool
  | []=>true
  |a::r=>AV.closed a&&AV.closedAll r
end
def AV.cellsOf (hp:Heap)(s:Nat):AV→Option (List AV)
  | .ag l=>if l.length=s then some l else none
  | .c (.agg cs)=>if cs.size=s∧cs.toList.all (·.oneCell')=true then some (cs.toList.map .c)else none
  | .c (.tuple _)| .tu _| .any| .itr _| .iter .. =>none
  | .sl b off n=>match hp[b]? with
    |some (some _)=>if s=1 then some [.sl b off n]else none
    |_=>none
  | .pt b off=>match hp[b]? with
    |some (some _)=>if s=1 then some [.pt b off]else none
    |_=>none
  |a=>if s=1 then some [a]else none
def sBin (op:BinOp):Value→Value→Option Value
  | .int k a,.int k' b=>
    if k=k' then
      match op with
      | .add=>some (.int k (k.wrap (a+b)))
      | .sub=>some (.int k (k.wrap (a-b)))
      | .mul=>some (.int k (k.wrap (a*b)))
      | .eql=>some (.bool (a==b))
      | .neq=>some (.bool (a !=b))
      | .lss=>some (.bool (a<b))
      | .leq=>some (.bool (a≤b))
      | .gtr=>some (.bool (a>b))
      | .geq=>some (.bool (a≥b))
      |_=>none
    else none
  | .string a,.string b=>
    match op with
    | .eql=>some (.bool (sb a==sb b))
    | .neq=>some (.bool !(sb a==sb b))
    |_=>none
  |_,_=>none
def fArith:BinOp→Bool
  | .add| .sub| .mul| .quo=>true
  |_=>false
def fBin (op:BinOp):Value→Value→Option (Ck×Value)
  | .float .f64 a,.float .f64 b=>if fArith op=true then some (ck ((floatBits op .f64 a b).isSome=true),.float .f64 ((floatBits op .f64 a b).getD 0))else none
  |_,_=>none
def fCnv (P:Program)(s d:TypeId):AV→Option Value
  | .c (.int _ n)=>match P.underlying s,P.underlying d with
    |some _,some (.float .f64)=>some (.float .f64 (floatOfInt .f64 n))
    |_,_=>none
  |_=>none
def lohi (ev:Operand→AV)(lo hi:Option Operand)(n:Nat):Option (Int×Int):=
  match lo.map ev,hi.map ev with
  |none,none=>some (0,n)
  |some (.c (.int _ l)),none=>some (l,n)
  |none,some (.c (.int _ h))=>some (0,h)
  |some (.c (.int _ l)),some (.c (.int _ h))=>some (l,h)
  |_,_=>none
def isAggT (P:Program)(t:TypeId):Option Bool:=
  match P.underlying t with
  |some (.struct _)|some (.array ..)=>some true
  |some _=>some false
  |none=>none
def ldAV (P:Program)(t:TypeId)(l:List AV):Option (List Ck×AV):=
  match isAggT P t with
  |some true=>some ([ck (P.cellsOf t≤l.length)],.ag (l.take (P.cellsOf t)))
  |some false=>some ([ck (0<l.length)],l.headD .any)
  |none=>none
def unbyte:AV→UInt8
  | .c (.int _ n)=>UInt8.ofNat n.toNat
  |_=>0
def isByte:AV→Bool
  | .c (.int .u8 n)=>decide (0≤n∧n<256)
  |_=>false
def x8_ (l:List AV):List UInt8:=l.map unbyte
def u4_ (l:List AV):Prop:=l.all isByte=true
instance (l:List AV):Decidable (u4_ l):=inferInstanceAs (Decidable (_=true))
def newsOf (P:Program)(hp:Heap)(e:TypeId):AV→Option (List Ck×Nat×Bool×List AV)
  | .sl b off n=>match hp[b]? with
    |some (some B)=>if B.e=e then some ([ck (q2_ (n+off) (P.cellsOf e)≤B.cells.length)],n,B.op,(B.cells.drop (q2_ off (P.cellsOf e))).take (q2_ n (P.cellsOf e)))else none
    |_=>none
  | .fs s n l=>if s=P.cellsOf e then some ([ck (l.length=q2_ n s)],n,false,l)else none
  | .c (.slice none 0 0)=>some ([],0,false,[])
  | .c (.string s)=>if P.cellsOf e=1 then some ([],(sb s).length,false,z6_ (sb s))else none
  |_=>none
def e2_ (hp:Heap)(place:Nat→Option (Nat×Nat))(cells:List AV):List (Nat×AV)→Option (List AV)
  | []=>some cells
  |(i,v)::rest=>
   match place i with
   |none=>none
   |some (off,size)=>
    match v.cellsOf hp size with
    |none=>none
    |some cs=>if off+size≤cells.length then e2_ hp place (cells.take off++cs++cells.drop (off+size)) rest else none
def seqFill (hp:Heap)(place:Nat→Option (Nat×Nat)):Nat→List (Nat×AV)→Option (List AV)
  |_,[]=>some []
  |off,(i,v)::r=>match place i with
   |some (o,s)=>if o=off then
      match v.cellsOf hp s with
      |some cs=>match seqFill hp place (off+s) r with
       |some l=>some (cs++l)
       |none=>none
      |none=>none
    else none
   |none=>none
def fillQ (hp:Heap)(place:Nat→Option (Nat×Nat))(cells:List AV)(parts:List (Nat×AV)):Option (List AV):=
  match seqFill hp place 0 parts with
  |some l=>if l.length=cells.length then some l else e2_ hp place cells parts
  |none=>e2_ hp place cells parts
def b1_ (P:Program)(t:TypeId):Option (List AV):=((P.info? t).bind (·.zero)).bind fun z=>if z.cells.toList.all (·.oneCell')=true then some (z.cells.toList.map .c)else none
def c6_ (n:Nat)(l:List AV):List AV:=
  match l with
  | [x]=>List.replicate n x
  |l=>(List.replicate n l).flatten
abbrev Res:=List Ck×AV×Cmd
def i0_ (P:Program)(t:TypeId):Option TypeId:=
  match P.underlying t with
  |some (.slice e)=>if 0<P.cellsOf e then some e else none
  |_=>none
def isStr (P:Program)(t:TypeId):Bool:=
  match P.underlying t with
  |some .string=>true
  |_=>false
def isU8 (P:Program)(t:TypeId):Bool:=
  match P.underlying t with
  |some (.int .u8)=>P.cellsOf t==1
  |_=>false
def o9_ (P:Program)(ev:Operand→AV)(o:Oper):Option Res:=
  match o.op with
  | .call { callee:= .value _,..} | .call { callee:= .invoke ..,..} | .select .. | .go _| .defer _=>none
  |_=>
   if o.op.operands.all (fun x=>(ev x).isC)then
    match pr P (execOp (fun x=>(ev x).conc) o)with
    |some (.value v)=>some ([],.c v,.nop)
    |_=>none
   else none
def zeroFits (P:Program)(e:TypeId):Bool:=
  match b1_ P e with
  |some z=>z.length==P.cellsOf e
  |none=>false
def appA (P:Program)(hp:Heap)(t:TypeId)(s x:AV):Option Res:=
  match i0_ P t with
  |some e=>
   match newsOf P hp e x with
   |some (cks,n,op,l)=>
    if zeroFits P e=true then
    match s with
    | .c (.slice none 0 0)=>some (cks++[ck (n*P.bytesOf e≤140737488355328),ck (n≤4611686018427387904)],.sl hp.length 0 n,.push ⟨e,op,l⟩)
    | .sl b 0 len=>match hp[b]? with
      |some (some B)=>
       if B.e=e then
         some (cks++[ck ((len+n)*P.bytesOf e≤140737488355328),ck (len+n≤4611686018427387904),ck (q2_ len (P.cellsOf e)≤B.cells.length)],
           .sl hp.length 0 (len+n),.move b ⟨e,B.op||op,B.cells.take (q2_ len (P.cellsOf e))++l⟩)
       else none
      |_=>none
    |_=>none
    else none
   |none=>none
  |none=>none
def lenA (P:Program)(hp:Heap)(t:TypeId)(x:AV):Option Res:=
  if isStr P t then
    match x with
    | .c (.string s)=>some ([],.c (.int .i64 (sb s).length),.nop)
    |_=>none
  else match i0_ P t with
    |some _=>match x with
     | .sl b _ n=>match hp[b]? with
       |some (some _)=>some ([],.c (.int .i64 n),.nop)
       |_=>none
     | .fs _ n _=>some ([],.c (.int .i64 n),.nop)
     | .c (.slice _ n _)=>some ([],.c (.int .i64 n),.nop)
     |_=>none
    |none=>none
def convA (P:Program)(hp:Heap)(s d:TypeId)(x:AV):Option Res:=
  match i0_ P d with
  |some e=>if isStr P s&&isU8 P e then
     match x with
     | .c (.string s)=>some ([ck ((sb s).length≤140737488355328)],.sl hp.length 0 (sb s).length,.push ⟨e,false,z6_ (sb s)⟩)
     |_=>none
   else none
  |none=>match i0_ P s with
   |some e=>if isStr P d&&isU8 P e then
      match x with
      | .sl b off n=>match hp[b]? with
        |some (some B)=>if B.e=e then some ([ck (n+off≤B.cells.length),ck (u4_ ((B.cells.drop off).take n))],.c (str (x8_ ((B.cells.drop off).take n))),.nop)else none
        |_=>none
      | .fs s n l=>if s=1 then some ([ck (l.length=n),ck (u4_ l)],.c (str (x8_ l)),.nop)else none
      | .c (.slice none 0 0)=>some ([],.c (str []),.nop)
      |_=>none
    else none
   |none=>none
def sliceA (P:Program)(ev:Operand→AV)(hp:Heap)(t:TypeId)(x:AV)(lo hi:Option Operand):Option Res:=
  if isStr P t then
    match x with
    | .c (.string s)=>match lohi ev lo hi (sb s).length with
      |some (l,h)=>some ([ck (0≤l),ck (l≤h),ck (h≤(sb s).length)],.c (str (((sb s).take h.toNat).drop l.toNat)),.nop)
      |none=>none
    |_=>none
  else match i0_ P t with
    |some e=>match x with
     | .sl b off n=>match hp[b]?,lohi ev lo hi n with
       |some (some B),some (l,h)=>if B.e=e then some ([ck (0≤l),ck (l≤h),ck (h≤n)],.sl b (l.toNat+off) (h.toNat-l.toNat),.nop)else none
       |_,_=>none
     | .fs s n L=>match lohi ev lo hi n with
       |some (l,h)=>if s=P.cellsOf e then some ([ck (0≤l),ck (l≤h),ck (h≤n)],.fs s (h.toNat-l.toNat) ((L.take (q2_ h.toNat s)).drop (q2_ l.toNat s)),.nop)else none
       |none=>none
     |_=>none
    |none=>none
def idxAddrA (P:Program)(hp:Heap)(t:TypeId)(x i:AV):Option Res:=
  match i0_ P t with
  |some e=>match x,i with
   | .sl b off n,.c (.int _ i)=>match hp[b]? with
     |some (some B)=>if B.e=e then some ([ck (0≤i),ck (i<n)],.pt b (q2_ (i.toNat+off) (P.cellsOf e)),.nop)else none
     |_=>none
   | .fs s n l,.c (.int _ i)=>if s=P.cellsOf e then some ([ck (0≤i),ck (i<n)],.fp (l.drop (q2_ i.toNat s)),.nop)else none
   |_,_=>none
  |none=>none
def copyA (P:Program)(hp:Heap)(t:TypeId)(d x:AV):Option Res:=
  match i0_ P t with
  |some e=>match d with
   | .sl b off n=>match hp[b]?,newsOf P hp e x with
     |some (some B),some (cks,m,op,l)=>
      if B.e=e∧(B.op=true∨op=false)then
        some (cks++[ck (q2_ (n+off) (P.cellsOf e)≤B.cells.length)],.c (.int .i64 (min n m:Nat)),
          .set b { B with cells:=B.cells.take (q2_ off (P.cellsOf e))++l.take (q2_ (min n m) (P.cellsOf e))++B.cells.drop (q2_ off (P.cellsOf e)+q2_ (min n m) (P.cellsOf e))})
      else none
     |_,_=>none
   |_=>none
  |none=>none
def ustrA (P:Program)(hp:Heap)(t:TypeId)(p n:AV):Option Res:=
  match P.underlying t with
  |some (.pointer e)=>if isU8 P e then
     match p,n with
     | .pt b 0,.c (.int .i64 n)=>match hp[b]? with
       |some (some B)=>if B.e=e then some ([ck (0<n),ck (n≤B.cells.length),ck (u4_ (B.cells.take n.toNat)),ck (n≤4611686018427387904)],.c (str (x8_ (B.cells.take n.toNat))),.kill b)else none
       |_=>none
     |_,_=>none
   else none
  |_=>none
def storeA (P:Program)(hp:Heap)(t:TypeId)(a x:AV):Option Res:=
  match a with
  | .pt b off=>match hp[b]?,x.cellsOf hp (P.cellsOf t)with
    |some (some B),some cs=>
     if 0<P.cellsOf t∧(B.op=true∨AV.closedAll cs=true)then
       some ([ck (off+P.cellsOf t≤B.cells.length)],.any,.set b { B with cells:=B.cells.take off++cs++B.cells.drop (off+P.cellsOf t)})
     else none
    |_,_=>none
  |_=>none
def aOp (P:Program)(ev:Operand→AV)(hp:Heap)(o:Oper):Option Res:=
  match o.op with
  | .move x| .assign x=>some ([],ev x,.nop)
  | .pick c a b=>match ev c with
    | .c (.bool true)=>some ([],ev a,.nop)
    | .c (.bool false)=>some ([],ev b,.nop)
    |_=>none
  | .binOp op _ x y _=>match ev x,ev y with
    | .c a,.c b=>match sBin op a b with
      |some v=>some ([],.c v,.nop)
      |none=>match fBin op a b with
       |some (k,v)=>some ([k],.c v,.nop)
       |none=>o9_ P ev o
    |_,_=>none
  | .index t x i=>match isStr P t,ev x,ev i with
    |true,.c (.string s),.c (.int _ i)=>some ([ck (0≤i),ck (i<(sb s).length)],t4_ ((sb s).getD i.toNat 0),.nop)
    |_,_,_=>o9_ P ev o
  | .slice t x lo hi mx=>match mx with
    |none=>sliceA P ev hp t (ev x) lo hi
    |some _=>none
  | .indexAddr t x i=>idxAddrA P hp t (ev x) (ev i)
  | .load t a=>match ev a with
    | .pt b off=>match hp[b]? with
      |some (some B)=>(ldAV P t (B.cells.drop off)).map fun(k,v)=>(k,v,.nop)
      |_=>none
    | .fp l=>(ldAV P t l).map fun(k,v)=>(k,v,.nop)
    |_=>none
  | .store t a x=>storeA P hp t (ev a) (ev x)
  | .call { callee:= .builtin .len,args,argTypes} =>match args.toList,argTypes.toList with
    | [x],[t]=>lenA P hp t (ev x)
    |_,_=>none
  | .call { callee:= .builtin .append,args,argTypes} =>match args.toList,argTypes.toList with
    | [s,x],[t,u]=>match P.underlying u with
      |some (.int _)=>none
      |some _=>appA P hp t (ev s) (ev x)
      |none=>none
    |_,_=>none
  | .call { callee:= .builtin .copy,args,argTypes} =>match args.toList,argTypes.toList with
    | [d,x],[t,_]=>copyA P hp t (ev d) (ev x)
    |_,_=>none
  | .call { callee:= .builtin .unsafeString,args,argTypes} =>match args.toList,argTypes.toList with
    | [p,n],[t,_]=>ustrA P hp t (ev p) (ev n)
    |_,_=>none
  | .convert s d x=>match convA P hp s d (ev x)with
    |some r=>some r
    |none=>match fCnv P s d (ev x)with
     |some v=>some ([],.c v,.nop)
     |none=>o9_ P ev o
  | .buildSlice t len parts=>match i0_ P t with
    |some e=>match b1_ P e with
     |some z=>
      if z.length=P.cellsOf e∧q2_ len (P.cellsOf e)≤16777216 then
        match fillQ hp (fun i=>some (q2_ i (P.cellsOf e),P.cellsOf e)) (c6_ len z) (parts.toList.map fun(i,x)=>(i,ev x))with
        |some cs=>some ([],.sl hp.length 0 len,.push ⟨e,!AV.closedAll cs,cs⟩)
        |none=>none
      else none
     |none=>none
    |none=>none
  | .makeSlice t l c=>match i0_ P t,ev l,ev c with
    |some e,.c (.int _ l),.c (.int _ c)=>match b1_ P e with
     |some z=>
      if z.length=P.cellsOf e then
        some ([ck (0≤l),ck (l≤c),ck (c*(P.bytesOf e:Int)≤140737488355328),ck (c≤4611686018427387904)],.sl hp.length 0 l.toNat,.push ⟨e,false,c6_ l.toNat z⟩)
      else none
     |none=>none
    |_,_,_=>none
  |_=>o9_ P ev o
def fieldOff (P:Program)(t:TypeId)(i:Nat):Option (Nat×TypeId):=
  match P.underlying t with
  |some (.struct fs)=>match fs[i]? with
   |some f=>if 0<P.cellsOf f.type then some (f.offset,f.type)else none
   |none=>none
  |_=>none
def arrOf (P:Program)(t:TypeId):Option (Nat×TypeId):=
  match P.underlying t with
  |some (.array n e)=>if 0<P.cellsOf e then some (n,e)else none
  |_=>none
def isPtr (P:Program)(t:TypeId):Bool:=
  match P.underlying t with
  |some (.pointer e)=>P.cellsOf e !=0
  |_=>false
def placeA (P:Program)(t:TypeId):Option (Nat→Option (Nat×Nat)):=
  match P.underlying t with
  |some (.struct fs)=>some fun i=>(fs[i]?).map fun f=>(f.offset,P.cellsOf f.type)
  |some (.array _ e)=>some fun i=>some (i*P.cellsOf e,P.cellsOf e)
  |_=>none
def sized (P:Program)(t:TypeId):Bool:=
  match P.underlying t with
  |some (.struct fs)=>fs.toList.all fun f=>(P.info? f.type).isSome
  |some (.array _ e)=>(P.info? e).isSome
  |_=>false
def nextA (hp:Heap)(x:AV)(dir:Option Bool):Option Res:=
  match x with
  | .itr b=>match hp[b]? with
    |some (some B)=>match B.cells with
     | [.iter s pos]=>
       match dir.getD (decide (pos<s.length))with
       |true=>some ([ck (pos<s.length)],.tu [.c (.bool true),.c (.int .i64 pos),.c (.int .i32 (Utf8.decode ⟨⟨s⟩⟩ pos).1)],.set b { B with cells:=[.iter s (pos+(Utf8.decode ⟨⟨s⟩⟩ pos).2)]})
       |false=>some ([ck (s.length≤pos)],.tu [.c (.bool false)],.nop)
     |_=>none
    |_=>none
  |_=>none
def aOp2 (P:Program)(ev:Operand→AV)(hp:Heap)(o:Oper):Option Res:=
  match o.op with
  | .alloc t=>match b1_ P t with
    |some z=>some ([],.pt hp.length 0,.push ⟨t,true,z⟩)
    |none=>none
  | .box t x=>match(ev x).cellsOf hp (P.cellsOf t)with
    |some cs=>some ([],.pt hp.length 0,.push ⟨t,true,cs⟩)
    |none=>none
  | .nilCheck x=>match ev x with
    | .pt b off=>match hp[b]? with
      |some (some _)=>some ([],.pt b off,.nop)
      |_=>none
    | .fp l=>some ([],.fp l,.nop)
    | .fn f l=>some ([],.fn f l,.nop)
    |_=>none
  | .fieldAddr t x i=>match fieldOff P t i with
    |some (o,_)=>match ev x with
     | .pt b off=>match hp[b]? with
       |some (some _)=>some ([],.pt b (off+o),.nop)
       |_=>none
     | .fp l=>some ([],.fp (l.drop o),.nop)
     |_=>none
    |none=>none
  | .field t x i=>match fieldOff P t i with
    |some (o,u)=>match ev x with
     | .ag l=>(ldAV P u (l.drop o)).map fun(k,v)=>(k,v,.nop)
     |_=>none
    |none=>none
  | .index t x i=>match arrOf P t with
    |some (n,e)=>match ev x,ev i with
     | .ag l,.c (.int _ i)=>(ldAV P e (l.drop (q2_ i.toNat (P.cellsOf e)))).map fun(k,v)=>(ck (0≤i)::ck (i<n)::k,v,.nop)
     |_,_=>none
    |none=>none
  | .indexAddr t x i=>match arrOf P t with
    |some (n,e)=>match ev x,ev i with
     | .pt b off,.c (.int _ i)=>match hp[b]? with
       |some (some _)=>some ([ck (0≤i),ck (i<n)],.pt b (off+q2_ i.toNat (P.cellsOf e)),.nop)
       |_=>none
     | .fp l,.c (.int _ i)=>some ([ck (0≤i),ck (i<n)],.fp (l.drop (q2_ i.toNat (P.cellsOf e))),.nop)
     |_,_=>none
    |none=>none
  | .build t parts=>match placeA P t,b1_ P t with
    |some pl,some z=>if sized P t then
       match fillQ hp pl z (parts.toList.map fun(i,x)=>(i,ev x))with
       |some cs=>some ([],.ag cs,.nop)
       |none=>none
     else none
    |_,_=>none
  | .extract x i=>match ev x with
    | .tu l=>match l[i]? with
      |some v=>some ([],v,.nop)
      |none=>none
    |_=>none
  | .range t x=>if isStr P t then
      match ev x with
      | .c (.string s)=>some ([],.itr hp.length,.push ⟨0,true,[.iter (sb s) 0]⟩)
      |_=>none
    else none
  | .makeFunc (.func f) first cap=>if first.size=0 then some ([],.fn f (cap.toList.map ev),.nop)else none
  | .binOp op t x y _=>if isPtr P t then
      match op,ev x,ev y with
      | .eql,.pt b off,.c (.pointer none)=>(match hp[b]? with|some (some _)=>some ([],.c (.bool false),.nop)|_=>none)
      | .neq,.pt b off,.c (.pointer none)=>(match hp[b]? with|some (some _)=>some ([],.c (.bool true),.nop)|_=>none)
      | .eql,.fp _,.c (.pointer none)=>some ([],.c (.bool false),.nop)
      | .neq,.fp _,.c (.pointer none)=>some ([],.c (.bool true),.nop)
      | .eql,.pt b off,.pt b' off'=>(match hp[b]? with|some (some _)=>if b=b' then some ([],.c (.bool (off==off')),.nop)else none|_=>none)
      | .neq,.pt b off,.pt b' off'=>(match hp[b]? with|some (some _)=>if b=b' then some ([],.c (.bool (!(off==off'))),.nop)else none|_=>none)
      |_,_,_=>none
    else none
  | .convert s d x=>match P.underlying s,P.underlying d,ev x with
    |some (.pointer t),some .unsafePointer,.pt b 0=>match hp[b]? with
     |some (some B)=>if 0<P.cellsOf t∧0<B.cells.length then some ([],.pt b 0,.nop)else none
     |_=>none
    |some .unsafePointer,some (.pointer t),.pt b 0=>match hp[b]? with
     |some (some B)=>if 0<P.cellsOf t∧B.e=t∧P.cellsOf t≤B.cells.length then some ([],.pt b 0,.nop)else none
     |_=>none
    |_,_,_=>none
  | .call { callee:= .builtin .unsafeSliceData,args,argTypes} =>match args.toList,argTypes.toList with
    | [x],[t]=>match i0_ P t,ev x with
      |some e,.sl b 0 n=>match hp[b]? with
       |some (some B)=>if B.e=e then some ([ck (0<n)],.pt b 0,.nop)else none
       |_=>none
      |_,_=>none
    |_,_=>none
  | .call { callee:= .builtin .unsafeString,args,argTypes} =>match args.toList,argTypes.toList with
    | [p,n],[_,_]=>match ev p,ev n with
      | .c (.pointer none),.c (.int .i64 0)=>some ([],.c (str []),.nop)
      |_,_=>none
    |_,_=>none
  |_=>none
def e4_ (P:Program)(ev:Operand→AV)(hp:Heap)(o:Oper):Option Res:=
  match aOp2 P ev hp o with
  |some r=>some r
  |none=>aOp P ev hp o
structure Hint where
  av:AV
  cells:Option (List AV):=none
structure Hints where
  sym:Bool:=false
  at_:List (Nat×Hint):=[]
def j6_ (hs:Hints):Option Tmp→Option Hint
  |none=>none
  |some d=>(hs.at_.find? (fun h=>h.1==d)).map (·.2)
def hkey (o:Oper):Option Nat:=
  match o.dst with
  |some d=>match o.op with
   | .next .. =>none
   |_=>some d
  |none=>match o.op with
   | .store _ (.tmp t) _=>some (100000+t)
   |_=>none
def dirOf:Option Hint→Option Bool
  |some ⟨.c (.bool b),_⟩=>some b
  |_=>none
def y0_:AV→AV→Prop
  | .c (.int .i64 x),.c (.int .i64 y)=>x=y
  | .c (.int .u8 x),.c (.int .u8 y)=>x=y
  | .c (.int .i32 x),.c (.int .i32 y)=>x=y
  | .c (.int .u32 x),.c (.int .u32 y)=>x=y
  | .c (.int .u64 x),.c (.int .u64 y)=>x=y
  | .c (.int .u16 x),.c (.int .u16 y)=>x=y
  | .c (.int .i16 x),.c (.int .i16 y)=>x=y
  | .c (.int .i8 x),.c (.int .i8 y)=>x=y
  | .c (.bool x),.c (.bool y)=>x=y
  | .c (.string x),.c (.string y)=>sb x=sb y
  |a,b=>a=b
theorem sb_inj {x y:ByteArray}(h:sb x=sb y):x=y:=by
  obtain⟨⟨x⟩⟩:=x
  obtain⟨⟨y⟩⟩:=y
  simp only[sb]at h
  rw[h]
theorem u3_ (a:AV):y0_ a a:=by
  unfold y0_
  split<;>rfl
theorem avEq_eq {a b:AV}(h:y0_ a b):a=b:=by
  unfold y0_ at h
  split at h
  all_goals first|exact h|(rw[h])|(rw[sb_inj h])
def arith:BinOp→Int→Int→Option Int
  | .add,a,b=>some (a+b)
  | .sub,a,b=>some (a-b)
  | .mul,a,b=>some (a*b)
  |_,_,_=>none
def divA (op:BinOp)(a b:AV):Option Res:=
  match a,b with
  | .c (.int k x),.c (.int k' y)=>if k=k' then
      match op with
      | .quo=>some ([ck (y≠0)],.c (.int k (k.wrap (x.tdiv y))),.nop)
      | .rem=>some ([ck (y≠0)],.c (.int k (x.tmod y)),.nop)
      |_=>none
    else none
  |_,_=>none
def aOpS0 (P:Program)(hs:Hints)(ev:Operand→AV)(hp:Heap)(o:Oper):Option Res:=
  match o.op with
  | .next it true=>nextA hp (ev it) (dirOf (j6_ hs o.dst))
  | .call { callee:= .builtin .append,..} =>match j6_ hs o.dst with
    |some ⟨.c (.slice none 0 0),_⟩=>o9_ P ev o
    |_=>e4_ P ev hp o
  |_=>if hs.sym then
   match o.op with
   | .binOp op _ x y _=>match ev x,ev y with
     | .c (.int k a),.c (.int k' b)=>match arith op a b with
       |some z=>if k=k' then some ([ck (k.min≤z),ck (z≤k.max)],.c (.int k z),.nop)else none
       |none=>e4_ P ev hp o
     | .c (.string a),.c (.string b)=>match op with
       | .add=>some ([ck ((sb a).length+(sb b).length≤9223372036854775807)],.c (str (sb a++sb b)),.nop)
       |_=>e4_ P ev hp o
     |_,_=>e4_ P ev hp o
   |_=>e4_ P ev hp o
  else e4_ P ev hp o
def e5_ (P:Program)(hs:Hints)(ev:Operand→AV)(hp:Heap)(o:Oper):Option Res:=
  match o.op with
  | .binOp op _ x y _=>match j6_ hs o.dst with
    |some ⟨_,some []⟩=>divA op (ev x) (ev y)
    |_=>aOpS0 P hs ev hp o
  |_=>aOpS0 P hs ev hp o
def useHint (sym:Bool)(h:Option Hint)(r:Res):Option (AV×Cmd×List Prop):=
  match h with
  |none=>if sym then some (r.2.1,r.2.2,Ck.props r.1)else if Ck.all r.1 then some (r.2.1,r.2.2,[])else none
  |some h=>match h.cells with
   |none=>some (h.av,r.2.2,Ck.props r.1++[y0_ r.2.1 h.av])
   |some l=>some (h.av,r.2.2.withCells l,Ck.props r.1++[y0_ r.2.1 h.av,r.2.2.cells=l])
abbrev CallT:=FuncId→List AV→Heap→Option (AV×Heap×List Prop)
noncomputable def St.put (S:St)(dst:Option Tmp)(v:AV):St:=
  match dst with
  |some d=> { S with fr:=setL S.fr d v}
  |none=>S
def callee:AV→List AV→Option (FuncId×List AV)
  | .c (.func (.func f) first cap),args=>if first.size=0∧cap.size=0 then some (f,args)else none
  | .fn f cap,args=>some (f,args++cap)
  |_,_=>none
def noEscName:String:=match Extern.AbiNoEscape.rows with
  |x::_=>x.1
  | []=> ""
def idxName:String:= "internal/bytealg.IndexByteString"
def extA (P:Program)(g:FuncId)(as:List AV):Option AV:=
  match P.funcs[g]? with
  |some fn=>if fn.body.isNone=true∧fn.name≠ "runtime.NumGoroutine" then
     if fn.name=noEscName then
      if(Extern.findNext fn).isNone=true then
         match as with
         | [x]=>some x
         |_=>none
      else none
     else if fn.name=idxName then
       if(Extern.findNext fn).isNone=true then
        match as with
        | [.c (.string s),.c (.int .u8 n)]=>some (.c (.int .i64 (Lib.indexByte (sb s) n.toNat.toUInt8)))
        |_=>none
       else none
     else if as.all AV.isC=true then
       match pr P (callFunc g (as.map AV.conc).toArray)with
       |some (.value v)=>some (.c v)
       |_=>none
     else none
   else none
  |none=>none
noncomputable def doOp [Gv](P:Program)(cl:CallT)(hs:Hints)(S:St)(o:Oper):Option (St×List Prop):=
  match o.op with
  | .call { callee:= .value f,args,..} =>
    match callee (aEv S.fr f) (args.toList.map (aEv S.fr))with
    |some (g,as)=>match extA P g as with
     |some r=>match j6_ hs o.dst with
      |none=>some (S.put o.dst r,[])
      |some h=>some (S.put o.dst h.av,[y0_ r h.av])
     |none=>match cl g as S.hp with
      |some (r,hp',p)=>match j6_ hs o.dst with
       |none=>some ({ S with hp:=hp'}.put o.dst r,p)
       |some h=>some ({ S with hp:=hp'}.put o.dst h.av,p++[y0_ r h.av])
      |none=>none
    |none=>none
  |_=>match e5_ P hs (aEv S.fr) S.hp o with
   |some r=>match useHint hs.sym (j6_ hs (hkey o)) r with
    |some (v,cmd,p)=>some ({ S with hp:=cmd.run S.hp}.put o.dst v,p)
    |none=>none
   |none=>none
def uAV:AV:= .c (.tuple #[])
noncomputable def i7_ (ops:Array Oper)(fr:List AV)(o:Oper):Option Bool:=
  match o.guard with
  |none=>some true
  |some (j,want)=>match(ops[j]?).bind (·.dst)with
   |some d=>match getL fr d with
    | .c (.bool b)=>some (b==want)
    | .c (.tuple _)=>some false
    |_=>none
   |none=>none
noncomputable def f0_ [Gv](P:Program)(cl:CallT)(hs:Hints)(ops:Array Oper):List Oper→St→List Prop→Option (St×List Prop)
  | [],S,p=>some (S,p)
  |o::rest,S,p=>
   match i7_ ops S.fr o with
   |some true=>match doOp P cl hs S o with
    |some (S',q)=>f0_ P cl hs ops rest S' (p++q)
    |none=>none
   |some false=>f0_ P cl hs ops rest (S.put o.dst uAV) p
   |none=>none
def addAll:List Nat→List Nat→List Nat
  | [],acc=>acc
  |x::r,acc=>addAll r (if acc.contains x then acc else x::acc)
def d8_:List Oper→List (List Nat)→List (List Nat)
  | [],acc=>acc
  |o::r,acc=>d8_ r (acc++[o.after.toList.foldl (fun l e=>if Region.binds .any e then addAll (e.on::acc.getD e.on []) l else l) []])
def drawOk (ops:Array Oper):Bool:=
  let ps:=d8_ ops.toList []
  ((List.range ops.size).all fun j=>match ops[j]? with
    |some o=>o.after.toList.all fun e=> !Region.binds .any e||decide (e.on<j)
    |none=>true)&&
  (List.range ops.size).all fun j=>(List.range j).all fun i=>
    (ps.getD j []).contains i||
    (match ops[i]?,ops[j]? with
     |some o,some o'=>o.apart ops o'
     |_,_=>true)
def tailN (ps:List (List Nat)):Nat→Nat
  |0=>0
  |j+1=>if(List.range j).all fun i=>(ps.getD j []).contains i then tailN ps j+1 else 0
def v7_ (ops:Array Oper):Nat:=ops.size-tailN (d8_ ops.toList []) ops.size
def floatOk (o:Oper):Bool:=o.guard.isNone&&match o.op with
  | .move _| .assign _| .binOp .add _ _ _ _| .binOp .sub _ _ _ _| .binOp .mul _ _ _ _=>true
  |_=>false
def midOk (ops:Array Oper)(s:Nat):Bool:=
  let ps:=d8_ ops.toList []
  match ops[s]? with
  |some o=>o.dst.isNone&&o.guard.isNone&&(match o.op with| .store .. =>true|_=>false)&&(List.range s).all fun i=>(ps.getD s []).contains i||(match ops[i]? with|some o'=>floatOk o'|none=>false)
  |none=>false
def cutN (ops:Array Oper):Nat:=if midOk ops (v7_ ops-1)=true then v7_ ops-1 else v7_ ops
def Code.rid:Code→Option Nat
  | .region id _ _=>some id
  | .seq a b=>match Code.rid a with
    |some i=>some i
    |none=>Code.rid b
  | .block _ b| .loop b| .scope b=>Code.rid b
  | .cond _ a _=>Code.rid a
  |_=>none
mutual
def AV.ren (m:List Nat):AV→AV
  | .sl b off n=>match m.findIdx? (· ==b)with
    |some i=> .sl i off n
    |none=> .any
  | .pt b off=>match m.findIdx? (· ==b)with
    |some i=> .pt i off
    |none=> .any
  | .itr b=>match m.findIdx? (· ==b)with
    |some i=> .itr i
    |none=> .any
  | .ag l=> .ag (AV.renAll m l)
  | .tu l=> .tu (AV.renAll m l)
  | .fn f l=> .fn f (AV.renAll m l)
  |a=>a
def AV.renAll (m:List Nat):List AV→List AV
  | []=>[]
  |a::r=>AV.ren m a::AV.renAll m r
end
def i8_ (keep:List Nat):Nat→List AV→List AV
  |_,[]=>[]
  |i,a::r=>(if keep.contains i then a else .any)::i8_ keep (i+1) r
def o0_ (m:List Nat)(B:Blk):Blk:=if B.op then { B with cells:=AV.renAll m B.cells} else B
def St.fin (keep m:List Nat)(S:St):St:=
  { fr:=AV.renAll m (i8_ keep 0 S.fr),hp:=m.map fun b=>(S.hp.getD b none).map (o0_ m)}
def St.virt:List (Nat×TypeId)→St→St
  | [],S=>S
  |(t,e)::r,S=>match S.fr.getD t .any with
   | .c (.slice none 0 0)=>St.virt r ⟨List.set S.fr t (.sl S.hp.length 0 0),S.hp++[some ⟨e,false,[]⟩]⟩
   |_=>St.virt r S
structure Fi where
  ns:List (Nat×TypeId):=[]
  keep:List Nat
  m:List Nat
def Fi.app (f:Fi)(S:St):St:=(S.virt f.ns).fin f.keep f.m
structure Lp where
  body:Code
  fi:Fi
  E:St
  e:Exit
  R:St
def exitIs:Exit→Exit→Bool
  | .normal,.normal| .ret,.ret=>true
  | .exit a,.exit b=>a==b
  |_,_=>false
def freeze (hp:Heap)(P:Program):AV→Option AV
  | .sl b off n=>match hp[b]? with
    |some (some B)=>if B.op then none else some (.fs (P.cellsOf B.e) n ((B.cells.drop (q2_ off (P.cellsOf B.e))).take (q2_ n (P.cellsOf B.e))))
    |_=>none
  |a=>if a.closed then some a else none
def freezeArg (hp:Heap)(P:Program):AV→Option AV
  | .pt b off=>match hp[b]? with
    |some (some B)=>if AV.closedAll B.cells then some (.fp (B.cells.drop off))else none
    |_=>none
  |a=>freeze hp P a
def g1_ (hp:Heap)(P:Program):List AV→Option (List AV)
  | []=>some []
  |a::r=>match freezeArg hp P a,g1_ hp P r with
   |some x,some l=>some (x::l)
   |_,_=>none
def s9_ (hp:Heap):AV→Bool
  | .c _| .any=>true
  | .ag l| .tu l=>l.all AV.isC
  | .sl b _ _=>match hp[b]? with
    |some (some B)=>B.cells.all AV.isC
    |_=>false
  |_=>false
noncomputable def doOpQ [Gv](P:Program)(cl:CallT)(hs:Hints)(hp:Heap)(fr:List AV)(o:Oper):Option (AV×List Prop):=
  match o.op with
  | .call { callee:= .value f,args,..} =>
    match callee (aEv fr f) (args.toList.map (aEv fr))with
    |some (g,l)=>match extA P g l with
     |some r=>match j6_ hs o.dst with
      |none=>some (r,[])
      |some h=>some (h.av,[y0_ r h.av])
     |none=>match g1_ hp P l with
     |some l'=>match cl g l' []with
      |some (r,hp',p)=>
       if AV.closedAll l=true∨s9_ hp' r=true then
         match freeze hp' P r with
         |some r'=>match j6_ hs o.dst with
          |none=>some (r',p)
          |some h=>some (h.av,p++[y0_ r' h.av])
         |none=>none
       else none
      |none=>none
     |none=>none
    |none=>none
  |_=>match e5_ P hs (aEv fr) hp o with
   |some r=>match useHint hs.sym (j6_ hs (hkey o)) r with
    |some (v,.nop,p)=>some (v,p)
    |some (.sl b off n,.push B,p)=>if b=hp.length∧off=0∧B.op=false then some (.fs (P.cellsOf B.e) n (B.cells.take (q2_ n (P.cellsOf B.e))),p)else none
    |_=>none
   |none=>none
noncomputable def aOpsQ [Gv](P:Program)(cl:CallT)(hs:Hints)(ops:Array Oper)(hp:Heap):List Oper→List AV→List Prop→Option (List AV×List Prop)
  | [],fr,p=>some (fr,p)
  |o::rest,fr,p=>
   match i7_ ops fr o with
   |some true=>match doOpQ P cl hs hp fr o with
    |some (v,q)=>aOpsQ P cl hs ops hp rest (St.put ⟨fr,hp⟩ o.dst v).fr (p++q)
    |none=>none
   |some false=>aOpsQ P cl hs ops hp rest (St.put ⟨fr,hp⟩ o.dst uAV).fr p
   |none=>none
noncomputable def o6_ [Gv](P:Program)(cl:CallT)(hs:Hints)(lp:Nat→Option Lp):Nat→Code→St→Option (Exit×St×List Prop)
  |0,_,_=>none
  |n+1,code,S=>
   match code with
   | .skip=>some (.normal,S,[])
   | .region _ ops false=>match f0_ P cl hs ops ops.toList S []with
     |some (S',p)=>some (.normal,S',p)
     |none=>none
   | .region _ ops true=>if drawOk ops then match aOpsQ P cl hs ops S.hp (ops.toList.take (cutN ops)) S.fr []with
       |some (fr,p)=>match f0_ P cl hs ops (ops.toList.drop (cutN ops)) ⟨fr,S.hp⟩ p with
        |some (S',p')=>some (.normal,S',p')
        |none=>none
       |none=>none
     else none
   | .seq x y=>match o6_ P cl hs lp n x S with
     |some (.normal,S',p)=>match o6_ P cl hs lp n y S' with
      |some (e,S'',q)=>some (e,S'',p++q)
      |none=>none
     |r=>r
   | .cond c x y=>match aEv S.fr c with
     | .c (.bool true)=>o6_ P cl hs lp n x S
     | .c (.bool false)=>o6_ P cl hs lp n y S
     |_=>none
   | .block id b=>match o6_ P cl hs lp n b S with
     |some (.exit id',S',p)=>if id'=id then some (.normal,S',p)else some (.exit id',S',p)
     |r=>r
   | .loop b=>match(Code.rid b).bind lp with
     |some L=>some (L.e,L.R,[b=L.body,L.fi.app S=L.E])
     |none=>match o6_ P cl hs lp n b S with
      |some (.normal,S',p)=>match o6_ P cl hs lp n (.loop b) S' with
       |some (e,S'',q)=>some (e,S'',p++q)
       |none=>none
      |r=>r
   | .exit id=>some (.exit id,S,[])
   | .ret=>some (.ret,S,[])
   |_=>none
def resOne (P:Program)(fr:List AV)(hp:Heap):ResultVar→Option AV
  | .tmp t=>some (fr.getD t .any)
  | .cell a t=>match fr.getD a .any with
    | .pt b off=>match hp[b]? with
      |some (some B)=>match ldAV P t (B.cells.drop off)with
       |some (k,v)=>if Ck.all k=true then some v else none
       |none=>none
      |_=>none
    |_=>none
def resAll (P:Program)(fr:List AV)(hp:Heap):List ResultVar→Option (List AV)
  | []=>some []
  |x::r=>match resOne P fr hp x,resAll P fr hp r with
   |some a,some l=>some (a::l)
   |_,_=>none
def resTu:List AV→AV
  | [a]=>a
  |l=> .tu l
def resAV (P:Program)(fr:List AV)(hp:Heap)(l:List ResultVar):Option AV:=(resAll P fr hp l).map resTu
noncomputable def z8_ [Gv](P:Program)(cl:CallT)(hs:Hints)(lp:Nat→Option Lp)(fuel:Nat)(f:FuncId)(args:List AV)(hp:Heap):Option (AV×Heap×List Prop):=
  match P.funcs[f]? with
  |some fn=>match fn.body with
   |some c=>
    if fn.name= "runtime.NumGoroutine" then none else
    match o6_ P cl hs lp fuel c ⟨args++List.replicate (fn.ntmps-args.length) .any,hp⟩with
    |some (.normal,S',p)=>(resAV P S'.fr S'.hp fn.results.toList).map fun r=>(r,S'.hp,p)
    |some (.ret,S',p)=>(resAV P S'.fr S'.hp fn.results.toList).map fun r=>(r,S'.hp,p)
    |_=>none
   |none=>none
  |none=>none
abbrev Spec:=List AV→Option (AV×List Prop)
abbrev Specs:=FuncId→Option Spec
def elemT (P:Program)(f:FuncId):Option TypeId:=
  match P.funcs[f]? with
  |some fn=>match fn.resultTypes.toList with
   | [t]=>match P.underlying t with
     |some (.slice e)=>some e
     |_=>none
   |_=>none
  |none=>none
def bySpec (P:Program)(f:FuncId)(args:List AV)(hp:Heap):AV×List Prop→Option (AV×Heap×List Prop)
  |(.fs s n l,q)=>match elemT P f with
   |some e=>if s=P.cellsOf e then some (.sl hp.length 0 n,hp++[some ⟨e,false,l⟩],q++if AV.closedAll args then []else [∀x∈l,x.isC=true])else none
   |none=>none
  |(r,q)=>some (r,hp,q++if AV.closedAll args then []else [s9_ [] r=true])
noncomputable def l3_ [Gv](P:Program)(sg:Specs)(fuel:Nat):Nat→CallT
  |0=>fun _ _ _=>none
  |n+1=>fun f args hp=>match sg f with
   |some spec=>match g1_ hp P args with
    |some as=>match spec as with
     |some r=>bySpec P f args hp r
     |none=>none
    |none=>none
   |none=>z8_ P (l3_ P sg fuel n) {} (fun _=>none) fuel f args hp
def y3_ (P:Program)(f:FuncId):Option (AV×Heap×List Prop)→Option (AV×List Prop)
  |some (.sl b 0 n,hp,p)=>match elemT P f,hp[b]? with
   |some e,some (some B)=>if B.e=e∧B.op=false then some (.fs (P.cellsOf e) n B.cells,p)else none
   |_,_=>none
  |some (.fs ..,_,_)=>none
  |some (r,_,p)=>if r.closed then some (r,p)else none
  |none=>none
end Go.Proofs.YtmjldphagbobpaaDoor
namespace Go.Proofs.YtmjldphagbobpaaDoor
open IntKind (i64 u8 i32 u32 u64)
open Go.RowKit
inductive Loc where
  |fresh
  |dead
  |virt
  |here (g:Nat)
structure Pl where
  at_:Nat→Loc
  hid:Nat→Prop
instance:CoeFun Pl (fun _=>Nat→Loc):=⟨Pl.at_⟩
def Pl.un (ι:Pl)(g:Nat):Prop:=(∀b,ι b≠ .here g)∧¬ι.hid g
inductive VR (P:Program) (w:World) (ι:Pl):Bool→AV→Value→Prop
  |any {o v} :VR P w ι o .any v
  |c {o v} :VR P w ι o (.c v) v
  |slDead {b off n v} :ι b= .dead→VR P w ι true (.sl b off n) v
  |slZero {b off a} :VR P w ι true (.sl b off 0) (.slice a 0 0)
  |slAt {b off n g cap cur e fz} :ι b= .here g→w.heap[g]? =some (.cells cur e fz)→n≤cap→(off+cap)*P.cellsOf e=cur.size→cap≤maxLen→
     VR P w ι true (.sl b off n) (.slice (some ⟨g,off*P.cellsOf e,none⟩) n cap)
  |ptDead {b off v} :ι b= .dead→VR P w ι true (.pt b off) v
  |pt {b off g cur e fz} :ι b= .here g→w.heap[g]? =some (.cells cur e fz)→VR P w ι true (.pt b off) (.pointer (some ⟨g,off,none⟩))
  |itrDead {b v} :ι b= .dead→VR P w ι true (.itr b) v
  |itr {b g} :ι b= .here g→VR P w ι true (.itr b) (.pointer (some ⟨g,0,none⟩))
  |fsZero {o s a cap} :VR P w ι o (.fs s 0 []) (.slice a 0 cap)
  |fs {o s n l g off cap} {us:Nat→Value} :n≤cap→l.length≤n*s→g<w.heap.size→ι.un g→(∀j,j<l.length→w.cell? ⟨g,off+j,none⟩=some (us j))→
     (∀j,j<l.length→(us j).oneCell'=true)→(∀j,j<l.length→VR P w ι false (l.getD j .any) (us j))→VR P w ι o (.fs s n l) (.slice (some ⟨g,off,none⟩) n cap)
  |fp {o l g off} {us:Nat→Value} :g<w.heap.size→ι.un g→(∀j,j<l.length→w.cell? ⟨g,off+j,none⟩=some (us j))→
     (∀j,j<l.length→(us j).oneCell'=true)→(∀j,j<l.length→VR P w ι false (l.getD j .any) (us j))→VR P w ι o (.fp l) (.pointer (some ⟨g,off,none⟩))
  |ag {o l cs} :l.length=cs.size→(∀j,j<l.length→(cs.getD j undef).oneCell'=true)→(∀j,j<l.length→VR P w ι o (l.getD j .any) (cs.getD j undef))→VR P w ι o (.ag l) (.agg cs)
  |tu {o l cs} :l.length=cs.size→(∀j,j<l.length→VR P w ι o (l.getD j .any) (cs.getD j undef))→VR P w ι o (.tu l) (.tuple cs)
  |fn {o f l cs} :l.length=cs.size→(∀j,j<l.length→VR P w ι o (l.getD j .any) (cs.getD j undef))→VR P w ι o (.fn f l) (.func (.func f) #[] cs)
structure RowOK (P:Program) (e:TypeId) (cur:Array Value) (fz:Nat×Nat):Prop where
  in_:∀off,off<cur.size→¬(fz.1≤off∧off<fz.2)
  out:isU8 P e=false→∀off,¬(fz.1≤off∧off<fz.2)
  one:isU8 P e=false→∀off,off<cur.size→(cur.getD off undef).oneCell'=true
theorem rowOK0 {P:Program}{e:TypeId}{cur:Array Value}(h:isU8 P e=false→∀off,off<cur.size→(cur.getD off undef).oneCell'=true):RowOK P e cur (0,0):=
  ⟨fun off _ hh=>by simp at hh,fun _ off hh=>by simp at hh,h⟩
theorem RowOK.same {P:Program}{e:TypeId}{cur cur':Array Value}{fz:Nat×Nat}(h:RowOK P e cur fz)(hs:cur'.size=cur.size)(h1:isU8 P e=false→∀off,off<cur'.size→(cur'.getD off undef).oneCell'=true):RowOK P e cur' fz:=
  ⟨fun off ho=>h.in_ off (by omega),h.out,h1⟩
def BlkOK (P:Program)(w:World)(ι:Pl)(b:Nat)(B:Blk):Prop:=
  (ι b= .virt∧B.cells=[])∨
  (∃g cur fz,ι b= .here g∧w.heap[g]? =some (.cells cur B.e fz)∧RowOK P B.e cur fz∧B.cells.length≤cur.size∧
    (∀j,j<B.cells.length→(cur.getD j undef).oneCell'=true)∧∀j,j<B.cells.length→VR P w ι B.op (B.cells.getD j .any) (cur.getD j undef))∨
  ∃g s pos,ι b= .here g∧B.cells=[.iter s pos]∧w.heap[g]? =some (.stringIter ⟨⟨s⟩⟩ pos)∧B.op=true
def SlotOK (P:Program)(w:World)(ι:Pl)(b:Nat):Option (Option Blk)→Prop
  |none=>ι b= .fresh
  |some none=>ι b= .dead
  |some (some B)=>BlkOK P w ι b B
structure HpRel [Gv] (P:Program) (w:World) (ι:Pl) (hp:Heap):Prop where
  blk:∀b,SlotOK P w ι b hp[b]?
  inj:∀b b' g,ι b= .here g→ι b'= .here g→b=b'
  nohid:∀b g,ι b= .here g→¬ι.hid g
  hlt:∀g,ι.hid g→g<w.heap.size
  gl:∀g l,Gv.gv g=some l→VR P w ι false (.fp l) (.pointer (some ⟨g,0,none⟩))
structure Ext (w:World) (ι:Pl) (w':World) (ι':Pl):Prop where
  os:w'.os=w.os
  tape:w'.tape=w.tape
  output:w'.output=w.output
  size:w.heap.size≤w'.heap.size
  hid:ι'.hid=ι.hid
  hkeep:∀g,g<w.heap.size→ι.hid g→w'.heap[g]? =w.heap[g]?
  blk:∀g,g<w.heap.size→ι.un g→w'.heap[g]? =w.heap[g]? ∧ι'.un g
  own:∀b g,ι b= .here g→ι' b= .dead∨(ι' b= .here g∧∀cur e fz,w.heap[g]? =some (.cells cur e fz)→∃cur' fz',w'.heap[g]? =some (.cells cur' e fz')∧cur'.size=cur.size)
  dead:∀b,ι b= .dead→ι' b= .dead
theorem Ext.refl (w:World)(ι:Pl):Ext w ι w ι:=
  ⟨rfl,rfl,rfl,Nat.le_refl _,rfl,fun _ _ _=>rfl,fun _ _ h=>⟨rfl,h⟩,fun _ _ h=> .inr ⟨h,fun cur _ fz h=>⟨cur,fz,h,rfl⟩⟩,fun _ h=>h⟩
theorem Ext.trans {w w' w'':World}{ι ι' ι'':Pl}(h:Ext w ι w' ι')(k:Ext w' ι' w'' ι''):Ext w ι w'' ι'':=by
  refine⟨k.os.trans h.os,k.tape.trans h.tape,k.output.trans h.output,Nat.le_trans h.size k.size,k.hid.trans h.hid,fun g hg hh=>(k.hkeep g (Nat.lt_of_lt_of_le hg h.size) (by rw[h.hid];exact hh)).trans (h.hkeep g hg hh),?_,?_,fun b hb=>k.dead b (h.dead b hb)⟩
  ·intro g hg hn
   obtain⟨e1,n1⟩:=h.blk g hg hn
   obtain⟨e2,n2⟩:=k.blk g (Nat.lt_of_lt_of_le hg h.size) n1
   exact⟨e2.trans e1,n2⟩
  ·intro b g hb
   rcases h.own b g hb with hd|⟨h1,hs⟩
   ·exact .inl (k.dead b hd)
   ·rcases k.own b g h1 with hd|⟨h2,hs2⟩
    ·exact .inl hd
    ·refine .inr ⟨h2,fun cur e fz hc=>?_⟩
     obtain⟨c1,f1,e1,z1⟩:=hs cur e fz hc
     obtain⟨c2,f2,e2,z2⟩:=hs2 c1 e f1 e1
     exact⟨c2,f2,e2,z2.trans z1⟩
theorem Ext.drew (w:World)(ι:Pl):Ext w ι w.drew ι:=⟨rfl,rfl,rfl,Nat.le_refl _,rfl,fun _ _ _=>rfl,fun _ _ h=>⟨rfl,h⟩,fun _ _ h=> .inr ⟨h,fun cur _ fz h=>⟨cur,fz,h,rfl⟩⟩,fun _ h=>h⟩
theorem cell_block {w:World}{g off:Nat}{v:Value}(h:w.cell? ⟨g,off,none⟩=some v):g<w.heap.size:=World.block_lt_of_cell? w ⟨g,off,none⟩ h
theorem Ext.cell {w w':World}{ι ι':Pl}(h:Ext w ι w' ι'){g off:Nat}{v:Value}(hn:ι.un g)(hc:w.cell? ⟨g,off,none⟩=some v):w'.cell? ⟨g,off,none⟩=some v:=by
  have hb:=(h.blk g (cell_block hc) hn).1
  rw[←hc]
  exact World.cell?_of_block (a:=⟨g,off,none⟩) hb
theorem VR.mono {P:Program}{w w':World}{ι ι':Pl}(h:Ext w ι w' ι'){o:Bool}{a:AV}{v:Value}(hv:VR P w ι o a v):VR P w' ι' o a v:=by
  induction hv with
  |any=>exact .any
  |c=>exact .c
  |slDead hd=>exact .slDead (h.dead _ hd)
  |slZero=>exact .slZero
  |slAt hg hh hn hs hm=>
   rcases h.own _ _ hg with hd|⟨h1,h2⟩
   ·exact .slDead hd
   ·obtain⟨cur',fz',hc,hz⟩:=h2 _ _ _ hh
    exact .slAt h1 hc hn (by rw[hz];exact hs) hm
  |ptDead hd=>exact .ptDead (h.dead _ hd)
  |pt hg hh=>
   rcases h.own _ _ hg with hd|⟨h1,h2⟩
   ·exact .ptDead hd
   ·obtain⟨cur',fz',hc,_⟩:=h2 _ _ _ hh
    exact .pt h1 hc
  |itrDead hd=>exact .itrDead (h.dead _ hd)
  |itr hg=>
   rcases h.own _ _ hg with hd|⟨h1,_⟩
   ·exact .itrDead hd
   ·exact .itr h1
  |fsZero=>exact .fsZero
  |fs hn hl hg hno hc h1 _ ih=>exact .fs hn hl (Nat.lt_of_lt_of_le hg h.size) (h.blk _ hg hno).2 (fun j hj=>h.cell hno (hc j hj)) h1 ih
  |fp hg hno hc h1 _ ih=>exact .fp (Nat.lt_of_lt_of_le hg h.size) (h.blk _ hg hno).2 (fun j hj=>h.cell hno (hc j hj)) h1 ih
  |ag hl h1 _ ih=>exact .ag hl h1 ih
  |tu hl _ ih=>exact .tu hl ih
  |fn hl _ ih=>exact .fn hl ih
theorem VR.shut {P:Program}{w:World}{ι:Pl}{o:Bool}{a:AV}{v:Value}(hv:VR P w ι o a v):a.closed=true→VR P w ι false a v:=by
  have all:∀(l:List AV),AV.closedAll l=true→∀j,j<l.length→(l.getD j .any).closed=true:=by
    intro l
    induction l with
    |nil=>intro _ j hj;simp at hj
    |cons a r ih=>
     intro h j hj
     simp only[AV.closedAll,Bool.and_eq_true]at h
     cases j with
     |zero=>simpa using h.1
     |succ j=>simpa using ih h.2 j (by simpa using hj)
  induction hv with
  |any=>intro _;exact .any
  |c=>intro _;exact .c
  |slDead|slZero|slAt|ptDead|pt|itrDead|itr=>intro h;simp[AV.closed]at h
  |fsZero=>intro _;exact .fsZero
  |fs hn hl hg hno hc h1 hr _=>intro _;exact .fs hn hl hg hno hc h1 hr
  |fp hg hno hc h1 hr _=>intro _;exact .fp hg hno hc h1 hr
  |ag hl h1 _ ih=>intro h;exact .ag hl h1 fun j hj=>ih j hj (all _ (by simpa [AV.closed]using h) j hj)
  |tu hl _ ih=>intro h;exact .tu hl fun j hj=>ih j hj (all _ (by simpa [AV.closed]using h) j hj)
  |fn hl _ ih=>intro h;exact .fn hl fun j hj=>ih j hj (all _ (by simpa [AV.closed]using h) j hj)
theorem VR.open_ {P:Program}{w:World}{ι:Pl}{o:Bool}{a:AV}{v:Value}(hv:VR P w ι o a v):VR P w ι true a v:=by
  induction hv with
  |any=>exact .any
  |c=>exact .c
  |slDead h=>exact .slDead h
  |slZero=>exact .slZero
  |slAt a b c d e=>exact .slAt a b c d e
  |ptDead h=>exact .ptDead h
  |pt h k=>exact .pt h k
  |itrDead h=>exact .itrDead h
  |itr h=>exact .itr h
  |fsZero=>exact .fsZero
  |fs hn hl hg hno hc h1 hr _=>exact .fs hn hl hg hno hc h1 hr
  |fp hg hno hc h1 hr _=>exact .fp hg hno hc h1 hr
  |ag hl h1 _ ih=>exact .ag hl h1 ih
  |tu hl _ ih=>exact .tu hl ih
  |fn hl _ ih=>exact .fn hl ih
theorem VR.weak {P:Program}{w:World}{ι:Pl}{o o':Bool}{a:AV}{v:Value}(hv:VR P w ι o a v)(h:o=true→o'=true):VR P w ι o' a v:=by
  cases o' with
  |true=>exact hv.open_
  |false=>cases o with
   |false=>exact hv
   |true=>exact absurd (h rfl) (by simp)
def upd (ι:Pl)(b:Nat)(x:Loc):Pl:= { ι with at_:=fun k=>if k=b then x else ι k}
@[simp] theorem upd_hid (ι:Pl) (b:Nat) (x:Loc):(upd ι b x).hid=ι.hid:=rfl
@[simp] theorem upd_same (ι:Pl) (b:Nat) (x:Loc):upd ι b x b=x:=by simp[upd]
theorem y6_ {ι:Pl}{b k:Nat}{x:Loc}(h:k≠b):upd ι b x k=ι k:=by simp[upd,h]
theorem SlotOK.ext {P:Program}{w w':World}{ι ι':Pl}(h:Ext w ι w' ι'){b:Nat}(hb:ι' b=ι b)(hg:∀g,ι b= .here g→w'.heap[g]? =w.heap[g]?){s:Option (Option Blk)}(k:SlotOK P w ι b s):
    SlotOK P w' ι' b s:=by
  match s,k with
  |none,k=>exact hb.trans k
  |some none,k=>exact hb.trans k
  |some (some B),k=>
   rcases k with⟨k1,k2⟩|⟨g,cur,fz,k1,k2,k3,k4,k5,k6⟩|⟨g,s,pos,k1,k2,k3,k4⟩
   ·exact .inl ⟨hb.trans k1,k2⟩
   ·exact .inr (.inl ⟨g,cur,fz,hb.trans k1,(hg g k1).trans k2,k3,k4,k5,fun j hj=>(k6 j hj).mono h⟩)
   ·exact .inr (.inr ⟨g,s,pos,hb.trans k1,k2,(hg g k1).trans k3,k4⟩)
structure Pushed (w w':World) (o:Obj):Prop where
  os:w'.os=w.os
  tape:w'.tape=w.tape
  output:w'.output=w.output
  heap:w'.heap=w.heap.push o
theorem Pushed.size {w w':World}{o:Obj}(h:Pushed w w' o):w'.heap.size=w.heap.size+1:=by rw[h.heap];simp
theorem Pushed.old {w w':World}{o:Obj}(h:Pushed w w' o){g:Nat}(hg:g<w.heap.size):w'.heap[g]? =w.heap[g]? :=by
  rw[h.heap,Array.getElem?_push,if_neg (Nat.ne_of_lt hg)]
theorem Pushed.new {w w':World}{o:Obj}(h:Pushed w w' o):w'.heap[w.heap.size]? =some o:=by rw[h.heap];simp
variable [Gv]
theorem HpRel.lt {P:Program}{w:World}{ι:Pl}{hp:Heap}(h:HpRel P w ι hp){b g:Nat}(hb:ι b= .here g):g<w.heap.size:=by
  have k:=h.blk b
  match hs:hp[b]?,k with
  |none,k=>rw[show ι b= .fresh from k]at hb;cases hb
  |some none,k=>rw[show ι b= .dead from k]at hb;cases hb
  |some (some B),k=>
   rcases k with⟨k1,_⟩|⟨g',cur,fz,k1,k2,_⟩|⟨g',s,pos,k1,_,k2,_⟩
   ·rw[k1]at hb;cases hb
   ·rw[k1]at hb;cases hb
    exact(Array.getElem?_eq_some_iff.1 k2).1
   ·rw[k1]at hb;cases hb
    exact(Array.getElem?_eq_some_iff.1 k2).1
theorem HpRel.freshLen {P:Program}{w:World}{ι:Pl}{hp:Heap}(h:HpRel P w ι hp):ι hp.length= .fresh:=by
  have k:=h.blk hp.length
  rw[List.getElem?_eq_none (Nat.le_refl _)]at k
  exact k
theorem HpRel.ext {P:Program}{w w':World}{ι:Pl}{hp:Heap}(h:HpRel P w ι hp)(hos:w'.os=w.os)(ht:w'.tape=w.tape)(ho:w'.output=w.output)(hsz:w.heap.size≤w'.heap.size)
    (hb:∀g,g<w.heap.size→w'.heap[g]? =w.heap[g]?):Ext w ι w' ι∧HpRel P w' ι hp:=by
  have e:Ext w ι w' ι:=⟨hos,ht,ho,hsz,rfl,fun g hg _=>hb g hg,fun g hg hn=>⟨hb g hg,hn⟩,fun b g hbg=> .inr ⟨hbg,fun cur _ fz hc=>⟨cur,fz,(hb g (h.lt hbg)).trans hc,rfl⟩⟩,fun _ h=>h⟩
  exact⟨e,fun b=>(h.blk b).ext e rfl (fun g hg=>hb g (h.lt hg)),h.inj,h.nohid,fun g hg=>Nat.lt_of_lt_of_le (h.hlt g hg) hsz,fun g l hg=>(h.gl g l hg).mono e⟩
omit [Gv]in
theorem getElem?_snoc (hp:Heap)(B:Option Blk){b:Nat}(h:b≠hp.length):(hp++[B])[b]? =hp[b]? :=by
  by_cases hlt:b<hp.length
  ·rw[List.getElem?_append_left hlt]
  ·rw[List.getElem?_append_right (by omega),List.getElem?_eq_none (by simp;omega),List.getElem?_eq_none (by omega)]
omit [Gv]in
theorem getElem?_snoc_same (hp:Heap)(B:Option Blk):(hp++[B])[hp.length]? =some B:=by
  rw[List.getElem?_append_right (Nat.le_refl _)]
  simp
theorem HpRel.push {P:Program}{w w':World}{ι:Pl}{hp:Heap}(h:HpRel P w ι hp){cur:Array Value}{fz:Nat×Nat}{B:Blk}(hw:Pushed w w' (.cells cur B.e fz))
    (hfz:RowOK P B.e cur fz) (hl:B.cells.length≤cur.size) (h1:∀j,j<B.cells.length→(cur.getD j undef).oneCell'=true)
    (hr:∀j,j<B.cells.length→VR P w ι B.op (B.cells.getD j .any) (cur.getD j undef)):
    Ext w ι w' (upd ι hp.length (.here w.heap.size))∧HpRel P w' (upd ι hp.length (.here w.heap.size)) (hp++[some B]):=by
  have hf:=h.freshLen
  have e:Ext w ι w' (upd ι hp.length (.here w.heap.size)):=by
    refine⟨hw.os,hw.tape,hw.output,by rw[hw.size];omega,rfl,fun g hg _=>hw.old hg,?_,?_,?_⟩
    ·intro g hg hn
     refine⟨hw.old hg,fun b hb=>?_,hn.2⟩
     by_cases hbl:b=hp.length
     ·subst hbl;simp at hb;omega
     ·rw[y6_ hbl]at hb;exact hn.1 b hb
    ·intro b g hb
     have hbl:b≠hp.length:=by rintro rfl;rw[hf]at hb;cases hb
     exact .inr ⟨by rw[y6_ hbl];exact hb,fun cur _ fz hc=>⟨cur,fz,(hw.old (h.lt hb)).trans hc,rfl⟩⟩
    ·intro b hb
     have hbl:b≠hp.length:=by rintro rfl;rw[hf]at hb;cases hb
     rw[y6_ hbl];exact hb
  refine⟨e,fun b=>?_,?_,?_,fun g hg=>by rw[hw.size];have:=h.hlt g hg;omega,fun g l hg=>(h.gl g l hg).mono e⟩
  ·by_cases hbl:b=hp.length
   ·subst hbl
    rw[getElem?_snoc_same]
    exact .inr (.inl ⟨w.heap.size,cur,fz,by simp,hw.new,hfz,hl,h1,fun j hj=>(hr j hj).mono e⟩)
   ·rw[getElem?_snoc _ _ hbl]
    exact(h.blk b).ext e (y6_ hbl) (fun g hg=>hw.old (h.lt hg))
  ·intro b b' g hb hb'
   by_cases h1:b=hp.length<;>by_cases h2:b'=hp.length
   ·omega
   ·subst h1;rw[y6_ h2]at hb';simp at hb;have:=h.lt hb';omega
   ·subst h2;rw[y6_ h1]at hb;simp at hb';have:=h.lt hb;omega
   ·rw[y6_ h1]at hb;rw[y6_ h2]at hb';exact h.inj b b' g hb hb'
  ·intro b g hb hh
   by_cases h1:b=hp.length
   ·subst h1;simp at hb;have:=h.hlt g hh;omega
   ·rw[y6_ h1]at hb;exact h.nohid b g hb hh
theorem HpRel.pushIter {P:Program}{w w':World}{ι:Pl}{hp:Heap}(h:HpRel P w ι hp){s:List UInt8}{pos:Nat}{B:Blk}(hB:B.cells=[.iter s pos])(hop:B.op=true)(hw:Pushed w w' (.stringIter ⟨⟨s⟩⟩ pos)):
    Ext w ι w' (upd ι hp.length (.here w.heap.size))∧HpRel P w' (upd ι hp.length (.here w.heap.size)) (hp++[some B]):=by
  have hf:=h.freshLen
  have e:Ext w ι w' (upd ι hp.length (.here w.heap.size)):=by
    refine⟨hw.os,hw.tape,hw.output,by rw[hw.size];omega,rfl,fun g hg _=>hw.old hg,?_,?_,?_⟩
    ·intro g hg hn
     refine⟨hw.old hg,fun b hb=>?_,hn.2⟩
     by_cases hbl:b=hp.length
     ·subst hbl;simp at hb;omega
     ·rw[y6_ hbl]at hb;exact hn.1 b hb
    ·intro b g hb
     have hbl:b≠hp.length:=by rintro rfl;rw[hf]at hb;cases hb
     exact .inr ⟨by rw[y6_ hbl];exact hb,fun cur _ fz hc=>⟨cur,fz,(hw.old (h.lt hb)).trans hc,rfl⟩⟩
    ·intro b hb
     have hbl:b≠hp.length:=by rintro rfl;rw[hf]at hb;cases hb
     rw[y6_ hbl];exact hb
  refine⟨e,fun b=>?_,?_,?_,fun g hg=>by rw[hw.size];have:=h.hlt g hg;omega,fun g l hg=>(h.gl g l hg).mono e⟩
  ·by_cases hbl:b=hp.length
   ·subst hbl
    rw[getElem?_snoc_same]
    exact .inr (.inr ⟨w.heap.size,s,pos,by simp,hB,hw.new,hop⟩)
   ·rw[getElem?_snoc _ _ hbl]
    exact(h.blk b).ext e (y6_ hbl) (fun g hg=>hw.old (h.lt hg))
  ·intro b b' g hb hb'
   by_cases h1:b=hp.length<;>by_cases h2:b'=hp.length
   ·omega
   ·subst h1;rw[y6_ h2]at hb';simp at hb;have:=h.lt hb';omega
   ·subst h2;rw[y6_ h1]at hb;simp at hb';have:=h.lt hb;omega
   ·rw[y6_ h1]at hb;rw[y6_ h2]at hb';exact h.inj b b' g hb hb'
  ·intro b g hb hh
   by_cases h1:b=hp.length
   ·subst h1;simp at hb;have:=h.hlt g hh;omega
   ·rw[y6_ h1]at hb;exact h.nohid b g hb hh
theorem HpRel.pushVirt {P:Program}{w:World}{ι:Pl}{hp:Heap}(h:HpRel P w ι hp){B:Blk}(hB:B.cells=[]):
    Ext w ι w (upd ι hp.length .virt)∧HpRel P w (upd ι hp.length .virt) (hp++[some B]):=by
  have hf:=h.freshLen
  have e:Ext w ι w (upd ι hp.length .virt):=by
    refine⟨rfl,rfl,rfl,Nat.le_refl _,rfl,fun _ _ _=>rfl,?_,?_,?_⟩
    ·intro g hg hn
     refine⟨rfl,fun b hb=>?_,hn.2⟩
     by_cases hbl:b=hp.length
     ·subst hbl;simp at hb
     ·rw[y6_ hbl]at hb;exact hn.1 b hb
    ·intro b g hb
     have hbl:b≠hp.length:=by rintro rfl;rw[hf]at hb;cases hb
     exact .inr ⟨by rw[y6_ hbl];exact hb,fun cur _ fz hc=>⟨cur,fz,hc,rfl⟩⟩
    ·intro b hb
     have hbl:b≠hp.length:=by rintro rfl;rw[hf]at hb;cases hb
     rw[y6_ hbl];exact hb
  refine⟨e,fun b=>?_,?_,?_,h.hlt,fun g l hg=>(h.gl g l hg).mono e⟩
  ·by_cases hbl:b=hp.length
   ·subst hbl
    rw[getElem?_snoc_same]
    exact .inl ⟨by simp,hB⟩
   ·rw[getElem?_snoc _ _ hbl]
    exact(h.blk b).ext e (y6_ hbl) (fun g hg=>rfl)
  ·intro b b' g hb hb'
   by_cases h1:b=hp.length<;>by_cases h2:b'=hp.length
   ·omega
   ·subst h1;simp at hb
   ·subst h2;simp at hb'
   ·rw[y6_ h1]at hb;rw[y6_ h2]at hb';exact h.inj b b' g hb hb'
  ·intro b g hb hh
   by_cases h1:b=hp.length
   ·subst h1;simp at hb
   ·rw[y6_ h1]at hb;exact h.nohid b g hb hh
omit [Gv]in
theorem List.getElem?_set_kill (hp:Heap)(b k:Nat):(List.set hp b none)[k]? =if k=b∧k<hp.length then some none else hp[k]? :=by
  rw[List.getElem?_set]
  by_cases h:b=k
  ·subst h
   by_cases hl:b<hp.length
   ·simp[hl]
   ·simp[hl]
  ·rw[if_neg h,if_neg (by omega)]
theorem HpRel.kill {P:Program}{w:World}{ι:Pl}{hp:Heap}(h:HpRel P w ι hp){b:Nat}(hb:b<hp.length):
    Ext w ι w (upd ι b .dead)∧HpRel P w (upd ι b .dead) (List.set hp b none):=by
  have e:Ext w ι w (upd ι b .dead):=by
    refine⟨rfl,rfl,rfl,Nat.le_refl _,rfl,fun _ _ _=>rfl,?_,?_,?_⟩
    ·intro g hg hn
     refine⟨rfl,fun k hk=>?_,hn.2⟩
     by_cases hbl:k=b
     ·subst hbl;simp at hk
     ·rw[y6_ hbl]at hk;exact hn.1 k hk
    ·intro k g hk
     by_cases hbl:k=b
     ·subst hbl;exact .inl (by simp)
     ·exact .inr ⟨by rw[y6_ hbl];exact hk,fun cur _ fz hc=>⟨cur,fz,hc,rfl⟩⟩
    ·intro k hk
     by_cases hbl:k=b
     ·subst hbl;simp
     ·rw[y6_ hbl];exact hk
  refine⟨e,fun k=>?_,?_,?_,h.hlt,fun g l hg=>(h.gl g l hg).mono e⟩
  ·rw[List.getElem?_set_kill]
   by_cases hbl:k=b
   ·subst hbl
    rw[if_pos ⟨rfl,hb⟩]
    show upd ι k .dead k= .dead
    simp
   ·rw[if_neg (by omega)]
    exact(h.blk k).ext e (y6_ hbl) (fun g hg=>rfl)
  ·intro k k' g hk hk'
   by_cases h1:k=b<;>by_cases h2:k'=b
   ·omega
   ·subst h1;simp at hk
   ·subst h2;simp at hk'
   ·rw[y6_ h1]at hk;rw[y6_ h2]at hk';exact h.inj k k' g hk hk'
  ·intro k g hk hh
   by_cases h1:k=b
   ·subst h1;simp at hk
   ·rw[y6_ h1]at hk;exact h.nohid k g hk hh
structure Put (w w':World) (g:Nat) (cur':Array Value) (e:TypeId) (fz:Nat×Nat):Prop where
  os:w'.os=w.os
  tape:w'.tape=w.tape
  output:w'.output=w.output
  size:w'.heap.size=w.heap.size
  here:w'.heap[g]? =some (.cells cur' e fz)
  other:∀k,k≠g→w'.heap[k]? =w.heap[k]?
omit [Gv]in
theorem put_setRow (w:World)(g:Nat)(cur cur':Array Value)(e:TypeId)(fz:Nat×Nat)(hg:w.heap[g]? =some (.cells cur e fz)):Put w (w.setRow g cur') g cur' e fz:=
  ⟨rfl,rfl,rfl,by simp[World.setRow],setRow_heap w g cur cur' e fz hg,fun k hk=>setRow_other w g k cur' hk⟩
theorem HpRel.write {P:Program}{w w':World}{ι:Pl}{hp:Heap}(h:HpRel P w ι hp){b g:Nat}{cur cur':Array Value}{fz:Nat×Nat}{B:Blk}(hb:ι b= .here g)(hbl:b<hp.length)
    (hg:w.heap[g]? =some (.cells cur B.e fz)) (hw:Put w w' g cur' B.e fz) (hsz:cur'.size=cur.size)
    (hfz:RowOK P B.e cur' fz) (hl:B.cells.length≤cur'.size) (h1:∀j,j<B.cells.length→(cur'.getD j undef).oneCell'=true)
    (hr:∀j,j<B.cells.length→VR P w ι B.op (B.cells.getD j .any) (cur'.getD j undef)):
    Ext w ι w' ι∧HpRel P w' ι (List.set hp b (some B)):=by
  have e:Ext w ι w' ι:=by
    refine⟨hw.os,hw.tape,hw.output,by rw[hw.size];omega,rfl,fun k hk hh=>hw.other k (by rintro rfl;exact h.nohid b _ hb hh),?_,?_,fun _ h=>h⟩
    ·intro k hk hn
     exact⟨hw.other k (by rintro rfl;exact hn.1 b hb),hn⟩
    ·intro k g' hk
     refine .inr ⟨hk,fun c e f hc=>?_⟩
     by_cases hgg:g'=g
     ·subst hgg
      rw[hg]at hc;cases hc
      exact⟨cur',_,hw.here,hsz⟩
     ·exact⟨c,f,(hw.other g' hgg).trans hc,rfl⟩
  refine⟨e,fun k=>?_,h.inj,h.nohid,fun g hg=>by rw[hw.size];exact h.hlt g hg,fun g l hg=>(h.gl g l hg).mono e⟩
  by_cases hk:k=b
  ·subst hk
   rw[List.getElem?_set_self hbl]
   exact .inr (.inl ⟨g,cur',fz,hb,hw.here,hfz,hl,h1,fun j hj=>(hr j hj).mono e⟩)
  ·rw[List.getElem?_set_ne (Ne.symm hk)]
   exact(h.blk k).ext e rfl (fun g' hg'=>hw.other g' (by rintro rfl;exact hk (h.inj _ _ _ hg' hb)))
theorem HpRel.writeIter {P:Program}{w w':World}{ι:Pl}{hp:Heap}(h:HpRel P w ι hp){b g:Nat}{s0:ByteArray}{pos0:Nat}{s:List UInt8}{pos:Nat}{B:Blk}(hb:ι b= .here g)(hbl:b<hp.length)
    (hg:w.heap[g]? =some (.stringIter s0 pos0)) (hB:B.cells=[.iter s pos]) (hop:B.op=true) (hos:w'.os=w.os) (ht:w'.tape=w.tape) (ho:w'.output=w.output) (hsz:w'.heap.size=w.heap.size)
    (here:w'.heap[g]? =some (.stringIter ⟨⟨s⟩⟩ pos)) (other:∀k,k≠g→w'.heap[k]? =w.heap[k]?):
    Ext w ι w' ι∧HpRel P w' ι (List.set hp b (some B)):=by
  have e:Ext w ι w' ι:=by
    refine⟨hos,ht,ho,by rw[hsz];omega,rfl,fun k hk hh=>other k (by rintro rfl;exact h.nohid b _ hb hh),?_,?_,fun _ h=>h⟩
    ·intro k hk hn
     exact⟨other k (by rintro rfl;exact hn.1 b hb),hn⟩
    ·intro k g' hk
     refine .inr ⟨hk,fun c e f hc=>?_⟩
     by_cases hgg:g'=g
     ·subst hgg
      rw[hg]at hc;cases hc
     ·exact⟨c,f,(other g' hgg).trans hc,rfl⟩
  refine⟨e,fun k=>?_,h.inj,h.nohid,fun g hg=>by rw[hsz];exact h.hlt g hg,fun g l hg=>(h.gl g l hg).mono e⟩
  by_cases hk:k=b
  ·subst hk
   rw[List.getElem?_set_self hbl]
   exact .inr (.inr ⟨g,s,pos,hb,hB,here,hop⟩)
  ·rw[List.getElem?_set_ne (Ne.symm hk)]
   exact(h.blk k).ext e rfl (fun g' hg'=>other g' (by rintro rfl;exact hk (h.inj _ _ _ hg' hb)))
theorem HpRel.killPut {P:Program}{w w':World}{ι:Pl}{hp:Heap}(h:HpRel P w ι hp){b g:Nat}(hb:ι b= .here g)(hbl:b<hp.length)(hos:w'.os=w.os)(ht:w'.tape=w.tape)(ho:w'.output=w.output)
    (hsz:w'.heap.size=w.heap.size) (hother:∀k,k≠g→w'.heap[k]? =w.heap[k]?):Ext w ι w' (upd ι b .dead)∧HpRel P w' (upd ι b .dead) (List.set hp b none):=by
  have e:Ext w ι w' (upd ι b .dead):=by
    refine⟨hos,ht,ho,by rw[hsz];omega,rfl,fun k hk hh=>hother k (by rintro rfl;exact h.nohid b _ hb hh),?_,?_,?_⟩
    ·intro k hk hn
     refine⟨hother k (by rintro rfl;exact hn.1 b hb),fun i hi=>?_,hn.2⟩
     by_cases hbl:i=b
     ·subst hbl;simp at hi
     ·rw[y6_ hbl]at hi;exact hn.1 i hi
    ·intro k g' hk
     by_cases hbl:k=b
     ·subst hbl;exact .inl (by simp)
     ·exact .inr ⟨by rw[y6_ hbl];exact hk,fun c e f hc=>⟨c,f,(hother g' (by rintro rfl;exact hbl (h.inj _ _ _ hk hb))).trans hc,rfl⟩⟩
    ·intro k hk
     by_cases hbl:k=b
     ·subst hbl;simp
     ·rw[y6_ hbl];exact hk
  refine⟨e,fun k=>?_,?_,?_,fun g hg=>by rw[hsz];exact h.hlt g hg,fun g l hg=>(h.gl g l hg).mono e⟩
  ·rw[List.getElem?_set_kill]
   by_cases hk:k=b
   ·subst hk
    rw[if_pos ⟨rfl,hbl⟩]
    show upd ι k .dead k= .dead
    simp
   ·rw[if_neg (by omega)]
    exact(h.blk k).ext e (y6_ hk) (fun g' hg'=>hother g' (by rintro rfl;exact hk (h.inj _ _ _ hg' hb)))
  ·intro k k' g' hk hk'
   by_cases h1:k=b<;>by_cases h2:k'=b
   ·omega
   ·subst h1;simp at hk
   ·subst h2;simp at hk'
   ·rw[y6_ h1]at hk;rw[y6_ h2]at hk';exact h.inj k k' g' hk hk'
  ·intro k g' hk hh
   by_cases h1:k=b
   ·subst h1;simp at hk
   ·rw[y6_ h1]at hk;exact h.nohid k g' hk hh
theorem HpRel.moveIn {P:Program}{w w':World}{ι:Pl}{hp:Heap}(h:HpRel P w ι hp){b g:Nat}{cur':Array Value}{fz:Nat×Nat}{B:Blk}(hb:ι b= .here g)(hbl:b<hp.length)
    (hw:Put w w' g cur' B.e fz)
    (hfz:RowOK P B.e cur' fz) (hl:B.cells.length≤cur'.size) (h1:∀j,j<B.cells.length→(cur'.getD j undef).oneCell'=true)
    (hr:∀j,j<B.cells.length→VR P w ι B.op (B.cells.getD j .any) (cur'.getD j undef)):
    Ext w ι w' (upd (upd ι b .dead) hp.length (.here g))∧HpRel P w' (upd (upd ι b .dead) hp.length (.here g)) (List.set hp b none++[some B]):=by
  have hf:=h.freshLen
  have hne:b≠hp.length:=by omega
  have at_:∀k,k≠b→k≠hp.length→upd (upd ι b .dead) hp.length (.here g) k=ι k:=fun k h1 h2=>by rw[y6_ h2,y6_ h1]
  have atb:upd (upd ι b .dead) hp.length (.here g) b= .dead:=by rw[y6_ hne];simp
  have e:Ext w ι w' (upd (upd ι b .dead) hp.length (.here g)):=by
    refine⟨hw.os,hw.tape,hw.output,by rw[hw.size];omega,rfl,fun k hk hh=>hw.other k (by rintro rfl;exact h.nohid b _ hb hh),?_,?_,?_⟩
    ·intro k hk hn
     have hkg:k≠g:=by rintro rfl;exact hn.1 b hb
     refine⟨hw.other k hkg,fun i hi=>?_,hn.2⟩
     by_cases h1:i=hp.length
     ·subst h1;simp at hi;exact hkg hi.symm
     ·by_cases h2:i=b
      ·subst h2;rw[atb]at hi;cases hi
      ·rw[at_ i h2 h1]at hi;exact hn.1 i hi
    ·intro i g' hi
     by_cases h2:i=b
     ·subst h2;exact .inl atb
     ·have h1:i≠hp.length:=by rintro rfl;rw[hf]at hi;cases hi
      refine .inr ⟨by rw[at_ i h2 h1];exact hi,fun c e f hc=>⟨c,f,(hw.other g' ?_).trans hc,rfl⟩⟩
      rintro rfl
      exact h2 (h.inj _ _ _ hi hb)
    ·intro i hi
     by_cases h2:i=b
     ·subst h2;exact atb
     ·have h1:i≠hp.length:=by rintro rfl;rw[hf]at hi;cases hi
      rw[at_ i h2 h1];exact hi
  refine⟨e,fun k=>?_,?_,?_,fun g' hg'=>by rw[hw.size];exact h.hlt g' hg',fun g l hg=>(h.gl g l hg).mono e⟩
  ·by_cases hk:k=hp.length
   ·subst hk
    rw[List.getElem?_append_right (by simp)]
    simp only[List.length_set,Nat.sub_self,List.getElem?_cons_zero]
    exact .inr (.inl ⟨g,cur',fz,by simp,hw.here,hfz,hl,h1,fun j hj=>(hr j hj).mono e⟩)
   ·have hs:(List.set hp b none++[some B])[k]? =(List.set hp b none)[k]? :=by
      by_cases hlt:k<hp.length
      ·rw[List.getElem?_append_left (by simpa using hlt)]
      ·rw[List.getElem?_append_right (by simp;omega),List.getElem?_eq_none (by simp;omega),List.getElem?_eq_none (by simp;omega)]
    rw[hs,List.getElem?_set_kill]
    by_cases h2:k=b
    ·subst h2
     rw[if_pos ⟨rfl,hbl⟩]
     exact atb
    ·rw[if_neg (by omega)]
     exact(h.blk k).ext e (at_ k h2 hk) (fun g' hg'=>hw.other g' (by rintro rfl;exact h2 (h.inj _ _ _ hg' hb)))
  ·intro k k' g' hk hk'
   have key:∀i,upd (upd ι b .dead) hp.length (.here g) i= .here g'→(i=hp.length∧g'=g)∨(i≠b∧ι i= .here g'):=by
     intro i hi
     by_cases h1:i=hp.length
     ·subst h1;simp at hi;exact .inl ⟨rfl,hi.symm⟩
     ·by_cases h2:i=b
      ·subst h2;rw[atb]at hi;cases hi
      ·rw[at_ i h2 h1]at hi;exact .inr ⟨h2,hi⟩
   rcases key k hk with⟨r1,r2⟩|⟨r1,r2⟩<;>rcases key k' hk' with⟨s1,s2⟩|⟨s1,s2⟩
   ·omega
   ·subst r2;exact absurd (h.inj _ _ _ s2 hb) s1
   ·subst s2;exact absurd (h.inj _ _ _ r2 hb) r1
   ·exact h.inj _ _ _ r2 s2
  ·intro k g' hk hh
   by_cases h1:k=hp.length
   ·subst h1;simp at hk;subst hk;exact h.nohid b _ hb hh
   ·by_cases h2:k=b
    ·subst h2;rw[atb]at hk;cases hk
    ·rw[at_ k h2 h1]at hk;exact h.nohid k g' hk hh
theorem HpRel.movePush {P:Program}{w w':World}{ι:Pl}{hp:Heap}(h:HpRel P w ι hp){b:Nat}(hbl:b<hp.length){cur:Array Value}{fz:Nat×Nat}{B:Blk}(hw:Pushed w w' (.cells cur B.e fz))
    (hfz:RowOK P B.e cur fz) (hl:B.cells.length≤cur.size) (h1:∀j,j<B.cells.length→(cur.getD j undef).oneCell'=true)
    (hr:∀j,j<B.cells.length→VR P w ι B.op (B.cells.getD j .any) (cur.getD j undef)):
    ∃ι',ι' hp.length= .here w.heap.size∧Ext w ι w' ι'∧HpRel P w' ι' (List.set hp b none++[some B]):=by
  obtain⟨e1,k1⟩:=h.kill hbl
  obtain⟨e2,k2⟩:=k1.push hw hfz hl h1 (fun j hj=>(hr j hj).mono e1)
  simp only[List.length_set]at e2 k2
  exact⟨_,by simp,e1.trans e2,k2⟩
theorem HpRel.moveVirt {P:Program}{w:World}{ι:Pl}{hp:Heap}(h:HpRel P w ι hp){b:Nat}(hbl:b<hp.length){B:Blk}(hB:B.cells=[]):
    ∃ι',Ext w ι w ι'∧HpRel P w ι' (List.set hp b none++[some B]):=by
  obtain⟨e1,k1⟩:=h.kill hbl
  obtain⟨e2,k2⟩:=k1.pushVirt hB
  simp only[List.length_set]at e2 k2
  exact⟨_,e1.trans e2,k2⟩
end Go.Proofs.YtmjldphagbobpaaDoor
namespace Go.Proofs.YtmjldphagbobpaaDoor
open IntKind (i64 u8 i32 u32 u64)
open Go.RowKit
variable [Gv]
def CmdPost (w:World)(ι:Pl)(w':World)(ι':Pl):Cmd→Prop
  | .nop=>w'=w∧ι'=ι
  | .push _=>∀g,g<w.heap.size→w'.heap[g]? =w.heap[g]?
  |_=>True
def v1_ (P:Program)(w:World)(ι:Pl)(r:Result Next)(av:AV)(cmd:Cmd)(hp:Heap):Prop:=
  ∃n w' ι' v,r= .ok n w'∧(n= .value v∨(n= .skip∧v=undef))∧Ext w ι w' ι'∧HpRel P w' ι' (cmd.run hp)∧VR P w' ι' true av v∧CmdPost w ι w' ι' cmd
theorem v1_.pure_ {P:Program}{w:World}{ι:Pl}{r:Result Next}{av:AV}{hp:Heap}{v:Value}(hh:HpRel P w ι hp)(hr:r= .ok (.value v) w)(hv:VR P w ι true av v):v1_ P w ι r av .nop hp:=
  ⟨_,w,ι,v,hr,.inl rfl,Ext.refl _ _,hh,hv,rfl,rfl⟩
omit [Gv]in
theorem run_value {P:Program}{w w':World}{s:Sem Value}{v:Value}(h:s.run P w= .ok v w'):(do pure (Next.value (←s)):Sem Next).run P w= .ok (.value v) w':=by
  simp[h,Result.andThen_ok]
omit [Gv]in
theorem isC_conc {a:AV}{P:Program}{w:World}{ι:Pl}{o:Bool}{v:Value}(hc:a.isC=true)(hv:VR P w ι o a v):v=a.conc:=by
  cases hv<;>simp[AV.isC]at hc
  rfl
omit [Gv]in
theorem VR.cInv {P:Program}{w:World}{ι:Pl}{o:Bool}{v u:Value}(h:VR P w ι o (.c v) u):u=v:=by cases h;rfl
omit [Gv]in
theorem h8_ (s:ByteArray):(sb s).length=s.size:=by unfold sb;rw[Array.length_toList];rfl
omit [Gv]in
theorem byteC_rel {P:Program}{w:World}{ι:Pl}{o:Bool}(x:UInt8):VR P w ι o (t4_ x) (.int .u8 x.toNat):= .c
omit [Gv]in
theorem sBin_run {P:Program}(w:World)(op:BinOp)(t:TypeId)(x y:Operand)(a b v:Value)(h:sBin op a b=some v):
    (do eqGuard op t x y a b;binOp op t a b:Sem Value).run P w= .ok v w:=by
  unfold sBin at h
  split at h
  ·rename_i k a k' b
   by_cases hk:k=k'
   ·subst hk
    simp only[if_true]at h
    cases op<;>simp at h<;>subst h<;>simp[eqGuard,binOp,Op.intArith,Op.intCmp]
   ·simp[hk]at h
  ·rename_i a b
   cases op<;>simp at h<;>subst h<;>simp[eqGuard,binOp,Op.stringOp,ByteArray.toList_eq,sb]
  ·simp at h
omit [Gv]in
theorem fBin_run {P:Program}(w:World)(op:BinOp)(t:TypeId)(x y:Operand)(a b v:Value)(k:Ck)(h:fBin op a b=some (k,v))(hk:k.p):
    (do eqGuard op t x y a b;binOp op t a b:Sem Value).run P w= .ok v w:=by
  unfold fBin at h
  split at h
  ·rename_i a b
   split at h
   ·rename_i hf
    simp only[oi_]at h
    obtain⟨rfl,rfl⟩:=h
    have hk:(floatBits op .f64 a b).isSome=true:=hk
    obtain⟨r,hr⟩:=Option.isSome_iff_exists.1 hk
    have hg:(eqGuard op t x y (.float .f64 a) (.float .f64 b):Sem Unit)=pure ():=by
      cases op<;>simp[fArith]at hf<;>rfl
    have hrun:=run_float_arith (P:=P) (w:=w) op t .f64 a b r hr
    rw[hg,hr]
    exact hrun
   ·simp at h
  ·simp at h
theorem b2_ {P:Program}{w:World}{ι:Pl}{hp:Heap}{ev:Operand→AV}{ρ:Operand→Value}{o:Oper}{cks:List Ck}{av:AV}{cmd:Cmd}
    (hρ:∀x∈o.op.operands,VR P w ι true (ev x) (ρ x)) (hh:HpRel P w ι hp) (h:o9_ P ev o=some (cks,av,cmd)):v1_ P w ι ((execOp ρ o).run P w) av cmd hp:=by
  have key:o.op.operands.all (fun x=>(ev x).isC)=true→(∀cs b,o.op≠ .select cs b)→∀v,pr P (execOp (fun x=>(ev x).conc) o)=some (.value v)→v1_ P w ι ((execOp ρ o).run P w) (.c v) .nop hp:=by
    intro hall hs v hv
    have e:execOp ρ o=execOp (fun x=>(ev x).conc) o:=execOp_congr o hs fun x hx=>by
      have hc:(ev x).isC=true:=by
        rw[Array.all_eq_true_iff_forall_mem]at hall
        exact hall x hx
      exact isC_conc hc (hρ x hx)
    rw[e]
    exact .pure_ hh (pr_run P _ _ w hv) .c
  unfold o9_ at h
  split at h
  all_goals first
    |(simp at h;done)
    |skip
  rename_i hn1 hn2 hn3 hn4 hn5
  split at h
  ·rename_i hall
   split at h
   ·rename_i v hv
    simp only[oi_]at h
    obtain⟨_,rfl,rfl⟩:=h
    exact key hall (fun cs b e=>hn3 cs b e) v hv
   ·simp at h
  ·simp at h
omit [Gv]in
theorem b3_:∀{l k:List Ck},Ck.conj (l++k)→Ck.conj l∧Ck.conj k
  | [],_,h=>⟨trivial,h⟩
  |_::_,_,h=>⟨⟨h.1,(b3_ h.2).1⟩,(b3_ h.2).2⟩
omit [Gv]in
theorem run_execOp {P:Program}{w w':World}{ρ:Operand→Value}{o:Oper}{s:Sem Value}{v:Value}(he:execOp ρ o=(do pure (Next.value (←s))))(h:s.run P w= .ok v w'):(execOp ρ o).run P w= .ok (.value v) w':=by
  rw[he];exact run_value h
omit [Gv]in
theorem index_ok {P:Program}{w:World}{t:TypeId}{s:ByteArray}{k:IntKind}{i:Int}(ht:P.underlying t=some .string)(h0:0≤i)(h1:i<(sb s).length):
    (Instr.index t (.string s) (.int k i)).run P w= .ok (.int .u8 ((sb s).getD i.toNat 0).toNat) w:=by
  rw[h8_]at h1
  rw[run_index_string w t s k i ht,dif_pos ⟨h0,h1⟩]
  have hn:i.toNat<s.size:=by omega
  have:(sb s).getD i.toNat 0=s[i.toNat]:=by
    have hl:i.toNat<(sb s).length:=by rw[h8_];exact hn
    simp[List.getD,List.getElem?_eq_getElem hl]
    rfl
  rw[this]
omit [Gv]in
theorem lohi_none {P:Program}{w:World}{ι:Pl}{ev:Operand→AV}{ρ:Operand→Value}{lo hi:Option Operand}{n:Nat}{l h:Int}
    (hlo:∀x∈lo,VR P w ι true (ev x) (ρ x)) (hhi:∀x∈hi,VR P w ι true (ev x) (ρ x)) (e:lohi ev lo hi n=some (l,h)):
    ((lo.map ρ=none∧l=0)∨∃k,lo.map ρ=some (.int k l))∧((hi.map ρ=none∧h=n)∨∃k,hi.map ρ=some (.int k h)):=by
  have get:∀{x:Option Operand} {k:IntKind} {m:Int},(∀y∈x,VR P w ι true (ev y) (ρ y))→x.map ev=some (.c (.int k m))→x.map ρ=some (.int k m):=by
    intro x k m hx hm
    cases x with
    |none=>simp at hm
    |some y=>
     simp only[Option.map_some,Option.some.injEq]at hm ⊢
     have:=hx y rfl
     rw[hm]at this
     exact this.cInv
  have getn:∀{x:Option Operand},x.map ev=none→x.map ρ=none:=by
    intro x hm
    cases x with
    |none=>rfl
    |some y=>simp at hm
  unfold lohi at e
  split at e
  ·rename_i h1 h2
   simp only[oi_]at e
   obtain⟨rfl,rfl⟩:=e
   exact⟨.inl ⟨getn h1,rfl⟩,.inl ⟨getn h2,rfl⟩⟩
  ·rename_i k m h1 h2
   simp only[oi_]at e
   obtain⟨rfl,rfl⟩:=e
   exact⟨.inr ⟨k,get hlo h1⟩,.inl ⟨getn h2,rfl⟩⟩
  ·rename_i k m h1 h2
   simp only[oi_]at e
   obtain⟨rfl,rfl⟩:=e
   exact⟨.inl ⟨getn h1,rfl⟩,.inr ⟨k,get hhi h2⟩⟩
  ·rename_i k m k' m' h1 h2
   simp only[oi_]at e
   obtain⟨rfl,rfl⟩:=e
   exact⟨.inr ⟨k,get hlo h1⟩,.inr ⟨k',get hhi h2⟩⟩
  ·simp at e
omit [Gv]in
theorem run_bounds {P:Program}{w:World}{isSlice:Bool}{len cap:Nat}{lo hi:Option Value}{l h:Int}(hlo:(lo=none∧l=0)∨∃k,lo=some (.int k l))(hhi:(hi=none∧h=len)∨∃k,hi=some (.int k h))
    (h0:0≤l) (h1:l≤h) (h2:h≤len) (h3:len≤cap):(Instr.sliceBounds isSlice len cap lo hi none).run P w= .ok (l.toNat,h.toNat,cap) w:=by
  have hb:∀(k:IntKind) (i:Int) (y:Nat) (c:BoundsCode),0≤i→i≤y→(Instr.sliceBound (.int k i) y c).run P w= .ok i.toNat w:=by
    intro k i y c h0 h1
    simp[Instr.sliceBound,asIntOf,h0,h1]
  have hlh:(l:Int)≤(h.toNat:Int):=by omega
  have hhc:h≤(cap:Int):=by omega
  have hh0:0≤h:=by omega
  unfold Instr.sliceBounds
  rcases hlo with⟨rfl,rfl⟩|⟨k,rfl⟩<;>rcases hhi with⟨rfl,rfl⟩|⟨k',rfl⟩
  ·simp
  ·simp[hb k' h cap _ hh0 hhc]
  ·simp[hb k l len _ h0 (by omega)]
  ·simp[hb k' h cap _ hh0 hhc,hb k l h.toNat _ h0 hlh]
omit [Gv]in
theorem extract_sb (s:ByteArray)(l h:Nat):Value.string (s.extract l h)=str (((sb s).take h).drop l):=by
  unfold str
  congr 1
  have:(s.extract l h).data=⟨((sb s).take h).drop l⟩:=by
    rw[ByteArray.data_extract]
    apply Array.ext'
    simp[sb,List.drop_take]
  cases hx:s.extract l h with
  |mk d=>rw[hx]at this;simp at this;rw[this]
omit [Gv]in
theorem slice_string_ok {P:Program}{w:World}{t:TypeId}{s:ByteArray}{lo hi:Option Value}{l h:Int}(ht:P.underlying t=some .string)(hlo:(lo=none∧l=0)∨∃k,lo=some (.int k l))(hhi:(hi=none∧h=(sb s).length)∨∃k,hi=some (.int k h))
    (h0:0≤l) (h1:l≤h) (h2:h≤(sb s).length):(Instr.sliceAt t (.string s) lo hi none).run P w= .ok (str (((sb s).take h.toNat).drop l.toNat)) w:=by
  rw[h8_]at hhi h2
  have hb:=run_bounds (P:=P) (w:=w) (isSlice:=false) (cap:=s.size) hlo hhi h0 h1 h2 (Nat.le_refl _)
  unfold Instr.sliceAt
  simp only[Sem.run_bind,run_underlying ht,Result.andThen_ok]
  unfold Instr.slice
  simp only[Sem.run_bind,run_underlying ht,Result.andThen_ok,Option.isSome_none,Bool.false_eq_true,if_false,hb,Sem.run_pure]
  rw[extract_sb]
omit [Gv]in
theorem l0_ (l:List AV)(k j:Nat):(l.drop k).getD j .any=l.getD (k+j) .any:=by simp[List.getD]
omit [Gv]in
theorem n1_ (l:List AV)(k j:Nat)(h:j<k):(l.take k).getD j .any=l.getD j .any:=by simp[List.getD,h]
omit [Gv]in
theorem getD_append (l k:List AV)(j:Nat):(l++k).getD j .any=if j<l.length then l.getD j .any else k.getD (j-l.length) .any:=by
  simp only[List.getD,List.getElem?_append]
  split<;>rfl
omit [Gv]in
theorem VR.fsCut {P:Program}{w:World}{ι:Pl}{o:Bool}{s n:Nat}{L:List AV}{v:Value}(h:VR P w ι o (.fs s n L) v){lo hi:Nat}(h1:lo≤hi)(h2:hi≤n):
    ∃a cap,v= .slice a n cap∧n≤cap∧VR P w ι o (.fs s (hi-lo) ((L.take (hi*s)).drop (lo*s))) (.slice (if cap=lo then a else a.map (·.add (lo*s))) (hi-lo) (cap-lo)):=by
  cases h with
  |fsZero=>
   obtain rfl:hi=0:=by omega
   obtain rfl:lo=0:=by omega
   exact⟨_,_,rfl,Nat.zero_le _,by simpa using VR.fsZero⟩
  |fs hn hl hg hno hc ho hr=>
   rename_i g off cap us
   refine⟨_,_,rfl,hn,?_⟩
   by_cases hz:hi-lo=0
   ·have e1:(L.take (hi*s)).drop (lo*s)=[]:=by
      have:hi=lo:=by omega
      subst this
      exact List.drop_eq_nil_of_le (by simp;omega)
    rw[e1,hz]
    exact .fsZero
   ·have hcl:¬cap=lo:=by omega
    rw[if_neg hcl]
    have ea:(Option.map (fun x:Addr=>x.add (lo*s)) (some ⟨g,off,none⟩))=some ⟨g,off+lo*s,none⟩:=by
      simp[Addr.add]
    rw[ea]
    have hll:((L.take (hi*s)).drop (lo*s)).length≤(hi-lo)*s:=by
      rw[List.length_drop,List.length_take,Nat.sub_mul];omega
    have hll2:((L.take (hi*s)).drop (lo*s)).length+lo*s≤max L.length (lo*s):=by
      rw[List.length_drop,List.length_take];omega
    have hll3:((L.take (hi*s)).drop (lo*s)).length+lo*s≤max (hi*s) (lo*s):=by
      rw[List.length_drop,List.length_take];omega
    refine .fs (us:=fun j=>us (lo*s+j)) (by omega) hll hg hno ?_ ?_ ?_
    ·intro j hj
     have:=hc (lo*s+j) (by omega)
     rw[←Nat.add_assoc]at this
     exact this
    ·intro j hj
     exact ho _ (by omega)
    ·intro j hj
     rw[l0_,n1_ _ _ _ (by omega)]
     exact hr _ (by omega)
omit [Gv]in
theorem VR.slCut {P:Program}{w:World}{ι:Pl}{b off n:Nat}{v:Value}(h:VR P w ι true (.sl b off n) v)(hnd:ι b≠ .dead){B:Blk}(hB:SlotOK P w ι b (some (some B))){lo hi:Nat}(h1:lo≤hi)(h2:hi≤n):
    ∃a cap,v= .slice a n cap∧n≤cap∧VR P w ι true (.sl b (lo+off) (hi-lo)) (.slice (if cap=lo then a else a.map (·.add (lo*P.cellsOf B.e))) (hi-lo) (cap-lo)):=by
  cases h with
  |slDead hd=>exact absurd hd hnd
  |slZero=>
   obtain rfl:hi=0:=by omega
   obtain rfl:lo=0:=by omega
   exact⟨_,_,rfl,Nat.zero_le _,by simpa using VR.slZero⟩
  |slAt hg hh hn hs hm=>
   rename_i g cap cur e fz
   refine⟨_,_,rfl,hn,?_⟩
   have he:B.e=e:=by
     rcases hB with⟨k1,_⟩|⟨g',cur',fz',k1,k2,_⟩|⟨g',_,_,k1,_,k2,_⟩
     ·rw[hg]at k1;cases k1
     ·rw[hg]at k1;cases k1
      rw[hh]at k2;cases k2;rfl
     ·rw[hg]at k1;cases k1
      rw[hh]at k2;cases k2
   rw[he]
   by_cases hcl:cap=lo
   ·have hz:hi-lo=0:=by omega
    have hz2:cap-lo=0:=by omega
    rw[hz,hz2]
    exact .slZero
   ·rw[if_neg hcl]
    have ea:(Option.map (fun x:Addr=>x.add (lo*P.cellsOf e)) (some ⟨g,off*P.cellsOf e,none⟩))=some ⟨g,(lo+off)*P.cellsOf e,none⟩:=by
      simp only[Option.map_some,Addr.add]
      split
      ·rename_i hz;rw[Nat.add_mul,hz];simp
      ·simp[Nat.add_mul,Nat.add_comm]
    rw[ea]
    refine .slAt hg hh (by omega) ?_ (by omega)
    rw[←hs];congr 1;omega
omit [Gv]in
theorem slice_slice_ok {P:Program}{w:World}{t e:TypeId}{a:Option Addr}{n cap:Nat}{lo hi:Option Value}{l h:Int}(ht:P.underlying t=some (.slice e))(hi_:∃i,P.info? e=some i)
    (hlo:(lo=none∧l=0)∨∃k,lo=some (.int k l)) (hhi:(hi=none∧h=n)∨∃k,hi=some (.int k h))
    (h0:0≤l) (h1:l≤h) (h2:h≤n) (hn:n≤cap):(Instr.sliceAt t (.slice a n cap) lo hi none).run P w= .ok (.slice (if cap=l.toNat then a else a.map (·.add (l.toNat*P.cellsOf e))) (h.toNat-l.toNat) (cap-l.toNat)) w:=by
  obtain⟨i,hi_⟩:=hi_
  have hb:=run_bounds (P:=P) (w:=w) (isSlice:=true) (cap:=cap) hlo hhi h0 h1 h2 hn
  have hz:P.cellsOf e=i.size:=by simp[Program.cellsOf,hi_]
  unfold Instr.sliceAt
  simp only[Sem.run_bind,run_underlying ht,Result.andThen_ok]
  unfold Instr.slice
  simp only[Sem.run_bind,run_underlying ht,Result.andThen_ok,hb]
  simp[sizeOf,typeInfo,hi_,hz]
end Go.Proofs.YtmjldphagbobpaaDoor
namespace Go.Proofs.YtmjldphagbobpaaDoor
open IntKind (i64 u8 i32 u32 u64)
open Go.RowKit
variable [Gv]
variable {P:Program} {w:World} {ι:Pl} {hp:Heap}
omit [Gv]in
theorem m5_ {t e:TypeId}(h:i0_ P t=some e):P.underlying t=some (.slice e)∧0<P.cellsOf e∧∃i,P.info? e=some i∧i.size=P.cellsOf e:=by
  unfold i0_ at h
  split at h
  ·rename_i e' hu
   split at h
   ·rename_i hz
    cases h
    refine⟨hu,hz,?_⟩
    unfold Program.cellsOf at hz ⊢
    cases hi:P.info? e with
    |none=>simp[hi]at hz
    |some i=>exact⟨i,rfl,by simp⟩
   ·simp at h
  ·simp at h
omit [Gv]in
theorem d7_ {t:TypeId}(h:isStr P t=true):P.underlying t=some .string:=by
  unfold isStr at h
  split at h
  ·assumption
  ·simp at h
omit [Gv]in
theorem isU8_spec {t:TypeId}(h:isU8 P t=true):P.underlying t=some (.int .u8)∧P.cellsOf t=1:=by
  unfold isU8 at h
  split at h
  ·exact⟨by assumption,by simpa using h⟩
  ·simp at h
theorem HpRel.live (h:HpRel P w ι hp){b:Nat}{B:Blk}(hb:hp[b]? =some (some B)):BlkOK P w ι b B:=by
  have k:=h.blk b
  rw[hb]at k
  exact k
theorem HpRel.notDead (h:HpRel P w ι hp){b:Nat}{B:Blk}(hb:hp[b]? =some (some B)):ι b≠ .dead:=by
  rcases h.live hb with⟨k,_⟩|⟨g,_,_,k,_⟩|⟨g,_,_,k,_⟩<;>rw[k]<;>simp
omit [Gv]in
theorem VR.slShape {b off n:Nat}{v:Value}(h:VR P w ι true (.sl b off n) v)(hd:ι b≠ .dead):∃a cap,v= .slice a n cap∧n≤cap:=by
  cases h with
  |slDead k=>exact absurd k hd
  |slZero=>exact⟨_,_,rfl,Nat.le_refl _⟩
  |slAt _ _ hn _ _=>exact⟨_,_,rfl,hn⟩
omit [Gv]in
theorem VR.fsShape {o:Bool}{s n:Nat}{l:List AV}{v:Value}(h:VR P w ι o (.fs s n l) v):∃a cap,v= .slice a n cap∧n≤cap:=by
  cases h with
  |fsZero=>exact⟨_,_,rfl,Nat.zero_le _⟩
  |fs hn _ _ _ _ _ _=>exact⟨_,_,rfl,hn⟩
omit [Gv]in
theorem VR.slPlace {b off n:Nat}{v:Value}(h:VR P w ι true (.sl b off n) v){B:Blk}(hB:BlkOK P w ι b B)(hn:0<n):
    ∃g cap cur fz,ι b= .here g∧w.heap[g]? =some (.cells cur B.e fz)∧n≤cap∧(off+cap)*P.cellsOf B.e=cur.size∧cap≤maxLen∧v= .slice (some ⟨g,off*P.cellsOf B.e,none⟩) n cap:=by
  cases h with
  |slDead k=>rcases hB with⟨k1,_⟩|⟨g,_,_,k1,_⟩|⟨g,_,_,k1,_⟩<;>rw[k]at k1<;>cases k1
  |slZero=>omega
  |slAt hg hh hn2 hs hm=>
   rename_i g cap cur e fz
   have he:B.e=e:=by
     rcases hB with⟨k1,_⟩|⟨g',cur',fz',k1,k2,_⟩|⟨g',_,_,k1,_,k2,_⟩
     ·rw[hg]at k1;cases k1
     ·rw[hg]at k1;cases k1
      rw[hh]at k2;cases k2;rfl
     ·rw[hg]at k1;cases k1
      rw[hh]at k2;cases k2
   subst he
   exact⟨g,cap,cur,fz,hg,hh,hn2,hs,hm,rfl⟩
omit [Gv]in
theorem run_len_slice {t e:TypeId}{ty:TypeId}{a:Option Addr}{n cap:Nat}(ht:P.underlying t=some (.slice e)):(Builtin.len_ #[t] ty #[.slice a n cap]).run P w= .ok (.int .i64 n) w:=by
  simp[Builtin.len_,run_underlying ht,goInt]
omit [Gv]in
theorem run_len_str {t:TypeId}{ty:TypeId}{s:ByteArray}(ht:P.underlying t=some .string):(Builtin.len_ #[t] ty #[.string s]).run P w= .ok (.int .i64 s.size) w:=by
  simp[Builtin.len_,run_underlying ht,goInt]
theorem len_ok {t ty:TypeId}{x:AV}{v:Value}{cks:List Ck}{av:AV}{cmd:Cmd}(hh:HpRel P w ι hp)(hv:VR P w ι true x v)(h:lenA P hp t x=some (cks,av,cmd)):
    cmd= .nop∧∃u,(Builtin.len_ #[t] ty #[v]).run P w= .ok u w∧VR P w ι true av u:=by
  unfold lenA at h
  split at h
  ·rename_i hs
   split at h
   ·rename_i s
    simp only[oi_]at h
    obtain⟨_,rfl,rfl⟩:=h
    rw[hv.cInv]
    exact⟨rfl,_,run_len_str (d7_ hs),by rw[h8_];exact .c⟩
   ·simp at h
  ·split at h
   ·rename_i e he
    obtain⟨hu,_,_⟩:=m5_ he
    split at h
    ·rename_i b off n
     split at h
     ·rename_i B hb
      simp only[oi_]at h
      obtain⟨_,rfl,rfl⟩:=h
      obtain⟨a,cap,rfl,_⟩:=hv.slShape (hh.notDead hb)
      exact⟨rfl,_,run_len_slice hu,.c⟩
     ·simp at h
    ·simp only[oi_]at h
     obtain⟨_,rfl,rfl⟩:=h
     obtain⟨a,cap,rfl,_⟩:=hv.fsShape
     exact⟨rfl,_,run_len_slice hu,.c⟩
    ·simp only[oi_]at h
     obtain⟨_,rfl,rfl⟩:=h
     rw[hv.cInv]
     exact⟨rfl,_,run_len_slice hu,.c⟩
    ·simp at h
   ·simp at h
omit [Gv]in
theorem run_indexAt {t e:TypeId}{g off n cap:Nat}{k:IntKind}{i:Int}(ht:P.underlying t=some (.slice e))(hi:∃i,P.info? e=some i∧i.size=P.cellsOf e)(h0:0≤i)(h1:i<n):
    (Instr.indexAt t (.slice (some ⟨g,off,none⟩) n cap) (.int k i)).run P w= .ok (.pointer (some ⟨g,off+i.toNat*P.cellsOf e,none⟩)) w:=by
  obtain⟨inf,h2,h3⟩:=hi
  unfold Instr.indexAt
  simp[asIntOf,run_underlying ht,h0,h1,sizeOf,typeInfo,h2,h3,Addr.add]
theorem idxAddr_ok {t:TypeId}{x i:AV}{v u:Value}{cks:List Ck}{av:AV}{cmd:Cmd}(hh:HpRel P w ι hp)(hv:VR P w ι true x v)(hu:VR P w ι true i u)(h:idxAddrA P hp t x i=some (cks,av,cmd))(hc:Ck.conj cks):
    cmd= .nop∧∃r,(Instr.indexAt t v u).run P w= .ok r w∧VR P w ι true av r:=by
  unfold idxAddrA at h
  split at h
  ·rename_i e he
   obtain⟨ht,hz,hi⟩:=m5_ he
   split at h
   ·rename_i b off n k i
    split at h
    ·rename_i B hb
     split at h
     ·rename_i hBe
      simp only[oi_]at h
      obtain⟨rfl,rfl,rfl⟩:=h
      obtain⟨h0,h1,_⟩:=hc
      simp only[ck]at h0 h1
      obtain⟨g,cap,cur,fz,hg,hcur,hn,hs,hm,rfl⟩:=hv.slPlace (hh.live hb) (by omega)
      rw[hu.cInv,hBe]
      refine⟨rfl,_,run_indexAt ht hi h0 h1,?_⟩
      rw[t3_]
      have:off*P.cellsOf e+i.toNat*P.cellsOf e=(i.toNat+off)*P.cellsOf e:=by rw[Nat.add_mul,Nat.add_comm]
      rw[this]
      exact .pt hg hcur
     ·simp at h
    ·simp at h
   ·rename_i s n l k i
    split at h
    ·rename_i hs
     simp only[oi_]at h
     obtain⟨rfl,rfl,rfl⟩:=h
     obtain⟨h0,h1,_⟩:=hc
     simp only[ck]at h0 h1
     rw[hu.cInv]
     cases hv with
     |fsZero=>omega
     |fs hn hl hg hno hcl ho hr=>
      rename_i g off cap us
      refine⟨rfl,_,run_indexAt ht hi h0 h1,?_⟩
      rw[t3_,hs]
      refine .fp (us:=fun j=>us (i.toNat*P.cellsOf e+j)) hg hno ?_ ?_ ?_
      ·intro j hj
       simp only[List.length_drop]at hj
       have:=hcl (i.toNat*P.cellsOf e+j) (by omega)
       rw[←Nat.add_assoc]at this
       exact this
      ·intro j hj
       simp only[List.length_drop]at hj
       exact ho _ (by omega)
      ·intro j hj
       simp only[List.length_drop]at hj
       rw[l0_]
       exact hr _ (by omega)
    ·simp at h
   ·simp at h
  ·simp at h
omit [Gv]in
theorem run_isAgg {t:TypeId}{b:Bool}(h:isAggT P t=some b):(isAgg t).run P w= .ok b w:=by
  unfold isAggT at h
  unfold isAgg
  split at h
  ·rename_i fs hu
   cases h
   simp[run_underlying hu]
  ·rename_i n e hu
   cases h
   simp[run_underlying hu]
  ·rename_i d h1 h2 hu
   cases h
   cases d<;>simp[run_underlying hu]<;>first|exact absurd rfl (h1 _)|exact absurd rfl (h2 _ _)|skip
   all_goals first|exact(h1 _ hu).elim|exact(h2 _ _ hu).elim|skip
  ·simp at h
omit [Gv]in
theorem BlkOK.cells {b:Nat}{B:Blk}(h:BlkOK P w ι b B){g:Nat}(hg:ι b= .here g){cur0:Array Value}{e0:TypeId}{fz0:Nat×Nat}(hh0:w.heap[g]? =some (.cells cur0 e0 fz0)):∃cur fz,w.heap[g]? =some (.cells cur B.e fz)∧RowOK P B.e cur fz∧B.cells.length≤cur.size∧
    (∀j,j<B.cells.length→(cur.getD j undef).oneCell'=true)∧(∀j,j<B.cells.length→VR P w ι B.op (B.cells.getD j .any) (cur.getD j undef))∧∀j,j<cur.size→w.cell? ⟨g,j,none⟩=some (cur.getD j undef):=by
  rcases h with⟨k,_⟩|⟨g',cur,fz,k1,k2,k3,k4,k5,k6⟩|⟨g',_,_,k1,_,k2,_⟩
  ·rw[hg]at k;cases k
  ·rw[hg]at k1;cases k1
   refine⟨cur,fz,k2,k3,k4,k5,k6,fun j hj=>?_⟩
   rw[cell_of_row w g j cur B.e fz k2]
   simp[Array.getD,hj]
  ·rw[hg]at k1;cases k1
   rw[hh0]at k2;cases k2
structure RowAt (P:Program) (w:World) (ι:Pl) (o:Bool) (g off:Nat) (l:List AV) (us:Nat→Value):Prop where
  cell:∀j,j<l.length→w.cell? ⟨g,off+j,none⟩=some (us j)
  one:∀j,j<l.length→(us j).oneCell'=true
  rel:∀j,j<l.length→VR P w ι o (l.getD j .any) (us j)
omit [Gv]in
theorem run_load_row {t:TypeId}{cks:List Ck}{av:AV}{l:List AV}{g off:Nat}{us:Nat→Value}(hr:RowAt P w ι true g off l us)(h:ldAV P t l=some (cks,av))(hc:Ck.conj cks):
    ∃v,(Instr.loadAt t (.pointer (some ⟨g,off,none⟩))).run P w= .ok v w∧VR P w ι true av v:=by
  unfold ldAV at h
  split at h
  ·rename_i hagg
   simp only[oi_]at h
   obtain⟨rfl,rfl⟩:=h
   have h1:=hc.1
   simp only[ck]at h1
   have hinf:∃i,P.info? t=some i∧i.size=P.cellsOf t:=by
     unfold isAggT at hagg
     cases hi:P.info? t with
     |none=>simp[Program.underlying,hi]at hagg
     |some i=>exact⟨i,rfl,by simp[Program.cellsOf,hi]⟩
   obtain⟨i,hi,hz⟩:=hinf
   have hld:=run_loadCells (P:=P) w ⟨g,off,none⟩ (P.cellsOf t) us (fun j hj=>by
     have:(⟨g,off,none⟩:Addr).add j=⟨g,off+j,none⟩:=by unfold Addr.add;split<;>simp_all
     rw[this]
     exact hr.cell j (by omega))
   refine⟨_,by
     unfold Instr.loadAt loadVar
     simp[Instr.sureAddr,run_isAgg hagg,sizeOf,typeInfo,hi,hz,hld]
     rfl,?_⟩
   have hlt:(l.take (P.cellsOf t)).length=P.cellsOf t:=by rw[List.length_take];omega
   have hcs:∀j,j<P.cellsOf t→((List.range (P.cellsOf t)).map us).toArray.getD j undef=us j:=by
     intro j hj
     simp[Array.getD,hj]
   refine .ag (by simp[hlt]) ?_ ?_
   ·intro j hj
    rw[hlt]at hj
    rw[hcs j hj]
    exact hr.one j (by omega)
   ·intro j hj
    rw[hlt]at hj
    rw[hcs j hj,n1_ _ _ _ hj]
    exact hr.rel j (by omega)
  ·rename_i hagg
   simp only[oi_]at h
   obtain⟨rfl,rfl⟩:=h
   have h1:=hc.1
   simp only[ck]at h1
   refine⟨us 0,?_,?_⟩
   ·have:=hr.cell 0 h1
    unfold Instr.loadAt loadVar
    simp[Instr.sureAddr,run_isAgg hagg,load,Sem.run]
    rw[show w.cell? ⟨g,off,none⟩=some (us 0)from this]
   ·have:=hr.rel 0 h1
    cases l with
    |nil=>simp at h1
    |cons a r=>simpa using this
  ·simp at h
omit [Gv]in
theorem closed_getD:∀(l:List AV),AV.closedAll l=true→∀j,j<l.length→(l.getD j .any).closed=true
  | [],_,j,hj=>by simp at hj
  |a::r,h,j,hj=>by
   simp only[AV.closedAll,Bool.and_eq_true]at h
   cases j with
   |zero=>simpa using h.1
   |succ j=>simpa using closed_getD r h.2 j (by simpa using hj)
theorem cellsOf_rel {o:Bool}{x:AV}{s:Nat}{cs:List AV}{v:Value}(hh:HpRel P w ι hp)(hv:VR P w ι o x v)(h:x.cellsOf hp s=some cs):
    v.cells.size=s∧cs.length=s∧(∀j,j<s→(v.cells.getD j undef).oneCell'=true)∧∀j,j<s→VR P w ι o (cs.getD j .any) (v.cells.getD j undef):=by
  have single:∀{a:AV},VR P w ι o a v→v.oneCell'=true→s=1→cs=[a]→v.cells.size=s∧cs.length=s∧(∀j,j<s→(v.cells.getD j undef).oneCell'=true)∧∀j,j<s→VR P w ι o (cs.getD j .any) (v.cells.getD j undef):=by
    intro a ha h1 hs hcs
    have hc:v.cells= #[v]:=by cases v<;>first|rfl|simp[Value.oneCell']at h1
    subst hs;subst hcs
    rw[hc]
    refine⟨rfl,rfl,?_,?_⟩<;>intro j hj<;>obtain rfl:j=0:=by omega
    ·exact h1
    ·exact ha
  unfold AV.cellsOf at h
  split at h
  ·rename_i l
   split at h
   ·rename_i hl
    cases h
    cases hv with
    |ag hl2 h1 hr=>
     refine⟨by simpa [Value.cells,←hl2]using hl,hl,?_,?_⟩
     ·intro j hj;exact h1 j (by omega)
     ·intro j hj;exact hr j (by omega)
   ·simp at h
  ·rename_i c
   split at h
   ·rename_i hl
    cases h
    rw[hv.cInv]
    refine⟨hl.1,by simpa using hl.1,?_,?_⟩
    ·intro j hj
     have hj':j<c.size:=by omega
     have:=List.all_eq_true.1 hl.2 c[j] (by simp)
     simpa [Value.cells,Array.getD,hj']using this
    ·intro j hj
     have hj':j<c.size:=by omega
     have e:(c.toList.map AV.c).getD j .any= .c c[j]:=by simp[List.getD,hj']
     rw[e]
     rw[show(Value.agg c).cells.getD j undef=c[j]from by simp[Value.cells,Array.getD,hj']]
     exact .c
   ·simp at h
  ·simp at h
  ·simp at h
  ·simp at h
  ·simp at h
  ·simp at h
  ·rename_i b off n
   split at h
   ·rename_i B hb
    split at h
    ·rename_i hs
     cases h
     cases o with
     |false=>cases hv
     |true=>
      obtain⟨a,cap,rfl,_⟩:=hv.slShape (hh.notDead hb)
      exact single hv rfl hs rfl
    ·simp at h
   ·simp at h
  ·rename_i b off
   split at h
   ·rename_i B hb
    split at h
    ·rename_i hs
     cases h
     cases hv with
     |ptDead hd=>exact absurd hd (hh.notDead hb)
     |pt hg hh0=>exact single (VR.pt hg hh0) rfl hs rfl
    ·simp at h
   ·simp at h
  ·rename_i hn1 hn2 hn3 hn4 hn5 hni hnj hn6 hn7
   split at h
   ·rename_i hs
    cases h
    refine single hv ?_ hs rfl
    cases hv with
    |any=>exact absurd rfl hn5
    |c=>
     cases v<;>first|rfl|exact absurd rfl (hn2 _)|exact absurd rfl (hn3 _)
    |slDead _=>exact absurd rfl (hn6 _ _ _)
    |slZero=>rfl
    |slAt _ _ _ _ _=>rfl
    |ptDead _=>exact absurd rfl (hn7 _ _)
    |pt _ _=>rfl
    |itrDead _=>exact absurd rfl (hni _)
    |itr _=>exact absurd rfl (hni _)
    |fsZero=>rfl
    |fs _ _ _ _ _ _ _=>rfl
    |fp _ _ _ _ _=>rfl
    |ag _ _ _=>exact absurd rfl (hn1 _)
    |tu _ _=>exact absurd rfl (hn4 _)
    |fn _ _=>rfl
   ·simp at h
omit [Gv]in
theorem w1_ (c:Array Value)(j:Nat):c.toList.getD j undef=c.getD j undef:=by
  by_cases h:j<c.size
  ·simp[Array.getD,List.getD,h]
  ·simp[Array.getD,List.getD,h]
omit [Gv]in
theorem toArray_getD (l:List Value)(j:Nat):l.toArray.getD j undef=l.getD j undef:=by
  rw[←w1_]
omit [Gv]in
theorem h2_ (g o:Nat)(t:TypeId)(fz:Nat×Nat):∀(vs:List Value) (i:Nat) (cur:Array Value) (w:World),w.heap[g]? =some (.cells cur t fz)→(∀off,off<cur.size→¬(fz.1≤off∧off<fz.2))→
    o+i+vs.length≤cur.size→(∀v∈vs,v.oneCell'=true)→
    (storeCells ⟨g,o,none⟩ vs i).run P w= .ok () (w.setRow g (cur.toList.take (o+i)++vs++cur.toList.drop (o+i+vs.length)).toArray)
  | [],i,cur,w,hg,_,_,_=>by
    simp only[storeCells,List.append_nil,List.length_nil,Nat.add_zero,List.take_append_drop,Array.toArray_toList]
    rw[setRow_self w g cur t fz hg]
    rfl
  |v::rest,i,cur,w,hg,hf,hl,h1=>by
   have hi:o+i<cur.size:=by simp at hl;omega
   have hadd:(⟨g,o,none⟩:Addr).add i=⟨g,o+i,none⟩:=by unfold Addr.add;split<;>simp_all
   have hcell:w.cell? ⟨g,o+i,none⟩=some cur[o+i]:=by simp[World.cell?,hg,hi]
   have hfro:w.frozen? ⟨g,o+i,none⟩=false:=by
     have:=hf (o+i) hi
     obtain⟨f1,f2⟩:=fz
     simp only[World.frozen?,hg]
     simp only[Bool.and_eq_false_iff,decide_eq_false_iff_not]
     simp only at this
     omega
   have hst:(store ((⟨g,o,none⟩:Addr).add i) v).run P w= .ok () (w.setRow g (cur.setIfInBounds (o+i) v)):=by
     rw[hadd,run_store P w _ v _ (h1 v (by simp)),hcell]
     simp[hfro,setCell_eq_setRow w g (o+i) cur t fz v hg]
   have ih:=h2_ g o t fz rest (i+1) (cur.setIfInBounds (o+i) v) (w.setRow g (cur.setIfInBounds (o+i) v)) (setRow_heap w g cur _ t _ hg) (by simpa using hf) (by simp at hl ⊢;omega) (fun x hx=>h1 x (by simp[hx]))
   simp only[storeCells,Sem.run_bind,hst,Result.andThen_ok,ih,setRow_setRow]
   congr 3
   have e:=list_seg_step cur.toList (o+i) v rest (by simp at hl ⊢;omega)
   simpa [Array.toList_setIfInBounds,Nat.add_assoc]using e
omit [Gv]in
theorem p9_ (cur:Array Value)(vs:List Value)(k j:Nat)(hk:k+vs.length≤cur.size):
    (cur.toList.take k++vs++cur.toList.drop (k+vs.length)).toArray.getD j undef=if j<k then cur.getD j undef else if j<k+vs.length then vs.getD (j-k) undef else cur.getD j undef:=by
  rw[toArray_getD,←w1_]
  have hlt:(cur.toList.take k).length=k:=by rw[List.length_take,Array.length_toList];omega
  simp only[List.getD,List.append_assoc,List.getElem?_append,hlt,List.getElem?_take,List.getElem?_drop]
  by_cases h1:j<k
  ·simp[h1]
  ·simp only[h1,if_false]
   by_cases h2:j<k+vs.length
   ·rw[if_pos (by omega),if_pos h2]
   ·rw[if_neg (by omega),if_neg h2]
    congr 2
    omega
omit [Gv]in
theorem f5_ (cur:Array Value)(vs:List Value)(k:Nat)(hk:k+vs.length≤cur.size):(cur.toList.take k++vs++cur.toList.drop (k+vs.length)).toArray.size=cur.size:=by
  simp;omega
omit [Gv]in
theorem splice_one {cur:Array Value}{vs:List Value}{k:Nat}(hk:k+vs.length≤cur.size)(h1:∀j,j<cur.size→(cur.getD j undef).oneCell'=true)(h2:∀j,j<vs.length→(vs.getD j undef).oneCell'=true)(j:Nat)
    (hj:j<(cur.toList.take k++vs++cur.toList.drop (k+vs.length)).toArray.size):((cur.toList.take k++vs++cur.toList.drop (k+vs.length)).toArray.getD j undef).oneCell'=true:=by
  rw[f5_ _ _ _ hk]at hj
  rw[p9_ _ _ _ _ hk]
  by_cases c1:j<k
  ·rw[if_pos c1];exact h1 j hj
  ·rw[if_neg c1]
   by_cases c2:j<k+vs.length
   ·rw[if_pos c2];exact h2 _ (by omega)
   ·rw[if_neg c2];exact h1 j hj
omit [Gv]in
theorem spliceA_getD (l cs:List AV)(k j:Nat)(hk:k+cs.length≤l.length):
    (l.take k++cs++l.drop (k+cs.length)).getD j .any=if j<k then l.getD j .any else if j<k+cs.length then cs.getD (j-k) .any else l.getD j .any:=by
  have hlt:(l.take k).length=k:=by rw[List.length_take];omega
  simp only[List.getD,List.append_assoc,List.getElem?_append,hlt,List.getElem?_take,List.getElem?_drop]
  by_cases h1:j<k
  ·simp[h1]
  ·simp only[h1,if_false]
   by_cases h2:j<k+cs.length
   ·rw[if_pos (by omega),if_pos h2]
   ·rw[if_neg (by omega),if_neg h2]
    congr 2
    omega
omit [Gv]in
theorem d5_ (l cs:List AV)(k:Nat)(hk:k+cs.length≤l.length):(l.take k++cs++l.drop (k+cs.length)).length=l.length:=by simp;omega
theorem store_ok {t:TypeId}{a x:AV}{va vx:Value}{cks:List Ck}{av:AV}{cmd:Cmd}(hh:HpRel P w ι hp)(ha:VR P w ι true a va)(hx:VR P w ι true x vx)(h:storeA P hp t a x=some (cks,av,cmd))(hc:Ck.conj cks):
    ∃w',(Instr.storeAt t va vx).run P w= .ok () w'∧Ext w ι w' ι∧HpRel P w' ι (cmd.run hp)∧av= .any:=by
  unfold storeA at h
  split at h
  ·rename_i b off
   split at h
   ·rename_i B cs hb hcs
    split at h
    ·rename_i hcond
     simp only[oi_]at h
     obtain⟨rfl,rfl,rfl⟩:=h
     have h1:=hc.1
     simp only[ck]at h1
     obtain⟨hz,hclosed⟩:=hcond
     obtain⟨i,hi,hsz⟩:∃i,P.info? t=some i∧i.size=P.cellsOf t:=by
       unfold Program.cellsOf at hz ⊢
       cases hi:P.info? t with
       |none=>simp[hi]at hz
       |some i=>exact⟨i,rfl,by simp⟩
     have hbl:b<hp.length:=(List.getElem?_eq_some_iff.1 hb).1
     cases ha with
     |ptDead hd=>exact absurd hd (hh.notDead hb)
     |pt hg hh0=>
      rename_i g _ _ _
      obtain⟨cur,fz,hcur,hfz,hlen,hone,hrel,hcell⟩:=(hh.live hb).cells hg hh0
      obtain⟨c1,c2,c3,c4⟩:=cellsOf_rel hh hx hcs
      have hvl:vx.cells.toList.length=P.cellsOf t:=by simpa using c1
      have hfit:off+vx.cells.toList.length≤cur.size:=by rw[hvl];omega
      have hmem:∀v∈vx.cells.toList,v.oneCell'=true:=by
        intro v hv
        obtain⟨j,hj,rfl⟩:=List.getElem_of_mem hv
        have:=c3 j (by omega)
        simpa [Array.getD,show j<vx.cells.size by simpa using hj]using this
      have hst:=h2_ (P:=P) g off B.e fz vx.cells.toList 0 cur w hcur hfz.in_ (by simpa using hfit) hmem
      simp only[Nat.add_zero]at hst
      have hput:=put_setRow w g cur (cur.toList.take off++vx.cells.toList++cur.toList.drop (off+vx.cells.toList.length)).toArray B.e fz hcur
      have hs:=f5_ cur vx.cells.toList off hfit
      have hv:=w1_ vx.cells
      have hcl:off+cs.length≤B.cells.length:=by omega
      have hal:=d5_ B.cells cs off hcl
      rw[c2]at hal
      have hw:=hh.write (B:= { B with cells:=B.cells.take off++cs++B.cells.drop (off+P.cellsOf t)}) hg hbl hcur hput hs (hfz.same hs (fun hu=>splice_one hfit (hfz.one hu) (fun j hj=>by rw[hv];exact c3 _ (by omega)))) (by rw[hs];simp only[hal];exact hlen)
        (by
          intro j hj
          simp only[hal]at hj
          rw[p9_ _ _ _ _ hfit]
          split
          ·exact hone j hj
          ·split
           ·rw[hv];exact c3 _ (by omega)
           ·exact hone j hj)
        (by
          intro j hj
          simp only[hal]at hj
          rw[p9_ _ _ _ _ hfit,←c2,spliceA_getD _ _ _ _ hcl,c2,hvl]
          split
          ·exact hrel j hj
          ·split
           ·rw[hv]
            have r:=c4 (j-off) (by omega)
            rcases hclosed with ho|hcc
            ·simp only[ho];exact r
            ·exact(r.shut (closed_getD cs hcc _ (by omega))).weak (by simp)
           ·exact hrel j hj)
      refine⟨_,?_,hw.1,hw.2,rfl⟩
      unfold Instr.storeAt storeVar
      simp[Instr.sureAddr,sizeOf,typeInfo,hi,hsz,c1,hst]
    ·simp at h
   ·simp at h
  ·simp at h
end Go.Proofs.YtmjldphagbobpaaDoor
namespace Go.Proofs.YtmjldphagbobpaaDoor
open IntKind (i64 u8 i32 u32 u64)
open Go.RowKit
variable [Gv] {P:Program} {w:World} {ι:Pl} {hp:Heap}
omit [Gv]in
theorem grown_ge (w:World)(need old:Nat)(e:TypeId):need≤grownCap w need old e:=grownCap_ge w need old e
omit [Gv]in
theorem run_app_grow {t u ty e:TypeId}{d:TypeDesc}{i:TypeInfo}{z:Value}(ht:P.underlying t=some (.slice e))(hu:P.underlying u=some d)(hd:∀k,d≠ .int k)(hi:P.info? e=some i)(hz:i.zero=some z)
    {base:Option Addr} {sLen sCap n:Nat} {x:Value} {olds news:List Value}
    (hfo:(Builtin.firstCells i.size sLen (.slice base sLen sCap)).run P w.drew= .ok olds.toArray w.drew)
    (hlen:(Builtin.lenOf x).run P w= .ok n w) (hf:(Builtin.firstCells i.size n x).run P w.drew= .ok news.toArray w.drew)
    (hg:sCap<sLen+n) (h63:sLen+n≤4611686018427387904) (hb:(sLen+n)*i.bytes≤140737488355328):
    (Builtin.append_ #[t,u] ty #[.slice base sLen sCap,x]).run P w=
      .ok (.slice (some ⟨w.heap.size,0,none⟩) (sLen+n) (grownCap w (sLen+n) sCap e))
        (w.drew.alloc (.cells (olds.toArray++news.toArray++Builtin.zeroCells z.cells (grownCap w (sLen+n) sCap e-(sLen+n))) e)):=by
  have hn:¬(sLen+n≤sCap):=by omega
  have h63':¬(9223372036854775807<((sLen:Int)+(n:Int))):=by omega
  have hfit:=growslice_fits (by omega:sCap<sLen+n) hb
  have h48':¬(281474976710656<Builtin.nextslicecap (sLen+n) sCap*i.bytes):=by omega
  simp[Builtin.append_,run_underlying ht,run_underlying hu,sizeOf,typeInfo,zeroValue,hi,hz,hlen,hn,h63',h48',Question.forced,hf,hfo,newRow,grownCap]
  congr 2
  apply Array.ext'
  simp
omit [Gv]in
theorem run_app_room {t u ty e:TypeId}{d:TypeDesc}{i:TypeInfo}(ht:P.underlying t=some (.slice e))(hu:P.underlying u=some d)(hd:∀k,d≠ .int k)(hi:P.info? e=some i)
    {g off sLen sCap n:Nat} {x:Value} {news:List Value} {cur:Array Value} {e':TypeId} {fz:Nat×Nat} (hg:w.heap[g]? =some (.cells cur e' fz)) (hfz:∀off,off<cur.size→¬(fz.1≤off∧off<fz.2))
    (hlen:(Builtin.lenOf x).run P w= .ok n w) (hf:(Builtin.firstCells i.size n x).run P w= .ok news.toArray w) (hroom:sLen+n≤sCap) (hfit:off+sLen*i.size+news.length≤cur.size) (h1:∀v∈news,v.oneCell'=true):
    (Builtin.append_ #[t,u] ty #[.slice (some ⟨g,off,none⟩) sLen sCap,x]).run P w=
      .ok (.slice (some ⟨g,off,none⟩) (sLen+n) sCap) (w.setRow g (cur.toList.take (off+sLen*i.size)++news++cur.toList.drop (off+sLen*i.size+news.length)).toArray):=by
  have hst:=h2_ (P:=P) g (off+sLen*i.size) e' fz news 0 cur w hg hfz (by simpa using hfit) h1
  simp only[Nat.add_zero]at hst
  have hadd:(⟨g,off,none⟩:Addr).add (sLen*i.size)=⟨g,off+sLen*i.size,none⟩:=by unfold Addr.add;split<;>simp_all
  simp[Builtin.append_,run_underlying ht,run_underlying hu,sizeOf,typeInfo,hi,hlen,hroom,hf,hadd,hst]
omit [Gv]in
theorem run_app_none {t u ty e:TypeId}{d:TypeDesc}{i:TypeInfo}(ht:P.underlying t=some (.slice e))(hu:P.underlying u=some d)(hd:∀k,d≠ .int k)(hi:P.info? e=some i)
    {base:Option Addr} {x:Value} (hlen:(Builtin.lenOf x).run P w= .ok 0 w) (hf:(Builtin.firstCells i.size 0 x).run P w= .ok #[] w):
    (Builtin.append_ #[t,u] ty #[.slice base 0 0,x]).run P w= .ok (.slice base 0 0) w:=by
  cases base<;>simp[Builtin.append_,run_underlying ht,run_underlying hu,sizeOf,typeInfo,hi,hlen,hf,storeCells]
structure News (P:Program) (w:World) (ι:Pl) (size n:Nat) (op:Bool) (l:List AV) (x:Value) (us:List Value):Prop where
  len:∀W:World,(Builtin.lenOf x).run P W= .ok n W
  cells:∀W:World,W.heap=w.heap→(Builtin.firstCells size n x).run P W= .ok us.toArray W
  pre:∀k,k≤n→(Builtin.firstCells size k x).run P w= .ok (us.take (k*size)).toArray w
  ul:us.length=n*size
  ll:l.length=n*size
  one:∀j,j<us.length→(us.getD j undef).oneCell'=true
  rel:∀j,j<us.length→VR P w ι op (l.getD j .any) (us.getD j undef)
omit [Gv]in
theorem h6_ {g off:Nat}{us:Nat→Value}{n:Nat}{W:World}(hc:∀j,j<n→w.cell? ⟨g,off+j,none⟩=some (us j))(hW:W.heap=w.heap)(a:Addr)(ha:a=⟨g,off,none⟩):
    (loadCells a n).run P W= .ok ((List.range n).map us).toArray W:=by
  subst ha
  refine run_loadCells W ⟨g,off,none⟩ n us fun j hj=>?_
  have:(⟨g,off,none⟩:Addr).add j=⟨g,off+j,none⟩:=by unfold Addr.add;split<;>simp_all
  rw[this,←hc j hj]
  simp[World.cell?,hW]
omit [Gv]in
theorem k6_ (us:Nat→Value)(n j:Nat)(h:j<n):((List.range n).map us).getD j undef=us j:=by simp[List.getD,h]
omit [Gv]in
theorem take_map_range {β:Type}(f:Nat→β)(n k:Nat)(h:k≤n):((List.range n).map f).take k=(List.range k).map f:=by
  rw[←List.map_take,List.take_range,Nat.min_eq_left h]
omit [Gv]in
theorem byts_getD (l:List UInt8)(j:Nat)(h:j<l.length):(z6_ l).getD j .any=t4_ l[j]:=by simp[z6_,List.getD,h]
theorem newsOf_ok {e:TypeId}{x:AV}{v:Value}{cks:List Ck}{n:Nat}{op:Bool}{l:List AV}(hh:HpRel P w ι hp)(hv:VR P w ι true x v)(h:newsOf P hp e x=some (cks,n,op,l))(hc:Ck.conj cks):
    ∃us,News P w ι (P.cellsOf e) n op l v us:=by
  unfold newsOf at h
  split at h
  ·rename_i b off m
   split at h
   ·rename_i B hb
    split at h
    ·rename_i hBe
     simp only[oi_]at h
     obtain⟨rfl,rfl,rfl,rfl⟩:=h
     have h1:=hc.1
     simp only[ck,t3_]at h1
     rcases Nat.eq_zero_or_pos m with hm|hm
     ·subst hm
      obtain⟨a,cap,rfl,_⟩:=hv.slShape (hh.notDead hb)
      refine⟨[],fun W=>by simp[Builtin.lenOf],fun W hW=>?_,fun k hk=>?_,by simp,by simp[t3_],by simp,by simp⟩
      ·cases a<;>simp[Builtin.firstCells,loadCells,loadCellsFrom]
      ·obtain rfl:k=0:=by omega
       cases a<;>simp[Builtin.firstCells,loadCells,loadCellsFrom]
     ·obtain⟨g,cap,cur,fz,hg,hcur,hn,hs,hmx,rfl⟩:=hv.slPlace (hh.live hb) hm
      obtain⟨cur',fz',hcur',_,hlen,hone,hrel,hcell⟩:=(hh.live hb).cells hg hcur
      rw[hcur]at hcur';cases hcur'
      have hsum:off*P.cellsOf e+m*P.cellsOf e≤B.cells.length:=by rw[←Nat.add_mul,Nat.add_comm];exact h1
      rw[hBe]at*
      refine⟨(List.range (m*P.cellsOf e)).map fun j=>cur.getD (off*P.cellsOf e+j) undef,fun W=>by simp[Builtin.lenOf],fun W hW=>?_,fun k hk=>?_,by simp,?_,?_,?_⟩
      ·simp only[Builtin.firstCells]
       exact h6_ (fun j hj=>hcell _ (by omega)) hW _ rfl
      ·simp only[Builtin.firstCells]
       have hkm:k*P.cellsOf e≤m*P.cellsOf e:=Nat.mul_le_mul_right _ hk
       rw[take_map_range _ _ _ hkm]
       exact h6_ (fun j hj=>hcell _ (by omega)) rfl _ rfl
      ·rw[t3_,t3_,List.length_take,List.length_drop];omega
      ·intro j hj
       simp at hj
       rw[k6_ _ _ _ hj]
       exact hone _ (by omega)
      ·intro j hj
       simp at hj
       rw[k6_ _ _ _ hj,t3_,t3_,n1_ _ _ _ hj,l0_]
       exact hrel _ (by omega)
    ·simp at h
   ·simp at h
  ·rename_i s m l'
   split at h
   ·rename_i hs
    simp only[oi_]at h
    obtain⟨rfl,rfl,rfl,rfl⟩:=h
    have hl:=hc.1
    simp only[ck,t3_]at hl
    subst hs
    cases hv with
    |fsZero=>
     rename_i a cap
     refine⟨[],fun W=>by simp[Builtin.lenOf],fun W hW=>?_,fun k hk=>?_,by simp,by simp,by simp,by simp⟩
     ·cases a<;>simp[Builtin.firstCells,loadCells,loadCellsFrom]
     ·obtain rfl:k=0:=by omega
      cases a<;>simp[Builtin.firstCells,loadCells,loadCellsFrom]
    |fs hn hl2 hg hno hcl ho hr=>
     rename_i g off cap us
     refine⟨(List.range (m*P.cellsOf e)).map us,fun W=>by simp[Builtin.lenOf],fun W hW=>?_,fun k hk=>?_,by simp,hl,?_,?_⟩
     ·simp only[Builtin.firstCells]
      exact h6_ (fun j hj=>hcl j (by omega)) hW _ rfl
     ·simp only[Builtin.firstCells]
      have hkm:k*P.cellsOf e≤m*P.cellsOf e:=Nat.mul_le_mul_right _ hk
      rw[take_map_range _ _ _ hkm]
      exact h6_ (fun j hj=>hcl j (by omega)) rfl _ rfl
     ·intro j hj
      simp at hj
      rw[k6_ _ _ _ hj]
      exact ho _ (by omega)
     ·intro j hj
      simp at hj
      rw[k6_ _ _ _ hj]
      exact hr _ (by omega)
   ·simp at h
  ·simp only[oi_]at h
   obtain⟨rfl,rfl,rfl,rfl⟩:=h
   rw[hv.cInv]
   exact⟨[],fun W=>by simp[Builtin.lenOf],fun W hW=>by simp[Builtin.firstCells],fun k hk=>by simp[Builtin.firstCells],by simp,by simp,by simp,by simp⟩
  ·rename_i s
   split at h
   ·rename_i hs
    simp only[oi_]at h
    obtain⟨rfl,rfl,rfl,rfl⟩:=h
    rw[hv.cInv]
    refine⟨(sb s).map fun b=> .int .u8 b.toNat,fun W=>by simp[Builtin.lenOf,h8_],fun W hW=>?_,fun k hk=>?_,by simp[hs],by simp[z6_,hs],?_,?_⟩
    ·have e1:s.extract 0 (sb s).length=s:=by
       have:=extract_sb s 0 (sb s).length
       simp at this
       unfold str at this
       cases s with
       |mk d=>
        have h2:=Value.string.inj this
        rw[h2]
        rfl
     simp only[Builtin.firstCells,e1]
     simp only[sb,Sem.run_pure]
     congr 1
     apply Array.ext'
     simp
    ·have e1:=extract_sb s 0 k
     simp only[List.drop_zero]at e1
     have e2:s.extract 0 k=⟨⟨(sb s).take k⟩⟩:=by
       unfold str at e1
       exact Value.string.inj e1
     simp only[Builtin.firstCells,e2,Sem.run_pure,hs,Nat.mul_one]
     congr 1
     apply Array.ext'
     simp
    ·intro j hj
     simp at hj
     simp[List.getD,hj,Value.oneCell']
    ·intro j hj
     simp at hj
     rw[byts_getD _ _ hj]
     simp only[List.getD,List.getElem?_map,List.getElem?_eq_getElem hj,Option.map_some,Option.getD_some]
     exact .c
   ·simp at h
  ·simp at h
omit [Gv]in
theorem b6_ {e:TypeId}(h:zeroFits P e=true):∃i z,P.info? e=some i∧i.zero=some z∧z.cells.size=P.cellsOf e∧i.size=P.cellsOf e∧i.bytes=P.bytesOf e∧∀v∈z.cells.toList,v.oneCell'=true:=by
  unfold zeroFits b1_ at h
  cases hi:P.info? e with
  |none=>simp[hi]at h
  |some i=>
   simp only[hi,Option.bind_some]at h
   cases hz:i.zero with
   |none=>simp[hz]at h
   |some z=>
    simp only[hz,Option.bind_some]at h
    split at h
    ·rename_i l hl
     split at hl
     ·rename_i hone
      cases hl
      simp at h
      exact⟨i,z,rfl,hz,h,by simp[Program.cellsOf,hi],by simp[Program.bytesOf,hi],fun v hv=>List.all_eq_true.1 hone v hv⟩
     ·simp at hl
    ·simp at h
omit [Gv]in
theorem app_getD (a b c:List Value)(j:Nat):(a.toArray++b.toArray++c.toArray).getD j undef=if j<a.length then a.getD j undef else if j<a.length+b.length then b.getD (j-a.length) undef else c.getD (j-a.length-b.length) undef:=by
  rw[←w1_]
  simp only[Array.toList_append,List.getD,List.append_assoc,List.getElem?_append]
  by_cases h1:j<a.length
  ·simp[h1]
  ·simp only[h1,if_false]
   by_cases h2:j<a.length+b.length
   ·rw[if_pos (by omega),if_pos h2]
   ·rw[if_neg (by omega),if_neg h2]
omit [Gv]in
theorem avapp_getD (l k:List AV)(j:Nat):(l++k).getD j .any=if j<l.length then l.getD j .any else k.getD (j-l.length) .any:=getD_append l k j
omit [Gv]in
theorem zero_one {z:Array Value}(h1:∀v∈z.toList,v.oneCell'=true)(n j:Nat)(hj:j<(Builtin.zeroCells z n).size):((Builtin.zeroCells z n).getD j undef).oneCell'=true:=by
  have hs:(Builtin.zeroCells z n).size=n*z.size:=by simp[Builtin.zeroCells]
  rw[hs]at hj
  have hz:0<z.size:=by
    rcases Nat.eq_zero_or_pos z.size with h|h
    ·rw[h]at hj;omega
    ·exact h
  have hm:j%z.size<z.size:=Nat.mod_lt _ hz
  have e:(Builtin.zeroCells z n).getD j undef=z[j%z.size]:=by
    simp[Builtin.zeroCells,Array.getD,hj,hm]
  rw[e]
  exact h1 _ (by simp)
omit [Gv]in
theorem grow_post {e:TypeId}{z:Value}{olds news:List Value}{lo ln:List AV}{n m N:Nat}{op:Bool}(hN:n+m≤N)(hzs:z.cells.size=P.cellsOf e)(hz1:∀v∈z.cells.toList,v.oneCell'=true)
    (ol:olds.length=n*P.cellsOf e) (nl:news.length=m*P.cellsOf e) (lol:lo.length=n*P.cellsOf e) (lnl:ln.length=m*P.cellsOf e)
    (o1:∀j,j<olds.length→(olds.getD j undef).oneCell'=true) (n1:∀j,j<news.length→(news.getD j undef).oneCell'=true)
    (orl:∀j,j<olds.length→VR P w ι op (lo.getD j .any) (olds.getD j undef)) (nr:∀j,j<news.length→VR P w ι op (ln.getD j .any) (news.getD j undef)):
    (olds.toArray++news.toArray++Builtin.zeroCells z.cells (N-(n+m))).size=N*P.cellsOf e∧(lo++ln).length≤(olds.toArray++news.toArray++Builtin.zeroCells z.cells (N-(n+m))).size∧
    (∀j,j<(lo++ln).length→((olds.toArray++news.toArray++Builtin.zeroCells z.cells (N-(n+m))).getD j undef).oneCell'=true)∧
    (∀j,j<(lo++ln).length→VR P w ι op ((lo++ln).getD j .any) ((olds.toArray++news.toArray++Builtin.zeroCells z.cells (N-(n+m))).getD j undef))∧RowOK P e (olds.toArray++news.toArray++Builtin.zeroCells z.cells (N-(n+m))) (0,0):=by
  have hsz:(olds.toArray++news.toArray++Builtin.zeroCells z.cells (N-(n+m))).size=N*P.cellsOf e:=by
    simp only[Array.size_append,List.size_toArray,size_zeroCells,hzs,ol,nl,←Nat.add_mul]
    congr 1
    omega
  have hll:(lo++ln).length=(n+m)*P.cellsOf e:=by rw[List.length_append,lol,lnl,Nat.add_mul]
  have hle:(n+m)*P.cellsOf e≤N*P.cellsOf e:=Nat.mul_le_mul_right _ hN
  have hz:Builtin.zeroCells z.cells (N-(n+m))=(Builtin.zeroCells z.cells (N-(n+m))).toList.toArray:=by simp
  have hsum:n*P.cellsOf e+m*P.cellsOf e=(n+m)*P.cellsOf e:=by rw[Nat.add_mul]
  refine⟨hsz,by rw[hsz,hll];exact hle,?_,?_,rowOK0 fun _ j hj=>?_⟩
  rotate_left 2
  ·have hzc:=size_zeroCells z.cells (N-(n+m))
   have hj':=hj
   rw[Array.size_append,Array.size_append,List.size_toArray,List.size_toArray]at hj'
   rw[hz,app_getD]
   split
   ·exact o1 j (by omega)
   ·split
    ·exact n1 _ (by omega)
    ·rw[w1_]
     exact zero_one hz1 _ _ (by omega)
  ·intro j hj
   rw[hll]at hj
   rw[hz,app_getD]
   split
   ·exact o1 j (by omega)
   ·rw[if_pos (by omega)]
    exact n1 _ (by omega)
  ·intro j hj
   rw[hll]at hj
   rw[hz,app_getD,avapp_getD,lol,ol]
   split
   ·exact orl j (by omega)
   ·rw[if_pos (by omega)]
    exact nr _ (by omega)
omit [Gv]in
theorem s4_ (w:World)(o:Obj):Pushed w (w.alloc o) o:=⟨rfl,rfl,rfl,rfl⟩
omit [Gv]in
theorem o5_ (w:World)(o:Obj):Pushed w (w.drew.alloc o) o:=⟨rfl,rfl,rfl,rfl⟩
omit [Gv]in
theorem unfrozen0 (n:Nat):∀off,off<n→¬(((0,0):Nat×Nat).1≤off∧off<((0,0):Nat×Nat).2):=by intro off _ h;simp at h
theorem append_ok {t u ty:TypeId}{d:TypeDesc}(hu:P.underlying u=some d)(hd:∀k,d≠ .int k){s x:AV}{vs vx:Value}{cks:List Ck}{av:AV}{cmd:Cmd}
    (hh:HpRel P w ι hp) (hs:VR P w ι true s vs) (hx:VR P w ι true x vx) (h:appA P hp t s x=some (cks,av,cmd)) (hc:Ck.conj cks):
    ∃v w' ι',(Builtin.append_ #[t,u] ty #[vs,vx]).run P w= .ok v w'∧Ext w ι w' ι'∧HpRel P w' ι' (cmd.run hp)∧VR P w' ι' true av v∧CmdPost w ι w' ι' cmd:=by
  unfold appA at h
  split at h
  ·rename_i e he
   obtain⟨ht,hz0,i',hi',hsz'⟩:=m5_ he
   split at h
   ·rename_i ck1 n op l hnews
    split at h
    ·rename_i hzf
     obtain⟨i,z,hi,hz,hzs,hsz,hby,hz1⟩:=b6_ hzf
     split at h
     ·
       simp only[oi_]at h
       obtain⟨rfl,rfl,rfl⟩:=h
       obtain⟨c1,c2,c3,_⟩:=b3_ hc
       simp only[ck]at c2 c3
       obtain⟨us,hn⟩:=newsOf_ok hh hx hnews c1
       rw[hs.cInv]
       rcases Nat.eq_zero_or_pos n with hn0|hn0
       ·subst hn0
        have hus:us=[]:=List.eq_nil_of_length_eq_zero (by simpa using hn.ul)
        have hl:l=[]:=List.eq_nil_of_length_eq_zero (by simpa using hn.ll)
        subst hus;subst hl
        have hpush:=hh.pushVirt (B:=⟨e,op,[]⟩) rfl
        exact⟨_,_,_,run_app_none ht hu hd hi (hn.len w) (by rw[hsz];exact hn.cells w rfl),hpush.1,hpush.2,.slZero,fun _ _=>rfl⟩
       ·have hrun:=run_app_grow (P:=P) (w:=w) (ty:=ty) (base:=none) (sLen:=0) (sCap:=0) (olds:=[]) ht hu hd hi hz (by simp[Builtin.firstCells]) (hn.len w) (by rw[hsz];exact hn.cells w.drew rfl) (by omega) (by omega) (by rw[hby];simpa using c2)
        simp only[Nat.zero_add]at hrun
        have hN:=grownCap_ge w n 0 e
        obtain⟨g1,g2,g3,g4,g5⟩:=grow_post (P:=P) (w:=w) (ι:=ι) (e:=e) (z:=z) (olds:=[]) (lo:=[]) (n:=0) (op:=op) (N:=grownCap w n 0 e) (by omega) hzs hz1 (by simp) hn.ul (by simp) hn.ll (by simp) hn.one (by simp) hn.rel
        simp only[Nat.zero_add,List.nil_append]at g1 g2 g3 g4 g5
        have hpush:=hh.push (B:=⟨e,op,l⟩) (o5_ w _) g5 g2 g3 g4
        refine⟨_,_,_,hrun,hpush.1,hpush.2,?_,fun g hg=>(o5_ w _).old hg⟩
        have:(⟨w.heap.size,0,none⟩:Addr)=⟨w.heap.size,0*P.cellsOf e,none⟩:=by simp
        rw[this]
        refine .slAt (by simp) (o5_ w _).new hN (by rw[Nat.zero_add,g1]) (grownCap_le_maxLen w n 0 e (by simp only[maxLen];omega))
     ·rename_i b len
      split at h
      ·rename_i B hb
       split at h
       ·rename_i hBe
        simp only[oi_]at h
        obtain⟨rfl,rfl,rfl⟩:=h
        obtain⟨c1,c2,c3,c4,_⟩:=b3_ hc
        simp only[ck,t3_]at c2 c3 c4
        obtain⟨us,hn⟩:=newsOf_ok hh hx hnews c1
        have hbl:b<hp.length:=(List.getElem?_eq_some_iff.1 hb).1
        have hlo:(B.cells.take (len*P.cellsOf e)).length=len*P.cellsOf e:=by rw[List.length_take];omega
        have hww:∀{o:Bool} {a:AV} {v:Value},VR P w ι B.op a v→VR P w ι (B.op||op) a v:=fun r=>r.weak (by intro h;simp[h])
        have hww2:∀{o:Bool} {a:AV} {v:Value},VR P w ι op a v→VR P w ι (B.op||op) a v:=fun r=>r.weak (by intro h;simp[h])
        rw[t3_]
        have caseEmpty:∀a,vs= .slice a 0 0→len=0→∃v w' ι',(Builtin.append_ #[t,u] ty #[vs,vx]).run P w= .ok v w'∧Ext w ι w' ι'∧HpRel P w' ι' ((Cmd.move b ⟨e,B.op||op,B.cells.take (len*P.cellsOf e)++l⟩).run hp)∧VR P w' ι' true (.sl hp.length 0 (len+n)) v∧True:=by
          intro a hva hl0
          subst hva;subst hl0
          simp only[Nat.zero_mul,List.take_zero,List.nil_append,Nat.zero_add]at*
          rcases Nat.eq_zero_or_pos n with hn0|hn0
          ·subst hn0
           have hus:us=[]:=List.eq_nil_of_length_eq_zero (by simpa using hn.ul)
           have hl:l=[]:=List.eq_nil_of_length_eq_zero (by simpa using hn.ll)
           subst hus;subst hl
           obtain⟨ι',m1,m2⟩:=hh.moveVirt hbl (B:=⟨e,B.op||op,[]⟩) rfl
           exact⟨_,_,ι',run_app_none ht hu hd hi (hn.len w) (by rw[hsz];exact hn.cells w rfl),m1,m2,.slZero,trivial⟩
          ·have hfo:(Builtin.firstCells i.size 0 (.slice a 0 0)).run P w.drew= .ok ([]:List Value).toArray w.drew:=by cases a<;>simp[Builtin.firstCells,loadCells,loadCellsFrom]
           have hrun:=run_app_grow (P:=P) (w:=w) (ty:=ty) (base:=a) (sLen:=0) (sCap:=0) (olds:=[]) ht hu hd hi hz hfo (hn.len w) (by rw[hsz];exact hn.cells w.drew rfl) (by omega) (by omega) (by rw[hby];simpa using c2)
           simp only[Nat.zero_add]at hrun
           have hN:=grownCap_ge w n 0 e
           obtain⟨g1,g2,g3,g4,g5⟩:=grow_post (P:=P) (w:=w) (ι:=ι) (e:=e) (z:=z) (olds:=[]) (lo:=[]) (n:=0) (op:=B.op||op) (N:=grownCap w n 0 e) (by omega) hzs hz1 (by simp) hn.ul (by simp) hn.ll (by simp) hn.one (by simp) (fun j hj=>hww2 (o:=true) (hn.rel j hj))
           simp only[Nat.zero_add,List.nil_append]at g1 g2 g3 g4 g5
           obtain⟨ι',m0,m1,m2⟩:=hh.movePush hbl (B:=⟨e,B.op||op,l⟩) (o5_ w _) g5 g2 g3 g4
           refine⟨_,_,ι',hrun,m1,m2,?_,trivial⟩
           have:(⟨w.heap.size,0,none⟩:Addr)=⟨w.heap.size,0*P.cellsOf e,none⟩:=by simp
           rw[this]
           exact .slAt m0 (o5_ w _).new hN (by rw[Nat.zero_add,g1]) (grownCap_le_maxLen w n 0 e (by simp only[maxLen];omega))
        cases hs with
        |slDead hdd=>exact absurd hdd (hh.notDead hb)
        |slZero=>exact caseEmpty _ rfl rfl
        |slAt hg hcur hnc hcs hm=>
         rename_i g cap cur e' fz
         obtain⟨cur',fz',hcur',hfz,hlen,hone,hrel,hcell⟩:=(hh.live hb).cells hg hcur
         rw[hcur]at hcur';cases hcur'
         rw[hBe]at hcs
         simp only[Nat.zero_add]at hcs
         have e0:(⟨g,0*P.cellsOf B.e,none⟩:Addr)=⟨g,0,none⟩:=by simp
         rw[e0]
         by_cases hroom:len+n≤cap
         ·have hmul:(len+n)*P.cellsOf e≤cap*P.cellsOf e:=Nat.mul_le_mul_right _ hroom
          have hadd:len*P.cellsOf e+n*P.cellsOf e=(len+n)*P.cellsOf e:=by rw[Nat.add_mul]
          have hfit:0+len*i.size+us.length≤cur.size:=by rw[hsz,hn.ul];omega
          have hmem:∀v∈us,v.oneCell'=true:=by
            intro v hv
            obtain⟨j,hj,rfl⟩:=List.getElem_of_mem hv
            have:=hn.one j hj
            simpa [List.getD,hj]using this
          have hrun:=run_app_room (P:=P) (w:=w) (ty:=ty) ht hu hd hi hcur hfz.in_ (hn.len w) (by rw[hsz];exact hn.cells w rfl) hroom hfit hmem
          simp only[Nat.zero_add,hsz]at hrun
          simp only[Nat.zero_add,hsz]at hfit
          have hs2:=f5_ cur us (len*P.cellsOf e) hfit
          have hput:=put_setRow w g cur (cur.toList.take (len*P.cellsOf e)++us++cur.toList.drop (len*P.cellsOf e+us.length)).toArray B.e fz hcur
          have hll:(B.cells.take (len*P.cellsOf e)++l).length=len*P.cellsOf e+n*P.cellsOf e:=by rw[List.length_append,hlo,hn.ll]
          have hmv:=hh.moveIn (B:=⟨e,B.op||op,B.cells.take (len*P.cellsOf e)++l⟩) hg hbl (by rw[hBe]at hput;exact hput) (by
              have hfz:=hfz
              rw[hBe]at hfz
              exact hfz.same hs2 (fun hu8=>splice_one hfit (hfz.one hu8) hn.one)) (by rw[hs2,hll];omega)
            (by
              intro j hj
              rw[hll]at hj
              rw[p9_ _ _ _ _ hfit]
              split
              ·exact hone j (by omega)
              ·rw[if_pos (by rw[hn.ul];omega)]
               exact hn.one _ (by rw[hn.ul];omega))
            (by
              intro j hj
              rw[hll]at hj
              rw[p9_ _ _ _ _ hfit,avapp_getD,hlo]
              split
              ·rename_i hjl
               rw[n1_ _ _ _ hjl]
               exact hww (o:=true) (hrel j (by omega))
              ·rw[if_pos (by rw[hn.ul];omega)]
               exact hww2 (o:=true) (hn.rel _ (by rw[hn.ul];omega)))
          refine⟨_,_,_,hrun,hmv.1,hmv.2,?_,trivial⟩
          have e1:(⟨g,0,none⟩:Addr)=⟨g,0*P.cellsOf e,none⟩:=by simp
          rw[e1]
          exact .slAt (by simp) (by rw[hBe]at hput;exact hput.here) hroom (by rw[hs2];simpa using hcs) hm
         ·
          let olds:=(List.range (len*P.cellsOf e)).map fun j=>cur.getD j undef
          have hfo:(Builtin.firstCells i.size len (.slice (some ⟨g,0,none⟩) len cap)).run P w.drew= .ok olds.toArray w.drew:=by
            simp only[Builtin.firstCells,hsz]
            exact h6_ (w:=w) (W:=w.drew) (n:=len*P.cellsOf e) (g:=g) (off:=0) (us:=fun j=>cur.getD j undef) (fun j hj=>by rw[Nat.zero_add];exact hcell j (by omega)) rfl _ rfl
          have hrun:=run_app_grow (P:=P) (w:=w) (ty:=ty) ht hu hd hi hz hfo (hn.len w) (by rw[hsz];exact hn.cells w.drew rfl) (by omega) c3 (by rw[hby];exact c2)
          have hN:=grownCap_ge w (len+n) cap e
          have hol:∀j,j<len*P.cellsOf e→olds.getD j undef=cur.getD j undef:=fun j hj=>k6_ _ _ _ hj
          obtain⟨g1,g2,g3,g4,g5⟩:=grow_post (P:=P) (w:=w) (ι:=ι) (e:=e) (z:=z) (olds:=olds) (lo:=B.cells.take (len*P.cellsOf e)) (n:=len) (op:=B.op||op) (N:=grownCap w (len+n) cap e) (by omega) hzs hz1 (by simp[olds]) hn.ul hlo hn.ll
            (fun j hj=>by
              have hj':j<len*P.cellsOf e:=by simpa [olds]using hj
              rw[hol j hj'];exact hone j (by omega)) hn.one
            (fun j hj=>by
              have hj':j<len*P.cellsOf e:=by simpa [olds]using hj
              rw[hol j hj',n1_ _ _ _ hj'];exact hww (o:=true) (hrel j (by omega)))
            (fun j hj=>hww2 (o:=true) (hn.rel j hj))
          obtain⟨ι',m0,m1,m2⟩:=hh.movePush hbl (B:=⟨e,B.op||op,B.cells.take (len*P.cellsOf e)++l⟩) (o5_ w _) g5 g2 g3 g4
          refine⟨_,_,ι',hrun,m1,m2,?_,trivial⟩
          have:(⟨w.heap.size,0,none⟩:Addr)=⟨w.heap.size,0*P.cellsOf e,none⟩:=by simp
          rw[this]
          exact .slAt m0 (o5_ w _).new hN (by rw[Nat.zero_add,g1]) (grownCap_le_maxLen w (len+n) cap e (by simp only[maxLen];omega))
       ·simp at h
      ·simp at h
     ·simp at h
    ·simp at h
   ·simp at h
  ·simp at h
omit [Gv]in
theorem isByte_val {a:AV}{v:Value}{o:Bool}(h:isByte a=true)(hv:VR P w ι o a v):v= .int .u8 (unbyte a).toNat∧a=t4_ (unbyte a):=by
  unfold isByte at h
  split at h
  ·rename_i n
   simp only[decide_eq_true_eq]at h
   have e:((UInt8.ofNat n.toNat).toNat:Int)=n:=by
     rw[UInt8.toNat_ofNat']
     omega
   rw[hv.cInv]
   simp only[unbyte,t4_,e]
   exact⟨trivial,trivial⟩
  ·simp at h
omit [Gv]in
theorem f4_ {s d e:TypeId}{a:Option Addr}{n cap:Nat}{l:List AV}{o:Bool}{us:Nat→Value}(hs:P.underlying s=some (.slice e))(he:P.underlying e=some (.int .u8))(hd:P.underlying d=some .string)
    (hl:l.length=n) (hb:u4_ l) (ha:n=0∨∃g off,a=some ⟨g,off,none⟩∧(∀j,j<n→w.cell? ⟨g,off+j,none⟩=some (us j))∧∀j,j<n→VR P w ι o (l.getD j .any) (us j)):
    (convert s d (.slice a n cap)).run P w= .ok (str (x8_ l)) w:=by
  rcases ha with h0|⟨g,off,rfl,hc,hr⟩
  ·subst h0
   have hl0:l=[]:=List.eq_nil_of_length_eq_zero hl
   subst hl0
   rw[run_convert_bytes_string w s d e a 0 cap hs he hd]
   cases a with
   |none=>simp[Conv.bytesToString,x8_,str];rfl
   |some a=>
    have:=run_bytesToString (P:=P) w a 0 cap [] (by simp[loadCells,loadCellsFrom])
    rw[this]
    simp[x8_,str];rfl
  ·have hlen:(x8_ l).length=n:=by simp[x8_,hl]
   have hall:∀j,j<n→isByte (l.getD j .any)=true:=by
     intro j hj
     have hj':j<l.length:=by omega
     have:l.getD j .any=l[j]:=by simp[List.getD,hj']
     rw[this]
     exact List.all_eq_true.1 hb _ (List.getElem_mem hj')
   have:=run_convert_bytes_back (P:=P) w s d e ⟨g,off,none⟩ cap (x8_ l) hs he hd (fun j hj=>by
     have hj':j<n:=by omega
     have h1:=(isByte_val (hall j hj') (hr j hj')).1
     have hadd:(⟨g,off,none⟩:Addr).add j=⟨g,off+j,none⟩:=by unfold Addr.add;split<;>simp_all
     have hj2:j<l.length:=by omega
     have:l.getD j .any=l[j]:=by simp[List.getD,hj2]
     rw[hadd,hc j hj',h1,this]
     simp[x8_])
   rw[hlen]at this
   exact this
omit [Gv]in
theorem bytesRow_getD (s:ByteArray)(cap j:Nat)(h:j<(sb s).length):(bytesRow s cap).getD j undef= .int .u8 (sb s)[j].toNat:=by
  have hj:j<s.data.size:=by simpa [sb]using h
  have hj2:j<(s.data.toList.map fun b=>Value.int .u8 b.toNat).length:=by simpa using hj
  rw[←w1_]
  unfold bytesRow
  rw[Array.toList_append,Array.toList_map,List.getD,List.getElem?_append_left hj2,List.getElem?_eq_getElem hj2]
  simp[sb]
omit [Gv]in
theorem fCnv_run {s d:TypeId}{x:AV}{vx v:Value}(hx:VR P w ι true x vx)(h:fCnv P s d x=some v):(convert s d vx).run P w= .ok v w:=by
  unfold fCnv at h
  split at h
  ·rename_i q n
   rw[hx.cInv]
   split at h
   ·rename_i t ht hd
    cases h
    exact run_convert_int_float w s d q .f64 n (by rw[ht];rfl) hd
   ·simp at h
  ·simp at h
theorem conv_ok {s d:TypeId}{x:AV}{vx:Value}{cks:List Ck}{av:AV}{cmd:Cmd}(hh:HpRel P w ι hp)(hx:VR P w ι true x vx)(h:convA P hp s d x=some (cks,av,cmd))(hc:Ck.conj cks):
    ∃v w' ι',(convert s d vx).run P w= .ok v w'∧Ext w ι w' ι'∧HpRel P w' ι' (cmd.run hp)∧VR P w' ι' true av v∧CmdPost w ι w' ι' cmd:=by
  unfold convA at h
  split at h
  ·rename_i e he
   obtain⟨hd,hz0,_⟩:=m5_ he
   split at h
   ·rename_i hcond
    simp only[Bool.and_eq_true]at hcond
    have hs:=d7_ hcond.1
    obtain⟨hu8,hz⟩:=isU8_spec hcond.2
    split at h
    ·rename_i s'
     simp only[oi_]at h
     obtain⟨rfl,rfl,rfl⟩:=h
     have h1:=hc.1
     simp only[ck]at h1
     rw[hx.cInv]
     have hrun:=run_bytes_of_string (P:=P) w s d e s' hs hd hu8
     have hcap:=grownCap_ge w s'.size 0 e
     have hsz:(bytesRow s' (grownCap w s'.size 0 e)).size=grownCap w s'.size 0 e:=by
       simp[bytesRow]
       have:s'.data.size=s'.size:=rfl
       omega
     have hb:∀j,j<(z6_ (sb s')).length→(bytesRow s' (grownCap w s'.size 0 e)).getD j undef= .int .u8 ((sb s').getD j 0).toNat:=by
       intro j hj
       have hj':j<(sb s').length:=by simpa [z6_]using hj
       rw[bytesRow_getD _ _ _ hj']
       simp[List.getD,hj']
     have hpush:=hh.push (B:=⟨e,false,z6_ (sb s')⟩) (w':=w.drew.alloc (.cells (bytesRow s' (grownCap w s'.size 0 e)) e ((bytesRow s' (grownCap w s'.size 0 e)).size,(bytesRow s' (grownCap w s'.size 0 e)).size+1)))
       ⟨rfl,rfl,rfl,rfl⟩ ⟨fun off ho hf=>(by simp only at hf;omega),fun hx=>absurd (hcond.2.symm.trans hx) (by simp),fun hx=>absurd (hcond.2.symm.trans hx) (by simp)⟩ (by rw[hsz];simp only[z6_,List.length_map];rw[h8_];exact hcap)
       (by intro j hj;rw[hb j hj];rfl)
       (by
         intro j hj
         rw[hb j hj]
         have hj':j<(sb s').length:=by simpa [z6_]using hj
         show VR P w ι false ((z6_ (sb s')).getD j .any) _
         rw[byts_getD _ _ hj']
         have:(sb s').getD j 0=(sb s')[j]:=by simp[List.getD,hj']
         rw[this]
         exact .c)
     refine⟨_,_,_,hrun,hpush.1,hpush.2,?_,fun g hg=>(o5_ w _).old hg⟩
     have e0:(⟨w.heap.size,0,none⟩:Addr)=⟨w.heap.size,0*P.cellsOf e,none⟩:=by simp
     rw[e0,h8_]
     exact .slAt (by simp) (o5_ w _).new hcap (by rw[hsz,hz];omega) (grownCap_le_maxLen w s'.size 0 e (by rw[h8_]at h1;simp only[maxLen];omega))
    ·simp at h
   ·simp at h
  ·split at h
   ·rename_i e he
    obtain⟨hs,hz0,_⟩:=m5_ he
    split at h
    ·rename_i hcond
     simp only[Bool.and_eq_true]at hcond
     have hd:=d7_ hcond.1
     obtain⟨hu8,hz⟩:=isU8_spec hcond.2
     split at h
     ·rename_i b off n
      split at h
      ·rename_i B hb
       split at h
       ·rename_i hBe
        simp only[oi_]at h
        obtain⟨rfl,rfl,rfl⟩:=h
        obtain⟨c1,c2,_⟩:=hc
        simp only[ck]at c1 c2
        have hl:((B.cells.drop off).take n).length=n:=by simp;omega
        rcases Nat.eq_zero_or_pos n with hn|hn
        ·subst hn
         obtain⟨a,cap,rfl,_⟩:=hx.slShape (hh.notDead hb)
         exact⟨_,w,ι,f4_ (ι:=ι) (o:=true) (us:=fun _=>undef) hs hu8 hd hl c2 (.inl rfl),Ext.refl _ _,hh,.c,rfl,rfl⟩
        ·obtain⟨g,cap,cur,fz,hg,hcur,hn2,hs2,hm,rfl⟩:=hx.slPlace (hh.live hb) hn
         obtain⟨cur',fz',hcur',_,hlen,hone,hrel,hcell⟩:=(hh.live hb).cells hg hcur
         rw[hcur]at hcur';cases hcur'
         rw[hBe,hz,Nat.mul_one]
         refine⟨_,w,ι,f4_ (ι:=ι) (o:=B.op) (us:=fun j=>cur.getD (off+j) undef) hs hu8 hd hl c2 (.inr ⟨g,off,rfl,fun j hj=>hcell _ (by omega),fun j hj=>?_⟩),Ext.refl _ _,hh,.c,rfl,rfl⟩
         rw[n1_ _ _ _ hj,l0_]
         exact hrel _ (by omega)
       ·simp at h
      ·simp at h
     ·rename_i s' n l
      split at h
      ·rename_i hs1
       simp only[oi_]at h
       obtain⟨rfl,rfl,rfl⟩:=h
       obtain⟨cl,c1,_⟩:=hc
       simp only[ck]at cl c1
       subst hs1
       cases hx with
       |fsZero=>exact⟨_,w,ι,f4_ (ι:=ι) (o:=true) (us:=fun _=>undef) hs hu8 hd rfl c1 (.inl rfl),Ext.refl _ _,hh,.c,rfl,rfl⟩
       |fs hn hl hg hno hcl ho hr=>
        exact⟨_,w,ι,f4_ hs hu8 hd cl c1 (.inr ⟨_,_,rfl,fun j hj=>hcl j (by omega),fun j hj=>hr j (by omega)⟩),Ext.refl _ _,hh,.c,rfl,rfl⟩
      ·simp at h
     ·simp only[oi_]at h
      obtain⟨rfl,rfl,rfl⟩:=h
      rw[hx.cInv]
      exact⟨_,w,ι,f4_ (ι:=ι) (l:=[]) (o:=true) (us:=fun _=>undef) hs hu8 hd rfl (by decide) (.inl rfl),Ext.refl _ _,hh,.c,rfl,rfl⟩
     ·simp at h
    ·simp at h
   ·simp at h
theorem fillA_ok {o:Bool}(hh:HpRel P w ι hp)(size:Nat):
    ∀(parts:List (Nat×AV)) (vparts:List (Nat×Value)) (cells out:List AV) (cur:Array Value),
     parts.length=vparts.length→(∀k,k<parts.length→∃i a v,parts[k]? =some (i,a)∧vparts[k]? =some (i,v)∧VR P w ι o a v)→cells.length=cur.size→
     (∀j,j<cells.length→(cur.getD j undef).oneCell'=true)→(∀j,j<cells.length→VR P w ι o (cells.getD j .any) (cur.getD j undef))→
     e2_ hp (fun i=>some (q2_ i size,size)) cells parts=some out→
     ∃cur',Instr.fill (fun i=>some (i*size,size)) cur vparts=some cur'∧out.length=cur'.size∧cur'.size=cur.size∧(∀j,j<out.length→(cur'.getD j undef).oneCell'=true)∧∀j,j<out.length→VR P w ι o (out.getD j .any) (cur'.getD j undef)
  | [],[],cells,out,cur,_,_,hl,h1,hr,h=>by
    simp only[e2_,Option.some.injEq]at h
    subst h
    exact⟨cur,rfl,hl,rfl,h1,hr⟩
  | [],_::_,_,_,_,hlen,_,_,_,_,_=>by simp at hlen
  |_::_,[],_,_,_,hlen,_,_,_,_,_=>by simp at hlen
  |(i,a)::rest,(i',v)::vrest,cells,out,cur,hlen,hp',hl,h1,hr,h=>by
   obtain⟨i0,a0,v0,e1,e2,hav⟩:=hp' 0 (by simp)
   simp only[List.getElem?_cons_zero,Option.some.injEq,Prod.mk.injEq]at e1 e2
   obtain⟨ei,ea⟩:=e1
   obtain⟨ei',ev⟩:=e2
   have e3:i=i':=ei.trans ei'.symm
   subst e3
   rw[←ea,←ev]at hav
   clear ei ea ei' ev
   simp only[e2_]at h
   split at h
   ·simp at h
   ·rename_i cs hcs
    split at h
    ·rename_i hfit
     obtain⟨c1,c2,c3,c4⟩:=cellsOf_rel hh hav hcs
     rw[t3_]at hfit h
     have hfold:∀(vs:List Value) (k:Nat) (c:Array Value),i*size+k+vs.length≤c.size→
        (vs.zipIdx k).foldl (fun cs (x:Value×Nat)=>cs.setIfInBounds (i*size+x.2) x.1) c=(c.toList.take (i*size+k)++vs++c.toList.drop (i*size+k+vs.length)).toArray:=by
       intro vs
       induction vs with
       |nil=>intro k c _;simp
       |cons x xs ih=>
        intro k c hk
        simp only[List.length_cons]at hk
        simp only[List.zipIdx_cons,List.foldl_cons]
        rw[ih (k+1) _ (by simp;omega)]
        congr 1
        have e:=list_seg_step c.toList (i*size+k) x xs (by simp;omega)
        simpa [Array.toList_setIfInBounds,Nat.add_assoc]using e
     have hvl:v.cells.toList.length=size:=by simpa using c1
     have hfit2:i*size+v.cells.toList.length≤cur.size:=by rw[hvl];omega
     have hf:=hfold v.cells.toList 0 cur (by rw[Nat.add_zero];exact hfit2)
     simp only[Nat.add_zero]at hf
     have hz:v.cells.zipIdx.foldl (fun cs (x:Value×Nat)=>cs.setIfInBounds (i*size+x.2) x.1) cur=(cur.toList.take (i*size)++v.cells.toList++cur.toList.drop (i*size+v.cells.toList.length)).toArray:=by
       rw[←hf,←Array.foldl_toList,Array.toList_zipIdx]
     have hcl:i*size+cs.length≤cells.length:=by rw[c2];exact hfit
     have hal:=d5_ cells cs (i*size) hcl
     rw[c2]at hal
     have hss:=f5_ cur v.cells.toList (i*size) hfit2
     obtain⟨cur',f1,f2,f3,f4,f5⟩:=fillA_ok hh size rest vrest _ out _ (by simpa using hlen)
       (fun k hk=>by simpa using hp' (k+1) (by simpa using hk)) (by rw[hal,hss];exact hl)
       (by
         intro j hj
         rw[hal]at hj
         rw[p9_ _ _ _ _ hfit2,w1_]
         split
         ·exact h1 j hj
         ·split
          ·exact c3 _ (by omega)
          ·exact h1 j hj)
       (by
         intro j hj
         rw[hal]at hj
         have e:=spliceA_getD cells cs (i*size) j hcl
         rw[c2]at e
         rw[p9_ _ _ _ _ hfit2,w1_,e,hvl]
         split
         ·exact hr j hj
         ·split
          ·exact c4 _ (by omega)
          ·exact hr j hj) h
     refine⟨cur',?_,f2,f3.trans hss,f4,f5⟩
     simp only[Instr.fill]
     rw[if_neg (by simp[c1];omega)]
     rw[hz]
     exact f1
    ·simp at h
omit [Gv]in
theorem cellsOf_length {hp:Heap}{s:Nat}{a:AV}{cs:List AV}(h:a.cellsOf hp s=some cs):cs.length=s:=by
  unfold AV.cellsOf at h
  repeat' split at h
  all_goals first
    |(simp only[reduceCtorEq]at h;done)
    |(simp only[Option.some.injEq]at h
      subst h
      first
        |assumption
        |(rename_i hs;simpa using hs.symm)
        |(rename_i hs;simpa using hs.1)
        |(rename_i hs;simpa using hs))
omit [Gv]in
theorem seqFill_fill {hp:Heap}{place:Nat→Option (Nat×Nat)} :∀(parts:List (Nat×AV)) (off:Nat) (out cells:List AV),seqFill hp place off parts=some out→off+out.length≤cells.length→
    e2_ hp place cells parts=some (cells.take off++out++cells.drop (off+out.length))
  | [],off,out,cells,h,_=>by
    simp only[seqFill,Option.some.injEq]at h
    subst h
    simp[e2_]
  |(i,v)::r,off,out,cells,h,hl=>by
   unfold seqFill at h
   split at h
   ·rename_i o s hp1
    split at h
    ·rename_i ho
     subst ho
     split at h
     ·rename_i cs hcs
      split at h
      ·rename_i l hrest
       simp only[Option.some.injEq]at h
       subst h
       have hlen:=cellsOf_length hcs
       simp only[List.length_append]at hl
       unfold e2_
       rw[hp1]
       simp only[hcs]
       rw[if_pos (by omega)]
       have e1:(cells.take o++cs++cells.drop (o+s)).length=cells.length:=by simp;omega
       have ih:=seqFill_fill r (o+s) l (cells.take o++cs++cells.drop (o+s)) hrest (by rw[e1];omega)
       rw[ih]
       have e2:(cells.take o++cs++cells.drop (o+s)).take (o+s)=cells.take o++cs:=by
         rw[List.take_append_of_le_length (by simp;omega),List.take_of_length_le (by simp;omega)]
       have e3:(cells.take o++cs++cells.drop (o+s)).drop (o+s+l.length)=cells.drop (o+(cs++l).length):=by
         rw[List.drop_append]
         have h1:(cells.take o++cs).length=o+s:=by simp;omega
         rw[List.drop_of_length_le (by omega),List.nil_append,h1,List.drop_drop]
         congr 1
         simp
         omega
       rw[e2,e3]
       simp
      ·simp at h
     ·simp at h
    ·simp at h
   ·simp at h
omit [Gv]in
theorem fillQ_fillA {hp:Heap}{place:Nat→Option (Nat×Nat)}{cells cs:List AV}{parts:List (Nat×AV)}(h:fillQ hp place cells parts=some cs):e2_ hp place cells parts=some cs:=by
  unfold fillQ at h
  split at h
  ·rename_i l hl
   split at h
   ·rename_i hlen
    simp only[Option.some.injEq]at h
    subst h
    rw[seqFill_fill parts 0 l cells hl (by omega)]
    simp[List.drop_of_length_le (Nat.le_of_eq hlen.symm)]
   ·exact h
  ·exact h
omit [Gv]in
theorem replicate_flat {α:Type}(n:Nat)(x:α):List.replicate n x=(List.replicate n [x]).flatten:=by
  induction n with
  |zero=>simp
  |succ n ih=>simp[List.replicate_succ,←ih]
omit [Gv]in
theorem repl_spec (n:Nat)(z:Array Value):c6_ n (z.toList.map AV.c)=(List.range (n*z.size)).map fun i=>AV.c (z[i%z.size]!):=by
  have gen:∀(l:List AV),c6_ n l=(List.replicate n l).flatten:=by
    intro l
    unfold c6_
    split
    ·exact replicate_flat _ _
    ·rfl
  rw[gen]
  clear gen
  induction n with
  |zero=>simp
  |succ n ih=>
   rw[List.replicate_succ',List.flatten_append,ih]
   simp only[List.flatten_cons,List.flatten_nil,List.append_nil]
   rw[Nat.succ_mul,List.range_add,List.map_append,List.map_map]
   congr 1
   apply List.ext_getElem
   ·simp
   ·intro i h1 h2
    simp at h1
    simp[Nat.add_mod,Nat.mod_eq_of_lt h1,h1]
omit [Gv]in
theorem zeroOf_spec {e:TypeId}{l:List AV}(h:b1_ P e=some l):∃i z,P.info? e=some i∧i.zero=some z∧l=z.cells.toList.map AV.c∧i.size=P.cellsOf e∧i.bytes=P.bytesOf e∧∀v∈z.cells.toList,v.oneCell'=true:=by
  unfold b1_ at h
  cases hi:P.info? e with
  |none=>simp[hi]at h
  |some i=>
   simp only[hi,Option.bind_some]at h
   cases hz:i.zero with
   |none=>simp[hz]at h
   |some z=>
    simp only[hz,Option.bind_some]at h
    split at h
    ·rename_i hall
     simp only[Option.some.injEq]at h
     exact⟨i,z,rfl,hz,h.symm,by simp[Program.cellsOf,hi],by simp[Program.bytesOf,hi],List.all_eq_true.1 hall⟩
    ·simp at h
omit [Gv]in
theorem repl_rel (n:Nat)(z:Array Value)(o:Bool)(h1:∀v∈z.toList,v.oneCell'=true):
    (c6_ n (z.toList.map AV.c)).length=((Array.range (n*z.size)).map (z[· %z.size]!)).size∧
    (∀j,j<(c6_ n (z.toList.map AV.c)).length→((((Array.range (n*z.size)).map (z[· %z.size]!)).getD j undef).oneCell'=true))∧
    ∀j,j<(c6_ n (z.toList.map AV.c)).length→VR P w ι o ((c6_ n (z.toList.map AV.c)).getD j .any) (((Array.range (n*z.size)).map (z[· %z.size]!)).getD j undef):=by
  rw[repl_spec]
  have hlen:((List.range (n*z.size)).map fun i=>AV.c (z[i%z.size]!)).length=n*z.size:=by simp
  have get:∀j,j<n*z.size→((Array.range (n*z.size)).map (z[· %z.size]!)).getD j undef=z[j%z.size]! :=by
    intro j hj
    rw[←w1_]
    simp[List.getD,hj]
  refine⟨by simp,?_,?_⟩
  ·intro j hj
   rw[hlen]at hj
   rw[get j hj]
   have hz:0<z.size:=Nat.pos_of_ne_zero (by rintro h;rw[h]at hj;omega)
   have hm:=Nat.mod_lt j hz
   rw[getElem!_pos z (j%z.size) hm]
   exact h1 _ (by simp)
  ·intro j hj
   rw[hlen]at hj
   rw[get j hj]
   have:((List.range (n*z.size)).map fun i=>AV.c (z[i%z.size]!)).getD j .any= .c (z[j%z.size]!):=by simp[List.getD,hj]
   rw[this]
   exact .c
theorem build_ok {t e:TypeId}{len:Nat}{vparts:Array (Nat×Value)}{parts:List (Nat×AV)}{z cs:List AV}(hh:HpRel P w ι hp)(he:i0_ P t=some e)(hz:b1_ P e=some z)(hzl:z.length=P.cellsOf e)(hsm:len*P.cellsOf e≤16777216)
    (hlen:parts.length=vparts.toList.length) (hp':∀k,k<parts.length→∃i a v,parts[k]? =some (i,a)∧vparts.toList[k]? =some (i,v)∧VR P w ι true a v)
    (h:e2_ hp (fun i=>some (q2_ i (P.cellsOf e),P.cellsOf e)) (c6_ len z) parts=some cs):
    ∃v w' ι',(Instr.buildSlice t len vparts).run P w= .ok v w'∧Ext w ι w' ι'∧HpRel P w' ι' (hp++[some ⟨e,!AV.closedAll cs,cs⟩])∧VR P w' ι' true (.sl hp.length 0 len) v∧∀g,g<w.heap.size→w'.heap[g]? =w.heap[g]? :=by
  obtain⟨ht,hz0,_⟩:=m5_ he
  obtain⟨i,zv,hi,hzv,rfl,hsz,_,hone⟩:=zeroOf_spec hz
  have hzs:zv.cells.size=P.cellsOf e:=by simpa using hzl
  obtain⟨r1,r2,r3⟩:=repl_rel (P:=P) (w:=w) (ι:=ι) len zv.cells true hone
  obtain⟨cur',f1,f2,f3,f4,f5⟩:=fillA_ok hh (P.cellsOf e) parts vparts.toList _ cs _ hlen hp' r1 r2 r3 h
  have hcur:cur'.size=len*P.cellsOf e:=by rw[f3];simp[hzs]
  have hpush:=hh.push (B:=⟨e,!AV.closedAll cs,cs⟩) (s4_ w (.cells cur' e)) (rowOK0 fun _ j hj=>f4 j (by rw[f2];exact hj)) (Nat.le_of_eq f2) f4 (fun j hj=>by
    cases hcl:AV.closedAll cs with
    |true=>simp only[Bool.not_true];exact(f5 j hj).shut (closed_getD cs hcl j hj)
    |false=>simp only[Bool.not_false];exact f5 j hj)
  refine⟨.slice (some ⟨w.heap.size,0,none⟩) len len,_,_,?_,hpush.1,hpush.2,?_,fun g hg=>(s4_ w _).old hg⟩
  ·have hbig:¬(16777216<len*P.cellsOf e):=by omega
   rw[hzs]at f1
   unfold Instr.buildSlice
   have hr0:Array.range 0= #[]:=rfl
   by_cases h0:len*P.cellsOf e=0
   ·have f1':Instr.fill (fun i=>some (i*P.cellsOf e,P.cellsOf e)) #[] vparts.toList=some cur':=by rw[h0]at f1;simpa [hr0]using f1
    simp[run_underlying ht,sizeOf,typeInfo,hi,hsz,h0,hr0,f1',newRow]
   ·simp[run_underlying ht,sizeOf,typeInfo,zeroValue,hi,hzv,hsz,hbig,h0,hzs,f1,newRow]
  ·have e0:(⟨w.heap.size,0,none⟩:Addr)=⟨w.heap.size,0*P.cellsOf e,none⟩:=by simp
   rw[e0]
   have hml:len≤maxLen:=by
     have:=Nat.le_mul_of_pos_right len hz0
     simp only[maxLen];omega
   exact .slAt (by simp) (s4_ w _).new (Nat.le_refl _) (by rw[hcur];simp) hml
theorem make_ok {t e:TypeId}{l c:Int}{k k':IntKind}{z:List AV}(hh:HpRel P w ι hp)(he:i0_ P t=some e)(hz:b1_ P e=some z)(hzl:z.length=P.cellsOf e)
    (h0:0≤l) (h1:l≤c) (h2:c*(P.bytesOf e:Int)≤140737488355328) (h3:c≤4611686018427387904):
    ∃v w' ι',(Instr.makeSlice t (.int k l) (.int k' c)).run P w= .ok v w'∧Ext w ι w' ι'∧HpRel P w' ι' (hp++[some ⟨e,false,c6_ l.toNat z⟩])∧VR P w' ι' true (.sl hp.length 0 l.toNat) v∧∀g,g<w.heap.size→w'.heap[g]? =w.heap[g]? :=by
  obtain⟨ht,hz0,_⟩:=m5_ he
  obtain⟨i,zv,hi,hzv,rfl,hsz,hby,hone⟩:=zeroOf_spec hz
  have hzs:zv.cells.size=P.cellsOf e:=by simpa using hzl
  obtain⟨r1,r2,r3⟩:=repl_rel (P:=P) (w:=w) (ι:=ι) c.toNat zv.cells false hone
  have hcsz:((Array.range (c.toNat*zv.cells.size)).map (zv.cells[· %zv.cells.size]!)).size=c.toNat*P.cellsOf e:=by simp[hzs]
  have hpre:∀j,j<(c6_ l.toNat (zv.cells.toList.map AV.c)).length→j<(c6_ c.toNat (zv.cells.toList.map AV.c)).length∧(c6_ l.toNat (zv.cells.toList.map AV.c)).getD j .any=(c6_ c.toNat (zv.cells.toList.map AV.c)).getD j .any:=by
    intro j hj
    rw[repl_spec]at hj ⊢
    rw[repl_spec]
    have hj':j<l.toNat*zv.cells.size:=by simpa using hj
    have hle:l.toNat*zv.cells.size≤c.toNat*zv.cells.size:=Nat.mul_le_mul_right _ (by omega)
    refine⟨by simp;omega,?_⟩
    have hj2:j<c.toNat*zv.cells.size:=by omega
    simp[List.getD,hj',hj2]
  have hpush:=hh.push (B:=⟨e,false,c6_ l.toNat (zv.cells.toList.map AV.c)⟩) (s4_ w (.cells ((Array.range (c.toNat*zv.cells.size)).map (zv.cells[· %zv.cells.size]!)) e)) (rowOK0 fun _ j hj=>r2 j (by rw[r1];exact hj))
    (by
      rw[hcsz]
      simp only[repl_spec,List.length_map,List.length_range,hzs]
      exact Nat.mul_le_mul_right _ (by omega))
    (fun j hj=>r2 j (hpre j hj).1) (fun j hj=>by rw[(hpre j hj).2];exact r3 j (hpre j hj).1)
  refine⟨.slice (some ⟨w.heap.size,0,none⟩) l.toNat c.toNat,_,_,?_,hpush.1,hpush.2,?_,fun g hg=>(s4_ w _).old hg⟩
  ·have w1:i64.wrap l=l:=IntWalk.i64_in l (by omega)
   have w2:i64.wrap c=c:=IntWalk.i64_in c (by omega)
   have h4:¬(c<0):=by omega
   have h5:¬(l<0):=by omega
   have h6:¬(c<l):=by omega
   have h7:¬(281474976710656<(i.bytes:Int)*c):=by rw[hby,Int.mul_comm];omega
   unfold Instr.makeSlice
   have hr0:Array.range 0= #[]:=rfl
   by_cases hc0:c.toNat*P.cellsOf e=0
   ·have hc1:c.toNat*zv.cells.size=0:=by rw[hzs];exact hc0
    simp[run_underlying ht,asInt,asIntOf,typeInfo,hi,w1,w2,h4,h5,h6,h7,sizeOf,hsz,hc0,hc1,hr0,newRow]
   ·simp[run_underlying ht,asInt,asIntOf,typeInfo,hi,w1,w2,h4,h5,h6,h7,sizeOf,zeroValue,hzv,hsz,hc0,hzs,newRow]
  ·have e0:(⟨w.heap.size,0,none⟩:Addr)=⟨w.heap.size,0*P.cellsOf e,none⟩:=by simp
   rw[e0]
   exact .slAt (by simp) (s4_ w _).new (by omega) (by rw[hcsz];simp) (by simp only[maxLen];omega)
omit [Gv]in
theorem take_getDV (l:List Value)(k j:Nat)(h:j<k):(l.take k).getD j undef=l.getD j undef:=by simp[List.getD,h]
omit [Gv]in
theorem set_self {hp:Heap}{b:Nat}{x:Option Blk}(h:hp[b]? =some x):List.set hp b x=hp:=by
  apply List.ext_getElem?
  intro k
  rw[List.getElem?_set]
  split
  ·rename_i hk
   subst hk
   rw[if_pos (List.getElem?_eq_some_iff.1 h).1,h]
  ·rfl
theorem copy_ok {t u ty:TypeId}{d x:AV}{vd vx:Value}{cks:List Ck}{av:AV}{cmd:Cmd}(hh:HpRel P w ι hp)(hd:VR P w ι true d vd)(hx:VR P w ι true x vx)(h:copyA P hp t d x=some (cks,av,cmd))(hc:Ck.conj cks):
    ∃v w' ι',(Builtin.copy_ #[t,u] ty #[vd,vx]).run P w= .ok v w'∧Ext w ι w' ι'∧HpRel P w' ι' (cmd.run hp)∧VR P w' ι' true av v∧CmdPost w ι w' ι' cmd:=by
  unfold copyA at h
  split at h
  ·rename_i e he
   obtain⟨ht,hz0,i,hi,hsz⟩:=m5_ he
   split at h
   ·rename_i b off n
    split at h
    ·rename_i B ck1 m op l hb hnews
     split at h
     ·rename_i hcond
      simp only[oi_]at h
      obtain⟨rfl,rfl,rfl⟩:=h
      obtain⟨c1,c2,_⟩:=b3_ hc
      simp only[ck,t3_]at c2
      obtain⟨hBe,hop⟩:=hcond
      subst hBe
      obtain⟨us,hn⟩:=newsOf_ok hh hx hnews c1
      have hbl:b<hp.length:=(List.getElem?_eq_some_iff.1 hb).1
      have hkn:min n m≤m:=Nat.min_le_right _ _
      have hpre:=hn.pre (min n m) hkn
      have hmin:Nat.min m n=min n m:=Nat.min_comm _ _
      simp only[t3_]
      rcases Nat.eq_zero_or_pos n with hn0|hn0
      ·subst hn0
       obtain⟨a,cap,rfl,_⟩:=hd.slShape (hh.notDead hb)
       have hself:List.set hp b (some { B with cells:=B.cells.take (off*P.cellsOf B.e)++l.take (min 0 m*P.cellsOf B.e)++B.cells.drop (off*P.cellsOf B.e+min 0 m*P.cellsOf B.e)})=hp:=by
         have:({ B with cells:=B.cells.take (off*P.cellsOf B.e)++l.take (min 0 m*P.cellsOf B.e)++B.cells.drop (off*P.cellsOf B.e+min 0 m*P.cellsOf B.e)} :Blk)=B:=by
           simp
         rw[this]
         exact set_self hb
       refine⟨.int .i64 0,w,ι,?_,Ext.refl _ _,?_,?_,trivial⟩
       ·have hp0:(Builtin.firstCells i.size 0 vx).run P w= .ok #[] w:=by
          have:=hn.pre 0 (Nat.zero_le _)
          rw[hsz]
          simpa using this
        cases a<;>simp[Builtin.copy_,run_underlying ht,hn.len w,sizeOf,typeInfo,hi,hp0,storeCells,goInt]
       ·show HpRel P w ι (List.set hp b _)
        rw[hself];exact hh
       ·simp only[Nat.zero_min];exact .c
      ·obtain⟨g,cap,cur,fz,hg,hcur,hn2,hs,hm,rfl⟩:=hd.slPlace (hh.live hb) hn0
       obtain⟨cur',fz',hcur',hfz,hlen,hone,hrel,hcell⟩:=(hh.live hb).cells hg hcur
       rw[hcur]at hcur';cases hcur'
       have hkmul:min n m*P.cellsOf B.e≤n*P.cellsOf B.e:=Nat.mul_le_mul_right _ (Nat.min_le_left _ _)
       have hkmul2:min n m*P.cellsOf B.e≤m*P.cellsOf B.e:=Nat.mul_le_mul_right _ hkn
       have hsum:off*P.cellsOf B.e+n*P.cellsOf B.e≤B.cells.length:=by rw[←Nat.add_mul,Nat.add_comm];exact c2
       have hul:(us.take (min n m*P.cellsOf B.e)).length=min n m*P.cellsOf B.e:=by rw[List.length_take,hn.ul];omega
       have hll:(l.take (min n m*P.cellsOf B.e)).length=min n m*P.cellsOf B.e:=by rw[List.length_take,hn.ll];omega
       have hfit:off*P.cellsOf B.e+(us.take (min n m*P.cellsOf B.e)).length≤cur.size:=by rw[hul];omega
       have hmem:∀v∈us.take (min n m*P.cellsOf B.e),v.oneCell'=true:=by
         intro v hv
         have hv':=List.mem_of_mem_take hv
         obtain⟨j,hj,rfl⟩:=List.getElem_of_mem hv'
         have:=hn.one j hj
         simpa [List.getD,hj]using this
       have hst:=h2_ (P:=P) g (off*P.cellsOf B.e) B.e fz (us.take (min n m*P.cellsOf B.e)) 0 cur w hcur hfz.in_ (by simpa using hfit) hmem
       simp only[Nat.add_zero]at hst
       have hput:=put_setRow w g cur (cur.toList.take (off*P.cellsOf B.e)++us.take (min n m*P.cellsOf B.e)++cur.toList.drop (off*P.cellsOf B.e+(us.take (min n m*P.cellsOf B.e)).length)).toArray B.e fz hcur
       have hss:=f5_ cur (us.take (min n m*P.cellsOf B.e)) (off*P.cellsOf B.e) hfit
       have hcl:off*P.cellsOf B.e+(l.take (min n m*P.cellsOf B.e)).length≤B.cells.length:=by rw[hll];omega
       have hal:=d5_ B.cells (l.take (min n m*P.cellsOf B.e)) (off*P.cellsOf B.e) hcl
       have hsp:=spliceA_getD B.cells (l.take (min n m*P.cellsOf B.e)) (off*P.cellsOf B.e)
       rw[hll]at hal hsp hcl
       have hw:=hh.write (B:= { B with cells:=B.cells.take (off*P.cellsOf B.e)++l.take (min n m*P.cellsOf B.e)++B.cells.drop (off*P.cellsOf B.e+min n m*P.cellsOf B.e)}) hg hbl hcur hput hss (hfz.same hss (fun hu8=>splice_one hfit (hfz.one hu8) (fun j hj=>by
          rw[hul]at hj
          rw[take_getDV _ _ _ (by omega)]
          exact hn.one _ (by rw[hn.ul];omega)))) (by rw[hss];simp only[hal];exact hlen)
         (by
           intro j hj
           simp only[hal]at hj
           rw[p9_ _ _ _ _ hfit]
           split
           ·exact hone j hj
           ·split
            ·rename_i h1 h2
             rw[hul]at h2
             rw[take_getDV _ _ _ (by omega)]
             exact hn.one _ (by rw[hn.ul];omega)
            ·exact hone j hj)
         (by
           intro j hj
           simp only[hal]at hj
           rw[p9_ _ _ _ _ hfit,hsp j hcl,hul]
           split
           ·exact hrel j hj
           ·split
            ·rename_i h1 h2
             rw[take_getDV _ _ _ (by omega),n1_ _ _ _ (by omega)]
             have:=hn.rel (j-off*P.cellsOf B.e) (by rw[hn.ul];omega)
             refine this.weak (fun ho=>?_)
             rcases hop with h3|h3
             ·exact h3
             ·rw[h3]at ho;cases ho
            ·exact hrel j hj)
       refine⟨.int .i64 (min n m:Nat),_,ι,?_,hw.1,hw.2,.c,trivial⟩
       have hulc:(us.take (min n m*P.cellsOf B.e)).toArray.toList=us.take (min n m*P.cellsOf B.e):=by simp
       simp[Builtin.copy_,run_underlying ht,hn.len w,sizeOf,typeInfo,hi,hsz,hmin,hpre,hst,goInt]
     ·simp at h
    ·simp at h
   ·simp at h
  ·simp at h
theorem ustr_ok {t u ty:TypeId}{p x:AV}{vp vx:Value}{cks:List Ck}{av:AV}{cmd:Cmd}(hh:HpRel P w ι hp)(hd:VR P w ι true p vp)(hx:VR P w ι true x vx)(h:ustrA P hp t p x=some (cks,av,cmd))(hc:Ck.conj cks):
    ∃v w' ι',(Builtin.unsafeString_ #[t,u] ty #[vp,vx]).run P w= .ok v w'∧Ext w ι w' ι'∧HpRel P w' ι' (cmd.run hp)∧VR P w' ι' true av v∧CmdPost w ι w' ι' cmd:=by
  unfold ustrA at h
  split at h
  ·rename_i e hu
   split at h
   ·rename_i hu8
    obtain⟨hu8',hz⟩:=isU8_spec hu8
    split at h
    ·rename_i b n
     split at h
     ·rename_i B hb
      split at h
      ·rename_i hBe
       simp only[oi_]at h
       obtain⟨rfl,rfl,rfl⟩:=h
       obtain⟨c1,c2,c3,c4,_⟩:=hc
       simp only[ck]at c1 c2 c3 c4
       have hbl:b<hp.length:=(List.getElem?_eq_some_iff.1 hb).1
       rw[hx.cInv]
       cases hd with
       |ptDead hd=>exact absurd hd (hh.notDead hb)
       |pt hg hh0=>
        rename_i g _ _ _
        obtain⟨cur,fz,hcur,hfz,hlen,hone,hrel,hcell⟩:=(hh.live hb).cells hg hh0
        obtain⟨k,rfl⟩:=Int.eq_ofNat_of_zero_le (by omega:0≤n)
        have hkl:(x8_ (B.cells.take k)).length=k:=by simp[x8_];omega
        have hcells:∀j x,(x8_ (B.cells.take k))[j]? =some x→w.cell? ((⟨g,0,none⟩:Addr).add j)=some (.int .u8 x.toNat):=by
          intro j x hj
          have hjk:j<k:=by have:=(List.getElem?_eq_some_iff.1 hj).1;omega
          have hjl:j<B.cells.length:=by omega
          have hadd:(⟨g,0,none⟩:Addr).add j=⟨g,j,none⟩:=by unfold Addr.add;split<;>simp_all
          rw[hadd,hcell j (by omega)]
          have e1:(B.cells.take k).getD j .any=B.cells.getD j .any:=n1_ _ _ _ hjk
          have e2:(B.cells.take k).getD j .any∈B.cells.take k:=by
            have:(B.cells.take k).getD j .any=(B.cells.take k)[j]'(by rw[List.length_take];omega):=by simp[List.getD,hjk,hjl]
            rw[this];exact List.getElem_mem _
          have hby:=List.all_eq_true.1 (show(B.cells.take k).all isByte=true from by simp only[Int.toNat_natCast]at c3;exact c3) _ e2
          rw[e1]at hby
          have:=(isByte_val hby (hrel j hjl)).1
          rw[this]
          have:x=unbyte (B.cells.getD j .any):=by
            simp[x8_,hjk,hjl]at hj
            rw[←hj]
            simp[List.getD,hjl]
          rw[this]
        have hrun:=Lib.run_unsafeString_row (P:=P) (w:=w) t u ty e hu hz g cur.size (by simp[World.shape?,hcur,hBe]) (x8_ (B.cells.take k)) (by intro h0;rw[h0]at hkl;simp at hkl;omega) (by rw[hkl];omega) (by rw[hkl];omega) hcells
        rw[hkl]at hrun
        obtain⟨e1,h1⟩:=hh.killPut (w':=w.freeze ⟨g,0,none⟩ k) hg hbl (by unfold World.freeze;split<;>rfl) (by unfold World.freeze;split<;>rfl) (by unfold World.freeze;split<;>rfl) (by unfold World.freeze;split<;>simp)
          (fun j hj=>by
            unfold World.freeze
            split
            ·rfl
            ·simp only[Array.getElem?_modify]
             rw[if_neg (fun h=>hj h.symm)])
        have hstr:str (x8_ (B.cells.take k))= .string ⟨(x8_ (B.cells.take k)).toArray⟩:=rfl
        refine⟨_,_,_,hrun,e1,h1,?_,trivial⟩
        rw[←hstr]
        simp only[Int.toNat_natCast]
        exact .c
      ·simp at h
     ·simp at h
    ·simp at h
   ·simp at h
  ·simp at h
end Go.Proofs.YtmjldphagbobpaaDoor
namespace Go.Proofs.YtmjldphagbobpaaDoor
open IntKind (i64 u8 i32 u32 u64)
open Go.RowKit
variable [Gv] {P:Program} {w:World} {ι:Pl} {hp:Heap}
theorem v1_.of_value {r:Sem Value}{w':World}{ι':Pl}{v:Value}{av:AV}{cmd:Cmd}{ρ:Operand→Value}{o:Oper}(he:execOp ρ o=(do pure (Next.value (←r))))(hr:r.run P w= .ok v w')(e:Ext w ι w' ι')(hh:HpRel P w' ι' (cmd.run hp))
    (hv:VR P w' ι' true av v) (hq:CmdPost w ι w' ι' cmd):v1_ P w ι ((execOp ρ o).run P w) av cmd hp:=
  ⟨_,w',ι',v,run_execOp he hr,.inl rfl,e,hh,hv,hq⟩
omit [Gv]in
theorem toList_one {α:Type}{a:Array α}{x:α}(h:a.toList=[x]):a= #[x]:=by rw[←Array.toArray_toList (xs:=a),h]
omit [Gv]in
theorem i4_ {α:Type}{a:Array α}{x y:α}(h:a.toList=[x,y]):a= #[x,y]:=by rw[←Array.toArray_toList (xs:=a),h]
omit [Gv]in
theorem f8_ {t:TypeId}(h:0<P.cellsOf t):∃i,P.info? t=some i∧i.size=P.cellsOf t:=by
  unfold Program.cellsOf at h ⊢
  cases hi:P.info? t with
  |none=>simp[hi]at h
  |some i=>exact⟨i,rfl,by simp⟩
omit [Gv]in
theorem fieldOff_spec {t u:TypeId}{i o:Nat}(h:fieldOff P t i=some (o,u)):∃fs f,P.underlying t=some (.struct fs)∧fs[i]? =some f∧f.offset=o∧f.type=u∧0<P.cellsOf u:=by
  unfold fieldOff at h
  split at h
  ·rename_i fs hu
   split at h
   ·rename_i f hf
    split at h
    ·rename_i hz
     simp only[oi_]at h
     obtain⟨rfl,rfl⟩:=h
     exact⟨fs,f,hu,hf,rfl,rfl,hz⟩
    ·simp at h
   ·simp at h
  ·simp at h
omit [Gv]in
theorem arrOf_spec {t e:TypeId}{n:Nat}(h:arrOf P t=some (n,e)):P.underlying t=some (.array n e)∧0<P.cellsOf e:=by
  unfold arrOf at h
  split at h
  ·rename_i n' e' hu
   split at h
   ·rename_i hz
    simp only[oi_]at h
    obtain⟨rfl,rfl⟩:=h
    exact⟨hu,hz⟩
   ·simp at h
  ·simp at h
omit [Gv]in
theorem addr_add (g off n:Nat):(⟨g,off,none⟩:Addr).add n=⟨g,off+n,none⟩:=by unfold Addr.add;split<;>simp_all
omit [Gv]in
theorem VR.fpDrop {o:Bool}{l:List AV}{v:Value}(h:VR P w ι o (.fp l) v)(k:Nat):∃g off,v= .pointer (some ⟨g,off,none⟩)∧VR P w ι o (.fp (l.drop k)) (.pointer (some ⟨g,off+k,none⟩)):=by
  cases h with
  |fp hg hno hcl ho hr=>
   rename_i g off us
   refine⟨g,off,rfl,.fp (us:=fun j=>us (k+j)) hg hno ?_ ?_ ?_⟩
   ·intro j hj
    simp only[List.length_drop]at hj
    have:=hcl (k+j) (by omega)
    rw[←Nat.add_assoc]at this
    exact this
   ·intro j hj
    simp only[List.length_drop]at hj
    exact ho _ (by omega)
   ·intro j hj
    simp only[List.length_drop]at hj
    rw[l0_]
    exact hr _ (by omega)
omit [Gv]in
theorem VR.ptShape {b off:Nat}{v:Value}(h:VR P w ι true (.pt b off) v)(hd:ι b≠ .dead):∃g cur e fz,v= .pointer (some ⟨g,off,none⟩)∧ι b= .here g∧w.heap[g]? =some (.cells cur e fz):=by
  cases h with
  |ptDead k=>exact absurd k hd
  |pt hg hh=>exact⟨_,_,_,_,rfl,hg,hh⟩
omit [Gv]in
theorem run_part {t:TypeId}{cks:List Ck}{av:AV}{l:List AV}{cs:Array Value}{off:Nat}(hl:l.length=cs.size)(h1:∀j,j<l.length→(cs.getD j undef).oneCell'=true)
    (hr:∀j,j<l.length→VR P w ι true (l.getD j .any) (cs.getD j undef)) (h:ldAV P t (l.drop off)=some (cks,av)) (hc:Ck.conj cks):∃v,(part t cs off).run P w= .ok v w∧VR P w ι true av v:=by
  unfold ldAV at h
  split at h
  ·rename_i hagg
   simp only[oi_]at h
   obtain⟨rfl,rfl⟩:=h
   have h2:=hc.1
   simp only[ck,List.length_drop]at h2
   have hinf:∃i,P.info? t=some i∧i.size=P.cellsOf t:=by
     unfold isAggT at hagg
     cases hi:P.info? t with
     |none=>simp[Program.underlying,hi]at hagg
     |some i=>exact⟨i,rfl,by simp[Program.cellsOf,hi]⟩
   obtain⟨i,hi,hz⟩:=hinf
   refine⟨.agg (cs.extract off (off+P.cellsOf t)),?_,?_⟩
   ·unfold part
    simp[run_isAgg hagg,sizeOf,typeInfo,hi,hz]
   ·have hlen:((l.drop off).take (P.cellsOf t)).length=P.cellsOf t:=by rw[List.length_take,List.length_drop];omega
    have get:∀j,j<P.cellsOf t→(cs.extract off (off+P.cellsOf t)).getD j undef=cs.getD (off+j) undef∧((l.drop off).take (P.cellsOf t)).getD j .any=l.getD (off+j) .any:=by
      intro j hj
      refine⟨?_,by rw[n1_ _ _ _ hj,l0_]⟩
      rw[←w1_,←w1_,Array.toList_extract]
      simp only[List.getD,List.extract,List.getElem?_take,List.getElem?_drop]
      rw[if_pos (by omega)]
    by_cases hz0:P.cellsOf t=0
    ·refine .ag ?_ (fun j hj=>by omega) (fun j hj=>by omega)
     rw[hlen,hz0]
     simp only[Array.size_extract]
     omega
    ·refine .ag ?_ ?_ ?_
     ·rw[hlen]
      simp only[Array.size_extract]
      omega
     ·intro j hj
      rw[hlen]at hj
      rw[(get j hj).1]
      exact h1 _ (by omega)
     ·intro j hj
      rw[hlen]at hj
      rw[(get j hj).1,(get j hj).2]
      exact hr _ (by omega)
  ·rename_i hagg
   simp only[oi_]at h
   obtain⟨rfl,rfl⟩:=h
   have h2:=hc.1
   simp only[ck,List.length_drop]at h2
   have hlt:off<cs.size:=by omega
   refine⟨cs.getD off undef,?_,?_⟩
   ·unfold part
    simp[run_isAgg hagg,hlt]
   ·have e:(l.drop off).headD .any=l.getD off .any:=by
      rw[List.drop_eq_getElem_cons (by omega)]
      simp[List.getD,show off<l.length by omega]
    rw[e]
    exact hr off (by omega)
  ·simp at h
omit [Gv]in
theorem VR.agInv {o:Bool}{l:List AV}{v:Value}(h:VR P w ι o (.ag l) v):∃cs,v= .agg cs∧l.length=cs.size∧(∀j,j<l.length→(cs.getD j undef).oneCell'=true)∧∀j,j<l.length→VR P w ι o (l.getD j .any) (cs.getD j undef):=by
  cases h with
  |ag a b c=>exact⟨_,rfl,a,b,c⟩
omit [Gv]in
theorem VR.tuInv {o:Bool}{l:List AV}{v:Value}(h:VR P w ι o (.tu l) v):∃cs,v= .tuple cs∧l.length=cs.size∧∀j,j<l.length→VR P w ι o (l.getD j .any) (cs.getD j undef):=by
  cases h with
  |tu a b=>exact⟨_,rfl,a,b⟩
theorem newVar_ok {t:TypeId}{cs:List AV}{cur:Array Value}(hh:HpRel P w ι hp)(hl:cs.length=cur.size)(h1:∀j,j<cs.length→(cur.getD j undef).oneCell'=true)(hr:∀j,j<cs.length→VR P w ι true (cs.getD j .any) (cur.getD j undef)):
    ∃w' ι',w'=w.alloc (.cells cur t)∧Ext w ι w' ι'∧HpRel P w' ι' (hp++[some ⟨t,true,cs⟩])∧VR P w' ι' true (.pt hp.length 0) (.pointer (some ⟨w.heap.size,0,none⟩))∧∀g,g<w.heap.size→w'.heap[g]? =w.heap[g]? :=by
  obtain⟨e,h⟩:=hh.push (B:=⟨t,true,cs⟩) (s4_ w (.cells cur t)) (rowOK0 fun _ j hj=>h1 j (by rw[hl];exact hj)) (Nat.le_of_eq hl) h1 hr
  exact⟨_,_,rfl,e,h,.pt (by simp) (s4_ w _).new,fun g hg=>(s4_ w _).old hg⟩
omit [Gv]in
theorem fold_splice (off:Nat):∀(vs:List Value) (k:Nat) (c:Array Value),off+k+vs.length≤c.size→
    (vs.zipIdx k).foldl (fun cs (x:Value×Nat)=>cs.setIfInBounds (off+x.2) x.1) c=(c.toList.take (off+k)++vs++c.toList.drop (off+k+vs.length)).toArray:=by
  intro vs
  induction vs with
  |nil=>intro k c _;simp
  |cons x xs ih=>
   intro k c hk
   simp only[List.length_cons]at hk
   simp only[List.zipIdx_cons,List.foldl_cons]
   rw[ih (k+1) _ (by simp;omega)]
   congr 1
   have e:=list_seg_step c.toList (off+k) x xs (by simp;omega)
   simpa [Array.toList_setIfInBounds,Nat.add_assoc]using e
theorem fillB_ok {o:Bool}(hh:HpRel P w ι hp){pl:Nat→Option (Nat×Nat)} :∀(parts:List (Nat×AV)) (vparts:List (Nat×Value)) (cells cs:List AV) (cur:Array Value),parts.length=vparts.length→
    (∀k,k<parts.length→∃i a v,parts[k]? =some (i,a)∧vparts[k]? =some (i,v)∧VR P w ι o a v)→cells.length=cur.size→
    (∀j,j<cells.length→(cur.getD j undef).oneCell'=true)→(∀j,j<cells.length→VR P w ι o (cells.getD j .any) (cur.getD j undef))→e2_ hp pl cells parts=some cs→
    ∃cur',Instr.fill pl cur vparts=some cur'∧cs.length=cur'.size∧(∀j,j<cs.length→(cur'.getD j undef).oneCell'=true)∧∀j,j<cs.length→VR P w ι o (cs.getD j .any) (cur'.getD j undef)
  | [],[],cells,cs,cur,_,_,hl,h1,hr,h=>by
    simp only[e2_,Option.some.injEq]at h
    subst h
    exact⟨cur,rfl,hl,h1,hr⟩
  |(i,a)::rest,[],_,_,_,hlen,_,_,_,_,_=>by simp at hlen
  | [],_::_,_,_,_,hlen,_,_,_,_,_=>by simp at hlen
  |(i,a)::rest,(i',v)::vrest,cells,cs,cur,hlen,hp',hl,h1,hr,h=>by
   obtain⟨i0,a0,v0,e1,e2,hav⟩:=hp' 0 (by simp)
   simp only[List.getElem?_cons_zero,Option.some.injEq,Prod.mk.injEq]at e1 e2
   obtain⟨ei,ea⟩:=e1
   obtain⟨ei',ev⟩:=e2
   have e3:i=i':=ei.trans ei'.symm
   subst e3
   rw[←ea,←ev]at hav
   clear ei ea ei' ev
   unfold e2_ at h
   split at h
   ·simp at h
   ·rename_i off size hpl
    split at h
    ·simp at h
    ·rename_i ws hws
     split at h
     ·rename_i hfit
      obtain⟨c1,c2,c3,c4⟩:=cellsOf_rel hh hav hws
      have hvl:v.cells.toList.length=size:=by simpa using c1
      have hfit2:off+v.cells.toList.length≤cur.size:=by rw[hvl];omega
      have hcl:off+ws.length≤cells.length:=by omega
      have hal:=d5_ cells ws off hcl
      rw[c2]at hal
      have hss:=f5_ cur v.cells.toList off hfit2
      have hf:=fold_splice off v.cells.toList 0 cur (by rw[Nat.add_zero];exact hfit2)
      simp only[Nat.add_zero]at hf
      have hz:v.cells.zipIdx.foldl (fun cs (x:Value×Nat)=>cs.setIfInBounds (off+x.2) x.1) cur=(cur.toList.take off++v.cells.toList++cur.toList.drop (off+v.cells.toList.length)).toArray:=by
        rw[←hf,←Array.foldl_toList,Array.toList_zipIdx]
      obtain⟨cur',f1,f2,f3,f4⟩:=fillB_ok hh rest vrest _ cs _ (by simpa using hlen)
        (fun k hk=>by simpa using hp' (k+1) (by simpa using hk)) (by rw[hal,hss];exact hl)
        (by
          intro j hj
          rw[hal]at hj
          rw[p9_ _ _ _ _ hfit2,w1_]
          split
          ·exact h1 j hj
          ·split
           ·exact c3 _ (by omega)
           ·exact h1 j hj)
        (by
          intro j hj
          rw[hal]at hj
          have e:=spliceA_getD cells ws off j hcl
          rw[c2]at e
          rw[p9_ _ _ _ _ hfit2,w1_,e,hvl]
          split
          ·exact hr j hj
          ·split
           ·exact c4 _ (by omega)
           ·exact hr j hj) h
      refine⟨cur',?_,f2,f3,f4⟩
      unfold Instr.fill
      rw[hpl]
      simp only
      rw[if_neg (by simp[c1];omega)]
      rw[hz]
      exact f1
     ·simp at h
omit [Gv]in
theorem placeA_spec {t:TypeId}{pl:Nat→Option (Nat×Nat)}{parts:Array (Nat×Value)}{z:Value}{cur':Array Value}{i:TypeInfo}(h:placeA P t=some pl)(hs:sized P t=true)(hi:P.info? t=some i)(hz:i.zero=some z)(hf:Instr.fill pl z.cells parts.toList=some cur'):
    (Instr.build t parts).run P w= .ok (.agg cur') w:=by
  unfold placeA at h
  split at h
  ·rename_i fs hu
   simp only[Option.some.injEq]at h
   subst h
   unfold sized at hs
   rw[hu]at hs
   simp only[List.all_eq_true]at hs
   have gen:∀(g:Field→Sem (Nat×Nat)),(∀f,(P.info? f.type).isSome=true→(g f).run P w= .ok (f.offset,P.cellsOf f.type) w)→∀(l:List Field),(∀f∈l,(P.info? f.type).isSome=true)→(l.mapM g).run P w= .ok (l.map fun f=>(f.offset,P.cellsOf f.type)) w:=by
     intro g hg l
     induction l with
     |nil=>intro _;rfl
     |cons f r ih=>
      intro hl
      simp[List.mapM_cons,hg f (hl f (by simp)),ih (fun g hg=>hl g (by simp[hg]))]
   have hone:∀f:Field,(P.info? f.type).isSome=true→(Prod.mk f.offset<$>sizeOf f.type:Sem (Nat×Nat)).run P w= .ok (f.offset,P.cellsOf f.type) w:=by
     intro f hf
     obtain⟨j,hj⟩:=Option.isSome_iff_exists.1 hf
     simp[sizeOf,typeInfo,hj,Program.cellsOf]
   have hm:=gen _ hone fs.toList hs
   unfold Instr.build
   simp only[zeroValue,typeInfo,hi,hz]
   simp[run_underlying hu,hi,hz,hm]
   rw[Array.mapM_eq_mapM_toList]
   simp[hm,hf]
  ·rename_i n e hu
   simp only[Option.some.injEq]at h
   subst h
   unfold sized at hs
   rw[hu]at hs
   obtain⟨j,hj⟩:=Option.isSome_iff_exists.1 hs
   unfold Instr.build
   simp only[zeroValue,typeInfo,hi,hz]
   have hce:P.cellsOf e=j.size:=by simp[Program.cellsOf,hj]
   rw[hce]at hf
   simp[run_underlying hu,hi,hz,sizeOf,typeInfo,hj,hf]
  ·simp at h
omit [Gv]in
theorem isPtr_spec {t:TypeId}(h:isPtr P t=true):∃e,P.underlying t=some (.pointer e)∧P.cellsOf e≠0:=by
  unfold isPtr at h
  split at h
  ·exact⟨_,by assumption,by simpa using h⟩
  ·simp at h
omit [Gv]in
theorem run_eqGuard_ptr (op:BinOp)(t:TypeId)(x y:Operand)(a b:Option Addr):(eqGuard op t x y (.pointer a) (.pointer b)).run P w= .ok () w:=by
  unfold eqGuard
  split<;>rfl
omit [Gv]in
theorem run_ptr_eq {t:TypeId}(ht:isPtr P t=true)(x y:Operand)(a b:Option Addr)(r:Bool)(h:(a=none∧r=b.isNone)∨(∃a',a=some a'∧b=none∧r=false)∨∃a' b',a=some a'∧b=some b'∧a'.block=b'.block∧r=(a'==b')):
    (do eqGuard .eql t x y (.pointer a) (.pointer b);binOp .eql t (.pointer a) (.pointer b):Sem Value).run P w= .ok (.bool r) w∧
    (do eqGuard .neq t x y (.pointer a) (.pointer b);binOp .neq t (.pointer a) (.pointer b):Sem Value).run P w= .ok (.bool !r) w:=by
  obtain⟨e,hu,hz⟩:=isPtr_spec ht
  obtain⟨i,hi,hs⟩:=f8_ (P:=P) (Nat.pos_of_ne_zero hz)
  have key:∀d,(Op.equalIn (d+1) t (.pointer a) (.pointer b)).run P w= .ok r w:=by
    intro d
    unfold Op.equalIn
    rcases h with⟨rfl,rfl⟩|⟨a',rfl,rfl,rfl⟩|⟨a',b',rfl,rfl,hb,rfl⟩
    ·simp[run_underlying hu]
    ·simp[run_underlying hu]
    ·have:¬i.size=0:=by rw[hs];exact hz
     simp[run_underlying hu,sizeOf,typeInfo,hi,this,sameAddr,hb]
  have he:(Op.equal t (.pointer a) (.pointer b)).run P w= .ok r w:=key 9999
  constructor
  ·rw[Sem.run_bind,run_eqGuard_ptr,Result.andThen_ok]
   show(do pure (Value.bool (←Op.equal t (.pointer a) (.pointer b))):Sem Value).run P w=_
   rw[Sem.run_bind,he]
   rfl
  ·rw[Sem.run_bind,run_eqGuard_ptr,Result.andThen_ok]
   show(do pure (Value.bool (!(←Op.equal t (.pointer a) (.pointer b)))):Sem Value).run P w=_
   rw[Sem.run_bind,he]
   rfl
omit [Gv]in
theorem liesAt_self {t:TypeId}{count:Nat}(hc:0<P.cellsOf t)(hn:1≤count):liesAt P P.depth t count 0 t 1=true:=by
  obtain⟨d,hd⟩:∃d,P.depth=d+1:=⟨2*(P.types.size+Made.depth)+1,by unfold Program.depth;omega⟩
  have hs:sameLayout P P.depth t t=true:=by rw[hd];simp[sameLayout]
  have hr:rowAt P (fun x=>sameLayout P P.depth x t) P.depth t count 0 1=true:=by
    rw[hd]
    unfold rowAt
    rw[←hd]
    have hz:¬P.cellsOf t=0:=by omega
    simp[hz,hn,hs]
  rw[hd]
  unfold liesAt
  rw[hr]
  rfl
omit [Gv]in
theorem shape_of {g:Nat}{cur:Array Value}{e:TypeId}{fz:Nat×Nat}(h:w.heap[g]? =some (.cells cur e fz)):w.shape? g=some (e,cur.size):=by
  simp[World.shape?,h]
set_option maxHeartbeats 1000000 in
theorem op2_ok {ev:Operand→AV}{ρ:Operand→Value}{o:Oper}{cks:List Ck}{av:AV}{cmd:Cmd}(hρ:∀x∈o.op.operands,VR P w ι true (ev x) (ρ x))(hh:HpRel P w ι hp)
    (h:aOp2 P ev hp o=some (cks,av,cmd)) (hc:Ck.conj cks):v1_ P w ι ((execOp ρ o).run P w) av cmd hp:=by
  unfold aOp2 at h
  split at h
  ·
    rename_i t ho
    split at h
    ·rename_i z hz
     simp only[oi_]at h
     obtain⟨rfl,rfl,rfl⟩:=h
     obtain⟨i,zv,hi,hzv,rfl,hsz,_,hone⟩:=zeroOf_spec hz
     have get:∀j,j<zv.cells.size→zv.cells.getD j undef=zv.cells[j]! ∧(zv.cells.toList.map AV.c).getD j .any= .c (zv.cells[j]!):=by
       intro j hj
       simp[Array.getD,List.getD,hj]
     obtain⟨w',ι',rfl,e,h2,hv,hq⟩:=newVar_ok (t:=t) (cs:=zv.cells.toList.map AV.c) (cur:=zv.cells) hh (by simp)
       (fun j hj=>by
         have hj':j<zv.cells.size:=by simpa using hj
         rw[(get j hj').1,getElem!_pos zv.cells j hj']
         exact hone _ (by simp))
       (fun j hj=>by
         have hj':j<zv.cells.size:=by simpa using hj
         rw[(get j hj').1,(get j hj').2]
         exact .c)
     refine v1_.of_value (r:=Instr.alloc t true (.tuple #[])) (by simp only[execOp,ho]) ?_ e h2 hv hq
     simp[Instr.alloc,zeroValue,typeInfo,hi,hzv,newVar,newRow]
    ·simp at h
  ·
    rename_i t x ho
    split at h
    ·rename_i cs hcs
     simp only[oi_]at h
     obtain⟨rfl,rfl,rfl⟩:=h
     obtain⟨c1,c2,c3,c4⟩:=cellsOf_rel hh (hρ x (by simp[ho,Op.operands])) hcs
     obtain⟨w',ι',rfl,e,h2,hv,hq⟩:=newVar_ok (t:=t) (cs:=cs) (cur:=(ρ x).cells) hh (by omega) (fun j hj=>c3 j (by omega)) (fun j hj=>c4 j (by omega))
     refine v1_.of_value (r:=Instr.box t (ρ x)) (by simp only[execOp,ho]) ?_ e h2 hv hq
     simp[Instr.box,newVar,newRow]
    ·simp at h
  ·
    rename_i x ho
    have hx:=hρ x (by simp[ho,Op.operands])
    split at h
    ·rename_i b off ha
     rw[ha]at hx
     split at h
     ·rename_i B hb
      simp only[oi_]at h
      obtain⟨rfl,rfl,rfl⟩:=h
      obtain⟨g,cur,e,fz,hv,_,_⟩:=hx.ptShape (hh.notDead hb)
      refine .pure_ hh ?_ hx
      simp[execOp,ho,hv]
     ·simp at h
    ·rename_i l ha
     rw[ha]at hx
     simp only[oi_]at h
     obtain⟨rfl,rfl,rfl⟩:=h
     obtain⟨g,off,hv,_⟩:=hx.fpDrop 0
     refine .pure_ hh ?_ hx
     simp[execOp,ho,hv]
    ·rename_i f l ha
     rw[ha]at hx
     simp only[oi_]at h
     obtain⟨rfl,rfl,rfl⟩:=h
     obtain⟨cs,hv⟩:∃cs,ρ x= .func (.func f) #[] cs:=by
       generalize ρ x=vx at hx
       cases hx with
       |fn _ _=>exact⟨_,rfl⟩
     refine .pure_ (v:=ρ x) hh ?_ hx
     simp[execOp,ho,hv]
    ·simp at h
  ·
   rename_i t x i ho
   have hx:=hρ x (by simp[ho,Op.operands])
   split at h
   ·rename_i off' u hf
    obtain⟨fs,f,hu,hfi,rfl,rfl,hz⟩:=fieldOff_spec hf
    obtain⟨inf,hi,hs⟩:=f8_ hz
    have hz':¬inf.size=0:=by omega
    have hrun:∀g off,(Instr.fieldAt t (.pointer (some ⟨g,off,none⟩)) i).run P w= .ok (.pointer (some ⟨g,off+f.offset,none⟩)) w:=by
      intro g off
      unfold Instr.fieldAt fieldPlace
      simp[run_underlying hu,hfi,Instr.sureAddr,sizeOf,typeInfo,hi,hz',addr_add]
    split at h
    ·rename_i b off ha
     rw[ha]at hx
     split at h
     ·rename_i B hb
      simp only[oi_]at h
      obtain⟨rfl,rfl,rfl⟩:=h
      obtain⟨g,cur,e,fz,hv,hg,hcur⟩:=hx.ptShape (hh.notDead hb)
      refine v1_.of_value (by simp only[execOp,ho,hv]) (hrun g off) (Ext.refl _ _) hh (.pt hg hcur) ⟨rfl,rfl⟩
     ·simp at h
    ·rename_i l ha
     rw[ha]at hx
     simp only[oi_]at h
     obtain⟨rfl,rfl,rfl⟩:=h
     obtain⟨g,off,hv,hd⟩:=hx.fpDrop f.offset
     exact v1_.of_value (by simp only[execOp,ho,hv]) (hrun g off) (Ext.refl _ _) hh hd ⟨rfl,rfl⟩
    ·simp at h
   ·simp at h
  ·
   rename_i t x i ho
   have hx:=hρ x (by simp[ho,Op.operands])
   split at h
   ·rename_i off' u hf
    obtain⟨fs,f,hu,hfi,rfl,rfl,hz⟩:=fieldOff_spec hf
    split at h
    ·rename_i l ha
     rw[ha]at hx
     cases hld:ldAV P f.type (l.drop f.offset)with
     |none=>rw[hld]at h;simp at h
     |some r=>
      obtain⟨ks,v⟩:=r
      rw[hld]at h
      simp only[Option.map_some,Option.some.injEq,Prod.mk.injEq]at h
      obtain⟨rfl,rfl,rfl⟩:=h
      obtain⟨cs,hv,hl,h1,hr⟩:=hx.agInv
      obtain⟨u,hu1,hu2⟩:=run_part hl h1 hr hld hc
      refine v1_.of_value (r:=Instr.field t (.agg cs) i) (by simp only[execOp,ho,hv]) ?_ (Ext.refl _ _) hh hu2 ⟨rfl,rfl⟩
      unfold Instr.field
      simp[run_underlying hu,hfi,asAgg,hu1]
    ·simp at h
   ·simp at h
  ·
   rename_i t x i ho
   have hx:=hρ x (by simp[ho,Op.operands])
   have hi:=hρ i (by simp[ho,Op.operands])
   split at h
   ·rename_i n e ha
    obtain⟨hu,hz⟩:=arrOf_spec ha
    obtain⟨inf,hinf,hs⟩:=f8_ hz
    split at h
    ·rename_i l k i' hax hai
     rw[hax]at hx
     rw[hai]at hi
     cases hld:ldAV P e (l.drop (q2_ i'.toNat (P.cellsOf e)))with
     |none=>rw[hld]at h;simp at h
     |some r=>
      obtain⟨ks,v⟩:=r
      rw[hld]at h
      simp only[Option.map_some,Option.some.injEq,Prod.mk.injEq]at h
      obtain⟨rfl,rfl,rfl⟩:=h
      obtain⟨h0,h1',hc'⟩:=hc
      simp only[ck]at h0 h1'
      obtain⟨cs,hv,hl,h1,hr⟩:=hx.agInv
      obtain⟨u,hu1,hu2⟩:=run_part hl h1 hr hld hc'
      rw[t3_]at hu1
      refine v1_.of_value (r:=Instr.index t (.agg cs) (.int k i')) (by simp only[execOp,ho,hv,hi.cInv]) ?_ (Ext.refl _ _) hh hu2 ⟨rfl,rfl⟩
      unfold Instr.index
      simp[run_underlying hu,asIntOf,h0,h1',sizeOf,typeInfo,hinf,hs,hu1]
    ·simp at h
   ·simp at h
  ·
   rename_i t x i ho
   have hx:=hρ x (by simp[ho,Op.operands])
   have hi:=hρ i (by simp[ho,Op.operands])
   split at h
   ·rename_i n e ha
    obtain⟨hu,hz⟩:=arrOf_spec ha
    obtain⟨inf,hinf,hs⟩:=f8_ hz
    have hrun:∀g off (k:IntKind) (i':Int),0≤i'→i'<n→(Instr.indexAt t (.pointer (some ⟨g,off,none⟩)) (.int k i')).run P w= .ok (.pointer (some ⟨g,off+i'.toNat*P.cellsOf e,none⟩)) w:=by
      intro g off k i' h0 h1
      unfold Instr.indexAt
      simp[run_underlying hu,asIntOf,Instr.sureAddr,h0,h1,sizeOf,typeInfo,hinf,hs,addr_add]
    split at h
    ·rename_i b off k i' hax hai
     rw[hax]at hx
     rw[hai]at hi
     split at h
     ·rename_i B hb
      simp only[oi_]at h
      obtain⟨rfl,rfl,rfl⟩:=h
      obtain⟨h0,h1,_⟩:=hc
      simp only[ck]at h0 h1
      obtain⟨g,cur,e',fz,hv,hg,hcur⟩:=hx.ptShape (hh.notDead hb)
      rw[t3_]
      exact v1_.of_value (by simp only[execOp,ho,hv,hi.cInv]) (hrun g off k i' h0 h1) (Ext.refl _ _) hh (.pt hg hcur) ⟨rfl,rfl⟩
     ·simp at h
    ·rename_i l k i' hax hai
     rw[hax]at hx
     rw[hai]at hi
     simp only[oi_]at h
     obtain⟨rfl,rfl,rfl⟩:=h
     obtain⟨h0,h1,_⟩:=hc
     simp only[ck]at h0 h1
     obtain⟨g,off,hv,hd⟩:=hx.fpDrop (i'.toNat*P.cellsOf e)
     rw[t3_]
     exact v1_.of_value (by simp only[execOp,ho,hv,hi.cInv]) (hrun g off k i' h0 h1) (Ext.refl _ _) hh hd ⟨rfl,rfl⟩
    ·simp at h
   ·simp at h
  ·
   rename_i t parts ho
   split at h
   ·rename_i pl z hpl hz
    split at h
    ·rename_i hsz
     split at h
     ·rename_i cs hcs
      simp only[oi_]at h
      obtain⟨rfl,rfl,rfl⟩:=h
      obtain⟨i,zv,hi,hzv,rfl,_,_,hone⟩:=zeroOf_spec hz
      have get:∀j,j<zv.cells.size→zv.cells.getD j undef=zv.cells[j]! ∧(zv.cells.toList.map AV.c).getD j .any= .c (zv.cells[j]!):=by
        intro j hj
        simp[Array.getD,List.getD,hj]
      obtain⟨cur',f1,f2,f3,f4⟩:=fillB_ok (o:=true) hh _ (parts.map fun(i,x)=>(i,ρ x)).toList _ cs zv.cells (by simp)
        (fun k hk=>by
         simp only[List.length_map]at hk
         refine⟨(parts.toList[k]).1,ev (parts.toList[k]).2,ρ (parts.toList[k]).2,by rw[List.getElem?_map,List.getElem?_eq_getElem hk];rfl,by rw[Array.toList_map,List.getElem?_map,List.getElem?_eq_getElem hk];rfl,?_⟩
         exact hρ _ (by simp only[ho,Op.operands,List.mem_toArray,List.mem_map];exact⟨_,List.getElem_mem hk,rfl⟩))
        (by simp)
        (fun j hj=>by
          have hj':j<zv.cells.size:=by simpa using hj
          rw[(get j hj').1,getElem!_pos zv.cells j hj']
          exact hone _ (by simp))
        (fun j hj=>by
          have hj':j<zv.cells.size:=by simpa using hj
          rw[(get j hj').1,(get j hj').2]
          exact .c) (fillQ_fillA hcs)
      exact v1_.of_value (by simp only[execOp,ho]) (placeA_spec hpl hsz hi hzv f1) (Ext.refl _ _) hh (.ag f2 f3 f4) ⟨rfl,rfl⟩
     ·simp at h
    ·simp at h
   ·simp at h
  ·
   rename_i x i ho
   have hx:=hρ x (by simp[ho,Op.operands])
   split at h
   ·rename_i l ha
    rw[ha]at hx
    split at h
    ·rename_i v hv
     simp only[oi_]at h
     obtain⟨rfl,rfl,rfl⟩:=h
     obtain⟨cs,he,hl,hr⟩:=hx.tuInv
     have hlt:i<l.length:=(List.getElem?_eq_some_iff.1 hv).1
     have hlt':i<cs.size:=by omega
     have hrr:=hr i hlt
     have e1:l.getD i .any=v:=by simp[List.getD,hv]
     rw[e1]at hrr
     refine v1_.of_value (r:=Instr.extract (.tuple cs) i) (by simp only[execOp,ho,he]) (v:=cs.getD i undef) ?_ (Ext.refl _ _) hh hrr ⟨rfl,rfl⟩
     unfold Instr.extract
     simp[hlt',Array.getD]
    ·simp at h
   ·simp at h
  ·
   rename_i t x ho
   have hx:=hρ x (by simp[ho,Op.operands])
   split at h
   ·rename_i hs
    split at h
    ·rename_i s ha
     rw[ha]at hx
     simp only[oi_]at h
     obtain⟨rfl,rfl,rfl⟩:=h
     obtain⟨⟨s⟩⟩:=s
     obtain⟨e,h2⟩:=hh.pushIter (B:=⟨0,true,[.iter (sb ⟨⟨s⟩⟩) 0]⟩) rfl rfl (s4_ w (.stringIter ⟨⟨s⟩⟩ 0))
     refine v1_.of_value (by simp only[execOp,ho,hx.cInv]) (run_range_string w t _ (d7_ hs)) e h2 (.itr (by simp)) ?_
     intro g hg
     exact(s4_ w _).old hg
    ·simp at h
   ·simp at h
  ·
   rename_i f first cap ho
   split at h
   ·rename_i hz
    simp only[oi_]at h
    obtain⟨rfl,rfl,rfl⟩:=h
    have hf:first= #[]:=Array.eq_empty_of_size_eq_zero hz
    subst hf
    refine v1_.of_value (r:=Instr.makeFunc (.func f) (#[].map ρ) (cap.map ρ)) (by simp only[execOp,ho]) (v:= .func (.func f) #[] (cap.map ρ)) (by simp[Instr.makeFunc]) (Ext.refl _ _) hh ?_ ⟨rfl,rfl⟩
    refine .fn (by simp) fun j hj=>?_
    have hj':j<cap.size:=by simpa using hj
    have e1:(cap.toList.map ev).getD j .any=ev cap[j]:=by simp[List.getD,hj']
    have e2:(cap.map ρ).getD j undef=ρ cap[j]:=by simp[Array.getD,hj']
    rw[e1,e2]
    exact hρ _ (by simp[ho,Op.operands])
   ·simp at h
  ·
   rename_i op t x y yt ho
   have hx:=hρ x (by simp[ho,Op.operands])
   have hy:=hρ y (by simp[ho,Op.operands])
   split at h
   ·rename_i ht
    have fin:∀{a b:Option Addr} {r:Bool},ρ x= .pointer a→ρ y= .pointer b→((a=none∧r=b.isNone)∨(∃a',a=some a'∧b=none∧r=false)∨∃a' b',a=some a'∧b=some b'∧a'.block=b'.block∧r=(a'==b'))→
        (op= .eql→v1_ P w ι ((execOp ρ o).run P w) (.c (.bool r)) .nop hp)∧(op= .neq→v1_ P w ι ((execOp ρ o).run P w) (.c (.bool !r)) .nop hp):=by
      intro a b r ha hb hr
      obtain⟨r1,r2⟩:=run_ptr_eq (P:=P) (w:=w) ht x y a b r hr
      constructor
      ·rintro rfl
       exact v1_.of_value (by simp only[execOp,ho,ha,hb]) r1 (Ext.refl _ _) hh .c ⟨rfl,rfl⟩
      ·rintro rfl
       exact v1_.of_value (by simp only[execOp,ho,ha,hb]) r2 (Ext.refl _ _) hh .c ⟨rfl,rfl⟩
    split at h
    ·rename_i b off ha hb
     rw[ha]at hx;rw[hb]at hy
     split at h
     ·rename_i B hB
      simp only[oi_]at h
      obtain⟨rfl,rfl,rfl⟩:=h
      obtain⟨g,cur,e',fz,hv,hg,hcur⟩:=hx.ptShape (hh.notDead hB)
      exact(fin (r:=false) hv hy.cInv (.inr (.inl ⟨_,rfl,rfl,rfl⟩))).1 rfl
     ·simp at h
    ·rename_i b off ha hb
     rw[ha]at hx;rw[hb]at hy
     split at h
     ·rename_i B hB
      simp only[oi_]at h
      obtain⟨rfl,rfl,rfl⟩:=h
      obtain⟨g,cur,e',fz,hv,hg,hcur⟩:=hx.ptShape (hh.notDead hB)
      exact(fin (r:=false) hv hy.cInv (.inr (.inl ⟨_,rfl,rfl,rfl⟩))).2 rfl
     ·simp at h
    ·rename_i l ha hb
     rw[ha]at hx;rw[hb]at hy
     simp only[oi_]at h
     obtain⟨rfl,rfl,rfl⟩:=h
     obtain⟨g,off,hv,_⟩:=hx.fpDrop 0
     exact(fin (r:=false) hv hy.cInv (.inr (.inl ⟨_,rfl,rfl,rfl⟩))).1 rfl
    ·rename_i l ha hb
     rw[ha]at hx;rw[hb]at hy
     simp only[oi_]at h
     obtain⟨rfl,rfl,rfl⟩:=h
     obtain⟨g,off,hv,_⟩:=hx.fpDrop 0
     exact(fin (r:=false) hv hy.cInv (.inr (.inl ⟨_,rfl,rfl,rfl⟩))).2 rfl
    ·rename_i b off b' off' ha hb
     rw[ha]at hx;rw[hb]at hy
     split at h
     ·rename_i B hB
      split at h
      ·rename_i hbb
       subst hbb
       simp only[oi_]at h
       obtain⟨rfl,rfl,rfl⟩:=h
       obtain⟨g,cur,e',fz,hv,hg,hcur⟩:=hx.ptShape (hh.notDead hB)
       obtain⟨g2,cur2,e2,fz2,hv2,hg2,hcur2⟩:=hy.ptShape (hh.notDead hB)
       rw[hg]at hg2;cases hg2
       have er:(off==off')=((⟨g,off,none⟩:Addr)==⟨g,off',none⟩):=by
         rw[Bool.eq_iff_iff]
         simp
       rw[er]
       exact(fin hv hv2 (.inr (.inr ⟨_,_,rfl,rfl,rfl,rfl⟩))).1 rfl
      ·simp at h
     ·simp at h
    ·rename_i b off b' off' ha hb
     rw[ha]at hx;rw[hb]at hy
     split at h
     ·rename_i B hB
      split at h
      ·rename_i hbb
       subst hbb
       simp only[oi_]at h
       obtain⟨rfl,rfl,rfl⟩:=h
       obtain⟨g,cur,e',fz,hv,hg,hcur⟩:=hx.ptShape (hh.notDead hB)
       obtain⟨g2,cur2,e2,fz2,hv2,hg2,hcur2⟩:=hy.ptShape (hh.notDead hB)
       rw[hg]at hg2;cases hg2
       have er:(off==off')=((⟨g,off,none⟩:Addr)==⟨g,off',none⟩):=by
         rw[Bool.eq_iff_iff]
         simp
       rw[er]
       exact(fin hv hv2 (.inr (.inr ⟨_,_,rfl,rfl,rfl,rfl⟩))).2 rfl
      ·simp at h
     ·simp at h
    ·simp at h
   ·simp at h
  ·
   rename_i s d x ho
   have hx:=hρ x (by simp[ho,Op.operands])
   split at h
   ·rename_i t b hs hd ha
    rw[ha]at hx
    split at h
    ·rename_i B hb
     split at h
     ·rename_i hc0
      simp only[oi_]at h
      obtain⟨rfl,rfl,rfl⟩:=h
      obtain⟨g,cur,e,fz,hv,hg,hcur⟩:=hx.ptShape (hh.notDead hb)
      obtain⟨cur',fz',hcur',_,hlen,_⟩:=(hh.live hb).cells hg hcur
      obtain⟨inf,hinf,hsz⟩:=f8_ hc0.1
      refine v1_.of_value (by simp only[execOp,ho,hv]) (Lib.run_to_unsafe w (e:=B.e) (cells:=cur'.size) (j:=inf) ⟨g,0,none⟩ hs hd hinf (by omega) (shape_of hcur') (by show 0<cur'.size;omega)) (Ext.refl _ _) hh (.pt hg hcur) ⟨rfl,rfl⟩
     ·simp at h
    ·simp at h
   ·rename_i t b hs hd ha
    rw[ha]at hx
    split at h
    ·rename_i B hb
     split at h
     ·rename_i hc0
      simp only[oi_]at h
      obtain⟨rfl,rfl,rfl⟩:=h
      obtain⟨g,cur,e,fz,hv,hg,hcur⟩:=hx.ptShape (hh.notDead hb)
      obtain⟨cur',fz',hcur',_,hlen,_⟩:=(hh.live hb).cells hg hcur
      obtain⟨inf,hinf,hsz⟩:=f8_ hc0.1
      have hcnt:1≤cur'.size/P.cellsOf t:=(Nat.le_div_iff_mul_le hc0.1).2 (by omega)
      refine v1_.of_value (by simp only[execOp,ho,hv]) (Lib.run_from_unsafe w (e:=B.e) (cells:=cur'.size) (j:=inf) ⟨g,0,none⟩ hs hd hinf (shape_of hcur') (by rw[hc0.2.1];exact liesAt_self hc0.1 hcnt)) (Ext.refl _ _) hh (.pt hg hcur) ⟨rfl,rfl⟩
     ·simp at h
    ·simp at h
   ·simp at h
  ·
   rename_i args argTypes ho
   split at h
   ·rename_i x t ha ht
    have ha':=toList_one ha
    have ht':=toList_one ht
    subst ha';subst ht'
    have hx:=hρ x (by simp[ho,Op.operands,Call.operands])
    split at h
    ·rename_i e b n he hax
     rw[hax]at hx
     split at h
     ·rename_i B hb
      split at h
      ·rename_i hBe
       simp only[oi_]at h
       obtain⟨rfl,rfl,rfl⟩:=h
       have h0:=hc.1
       simp only[ck]at h0
       obtain⟨g,cap,cur,fz,hg,hcur,hn,hs,hm,hv⟩:=hx.slPlace (hh.live hb) h0
       simp only[Nat.zero_mul]at hv
       have hcap:¬cap=0:=by omega
       refine v1_.pure_ hh ?_ (.pt hg hcur)
       have hrun:(Builtin.unsafeSliceData_ #[t] o.type #[.slice (some ⟨g,0,none⟩) n cap]).run P w= .ok (.pointer (some ⟨g,0,none⟩)) w:=by
         show(if cap≠0 then pure (.pointer (some ⟨g,0,none⟩))else _:Sem Value).run P w=_
         rw[if_pos hcap]
         rfl
       simp[execOp,ho,resolve,invoke,builtin,hv,hrun]
      ·simp at h
     ·simp at h
    ·simp at h
   ·simp at h
  ·
   rename_i args argTypes ho
   split at h
   ·rename_i p n t1 t2 ha ht
    have ha':=i4_ ha
    have ht':=i4_ ht
    subst ha';subst ht'
    have hpv:=hρ p (by simp[ho,Op.operands,Call.operands])
    have hnv:=hρ n (by simp[ho,Op.operands,Call.operands])
    split at h
    ·rename_i hp1 hn1
     rw[hp1]at hpv
     rw[hn1]at hnv
     simp only[oi_]at h
     obtain⟨rfl,rfl,rfl⟩:=h
     have hrun:(Builtin.unsafeString_ #[t1,t2] o.type #[.pointer none,.int .i64 0]).run P w= .ok (str []) w:=by
       rfl
     refine v1_.pure_ hh ?_ .c
     simp[execOp,ho,resolve,invoke,builtin,hpv.cInv,hnv.cInv,hrun]
    ·simp at h
   ·simp at h
  ·simp at h
end Go.Proofs.YtmjldphagbobpaaDoor
namespace Go.Proofs.YtmjldphagbobpaaDoor
open IntKind (i64 u8 i32 u32 u64)
open Go.RowKit
variable [Gv] {P:Program} {w:World} {ι:Pl} {hp:Heap}
set_option maxHeartbeats 1000000 in
theorem op_ok {ev:Operand→AV}{ρ:Operand→Value}{o:Oper}{cks:List Ck}{av:AV}{cmd:Cmd}(hρ:∀x∈o.op.operands,VR P w ι true (ev x) (ρ x))(hh:HpRel P w ι hp)
    (h:aOp P ev hp o=some (cks,av,cmd)) (hc:Ck.conj cks):v1_ P w ι ((execOp ρ o).run P w) av cmd hp:=by
  unfold aOp at h
  split at h
  ·rename_i x ho
   simp only[oi_]at h
   obtain⟨rfl,rfl,rfl⟩:=h
   exact .pure_ hh (by simp[execOp,ho]) (hρ x (by simp[ho,Op.operands]))
  ·rename_i x ho
   simp only[oi_]at h
   obtain⟨rfl,rfl,rfl⟩:=h
   exact .pure_ hh (by simp[execOp,ho]) (hρ x (by simp[ho,Op.operands]))
  ·rename_i c a b ho
   have hcc:=hρ c (by simp[ho,Op.operands])
   split at h
   ·rename_i hb
    simp only[oi_]at h
    obtain⟨rfl,rfl,rfl⟩:=h
    rw[hb]at hcc
    exact .pure_ hh (by simp[execOp,ho,hcc.cInv,asBool]) (hρ a (by simp[ho,Op.operands]))
   ·rename_i hb
    simp only[oi_]at h
    obtain⟨rfl,rfl,rfl⟩:=h
    rw[hb]at hcc
    exact .pure_ hh (by simp[execOp,ho,hcc.cInv,asBool]) (hρ b (by simp[ho,Op.operands]))
   ·simp at h
  ·rename_i op t x y yt ho
   have hx:=hρ x (by simp[ho,Op.operands])
   have hy:=hρ y (by simp[ho,Op.operands])
   split at h
   ·rename_i a b ha hb
    rw[ha]at hx
    rw[hb]at hy
    split at h
    ·rename_i v hv
     simp only[oi_]at h
     obtain⟨rfl,rfl,rfl⟩:=h
     refine v1_.of_value (r:=do eqGuard op t x y a b;binOp op t a b) (by simp only[execOp,ho,hx.cInv,hy.cInv]) (sBin_run w op t x y a b v hv) (Ext.refl _ _) hh .c ⟨rfl,rfl⟩
    ·split at h
     ·rename_i k v hv
      simp only[oi_]at h
      obtain⟨rfl,rfl,rfl⟩:=h
      exact v1_.of_value (r:=do eqGuard op t x y a b;binOp op t a b) (by simp only[execOp,ho,hx.cInv,hy.cInv]) (fBin_run w op t x y a b v k hv hc.1) (Ext.refl _ _) hh .c ⟨rfl,rfl⟩
     ·exact b2_ hρ hh h
   ·simp at h
  ·rename_i t x i ho
   have hx:=hρ x (by simp[ho,Op.operands])
   have hi:=hρ i (by simp[ho,Op.operands])
   split at h
   ·rename_i s k n hs ha hb
    rw[ha]at hx
    rw[hb]at hi
    simp only[oi_]at h
    obtain⟨rfl,rfl,rfl⟩:=h
    obtain⟨h0,h1,_⟩:=hc
    exact v1_.of_value (by simp only[execOp,ho,hx.cInv,hi.cInv]) (index_ok (k:=k) (d7_ hs) h0 h1) (Ext.refl _ _) hh .c ⟨rfl,rfl⟩
   ·exact b2_ hρ hh h
  ·rename_i t x lo hi mx ho
   split at h
   ·have hx:=hρ x (by simp[ho,Op.operands])
    have hlo:∀y∈lo,VR P w ι true (ev y) (ρ y):=fun y hy=>hρ y (by simp[ho,Op.operands];exact .inr (.inl hy))
    have hhi:∀y∈hi,VR P w ι true (ev y) (ρ y):=fun y hy=>hρ y (by simp[ho,Op.operands];exact .inr (.inr hy))
    have hex:execOp ρ o=(do pure (Next.value (←Instr.sliceAt t (ρ x) (lo.map ρ) (hi.map ρ) none))):=by simp only[execOp,ho,Option.map_none]
    unfold sliceA at h
    split at h
    ·rename_i hs
     split at h
     ·rename_i s ha
      rw[ha]at hx
      split at h
      ·rename_i l hh' hb
       simp only[oi_]at h
       obtain⟨rfl,rfl,rfl⟩:=h
       obtain⟨h0,h1,h2,_⟩:=hc
       obtain⟨b1,b2⟩:=lohi_none hlo hhi hb
       rw[hx.cInv]at hex
       exact v1_.of_value hex (slice_string_ok (d7_ hs) b1 b2 h0 h1 h2) (Ext.refl _ _) hh .c ⟨rfl,rfl⟩
      ·simp at h
     ·simp at h
    ·split at h
     ·rename_i e he
      obtain⟨ht,hz0,i',hi',_⟩:=m5_ he
      split at h
      ·rename_i b off n ha
       rw[ha]at hx
       split at h
       ·rename_i B l hh' hB hb
        split at h
        ·rename_i hBe
         simp only[oi_]at h
         obtain⟨rfl,rfl,rfl⟩:=h
         obtain⟨h0,h1,h2,_⟩:=hc
         simp only[ck]at h0 h1 h2
         obtain⟨b1,b2⟩:=lohi_none hlo hhi hb
         obtain⟨a,cap,hv,hn,hr⟩:=hx.slCut (hh.notDead hB) (hh.live hB) (lo:=l.toNat) (hi:=hh'.toNat) (by omega) (by omega)
         rw[hv]at hex
         rw[hBe]at hr
         exact v1_.of_value hex (slice_slice_ok ht ⟨i',hi'⟩ b1 b2 h0 h1 h2 hn) (Ext.refl _ _) hh hr ⟨rfl,rfl⟩
        ·simp at h
       ·simp at h
      ·rename_i s n L ha
       rw[ha]at hx
       split at h
       ·rename_i l hh' hb
        split at h
        ·rename_i hs
         simp only[oi_]at h
         obtain⟨rfl,rfl,rfl⟩:=h
         obtain⟨h0,h1,h2,_⟩:=hc
         simp only[ck]at h0 h1 h2
         obtain⟨b1,b2⟩:=lohi_none hlo hhi hb
         obtain⟨a,cap,hv,hn,hr⟩:=hx.fsCut (lo:=l.toNat) (hi:=hh'.toNat) (by omega) (by omega)
         rw[hv]at hex
         rw[t3_,t3_]
         rw[hs]at hr ⊢
         exact v1_.of_value hex (slice_slice_ok ht ⟨i',hi'⟩ b1 b2 h0 h1 h2 hn) (Ext.refl _ _) hh hr ⟨rfl,rfl⟩
        ·simp at h
       ·simp at h
      ·simp at h
     ·simp at h
   ·simp at h
  ·rename_i t x i ho
   obtain⟨rfl,r,hr,hv⟩:=idxAddr_ok hh (hρ x (by simp[ho,Op.operands])) (hρ i (by simp[ho,Op.operands])) h hc
   exact v1_.of_value (by simp only[execOp,ho]) hr (Ext.refl _ _) hh hv ⟨rfl,rfl⟩
  ·rename_i t x ho
   have hx:=hρ x (by simp[ho,Op.operands])
   have hex:execOp ρ o=(do pure (Next.value (←Instr.loadAt t (ρ x)))):=by simp only[execOp,ho]
   split at h
   ·rename_i b off ha
    rw[ha]at hx
    split at h
    ·rename_i B hB
     cases hld:ldAV P t (B.cells.drop off)with
     |none=>rw[hld]at h;simp at h
     |some r=>
      obtain⟨ks,v⟩:=r
      rw[hld]at h
      simp only[Option.map_some,Option.some.injEq,Prod.mk.injEq]at h
      obtain⟨rfl,rfl,rfl⟩:=h
      generalize hρx:ρ x=vx at hx hex
      cases hx with
      |ptDead hd=>exact absurd hd (hh.notDead hB)
      |pt hg hh0=>
       rename_i g _ _ _
       obtain⟨cur,fz,hcur,hfz,hlen,hone,hrel,hcell⟩:=(hh.live hB).cells hg hh0
       obtain⟨u,hu1,hu2⟩:=run_load_row (P:=P) (w:=w) (ι:=ι) (g:=g) (off:=off) (us:=fun j=>cur.getD (off+j) undef)
         ⟨fun j hj=>by simp only[List.length_drop]at hj;exact hcell _ (by omega),fun j hj=>by simp only[List.length_drop]at hj;exact hone _ (by omega),
           fun j hj=>by simp only[List.length_drop]at hj;rw[l0_];exact(hrel _ (by omega)).open_⟩ hld hc
       exact v1_.of_value hex hu1 (Ext.refl _ _) hh hu2 ⟨rfl,rfl⟩
    ·simp at h
   ·rename_i l ha
    rw[ha]at hx
    cases hld:ldAV P t l with
    |none=>rw[hld]at h;simp at h
    |some r=>
     obtain⟨ks,v⟩:=r
     rw[hld]at h
     simp only[Option.map_some,Option.some.injEq,Prod.mk.injEq]at h
     obtain⟨rfl,rfl,rfl⟩:=h
     generalize hρx:ρ x=vx at hx hex
     cases hx with
     |fp hg hno hcl ho1 hr=>
      obtain⟨u,hu1,hu2⟩:=run_load_row (P:=P) (w:=w) (ι:=ι) ⟨hcl,ho1,fun j hj=>(hr j hj).open_⟩ hld hc
      exact v1_.of_value hex hu1 (Ext.refl _ _) hh hu2 ⟨rfl,rfl⟩
   ·simp at h
  ·rename_i t a x ho
   obtain⟨w',hr,he,hh',rfl⟩:=store_ok hh (hρ a (by simp[ho,Op.operands])) (hρ x (by simp[ho,Op.operands])) h hc
   exact⟨.skip,w',ι,undef,by simp[execOp,ho,hr],.inr ⟨rfl,rfl⟩,he,hh',.any,by unfold storeA at h;(repeat' split at h)<;>first|(simp at h;done)|(simp only[oi_]at h;rw[←h.2.2];trivial)⟩
  ·rename_i args argTypes ho
   split at h
   ·rename_i x t ha ht
    have ha':=toList_one ha
    have ht':=toList_one ht
    subst ha';subst ht'
    obtain⟨rfl,u,hu,hv⟩:=len_ok (ty:=o.type) hh (hρ x (by simp[ho,Op.operands,Call.operands])) h
    exact v1_.pure_ hh (by simp[execOp,ho,resolve,invoke,builtin,hu]) hv
   ·simp at h
  ·rename_i args argTypes ho
   split at h
   ·rename_i s x t u ha ht
    have ha':=i4_ ha
    have ht':=i4_ ht
    subst ha';subst ht'
    split at h
    ·simp at h
    ·rename_i d hd hu
     obtain⟨v,w',ι',hr,he,hh',hv,hq⟩:=append_ok (ty:=o.type) hu (fun k hk=>hd k hk) hh (hρ s (by simp[ho,Op.operands,Call.operands])) (hρ x (by simp[ho,Op.operands,Call.operands])) h hc
     exact⟨.value v,w',ι',v,by simp[execOp,ho,resolve,invoke,builtin,hr],.inl rfl,he,hh',hv,hq⟩
    ·simp at h
   ·simp at h
  ·rename_i args argTypes ho
   split at h
   ·rename_i s x t u ha ht
    have ha':=i4_ ha
    have ht':=i4_ ht
    subst ha';subst ht'
    obtain⟨v,w',ι',hr,he,hh',hv,hq⟩:=copy_ok (u:=u) (ty:=o.type) hh (hρ s (by simp[ho,Op.operands,Call.operands])) (hρ x (by simp[ho,Op.operands,Call.operands])) h hc
    exact⟨.value v,w',ι',v,by simp[execOp,ho,resolve,invoke,builtin,hr],.inl rfl,he,hh',hv,hq⟩
   ·simp at h
  ·rename_i args argTypes ho
   split at h
   ·rename_i s x t u ha ht
    have ha':=i4_ ha
    have ht':=i4_ ht
    subst ha';subst ht'
    obtain⟨v,w',ι',hr,he,hh',hv,hq⟩:=ustr_ok (u:=u) (ty:=o.type) hh (hρ s (by simp[ho,Op.operands,Call.operands])) (hρ x (by simp[ho,Op.operands,Call.operands])) h hc
    exact⟨.value v,w',ι',v,by simp[execOp,ho,resolve,invoke,builtin,hr],.inl rfl,he,hh',hv,hq⟩
   ·simp at h
  ·rename_i s d x ho
   split at h
   ·rename_i r hr
    cases h
    obtain⟨v,w',ι',hr,he,hh',hv,hq⟩:=conv_ok hh (hρ x (by simp[ho,Op.operands])) hr hc
    exact v1_.of_value (by simp only[execOp,ho]) hr he hh' hv hq
   ·split at h
    ·rename_i v hv
     simp only[oi_]at h
     obtain⟨rfl,rfl,rfl⟩:=h
     exact v1_.of_value (by simp only[execOp,ho]) (fCnv_run (hρ x (by simp[ho,Op.operands])) hv) (Ext.refl _ _) hh .c ⟨rfl,rfl⟩
    ·exact b2_ hρ hh h
  ·rename_i t len parts ho
   split at h
   ·rename_i e he
    split at h
    ·rename_i z hz
     split at h
     ·rename_i hcond
      split at h
      ·rename_i cs hcs
       simp only[oi_]at h
       obtain⟨rfl,rfl,rfl⟩:=h
       rw[t3_]at hcond
       obtain⟨v,w',ι',hr,he',hh',hv,hq⟩:=build_ok (len:=len) (vparts:=parts.map fun(i,x)=>(i,ρ x)) hh he hz hcond.1 hcond.2 (by simp)
         (fun k hk=>by
           simp only[List.length_map]at hk
           refine⟨(parts.toList[k]).1,ev (parts.toList[k]).2,ρ (parts.toList[k]).2,by rw[List.getElem?_map,List.getElem?_eq_getElem hk];rfl,by rw[Array.toList_map,List.getElem?_map,List.getElem?_eq_getElem hk];rfl,?_⟩
           exact hρ _ (by simp only[ho,Op.operands,List.mem_toArray,List.mem_map];exact⟨_,List.getElem_mem hk,rfl⟩)) (fillQ_fillA hcs)
       exact v1_.of_value (by simp only[execOp,ho]) hr he' hh' hv hq
      ·simp at h
     ·simp at h
    ·simp at h
   ·simp at h
  ·rename_i t l c ho
   split at h
   ·rename_i e k l' k' c' he hl hcc
    have hL:=hρ l (by simp[ho,Op.operands])
    have hC:=hρ c (by simp[ho,Op.operands])
    rw[hl]at hL
    rw[hcc]at hC
    split at h
    ·rename_i z hz
     split at h
     ·rename_i hzl
      simp only[oi_]at h
      obtain⟨rfl,rfl,rfl⟩:=h
      obtain⟨h0,h1,h2,h3,_⟩:=hc
      obtain⟨v,w',ι',hr,he',hh',hv,hq⟩:=make_ok (k:=k) (k':=k') hh he hz hzl h0 h1 h2 h3
      exact v1_.of_value (by simp only[execOp,ho,hL.cInv,hC.cInv]) hr he' hh' hv hq
     ·simp at h
    ·simp at h
   ·simp at h
  ·exact b2_ hρ hh h
omit [Gv]in
theorem withCells_self (cmd:Cmd):cmd.withCells cmd.cells=cmd:=by cases cmd<;>rfl
omit [Gv]in
theorem useHint_ok {sym:Bool}{h:Option Hint}{r:Res}{v:AV}{cmd:Cmd}{p:List Prop}(e:useHint sym h r=some (v,cmd,p))(hp':z7_ p):Ck.conj r.1∧v=r.2.1∧cmd=r.2.2:=by
  unfold useHint at e
  split at e
  ·split at e
   ·simp only[oi_]at e
    obtain⟨rfl,rfl,rfl⟩:=e
    exact⟨Ck.conj_of_props _ hp',rfl,rfl⟩
   ·split at e
    ·rename_i hall
     simp only[oi_]at e
     obtain⟨rfl,rfl,_⟩:=e
     exact⟨Ck.conj_of_all _ hall,rfl,rfl⟩
    ·simp at e
  ·split at e
   ·simp only[oi_]at e
    obtain⟨rfl,rfl,rfl⟩:=e
    obtain⟨h1,h2⟩:=u5_ hp'
    exact⟨Ck.conj_of_props _ h1,(avEq_eq h2.1).symm,rfl⟩
   ·simp only[oi_]at e
    obtain⟨rfl,rfl,rfl⟩:=e
    obtain⟨h1,h2⟩:=u5_ hp'
    exact⟨Ck.conj_of_props _ h1,(avEq_eq h2.1).symm,by rw[←h2.2.1,withCells_self]⟩
omit [Gv]in
theorem wrap_in (k:IntKind)(z:Int)(h1:k.min≤z)(h2:z≤k.max):k.wrap z=z:=by
  cases k<;>simp only[IntKind.min,IntKind.max,IntKind.signed,IntKind.bits]at h1 h2<;>simp only[IntKind.wrap,IntKind.bits,IntKind.signed]<;>simp at h1 h2 ⊢ <;>first|omega|(split<;>omega)
omit [Gv]in
theorem aOpS0_op {hs:Hints}{ev:Operand→AV}{hp:Heap}{o:Oper}{cks:List Ck}{av:AV}{cmd:Cmd}(h:aOpS0 P hs ev hp o=some (cks,av,cmd))(hc:Ck.conj cks):(∃it,o.op= .next it true∧nextA hp (ev it) (dirOf (j6_ hs o.dst))=some (cks,av,cmd))∨(∃cks',o9_ P ev o=some (cks',av,cmd))∨∃cks',e4_ P ev hp o=some (cks',av,cmd)∧Ck.conj cks':=by
  unfold aOpS0 at h
  split at h
  ·rename_i it ho
   exact .inl ⟨it,ho,h⟩
  ·split at h
   ·exact .inr (.inl ⟨_,h⟩)
   ·exact .inr (.inr ⟨_,h,hc⟩)
  refine .inr (.inr ?_)
  split at h
  ·split at h
   ·rename_i op _ x y _ ho
    split at h
    ·rename_i k a k' b ha hb
     split at h
     ·rename_i z hz
      split at h
      ·rename_i hk
       subst hk
       simp only[oi_]at h
       obtain⟨rfl,rfl,rfl⟩:=h
       obtain⟨h1,h2,_⟩:=hc
       have hw:=wrap_in k z h1 h2
       refine⟨[],?_,trivial⟩
       have hx:aOp2 P ev hp o=none:=by unfold aOp2;rw[ho];simp only[ha,hb];split<;>rfl
       unfold e4_
       rw[hx]
       unfold aOp
       rw[ho]
       simp only[ha,hb]
       unfold arith at hz
       split at hz<;>simp only[Option.some.injEq,reduceCtorEq]at hz<;>subst hz<;>simp[sBin,hw]
      ·simp at h
     ·exact⟨_,h,hc⟩
    ·rename_i a b ha hb
     split at h
     ·simp only[oi_]at h
      obtain⟨rfl,rfl,rfl⟩:=h
      obtain⟨h1,_⟩:=hc
      refine⟨[],?_,trivial⟩
      have h1':¬((a.size+b.size:Nat):Int)>i64.max:=by
        have h2:(sb a).length+(sb b).length≤9223372036854775807:=h1
        rw[h8_,h8_]at h2
        simp[IntKind.max,IntKind.signed,IntKind.bits];omega
      have he:a++b=⟨⟨sb a++sb b⟩⟩:=by
        apply ByteArray.ext
        apply Array.toList_inj.1
        simp[sb]
      have hx:aOp2 P ev hp o=none:=by unfold aOp2;rw[ho];simp only[ha,hb];split<;>rfl
      unfold e4_
      rw[hx]
      unfold aOp
      rw[ho]
      simp only[ha,hb,sBin,fBin,o9_,ho,Op.operands]
      have h2:¬(9223372036854775807:Int)<(a.size:Int)+(b.size:Int):=by simpa [IntKind.max,IntKind.signed,IntKind.bits]using h1'
      simp[ha,hb,AV.isC,AV.conc,execOp,ho,eqGuard,binOp,Op.stringOp,he,str]
      rw[if_neg h2]
      rfl
     ·exact⟨_,h,hc⟩
    ·exact⟨_,h,hc⟩
   ·exact⟨_,h,hc⟩
  ·exact⟨_,h,hc⟩
omit [Gv]in
theorem divA_op {ev:Operand→AV}{o:Oper}{op:BinOp}{t:TypeId}{x y:Operand}{g:TypeId}{cks:List Ck}{av:AV}{cmd:Cmd}(ho:o.op= .binOp op t x y g)(h:divA op (ev x) (ev y)=some (cks,av,cmd))(hc:Ck.conj cks):o9_ P ev o=some ([],av,cmd):=by
  unfold divA at h
  split at h
  ·rename_i k a k' b ha hb
   split at h
   ·rename_i hk
    subst hk
    split at h
    ·simp only[oi_]at h
     obtain⟨rfl,rfl,rfl⟩:=h
     have h0:b≠0:=hc.1
     simp[o9_,ho,Op.operands,ha,hb,AV.isC,AV.conc,execOp,eqGuard,binOp,Op.intDiv,h0]
     rfl
    ·simp only[oi_]at h
     obtain⟨rfl,rfl,rfl⟩:=h
     have h0:b≠0:=hc.1
     simp[o9_,ho,Op.operands,ha,hb,AV.isC,AV.conc,execOp,eqGuard,binOp,Op.intDiv,h0]
     rfl
    ·cases h
   ·cases h
  ·cases h
omit [Gv]in
theorem aOpS_op {hs:Hints}{ev:Operand→AV}{hp:Heap}{o:Oper}{cks:List Ck}{av:AV}{cmd:Cmd}(h:e5_ P hs ev hp o=some (cks,av,cmd))(hc:Ck.conj cks):(∃it,o.op= .next it true∧nextA hp (ev it) (dirOf (j6_ hs o.dst))=some (cks,av,cmd))∨(∃cks',o9_ P ev o=some (cks',av,cmd))∨∃cks',e4_ P ev hp o=some (cks',av,cmd)∧Ck.conj cks':=by
  unfold e5_ at h
  split at h
  ·rename_i op t x y g ho
   split at h
   ·exact .inr (.inl ⟨[],divA_op ho h hc⟩)
   ·exact aOpS0_op h hc
  ·exact aOpS0_op h hc
theorem next_ok {ev:Operand→AV}{ρ:Operand→Value}{o:Oper}{it:Operand}{dir:Option Bool}{cks:List Ck}{av:AV}{cmd:Cmd}(ho:o.op= .next it true)(hx:VR P w ι true (ev it) (ρ it))(hh:HpRel P w ι hp)
    (h:nextA hp (ev it) dir=some (cks,av,cmd)) (hc:Ck.conj cks):v1_ P w ι ((execOp ρ o).run P w) av cmd hp:=by
  have hex:execOp ρ o=(do pure (Next.value (←Instr.next (ρ it) true o.type))):=by simp only[execOp,ho]
  unfold nextA at h
  split at h
  ·rename_i b ha
   rw[ha]at hx
   split at h
   ·rename_i B hb
    split at h
    ·rename_i s pos hcells
     have hbl:b<hp.length:=(List.getElem?_eq_some_iff.1 hb).1
     obtain⟨g,hg,hgs,hop⟩:∃g,ι b= .here g∧w.heap[g]? =some (.stringIter ⟨⟨s⟩⟩ pos)∧B.op=true:=by
       rcases hh.live hb with⟨_,k⟩|⟨g,cur,fz,_,_,_,_,_,k⟩|⟨g,s',pos',k1,k2,k3,k4⟩
       ·rw[hcells]at k;simp at k
       ·have:=k 0 (by rw[hcells];simp)
        rw[hcells]at this
        generalize B.op=o1 at this
        generalize cur.getD 0 undef=u1 at this
        simp only[List.getD_cons_zero]at this
        cases this
       ·rw[hcells]at k2
        simp only[List.cons.injEq,AV.iter.injEq,and_true]at k2
        obtain⟨rfl,rfl⟩:=k2
        exact⟨g,k1,k3,k4⟩
     have hv:ρ it= .pointer (some ⟨g,0,none⟩):=by
       generalize ρ it=vx at hx
       cases hx with
       |itrDead hd=>rw[hg]at hd;cases hd
       |itr hg'=>rw[hg]at hg';cases hg';rfl
     have hsz:(⟨⟨s⟩⟩:ByteArray).size=s.length:=by rw[←h8_];rfl
     rw[hv]at hex
     split at h
     ·simp only[oi_]at h
      obtain⟨rfl,rfl,rfl⟩:=h
      have h0:=hc.1
      simp only[ck]at h0
      obtain⟨e,h2⟩:=hh.writeIter (w':=w.iterAt g ⟨⟨s⟩⟩ (pos+(Utf8.decode ⟨⟨s⟩⟩ pos).2)) (B:= { B with cells:=[.iter s (pos+(Utf8.decode ⟨⟨s⟩⟩ pos).2)]}) hg hbl hgs rfl hop rfl rfl rfl (Lib.iterAt_size _ _ _ _) (Lib.iterAt_heap _ _ _ _ _ hgs) (fun k hk=>Lib.iterAt_other _ _ _ _ _ hk)
      refine v1_.of_value hex (Lib.run_next_any_at w g ⟨⟨s⟩⟩ pos o.type hgs (by rw[hsz];exact h0)) e h2 (.tu rfl ?_) trivial
      intro j hj
      match j,hj with
      |0,_=>exact .c
      |1,_=>exact .c
      |2,_=>exact .c
     ·simp only[oi_]at h
      obtain⟨rfl,rfl,rfl⟩:=h
      have h0:=hc.1
      simp only[ck]at h0
      refine v1_.of_value hex (Lib.run_next_end_at w g ⟨⟨s⟩⟩ pos o.type hgs (by rw[hsz];omega)) (Ext.refl _ _) hh (.tu rfl ?_) ⟨rfl,rfl⟩
      intro j hj
      match j,hj with
      |0,_=>exact .c
    ·simp at h
   ·simp at h
  ·simp at h
theorem opS_ok {hs:Hints}{ev:Operand→AV}{ρ:Operand→Value}{o:Oper}{cks:List Ck}{av:AV}{cmd:Cmd}(hρ:∀x∈o.op.operands,VR P w ι true (ev x) (ρ x))(hh:HpRel P w ι hp)
    (h:e5_ P hs ev hp o=some (cks,av,cmd)) (hc:Ck.conj cks):v1_ P w ι ((execOp ρ o).run P w) av cmd hp:=by
  rcases aOpS_op h hc with⟨it,ho,h⟩|⟨_,h⟩|⟨cks',h,hc⟩
  ·exact next_ok ho (hρ it (by simp[ho,Op.operands])) hh h hc
  ·exact b2_ hρ hh h
  ·unfold e4_ at h
   split at h
   ·rename_i r hr
    cases h
    exact op2_ok hρ hh hr hc
   ·exact op_ok hρ hh h hc
structure FrRel (P:Program) (w:World) (ι:Pl) (fr:List AV) (tmps:Array Value):Prop where
  len:fr.length=tmps.size
  rel:∀t,VR P w ι true (fr.getD t .any) (tmps.getD t undef)
omit [Gv]in
theorem FrRel.mono {w':World}{ι':Pl}{fr:List AV}{tmps:Array Value}(h:FrRel P w ι fr tmps)(e:Ext w ι w' ι'):FrRel P w' ι' fr tmps:=⟨h.len,fun t=>(h.rel t).mono e⟩
omit [Gv]in
theorem set_getD (fr:List AV)(d t:Nat)(a:AV):(List.set fr d a).getD t .any=if d=t∧t<fr.length then a else fr.getD t .any:=by
  simp only[List.getD,List.getElem?_set]
  by_cases h1:d=t
  ·subst h1
   by_cases h2:d<fr.length
   ·simp[h2]
   ·simp[h2]
  ·simp[h1]
omit [Gv]in
theorem setA_getD (c:Array Value)(d t:Nat)(v:Value):(c.setIfInBounds d v).getD t undef=if d=t∧t<c.size then v else c.getD t undef:=by
  rw[←w1_,←w1_,Array.toList_setIfInBounds]
  simp only[List.getD,List.getElem?_set,Array.length_toList]
  by_cases h1:d=t
  ·subst h1
   by_cases h2:d<c.size
   ·simp[h2]
   ·simp[h2]
  ·simp[h1]
omit [Gv]in
theorem FrRel.set {fr:List AV}{tmps:Array Value}(h:FrRel P w ι fr tmps){a:AV}{v:Value}(hv:VR P w ι true a v)(d:Nat):FrRel P w ι (List.set fr d a) (tmps.setIfInBounds d v):=by
  refine⟨by simp[h.len],fun t=>?_⟩
  rw[set_getD,setA_getD,h.len]
  split
  ·exact hv
  ·exact h.rel t
structure StRel (P:Program) (w:World) (ι:Pl) (S:St) (a:Act):Prop where
  fr:FrRel P w ι S.fr a.tmps
  hp:HpRel P w ι S.hp
  df:a.defers=[]
theorem gEv_ok (hh:HpRel P w ι hp)(g:Nat):VR P w ι true (gEv g) (.pointer (some ⟨g,0,none⟩)):=by
  unfold gEv
  split
  ·rename_i l h;exact(hh.gl g l h).open_
  ·exact .any
theorem StRel.ev {S:St}{a:Act}(h:StRel P w ι S a)(x:Operand):VR P w ι true (aEv S.fr x) (a.eval x):=by
  cases x with
  |tmp t=>
   show VR P w ι true (getL S.fr t) _
   rw[getL_eq]
   exact h.fr.rel t
  |const v=>exact .c
  |global g=>exact gEv_ok h.hp g
  |func f=>exact .c
theorem StRel.put {S:St}{a:Act}(h:StRel P w ι S a){x:AV}{v:Value}(hv:VR P w ι true x v)(d:Option Tmp):StRel P w ι (S.put d x) (a.put d v):=by
  cases d with
  |none=>exact h
  |some d=>
   refine⟨?_,h.hp,h.df⟩
   show FrRel P w ι (setL S.fr d x) _
   rw[setL_eq]
   exact h.fr.set hv d
def x7_ (P:Program)(cl:CallT):Prop:=
  ∀f args hp r hp' p,cl f args hp=some (r,hp',p)→z7_ p→∀w ι (vs:Array Value),HpRel P w ι hp→args.length=vs.size→(∀j,j<args.length→VR P w ι true (args.getD j .any) (vs.getD j undef))→
   (∃fn c,P.funcs[f]? =some fn∧fn.body=some c∧fn.name≠ "runtime.NumGoroutine")∧
   Calls P f vs w fun e w'=>∃v ι',e= .returned v∧Ext w ι w' ι'∧HpRel P w' ι' hp'∧VR P w' ι' true r v
omit [Gv]in
theorem run_callFunc {f:FuncId}{fn:Func}{c:Code}{args:Array Value}(hf:P.funcs[f]? =some fn)(hb:fn.body=some c)(hn:fn.name≠ "runtime.NumGoroutine"):(callFunc f args).run P w= .ok (.enter f args) w:=by
  simp[callFunc,program,Sem.run,hf,hb,hn]
omit [Gv]in
theorem getD_map_ev {ev:Operand→AV}{a:Act}(args:Array Operand)(h:∀x∈args,VR P w ι true (ev x) (a.eval x))(j:Nat)(hj:j<args.size):
    VR P w ι true ((args.toList.map ev).getD j .any) ((args.map a.eval).getD j undef):=by
  have e1:(args.toList.map ev).getD j .any=ev args[j]:=by simp[List.getD,hj]
  have e2:(args.map a.eval).getD j undef=a.eval args[j]:=by rw[←w1_];simp[List.getD,hj]
  rw[e1,e2]
  exact h _ (by simp)
omit [Gv]in
theorem callee_ok {ev:Operand→AV}{a:Act}{f:Operand}{args:Array Operand}(hf:VR P w ι true (ev f) (a.eval f))(h:∀x∈args,VR P w ι true (ev x) (a.eval x)){g:FuncId}{l:List AV}
    (hc:callee (ev f) (args.toList.map ev)=some (g,l)):
    ∃vs:Array Value,l.length=vs.size∧(∀j,j<l.length→VR P w ι true (l.getD j .any) (vs.getD j undef))∧
     ∀(c:Call) (ty:TypeId),c.callee= .value f→c.args=args→∀W,(do let d←resolve a.eval c ty;invoke d.target d.args:Sem Next).run P W=(callFunc g vs).run P W:=by
  unfold callee at hc
  split at hc
  ·rename_i g' first cap e1
   split at hc
   ·rename_i hz
    simp only[oi_]at hc
    obtain⟨rfl,rfl⟩:=hc
    rw[e1]at hf
    have hfirst:first= #[]:=Array.eq_empty_of_size_eq_zero hz.1
    have hcap:cap= #[]:=Array.eq_empty_of_size_eq_zero hz.2
    subst hfirst;subst hcap
    refine⟨args.map a.eval,by simp,fun j hj=>getD_map_ev args h j (by simpa using hj),?_⟩
    intro c ty hcc hca W
    simp[resolve,hcc,hca,hf.cInv,Deferred.ofValue,invoke]
   ·simp at hc
  ·rename_i g' cap e1
   simp only[oi_]at hc
   obtain⟨rfl,rfl⟩:=hc
   rw[e1]at hf
   generalize hv:a.eval f=vf at hf
   cases hf with
   |fn hl hr=>
    rename_i cs
    refine⟨args.map a.eval++cs,by simp[hl],?_,?_⟩
    ·intro j hj
     have hj':j<args.size+cap.length:=by simpa using hj
     have e2:(args.map a.eval++cs).getD j undef=if j<args.size then(args.map a.eval).getD j undef else cs.getD (j-args.size) undef:=by
       rw[←w1_,←w1_,←w1_]
       simp only[Array.toList_append,List.getD,List.getElem?_append,Array.length_toList,Array.size_map]
       split<;>rfl
     rw[e2,getD_append]
     simp only[List.length_map,Array.length_toList]
     split
     ·rename_i hlt;exact getD_map_ev args h j hlt
     ·exact hr _ (by omega)
    ·intro c ty hcc hca W
     simp[resolve,hcc,hca,hv,Deferred.ofValue,invoke]
  ·simp at hc
omit [Gv]in
theorem find_noEsc {fn:Func}(h:fn.name=noEscName):Extern.find fn=some Extern.AbiNoEscape.same:=by
  unfold Extern.find
  rw[h]
  rfl
omit [Gv]in
theorem find_idx {fn:Func}(h:fn.name=idxName):Extern.find fn=some Extern.BytealgIndexByte.indexByte:=by
  unfold Extern.find
  rw[h]
  rfl
omit [Gv]in
theorem extA_ok {g:FuncId}{l:List AV}{r:AV}(h:extA P g l=some r){vs:Array Value}(hl:l.length=vs.size)(hv:∀j,j<l.length→VR P w ι true (l.getD j .any) (vs.getD j undef)):
    ∃v,(callFunc g vs).run P w= .ok (.value v) w∧VR P w ι true r v:=by
  unfold extA at h
  split at h
  ·rename_i fn hf
   split at h
   ·rename_i hb
    obtain⟨hb,hng⟩:=hb
    split at h
    ·rename_i hn
     split at h
     ·rename_i hnext
      split at h
      ·rename_i x
       simp only[Option.some.injEq]at h
       subst h
       have h0:=hv 0 (by simp)
       have hvs:vs= #[vs.getD 0 undef]:=by
         apply Array.ext
         ·simpa using hl.symm
         ·intro i hi _
          have:i=0:=by simp at hl;omega
          subst this
          simp[Array.getD,hi]
       refine⟨vs.getD 0 undef,?_,by simpa using h0⟩
       generalize vs.getD 0 undef=v0 at hvs
       subst hvs
       rw[run_callFunc_extern hf (by simpa using hng) hb (by simpa using hnext) (find_noEsc hn)]
       rfl
      ·simp at h
     ·simp at h
    ·split at h
     ·rename_i hn
      split at h
      ·rename_i hnext
       split at h
       ·rename_i s n
        simp only[Option.some.injEq]at h
        subst h
        have h0:=hv 0 (by simp)
        have h1:=hv 1 (by simp)
        have hvs:vs= #[vs.getD 0 undef,vs.getD 1 undef]:=by
          apply Array.ext
          ·simpa using hl.symm
          ·intro i hi _
           have:i=0∨i=1:=by simp at hl;omega
           rcases this with rfl|rfl<;>simp[Array.getD,hi]
        refine⟨_,?_,.c⟩
        generalize vs.getD 0 undef=v0 at hvs h0
        generalize vs.getD 1 undef=v1 at hvs h1
        subst hvs
        obtain rfl:v0= .string s:=h0.cInv
        obtain rfl:v1= .int .u8 n:=h1.cInv
        rw[run_callFunc_extern hf (by simpa using hng) hb (by simpa using hnext) (find_idx hn)]
        have hr:=Lib.run_indexByteString (P:=P) s n w
        simp only[Sem.run_bind,hr,sb]
        rfl
       ·simp at h
      ·simp at h
     split at h
     ·rename_i hall
      split at h
      ·rename_i v hpr
       simp only[Option.some.injEq]at h
       subst h
       refine⟨v,?_,.c⟩
       have e:(l.map AV.conc).toArray=vs:=by
         apply Array.ext
         ·simpa using hl
         ·intro i h1 h2
          have hi:i<l.length:=by simpa using h1
          have hc:=List.all_eq_true.1 hall l[i] (List.getElem_mem hi)
          have:=hv i hi
          have e1:l.getD i .any=l[i]:=by simp[List.getD,hi]
          have e2:vs.getD i undef=vs[i]:=by simp[Array.getD,h2]
          rw[e1,e2]at this
          simp only[List.getElem_toArray,List.getElem_map]
          exact(isC_conc hc this).symm
       rw[←e]
       exact pr_run P _ _ w hpr
      ·simp at h
     ·simp at h
   ·simp at h
  ·simp at h
theorem doOp_ok {cl:CallT}(hcl:x7_ P cl){hs:Hints}{S S':St}{a:Act}{o:Oper}{p:List Prop}(hS:StRel P w ι S a)(h:doOp P cl hs S o=some (S',p))(hp':z7_ p){K:Act→World→Prop}{Q:Exit→Act→World→Prop}
    (hK:∀a' w' ι',StRel P w' ι' S' a'→Ext w ι w' ι'→K a' w'):o.wp P a w K Q:=by
  unfold doOp at h
  split at h
  ·rename_i f args aT ho
   split at h
   ·rename_i g l hc
    split at h
    ·rename_i r hext
     obtain⟨vs,hl,hv,hres⟩:=callee_ok (hS.ev f) (fun x _=>hS.ev x) hc
     obtain⟨v,hrun,hvr⟩:=extA_ok hext hl hv
     have he:(execOp a.eval o).run P w= .ok (.value v) w:=by
       have:execOp a.eval o=(do let d←resolve a.eval { callee:= .value f,args,argTypes:=aT} o.type;invoke d.target d.args):=by simp only[execOp,ho]
       rw[this,hres _ _ rfl rfl w]
       exact hrun
     have fin:∀(x:AV),S'=S.put o.dst x→x=r→o.wp P a w K Q:=by
       intro x hS' hx
       unfold Oper.wp
       rw[he,Oper.upon_value]
       refine hK _ w ι ?_ (Ext.refl _ _)
       rw[hS',hx]
       exact hS.put hvr o.dst
     split at h
     ·simp only[oi_]at h
      exact fin r h.1.symm rfl
     ·rename_i hint _
      simp only[oi_]at h
      obtain⟨e1,e2⟩:=h
      rw[←e2]at hp'
      exact fin hint.av e1.symm (avEq_eq hp'.1).symm
    split at h
    ·rename_i r hp2 q hcall
     obtain⟨vs,hl,hv,hres⟩:=callee_ok (hS.ev f) (fun x _=>hS.ev x) hc
     have fin:∀(x:AV),S'=({ S with hp:=hp2} :St).put o.dst x→z7_ q→x=r→o.wp P a w K Q:=by
       intro x hS' hq hx
       obtain⟨⟨fn,c,h1,h2,h3⟩,hcalls⟩:=hcl g l S.hp r hp2 q hcall hq w ι vs hS.hp hl hv
       unfold Oper.wp
       have he:(execOp a.eval o).run P w= .ok (.enter g vs) w:=by
         have:execOp a.eval o=(do let d←resolve a.eval { callee:= .value f,args,argTypes:=aT} o.type;invoke d.target d.args):=by simp only[execOp,ho]
         rw[this,hres _ _ rfl rfl w]
         exact run_callFunc h1 h2 h3
       rw[he,Oper.upon_enter]
       refine hcalls.mono fun e w' ⟨v,ι',he',hext,hh,hr⟩=>?_
       subst he'
       refine hK _ w' ι' ?_ hext
       rw[hS',hx]
       exact StRel.put (S:= { S with hp:=hp2}) ⟨hS.fr.mono hext,hh,hS.df⟩ hr o.dst
     split at h
     ·simp only[oi_]at h
      exact fin r h.1.symm (h.2▸hp') rfl
     ·rename_i hint _
      simp only[oi_]at h
      obtain⟨e1,e2⟩:=h
      rw[←e2]at hp'
      obtain⟨h1,h2⟩:=u5_ hp'
      exact fin hint.av e1.symm h1 (avEq_eq h2.1).symm
    ·simp at h
   ·simp at h
  ·split at h
   ·rename_i r hr
    split at h
    ·rename_i v cmd q hu
     simp only[oi_]at h
     obtain⟨rfl,rfl⟩:=h
     obtain⟨c1,c2,c3⟩:=useHint_ok hu hp'
     obtain⟨cks,av,cmd'⟩:=r
     simp only at c1 c2 c3
     subst c2;subst c3
     obtain⟨n,w',ι',v',hrun,hn,hext,hh,hv,_⟩:=opS_ok (fun x _=>hS.ev x) hS.hp hr c1
     unfold Oper.wp
     rw[hrun]
     have fin:=hK (a.put o.dst v') w' ι' (StRel.put (S:= { S with hp:=cmd.run S.hp}) ⟨hS.fr.mono hext,hh,hS.df⟩ hv o.dst) hext
     rcases hn with rfl|⟨rfl,rfl⟩
     ·rw[Oper.upon_value];exact fin
     ·rw[Oper.upon_skip];exact fin
    ·simp at h
   ·simp at h
end Go.Proofs.YtmjldphagbobpaaDoor
namespace Go.Proofs.YtmjldphagbobpaaDoor
open IntKind (i64 u8 i32 u32 u64)
open Go.RowKit
variable [Gv] {P:Program} {w:World} {ι:Pl} {hp:Heap}
omit [Gv]in
theorem VR.shrink {κ:Pl}{o:Bool}{a:AV}{v:Value}(hv:VR P w κ o a v):o=false→(∀g,κ.un g→ι.un g)→VR P w ι false a v:=by
  induction hv with
  |any=>intro _ _;exact .any
  |c=>intro _ _;exact .c
  |slDead|slZero|slAt|ptDead|pt|itrDead|itr=>intro h;simp at h
  |fsZero=>intro _ _;exact .fsZero
  |fs hn hl hg hno hc h1 _ ih=>intro _ h;exact .fs hn hl hg (h _ hno) hc h1 fun j hj=>ih j hj rfl h
  |fp hg hno hc h1 _ ih=>intro _ h;exact .fp hg (h _ hno) hc h1 fun j hj=>ih j hj rfl h
  |ag hl h1 _ ih=>intro ho h;exact .ag hl h1 fun j hj=>ih j hj ho h
  |tu hl _ ih=>intro ho h;exact .tu hl fun j hj=>ih j hj ho h
  |fn hl _ ih=>intro ho h;exact .fn hl fun j hj=>ih j hj ho h
omit [Gv]in
theorem VR.flat {κ:Pl}{o:Bool}{a:AV}{v:Value}(hv:VR P w κ o a v)(h:s9_ [] a=true):VR P w ι false a v:=by
  have all:∀(l:List AV),l.all AV.isC=true→∀j,j<l.length→∃u,l.getD j .any= .c u:=by
    intro l hl j hj
    have e:l.getD j .any=l[j]:=by simp[List.getD,hj]
    rw[e]
    have:=List.all_eq_true.1 hl _ (List.getElem_mem hj)
    cases hx:l[j]<;>rw[hx]at this<;>simp[AV.isC]at this
    exact⟨_,rfl⟩
  cases hv with
  |any=>exact .any
  |c=>exact .c
  |slDead|slZero|slAt|ptDead|pt|itrDead|itr|fsZero|fs|fp|fn=>simp[s9_]at h
  |ag hl h1 hr=>
   refine .ag hl h1 fun j hj=>?_
   obtain⟨u,hu⟩:=all _ (by simpa [s9_]using h) j hj
   have:=hr j hj
   rw[hu]at this ⊢
   rw[this.cInv]
   exact .c
  |tu hl hr=>
   refine .tu hl fun j hj=>?_
   obtain⟨u,hu⟩:=all _ (by simpa [s9_]using h) j hj
   have:=hr j hj
   rw[hu]at this ⊢
   rw[this.cInv]
   exact .c
def Pl.iso (ι:Pl)(used:Nat→Prop):Pl:= { at_:=fun _=> .fresh,hid:=fun g=>ι.hid g∨∃b,ι b= .here g∧¬used b}
omit [Gv]in
theorem iso_un {used:Nat→Prop}{g:Nat}(h:ι.un g):(ι.iso used).un g:=
  ⟨fun b hb=>by simp[Pl.iso]at hb,fun hh=>by
    rcases hh with hh|⟨b,hb,_⟩
    ·exact h.2 hh
    ·exact h.1 b hb⟩
theorem iso_rel (h:HpRel P w ι hp)(used:Nat→Prop):HpRel P w (ι.iso used) []:=
  ⟨fun b=>by simp only[List.getElem?_nil];rfl,fun b b' g hb=>by simp[Pl.iso]at hb,fun b g hb=>by simp[Pl.iso]at hb,fun g hg=>by
    rcases hg with hg|⟨b,hb,_⟩
    ·exact h.hlt g hg
    ·exact h.lt hb,fun g l hg=>(h.gl g l hg).shrink rfl (fun g hg=>iso_un hg)⟩
omit [Gv]in
theorem iso_old {w':World}{used:Nat→Prop}{κ':Pl}(e:Ext w (ι.iso used) w' κ'):∀g,g<w.heap.size→w'.heap[g]? =w.heap[g]? :=by
  intro g hg
  by_cases hh:(ι.iso used).hid g
  ·exact e.hkeep g hg hh
  ·exact(e.blk g hg ⟨fun b hb=>by simp[Pl.iso]at hb,hh⟩).1
theorem iso_new {w':World}{used:Nat→Prop}{κ':Pl}{hp':Heap}(e:Ext w (ι.iso used) w' κ')(k:HpRel P w' κ' hp'){b g:Nat}(hb:κ' b= .here g):w.heap.size≤g:=by
  rcases Nat.lt_or_ge g w.heap.size with hg|hg
  ·have hh:¬(ι.iso used).hid g:=by rw[←e.hid];exact k.nohid b g hb
   exact absurd hb ((e.blk g hg ⟨fun b hb=>by simp[Pl.iso]at hb,hh⟩).2.1 b)
  ·exact hg
theorem new_un (h:HpRel P w ι hp){g:Nat}(hg:w.heap.size≤g):ι.un g:=
  ⟨fun b hb=>by have:=h.lt hb;omega,fun hh=>by have:=h.hlt g hh;omega⟩
omit [Gv]in
theorem iso_back {w':World}{used:Nat→Prop}{κ':Pl}(hu:∀b,¬used b)(e:Ext w (ι.iso used) w' κ'){g:Nat}(h:κ'.un g):ι.un g:=by
  have hh:¬(ι.iso used).hid g:=by rw[←e.hid];exact h.2
  exact⟨fun b hb=>hh (.inr ⟨b,hb,hu b⟩),fun hx=>hh (.inl hx)⟩
def usedIn (l:List AV)(b:Nat):Prop:=(∃off n,AV.sl b off n∈l)∨∃off,AV.pt b off∈l
theorem freeze_ok (h:HpRel P w ι hp){a a':AV}{v:Value}{used:Nat→Prop}(hv:VR P w ι true a v)(hf:freeze hp P a=some a')(hu:∀b off n,a= .sl b off n→used b):VR P w (ι.iso used) false a' v:=by
  have closedCase:a.closed=true→VR P w (ι.iso used) false a v:=fun hc=>(hv.shut hc).shrink rfl (fun g hg=>iso_un hg)
  unfold freeze at hf
  split at hf
  ·rename_i b off n
   split at hf
   ·rename_i B hb
    split at hf
    ·simp at hf
    ·rename_i hop
     simp only[Option.some.injEq]at hf
     subst hf
     have hop':B.op=false:=by simpa using hop
     rcases Nat.eq_zero_or_pos n with hn|hn
     ·subst hn
      obtain⟨x,cap,rfl,_⟩:=hv.slShape (h.notDead hb)
      have:(List.drop (q2_ off (P.cellsOf B.e)) B.cells).take (q2_ 0 (P.cellsOf B.e))=[]:=by rw[t3_];simp
      rw[this]
      exact .fsZero
     ·obtain⟨g,cap,cur,fz,hg,hcur,hn2,hs,hm,rfl⟩:=hv.slPlace (h.live hb) hn
      obtain⟨cur',fz',hcur',_,hlen,hone,hrel,hcell⟩:=(h.live hb).cells hg hcur
      rw[hcur]at hcur';cases hcur'
      have hlen2:((B.cells.drop (off*P.cellsOf B.e)).take (n*P.cellsOf B.e)).length≤n*P.cellsOf B.e:=by rw[List.length_take];omega
      have hlen3:((B.cells.drop (off*P.cellsOf B.e)).take (n*P.cellsOf B.e)).length+off*P.cellsOf B.e≤max B.cells.length (off*P.cellsOf B.e):=by rw[List.length_take,List.length_drop];omega
      rw[t3_,t3_]
      refine .fs (us:=fun j=>cur.getD (off*P.cellsOf B.e+j) undef) hn2 hlen2 (h.lt hg) ?_ ?_ ?_ ?_
      ·refine⟨fun b' hb'=>by simp[Pl.iso]at hb',fun hh=>?_⟩
       rcases hh with hh|⟨b',hb',hnu⟩
       ·exact h.nohid b g hg hh
       ·have:=h.inj b b' g hg hb'
        subst this
        exact hnu (hu _ _ _ rfl)
      ·intro j hj;exact hcell _ (by omega)
      ·intro j hj;exact hone _ (by omega)
      ·intro j hj
       rw[n1_ _ _ _ (by omega),l0_]
       have:=hrel (off*P.cellsOf B.e+j) (by omega)
       rw[hop']at this
       exact this.shrink rfl (fun g hg=>iso_un hg)
   ·simp at hf
  ·split at hf
   ·rename_i hc
    simp only[Option.some.injEq]at hf
    subst hf
    exact closedCase hc
   ·simp at hf
omit [Gv]in
theorem b8_:∀{l:List AV},AV.closedAll l=true→∀a∈l,a.closed=true
  |b::r,h,a,ha=>by
   simp only[AV.closedAll,Bool.and_eq_true]at h
   rcases List.mem_cons.1 ha with rfl|ha
   ·exact h.1
   ·exact b8_ h.2 a ha
omit [Gv]in
theorem closedAll_getD {l:List AV}(h:AV.closedAll l=true){j:Nat}(hj:j<l.length):(l.getD j .any).closed=true:=by
  have e:l.getD j .any=l[j]:=by simp[List.getD,hj]
  rw[e]
  exact b8_ h _ (List.getElem_mem hj)
theorem freezeArg_ok (h:HpRel P w ι hp){a a':AV}{v:Value}{used:Nat→Prop}(hv:VR P w ι true a v)(hf:freezeArg hp P a=some a')(hu:∀b off n,a= .sl b off n→used b)(hu2:∀b off,a= .pt b off→used b):VR P w (ι.iso used) false a' v:=by
  unfold freezeArg at hf
  split at hf
  ·rename_i b off
   split at hf
   ·rename_i B hb
    split at hf
    ·rename_i hcl
     simp only[Option.some.injEq]at hf
     subst hf
     cases hv with
     |ptDead hd=>exact absurd hd (h.notDead hb)
     |pt hg hcur=>
      rename_i g cur e fz
      obtain⟨cur',fz',hcur',_,hlen,hone,hrel,hcell⟩:=(h.live hb).cells hg hcur
      rw[hcur]at hcur';cases hcur'
      refine .fp (us:=fun j=>cur.getD (off+j) undef) (h.lt hg) ?_ ?_ ?_ ?_
      ·refine⟨fun b' hb'=>by simp[Pl.iso]at hb',fun hh=>?_⟩
       rcases hh with hh|⟨b',hb',hnu⟩
       ·exact h.nohid b g hg hh
       ·have:=h.inj b b' g hg hb'
        subst this
        exact hnu (hu2 _ _ rfl)
      ·intro j hj
       rw[List.length_drop]at hj
       exact hcell _ (by omega)
      ·intro j hj
       rw[List.length_drop]at hj
       exact hone _ (by omega)
      ·intro j hj
       rw[List.length_drop]at hj
       rw[l0_]
       have hx:=hrel (off+j) (by omega)
       exact VR.shrink (hx.open_.shut (closedAll_getD hcl (by omega))) rfl (fun g hg=>iso_un hg)
    ·simp at hf
   ·simp at hf
  ·exact freeze_ok h hv hf hu
theorem freezeAll_ok (h:HpRel P w ι hp){used:Nat→Prop} :∀{l l':List AV} {vs:List Value},l.length=vs.length→(∀j,j<l.length→VR P w ι true (l.getD j .any) (vs.getD j undef))→g1_ hp P l=some l'→
    (∀b,usedIn l b→used b)→l'.length=vs.length∧∀j,j<l'.length→VR P w (ι.iso used) false (l'.getD j .any) (vs.getD j undef)
  | [],l',vs,hl,_,hf,_=>by
    simp only[g1_,Option.some.injEq]at hf
    subst hf
    exact⟨hl,fun j hj=>by simp at hj⟩
  |a::r,l',vs,hl,hv,hf,hu=>by
   simp only[g1_]at hf
   split at hf
   ·rename_i x m hx hm
    simp only[Option.some.injEq]at hf
    subst hf
    cases vs with
    |nil=>simp at hl
    |cons v vr=>
     have h0:=hv 0 (by simp)
     simp only[List.getD_cons_zero]at h0
     have hx':=freezeArg_ok h (used:=used) h0 hx (fun b off n e=>hu b (.inl ⟨off,n,by rw[e];exact List.mem_cons_self⟩)) (fun b off e=>hu b (.inr ⟨off,by rw[e];exact List.mem_cons_self⟩))
     obtain⟨i1,i2⟩:=freezeAll_ok h (used:=used) (l:=r) (l':=m) (vs:=vr) (by simpa using hl) (fun j hj=>by simpa using hv (j+1) (by simpa using hj)) hm (fun b hb=>hu b (hb.elim (fun⟨off,n,hmem⟩=> .inl ⟨off,n,List.mem_cons_of_mem _ hmem⟩) (fun⟨off,hmem⟩=> .inr ⟨off,List.mem_cons_of_mem _ hmem⟩)))
     refine⟨by simpa using i1,fun j hj=>?_⟩
     cases j with
     |zero=>simpa using hx'
     |succ j=>simpa using i2 j (by simpa using hj)
   ·simp at hf
theorem HpRel.adopt {w':World}{x:Loc}{B:Blk}(h:HpRel P w ι hp)(hos:w'.os=w.os)(ht:w'.tape=w.tape)(ho:w'.output=w.output)(hsz:w.heap.size≤w'.heap.size)
    (hold:∀g,g<w.heap.size→w'.heap[g]? =w.heap[g]?)
    (hx:(x= .virt∧B.cells=[])∨∃g cur fz,x= .here g∧w.heap.size≤g∧w'.heap[g]? =some (.cells cur B.e fz)∧RowOK P B.e cur fz∧B.cells.length≤cur.size∧
      (∀j,j<B.cells.length→(cur.getD j undef).oneCell'=true)∧∀j,j<B.cells.length→VR P w' (upd ι hp.length x) B.op (B.cells.getD j .any) (cur.getD j undef)):
    Ext w ι w' (upd ι hp.length x)∧HpRel P w' (upd ι hp.length x) (hp++[some B]):=by
  have hf:=h.freshLen
  obtain⟨e0,h0⟩:=h.ext hos ht ho hsz hold
  have hxg:∀g,x= .here g→w.heap.size≤g:=by
    intro g hg
    rcases hx with⟨hx,_⟩|⟨g',_,_,hx,hge,_⟩
    ·rw[hx]at hg;cases hg
    ·rw[hx]at hg;cases hg;exact hge
  have e:Ext w ι w' (upd ι hp.length x):=by
    refine⟨hos,ht,ho,hsz,rfl,fun g hg _=>hold g hg,?_,?_,?_⟩
    ·intro g hg hn
     refine⟨hold g hg,fun b hb=>?_,hn.2⟩
     by_cases hbl:b=hp.length
     ·subst hbl;simp at hb;have:=hxg g hb;omega
     ·rw[y6_ hbl]at hb;exact hn.1 b hb
    ·intro b g hb
     have hbl:b≠hp.length:=by rintro rfl;rw[hf]at hb;cases hb
     exact .inr ⟨by rw[y6_ hbl];exact hb,fun cur _ fz hc=>⟨cur,fz,(hold g (h.lt hb)).trans hc,rfl⟩⟩
    ·intro b hb
     have hbl:b≠hp.length:=by rintro rfl;rw[hf]at hb;cases hb
     rw[y6_ hbl];exact hb
  refine⟨e,fun b=>?_,?_,?_,fun g hg=>Nat.lt_of_lt_of_le (h.hlt g hg) hsz,fun g l hg=>(h.gl g l hg).mono e⟩
  ·by_cases hbl:b=hp.length
   ·subst hbl
    rw[getElem?_snoc_same]
    rcases hx with⟨hx,hB⟩|⟨g,cur,fz,hx,hge,k1,k2,k3,k4,k5⟩
    ·exact .inl ⟨by simp[hx],hB⟩
    ·exact .inr (.inl ⟨g,cur,fz,by simp[hx],k1,k2,k3,k4,k5⟩)
   ·rw[getElem?_snoc _ _ hbl]
    exact(h.blk b).ext e (y6_ hbl) (fun g hg=>hold g (h.lt hg))
  ·intro b b' g hb hb'
   by_cases h1:b=hp.length<;>by_cases h2:b'=hp.length
   ·omega
   ·subst h1;rw[y6_ h2]at hb';simp at hb;have:=hxg g hb;have:=h.lt hb';omega
   ·subst h2;rw[y6_ h1]at hb;simp at hb';have:=hxg g hb';have:=h.lt hb;omega
   ·rw[y6_ h1]at hb;rw[y6_ h2]at hb';exact h.inj b b' g hb hb'
  ·intro b g hb hh
   by_cases h1:b=hp.length
   ·subst h1;simp at hb;have:=hxg g hb;have:=h.hlt g hh;omega
   ·rw[y6_ h1]at hb;exact h.nohid b g hb hh
def HasBody (P:Program)(f:FuncId):Prop:=∃fn c,P.funcs[f]? =some fn∧fn.body=some c∧fn.name≠ "runtime.NumGoroutine"
def ResRel (P:Program)(w:World)(κ:Pl)(hp:Heap)(f:FuncId):AV→Value→Prop
  | .fs s n l,v=>∃b e,elemT P f=some e∧s=P.cellsOf e∧VR P w κ true (.sl b 0 n) v∧hp[b]? =some (some ⟨e,false,l⟩)
  |r,v=>VR P w κ false r v
def w2_ (P:Program)(f:FuncId)(spec:Spec):Prop:=
  ∀args r q,spec args=some (r,q)→z7_ q→∀w (κ:Pl) (vs:Array Value),HpRel P w κ []→args.length=vs.size→(∀j,j<args.length→VR P w κ false (args.getD j .any) (vs.getD j undef))→
   HasBody P f∧Calls P f vs w fun e w'=>∃v κ' hp',e= .returned v∧Ext w κ w' κ'∧HpRel P w' κ' hp'∧ResRel P w' κ' hp' f r v
theorem adopt_slice {w':World}{used:Nat→Prop}{κ':Pl}{hp':Heap}{b n:Nat}{B:Blk}{v:Value}(h:HpRel P w ι hp)(e:Ext w (ι.iso used) w' κ')(k:HpRel P w' κ' hp')
    (hv:VR P w' κ' true (.sl b 0 n) v) (hb:hp'[b]? =some (some B)) (hop:B.op=false) (hfl:(∀b,¬used b)∨∀x∈B.cells,x.isC=true):
    ∃ι',Ext w ι w' ι'∧HpRel P w' ι' (hp++[some B])∧VR P w' ι' true (.sl hp.length 0 n) v:=by
  have hold:=iso_old e
  have cellTo:∀(ι2:Pl) (a:AV) (u:Value),a∈B.cells→VR P w' κ' false a u→(∀g,κ'.un g→(∀b,¬used b)→ι2.un g)→VR P w' ι2 false a u:=by
    intro ι2 a u ha hr hun
    rcases hfl with hu|hfl
    ·exact hr.shrink rfl (fun g hg=>hun g hg hu)
    ·have hc:=hfl a ha
     cases a<;>simp[AV.isC]at hc
     rw[hr.cInv]
     exact .c
  have mem:∀j,j<B.cells.length→B.cells.getD j .any∈B.cells:=by
    intro j hj
    have:B.cells.getD j .any=B.cells[j]:=by simp[List.getD,hj]
    rw[this]
    exact List.getElem_mem hj
  rcases k.live hb with⟨hvirt,hB⟩|⟨g,cur,fz,hg,hcur,hfz,hlen,hone,hrel⟩|⟨_,_,_,_,_,_,hit⟩
  ·obtain⟨e1,h1⟩:=h.adopt (x:= .virt) (B:=B) e.os e.tape e.output e.size hold (.inl ⟨rfl,hB⟩)
   refine⟨_,e1,h1,?_⟩
   cases hv with
   |slDead hd=>rw[hvirt]at hd;cases hd
   |slZero=>exact .slZero
   |slAt hg _ _ _ _=>rw[hvirt]at hg;cases hg
  ·have hge:=iso_new e k hg
   obtain⟨e1,h1⟩:=h.adopt (x:= .here g) (B:=B) e.os e.tape e.output e.size hold (.inr ⟨g,cur,fz,rfl,hge,hcur,hfz,hlen,hone,fun j hj=>by
     have hr:=hrel j hj
     rw[hop]at hr ⊢
     refine cellTo _ _ _ (mem j hj) hr (fun g' hg' hu=>?_)
     have hun:=iso_back hu e hg'
     refine⟨fun b' hb'=>?_,hun.2⟩
     by_cases hbl:b'=hp.length
     ·subst hbl;simp at hb';subst hb';exact hg'.1 b hg
     ·rw[y6_ hbl]at hb';exact hun.1 b' hb'⟩)
   refine⟨_,e1,h1,?_⟩
   cases hv with
   |slDead hd=>rw[hg]at hd;cases hd
   |slZero=>exact .slZero
   |slAt hg2 hcur2 hn hs hm=>
    rw[hg]at hg2;cases hg2
    exact .slAt (by simp) hcur2 hn hs hm
  ·rw[hop]at hit;cases hit
theorem adopt_closed {w':World}{used:Nat→Prop}{κ':Pl}{r:AV}{v:Value}(h:HpRel P w ι hp)(e:Ext w (ι.iso used) w' κ')(hv:VR P w' κ' false r v)(hfl:(∀b,¬used b)∨s9_ [] r=true):
    Ext w ι w' ι∧HpRel P w' ι hp∧VR P w' ι true r v:=by
  obtain⟨e0,h0⟩:=h.ext e.os e.tape e.output e.size (iso_old e)
  refine⟨e0,h0,?_⟩
  rcases hfl with hu|hfl
  ·exact(hv.shrink rfl (fun g hg=>iso_back hu e hg)).open_
  ·exact(hv.flat hfl).open_
omit [Gv]in
theorem c1_ {l:List AV}(h:AV.closedAll l=true):∀b,¬usedIn l b:=by
  rintro b (⟨off,n,hm⟩|⟨off,hm⟩)
  ·have:=b8_ h _ hm
   simp[AV.closed]at this
  ·have:=b8_ h _ hm
   simp[AV.closed]at this
theorem bySpec_ok {f:FuncId}{spec:Spec}(hs:w2_ P f spec){args l:List AV}{vs:Array Value}{r0 r:AV}{q0:List Prop}{hp':Heap}{p:List Prop}(h:HpRel P w ι hp)(hl:args.length=vs.size)
    (hv:∀j,j<args.length→VR P w ι true (args.getD j .any) (vs.getD j undef)) (hf:g1_ hp P args=some l) (hr:spec l=some (r0,q0)) (hb:bySpec P f args hp (r0,q0)=some (r,hp',p)) (hp0:z7_ p):
    HasBody P f∧Calls P f vs w fun e w'=>∃v ι',e= .returned v∧Ext w ι w' ι'∧HpRel P w' ι' hp'∧VR P w' ι' true r v:=by
  obtain⟨f1,f2⟩:=freezeAll_ok h (used:=usedIn args) (vs:=vs.toList) (by simpa using hl) (fun j hj=>by rw[w1_];exact hv j hj) hf (fun b hm=>hm)
  have hq0:z7_ q0:=by
    unfold bySpec at hb
    split at hb
    ·rename_i heq
     cases heq
     split at hb
     ·split at hb
      ·simp only[oi_]at hb
       rw[←hb.2.2]at hp0
       exact(u5_ hp0).1
      ·simp at hb
     ·simp at hb
    ·rename_i heq
     cases heq
     simp only[oi_]at hb
     rw[←hb.2.2]at hp0
     exact(u5_ hp0).1
  obtain⟨hbody,hcalls⟩:=hs l r0 q0 hr hq0 w (ι.iso (usedIn args)) vs (iso_rel h _) (by simpa using f1) (fun j hj=>by rw[←w1_];exact f2 j hj)
  refine⟨hbody,hcalls.mono fun e w' ⟨v,κ',hpc,he,hext,hhp,hres⟩=>?_⟩
  unfold bySpec at hb
  split at hb
  ·rename_i s n l0 q1 heq
   cases heq
   obtain⟨b,e',he',hs',hvr,hblk⟩:=hres
   rw[he']at hb
   simp only at hb
   split at hb
   ·simp only[oi_]at hb
    obtain⟨rfl,rfl,rfl⟩:=hb
    have hfl:(∀b,¬usedIn args b)∨∀x∈l0,x.isC=true:=by
      by_cases hc:AV.closedAll args=true
      ·exact .inl (c1_ hc)
      ·rw[if_neg hc]at hp0;exact .inr (u5_ hp0).2.1
    obtain⟨ι',a1,a2,a3⟩:=adopt_slice h hext hhp hvr hblk rfl hfl
    exact⟨v,ι',he,a1,a2,a3⟩
   ·rename_i hne
    exact absurd hs' hne
  ·rename_i r1 q1 hnfs heq
   cases heq
   simp only[oi_]at hb
   obtain⟨rfl,rfl,rfl⟩:=hb
   have hres':VR P w' κ' false r0 v:=by
     unfold ResRel at hres
     split at hres
     ·exact(hnfs _ _ _ rfl).elim
     ·exact hres
   have hfl:(∀b,¬usedIn args b)∨s9_ [] r0=true:=by
     by_cases hc:AV.closedAll args=true
     ·exact .inl (c1_ hc)
     ·rw[if_neg hc]at hp0;exact .inr (u5_ hp0).2.1
   obtain⟨a1,a2,a3⟩:=adopt_closed h hext hres' hfl
   exact⟨v,ι,he,a1,a2,a3⟩
end Go.Proofs.YtmjldphagbobpaaDoor
