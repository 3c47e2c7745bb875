/- The evaluator: an abstract run of the program's code over values whose memory is told by content, and the relation between such values and those of the model. -/
import Derived.WalkKit
import Derived.WalkSpells
import Derived.WalkLawsBesides
import Derived.Lib.Bytealg
namespace Go.Proofs.Ytljgmgbjfjhjmaa
open Go.RowKit
set_option linter.unusedSimpArgs false
set_option linter.unusedVariables false

/-- Abstract values. 'c v': just v. 'sl b off n': a slice of n elements into the owned block b. 'pt b off': a pointer to a cell of it. 'fs s n l': a slice that is only read, n elements of s cells each, l its cells. 'fp l': a pointer to cells that are only read. 'itr b': what goes over a text, the owned block b; 'iter s pos': what that block holds. -/
inductive AV where
  | any
  | c (v : Value)
  | sl (b off n : Nat)
  | pt (b off : Nat)
  | fs (s n : Nat) (l : List AV)
  | fp (l : List AV)
  | ag (l : List AV)
  | tu (l : List AV)
  | fn (f : FuncId) (l : List AV)
  | itr (b : Nat)
  | iter (s : List UInt8) (pos : Nat)

/-- What is known of the package's variables: their cells. -/
class Gv where
  gv : Nat → Option (List AV)

/-- A block that the run owns: its elements' type, whether its cells may refer to owned blocks, and its cells as far as they are known. -/
structure Blk where
  e : TypeId
  op : Bool
  cells : List AV

abbrev Heap := List (Option Blk)

structure St where
  fr : List AV
  hp : Heap

inductive Cmd where
  | nop
  | push (B : Blk)
  | set (b : Nat) (B : Blk)
  | move (b : Nat) (B : Blk)
  | kill (b : Nat)

def Cmd.run : Cmd → Heap → Heap
  | .nop, h => h
  | .push B, h => h ++ [some B]
  | .set b B, h => List.set h b (some B)
  | .move b B, h => List.set h b none ++ [some B]
  | .kill b, h => List.set h b none

/-- The cells of what a command lays, put otherwise. -/
def Cmd.withCells (l : List AV) : Cmd → Cmd
  | .nop => .nop
  | .push B => .push { B with cells := l }
  | .set b B => .set b { B with cells := l }
  | .move b B => .move b { B with cells := l }
  | .kill b => .kill b

def Cmd.cells : Cmd → List AV
  | .nop | .kill _ => []
  | .push B | .set _ B | .move _ B => B.cells

/-- Something that must hold, with a test that shows it where all is known. -/
structure Ck where
  p : Prop
  b : Bool
  ok : b = true → p

def ck (p : Prop) [Decidable p] : Ck := ⟨p, decide p, fun h => of_decide_eq_true h⟩

def Ck.all : List Ck → Bool
  | [] => true
  | k :: r => k.b && Ck.all r

def Ck.conj : List Ck → Prop
  | [] => True
  | k :: r => k.p ∧ Ck.conj r

/-- All that must hold. -/
def allP : List Prop → Prop
  | [] => True
  | p :: r => p ∧ allP r

theorem allP_append : ∀ {l k : List Prop}, allP (l ++ k) → allP l ∧ allP k
  | [], _, h => ⟨trivial, h⟩
  | _ :: _, _, h => ⟨⟨h.1, (allP_append h.2).1⟩, (allP_append h.2).2⟩

def Ck.props : List Ck → List Prop
  | [] => []
  | k :: r => k.p :: Ck.props r

theorem Ck.conj_of_props : ∀ (l : List Ck), allP (Ck.props l) → Ck.conj l
  | [], _ => trivial
  | _ :: r, h => ⟨h.1, Ck.conj_of_props r h.2⟩

theorem Ck.conj_of_all : ∀ (l : List Ck), Ck.all l = true → Ck.conj l
  | [], _ => trivial
  | k :: r, h => by
    simp only [Ck.all, Bool.and_eq_true] at h
    exact ⟨k.ok h.1, Ck.conj_of_all r h.2⟩

def sb (s : ByteArray) : List UInt8 := s.data.toList
def str (l : List UInt8) : Value := .string ⟨⟨l⟩⟩
def byteC (x : UInt8) : AV := .c (.int .u8 x.toNat)
def byts (l : List UInt8) : List AV := l.map byteC

def mulS (i s : Nat) : Nat := if s = 1 then i else i * s

theorem mulS_eq (i s : Nat) : mulS i s = i * s := by
  unfold mulS; split
  · subst s; omega
  · rfl

/-- What a computation yields that looks at the program alone. -/
def pr {α : Type} (P : Program) : Sem α → Option α
  | .pure a => some a
  | .program k => pr P (k P)
  | .mark _ k => pr P k
  | _ => none

theorem pr_run {α : Type} (P : Program) (s : Sem α) (a : α) (w : World) (h : pr P s = some a) : s.run P w = .ok a w := by
  induction s with
  | pure x => simp [pr] at h; subst h; rfl
  | program k ih => exact ih P (by simpa [pr] using h)
  | mark m k ih => exact ih (by simpa [pr] using h)
  | _ => simp [pr] at h

def AV.conc : AV → Value
  | .c v => v
  | _ => undef

def AV.isC : AV → Bool
  | .c _ => true
  | _ => false

/-- A slot; a slot laid: by the row's own recursor, which is quick to reckon. -/
noncomputable def getL (l : List AV) : Nat → AV := List.rec (motive := fun _ => Nat → AV) (fun _ => .any) (fun a _ ih n => Nat.rec (motive := fun _ => AV) a (fun m _ => ih m) n) l
noncomputable def setL (l : List AV) : Nat → AV → List AV := List.rec (motive := fun _ => Nat → AV → List AV) (fun _ _ => []) (fun a r ih n v => Nat.rec (motive := fun _ => List AV) (v :: r) (fun m _ => a :: ih m v) n) l

theorem getL_eq : ∀ (l : List AV) (n : Nat), getL l n = l.getD n .any
  | [], n => by simp [getL]
  | a :: r, 0 => rfl
  | a :: r, n + 1 => by
    have := getL_eq r n
    simpa [getL] using this

theorem setL_eq : ∀ (l : List AV) (n : Nat) (v : AV), setL l n v = List.set l n v
  | [], n, v => by simp [setL]
  | a :: r, 0, v => rfl
  | a :: r, n + 1, v => by
    have := setL_eq r n v
    simp only [setL] at this ⊢
    simp [this]

/-- A package variable: a pointer to its cells. -/
def gEv [Gv] (g : Nat) : AV :=
  match Gv.gv g with
  | some l => .fp l
  | none => .any

noncomputable def aEv [Gv] (fr : List AV) : Operand → AV
  | .tmp t => getL fr t
  | .const v => .c v
  | .func f => .c (.func (.func f) #[] #[])
  | .global g => gEv g

mutual
/-- A value that refers to no owned block. -/
def AV.closed : AV → Bool
  | .sl .. | .pt .. | .itr _ => false
  | .ag l | .tu l | .fn _ l => AV.closedAll l
  | _ => true
def AV.closedAll : List AV → Bool
  | [] => true
  | a :: r => AV.closed a && AV.closedAll r
end

/-- The cells of a value of s cells. -/
def AV.cellsOf (hp : Heap) (s : Nat) : AV → Option (List AV)
  | .ag l => if l.length = s then some l else none
  | .c (.agg cs) => if cs.size = s ∧ cs.toList.all (·.oneCell') = true then some (cs.toList.map .c) else none
  | .c (.tuple _) | .tu _ | .any | .itr _ | .iter .. => none
  | .sl b off n => match hp[b]? with
    | some (some _) => if s = 1 then some [.sl b off n] else none
    | _ => none
  | .pt b off => match hp[b]? with
    | some (some _) => if s = 1 then some [.pt b off] else none
    | _ => none
  | a => if s = 1 then some [a] else none

def sBin (op : BinOp) : Value → Value → Option Value
  | .int k a, .int k' b =>
    if k = k' then
      match op with
      | .add => some (.int k (k.wrap (a + b)))
      | .sub => some (.int k (k.wrap (a - b)))
      | .mul => some (.int k (k.wrap (a * b)))
      | .eql => some (.bool (a == b))
      | .neq => some (.bool (a != b))
      | .lss => some (.bool (a < b))
      | .leq => some (.bool (a ≤ b))
      | .gtr => some (.bool (a > b))
      | .geq => some (.bool (a ≥ b))
      | _ => none
    else none
  | .string a, .string b =>
    match op with
    | .eql => some (.bool (sb a == sb b))
    | .neq => some (.bool !(sb a == sb b))
    | _ => none
  | _, _ => none

/-- '+', '-', '*', '/' of floats of 64 bits: told where the outcome is no NaN. -/
def fArith : BinOp → Bool
  | .add | .sub | .mul | .quo => true
  | _ => false
def fBin (op : BinOp) : Value → Value → Option (Ck × Value)
  | .float .f64 a, .float .f64 b => if fArith op = true then some (ck ((floatBits op .f64 a b).isSome = true), .float .f64 ((floatBits op .f64 a b).getD 0)) else none
  | _, _ => none

/-- A whole number made a float of 64 bits. -/
def fCnv (P : Program) (s d : TypeId) : AV → Option Value
  | .c (.int _ n) => match P.underlying s, P.underlying d with
    | some _, some (.float .f64) => some (.float .f64 (floatOfInt .f64 n))
    | _, _ => none
  | _ => none

/-- Bounds of a slice expression: low, high. -/
def lohi (ev : Operand → AV) (lo hi : Option Operand) (n : Nat) : Option (Int × Int) :=
  match lo.map ev, hi.map ev with
  | none, none => some (0, n)
  | some (.c (.int _ l)), none => some (l, n)
  | none, some (.c (.int _ h)) => some (0, h)
  | some (.c (.int _ l)), some (.c (.int _ h)) => some (l, h)
  | _, _ => none

def isAggT (P : Program) (t : TypeId) : Option Bool :=
  match P.underlying t with
  | some (.struct _) | some (.array ..) => some true
  | some _ => some false
  | none => none

/-- The value of type t that stands first in a row of cells. -/
def ldAV (P : Program) (t : TypeId) (l : List AV) : Option (List Ck × AV) :=
  match isAggT P t with
  | some true => some ([ck (P.cellsOf t ≤ l.length)], .ag (l.take (P.cellsOf t)))
  | some false => some ([ck (0 < l.length)], l.headD .any)
  | none => none

def unbyte : AV → UInt8
  | .c (.int _ n) => UInt8.ofNat n.toNat
  | _ => 0

def isByte : AV → Bool
  | .c (.int .u8 n) => decide (0 ≤ n ∧ n < 256)
  | _ => false

def unbyts (l : List AV) : List UInt8 := l.map unbyte

def bytesOK (l : List AV) : Prop := l.all isByte = true
instance (l : List AV) : Decidable (bytesOK l) := inferInstanceAs (Decidable (_ = true))

/-- What an append's second operand holds: how many elements, whether they are open, their cells. -/
def newsOf (P : Program) (hp : Heap) (e : TypeId) : AV → Option (List Ck × Nat × Bool × List AV)
  | .sl b off n => match hp[b]? with
    | some (some B) => if B.e = e then some ([ck (mulS (n + off) (P.cellsOf e) ≤ B.cells.length)], n, B.op, (B.cells.drop (mulS off (P.cellsOf e))).take (mulS n (P.cellsOf e))) else none
    | _ => none
  | .fs s n l => if s = P.cellsOf e then some ([ck (l.length = mulS n s)], n, false, l) else none
  | .c (.slice none 0 0) => some ([], 0, false, [])
  | .c (.string s) => if P.cellsOf e = 1 then some ([], (sb s).length, false, byts (sb s)) else none
  | _ => none

/-- Parts laid into cells. -/
def fillA (hp : Heap) (place : Nat → Option (Nat × Nat)) (cells : List AV) : List (Nat × AV) → Option (List AV)
  | [] => some cells
  | (i, v) :: rest =>
    match place i with
    | none => none
    | some (off, size) =>
      match v.cellsOf hp size with
      | none => none
      | some cs => if off + size ≤ cells.length then fillA hp place (cells.take off ++ cs ++ cells.drop (off + size)) rest else none

/-- Parts that stand one behind the other from a place on: their cells. -/
def seqFill (hp : Heap) (place : Nat → Option (Nat × Nat)) : Nat → List (Nat × AV) → Option (List AV)
  | _, [] => some []
  | off, (i, v) :: r => match place i with
    | some (o, s) => if o = off then
        match v.cellsOf hp s with
        | some cs => match seqFill hp place (off + s) r with
          | some l => some (cs ++ l)
          | none => none
        | none => none
      else none
    | none => none

/-- Parts laid into cells: at once, if they fill all of them in order. -/
def fillQ (hp : Heap) (place : Nat → Option (Nat × Nat)) (cells : List AV) (parts : List (Nat × AV)) : Option (List AV) :=
  match seqFill hp place 0 parts with
  | some l => if l.length = cells.length then some l else fillA hp place cells parts
  | none => fillA hp place cells parts

def zeroOf (P : Program) (t : TypeId) : Option (List AV) := ((P.info? t).bind (·.zero)).bind fun z => if z.cells.toList.all (·.oneCell') = true then some (z.cells.toList.map .c) else none

def repl (n : Nat) (l : List AV) : List AV :=
  match l with
  | [x] => List.replicate n x
  | l => (List.replicate n l).flatten

abbrev Res := List Ck × AV × Cmd

/-- The type of a slice type's elements, if they take up cells. -/
def elemOf (P : Program) (t : TypeId) : Option TypeId :=
  match P.underlying t with
  | some (.slice e) => if 0 < P.cellsOf e then some e else none
  | _ => none

def isStr (P : Program) (t : TypeId) : Bool :=
  match P.underlying t with
  | some .string => true
  | _ => false

def isU8 (P : Program) (t : TypeId) : Bool :=
  match P.underlying t with
  | some (.int .u8) => P.cellsOf t == 1
  | _ => false

def fallback (P : Program) (ev : Operand → AV) (o : Oper) : Option Res :=
  match o.op with
  | .call { callee := .value _, .. } | .call { callee := .invoke .., .. } | .select .. | .go _ | .defer _ => none
  | _ =>
    if o.op.operands.all (fun x => (ev x).isC) then
      match pr P (execOp (fun x => (ev x).conc) o) with
      | some (.value v) => some ([], .c v, .nop)
      | _ => none
    else none

/-- Has the type a zero value of as many cells as it takes up? -/
def zeroFits (P : Program) (e : TypeId) : Bool :=
  match zeroOf P e with
  | some z => z.length == P.cellsOf e
  | none => false

def appA (P : Program) (hp : Heap) (t : TypeId) (s x : AV) : Option Res :=
  match elemOf P t with
  | some e =>
    match newsOf P hp e x with
    | some (cks, n, op, l) =>
      if zeroFits P e = true then
      match s with
      | .c (.slice none 0 0) => some (cks ++ [ck (n * P.bytesOf e ≤ 140737488355328), ck (n ≤ 4611686018427387904)], .sl hp.length 0 n, .push ⟨e, op, l⟩)
      | .sl b 0 len => match hp[b]? with
        | some (some B) =>
          if B.e = e then
            some (cks ++ [ck ((len + n) * P.bytesOf e ≤ 140737488355328), ck (len + n ≤ 4611686018427387904), ck (mulS len (P.cellsOf e) ≤ B.cells.length)],
              .sl hp.length 0 (len + n), .move b ⟨e, B.op || op, B.cells.take (mulS len (P.cellsOf e)) ++ l⟩)
          else none
        | _ => none
      | _ => none
      else none
    | none => none
  | none => none

def lenA (P : Program) (hp : Heap) (t : TypeId) (x : AV) : Option Res :=
  if isStr P t then
    match x with
    | .c (.string s) => some ([], .c (.int .i64 (sb s).length), .nop)
    | _ => none
  else match elemOf P t with
    | some _ => match x with
      | .sl b _ n => match hp[b]? with
        | some (some _) => some ([], .c (.int .i64 n), .nop)
        | _ => none
      | .fs _ n _ => some ([], .c (.int .i64 n), .nop)
      | .c (.slice _ n _) => some ([], .c (.int .i64 n), .nop)
      | _ => none
    | none => none

def convA (P : Program) (hp : Heap) (s d : TypeId) (x : AV) : Option Res :=
  match elemOf P d with
  | some e => if isStr P s && isU8 P e then
      match x with
      | .c (.string s) => some ([ck ((sb s).length ≤ 140737488355328)], .sl hp.length 0 (sb s).length, .push ⟨e, false, byts (sb s)⟩)
      | _ => none
    else none
  | none => match elemOf P s with
    | some e => if isStr P d && isU8 P e then
        match x with
        | .sl b off n => match hp[b]? with
          | some (some B) => if B.e = e then some ([ck (n + off ≤ B.cells.length), ck (bytesOK ((B.cells.drop off).take n))], .c (str (unbyts ((B.cells.drop off).take n))), .nop) else none
          | _ => none
        | .fs s n l => if s = 1 then some ([ck (l.length = n), ck (bytesOK l)], .c (str (unbyts l)), .nop) else none
        | .c (.slice none 0 0) => some ([], .c (str []), .nop)
        | _ => none
      else none
    | none => none

def sliceA (P : Program) (ev : Operand → AV) (hp : Heap) (t : TypeId) (x : AV) (lo hi : Option Operand) : Option Res :=
  if isStr P t then
    match x with
    | .c (.string s) => match lohi ev lo hi (sb s).length with
      | some (l, h) => some ([ck (0 ≤ l), ck (l ≤ h), ck (h ≤ (sb s).length)], .c (str (((sb s).take h.toNat).drop l.toNat)), .nop)
      | none => none
    | _ => none
  else match elemOf P t with
    | some e => match x with
      | .sl b off n => match hp[b]?, lohi ev lo hi n with
        | some (some B), some (l, h) => if B.e = e then some ([ck (0 ≤ l), ck (l ≤ h), ck (h ≤ n)], .sl b (l.toNat + off) (h.toNat - l.toNat), .nop) else none
        | _, _ => none
      | .fs s n L => match lohi ev lo hi n with
        | some (l, h) => if s = P.cellsOf e then some ([ck (0 ≤ l), ck (l ≤ h), ck (h ≤ n)], .fs s (h.toNat - l.toNat) ((L.take (mulS h.toNat s)).drop (mulS l.toNat s)), .nop) else none
        | none => none
      | _ => none
    | none => none

def idxAddrA (P : Program) (hp : Heap) (t : TypeId) (x i : AV) : Option Res :=
  match elemOf P t with
  | some e => match x, i with
    | .sl b off n, .c (.int _ i) => match hp[b]? with
      | some (some B) => if B.e = e then some ([ck (0 ≤ i), ck (i < n)], .pt b (mulS (i.toNat + off) (P.cellsOf e)), .nop) else none
      | _ => none
    | .fs s n l, .c (.int _ i) => if s = P.cellsOf e then some ([ck (0 ≤ i), ck (i < n)], .fp (l.drop (mulS i.toNat s)), .nop) else none
    | _, _ => none
  | none => none

def copyA (P : Program) (hp : Heap) (t : TypeId) (d x : AV) : Option Res :=
  match elemOf P t with
  | some e => match d with
    | .sl b off n => match hp[b]?, newsOf P hp e x with
      | some (some B), some (cks, m, op, l) =>
        if B.e = e ∧ (B.op = true ∨ op = false) then
          some (cks ++ [ck (mulS (n + off) (P.cellsOf e) ≤ B.cells.length)], .c (.int .i64 (min n m : Nat)),
            .set b { B with cells := B.cells.take (mulS off (P.cellsOf e)) ++ l.take (mulS (min n m) (P.cellsOf e)) ++ B.cells.drop (mulS off (P.cellsOf e) + mulS (min n m) (P.cellsOf e)) })
        else none
      | _, _ => none
    | _ => none
  | none => none

/-- 'String' of the package for raw memory, over the head of an owned row of bytes, which is given up. -/
def ustrA (P : Program) (hp : Heap) (t : TypeId) (p n : AV) : Option Res :=
  match P.underlying t with
  | some (.pointer e) => if isU8 P e then
      match p, n with
      | .pt b 0, .c (.int .i64 n) => match hp[b]? with
        | some (some B) => if B.e = e then some ([ck (0 < n), ck (n ≤ B.cells.length), ck (bytesOK (B.cells.take n.toNat)), ck (n ≤ 4611686018427387904)], .c (str (unbyts (B.cells.take n.toNat))), .kill b) else none
        | _ => none
      | _, _ => none
    else none
  | _ => none

def storeA (P : Program) (hp : Heap) (t : TypeId) (a x : AV) : Option Res :=
  match a with
  | .pt b off => match hp[b]?, x.cellsOf hp (P.cellsOf t) with
    | some (some B), some cs =>
      if 0 < P.cellsOf t ∧ (B.op = true ∨ AV.closedAll cs = true) then
        some ([ck (off + P.cellsOf t ≤ B.cells.length)], .any, .set b { B with cells := B.cells.take off ++ cs ++ B.cells.drop (off + P.cellsOf t) })
      else none
    | _, _ => none
  | _ => none

def aOp (P : Program) (ev : Operand → AV) (hp : Heap) (o : Oper) : Option Res :=
  match o.op with
  | .move x | .assign x => some ([], ev x, .nop)
  | .pick c a b => match ev c with
    | .c (.bool true) => some ([], ev a, .nop)
    | .c (.bool false) => some ([], ev b, .nop)
    | _ => none
  | .binOp op _ x y _ => match ev x, ev y with
    | .c a, .c b => match sBin op a b with
      | some v => some ([], .c v, .nop)
      | none => match fBin op a b with
        | some (k, v) => some ([k], .c v, .nop)
        | none => fallback P ev o
    | _, _ => none
  | .index t x i => match isStr P t, ev x, ev i with
    | true, .c (.string s), .c (.int _ i) => some ([ck (0 ≤ i), ck (i < (sb s).length)], byteC ((sb s).getD i.toNat 0), .nop)
    | _, _, _ => fallback P ev o
  | .slice t x lo hi mx => match mx with
    | none => sliceA P ev hp t (ev x) lo hi
    | some _ => none
  | .indexAddr t x i => idxAddrA P hp t (ev x) (ev i)
  | .load t a => match ev a with
    | .pt b off => match hp[b]? with
      | some (some B) => (ldAV P t (B.cells.drop off)).map fun (k, v) => (k, v, .nop)
      | _ => none
    | .fp l => (ldAV P t l).map fun (k, v) => (k, v, .nop)
    | _ => none
  | .store t a x => storeA P hp t (ev a) (ev x)
  | .call { callee := .builtin .len, args, argTypes } => match args.toList, argTypes.toList with
    | [x], [t] => lenA P hp t (ev x)
    | _, _ => none
  | .call { callee := .builtin .append, args, argTypes } => match args.toList, argTypes.toList with
    | [s, x], [t, u] => match P.underlying u with
      | some (.int _) => none
      | some _ => appA P hp t (ev s) (ev x)
      | none => none
    | _, _ => none
  | .call { callee := .builtin .copy, args, argTypes } => match args.toList, argTypes.toList with
    | [d, x], [t, _] => copyA P hp t (ev d) (ev x)
    | _, _ => none
  | .call { callee := .builtin .unsafeString, args, argTypes } => match args.toList, argTypes.toList with
    | [p, n], [t, _] => ustrA P hp t (ev p) (ev n)
    | _, _ => none
  | .convert s d x => match convA P hp s d (ev x) with
    | some r => some r
    | none => match fCnv P s d (ev x) with
      | some v => some ([], .c v, .nop)
      | none => fallback P ev o
  | .buildSlice t len parts => match elemOf P t with
    | some e => match zeroOf P e with
      | some z =>
        if z.length = P.cellsOf e ∧ mulS len (P.cellsOf e) ≤ 16777216 then
          match fillQ hp (fun i => some (mulS i (P.cellsOf e), P.cellsOf e)) (repl len z) (parts.toList.map fun (i, x) => (i, ev x)) with
          | some cs => some ([], .sl hp.length 0 len, .push ⟨e, !AV.closedAll cs, cs⟩)
          | none => none
        else none
      | none => none
    | none => none
  | .makeSlice t l c => match elemOf P t, ev l, ev c with
    | some e, .c (.int _ l), .c (.int _ c) => match zeroOf P e with
      | some z =>
        if z.length = P.cellsOf e then
          some ([ck (0 ≤ l), ck (l ≤ c), ck (c * (P.bytesOf e : Int) ≤ 140737488355328), ck (c ≤ 4611686018427387904)], .sl hp.length 0 l.toNat, .push ⟨e, false, repl l.toNat z⟩)
        else none
      | none => none
    | _, _, _ => none
  | _ => fallback P ev o

/-- A struct's field: where its cells lie, and its type. -/
def fieldOff (P : Program) (t : TypeId) (i : Nat) : Option (Nat × TypeId) :=
  match P.underlying t with
  | some (.struct fs) => match fs[i]? with
    | some f => if 0 < P.cellsOf f.type then some (f.offset, f.type) else none
    | none => none
  | _ => none

/-- An array's length, and the type of its elements, if they take up cells. -/
def arrOf (P : Program) (t : TypeId) : Option (Nat × TypeId) :=
  match P.underlying t with
  | some (.array n e) => if 0 < P.cellsOf e then some (n, e) else none
  | _ => none

def isPtr (P : Program) (t : TypeId) : Bool :=
  match P.underlying t with
  | some (.pointer e) => P.cellsOf e != 0
  | _ => false

/-- Where each part of a struct or an array lies. -/
def placeA (P : Program) (t : TypeId) : Option (Nat → Option (Nat × Nat)) :=
  match P.underlying t with
  | some (.struct fs) => some fun i => (fs[i]?).map fun f => (f.offset, P.cellsOf f.type)
  | some (.array _ e) => some fun i => some (i * P.cellsOf e, P.cellsOf e)
  | _ => none

/-- Do all fields' types have their sizes told? -/
def sized (P : Program) (t : TypeId) : Bool :=
  match P.underlying t with
  | some (.struct fs) => fs.toList.all fun f => (P.info? f.type).isSome
  | some (.array _ e) => (P.info? e).isSome
  | _ => false

/-- The next sign of a text. -/
def nextA (hp : Heap) (x : AV) (dir : Option Bool) : Option Res :=
  match x with
  | .itr b => match hp[b]? with
    | some (some B) => match B.cells with
      | [.iter s pos] =>
        match dir.getD (decide (pos < s.length)) with
        | true => some ([ck (pos < s.length)], .tu [.c (.bool true), .c (.int .i64 pos), .c (.int .i32 (Utf8.decode ⟨⟨s⟩⟩ pos).1)], .set b { B with cells := [.iter s (pos + (Utf8.decode ⟨⟨s⟩⟩ pos).2)] })
        | false => some ([ck (s.length ≤ pos)], .tu [.c (.bool false)], .nop)
      | _ => none
    | _ => none
  | _ => none

/-- More operations. -/
def aOp2 (P : Program) (ev : Operand → AV) (hp : Heap) (o : Oper) : Option Res :=
  match o.op with
  | .alloc t => match zeroOf P t with
    | some z => some ([], .pt hp.length 0, .push ⟨t, true, z⟩)
    | none => none
  | .box t x => match (ev x).cellsOf hp (P.cellsOf t) with
    | some cs => some ([], .pt hp.length 0, .push ⟨t, true, cs⟩)
    | none => none
  | .nilCheck x => match ev x with
    | .pt b off => match hp[b]? with
      | some (some _) => some ([], .pt b off, .nop)
      | _ => none
    | .fp l => some ([], .fp l, .nop)
    | .fn f l => some ([], .fn f l, .nop)
    | _ => none
  | .fieldAddr t x i => match fieldOff P t i with
    | some (o, _) => match ev x with
      | .pt b off => match hp[b]? with
        | some (some _) => some ([], .pt b (off + o), .nop)
        | _ => none
      | .fp l => some ([], .fp (l.drop o), .nop)
      | _ => none
    | none => none
  | .field t x i => match fieldOff P t i with
    | some (o, u) => match ev x with
      | .ag l => (ldAV P u (l.drop o)).map fun (k, v) => (k, v, .nop)
      | _ => none
    | none => none
  | .index t x i => match arrOf P t with
    | some (n, e) => match ev x, ev i with
      | .ag l, .c (.int _ i) => (ldAV P e (l.drop (mulS i.toNat (P.cellsOf e)))).map fun (k, v) => (ck (0 ≤ i) :: ck (i < n) :: k, v, .nop)
      | _, _ => none
    | none => none
  | .indexAddr t x i => match arrOf P t with
    | some (n, e) => match ev x, ev i with
      | .pt b off, .c (.int _ i) => match hp[b]? with
        | some (some _) => some ([ck (0 ≤ i), ck (i < n)], .pt b (off + mulS i.toNat (P.cellsOf e)), .nop)
        | _ => none
      | .fp l, .c (.int _ i) => some ([ck (0 ≤ i), ck (i < n)], .fp (l.drop (mulS i.toNat (P.cellsOf e))), .nop)
      | _, _ => none
    | none => none
  | .build t parts => match placeA P t, zeroOf P t with
    | some pl, some z => if sized P t then
        match fillQ hp pl z (parts.toList.map fun (i, x) => (i, ev x)) with
        | some cs => some ([], .ag cs, .nop)
        | none => none
      else none
    | _, _ => none
  | .extract x i => match ev x with
    | .tu l => match l[i]? with
      | some v => some ([], v, .nop)
      | none => none
    | _ => none
  | .range t x => if isStr P t then
      match ev x with
      | .c (.string s) => some ([], .itr hp.length, .push ⟨0, true, [.iter (sb s) 0]⟩)
      | _ => none
    else none
  | .makeFunc (.func f) first cap => if first.size = 0 then some ([], .fn f (cap.toList.map ev), .nop) else none
  | .binOp op t x y _ => if isPtr P t then
      match op, ev x, ev y with
      | .eql, .pt b off, .c (.pointer none) => (match hp[b]? with | some (some _) => some ([], .c (.bool false), .nop) | _ => none)
      | .neq, .pt b off, .c (.pointer none) => (match hp[b]? with | some (some _) => some ([], .c (.bool true), .nop) | _ => none)
      | .eql, .fp _, .c (.pointer none) => some ([], .c (.bool false), .nop)
      | .neq, .fp _, .c (.pointer none) => some ([], .c (.bool true), .nop)
      | .eql, .pt b off, .pt b' off' => (match hp[b]? with | some (some _) => if b = b' then some ([], .c (.bool (off == off')), .nop) else none | _ => none)
      | .neq, .pt b off, .pt b' off' => (match hp[b]? with | some (some _) => if b = b' then some ([], .c (.bool (!(off == off'))), .nop) else none | _ => none)
      | _, _, _ => none
    else none
  | .convert s d x => match P.underlying s, P.underlying d, ev x with
    | some (.pointer t), some .unsafePointer, .pt b 0 => match hp[b]? with
      | some (some B) => if 0 < P.cellsOf t ∧ 0 < B.cells.length then some ([], .pt b 0, .nop) else none
      | _ => none
    | some .unsafePointer, some (.pointer t), .pt b 0 => match hp[b]? with
      | some (some B) => if 0 < P.cellsOf t ∧ B.e = t ∧ P.cellsOf t ≤ B.cells.length then some ([], .pt b 0, .nop) else none
      | _ => none
    | _, _, _ => none
  | .call { callee := .builtin .unsafeSliceData, args, argTypes } => match args.toList, argTypes.toList with
    | [x], [t] => match elemOf P t, ev x with
      | some e, .sl b 0 n => match hp[b]? with
        | some (some B) => if B.e = e then some ([ck (0 < n)], .pt b 0, .nop) else none
        | _ => none
      | _, _ => none
    | _, _ => none
  | .call { callee := .builtin .unsafeString, args, argTypes } => match args.toList, argTypes.toList with
    | [p, n], [_, _] => match ev p, ev n with
      | .c (.pointer none), .c (.int .i64 0) => some ([], .c (str []), .nop)
      | _, _ => none
    | _, _ => none
  | _ => none

def aOpX (P : Program) (ev : Operand → AV) (hp : Heap) (o : Oper) : Option Res :=
  match aOp2 P ev hp o with
  | some r => some r
  | none => aOp P ev hp o

structure Hint where
  av : AV
  cells : Option (List AV) := none

/-- Hints by slots; whether what must hold is handed on everywhere. -/
structure Hints where
  sym : Bool := false
  at_ : List (Nat × Hint) := []

def hintFor (hs : Hints) : Option Tmp → Option Hint
  | none => none
  | some d => (hs.at_.find? (fun h => h.1 == d)).map (·.2)

/-- A hint's key: the slot; of what is stored, 100000 above the place's. -/
def hkey (o : Oper) : Option Nat :=
  match o.dst with
  | some d => match o.op with
    | .next .. => none
    | _ => some d
  | none => match o.op with
    | .store _ (.tmp t) _ => some (100000 + t)
    | _ => none

/-- Which way an iterator goes, by a hint. -/
def dirOf : Option Hint → Option Bool
  | some ⟨.c (.bool b), _⟩ => some b
  | _ => none

/-- That two abstract values are the same. -/
def avEq : AV → AV → Prop
  | .c (.int .i64 x), .c (.int .i64 y) => x = y
  | .c (.int .u8 x), .c (.int .u8 y) => x = y
  | .c (.int .i32 x), .c (.int .i32 y) => x = y
  | .c (.int .u32 x), .c (.int .u32 y) => x = y
  | .c (.int .u64 x), .c (.int .u64 y) => x = y
  | .c (.int .u16 x), .c (.int .u16 y) => x = y
  | .c (.int .i16 x), .c (.int .i16 y) => x = y
  | .c (.int .i8 x), .c (.int .i8 y) => x = y
  | .c (.bool x), .c (.bool y) => x = y
  | .c (.string x), .c (.string y) => sb x = sb y
  | a, b => a = b

theorem sb_inj {x y : ByteArray} (h : sb x = sb y) : x = y := by
  obtain ⟨⟨x⟩⟩ := x
  obtain ⟨⟨y⟩⟩ := y
  simp only [sb] at h
  rw [h]

theorem avEq_refl (a : AV) : avEq a a := by
  unfold avEq
  split <;> rfl

theorem avEq_eq {a b : AV} (h : avEq a b) : a = b := by
  unfold avEq at h
  split at h
  all_goals first | exact h | (rw [h]) | (rw [sb_inj h])

/-- Arithmetic without a bound. -/
def arith : BinOp → Int → Int → Option Int
  | .add, a, b => some (a + b)
  | .sub, a, b => some (a - b)
  | .mul, a, b => some (a * b)
  | _, _, _ => none

/-- Quotients and rests by numbers that are not known. -/
def divA (op : BinOp) (a b : AV) : Option Res :=
  match a, b with
  | .c (.int k x), .c (.int k' y) => if k = k' then
      match op with
      | .quo => some ([ck (y ≠ 0)], .c (.int k (k.wrap (x.tdiv y))), .nop)
      | .rem => some ([ck (y ≠ 0)], .c (.int k (x.tmod y)), .nop)
      | _ => none
    else none
  | _, _ => none

/-- An operation where all is told by what must hold: sums without a bound; what has a hint and is reckoned by the program alone. -/
def aOpS0 (P : Program) (hs : Hints) (ev : Operand → AV) (hp : Heap) (o : Oper) : Option Res :=
  match o.op with
  | .next it true => nextA hp (ev it) (dirOf (hintFor hs o.dst))
  | .call { callee := .builtin .append, .. } => match hintFor hs o.dst with
    -- nothing onto nil, as a hint says
    | some ⟨.c (.slice none 0 0), _⟩ => fallback P ev o
    | _ => aOpX P ev hp o
  | _ => if hs.sym then
    match o.op with
    | .binOp op _ x y _ => match ev x, ev y with
      | .c (.int k a), .c (.int k' b) => match arith op a b with
        | some z => if k = k' then some ([ck (k.min ≤ z), ck (z ≤ k.max)], .c (.int k z), .nop) else none
        | none => aOpX P ev hp o
      | .c (.string a), .c (.string b) => match op with
        | .add => some ([ck ((sb a).length + (sb b).length ≤ 9223372036854775807)], .c (str (sb a ++ sb b)), .nop)
        | _ => aOpX P ev hp o
      | _, _ => aOpX P ev hp o
    | _ => aOpX P ev hp o
  else aOpX P ev hp o

/-- A hint with no cells at a quotient: its divisor is not known. -/
def aOpS (P : Program) (hs : Hints) (ev : Operand → AV) (hp : Heap) (o : Oper) : Option Res :=
  match o.op with
  | .binOp op _ x y _ => match hintFor hs o.dst with
    | some ⟨_, some []⟩ => divA op (ev x) (ev y)
    | _ => aOpS0 P hs ev hp o
  | _ => aOpS0 P hs ev hp o

/-- One operation's outcome, seen through a hint: without one, all tests are made; with one, what must hold is handed on. -/
def useHint (sym : Bool) (h : Option Hint) (r : Res) : Option (AV × Cmd × List Prop) :=
  match h with
  | none => if sym then some (r.2.1, r.2.2, Ck.props r.1) else if Ck.all r.1 then some (r.2.1, r.2.2, []) else none
  | some h => match h.cells with
    | none => some (h.av, r.2.2, Ck.props r.1 ++ [avEq r.2.1 h.av])
    | some l => some (h.av, r.2.2.withCells l, Ck.props r.1 ++ [avEq r.2.1 h.av, r.2.2.cells = l])

/-- A call: function, arguments, heap; the result, the heap behind it, what must hold. -/
abbrev CallT := FuncId → List AV → Heap → Option (AV × Heap × List Prop)

noncomputable def St.put (S : St) (dst : Option Tmp) (v : AV) : St :=
  match dst with
  | some d => { S with fr := setL S.fr d v }
  | none => S

def callee : AV → List AV → Option (FuncId × List AV)
  | .c (.func (.func f) first cap), args => if first.size = 0 ∧ cap.size = 0 then some (f, args) else none
  | .fn f cap, args => some (f, args ++ cap)
  | _, _ => none

/-- The name of the function that hands back its argument. -/
def noEscName : String := match Extern.AbiNoEscape.rows with
  | x :: _ => x.1
  | [] => ""

/-- The name of the function that looks for a byte in a text. -/
def idxName : String := "internal/bytealg.IndexByteString"

/-- A function without a body, carried out at once. -/
def extA (P : Program) (g : FuncId) (as : List AV) : Option AV :=
  match P.funcs[g]? with
  | some fn => if fn.body.isNone = true ∧ fn.name ≠ "runtime.NumGoroutine" then
      if fn.name = noEscName then
        if (Extern.findNext fn).isNone = true then
          match as with
          | [x] => some x
          | _ => none
        else none
      else if fn.name = idxName then
        if (Extern.findNext fn).isNone = true then
          match as with
          | [.c (.string s), .c (.int .u8 n)] => some (.c (.int .i64 (Lib.indexByte (sb s) n.toNat.toUInt8)))
          | _ => none
        else none
      else if as.all AV.isC = true then
        match pr P (callFunc g (as.map AV.conc).toArray) with
        | some (.value v) => some (.c v)
        | _ => none
      else none
    else none
  | none => none

noncomputable def doOp [Gv] (P : Program) (cl : CallT) (hs : Hints) (S : St) (o : Oper) : Option (St × List Prop) :=
  match o.op with
  | .call { callee := .value f, args, .. } =>
    match callee (aEv S.fr f) (args.toList.map (aEv S.fr)) with
    | some (g, as) => match extA P g as with
      | some r => match hintFor hs o.dst with
        | none => some (S.put o.dst r, [])
        | some h => some (S.put o.dst h.av, [avEq r h.av])
      | none => match cl g as S.hp with
        | some (r, hp', p) => match hintFor hs o.dst with
          | none => some ({ S with hp := hp' }.put o.dst r, p)
          | some h => some ({ S with hp := hp' }.put o.dst h.av, p ++ [avEq r h.av])
        | none => none
    | none => none
  | _ => match aOpS P hs (aEv S.fr) S.hp o with
    | some r => match useHint hs.sym (hintFor hs (hkey o)) r with
      | some (v, cmd, p) => some ({ S with hp := cmd.run S.hp }.put o.dst v, p)
      | none => none
    | none => none

/-- What a slot holds whose operation was left out. -/
def uAV : AV := .c (.tuple #[])

/-- Is an operation carried out? -/
noncomputable def wantA (ops : Array Oper) (fr : List AV) (o : Oper) : Option Bool :=
  match o.guard with
  | none => some true
  | some (j, want) => match (ops[j]?).bind (·.dst) with
    | some d => match getL fr d with
      | .c (.bool b) => some (b == want)
      | .c (.tuple _) => some false
      | _ => none
    | none => none

noncomputable def aOps [Gv] (P : Program) (cl : CallT) (hs : Hints) (ops : Array Oper) : List Oper → St → List Prop → Option (St × List Prop)
  | [], S, p => some (S, p)
  | o :: rest, S, p =>
    match wantA ops S.fr o with
    | some true => match doOp P cl hs S o with
      | some (S', q) => aOps P cl hs ops rest S' (p ++ q)
      | none => none
    | some false => aOps P cl hs ops rest (S.put o.dst uAV) p
    | none => none

def addAll : List Nat → List Nat → List Nat
  | [], acc => acc
  | x :: r, acc => addAll r (if acc.contains x then acc else x :: acc)

/-- The operations that come ahead of each one, by its edges and theirs. -/
def predsGo : List Oper → List (List Nat) → List (List Nat)
  | [], acc => acc
  | o :: r, acc => predsGo r (acc ++ [o.after.toList.foldl (fun l e => if Region.binds .any e then addAll (e.on :: acc.getD e.on []) l else l) []])

/-- Whichever order the edges allow, no operation sees another one's slot otherwise than in the order of the text. -/
def drawOk (ops : Array Oper) : Bool :=
  let ps := predsGo ops.toList []
  ((List.range ops.size).all fun j => match ops[j]? with
    | some o => o.after.toList.all fun e => !Region.binds .any e || decide (e.on < j)
    | none => true) &&
  (List.range ops.size).all fun j => (List.range j).all fun i =>
    (ps.getD j []).contains i ||
    (match ops[i]?, ops[j]? with
     | some o, some o' => o.apart ops o'
     | _, _ => true)

/-- How many operations at a region's end come, in whatever order, behind all that stands ahead of them. -/
def tailN (ps : List (List Nat)) : Nat → Nat
  | 0 => 0
  | j + 1 => if (List.range j).all fun i => (ps.getD j []).contains i then tailN ps j + 1 else 0

/-- Where the part of a region ends that may come up in several orders. -/
def headN (ops : Array Oper) : Nat := ops.size - tailN (predsGo ops.toList []) ops.size

/-- An operation that looks at slots alone. -/
def floatOk (o : Oper) : Bool := o.guard.isNone && match o.op with
  | .move _ | .assign _ | .binOp .add _ _ _ _ | .binOp .sub _ _ _ _ | .binOp .mul _ _ _ _ => true
  | _ => false

/-- Operation s stores; what may come up behind it, of what stands ahead, looks at slots alone. -/
def midOk (ops : Array Oper) (s : Nat) : Bool :=
  let ps := predsGo ops.toList []
  match ops[s]? with
  | some o => o.dst.isNone && o.guard.isNone && (match o.op with | .store .. => true | _ => false) && (List.range s).all fun i => (ps.getD s []).contains i || (match ops[i]? with | some o' => floatOk o' | none => false)
  | none => false

/-- Where what is carried out in whatever order ends. -/
def cutN (ops : Array Oper) : Nat := if midOk ops (headN ops - 1) = true then headN ops - 1 else headN ops

/-- The first region's number: by it a loop is known. -/
def Code.rid : Code → Option Nat
  | .region id _ _ => some id
  | .seq a b => match Code.rid a with
    | some i => some i
    | none => Code.rid b
  | .block _ b | .loop b | .scope b => Code.rid b
  | .cond _ a _ => Code.rid a
  | _ => none

mutual
/-- A value's references to owned blocks by new numbers ('m': the old number of each new block). -/
def AV.ren (m : List Nat) : AV → AV
  | .sl b off n => match m.findIdx? (· == b) with
    | some i => .sl i off n
    | none => .any
  | .pt b off => match m.findIdx? (· == b) with
    | some i => .pt i off
    | none => .any
  | .itr b => match m.findIdx? (· == b) with
    | some i => .itr i
    | none => .any
  | .ag l => .ag (AV.renAll m l)
  | .tu l => .tu (AV.renAll m l)
  | .fn f l => .fn f (AV.renAll m l)
  | a => a
def AV.renAll (m : List Nat) : List AV → List AV
  | [] => []
  | a :: r => AV.ren m a :: AV.renAll m r
end

def keepOnly (keep : List Nat) : Nat → List AV → List AV
  | _, [] => []
  | i, a :: r => (if keep.contains i then a else .any) :: keepOnly keep (i + 1) r

def renBlk (m : List Nat) (B : Blk) : Blk := if B.op then { B with cells := AV.renAll m B.cells } else B

/-- A state, with some slots forgotten, and its blocks by new numbers. -/
def St.fin (keep m : List Nat) (S : St) : St :=
  { fr := AV.renAll m (keepOnly keep 0 S.fr), hp := m.map fun b => (S.hp.getD b none).map (renBlk m) }

/-- Slots that hold the nil slice are told as empty slices of blocks of their own. -/
def St.virt : List (Nat × TypeId) → St → St
  | [], S => S
  | (t, e) :: r, S => match S.fr.getD t .any with
    | .c (.slice none 0 0) => St.virt r ⟨List.set S.fr t (.sl S.hp.length 0 0), S.hp ++ [some ⟨e, false, []⟩]⟩
    | _ => St.virt r S

/-- How a state is told anew: nil slices, slots that are kept, blocks. -/
structure Fi where
  ns : List (Nat × TypeId) := []
  keep : List Nat
  m : List Nat

def Fi.app (f : Fi) (S : St) : St := (S.virt f.ns).fin f.keep f.m

/-- What is known of a loop: its body, how the state at its head is told anew, that state, how it ends, and the state then. -/
structure Lp where
  body : Code
  fi : Fi
  E : St
  e : Exit
  R : St

def exitIs : Exit → Exit → Bool
  | .normal, .normal | .ret, .ret => true
  | .exit a, .exit b => a == b
  | _, _ => false

/-- An argument as a contract takes it: nothing of it refers to an owned block. -/
def freeze (hp : Heap) (P : Program) : AV → Option AV
  | .sl b off n => match hp[b]? with
    | some (some B) => if B.op then none else some (.fs (P.cellsOf B.e) n ((B.cells.drop (mulS off (P.cellsOf B.e))).take (mulS n (P.cellsOf B.e))))
    | _ => none
  | a => if a.closed then some a else none

/-- A pointer to a block that refers to no owned one: to cells that are only read. -/
def freezeArg (hp : Heap) (P : Program) : AV → Option AV
  | .pt b off => match hp[b]? with
    | some (some B) => if AV.closedAll B.cells then some (.fp (B.cells.drop off)) else none
    | _ => none
  | a => freeze hp P a

def freezeAll (hp : Heap) (P : Program) : List AV → Option (List AV)
  | [] => some []
  | a :: r => match freezeArg hp P a, freezeAll hp P r with
    | some x, some l => some (x :: l)
    | _, _ => none

/-- Nothing but plain values. -/
def flatV (hp : Heap) : AV → Bool
  | .c _ | .any => true
  | .ag l | .tu l => l.all AV.isC
  | .sl b _ _ => match hp[b]? with
    | some (some B) => B.cells.all AV.isC
    | _ => false
  | _ => false

/-- An operation among others in whatever order: it leaves the blocks alone; what it makes is only read. -/
noncomputable def doOpQ [Gv] (P : Program) (cl : CallT) (hs : Hints) (hp : Heap) (fr : List AV) (o : Oper) : Option (AV × List Prop) :=
  match o.op with
  | .call { callee := .value f, args, .. } =>
    match callee (aEv fr f) (args.toList.map (aEv fr)) with
    | some (g, l) => match extA P g l with
      | some r => match hintFor hs o.dst with
        | none => some (r, [])
        | some h => some (h.av, [avEq r h.av])
      | none => match freezeAll hp P l with
      | some l' => match cl g l' [] with
        | some (r, hp', p) =>
          if AV.closedAll l = true ∨ flatV hp' r = true then
            match freeze hp' P r with
            | some r' => match hintFor hs o.dst with
              | none => some (r', p)
              | some h => some (h.av, p ++ [avEq r' h.av])
            | none => none
          else none
        | none => none
      | none => none
    | none => none
  | _ => match aOpS P hs (aEv fr) hp o with
    | some r => match useHint hs.sym (hintFor hs (hkey o)) r with
      | some (v, .nop, p) => some (v, p)
      | some (.sl b off n, .push B, p) => if b = hp.length ∧ off = 0 ∧ B.op = false then some (.fs (P.cellsOf B.e) n (B.cells.take (mulS n (P.cellsOf B.e))), p) else none
      | _ => none
    | none => none

noncomputable def aOpsQ [Gv] (P : Program) (cl : CallT) (hs : Hints) (ops : Array Oper) (hp : Heap) : List Oper → List AV → List Prop → Option (List AV × List Prop)
  | [], fr, p => some (fr, p)
  | o :: rest, fr, p =>
    match wantA ops fr o with
    | some true => match doOpQ P cl hs hp fr o with
      | some (v, q) => aOpsQ P cl hs ops hp rest (St.put ⟨fr, hp⟩ o.dst v).fr (p ++ q)
      | none => none
    | some false => aOpsQ P cl hs ops hp rest (St.put ⟨fr, hp⟩ o.dst uAV).fr p
    | none => none

/-- The run of a piece of code. -/
noncomputable def aCode [Gv] (P : Program) (cl : CallT) (hs : Hints) (lp : Nat → Option Lp) : Nat → Code → St → Option (Exit × St × List Prop)
  | 0, _, _ => none
  | n + 1, code, S =>
    match code with
    | .skip => some (.normal, S, [])
    | .region _ ops false => match aOps P cl hs ops ops.toList S [] with
      | some (S', p) => some (.normal, S', p)
      | none => none
    | .region _ ops true => if drawOk ops then match aOpsQ P cl hs ops S.hp (ops.toList.take (cutN ops)) S.fr [] with
        | some (fr, p) => match aOps P cl hs ops (ops.toList.drop (cutN ops)) ⟨fr, S.hp⟩ p with
          | some (S', p') => some (.normal, S', p')
          | none => none
        | none => none
      else none
    | .seq x y => match aCode P cl hs lp n x S with
      | some (.normal, S', p) => match aCode P cl hs lp n y S' with
        | some (e, S'', q) => some (e, S'', p ++ q)
        | none => none
      | r => r
    | .cond c x y => match aEv S.fr c with
      | .c (.bool true) => aCode P cl hs lp n x S
      | .c (.bool false) => aCode P cl hs lp n y S
      | _ => none
    | .block id b => match aCode P cl hs lp n b S with
      | some (.exit id', S', p) => if id' = id then some (.normal, S', p) else some (.exit id', S', p)
      | r => r
    | .loop b => match (Code.rid b).bind lp with
      | some L => some (L.e, L.R, [b = L.body, L.fi.app S = L.E])
      | none => match aCode P cl hs lp n b S with
        | some (.normal, S', p) => match aCode P cl hs lp n (.loop b) S' with
          | some (e, S'', q) => some (e, S'', p ++ q)
          | none => none
        | r => r
    | .exit id => some (.exit id, S, [])
    | .ret => some (.ret, S, [])
    | _ => none

/-- One result: a slot, or what lies in a cell. -/
def resOne (P : Program) (fr : List AV) (hp : Heap) : ResultVar → Option AV
  | .tmp t => some (fr.getD t .any)
  | .cell a t => match fr.getD a .any with
    | .pt b off => match hp[b]? with
      | some (some B) => match ldAV P t (B.cells.drop off) with
        | some (k, v) => if Ck.all k = true then some v else none
        | none => none
      | _ => none
    | _ => none

def resAll (P : Program) (fr : List AV) (hp : Heap) : List ResultVar → Option (List AV)
  | [] => some []
  | x :: r => match resOne P fr hp x, resAll P fr hp r with
    | some a, some l => some (a :: l)
    | _, _ => none

def resTu : List AV → AV
  | [a] => a
  | l => .tu l

def resAV (P : Program) (fr : List AV) (hp : Heap) (l : List ResultVar) : Option AV := (resAll P fr hp l).map resTu

/-- A call of a function with a body, its code run. -/
noncomputable def aBody [Gv] (P : Program) (cl : CallT) (hs : Hints) (lp : Nat → Option Lp) (fuel : Nat) (f : FuncId) (args : List AV) (hp : Heap) : Option (AV × Heap × List Prop) :=
  match P.funcs[f]? with
  | some fn => match fn.body with
    | some c =>
      if fn.name = "runtime.NumGoroutine" then none else
      match aCode P cl hs lp fuel c ⟨args ++ List.replicate (fn.ntmps - args.length) .any, hp⟩ with
      | some (.normal, S', p) => (resAV P S'.fr S'.hp fn.results.toList).map fun r => (r, S'.hp, p)
      | some (.ret, S', p) => (resAV P S'.fr S'.hp fn.results.toList).map fun r => (r, S'.hp, p)
      | _ => none
    | none => none
  | none => none

/-- A contract: frozen arguments to a result (a plain value, or a new slice's cells), and what must hold of them. -/
abbrev Spec := List AV → Option (AV × List Prop)

abbrev Specs := FuncId → Option Spec

def elemT (P : Program) (f : FuncId) : Option TypeId :=
  match P.funcs[f]? with
  | some fn => match fn.resultTypes.toList with
    | [t] => match P.underlying t with
      | some (.slice e) => some e
      | _ => none
    | _ => none
  | none => none

def bySpec (P : Program) (f : FuncId) (args : List AV) (hp : Heap) : AV × List Prop → Option (AV × Heap × List Prop)
  | (.fs s n l, q) => match elemT P f with
    | some e => if s = P.cellsOf e then some (.sl hp.length 0 n, hp ++ [some ⟨e, false, l⟩], q ++ if AV.closedAll args then [] else [∀ x ∈ l, x.isC = true]) else none
    | none => none
  | (r, q) => some (r, hp, q ++ if AV.closedAll args then [] else [flatV [] r = true])

noncomputable def aCall [Gv] (P : Program) (sg : Specs) (fuel : Nat) : Nat → CallT
  | 0 => fun _ _ _ => none
  | n + 1 => fun f args hp => match sg f with
    | some spec => match freezeAll hp P args with
      | some as => match spec as with
        | some r => bySpec P f args hp r
        | none => none
      | none => none
    | none => aBody P (aCall P sg fuel n) {} (fun _ => none) fuel f args hp

/-- A body's outcome, as a contract tells it. -/
def outcome (P : Program) (f : FuncId) : Option (AV × Heap × List Prop) → Option (AV × List Prop)
  | some (.sl b 0 n, hp, p) => match elemT P f, hp[b]? with
    | some e, some (some B) => if B.e = e ∧ B.op = false then some (.fs (P.cellsOf e) n B.cells, p) else none
    | _, _ => none
  | some (.fs .., _, _) => none
  | some (r, _, p) => if r.closed then some (r, p) else none
  | none => none

end Go.Proofs.Ytljgmgbjfjhjmaa
