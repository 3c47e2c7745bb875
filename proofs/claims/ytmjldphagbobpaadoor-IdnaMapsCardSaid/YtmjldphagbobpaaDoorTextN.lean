import Derived.Test.YtmjldphagbobpaaDoorBldB
import Derived.Test.YtmjldphagbobpaaDoorBldA
import Derived.Lib.DecodeN
import Derived.Lib.DecodeNEq
import Derived.Lib.ValidLaws
import Derived.Test.YtmjldphagbobpaaDoorInts
set_option linter.unusedVariables false
set_option linter.unusedSimpArgs false
namespace Go.Proofs.YtmjldphagbobpaaDoor
open IntKind (i64 u8 i32 u32 u64)
open _root_.Go.Proofs.Tryd renaming prog→p_
open Go.RowKit
def bN (l:List UInt8)(i:Nat):Nat:=(l.getD i 0).toNat
def m6_ (l:List UInt8):Bool:=
  if l.length=0 then false
  else if Lib.firstT (bN l 0)%8≤l.length then true
  else if 1<l.length∧(bN l 1<Lib.accLo (Lib.firstT (bN l 0)/16)∨Lib.accHi (Lib.firstT (bN l 0)/16)<bN l 1)then true
  else if 2<l.length∧(bN l 2<128∨191<bN l 2)then true
  else false
theorem h9_ (b:Nat):Lib.firstT b<256:=by
  unfold Lib.firstT
  repeat' split
  all_goals omega
theorem o3_:t0_.length=256:=by simp[t0_]
theorem i2_ {c:Nat}(h:c<256):y0_ ((List.drop c t0_).headD .any) (.c (.int .u8 (Lib.firstT c))):=by
  have e:(List.drop c t0_).headD .any= .c (.int .u8 (Lib.firstT c)):=by
    have h1:(List.drop c t0_).headD .any=t0_.getD c .any:=by
      have h2:List.drop c t0_=t0_[c]'(by rw[o3_];exact h)::List.drop (c+1) t0_:=List.drop_eq_getElem_cons (by rw[o3_];exact h)
      rw[h2]
      simp[List.getD,o3_,h]
    rw[h1]
    simp[t0_,List.getD,h]
  rw[e]
  exact u3_ _
theorem and7 {x:Nat}(h:x<256):i64.wrap (u8.wrap ((BitVec.ofInt IntKind.u8.bits (x:Int) &&& BitVec.ofInt IntKind.u8.bits 7).toNat:Int))=((x%8:Nat):Int):=by
  have k:∀y:Fin 256,i64.wrap (u8.wrap ((BitVec.ofInt IntKind.u8.bits (y.val:Int) &&& BitVec.ofInt IntKind.u8.bits 7).toNat:Int))=((y.val%8:Nat):Int):=by decide+kernel
  exact k ⟨x,h⟩
theorem shr4 (x:Nat):((x:Nat):Int).fdiv (2^4)=((x/16:Nat):Int):=by
  rw[Int.fdiv_eq_ediv_of_nonneg _ (by decide)]
  omega
theorem m9_:s6_.length=32:=by decide
theorem k5_ {i:Nat}(h:i<16):y0_ (.ag (List.take 2 (List.drop (i*2) s6_))) (.ag [.c (.int .u8 (Lib.accLo i)),.c (.int .u8 (Lib.accHi i))]):=by
  have e:List.take 2 (List.drop (i*2) s6_)=[.c (.int .u8 (Lib.accLo i)),.c (.int .u8 (Lib.accHi i))]:=by
    have h16:i=0∨i=1∨i=2∨i=3∨i=4∨i=5∨i=6∨i=7∨i=8∨i=9∨i=10∨i=11∨i=12∨i=13∨i=14∨i=15:=by omega
    rcases h16 with rfl|rfl|rfl|rfl|rfl|rfl|rfl|rfl|rfl|rfl|rfl|rfl|rfl|rfl|rfl|rfl<;>rfl
  rw[e]
  exact u3_ _
theorem n2_ (l:List UInt8)(i:Nat):(l.getD i 0).toNat=bN l i:=rfl
theorem c2_ (l:List UInt8)(i:Nat):bN l i<256:=UInt8.toNat_lt _
noncomputable def full_X (l:List UInt8)(n:Nat)(h_:List (Nat×Bool)):=y3_ p_ 50 (z8_ p_ cl0 ⟨true,bs h_++([(13,⟨.c (.int .u8 (Lib.firstT (bN l 0))),none⟩),(17,⟨.c (.int .i64 ((Lib.firstT (bN l 0)%8:Nat):Int)),none⟩),(20,⟨.c (.int .u8 ((Lib.firstT (bN l 0)/16:Nat):Int)),none⟩),(22,⟨.ag [.c (.int .u8 (Lib.accLo (Lib.firstT (bN l 0)/16))),.c (.int .u8 (Lib.accHi (Lib.firstT (bN l 0)/16)))],none⟩)])⟩ (y1_ ([])) 60 50 ([.c (str l)]) ([]))
theorem full_1 (l:List UInt8)(n:Nat):full_X l n [(9,false),(18,true)]=some ((AV.c ((Value.bool true))),[((↑l.length:Int)==(0:Int))=false,
 (0:Int)≤0,
 (0:Int)<↑l.length,
 (((0:Int):Int)≤((↑(l.getD (Int.toNat (0:Int)) (0:UInt8)).toNat:Int))),
 (((↑(l.getD (Int.toNat (0:Int)) (0:UInt8)).toNat:Int):Int)<((↑(256:Nat):Int))),
 (((0:Nat):Nat)<((List.drop (l.getD (Int.toNat (0:Int)) (0:UInt8)).toNat t0_).length)),
 y0_ ((List.drop (l.getD (Int.toNat (0:Int)) (0:UInt8)).toNat t0_).headD AV.any) ((AV.c ((Value.int .u8 ((↑(Lib.firstT (bN l (0:Nat))):Int)))))),
 ((i64.wrap (u8.wrap (↑(BitVec.ofInt IntKind.u8.bits (↑(Lib.firstT (bN l (0:Nat))):Int) &&& BitVec.ofInt IntKind.u8.bits (7:Int)).toNat:Int)):Int))=((↑(Lib.firstT (bN l (0:Nat))%(8:Nat)):Int)),
 (decide ((↑l.length:Int)≥(↑(Lib.firstT (bN l (0:Nat))%(8:Nat)):Int)))=true]):=by kernel_rfl
theorem full_2 (l:List UInt8)(n:Nat):full_X l n [(9,false),(18,false),(24,true),(30,true)]=some ((AV.c ((Value.bool true))),[((↑l.length:Int)==(0:Int))=false,
 (0:Int)≤0,
 (0:Int)<↑l.length,
 (((0:Int):Int)≤((↑(l.getD (Int.toNat (0:Int)) (0:UInt8)).toNat:Int))),
 (((↑(l.getD (Int.toNat (0:Int)) (0:UInt8)).toNat:Int):Int)<((↑(256:Nat):Int))),
 (((0:Nat):Nat)<((List.drop (l.getD (Int.toNat (0:Int)) (0:UInt8)).toNat t0_).length)),
 y0_ ((List.drop (l.getD (Int.toNat (0:Int)) (0:UInt8)).toNat t0_).headD AV.any) ((AV.c ((Value.int .u8 ((↑(Lib.firstT (bN l (0:Nat))):Int)))))),
 ((i64.wrap (u8.wrap (↑(BitVec.ofInt IntKind.u8.bits (↑(Lib.firstT (bN l (0:Nat))):Int) &&& BitVec.ofInt IntKind.u8.bits (7:Int)).toNat:Int)):Int))=((↑(Lib.firstT (bN l (0:Nat))%(8:Nat)):Int)),
 (decide ((↑l.length:Int)≥(↑(Lib.firstT (bN l (0:Nat))%(8:Nat)):Int)))=false,
 (((↑(Lib.firstT (bN l (0:Nat))):Int).fdiv ((2:Int)^(4:Nat)):Int))=((↑(Lib.firstT (bN l (0:Nat))/(16:Nat)):Int)),
 (((0:Int):Int)≤((↑(Lib.firstT (bN l (0:Nat))/(16:Nat)):Int))),
 (((↑(Lib.firstT (bN l (0:Nat))/(16:Nat)):Int):Int)<((↑(16:Nat):Int))),
 (((2:Nat):Nat)≤((List.drop (Lib.firstT (bN l (0:Nat))/(16:Nat)*nat_lit 2) s6_).length)),
 y0_ ((AV.ag (List.take (2:Nat) (List.drop (Lib.firstT (bN l (0:Nat))/(16:Nat)*nat_lit 2) s6_)))) ((AV.ag [(AV.c ((Value.int .u8 ((↑(Lib.accLo (Lib.firstT (bN l (0:Nat))/(16:Nat))):Int))))),(AV.c ((Value.int .u8 ((↑(Lib.accHi (Lib.firstT (bN l (0:Nat))/(16:Nat))):Int)))))])),
 (((2:Nat):Nat)≤((2:Nat))),
 decide ((↑l.length:Int)>1)=true,
 (0:Int)≤1,
 (1:Int)<↑l.length,
 (((0:Nat):Nat)<((2:Nat))),
 (decide ((↑(l.getD (Int.toNat (1:Int)) (0:UInt8)).toNat:Int)<(↑(Lib.accLo (Lib.firstT (bN l (0:Nat))/(16:Nat))):Int)))=true]):=by kernel_rfl
theorem full_3 (l:List UInt8)(n:Nat):full_X l n [(9,false),(18,false),(24,true),(30,false),(36,true)]=some ((AV.c ((Value.bool true))),[((↑l.length:Int)==(0:Int))=false,
 (0:Int)≤0,
 (0:Int)<↑l.length,
 (((0:Int):Int)≤((↑(l.getD (Int.toNat (0:Int)) (0:UInt8)).toNat:Int))),
 (((↑(l.getD (Int.toNat (0:Int)) (0:UInt8)).toNat:Int):Int)<((↑(256:Nat):Int))),
 (((0:Nat):Nat)<((List.drop (l.getD (Int.toNat (0:Int)) (0:UInt8)).toNat t0_).length)),
 y0_ ((List.drop (l.getD (Int.toNat (0:Int)) (0:UInt8)).toNat t0_).headD AV.any) ((AV.c ((Value.int .u8 ((↑(Lib.firstT (bN l (0:Nat))):Int)))))),
 ((i64.wrap (u8.wrap (↑(BitVec.ofInt IntKind.u8.bits (↑(Lib.firstT (bN l (0:Nat))):Int) &&& BitVec.ofInt IntKind.u8.bits (7:Int)).toNat:Int)):Int))=((↑(Lib.firstT (bN l (0:Nat))%(8:Nat)):Int)),
 (decide ((↑l.length:Int)≥(↑(Lib.firstT (bN l (0:Nat))%(8:Nat)):Int)))=false,
 (((↑(Lib.firstT (bN l (0:Nat))):Int).fdiv ((2:Int)^(4:Nat)):Int))=((↑(Lib.firstT (bN l (0:Nat))/(16:Nat)):Int)),
 (((0:Int):Int)≤((↑(Lib.firstT (bN l (0:Nat))/(16:Nat)):Int))),
 (((↑(Lib.firstT (bN l (0:Nat))/(16:Nat)):Int):Int)<((↑(16:Nat):Int))),
 (((2:Nat):Nat)≤((List.drop (Lib.firstT (bN l (0:Nat))/(16:Nat)*nat_lit 2) s6_).length)),
 y0_ ((AV.ag (List.take (2:Nat) (List.drop (Lib.firstT (bN l (0:Nat))/(16:Nat)*nat_lit 2) s6_)))) ((AV.ag [(AV.c ((Value.int .u8 ((↑(Lib.accLo (Lib.firstT (bN l (0:Nat))/(16:Nat))):Int))))),(AV.c ((Value.int .u8 ((↑(Lib.accHi (Lib.firstT (bN l (0:Nat))/(16:Nat))):Int)))))])),
 (((2:Nat):Nat)≤((2:Nat))),
 decide ((↑l.length:Int)>1)=true,
 (0:Int)≤1,
 (1:Int)<↑l.length,
 (((0:Nat):Nat)<((2:Nat))),
 (decide ((↑(l.getD (Int.toNat (1:Int)) (0:UInt8)).toNat:Int)<(↑(Lib.accLo (Lib.firstT (bN l (0:Nat))/(16:Nat))):Int)))=false,
 (((0:Nat):Nat)<((1:Nat))),
 (0:Int)≤1,
 (1:Int)<↑l.length,
 (decide ((↑(Lib.accHi (Lib.firstT (bN l (0:Nat))/(16:Nat))):Int)<(↑(l.getD (Int.toNat (1:Int)) (0:UInt8)).toNat:Int)))=true]):=by kernel_rfl
theorem full_4 (l:List UInt8)(n:Nat):full_X l n [(9,false),(18,false),(24,true),(30,false),(36,false),(40,true),(44,true)]=some ((AV.c ((Value.bool true))),[((↑l.length:Int)==(0:Int))=false,
 (0:Int)≤0,
 (0:Int)<↑l.length,
 (((0:Int):Int)≤((↑(l.getD (Int.toNat (0:Int)) (0:UInt8)).toNat:Int))),
 (((↑(l.getD (Int.toNat (0:Int)) (0:UInt8)).toNat:Int):Int)<((↑(256:Nat):Int))),
 (((0:Nat):Nat)<((List.drop (l.getD (Int.toNat (0:Int)) (0:UInt8)).toNat t0_).length)),
 y0_ ((List.drop (l.getD (Int.toNat (0:Int)) (0:UInt8)).toNat t0_).headD AV.any) ((AV.c ((Value.int .u8 ((↑(Lib.firstT (bN l (0:Nat))):Int)))))),
 ((i64.wrap (u8.wrap (↑(BitVec.ofInt IntKind.u8.bits (↑(Lib.firstT (bN l (0:Nat))):Int) &&& BitVec.ofInt IntKind.u8.bits (7:Int)).toNat:Int)):Int))=((↑(Lib.firstT (bN l (0:Nat))%(8:Nat)):Int)),
 (decide ((↑l.length:Int)≥(↑(Lib.firstT (bN l (0:Nat))%(8:Nat)):Int)))=false,
 (((↑(Lib.firstT (bN l (0:Nat))):Int).fdiv ((2:Int)^(4:Nat)):Int))=((↑(Lib.firstT (bN l (0:Nat))/(16:Nat)):Int)),
 (((0:Int):Int)≤((↑(Lib.firstT (bN l (0:Nat))/(16:Nat)):Int))),
 (((↑(Lib.firstT (bN l (0:Nat))/(16:Nat)):Int):Int)<((↑(16:Nat):Int))),
 (((2:Nat):Nat)≤((List.drop (Lib.firstT (bN l (0:Nat))/(16:Nat)*nat_lit 2) s6_).length)),
 y0_ ((AV.ag (List.take (2:Nat) (List.drop (Lib.firstT (bN l (0:Nat))/(16:Nat)*nat_lit 2) s6_)))) ((AV.ag [(AV.c ((Value.int .u8 ((↑(Lib.accLo (Lib.firstT (bN l (0:Nat))/(16:Nat))):Int))))),(AV.c ((Value.int .u8 ((↑(Lib.accHi (Lib.firstT (bN l (0:Nat))/(16:Nat))):Int)))))])),
 (((2:Nat):Nat)≤((2:Nat))),
 decide ((↑l.length:Int)>1)=true,
 (0:Int)≤1,
 (1:Int)<↑l.length,
 (((0:Nat):Nat)<((2:Nat))),
 (decide ((↑(l.getD (Int.toNat (1:Int)) (0:UInt8)).toNat:Int)<(↑(Lib.accLo (Lib.firstT (bN l (0:Nat))/(16:Nat))):Int)))=false,
 (((0:Nat):Nat)<((1:Nat))),
 (0:Int)≤1,
 (1:Int)<↑l.length,
 (decide ((↑(Lib.accHi (Lib.firstT (bN l (0:Nat))/(16:Nat))):Int)<(↑(l.getD (Int.toNat (1:Int)) (0:UInt8)).toNat:Int)))=false,
 decide ((↑l.length:Int)>2)=true,
 (0:Int)≤2,
 (2:Int)<↑l.length,
 (decide ((↑(l.getD (Int.toNat (2:Int)) (0:UInt8)).toNat:Int)<(128:Int)))=true]):=by kernel_rfl
theorem full_5 (l:List UInt8)(n:Nat):full_X l n [(9,false),(18,false),(24,true),(30,false),(36,false),(40,true),(44,false),(48,true)]=some ((AV.c ((Value.bool true))),[((↑l.length:Int)==(0:Int))=false,
 (0:Int)≤0,
 (0:Int)<↑l.length,
 (((0:Int):Int)≤((↑(l.getD (Int.toNat (0:Int)) (0:UInt8)).toNat:Int))),
 (((↑(l.getD (Int.toNat (0:Int)) (0:UInt8)).toNat:Int):Int)<((↑(256:Nat):Int))),
 (((0:Nat):Nat)<((List.drop (l.getD (Int.toNat (0:Int)) (0:UInt8)).toNat t0_).length)),
 y0_ ((List.drop (l.getD (Int.toNat (0:Int)) (0:UInt8)).toNat t0_).headD AV.any) ((AV.c ((Value.int .u8 ((↑(Lib.firstT (bN l (0:Nat))):Int)))))),
 ((i64.wrap (u8.wrap (↑(BitVec.ofInt IntKind.u8.bits (↑(Lib.firstT (bN l (0:Nat))):Int) &&& BitVec.ofInt IntKind.u8.bits (7:Int)).toNat:Int)):Int))=((↑(Lib.firstT (bN l (0:Nat))%(8:Nat)):Int)),
 (decide ((↑l.length:Int)≥(↑(Lib.firstT (bN l (0:Nat))%(8:Nat)):Int)))=false,
 (((↑(Lib.firstT (bN l (0:Nat))):Int).fdiv ((2:Int)^(4:Nat)):Int))=((↑(Lib.firstT (bN l (0:Nat))/(16:Nat)):Int)),
 (((0:Int):Int)≤((↑(Lib.firstT (bN l (0:Nat))/(16:Nat)):Int))),
 (((↑(Lib.firstT (bN l (0:Nat))/(16:Nat)):Int):Int)<((↑(16:Nat):Int))),
 (((2:Nat):Nat)≤((List.drop (Lib.firstT (bN l (0:Nat))/(16:Nat)*nat_lit 2) s6_).length)),
 y0_ ((AV.ag (List.take (2:Nat) (List.drop (Lib.firstT (bN l (0:Nat))/(16:Nat)*nat_lit 2) s6_)))) ((AV.ag [(AV.c ((Value.int .u8 ((↑(Lib.accLo (Lib.firstT (bN l (0:Nat))/(16:Nat))):Int))))),(AV.c ((Value.int .u8 ((↑(Lib.accHi (Lib.firstT (bN l (0:Nat))/(16:Nat))):Int)))))])),
 (((2:Nat):Nat)≤((2:Nat))),
 decide ((↑l.length:Int)>1)=true,
 (0:Int)≤1,
 (1:Int)<↑l.length,
 (((0:Nat):Nat)<((2:Nat))),
 (decide ((↑(l.getD (Int.toNat (1:Int)) (0:UInt8)).toNat:Int)<(↑(Lib.accLo (Lib.firstT (bN l (0:Nat))/(16:Nat))):Int)))=false,
 (((0:Nat):Nat)<((1:Nat))),
 (0:Int)≤1,
 (1:Int)<↑l.length,
 (decide ((↑(Lib.accHi (Lib.firstT (bN l (0:Nat))/(16:Nat))):Int)<(↑(l.getD (Int.toNat (1:Int)) (0:UInt8)).toNat:Int)))=false,
 decide ((↑l.length:Int)>2)=true,
 (0:Int)≤2,
 (2:Int)<↑l.length,
 (decide ((↑(l.getD (Int.toNat (2:Int)) (0:UInt8)).toNat:Int)<(128:Int)))=false,
 (0:Int)≤2,
 (2:Int)<↑l.length,
 (decide ((191:Int)<(↑(l.getD (Int.toNat (2:Int)) (0:UInt8)).toNat:Int)))=true]):=by kernel_rfl
theorem full_6 (l:List UInt8)(n:Nat):full_X l n [(9,false),(18,false),(24,true),(30,false),(36,false),(40,true),(44,false),(48,false)]=some ((AV.c ((Value.bool false))),[((↑l.length:Int)==(0:Int))=false,
 (0:Int)≤0,
 (0:Int)<↑l.length,
 (((0:Int):Int)≤((↑(l.getD (Int.toNat (0:Int)) (0:UInt8)).toNat:Int))),
 (((↑(l.getD (Int.toNat (0:Int)) (0:UInt8)).toNat:Int):Int)<((↑(256:Nat):Int))),
 (((0:Nat):Nat)<((List.drop (l.getD (Int.toNat (0:Int)) (0:UInt8)).toNat t0_).length)),
 y0_ ((List.drop (l.getD (Int.toNat (0:Int)) (0:UInt8)).toNat t0_).headD AV.any) ((AV.c ((Value.int .u8 ((↑(Lib.firstT (bN l (0:Nat))):Int)))))),
 ((i64.wrap (u8.wrap (↑(BitVec.ofInt IntKind.u8.bits (↑(Lib.firstT (bN l (0:Nat))):Int) &&& BitVec.ofInt IntKind.u8.bits (7:Int)).toNat:Int)):Int))=((↑(Lib.firstT (bN l (0:Nat))%(8:Nat)):Int)),
 (decide ((↑l.length:Int)≥(↑(Lib.firstT (bN l (0:Nat))%(8:Nat)):Int)))=false,
 (((↑(Lib.firstT (bN l (0:Nat))):Int).fdiv ((2:Int)^(4:Nat)):Int))=((↑(Lib.firstT (bN l (0:Nat))/(16:Nat)):Int)),
 (((0:Int):Int)≤((↑(Lib.firstT (bN l (0:Nat))/(16:Nat)):Int))),
 (((↑(Lib.firstT (bN l (0:Nat))/(16:Nat)):Int):Int)<((↑(16:Nat):Int))),
 (((2:Nat):Nat)≤((List.drop (Lib.firstT (bN l (0:Nat))/(16:Nat)*nat_lit 2) s6_).length)),
 y0_ ((AV.ag (List.take (2:Nat) (List.drop (Lib.firstT (bN l (0:Nat))/(16:Nat)*nat_lit 2) s6_)))) ((AV.ag [(AV.c ((Value.int .u8 ((↑(Lib.accLo (Lib.firstT (bN l (0:Nat))/(16:Nat))):Int))))),(AV.c ((Value.int .u8 ((↑(Lib.accHi (Lib.firstT (bN l (0:Nat))/(16:Nat))):Int)))))])),
 (((2:Nat):Nat)≤((2:Nat))),
 decide ((↑l.length:Int)>1)=true,
 (0:Int)≤1,
 (1:Int)<↑l.length,
 (((0:Nat):Nat)<((2:Nat))),
 (decide ((↑(l.getD (Int.toNat (1:Int)) (0:UInt8)).toNat:Int)<(↑(Lib.accLo (Lib.firstT (bN l (0:Nat))/(16:Nat))):Int)))=false,
 (((0:Nat):Nat)<((1:Nat))),
 (0:Int)≤1,
 (1:Int)<↑l.length,
 (decide ((↑(Lib.accHi (Lib.firstT (bN l (0:Nat))/(16:Nat))):Int)<(↑(l.getD (Int.toNat (1:Int)) (0:UInt8)).toNat:Int)))=false,
 decide ((↑l.length:Int)>2)=true,
 (0:Int)≤2,
 (2:Int)<↑l.length,
 (decide ((↑(l.getD (Int.toNat (2:Int)) (0:UInt8)).toNat:Int)<(128:Int)))=false,
 (0:Int)≤2,
 (2:Int)<↑l.length,
 (decide ((191:Int)<(↑(l.getD (Int.toNat (2:Int)) (0:UInt8)).toNat:Int)))=false]):=by kernel_rfl
theorem full_7 (l:List UInt8)(n:Nat):full_X l n [(9,false),(18,false),(24,true),(30,false),(36,false),(40,false)]=some ((AV.c ((Value.bool false))),[((↑l.length:Int)==(0:Int))=false,
 (0:Int)≤0,
 (0:Int)<↑l.length,
 (((0:Int):Int)≤((↑(l.getD (Int.toNat (0:Int)) (0:UInt8)).toNat:Int))),
 (((↑(l.getD (Int.toNat (0:Int)) (0:UInt8)).toNat:Int):Int)<((↑(256:Nat):Int))),
 (((0:Nat):Nat)<((List.drop (l.getD (Int.toNat (0:Int)) (0:UInt8)).toNat t0_).length)),
 y0_ ((List.drop (l.getD (Int.toNat (0:Int)) (0:UInt8)).toNat t0_).headD AV.any) ((AV.c ((Value.int .u8 ((↑(Lib.firstT (bN l (0:Nat))):Int)))))),
 ((i64.wrap (u8.wrap (↑(BitVec.ofInt IntKind.u8.bits (↑(Lib.firstT (bN l (0:Nat))):Int) &&& BitVec.ofInt IntKind.u8.bits (7:Int)).toNat:Int)):Int))=((↑(Lib.firstT (bN l (0:Nat))%(8:Nat)):Int)),
 (decide ((↑l.length:Int)≥(↑(Lib.firstT (bN l (0:Nat))%(8:Nat)):Int)))=false,
 (((↑(Lib.firstT (bN l (0:Nat))):Int).fdiv ((2:Int)^(4:Nat)):Int))=((↑(Lib.firstT (bN l (0:Nat))/(16:Nat)):Int)),
 (((0:Int):Int)≤((↑(Lib.firstT (bN l (0:Nat))/(16:Nat)):Int))),
 (((↑(Lib.firstT (bN l (0:Nat))/(16:Nat)):Int):Int)<((↑(16:Nat):Int))),
 (((2:Nat):Nat)≤((List.drop (Lib.firstT (bN l (0:Nat))/(16:Nat)*nat_lit 2) s6_).length)),
 y0_ ((AV.ag (List.take (2:Nat) (List.drop (Lib.firstT (bN l (0:Nat))/(16:Nat)*nat_lit 2) s6_)))) ((AV.ag [(AV.c ((Value.int .u8 ((↑(Lib.accLo (Lib.firstT (bN l (0:Nat))/(16:Nat))):Int))))),(AV.c ((Value.int .u8 ((↑(Lib.accHi (Lib.firstT (bN l (0:Nat))/(16:Nat))):Int)))))])),
 (((2:Nat):Nat)≤((2:Nat))),
 decide ((↑l.length:Int)>1)=true,
 (0:Int)≤1,
 (1:Int)<↑l.length,
 (((0:Nat):Nat)<((2:Nat))),
 (decide ((↑(l.getD (Int.toNat (1:Int)) (0:UInt8)).toNat:Int)<(↑(Lib.accLo (Lib.firstT (bN l (0:Nat))/(16:Nat))):Int)))=false,
 (((0:Nat):Nat)<((1:Nat))),
 (0:Int)≤1,
 (1:Int)<↑l.length,
 (decide ((↑(Lib.accHi (Lib.firstT (bN l (0:Nat))/(16:Nat))):Int)<(↑(l.getD (Int.toNat (1:Int)) (0:UInt8)).toNat:Int)))=false,
 decide ((↑l.length:Int)>2)=false]):=by kernel_rfl
theorem full_8 (l:List UInt8)(n:Nat):full_X l n [(9,false),(18,false),(24,false),(40,false)]=some ((AV.c ((Value.bool false))),[((↑l.length:Int)==(0:Int))=false,
 (0:Int)≤0,
 (0:Int)<↑l.length,
 (((0:Int):Int)≤((↑(l.getD (Int.toNat (0:Int)) (0:UInt8)).toNat:Int))),
 (((↑(l.getD (Int.toNat (0:Int)) (0:UInt8)).toNat:Int):Int)<((↑(256:Nat):Int))),
 (((0:Nat):Nat)<((List.drop (l.getD (Int.toNat (0:Int)) (0:UInt8)).toNat t0_).length)),
 y0_ ((List.drop (l.getD (Int.toNat (0:Int)) (0:UInt8)).toNat t0_).headD AV.any) ((AV.c ((Value.int .u8 ((↑(Lib.firstT (bN l (0:Nat))):Int)))))),
 ((i64.wrap (u8.wrap (↑(BitVec.ofInt IntKind.u8.bits (↑(Lib.firstT (bN l (0:Nat))):Int) &&& BitVec.ofInt IntKind.u8.bits (7:Int)).toNat:Int)):Int))=((↑(Lib.firstT (bN l (0:Nat))%(8:Nat)):Int)),
 (decide ((↑l.length:Int)≥(↑(Lib.firstT (bN l (0:Nat))%(8:Nat)):Int)))=false,
 (((↑(Lib.firstT (bN l (0:Nat))):Int).fdiv ((2:Int)^(4:Nat)):Int))=((↑(Lib.firstT (bN l (0:Nat))/(16:Nat)):Int)),
 (((0:Int):Int)≤((↑(Lib.firstT (bN l (0:Nat))/(16:Nat)):Int))),
 (((↑(Lib.firstT (bN l (0:Nat))/(16:Nat)):Int):Int)<((↑(16:Nat):Int))),
 (((2:Nat):Nat)≤((List.drop (Lib.firstT (bN l (0:Nat))/(16:Nat)*nat_lit 2) s6_).length)),
 y0_ ((AV.ag (List.take (2:Nat) (List.drop (Lib.firstT (bN l (0:Nat))/(16:Nat)*nat_lit 2) s6_)))) ((AV.ag [(AV.c ((Value.int .u8 ((↑(Lib.accLo (Lib.firstT (bN l (0:Nat))/(16:Nat))):Int))))),(AV.c ((Value.int .u8 ((↑(Lib.accHi (Lib.firstT (bN l (0:Nat))/(16:Nat))):Int)))))])),
 (((2:Nat):Nat)≤((2:Nat))),
 decide ((↑l.length:Int)>1)=false,
 decide ((↑l.length:Int)>2)=false]):=by kernel_rfl
theorem full_all (l:List UInt8)(n:Nat)(h0:l.length=n)(h1:0<n):∃(h:Hints) (p:List Prop),y3_ p_ 50 (z8_ p_ cl0 h (y1_ ([])) 60 50 ([.c (str l)]) ([]))=some (.c (.bool (m6_ l)),p)∧z7_ p:=by
  cases hc18:(decide ((↑l.length:Int)≥(↑(Lib.firstT (bN l (0:Nat))%(8:Nat)):Int)):Bool)with
  |true=>
   have eR:=full_1 l n
   refine⟨_,_,eR.trans (congrArg (fun r=>some (r,_)) ?_),?_⟩
   ·try clear eR
    simp only[decide_eq_true_eq,decide_eq_false_iff_not,beq_iff_eq,beq_eq_false_iff_ne,ne_eq]at*
    try simp only[r9_,q0_,n2_]at*
    refine congrArg (fun b=>AV.c (Value.bool b)) ?_
    unfold m6_
    generalize Lib.firstT (bN l 0)%8=x7 at*
    generalize Lib.accLo (Lib.firstT (bN l 0)/16)=lo at*
    generalize Lib.accHi (Lib.firstT (bN l 0)/16)=hi at*
    generalize bN l 1=b1 at*
    generalize bN l 2=b2 at*
    repeat' split
    all_goals first|rfl|omega
   ·clear eR
    simp only[decide_eq_true_eq,decide_eq_false_iff_not,beq_iff_eq,beq_eq_false_iff_ne,ne_eq]at*
    simp only[z7_,decide_eq_true_eq,decide_eq_false_iff_not,beq_iff_eq,beq_eq_false_iff_ne,ne_eq]
    try simp only[l7_,r9_,q0_,n2_]at*
    have hb:=c2_ l 0
    have hx:=h9_ (bN l 0)
    have f1:=i2_ hb
    have f2:=and7 hx
    have f3:=shr4 (Lib.firstT (bN l 0))
    have f4:=k5_ (i:=Lib.firstT (bN l 0)/16) (by omega)
    simp only[f1,f2,f3,f4,l7_,r9_,q0_,n2_,List.length_drop,o3_,m9_,and_true,true_and]
    clear f1 f2 f3 f4
    repeat' apply And.intro
    all_goals omega
  |false=>
   cases hc24:(decide ((↑l.length:Int)>(1:Int)):Bool)with
   |true=>
    cases hc30:(decide ((↑(l.getD (Int.toNat (1:Int)) (0:UInt8)).toNat:Int)<(↑(Lib.accLo (Lib.firstT (bN l (0:Nat))/(16:Nat))):Int)):Bool)with
    |true=>
     have eR:=full_2 l n
     refine⟨_,_,eR.trans (congrArg (fun r=>some (r,_)) ?_),?_⟩
     ·try clear eR
      simp only[decide_eq_true_eq,decide_eq_false_iff_not,beq_iff_eq,beq_eq_false_iff_ne,ne_eq]at*
      try simp only[r9_,q0_,n2_]at*
      refine congrArg (fun b=>AV.c (Value.bool b)) ?_
      unfold m6_
      generalize Lib.firstT (bN l 0)%8=x7 at*
      generalize Lib.accLo (Lib.firstT (bN l 0)/16)=lo at*
      generalize Lib.accHi (Lib.firstT (bN l 0)/16)=hi at*
      generalize bN l 1=b1 at*
      generalize bN l 2=b2 at*
      repeat' split
      all_goals first|rfl|omega
     ·clear eR
      simp only[decide_eq_true_eq,decide_eq_false_iff_not,beq_iff_eq,beq_eq_false_iff_ne,ne_eq]at*
      simp only[z7_,decide_eq_true_eq,decide_eq_false_iff_not,beq_iff_eq,beq_eq_false_iff_ne,ne_eq]
      try simp only[l7_,r9_,q0_,n2_]at*
      have hb:=c2_ l 0
      have hx:=h9_ (bN l 0)
      have f1:=i2_ hb
      have f2:=and7 hx
      have f3:=shr4 (Lib.firstT (bN l 0))
      have f4:=k5_ (i:=Lib.firstT (bN l 0)/16) (by omega)
      simp only[f1,f2,f3,f4,l7_,r9_,q0_,n2_,List.length_drop,o3_,m9_,and_true,true_and]
      clear f1 f2 f3 f4
      repeat' apply And.intro
      all_goals omega
    |false=>
     cases hc36:(decide ((↑(Lib.accHi (Lib.firstT (bN l (0:Nat))/(16:Nat))):Int)<(↑(l.getD (Int.toNat (1:Int)) (0:UInt8)).toNat:Int)):Bool)with
     |true=>
      have eR:=full_3 l n
      refine⟨_,_,eR.trans (congrArg (fun r=>some (r,_)) ?_),?_⟩
      ·try clear eR
       simp only[decide_eq_true_eq,decide_eq_false_iff_not,beq_iff_eq,beq_eq_false_iff_ne,ne_eq]at*
       try simp only[r9_,q0_,n2_]at*
       refine congrArg (fun b=>AV.c (Value.bool b)) ?_
       unfold m6_
       generalize Lib.firstT (bN l 0)%8=x7 at*
       generalize Lib.accLo (Lib.firstT (bN l 0)/16)=lo at*
       generalize Lib.accHi (Lib.firstT (bN l 0)/16)=hi at*
       generalize bN l 1=b1 at*
       generalize bN l 2=b2 at*
       repeat' split
       all_goals first|rfl|omega
      ·clear eR
       simp only[decide_eq_true_eq,decide_eq_false_iff_not,beq_iff_eq,beq_eq_false_iff_ne,ne_eq]at*
       simp only[z7_,decide_eq_true_eq,decide_eq_false_iff_not,beq_iff_eq,beq_eq_false_iff_ne,ne_eq]
       try simp only[l7_,r9_,q0_,n2_]at*
       have hb:=c2_ l 0
       have hx:=h9_ (bN l 0)
       have f1:=i2_ hb
       have f2:=and7 hx
       have f3:=shr4 (Lib.firstT (bN l 0))
       have f4:=k5_ (i:=Lib.firstT (bN l 0)/16) (by omega)
       simp only[f1,f2,f3,f4,l7_,r9_,q0_,n2_,List.length_drop,o3_,m9_,and_true,true_and]
       clear f1 f2 f3 f4
       repeat' apply And.intro
       all_goals omega
     |false=>
      cases hc40:(decide ((↑l.length:Int)>(2:Int)):Bool)with
      |true=>
       cases hc44:(decide ((↑(l.getD (Int.toNat (2:Int)) (0:UInt8)).toNat:Int)<(128:Int)):Bool)with
       |true=>
        have eR:=full_4 l n
        refine⟨_,_,eR.trans (congrArg (fun r=>some (r,_)) ?_),?_⟩
        ·try clear eR
         simp only[decide_eq_true_eq,decide_eq_false_iff_not,beq_iff_eq,beq_eq_false_iff_ne,ne_eq]at*
         try simp only[r9_,q0_,n2_]at*
         refine congrArg (fun b=>AV.c (Value.bool b)) ?_
         unfold m6_
         generalize Lib.firstT (bN l 0)%8=x7 at*
         generalize Lib.accLo (Lib.firstT (bN l 0)/16)=lo at*
         generalize Lib.accHi (Lib.firstT (bN l 0)/16)=hi at*
         generalize bN l 1=b1 at*
         generalize bN l 2=b2 at*
         repeat' split
         all_goals first|rfl|omega
        ·clear eR
         simp only[decide_eq_true_eq,decide_eq_false_iff_not,beq_iff_eq,beq_eq_false_iff_ne,ne_eq]at*
         simp only[z7_,decide_eq_true_eq,decide_eq_false_iff_not,beq_iff_eq,beq_eq_false_iff_ne,ne_eq]
         try simp only[l7_,r9_,q0_,n2_]at*
         have hb:=c2_ l 0
         have hx:=h9_ (bN l 0)
         have f1:=i2_ hb
         have f2:=and7 hx
         have f3:=shr4 (Lib.firstT (bN l 0))
         have f4:=k5_ (i:=Lib.firstT (bN l 0)/16) (by omega)
         simp only[f1,f2,f3,f4,l7_,r9_,q0_,n2_,List.length_drop,o3_,m9_,and_true,true_and]
         clear f1 f2 f3 f4
         repeat' apply And.intro
         all_goals omega
       |false=>
        cases hc48:(decide ((191:Int)<(↑(l.getD (Int.toNat (2:Int)) (0:UInt8)).toNat:Int)):Bool)with
        |true=>
         have eR:=full_5 l n
         refine⟨_,_,eR.trans (congrArg (fun r=>some (r,_)) ?_),?_⟩
         ·try clear eR
          simp only[decide_eq_true_eq,decide_eq_false_iff_not,beq_iff_eq,beq_eq_false_iff_ne,ne_eq]at*
          try simp only[r9_,q0_,n2_]at*
          refine congrArg (fun b=>AV.c (Value.bool b)) ?_
          unfold m6_
          generalize Lib.firstT (bN l 0)%8=x7 at*
          generalize Lib.accLo (Lib.firstT (bN l 0)/16)=lo at*
          generalize Lib.accHi (Lib.firstT (bN l 0)/16)=hi at*
          generalize bN l 1=b1 at*
          generalize bN l 2=b2 at*
          repeat' split
          all_goals first|rfl|omega
         ·clear eR
          simp only[decide_eq_true_eq,decide_eq_false_iff_not,beq_iff_eq,beq_eq_false_iff_ne,ne_eq]at*
          simp only[z7_,decide_eq_true_eq,decide_eq_false_iff_not,beq_iff_eq,beq_eq_false_iff_ne,ne_eq]
          try simp only[l7_,r9_,q0_,n2_]at*
          have hb:=c2_ l 0
          have hx:=h9_ (bN l 0)
          have f1:=i2_ hb
          have f2:=and7 hx
          have f3:=shr4 (Lib.firstT (bN l 0))
          have f4:=k5_ (i:=Lib.firstT (bN l 0)/16) (by omega)
          simp only[f1,f2,f3,f4,l7_,r9_,q0_,n2_,List.length_drop,o3_,m9_,and_true,true_and]
          clear f1 f2 f3 f4
          repeat' apply And.intro
          all_goals omega
        |false=>
         have eR:=full_6 l n
         refine⟨_,_,eR.trans (congrArg (fun r=>some (r,_)) ?_),?_⟩
         ·try clear eR
          simp only[decide_eq_true_eq,decide_eq_false_iff_not,beq_iff_eq,beq_eq_false_iff_ne,ne_eq]at*
          try simp only[r9_,q0_,n2_]at*
          refine congrArg (fun b=>AV.c (Value.bool b)) ?_
          unfold m6_
          generalize Lib.firstT (bN l 0)%8=x7 at*
          generalize Lib.accLo (Lib.firstT (bN l 0)/16)=lo at*
          generalize Lib.accHi (Lib.firstT (bN l 0)/16)=hi at*
          generalize bN l 1=b1 at*
          generalize bN l 2=b2 at*
          repeat' split
          all_goals first|rfl|omega
         ·clear eR
          simp only[decide_eq_true_eq,decide_eq_false_iff_not,beq_iff_eq,beq_eq_false_iff_ne,ne_eq]at*
          simp only[z7_,decide_eq_true_eq,decide_eq_false_iff_not,beq_iff_eq,beq_eq_false_iff_ne,ne_eq]
          try simp only[l7_,r9_,q0_,n2_]at*
          have hb:=c2_ l 0
          have hx:=h9_ (bN l 0)
          have f1:=i2_ hb
          have f2:=and7 hx
          have f3:=shr4 (Lib.firstT (bN l 0))
          have f4:=k5_ (i:=Lib.firstT (bN l 0)/16) (by omega)
          simp only[f1,f2,f3,f4,l7_,r9_,q0_,n2_,List.length_drop,o3_,m9_,and_true,true_and]
          clear f1 f2 f3 f4
          repeat' apply And.intro
          all_goals omega
      |false=>
       have eR:=full_7 l n
       refine⟨_,_,eR.trans (congrArg (fun r=>some (r,_)) ?_),?_⟩
       ·try clear eR
        simp only[decide_eq_true_eq,decide_eq_false_iff_not,beq_iff_eq,beq_eq_false_iff_ne,ne_eq]at*
        try simp only[r9_,q0_,n2_]at*
        refine congrArg (fun b=>AV.c (Value.bool b)) ?_
        unfold m6_
        generalize Lib.firstT (bN l 0)%8=x7 at*
        generalize Lib.accLo (Lib.firstT (bN l 0)/16)=lo at*
        generalize Lib.accHi (Lib.firstT (bN l 0)/16)=hi at*
        generalize bN l 1=b1 at*
        generalize bN l 2=b2 at*
        repeat' split
        all_goals first|rfl|omega
       ·clear eR
        simp only[decide_eq_true_eq,decide_eq_false_iff_not,beq_iff_eq,beq_eq_false_iff_ne,ne_eq]at*
        simp only[z7_,decide_eq_true_eq,decide_eq_false_iff_not,beq_iff_eq,beq_eq_false_iff_ne,ne_eq]
        try simp only[l7_,r9_,q0_,n2_]at*
        have hb:=c2_ l 0
        have hx:=h9_ (bN l 0)
        have f1:=i2_ hb
        have f2:=and7 hx
        have f3:=shr4 (Lib.firstT (bN l 0))
        have f4:=k5_ (i:=Lib.firstT (bN l 0)/16) (by omega)
        simp only[f1,f2,f3,f4,l7_,r9_,q0_,n2_,List.length_drop,o3_,m9_,and_true,true_and]
        clear f1 f2 f3 f4
        repeat' apply And.intro
        all_goals omega
   |false=>
    have eR:=full_8 l n
    refine⟨_,_,eR.trans (congrArg (fun r=>some (r,_)) ?_),?_⟩
    ·try clear eR
     simp only[decide_eq_true_eq,decide_eq_false_iff_not,beq_iff_eq,beq_eq_false_iff_ne,ne_eq]at*
     try simp only[r9_,q0_,n2_]at*
     refine congrArg (fun b=>AV.c (Value.bool b)) ?_
     unfold m6_
     generalize Lib.firstT (bN l 0)%8=x7 at*
     generalize Lib.accLo (Lib.firstT (bN l 0)/16)=lo at*
     generalize Lib.accHi (Lib.firstT (bN l 0)/16)=hi at*
     generalize bN l 1=b1 at*
     generalize bN l 2=b2 at*
     repeat' split
     all_goals first|rfl|omega
    ·clear eR
     simp only[decide_eq_true_eq,decide_eq_false_iff_not,beq_iff_eq,beq_eq_false_iff_ne,ne_eq]at*
     simp only[z7_,decide_eq_true_eq,decide_eq_false_iff_not,beq_iff_eq,beq_eq_false_iff_ne,ne_eq]
     try simp only[l7_,r9_,q0_,n2_]at*
     have hb:=c2_ l 0
     have hx:=h9_ (bN l 0)
     have f1:=i2_ hb
     have f2:=and7 hx
     have f3:=shr4 (Lib.firstT (bN l 0))
     have f4:=k5_ (i:=Lib.firstT (bN l 0)/16) (by omega)
     simp only[f1,f2,f3,f4,l7_,r9_,q0_,n2_,List.length_drop,o3_,m9_,and_true,true_and]
     clear f1 f2 f3 f4
     repeat' apply And.intro
     all_goals omega
end Go.Proofs.YtmjldphagbobpaaDoor
namespace Go.Proofs.YtmjldphagbobpaaDoor.U8
open IntKind (i64 u8 i32 u32 u64)
open _root_.Go.Proofs.Tryd renaming prog→p_
open Go Go.RowKit
def okC (c:Nat):Prop:=c<55296∨(57344≤c∧c≤1114111)
def a0_ (n b0 b1 b2 b3 sz lo hi:Nat):Nat×Nat×Bool:=
  if n<2∨b1<lo∨hi<b1 then(65533,1,false)
  else if sz≤2 then(b0%32*64+b1%64,2,true)
  else if n<3∨b2<128∨191<b2 then(65533,2,false)
  else if sz≤3 then(b0%16*4096+b1%64*64+b2%64,3,true)
  else if n<4∨b3<128∨191<b3 then(65533,3,false)
  else(b0%8*262144+b1%64*4096+b2%64*64+b3%64,4,true)
def h4_ (n b0 b1 b2 b3:Nat):Nat×Nat×Bool:=
  if Lib.firstT b0=240 then(b0,1,true)
  else if Lib.firstT b0=241 then(65533,1,false)
  else a0_ n b0 b1 b2 b3 (Lib.firstT b0%8) (Lib.accLo (Lib.firstT b0/16)) (Lib.accHi (Lib.firstT b0/16))
def nx (l:List UInt8):Nat×Nat×Bool:=h4_ l.length (bN l 0) (bN l 1) (bN l 2) (bN l 3)
theorem g4_ (b:Nat):(b<128∧Lib.firstT b=240)∨(((128≤b∧b<194)∨244<b)∧Lib.firstT b=241)∨(Lib.firstT b<240∧194≤b∧b≤244):=by
  unfold Lib.firstT
  repeat' split
  all_goals omega
theorem stepG_slow (n b0 b1 b2 b3 sz lo hi:Nat)(hs:sz=2∨sz=3∨sz=4):
    Lib.slowN n b0 b1 b2 b3 sz lo hi=if(a0_ n b0 b1 b2 b3 sz lo hi).2.2=true then((a0_ n b0 b1 b2 b3 sz lo hi).1,(a0_ n b0 b1 b2 b3 sz lo hi).2.1)else(65533,1):=by
  unfold Lib.slowN a0_
  rcases hs with rfl|rfl|rfl<;>simp only[Nat.le_refl,Nat.reduceLeDiff,if_true,if_false]<;>repeat' split
  all_goals first|rfl|(exfalso;omega)|(simp_all<;>omega)
theorem firstT_sz {b:Nat}(h:Lib.firstT b<240):Lib.firstT b%8=2∨Lib.firstT b%8=3∨Lib.firstT b%8=4:=by
  unfold Lib.firstT at h ⊢
  repeat' split
  all_goals first|omega|(simp_all<;>omega)
theorem stepN_a {n b0 b1 b2 b3:Nat}(e:Lib.firstT b0=240):h4_ n b0 b1 b2 b3=(b0,1,true):=if_pos e
theorem stepN_b {n b0 b1 b2 b3:Nat}(e:Lib.firstT b0=241):h4_ n b0 b1 b2 b3=(65533,1,false):=by
  unfold h4_;rw[if_neg (by omega),if_pos e]
theorem stepN_c {n b0 b1 b2 b3:Nat}(e:Lib.firstT b0<240):h4_ n b0 b1 b2 b3=a0_ n b0 b1 b2 b3 (Lib.firstT b0%8) (Lib.accLo (Lib.firstT b0/16)) (Lib.accHi (Lib.firstT b0/16)):=by
  unfold h4_;rw[if_neg (by omega),if_neg (by omega)]
theorem step_decode (n b0 b1 b2 b3:Nat)(hn:1≤n)(h0:b0<256)(h1:b1<256)(h2:b2<256)(h3:b3<256):
    Lib.decodeN n b0 b1 b2 b3=if(h4_ n b0 b1 b2 b3).2.2=true then((h4_ n b0 b1 b2 b3).1,(h4_ n b0 b1 b2 b3).2.1)else(65533,1):=by
  rcases g4_ b0 with⟨c,e⟩|⟨c,e⟩|⟨e,c⟩
  ·rw[stepN_a e,Lib.ascii_eq _ _ _ _ _ e];rfl
  ·rw[stepN_b e,Lib.bad_eq _ _ _ _ _ h0 e];rfl
  ·rw[stepN_c e,←Lib.slow_eq n b0 b1 b2 b3 hn h1 h2 h3 e]
   exact stepG_slow _ _ _ _ _ _ _ _ (firstT_sz e)
theorem d4_ {b0:Nat}(e:Lib.firstT b0<240):∃sz lo hi,Lib.firstT b0%8=sz∧Lib.accLo (Lib.firstT b0/16)=lo∧Lib.accHi (Lib.firstT b0/16)=hi∧128≤lo∧hi≤191∧(sz=2∧194≤b0∧b0<224∧lo=128∧hi=191∨sz=3∧224≤b0∧b0<240∧(b0=224→lo=160)∧(b0≠224→lo=128)∧(b0=237→hi=159)∧(b0≠237→hi=191)∨sz=4∧240≤b0∧b0≤244∧(b0=240→lo=144)∧(b0≠240→lo=128)∧(b0=244→hi=143)∧(b0≠244→hi=191)):=by
  rcases Lib.firstT_low e with h|h|h|h|h|h|h
  ·exact⟨2,128,191,by rw[Lib.firstT_C2 h],by rw[Lib.firstT_C2 h];rfl,by rw[Lib.firstT_C2 h];rfl,by omega,by omega,by omega⟩
  ·exact⟨3,160,191,by rw[Lib.firstT_E0 h],by rw[Lib.firstT_E0 h];rfl,by rw[Lib.firstT_E0 h];rfl,by omega,by omega,by omega⟩
  ·exact⟨3,128,191,by rw[Lib.firstT_E1 h],by rw[Lib.firstT_E1 h];rfl,by rw[Lib.firstT_E1 h];rfl,by omega,by omega,by omega⟩
  ·exact⟨3,128,159,by rw[Lib.firstT_ED h],by rw[Lib.firstT_ED h];rfl,by rw[Lib.firstT_ED h];rfl,by omega,by omega,by omega⟩
  ·exact⟨4,144,191,by rw[Lib.firstT_F0 h],by rw[Lib.firstT_F0 h];rfl,by rw[Lib.firstT_F0 h];rfl,by omega,by omega,by omega⟩
  ·exact⟨4,128,191,by rw[Lib.firstT_F1 h],by rw[Lib.firstT_F1 h];rfl,by rw[Lib.firstT_F1 h];rfl,by omega,by omega,by omega⟩
  ·exact⟨4,128,143,by rw[Lib.firstT_F4 h],by rw[Lib.firstT_F4 h];rfl,by rw[Lib.firstT_F4 h];rfl,by omega,by omega,by omega⟩
theorem nx_decodeL {l:List UInt8}(h:l≠[]):Lib.decodeL l=if(nx l).2.2=true then((nx l).1,(nx l).2.1)else(65533,1):=by
  rw[Lib.decodeL_N]
  exact step_decode _ _ _ _ _ (List.length_pos_iff.2 h) (c2_ l 0) (c2_ l 1) (c2_ l 2) (c2_ l 3)
theorem step_shape (n b0 b1 b2 b3:Nat)(hn:1≤n)(h0:b0<256):
    (h4_ n b0 b1 b2 b3=(b0,1,true)∧b0<128)
    ∨(∃c,h4_ n b0 b1 b2 b3=(c,2,true)∧2≤n∧128≤c∧c<2048∧b0=192+c/64∧b1=128+c%64)
    ∨(∃c,h4_ n b0 b1 b2 b3=(c,3,true)∧3≤n∧2048≤c∧c<65536∧okC c∧b0=224+c/4096∧b1=128+c/64%64∧b2=128+c%64)
    ∨(∃c,h4_ n b0 b1 b2 b3=(c,4,true)∧4≤n∧65536≤c∧c≤1114111∧b0=240+c/262144∧b1=128+c/4096%64∧b2=128+c/64%64∧b3=128+c%64)
    ∨(∃k,h4_ n b0 b1 b2 b3=(65533,k,false)∧1≤k∧k≤n∧k≤3∧128≤b0∧(2≤k→128≤b1∧b1≤191)∧(3≤k→128≤b2∧b2≤191)):=by
  rcases g4_ b0 with⟨c,e⟩|⟨c,e⟩|⟨e,c⟩
  ·rw[stepN_a e];exact .inl ⟨rfl,c⟩
  ·rw[stepN_b e]
   exact .inr (.inr (.inr (.inr ⟨1,rfl,by omega⟩)))
  ·rw[stepN_c e]
   obtain⟨sz,lo,hi,e1,e2,e3,hlo,hhi,hs⟩:=d4_ e
   rw[e1,e2,e3]
   refine .inr ?_
   clear e1 e2 e3 e
   unfold a0_ okC
   split
   ·exact .inr (.inr (.inr ⟨1,rfl,by omega⟩))
   ·split
    ·exact .inl ⟨_,rfl,by omega⟩
    ·split
     ·exact .inr (.inr (.inr ⟨2,rfl,by omega⟩))
     ·split
      ·refine .inr (.inl ⟨_,rfl,?_⟩)
       have hs':224≤b0∧b0<240∧(b0=224→160≤b1)∧(b0=237→b1≤159):=by omega
       clear hs
       omega
      ·split
       ·exact .inr (.inr (.inr ⟨3,rfl,by omega⟩))
       ·refine .inr (.inr (.inl ⟨_,rfl,?_⟩))
        have hs':240≤b0∧b0≤244∧(b0=240→144≤b1)∧(b0=244→b1≤143):=by omega
        clear hs
        omega
theorem u8_of {x:UInt8}{n:Nat}(h:x.toNat=n):x=UInt8.ofNat n:=by
  subst h;simp
theorem t1_ {n:Nat}(h:n<256):(UInt8.ofNat n).toNat=n:=by
  simp only[UInt8.toNat_ofNat'];omega
theorem e1 {n:Nat}(h:n<128):y2_ n=[UInt8.ofNat n]:=if_pos h
theorem e2 {n:Nat}(h:128≤n)(h2:n<2048):y2_ n=[UInt8.ofNat (192+n/64),UInt8.ofNat (128+n%64)]:=by
  unfold y2_;rw[if_neg (by omega),if_pos h2]
theorem e3 {n:Nat}(h:2048≤n)(h2:n<65536):y2_ n=[UInt8.ofNat (224+n/4096),UInt8.ofNat (128+n/64%64),UInt8.ofNat (128+n%64)]:=by
  unfold y2_;rw[if_neg (by omega),if_neg (by omega),if_pos h2]
theorem e4 {n:Nat}(h:65536≤n):y2_ n=[UInt8.ofNat (240+n/262144),UInt8.ofNat (128+n/4096%64),UInt8.ofNat (128+n/64%64),UInt8.ofNat (128+n%64)]:=by
  unfold y2_;rw[if_neg (by omega),if_neg (by omega),if_neg (by omega)]
theorem a6_ {l:List UInt8}(h:l≠[]):
    (∃c,nx l=(c,(y2_ c).length,true)∧okC c∧l=y2_ c++l.drop (y2_ c).length)
    ∨(∃k,nx l=(65533,k,false)∧1≤k∧k≤l.length∧k≤3∧(∀i,i<k→128≤bN l i)∧∀i,0<i→i<k→bN l i≤191):=by
  have hn:1≤l.length:=List.length_pos_iff.2 h
  unfold nx
  rcases step_shape l.length (bN l 0) (bN l 1) (bN l 2) (bN l 3) hn (c2_ l 0)with⟨e,c0⟩|⟨c,e,c0,c1,c2,c3,c4⟩|⟨c,e,c0,c1,c2,c3,c4,c5,c6⟩|⟨c,e,c0,c1,c2,c3,c4,c5,c6⟩|⟨k,e,c0,c1,c2,c3,c4,c5⟩
  ·refine .inl ⟨bN l 0,?_⟩
   rw[e1 c0]
   refine⟨e,.inl (by omega),?_⟩
   match l,h with
   |x::r,_=>simp[bN]
  ·refine .inl ⟨c,?_⟩
   rw[e2 c1 c2]
   refine⟨e,.inl (by omega),?_⟩
   match l,c0 with
   |x::y::r,_=>
    simp only[List.length_cons,List.length_nil,List.drop_succ_cons,List.drop_zero,List.cons_append,List.nil_append]
    rw[←u8_of (x:=x) c3,←u8_of (x:=y) c4]
  ·refine .inl ⟨c,?_⟩
   rw[e3 c1 c2]
   refine⟨e,c3,?_⟩
   match l,c0 with
   |x::y::z::r,_=>
    simp only[List.length_cons,List.length_nil,List.drop_succ_cons,List.drop_zero,List.cons_append,List.nil_append]
    rw[←u8_of (x:=x) c4,←u8_of (x:=y) c5,←u8_of (x:=z) c6]
  ·refine .inl ⟨c,?_⟩
   rw[e4 c1]
   refine⟨e,.inr (by omega),?_⟩
   match l,c0 with
   |x::y::z::u::r,_=>
    simp only[List.length_cons,List.length_nil,List.drop_succ_cons,List.drop_zero,List.cons_append,List.nil_append]
    rw[←u8_of (x:=x) c3,←u8_of (x:=y) c4,←u8_of (x:=z) c5,←u8_of (x:=u) c6]
  ·refine .inr ⟨k,e,c0,c1,c2,fun i hi=>?_,fun i h0 hi=>?_⟩
   ·have:i=0∨i=1∨i=2:=by omega
    rcases this with rfl|rfl|rfl
    ·exact c3
    ·exact(c4 (by omega)).1
    ·exact(c5 (by omega)).1
   ·have:i=1∨i=2:=by omega
    rcases this with rfl|rfl
    ·exact(c4 (by omega)).2
    ·exact(c5 (by omega)).2
theorem firstT_hi {b:Nat}(h:194≤b)(h2:b≤244):Lib.firstT b<240:=by
  rcases g4_ b with h|h|h<;>omega
theorem nx_enc {c:Nat}(h:okC c)(r:List UInt8):nx (y2_ c++r)=(c,(y2_ c).length,true):=by
  unfold okC at h
  by_cases c1:c<128
  ·rw[e1 c1]
   unfold nx
   have hb:bN ([UInt8.ofNat c]++r) 0=c:=t1_ (n:=c) (by omega)
   rw[hb,stepN_a (by rcases g4_ c with h|h|h<;>omega)]
   rfl
  by_cases c2:c<2048
  ·rw[e2 (by omega) c2]
   unfold nx
   have h0:bN ([UInt8.ofNat (192+c/64),UInt8.ofNat (128+c%64)]++r) 0=192+c/64:=t1_ (by omega)
   have h1:bN ([UInt8.ofNat (192+c/64),UInt8.ofNat (128+c%64)]++r) 1=128+c%64:=t1_ (by omega)
   have hl:([UInt8.ofNat (192+c/64),UInt8.ofNat (128+c%64)]++r).length=2+r.length:=by simp;omega
   have e:=firstT_hi (b:=192+c/64) (by omega) (by omega)
   obtain⟨sz,lo,hi,k1,k2,k3,hlo,hhi,hs⟩:=d4_ e
   rw[h0,h1,hl,stepN_c e,k1,k2,k3]
   unfold a0_
   rw[if_neg (by omega),if_pos (by omega)]
   simp only[List.length_cons,List.length_nil,Prod.mk.injEq,and_true]
   omega
  by_cases c3:c<65536
  ·rw[e3 (by omega) c3]
   unfold nx
   have h0:bN ([UInt8.ofNat (224+c/4096),UInt8.ofNat (128+c/64%64),UInt8.ofNat (128+c%64)]++r) 0=224+c/4096:=t1_ (by omega)
   have h1:bN ([UInt8.ofNat (224+c/4096),UInt8.ofNat (128+c/64%64),UInt8.ofNat (128+c%64)]++r) 1=128+c/64%64:=t1_ (by omega)
   have h2:bN ([UInt8.ofNat (224+c/4096),UInt8.ofNat (128+c/64%64),UInt8.ofNat (128+c%64)]++r) 2=128+c%64:=t1_ (by omega)
   have hl:([UInt8.ofNat (224+c/4096),UInt8.ofNat (128+c/64%64),UInt8.ofNat (128+c%64)]++r).length=3+r.length:=by simp;omega
   have e:=firstT_hi (b:=224+c/4096) (by omega) (by omega)
   obtain⟨sz,lo,hi,k1,k2,k3,hlo,hhi,hs⟩:=d4_ e
   rw[h0,h1,h2,hl,stepN_c e,k1,k2,k3]
   unfold a0_
   rw[if_neg (by omega),if_neg (by omega),if_neg (by omega),if_pos (by omega)]
   simp only[List.length_cons,List.length_nil,Prod.mk.injEq,and_true]
   omega
  ·rw[e4 (by omega)]
   unfold nx
   have h0:bN ([UInt8.ofNat (240+c/262144),UInt8.ofNat (128+c/4096%64),UInt8.ofNat (128+c/64%64),UInt8.ofNat (128+c%64)]++r) 0=240+c/262144:=t1_ (by omega)
   have h1:bN ([UInt8.ofNat (240+c/262144),UInt8.ofNat (128+c/4096%64),UInt8.ofNat (128+c/64%64),UInt8.ofNat (128+c%64)]++r) 1=128+c/4096%64:=t1_ (by omega)
   have h2:bN ([UInt8.ofNat (240+c/262144),UInt8.ofNat (128+c/4096%64),UInt8.ofNat (128+c/64%64),UInt8.ofNat (128+c%64)]++r) 2=128+c/64%64:=t1_ (by omega)
   have h3:bN ([UInt8.ofNat (240+c/262144),UInt8.ofNat (128+c/4096%64),UInt8.ofNat (128+c/64%64),UInt8.ofNat (128+c%64)]++r) 3=128+c%64:=t1_ (by omega)
   have hl:([UInt8.ofNat (240+c/262144),UInt8.ofNat (128+c/4096%64),UInt8.ofNat (128+c/64%64),UInt8.ofNat (128+c%64)]++r).length=4+r.length:=by simp;omega
   have e:=firstT_hi (b:=240+c/262144) (by omega) (by omega)
   obtain⟨sz,lo,hi,k1,k2,k3,hlo,hhi,hs⟩:=d4_ e
   rw[h0,h1,h2,h3,hl,stepN_c e,k1,k2,k3]
   unfold a0_
   rw[if_neg (by omega),if_neg (by omega),if_neg (by omega),if_neg (by omega),if_neg (by omega)]
   simp only[List.length_cons,List.length_nil,Prod.mk.injEq,and_true]
   omega
theorem p7_ (c:Nat):1≤(y2_ c).length∧(y2_ c).length≤4:=by
  unfold y2_
  repeat' split
  all_goals simp
def sgs:Nat→List UInt8→List Nat
  |0,_=>[]
  |f+1,l=>if l=[]then []else(nx l).1::sgs f (l.drop (nx l).2.1)
def z3_ (l:List UInt8):List Nat:=sgs l.length l
theorem nx_pos {l:List UInt8}(h:l≠[]):1≤(nx l).2.1∧(nx l).2.1≤l.length∧okC (nx l).1:=by
  rcases a6_ h with⟨c,e,hc,hl⟩|⟨k,e,h1,h2,_⟩
  ·rw[e]
   refine⟨(p7_ c).1,?_,hc⟩
   have:=congrArg List.length hl
   rw[List.length_append]at this
   simp only;omega
  ·rw[e];exact⟨h1,h2,.inr (by omega)⟩
theorem sgs_nil:∀f,sgs f []=[]
  |0=>rfl
  |_+1=>rfl
theorem sgs_fuel:∀(f g:Nat) (l:List UInt8),l.length≤f→l.length≤g→sgs f l=sgs g l
  |0,g,l,h,_=>by
   have:l=[]:=List.eq_nil_of_length_eq_zero (by omega)
   subst this;rw[sgs_nil,sgs_nil]
  |f+1,0,l,_,h=>by
   have:l=[]:=List.eq_nil_of_length_eq_zero (by omega)
   subst this;rw[sgs_nil,sgs_nil]
  |f+1,g+1,l,h,h2=>by
   unfold sgs
   split
   ·rfl
   ·rename_i hne
    have hp:=nx_pos hne
    rw[sgs_fuel f g _ (by rw[List.length_drop];omega) (by rw[List.length_drop];omega)]
theorem g8_:z3_ []=[]:=rfl
theorem r8_ {l:List UInt8}(h:l≠[]):z3_ l=(nx l).1::z3_ (l.drop (nx l).2.1):=by
  have hp:=nx_pos h
  unfold z3_
  obtain⟨f,hf⟩:∃f,l.length=f+1:=⟨l.length-1,by omega⟩
  rw[hf]
  conv=>lhs;unfold sgs
  rw[if_neg h,sgs_fuel f _ _ (by rw[List.length_drop];omega) (Nat.le_refl _)]
theorem za0_ {p:List UInt8→Prop}(h0:p [])(h1:∀l,l≠[]→p (l.drop (nx l).2.1)→p l):∀l,p l:=by
  have key:∀n l,l.length≤n→p l:=by
    intro n
    induction n with
    |zero=>intro l h;have:l=[]:=List.eq_nil_of_length_eq_zero (by omega);subst this;exact h0
    |succ n ih=>
     intro l h
     by_cases hne:l=[]
     ·subst hne;exact h0
     ·have hp:=nx_pos hne
      exact h1 l hne (ih _ (by rw[List.length_drop];omega))
  exact fun l=>key l.length l (Nat.le_refl _)
def join (cs:List Nat):List UInt8:=cs.flatMap y2_
theorem g7_ (l:List UInt8):∀c∈z3_ l,okC c:=by
  refine za0_ (p:=fun l=>∀c∈z3_ l,okC c) (by simp[g8_]) (fun l hne ih=>?_) l
  rw[r8_ hne]
  intro c hc
  rcases List.mem_cons.1 hc with rfl|hc
  ·exact(nx_pos hne).2.2
  ·exact ih c hc
theorem enc_ne (c:Nat)(r:List UInt8):y2_ c++r≠[]:=by
  intro h
  have h1:=congrArg List.length h
  have h2:=(p7_ c).1
  simp only[List.length_append,List.length_nil]at h1
  omega
theorem signs_enc {c:Nat}(h:okC c)(r:List UInt8):z3_ (y2_ c++r)=c::z3_ r:=by
  rw[r8_ (enc_ne c r),nx_enc h r]
  simp
theorem signs_app:∀(cs:List Nat) (_:∀c∈cs,okC c) (r:List UInt8),z3_ (join cs++r)=cs++z3_ r
  | [],_,r=>rfl
  |c::cs,h,r=>by
   have:join (c::cs)++r=y2_ c++(join cs++r):=by simp[join]
   rw[this,signs_enc (h c (.head _)),signs_app cs (fun x hx=>h x (.tail _ hx)) r]
   rfl
theorem n7_ (cs:List Nat)(h:∀c∈cs,okC c):z3_ (join cs)=cs:=by
  have:=signs_app cs h []
  simpa [g8_]using this
theorem a8_ (a b:List Nat):join (a++b)=join a++join b:=by simp[join]
theorem s5_ (c:Nat)(b:List Nat):join (c::b)=y2_ c++join b:=by simp[join]
def s0_ (l:List UInt8):List UInt8:=join (z3_ l)
theorem fix_app (cs:List Nat)(h:∀c∈cs,okC c)(r:List UInt8):s0_ (join cs++r)=join cs++s0_ r:=by
  unfold s0_
  rw[signs_app cs h,a8_]
theorem fix_join (cs:List Nat)(h:∀c∈cs,okC c):s0_ (join cs)=join cs:=by
  unfold s0_
  rw[n7_ cs h]
theorem fix_fix (l:List UInt8):s0_ (s0_ l)=s0_ l:=fix_join _ (g7_ l)
theorem enc3_len:(y2_ 65533).length=3:=rfl
theorem fix_len (l:List UInt8):(s0_ l).length≤3*l.length:=by
  refine za0_ (p:=fun l=>(s0_ l).length≤3*l.length) (by simp[s0_,g8_,join]) (fun l hne ih=>?_) l
  unfold s0_ at*
  rw[r8_ hne,s5_,List.length_append]
  rw[List.length_drop]at ih
  rcases a6_ hne with⟨c,e,hc,hl⟩|⟨k,e,h1,h2,_⟩
  ·have hp:=nx_pos hne
   rw[e]at ih hp ⊢
   simp only at*
   omega
  ·rw[e]at ih ⊢
   simp only[enc3_len]at*
   omega
theorem signs_len (l:List UInt8):(z3_ l).length≤l.length:=by
  refine za0_ (p:=fun l=>(z3_ l).length≤l.length) (by simp[g8_]) (fun l hne ih=>?_) l
  rw[r8_ hne,List.length_cons]
  have hp:=nx_pos hne
  rw[List.length_drop]at ih
  omega
theorem valid_iff (l:List UInt8):Lib.validD l=true↔s0_ l=l:=by
  constructor
  ·refine za0_ (p:=fun l=>Lib.validD l=true→s0_ l=l) (fun _=>rfl) (fun l hne ih hv=>?_) l
   rw[Lib.validD_step l hne,nx_decodeL hne]at hv
   unfold s0_ at*
   rw[r8_ hne,s5_]
   rcases a6_ hne with⟨c,e,hc,hl⟩|⟨k,e,h1,h2,_⟩
   ·rw[e]at hv ih ⊢
    simp only[if_true]at hv ih ⊢
    split at hv
    ·simp at hv
    ·rw[ih hv];exact hl.symm
   ·rw[e]at hv
    simp at hv
  ·intro h
   rw[←h]
   unfold s0_
   have key:∀cs:List Nat,(∀c∈cs,okC c)→Lib.validD (join cs)=true:=by
     intro cs
     induction cs with
     |nil=>intro _;rfl
     |cons c cs ih=>
      intro hc
      rw[s5_]
      have hn:=nx_enc (hc c (.head _)) (join cs)
      have hne:y2_ c++join cs≠[]:=enc_ne c _
      rw[Lib.validD_step _ hne,nx_decodeL hne,hn]
      simp only[if_true]
      rw[if_neg]
      ·rw[List.drop_left]
       exact ih fun x hx=>hc x (.tail _ hx)
      ·rintro⟨rfl,h⟩
       rw[enc3_len]at h
       omega
   exact key _ (g7_ l)
def fresh (Y:List UInt8):Prop:=Y=[]∨bN Y 0<128∨191<bN Y 0
theorem step_more {n n' b0 b1 b2 b3 c1 c2 c3 k:Nat}(hn:n≤n')(h1:1<n→c1=b1)(h2:2<n→c2=b2)(h3:3<n→c3=b3)
    (g1:n=1→n'<2∨c1<128∨191<c1) (g2:n=2→n'<3∨c2<128∨191<c2) (g3:n=3→n'<4∨c3<128∨191<c3) (h0:1≤n)
    (h:h4_ n b0 b1 b2 b3=(65533,k,false)):h4_ n' b0 c1 c2 c3=(65533,k,false):=by
  rcases g4_ b0 with⟨c,e⟩|⟨c,e⟩|⟨e,c⟩
  ·rw[stepN_a e]at h;simp at h
  ·rw[stepN_b e]at h ⊢;exact h
  ·rw[stepN_c e]at h ⊢
   obtain⟨sz,lo,hi,e1,e2,e3,hlo,hhi,hs⟩:=d4_ e
   rw[e1,e2,e3]at h ⊢
   clear e1 e2 e3 e hs
   unfold a0_ at h ⊢
   by_cases q1:n<2∨b1<lo∨hi<b1
   ·rw[if_pos q1]at h
    rw[if_pos (by omega)];exact h
   ·rw[if_neg q1]at h
    rw[if_neg (by omega)]
    have:c1=b1:=by omega
    subst this
    by_cases q2:sz≤2
    ·rw[if_pos q2]at h;simp at h
    ·rw[if_neg q2]at h ⊢
     by_cases q3:n<3∨b2<128∨191<b2
     ·rw[if_pos q3]at h
      rw[if_pos (by omega)];exact h
     ·rw[if_neg q3]at h
      rw[if_neg (by omega)]
      by_cases q4:sz≤3
      ·rw[if_pos q4]at h;simp at h
      ·rw[if_neg q4]at h ⊢
       by_cases q5:n<4∨b3<128∨191<b3
       ·rw[if_pos q5]at h
        rw[if_pos (by omega)];exact h
       ·rw[if_neg q5]at h;simp at h
theorem bN_lt_app {a b:List UInt8}{i:Nat}(h:i<a.length):bN (a++b) i=bN a i:=by
  simp only[bN,List.getD,List.getElem?_append_left h]
theorem bN_ge_app {a b:List UInt8}{i:Nat}(h:a.length≤i):bN (a++b) i=bN b (i-a.length):=by
  simp only[bN,List.getD,List.getElem?_append_right h]
theorem nx_app {b Y:List UInt8}(hne:b≠[])(hY:fresh Y):nx (b++Y)=nx b:=by
  rcases a6_ hne with⟨c,e,hc,hl⟩|⟨k,e,h1,h2,_⟩
  ·rw[e,hl,List.append_assoc];exact nx_enc hc _
  ·rw[e]
   have hn:1≤b.length:=List.length_pos_iff.2 hne
   unfold nx at e ⊢
   rw[bN_lt_app (by omega:0<b.length),List.length_append]
   have g:∀i,b.length=i→b.length+Y.length<i+1∨bN (b++Y) i<128∨191<bN (b++Y) i:=by
     intro i hi
     rw[bN_ge_app (by omega),hi,Nat.sub_self]
     rcases hY with rfl|h
     ·left;simp
     ·exact .inr h
   exact step_more (by omega) (fun h=>bN_lt_app h) (fun h=>bN_lt_app h) (fun h=>bN_lt_app h) (g 1) (g 2) (g 3) hn e
theorem fix_split {b Y:List UInt8}(hY:fresh Y):s0_ (b++Y)=s0_ b++s0_ Y:=by
  refine za0_ (p:=fun b=>s0_ (b++Y)=s0_ b++s0_ Y) rfl (fun l hne ih=>?_) b
  unfold s0_ at*
  have hne2:l++Y≠[]:=by simp[hne]
  have hp:=nx_pos hne
  rw[r8_ hne2,r8_ hne,nx_app hne hY,s5_,s5_,List.append_assoc,←ih,List.drop_append_of_le_length hp.2.1]
theorem fresh_join (cs:List Nat)(h:∀c∈cs,okC c):fresh (join cs):=by
  cases cs with
  |nil=>exact .inl rfl
  |cons c cs=>
   refine .inr ?_
   rw[s5_,bN_lt_app (p7_ c).1]
   have hc:=h c (.head _)
   unfold okC at hc
   unfold y2_
   repeat' split
   ·left;rw[show bN [UInt8.ofNat c] 0=c from t1_ (by omega)];omega
   ·right;show 191<(UInt8.ofNat (192+c/64)).toNat;rw[t1_ (by omega)];omega
   ·right;show 191<(UInt8.ofNat (224+c/4096)).toNat;rw[t1_ (by omega)];omega
   ·right;show 191<(UInt8.ofNat (240+c/262144)).toNat;rw[t1_ (by omega)];omega
theorem enc_byte {x:UInt8}(h:x.toNat<128):y2_ x.toNat=[x]:=by rw[e1 h];simp
theorem plain_join:∀(l:List UInt8),(∀x∈l,x.toNat<128)→join (l.map UInt8.toNat)=l
  | [],_=>rfl
  |x::r,h=>by
   rw[List.map_cons,s5_,enc_byte (h x (.head _)),plain_join r fun y hy=>h y (.tail _ hy)]
   rfl
theorem plain_ok (l:List UInt8)(h:∀x∈l,x.toNat<128):∀c∈l.map UInt8.toNat,okC c:=by
  intro c hc
  obtain⟨x,hx,rfl⟩:=List.mem_map.1 hc
  have:=h x hx
  exact .inl (by omega)
theorem plain_fix {l:List UInt8}(h:∀x∈l,x.toNat<128):s0_ l=l:=by
  have:=fix_join _ (plain_ok l h)
  rwa [plain_join l h]at this
theorem plain_fresh {l:List UInt8}(h:∀x∈l,x.toNat<128):fresh l:=by
  have:=fresh_join _ (plain_ok l h)
  rwa [plain_join l h]at this
theorem nx_none {c:UInt8}{r:List UInt8}(h:(128≤c.toNat∧c.toNat<194)∨244<c.toNat):nx (c::r)=(65533,1,false):=by
  unfold nx
  refine stepN_b ?_
  show Lib.firstT c.toNat=241
  rcases g4_ c.toNat with⟨c1,e⟩|⟨c1,e⟩|⟨e,c1⟩<;>omega
theorem nx_lone {c:UInt8}{r:List UInt8}(h:128≤c.toNat)(hr:fresh r):nx (c::r)=(65533,1,false):=by
  have e:nx ([c]++r)=nx [c]:=nx_app (by simp) hr
  rw[show c::r=[c]++r from rfl,e]
  rcases a6_ (l:=[c]) (by simp)with⟨c',e,hc,hl⟩|⟨k,e,h1,h2,_⟩
  ·have hlen:=congrArg List.length hl
   rw[List.length_append]at hlen
   have hge:=p7_ c'
   simp only[List.length_cons,List.length_nil]at hlen
   have h1:(y2_ c').length=1:=by omega
   have hd:List.drop (y2_ c').length [c]=[]:=by rw[h1];rfl
   rw[hd,List.append_nil]at hl
   exfalso
   unfold y2_ at hl h1
   split at hl
   ·simp only[List.cons.injEq,and_true]at hl
    rw[hl,t1_ (by omega)]at h
    omega
   ·repeat' split at h1
    all_goals first|(simp at h1;done)|omega
  ·simp only[List.length_cons,List.length_nil]at h2
   have:k=1:=by omega
   subst this;exact e
theorem fix_lone {c:UInt8}{r:List UInt8}(h:128≤c.toNat)(hr:fresh r):s0_ (c::r)=y2_ 65533++s0_ r:=by
  unfold s0_
  rw[r8_ (by simp),nx_lone h hr]
  rfl
theorem fix_none {c:UInt8}{r:List UInt8}(h:(128≤c.toNat∧c.toNat<194)∨244<c.toNat):s0_ (c::r)=y2_ 65533++s0_ r:=by
  unfold s0_
  rw[r8_ (by simp),nx_none h]
  rfl
def a7_ (l:List UInt8):List UInt8:=l.filter fun x=>x.toNat<128
theorem low_app (a b:List UInt8):a7_ (a++b)=a7_ a++a7_ b:=List.filter_append ..
theorem low_none {l:List UInt8}(h:∀i,i<l.length→128≤bN l i):a7_ l=[]:=by
  unfold a7_
  rw[List.filter_eq_nil_iff]
  intro x hx
  obtain⟨i,hi,rfl⟩:=List.getElem_of_mem hx
  have:=h i hi
  unfold bN at this
  simp only[List.getD,List.getElem?_eq_getElem hi,Option.getD_some]at this
  simp only[decide_eq_true_eq];omega
theorem low_enc (c:Nat)(h:okC c):a7_ (y2_ c)=if c<128 then [UInt8.ofNat c]else []:=by
  unfold okC at h
  unfold y2_ a7_
  by_cases h1:c<128
  ·rw[if_pos h1,if_pos h1,List.filter_cons,t1_ (by omega),if_pos (by simpa using h1),List.filter_nil]
  rw[if_neg h1,if_neg h1]
  rw[List.filter_eq_nil_iff]
  repeat' split
  all_goals intro x hx
  all_goals simp only[List.mem_cons,List.not_mem_nil,or_false]at hx
  ·rcases hx with rfl|rfl<;>(rw[t1_ (by omega)];simp;try omega)
  ·rcases hx with rfl|rfl|rfl<;>(rw[t1_ (by omega)];simp;try omega)
  ·rcases hx with rfl|rfl|rfl|rfl<;>(rw[t1_ (by omega)];simp;try omega)
def lowS (cs:List Nat):List UInt8:=(cs.filter fun c=>c<128).map UInt8.ofNat
theorem low_step {l:List UInt8}(hne:l≠[]):a7_ l=(if(nx l).1<128 then [UInt8.ofNat (nx l).1]else [])++a7_ (l.drop (nx l).2.1):=by
  rcases a6_ hne with⟨c,e,hc,hl⟩|⟨k,e,h1,h2,h3,h4,_⟩
  ·rw[e]
   simp only
   rw[←low_enc c hc,←low_app,←hl]
  ·rw[e]
   simp only
   rw[if_neg (by omega),List.nil_append]
   conv=>lhs;rw[←List.take_append_drop k l,low_app]
   rw[low_none (l:=l.take k),List.nil_append]
   intro i hi
   rw[List.length_take]at hi
   have:=h4 i (by omega)
   unfold bN at this ⊢
   simp only[List.getD,List.getElem?_take,if_pos (by omega:i<k)]at this ⊢
   exact this
theorem low_signs (l:List UInt8):a7_ l=lowS (z3_ l):=by
  refine za0_ (p:=fun l=>a7_ l=lowS (z3_ l)) rfl (fun l hne ih=>?_) l
  rw[r8_ hne,low_step hne,ih]
  unfold lowS
  rw[List.filter_cons]
  by_cases h:(nx l).1<128
  ·simp[h]
  ·simp[h]
theorem low_fix (l:List UInt8):a7_ (s0_ l)=a7_ l:=by
  rw[low_signs (s0_ l),low_signs l]
  unfold s0_
  rw[n7_ _ (g7_ l)]
end Go.Proofs.YtmjldphagbobpaaDoor.U8
namespace Go.Proofs.YtmjldphagbobpaaDoor
open IntKind (i64 u8 i32 u32 u64)
open _root_.Go.Proofs.Tryd renaming prog→p_
open Go.RowKit
def fullSpec:Spec
  | [.c (.string s)]=>some (.c (.bool (m6_ (sb s))),[0<(sb s).length])
  |_=>none
theorem full_ok:w2_ p_ 50 fullSpec:=by
  refine v5_ mixed w6_ fun args r q hs hq=>?_
  unfold fullSpec at hs
  split at hs
  ·rename_i s
   simp only[oi_]at hs
   obtain⟨rfl,rfl⟩:=hs
   obtain⟨⟨⟨l⟩⟩,rfl⟩:∃b:ByteArray,b=s:=⟨s,rfl⟩
   obtain⟨h,p,e,hp⟩:=full_all l _ rfl hq.1
   exact⟨_,_,_,_,z4_,e,hp⟩
  ·simp at hs
noncomputable def sg5:Specs:=r4_ [(50,fullSpec)]
noncomputable def cl5:CallT:=l3_ p_ sg5 500 8
theorem cl5_ok:x7_ p_ cl5:=q7_ mixed (y8_ full_ok v2_) 500 8
def begS (l:List UInt8)(n:Nat):St:=⟨frame 19 [(0,.c (str l)),(3,.c (.int .i64 n))],[]⟩
def begFi:Fi:=⟨[],[0,3],[]⟩
noncomputable def begr_X (l:List UInt8)(n:Nat)(h_:List (Nat×Bool)):=o8_ (begFi) (o6_ p_ cl5 ⟨true,bs h_++([])⟩ (y1_ ([])) 60 (z1_ p_ 35 2) (begS l n))
theorem begr_1 (l:List UInt8)(n:Nat):begr_X l n [(7,true),(14,true)]=some (.normal,begS l (n+1),[decide ((↑n:Int)<↑l.length)=true,
 (i64.min:Int)≤↑n+1,
 (↑n+1:Int)≤i64.max,
 (0:Int)≤0,
 (0:Int)≤↑n+1,
 (↑n+1:Int)≤↑l.length,
 (((0:Nat):Nat)<((List.drop (Int.toNat (0:Int)) (List.take ((↑n:Int)+(1:Int)).toNat l)).length)),
 (!m6_ (List.drop (Int.toNat (0:Int)) (List.take ((↑n:Int)+(1:Int)).toNat l)))=true,
 (i64.min:Int)≤↑n+1,
 (↑n+1:Int)≤i64.max]):=by kernel_rfl
theorem begr_2 (l:List UInt8)(n:Nat):begr_X l n [(7,true),(14,false)]=some (.exit 0,begS l n,[decide ((↑n:Int)<↑l.length)=true,
 (i64.min:Int)≤↑n+1,
 (↑n+1:Int)≤i64.max,
 (0:Int)≤0,
 (0:Int)≤↑n+1,
 (↑n+1:Int)≤↑l.length,
 (((0:Nat):Nat)<((List.drop (Int.toNat (0:Int)) (List.take ((↑n:Int)+(1:Int)).toNat l)).length)),
 (!m6_ (List.drop (Int.toNat (0:Int)) (List.take ((↑n:Int)+(1:Int)).toNat l)))=false]):=by kernel_rfl
theorem begr_3 (l:List UInt8)(n:Nat):begr_X l n [(7,false)]=some (.exit 0,begS l n,[decide ((↑n:Int)<↑l.length)=false]):=by kernel_rfl
def bgo (l:List UInt8):Nat→Nat→Nat
  |0,n=>n
  |f+1,n=>if n<l.length∧m6_ (l.take (n+1))=false then bgo l f (n+1)else n
def o1_ (l:List UInt8):Nat:=bgo l (l.length-1) 1
theorem bgo_le (l:List UInt8):∀f n,n≤l.length→n≤bgo l f n∧bgo l f n≤l.length
  |0,n,h=>⟨Nat.le_refl _,h⟩
  |f+1,n,h=>by
   unfold bgo
   split
   ·rename_i hc
    have:=bgo_le l f (n+1) hc.1
    omega
   ·exact⟨Nat.le_refl _,h⟩
theorem beg_take (l:List UInt8)(n:Nat):List.drop (Int.toNat (0:Int)) (List.take ((n:Int)+(1:Int)).toNat l)=l.take (n+1):=by
  have:((n:Int)+1).toNat=n+1:=by omega
  rw[this]
  rfl
theorem beg_loop (l:List UInt8)(h0:0<l.length)(hl:l.length≤1000000000):Tri Ext0 p_ (.loop (z1_ p_ 35 2)) (begS l 1) (.exit 0) (begS l (o1_ l)):=by
  refine loop_ok mixed cl5_ok (α:= {n:Nat // n≤l.length∧bgo l (l.length-n) n=o1_ l}) (fun x=>begS l x.val) (fun x=>l.length-x.val) ?_ ⟨1,h0,rfl⟩
  rintro⟨n,hn,hb⟩
  by_cases hlt:n<l.length
  ·by_cases hf:m6_ (l.take (n+1))=false
   ·have hb2:bgo l (l.length-(n+1)) (n+1)=o1_ l:=by
      rw[←hb]
      have:l.length-n=(l.length-(n+1))+1:=by omega
      rw[this]
      conv=>rhs;unfold bgo
      rw[if_pos ⟨hlt,hf⟩]
    refine .inl ⟨⟨n+1,hlt,hb2⟩,by simp only;omega,_,_,_,_,_,z4_,List.nodup_nil,begr_1 l n,?_⟩
    simp only[z7_,beg_take,hf,List.length_take,Bool.not_false,and_true,true_and,decide_eq_true_eq,decide_eq_false_iff_not,j5_,j4_]
    omega
   ·have hn2:n=o1_ l:=by
      rw[←hb]
      have:l.length-n=(l.length-(n+1))+1:=by omega
      rw[this]
      unfold bgo
      rw[if_neg (fun h=>hf h.2)]
    refine .inr ⟨by simp,?_⟩
    show x1_ Ext0 p_ cl5 _ (begS l n) _ _
    rw[←hn2]
    refine⟨_,_,_,_,_,z4_,List.nodup_nil,begr_2 l n,?_⟩
    simp only[z7_,beg_take,hf,List.length_take,Bool.not_true,and_true,true_and,decide_eq_true_eq,decide_eq_false_iff_not,j5_,j4_]
    omega
  ·have hn2:n=o1_ l:=by
     rw[←hb]
     have:l.length-n=0:=by omega
     rw[this]
     rfl
   refine .inr ⟨by simp,?_⟩
   show x1_ Ext0 p_ cl5 _ (begS l n) _ _
   rw[←hn2]
   refine⟨_,_,_,_,_,z4_,List.nodup_nil,begr_3 l n,?_⟩
   simp only[z7_,and_true,true_and,decide_eq_true_eq,decide_eq_false_iff_not]
   omega
noncomputable def begLp (l:List UInt8):List (Nat×Lp):=[(2,⟨z1_ p_ 35 2,begFi,begS l 1,.exit 0,begS l (o1_ l)⟩)]
theorem begLp_ok (l:List UInt8)(h0:0<l.length)(hl:l.length≤1000000000):q3_ Ext0 p_ (y1_ (begLp l)):=x4_ z4_ List.nodup_nil (beg_loop l h0 hl)
noncomputable def begun_X (l:List UInt8)(h_:List (Nat×Bool)):=y3_ p_ 35 (z8_ p_ cl5 ⟨true,bs h_++([])⟩ (y1_ (begLp l)) 60 35 ([.c (str l)]) ([]))
theorem begun_1 (l:List UInt8):begun_X l []=some ((AV.c ((Value.int .i64 ((↑(o1_ l):Int))))),[((z1_ p_ (35:FuncId) (2:Nat):Go.Code))=(z1_ p_ (35:FuncId) (2:Nat)),
 ((begS l (1:Nat):St))=(begS l (1:Nat))]):=by kernel_rfl
theorem begun_all (l:List UInt8)(h0:0<l.length)(h1:l.length≤1000000000):∃(h:Hints) (p:List Prop),y3_ p_ 35 (z8_ p_ cl5 h (y1_ (begLp l)) 60 35 ([.c (str l)]) ([]))=some (.c (.int .i64 (o1_ l)),p)∧z7_ p:=by
  have eR:=begun_1 l
  refine⟨_,_,eR.trans (congrArg (fun r=>some (r,_)) ?_),?_⟩
  ·rfl
  ·try simp only[dz]at*
   try simp(disch:=omega) only[std,bytesOK_cons,bytesOK_nil]
   repeat' apply And.intro
   all_goals first|exact True.intro|omega|assumption|rfl|exact u3_ _
def begunSpec:Spec
  | [.c (.string s)]=>some (.c (.int .i64 (o1_ (sb s))),[0<(sb s).length,(sb s).length≤1000000000])
  |_=>none
theorem begun_ok:w2_ p_ 35 begunSpec:=by
  refine v5_ mixed cl5_ok fun args r q hs hq=>?_
  unfold begunSpec at hs
  split at hs
  ·rename_i s
   simp only[oi_]at hs
   obtain⟨rfl,rfl⟩:=hs
   obtain⟨⟨⟨l⟩⟩,rfl⟩:∃b:ByteArray,b=s:=⟨s,rfl⟩
   obtain⟨h,p,e,hp⟩:=begun_all l hq.1 hq.2.1
   exact⟨_,_,_,_,begLp_ok l hq.1 hq.2.1,e,hp⟩
  ·simp at hs
end Go.Proofs.YtmjldphagbobpaaDoor
namespace Go.Proofs.YtmjldphagbobpaaDoor
open IntKind (i64 u8 i32 u32 u64)
open _root_.Go.Proofs.Tryd renaming prog→p_
open Go.RowKit
noncomputable def sg6:Specs:=r4_ [(35,begunSpec)]
noncomputable def hsg6:HSpecs:=m0_ [(36,wruSpec),(34,groSpec),(37,bstSpec)]
noncomputable def cl6:CallT:=p3_ p_ sg6 hsg6 500 8
theorem cl6_ok:x7_ p_ cl6:=s3_ mixed (y8_ begun_ok v2_) (w5_ wr_ok (w5_ gro_ok (w5_ bst_ok s8_))) 500 8
def decG (l:List UInt8)(pos next:Nat)(n:Nat)(L:List AV):St:=⟨frame 33 [(3,.c (str l)),(4,.pt 0 0),(5,.c (.int .i64 next)),(14,.itr 2)],[some ⟨56,true,[.pt 0 0,.sl 1 0 n]⟩,some ⟨5,false,L⟩,some ⟨0,true,[.iter l pos]⟩]⟩
def decS (l:List UInt8)(pos next:Nat)(out:List UInt8):St:=decG l pos next out.length (z6_ out)
def decE (l:List UInt8)(out:List UInt8):St:=⟨frame 33 [(3,.c (str l)),(4,.pt 0 0)],[some ⟨56,true,[.pt 0 0,.sl 1 0 out.length]⟩,some ⟨5,false,z6_ out⟩]⟩
def decFi:Fi:=⟨[],[3,4,5,14],[0,1,2]⟩
noncomputable def decr_X (l:List UInt8)(pos next:Nat)(out:List UInt8)(h_:List (Nat×Bool))(fi_:Fi):=o8_ (fi_) (o6_ p_ cl6 ⟨true,bs h_++([])⟩ (y1_ ([])) 60 (z1_ p_ 21 6) (decS l pos next out))
theorem decr_1 (l:List UInt8)(pos next:Nat)(out:List UInt8):decr_X l pos next out [(15,true),(21,true)] (decFi)=some (.normal,decG l (pos+(Utf8.decode ⟨⟨l⟩⟩ pos).2) next out.length (z6_ out),[((pos:Nat)<(l.length)),
 decide ((↑pos:Int)<↑next)=true]):=by kernel_rfl
theorem decr_2 (l:List UInt8)(pos next:Nat)(out:List UInt8):decr_X l pos next out [(15,true),(21,false),(23,true)] ⟨[],[3,4,5,14],[0,4,2]⟩=some (.normal,decG l (pos+(Utf8.decode ⟨⟨l⟩⟩ pos).2) (pos+o1_ (List.drop pos (List.take l.length l))) (out.length+(y2_ (sgn ((Utf8.decode ⟨⟨l⟩⟩ pos).1:Nat))).length) ((z6_ out).take out.length++z6_ (y2_ (sgn ((Utf8.decode ⟨⟨l⟩⟩ pos).1:Nat)))),[((pos:Nat)<(l.length)),
 decide ((↑pos:Int)<↑next)=false,
 ((↑(Utf8.decode { data:= { toList:=l}} pos).fst:Int)==(65533:Int))=true,
 (0:Int)≤↑pos,
 (↑pos:Int)≤↑l.length,
 (↑l.length:Int)≤↑l.length,
 (((0:Nat):Nat)<((List.drop pos (List.take l.length l)).length)),
 (((List.drop pos (List.take l.length l)).length:Nat)≤((1000000000:Nat))),
 ((i64.min:Int)≤((↑pos:Int)+(↑(o1_ (List.drop pos (List.take l.length l))):Int))),
 (((↑pos:Int)+(↑(o1_ (List.drop pos (List.take l.length l))):Int):Int)≤(i64.max)),
 (((-2147483648:Int):Int)≤((↑(Utf8.decode { data:= { toList:=l}} pos).fst:Int))),
 (((↑(Utf8.decode { data:= { toList:=l}} pos).fst:Int):Int)≤((2147483647:Int))),
 ((out.length+(4:Nat):Nat)≤((140737488355328:Nat))),
 ((out.length:Nat)≤((z6_ out).length))]):=by kernel_rfl
theorem decr_3 (l:List UInt8)(pos next:Nat)(out:List UInt8):decr_X l pos next out [(15,true),(21,false),(23,false)] ⟨[],[3,4,5,14],[0,4,2]⟩=some (.normal,decG l (pos+(Utf8.decode ⟨⟨l⟩⟩ pos).2) next (out.length+(y2_ (sgn ((Utf8.decode ⟨⟨l⟩⟩ pos).1:Nat))).length) ((z6_ out).take out.length++z6_ (y2_ (sgn ((Utf8.decode ⟨⟨l⟩⟩ pos).1:Nat)))),[((pos:Nat)<(l.length)),
 decide ((↑pos:Int)<↑next)=false,
 ((↑(Utf8.decode { data:= { toList:=l}} pos).fst:Int)==(65533:Int))=false,
 (((-2147483648:Int):Int)≤((↑(Utf8.decode { data:= { toList:=l}} pos).fst:Int))),
 (((↑(Utf8.decode { data:= { toList:=l}} pos).fst:Int):Int)≤((2147483647:Int))),
 ((out.length+(4:Nat):Nat)≤((140737488355328:Nat))),
 ((out.length:Nat)≤((z6_ out).length))]):=by kernel_rfl
theorem decr_4 (l:List UInt8)(pos next:Nat)(out:List UInt8):decr_X l pos next out [(15,false)] ⟨[],[3,4],[0,1]⟩=some (.exit 0,decE l out,[((l.length:Nat)≤(pos))]):=by kernel_rfl
def dAt (l:List UInt8)(pos:Nat):Nat×Nat:=Utf8.decode ⟨⟨l⟩⟩ pos
theorem dAt_pos (l:List UInt8)(pos:Nat):1≤(dAt l pos).2:=by
  unfold dAt
  rw[Lib.decode_at]
  unfold Lib.decodeN
  repeat' split
  all_goals(simp only;omega)
theorem dAt_le {l:List UInt8}{pos:Nat}(h:pos<l.length):pos+(dAt l pos).2≤l.length:=by
  unfold dAt
  rw[Lib.decode_at]
  have hs:(⟨⟨l⟩⟩:ByteArray).size=l.length:=rfl
  rw[hs]
  unfold Lib.decodeN
  repeat' split
  all_goals(simp only;omega)
theorem dAt_rune (l:List UInt8)(pos:Nat):(dAt l pos).1≤1114111:=by
  unfold dAt
  rw[Lib.decode_at]
  have h0:((⟨⟨l⟩⟩:ByteArray).get! pos).toNat<256:=UInt8.toNat_lt _
  unfold Lib.decodeN
  repeat' split
  all_goals(simp only;omega)
def dgo (l:List UInt8):Nat→Nat→Nat→List UInt8→List UInt8
  |0,_,_,out=>out
  |f+1,pos,next,out=>
   if pos<l.length then
    if pos<next then dgo l f (pos+(dAt l pos).2) next out
    else if(dAt l pos).1=65533 then dgo l f (pos+(dAt l pos).2) (pos+o1_ (l.drop pos)) (out++y2_ (sgn ((dAt l pos).1:Nat)))
    else dgo l f (pos+(dAt l pos).2) next (out++y2_ (sgn ((dAt l pos).1:Nat)))
   else out
def q6_ (l:List UInt8):List UInt8:=dgo l l.length 0 0 []
theorem begun_le {l:List UInt8}(h:0<l.length):o1_ l≤l.length:=(bgo_le l _ 1 h).2
theorem decG_write (l:List UInt8)(pos next:Nat)(out x:List UInt8):decG l pos next (out.length+x.length) ((z6_ out).take out.length++z6_ x)=decS l pos next (out++x):=by
  unfold decS
  have h1:(z6_ out).take out.length=z6_ out:=by rw[List.take_of_length_le];simp[w0_]
  have h2:z6_ (out++x)=z6_ out++z6_ x:=by simp[z6_]
  rw[h1,h2,List.length_append]
structure DecX (l:List UInt8) where
  f:Nat
  pos:Nat
  next:Nat
  out:List UInt8
  h1:l.length≤pos+f
  h2:pos≤l.length
  h3:out.length≤4*pos
  h4:next≤l.length
  h5:(pos=0∧next=0)∨0<out.length
  h6:dgo l f pos next out=q6_ l
theorem dec_loop (l:List UInt8)(hl:l.length≤1000000000):Tri Ext0 p_ (.loop (z1_ p_ 21 6)) (decS l 0 0 []) (.exit 0) (decE l (q6_ l)):=by
  refine loop_ok mixed cl6_ok (α:=DecX l) (fun x=>decS l x.pos x.next x.out) (fun x=>x.f) ?_ ⟨l.length,0,0,[],by omega,by omega,by simp,by omega,.inl ⟨rfl,rfl⟩,rfl⟩
  rintro⟨f,pos,next,out,h1,h2,h3,h4,h5,h6⟩
  show(∃x':DecX l,x'.f<f∧x1_ Ext0 p_ cl6 _ (decS l pos next out) _ (decS l x'.pos x'.next x'.out))∨(_∧x1_ Ext0 p_ cl6 _ (decS l pos next out) _ _)
  by_cases hlt:pos<l.length
  ·obtain⟨f',rfl⟩:∃f',f=f'+1:=⟨f-1,by omega⟩
   have hw:=dAt_pos l pos
   have hle:=dAt_le hlt
   have hru:=dAt_rune l pos
   unfold dgo at h6
   rw[if_pos hlt]at h6
   by_cases hn:pos<next
   ·rw[if_pos hn]at h6
    have h5':0<out.length:=by omega
    refine .inl ⟨⟨f',pos+(dAt l pos).2,next,out,by omega,hle,by omega,h4,.inr h5',h6⟩,by simp only;omega,_,_,_,_,_,z4_,by decide,decr_1 l pos next out,?_⟩
    simp only[z7_,and_true,true_and,decide_eq_true_eq,decide_eq_false_iff_not]
    omega
   ·rw[if_neg hn]at h6
    have hel:=p7_ ((dAt l pos).1:Nat)
    by_cases hr:(dAt l pos).1=65533
    ·rw[if_pos hr]at h6
     have hbl:=begun_le (l:=l.drop pos) (by simp;omega)
     rw[List.length_drop]at hbl
     refine .inl ⟨⟨f',pos+(dAt l pos).2,pos+o1_ (l.drop pos),out++y2_ (sgn ((dAt l pos).1:Nat)),by omega,hle,by simp;omega,by omega,.inr (by simp;omega),h6⟩,by simp only;omega,?_⟩
     simp only
     rw[←decG_write]
     have hd:l.drop pos=List.drop pos (List.take l.length l):=by rw[List.take_length]
     rw[hd]
     refine⟨_,_,_,_,_,z4_,by decide,decr_2 l pos next out,?_⟩
     rw[←hd]
     have hr':(Utf8.decode ⟨⟨l⟩⟩ pos).1=65533:=hr
     simp only[z7_,hr',and_true,true_and,decide_eq_true_eq,decide_eq_false_iff_not,j5_,j4_,w0_,List.length_drop]
     repeat' apply And.intro
     all_goals first|omega|rfl
    ·rw[if_neg hr]at h6
     refine .inl ⟨⟨f',pos+(dAt l pos).2,next,out++y2_ (sgn ((dAt l pos).1:Nat)),by omega,hle,by simp;omega,h4,.inr (by simp;omega),h6⟩,by simp only;omega,?_⟩
     simp only
     rw[←decG_write]
     refine⟨_,_,_,_,_,z4_,by decide,decr_3 l pos next out,?_⟩
     have hr':¬(Utf8.decode ⟨⟨l⟩⟩ pos).1=65533:=hr
     have hru':(Utf8.decode ⟨⟨l⟩⟩ pos).1≤1114111:=hru
     simp only[z7_,and_true,true_and,decide_eq_true_eq,decide_eq_false_iff_not,beq_eq_false_iff_ne,ne_eq,w0_]
     repeat' apply And.intro
     all_goals omega
  ·have ho:out=q6_ l:=by
     rw[←h6]
     cases f with
     |zero=>rfl
     |succ f=>unfold dgo;rw[if_neg hlt]
   refine .inr ⟨by simp,?_⟩
   rw[←ho]
   refine⟨_,_,_,_,_,z4_,by decide,decr_4 l pos next out,?_⟩
   simp only[z7_,and_true]
   omega
end Go.Proofs.YtmjldphagbobpaaDoor
namespace Go.Proofs.YtmjldphagbobpaaDoor
open IntKind (i64 u8 i32 u32 u64)
open _root_.Go.Proofs.Tryd renaming prog→p_
open Go.RowKit
noncomputable def decLp (l:List UInt8):List (Nat×Lp):=[(6,⟨z1_ p_ 21 6,decFi,decS l 0 0 [],.exit 0,decE l (q6_ l)⟩)]
theorem decLp_ok (l:List UInt8)(hl:l.length≤1000000000):q3_ Ext0 p_ (y1_ (decLp l)):=x4_ z4_ (show decFi.m.Nodup by decide) (dec_loop l hl)
theorem dgo_mono (l:List UInt8):∀f pos next out,out.length≤(dgo l f pos next out).length
  |0,_,_,_=>Nat.le_refl _
  |f+1,pos,next,out=>by
   unfold dgo
   split
   ·split
    ·exact dgo_mono l f _ _ _
    ·split
     ·exact Nat.le_trans (by simp) (dgo_mono l f _ _ _)
     ·exact Nat.le_trans (by simp) (dgo_mono l f _ _ _)
   ·exact Nat.le_refl _
theorem dgo_le (l:List UInt8):∀f pos next out,pos≤l.length→out.length≤4*pos→(dgo l f pos next out).length≤4*l.length
  |0,_,_,_,h,h2=>by unfold dgo;omega
  |f+1,pos,next,out,h,h2=>by
   unfold dgo
   have hw:=dAt_pos l pos
   have hel:=p7_ ((dAt l pos).1:Nat)
   split
   ·rename_i hlt
    have hle:=dAt_le hlt
    split
    ·exact dgo_le l f _ _ _ hle (by omega)
    ·split
     ·exact dgo_le l f _ _ _ hle (by simp;omega)
     ·exact dgo_le l f _ _ _ hle (by simp;omega)
   ·omega
theorem decF_le (l:List UInt8):(q6_ l).length≤4*l.length:=dgo_le l _ 0 0 [] (Nat.zero_le _) (by simp)
theorem decF_pos {l:List UInt8}(h:0<l.length):0<(q6_ l).length:=by
  unfold q6_
  obtain⟨f,hf⟩:∃f,l.length=f+1:=⟨l.length-1,by omega⟩
  rw[hf]
  unfold dgo
  have hel:=p7_ ((dAt l 0).1:Nat)
  rw[if_pos h,if_neg (by omega)]
  split
  ·exact Nat.lt_of_lt_of_le (by simp;omega) (dgo_mono l f _ _ _)
  ·exact Nat.lt_of_lt_of_le (by simp;omega) (dgo_mono l f _ _ _)
noncomputable def dec_X (l:List UInt8)(h_:List (Nat×Bool)):=y3_ p_ 21 (z8_ p_ cl6 ⟨true,bs h_++([(9,⟨.c (str l),none⟩)])⟩ (y1_ (decLp l)) 60 21 ([.fs 1 l.length (z6_ l)]) ([]))
theorem dec_1 (l:List UInt8):dec_X l []=some ((AV.c ((str (x8_ (List.take (q6_ l).length (z6_ (q6_ l))))))),[(((z6_ l).length:Nat))=(l.length),
 u4_ (z6_ l),
 ((x8_ (z6_ l):List UInt8))=(l),
 (0:Int)<↑l.length,
 (↑l.length:Int)≤281474976710656,
 ((z1_ p_ (21:FuncId) (6:Nat):Go.Code))=(z1_ p_ (21:FuncId) (6:Nat)),
 ((decS l (0:Nat) (0:Nat) []:St))=(decS l (0:Nat) (0:Nat) []),
 (((0:Nat):Nat)<((q6_ l).length)),
 (((q6_ l).length:Nat)≤((z6_ (q6_ l)).length)),
 u4_ (List.take (q6_ l).length (z6_ (q6_ l))),
 (((q6_ l).length:Nat)≤((4611686018427387904:Nat)))]):=by kernel_rfl
theorem dec_all (l:List UInt8)(h0:0<l.length)(h1:l.length≤1000000000):∃(h:Hints) (p:List Prop),y3_ p_ 21 (z8_ p_ cl6 h (y1_ (decLp l)) 60 21 ([.fs 1 l.length (z6_ l)]) ([]))=some (.c (str (q6_ l)),p)∧z7_ p:=by
  have eR:=dec_1 l
  refine⟨_,_,eR.trans (congrArg (fun r=>some (r,_)) ?_),?_⟩
  ·rw[j7_,p1_,List.take_length]
  ·have k1:=decF_pos h0
   have k2:=decF_le l
   simp only[z7_,j7_,w0_,p1_,and_true,true_and]
   repeat' apply And.intro
   all_goals first|omega|exact n3_ _
noncomputable def hsg7:HSpecs:=m0_ [(34,gro0Spec),(37,bstSpec)]
noncomputable def cl7:CallT:=p3_ p_ (r4_ []) hsg7 500 8
theorem cl7_ok:x7_ p_ cl7:=s3_ mixed v2_ (w5_ gro0_ok (w5_ bst_ok s8_)) 500 8
def dec0S:St:=⟨frame 33 [(3,.c (str [])),(4,.pt 0 0),(14,.itr 1)],[some ⟨56,true,[.pt 0 0,.c (.slice none 0 0)]⟩,some ⟨0,true,[.iter [] 0]⟩]⟩
def dec0E:St:=⟨frame 33 [(3,.c (str [])),(4,.pt 0 0)],[some ⟨56,true,[.pt 0 0,.c (.slice none 0 0)]⟩]⟩
noncomputable def decz_X (h_:List (Nat×Bool)):=o8_ (⟨[],[3,4],[0]⟩) (o6_ p_ cl7 ⟨true,bs h_++([])⟩ (y1_ ([])) 60 (z1_ p_ 21 6) (dec0S))
theorem decz_1:decz_X []=some (.exit 0,dec0E,[(((0:Nat):Nat)≤((0:Nat)))]):=by kernel_rfl
theorem dec0_loop:Tri Ext0 p_ (.loop (z1_ p_ 21 6)) dec0S (.exit 0) dec0E:=
  loop_ok mixed cl7_ok (α:=Unit) (fun _=>dec0S) (fun _=>0) (fun _=> .inr ⟨by simp,_,_,_,_,_,z4_,by decide,decz_1,by simp[z7_]⟩) ()
noncomputable def dec0Lp:List (Nat×Lp):=[(6,⟨z1_ p_ 21 6,⟨[],[3,4,14],[0,1]⟩,dec0S,.exit 0,dec0E⟩)]
theorem dec0Lp_ok:q3_ Ext0 p_ (y1_ dec0Lp):=x4_ z4_ (by decide) dec0_loop
noncomputable def dec0_X (h_:List (Nat×Bool)):=y3_ p_ 21 (z8_ p_ cl7 ⟨true,bs h_++([(9,⟨.c (str []),none⟩)])⟩ (y1_ (dec0Lp)) 60 21 ([.fs 1 0 []]) ([]))
theorem dec0_1:dec0_X []=some ((AV.c ((str ([])))),[(((0:Nat):Nat))=((0:Nat)),
 u4_ ([]),
 (([]:List UInt8))=([]),
 ((z1_ p_ (21:FuncId) (6:Nat):Go.Code))=(z1_ p_ (21:FuncId) (6:Nat)),
 ((dec0S:St))=(dec0S)]):=by kernel_rfl
theorem dec0_all:∃(h:Hints) (p:List Prop),y3_ p_ 21 (z8_ p_ cl7 h (y1_ (dec0Lp)) 60 21 ([.fs 1 0 []]) ([]))=some (.c (str []),p)∧z7_ p:=by
  have eR:=dec0_1
  refine⟨_,_,eR.trans (congrArg (fun r=>some (r,_)) ?_),?_⟩
  ·rfl
  ·exact⟨rfl,n3_ [],rfl,rfl,rfl,trivial⟩
def decSpec:Spec
  | [.fs s n l]=>some (.c (str (q6_ (x8_ l))),[s=1,l=z6_ (x8_ l),n=(x8_ l).length,n≤1000000000])
  |_=>none
def decASpec:Spec
  | [.fs s n l]=>some (.c (str (q6_ (x8_ l))),[s=1,l=z6_ (x8_ l),n=(x8_ l).length,n≤1000000000,0<n])
  |_=>none
theorem decA_ok:w2_ p_ 21 decASpec:=by
  refine v5_ mixed cl6_ok fun args r q hs hq=>?_
  unfold decASpec at hs
  split at hs
  ·rename_i s n l
   simp only[oi_]at hs
   obtain⟨rfl,rfl⟩:=hs
   obtain⟨rfl,h1,h2,h3,h4,_⟩:=hq
   generalize x8_ l=m at h1 h2
   subst h1 h2
   obtain⟨hh,p,e,hp⟩:=dec_all m h4 h3
   exact⟨_,_,_,_,decLp_ok m h3,e,hp⟩
  ·simp at hs
def decZSpec:Spec
  | [.fs 1 0 []]=>some (.c (str []),[])
  |_=>none
theorem decZ_ok:w2_ p_ 21 decZSpec:=by
  refine v5_ mixed cl7_ok fun args r q hs hq=>?_
  unfold decZSpec at hs
  split at hs
  ·simp only[oi_]at hs
   obtain⟨rfl,rfl⟩:=hs
   obtain⟨hh,p,e,hp⟩:=dec0_all
   exact⟨_,_,_,_,dec0Lp_ok,e,hp⟩
  ·simp at hs
theorem dec_ok:w2_ p_ 21 decSpec:=by
  refine spec_by fun args r q hs hq=>?_
  unfold decSpec at hs
  split at hs
  ·rename_i s n l
   simp only[oi_]at hs
   obtain⟨rfl,rfl⟩:=hs
   obtain⟨h0,h1,h2,h3,_⟩:=hq
   by_cases h:0<n
   ·exact⟨decASpec,decA_ok,_,rfl,h0,h1,h2,h3,h,trivial⟩
   ·have hn:n=0:=by omega
    have hl:x8_ l=[]:=List.length_eq_zero_iff.1 (by omega)
    rw[hl]at h1
    subst hn h0 h1
    exact⟨decZSpec,decZ_ok,_,rfl,trivial⟩
  ·simp at hs
end Go.Proofs.YtmjldphagbobpaaDoor
namespace Go.Proofs.YtmjldphagbobpaaDoor
open IntKind (i64 u8 i32 u32 u64)
open _root_.Go.Proofs.Tryd renaming prog→p_
open Go.RowKit
noncomputable def sg8:Specs:=r4_ [(21,decSpec)]
noncomputable def cl8:CallT:=l3_ p_ sg8 500 8
theorem cl8_ok:x7_ p_ cl8:=q7_ mixed (y8_ dec_ok v2_) 500 8
def sigG (l:List UInt8)(pos n:Nat)(L:List AV):St:=⟨frame 19 [(3,.sl 0 0 n),(9,.itr 1)],[some ⟨3,false,L⟩,some ⟨0,true,[.iter l pos]⟩]⟩
def sigE (L:List Int):St:=⟨frame 19 [(3,.sl 0 0 L.length)],[some ⟨3,false,ints L⟩]⟩
def sigS (l:List UInt8)(pos:Nat)(L:List Int):St:=sigG l pos L.length (ints L)
noncomputable def sigr_X (l:List UInt8)(pos:Nat)(L:List Int)(h_:List (Nat×Bool))(fi_:Fi):=o8_ (fi_) (o6_ p_ cl8 ⟨true,bs h_++([])⟩ (y1_ ([])) 60 (z1_ p_ 13 3) (sigS l pos L))
theorem sigr_1 (l:List UInt8)(pos:Nat)(L:List Int):sigr_X l pos L [(10,true)] (⟨[],[3,9],[3,1]⟩)=some (.normal,sigG l (pos+(Utf8.decode ⟨⟨l⟩⟩ pos).2) (L.length+1) (List.take L.length (ints L)++[.c (.int .i64 (i64.wrap ((Utf8.decode ⟨⟨l⟩⟩ pos).1:Nat)))]),[((pos:Nat)<(l.length)),
 (((1:Nat):Nat)≤((1:Nat))),
 (((L.length+(1:Nat))*(8:Nat):Nat)≤((140737488355328:Nat))),
 ((L.length+(1:Nat):Nat)≤((4611686018427387904:Nat))),
 ((L.length:Nat)≤((ints L).length))]):=by kernel_rfl
theorem sigr_2 (l:List UInt8)(pos:Nat)(L:List Int):sigr_X l pos L [(10,false)] ⟨[],[3],[0]⟩=some (.exit 0,sigE L,[((l.length:Nat)≤(pos))]):=by kernel_rfl
def sgo (l:List UInt8):Nat→Nat→List Int→List Int
  |0,_,L=>L
  |f+1,pos,L=>if pos<l.length then sgo l f (pos+(dAt l pos).2) (L++[(((dAt l pos).1:Nat):Int)])else L
def sigF (l:List UInt8):List Int:=sgo l l.length 0 []
theorem sgo_le (l:List UInt8):∀f pos L,pos≤l.length→L.length≤pos→(sgo l f pos L).length≤l.length
  |0,_,_,h,h2=>by unfold sgo;omega
  |f+1,pos,L,h,h2=>by
   unfold sgo
   have hw:=dAt_pos l pos
   split
   ·rename_i hlt
    exact sgo_le l f _ _ (dAt_le hlt) (by simp;omega)
   ·omega
theorem sigF_le (l:List UInt8):(sigF l).length≤l.length:=sgo_le l _ 0 [] (Nat.zero_le _) (by simp)
structure SigX (l:List UInt8) where
  f:Nat
  pos:Nat
  L:List Int
  h1:l.length≤pos+f
  h2:pos≤l.length
  h3:L.length≤pos
  h4:sgo l f pos L=sigF l
theorem sigG_add (l:List UInt8)(pos:Nat)(L:List Int)(x:Int):sigG l pos (L.length+1) (List.take L.length (ints L)++[.c (.int .i64 x)])=sigS l pos (L++[x]):=by
  unfold sigS
  have h1:(ints L).take L.length=ints L:=by rw[List.take_of_length_le];simp[z2_]
  have h2:ints (L++[x])=ints L++[.c (.int .i64 x)]:=by simp[z2_]
  rw[h1,h2,List.length_append]
  rfl
theorem sig_loop (l:List UInt8)(hl:l.length≤4000000000):Tri Ext0 p_ (.loop (z1_ p_ 13 3)) (sigS l 0 []) (.exit 0) (sigE (sigF l)):=by
  refine loop_ok mixed cl8_ok (α:=SigX l) (fun x=>sigS l x.pos x.L) (fun x=>x.f) ?_ ⟨l.length,0,[],by omega,by omega,by simp,rfl⟩
  rintro⟨f,pos,L,h1,h2,h3,h4⟩
  show(∃x':SigX l,x'.f<f∧x1_ Ext0 p_ cl8 _ (sigS l pos L) _ (sigS l x'.pos x'.L))∨(_∧x1_ Ext0 p_ cl8 _ (sigS l pos L) _ _)
  by_cases hlt:pos<l.length
  ·obtain⟨f',rfl⟩:∃f',f=f'+1:=⟨f-1,by omega⟩
   have hw:=dAt_pos l pos
   have hle:=dAt_le hlt
   have hru:=dAt_rune l pos
   unfold sgo at h4
   rw[if_pos hlt]at h4
   refine .inl ⟨⟨f',pos+(dAt l pos).2,L++[(((dAt l pos).1:Nat):Int)],by omega,hle,by simp;omega,h4⟩,by simp only;omega,?_⟩
   simp only
   rw[←sigG_add]
   have hwr:i64.wrap ((Utf8.decode ⟨⟨l⟩⟩ pos).1:Nat)=((dAt l pos).1:Nat):=by
     have hru':(Utf8.decode ⟨⟨l⟩⟩ pos).1≤1114111:=hru
     exact i64_wrap (by omega) (by omega)
   rw[←hwr]
   refine⟨_,_,_,_,_,z4_,by decide,sigr_1 l pos L,?_⟩
   simp only[z7_,and_true,true_and,ints_length]
   omega
  ·have ho:L=sigF l:=by
     rw[←h4]
     cases f with
     |zero=>rfl
     |succ f=>unfold sgo;rw[if_neg hlt]
   refine .inr ⟨by simp,?_⟩
   rw[←ho]
   refine⟨_,_,_,_,_,z4_,by decide,sigr_2 l pos L,?_⟩
   simp only[z7_,and_true]
   omega
noncomputable def sigLp (l:List UInt8):List (Nat×Lp):=[(3,⟨z1_ p_ 13 3,⟨[(3,3)],[3,9],[2,1]⟩,sigS l 0 [],.exit 0,sigE (sigF l)⟩)]
theorem sigLp_ok (l:List UInt8)(hl:l.length≤4000000000):q3_ Ext0 p_ (y1_ (sigLp l)):=x4_ z4_ (show [2,1].Nodup by decide) (sig_loop l hl)
noncomputable def signs_X (l:List UInt8)(h_:List (Nat×Bool)):=y3_ p_ 13 (z8_ p_ cl8 ⟨true,bs h_++([(8,⟨.c (str (q6_ l)),none⟩)])⟩ (y1_ (sigLp (q6_ l))) 60 13 ([.c (str l)]) ([]))
theorem signs_1 (l:List UInt8):signs_X l []=some ((AV.fs 1 ((sigF (q6_ l)).length) (ints (sigF (q6_ l)))),[((l.length:Nat)≤((140737488355328:Nat))),
 ((p_.cellsOf (5:Nat):Nat))=((1:Nat)),
 ((List.take l.length (List.drop (0:Nat) (z6_ l)):List AV))=(z6_ (x8_ (List.take l.length (List.drop (0:Nat) (z6_ l))))),
 ((l.length:Nat))=((x8_ (List.take l.length (List.drop (0:Nat) (z6_ l)))).length),
 ((l.length:Nat)≤((1000000000:Nat))),
 (s9_ [] (AV.c (str (q6_ (x8_ (List.take l.length (List.drop (0:Nat) (z6_ l))))))))=true,
 ((q6_ (x8_ (List.take l.length (List.drop (0:Nat) (z6_ l)))):List UInt8))=(q6_ l),
 ((z1_ p_ (13:FuncId) (3:Nat):Go.Code))=(z1_ p_ (13:FuncId) (3:Nat)),
 ((sigS (q6_ l) (0:Nat) []:St))=(sigS (q6_ l) (0:Nat) [])]):=by kernel_rfl
theorem signs_all (l:List UInt8)(h1:l.length≤1000000000):∃(h:Hints) (p:List Prop),y3_ p_ 13 (z8_ p_ cl8 h (y1_ (sigLp (q6_ l))) 60 13 ([.c (str l)]) ([]))=some (.fs 1 (sigF (q6_ l)).length (ints (sigF (q6_ l))),p)∧z7_ p:=by
  have eR:=signs_1 l
  refine⟨_,_,eR.trans (congrArg (fun r=>some (r,_)) ?_),?_⟩
  ·rfl
  ·have e:List.take l.length (List.drop 0 (z6_ l))=z6_ l:=by rw[List.drop_zero,List.take_of_length_le];simp[w0_]
   rw[e,p1_]
   exact⟨by omega,by kernel_rfl,rfl,rfl,h1,rfl,rfl,rfl,rfl,trivial⟩
def signsSpec:Spec
  | [.c (.string s)]=>some (.fs 1 (sigF (q6_ (sb s))).length (ints (sigF (q6_ (sb s)))),[(sb s).length≤1000000000])
  |_=>none
theorem g7_:w2_ p_ 13 signsSpec:=by
  refine v5_ mixed cl8_ok fun args r q hs hq=>?_
  unfold signsSpec at hs
  split at hs
  ·rename_i s
   simp only[oi_]at hs
   obtain⟨rfl,rfl⟩:=hs
   obtain⟨⟨⟨l⟩⟩,rfl⟩:∃b:ByteArray,b=s:=⟨s,rfl⟩
   obtain⟨h,p,e,hp⟩:=signs_all l hq.1
   have h1:l.length≤1000000000:=hq.1
   exact⟨_,_,_,_,sigLp_ok _ (by have:=decF_le l;omega),e,hp⟩
  ·simp at hs
end Go.Proofs.YtmjldphagbobpaaDoor
namespace Go.Proofs.YtmjldphagbobpaaDoor
open IntKind (i64 u8 i32 u32 u64)
open _root_.Go.Proofs.Tryd renaming prog→p_
open Go.RowKit U8
theorem dAt_nx {l:List UInt8}{pos:Nat}(h:pos<l.length):dAt l pos=if(nx (l.drop pos)).2.2=true then((nx (l.drop pos)).1,(nx (l.drop pos)).2.1)else(65533,1):=by
  have hne:l.drop pos≠[]:=by
    intro e
    have:=congrArg List.length e
    simp only[List.length_drop,List.length_nil]at this
    omega
  have h1:=Lib.decodeL_drop ⟨⟨l⟩⟩ pos
  unfold dAt
  rw[←h1]
  exact nx_decodeL hne
theorem sgn_okC {c:Nat}(h:okC c):sgn (c:Int)=c:=by
  unfold okC at h
  rw[sgn_ok (by omega)]
  omega
theorem bN_take {l:List UInt8}{n i:Nat}(h:i<n):bN (l.take n) i=bN l i:=by
  unfold bN
  simp only[List.getD,List.getElem?_take,if_pos h]
theorem bN_drop (l:List UInt8)(n i:Nat):bN (l.drop n) i=bN l (n+i):=by
  unfold bN
  simp only[List.getD,List.getElem?_drop]
theorem full_take {l:List UInt8}{n:Nat}(h:n<l.length):m6_ (l.take (n+1))=true↔
    Lib.firstT (bN l 0)%8≤n+1∨(1≤n∧(bN l 1<Lib.accLo (Lib.firstT (bN l 0)/16)∨Lib.accHi (Lib.firstT (bN l 0)/16)<bN l 1))∨(2≤n∧(bN l 2<128∨191<bN l 2)):=by
  unfold m6_
  have e0:bN (l.take (n+1)) 0=bN l 0:=bN_take (by omega)
  have e1:1≤n→bN (l.take (n+1)) 1=bN l 1:=fun _=>bN_take (by omega)
  have e2:2≤n→bN (l.take (n+1)) 2=bN l 2:=fun _=>bN_take (by omega)
  have el:(l.take (n+1)).length=n+1:=by rw[List.length_take];omega
  rw[e0,el]
  generalize Lib.firstT (bN l 0)%8=sz
  generalize Lib.accLo (Lib.firstT (bN l 0)/16)=lo
  generalize Lib.accHi (Lib.firstT (bN l 0)/16)=hi
  generalize bN (l.take (n+1)) 1=x1 at*
  generalize bN (l.take (n+1)) 2=x2 at*
  repeat' split
  all_goals simp only[true_iff,false_iff,Bool.false_eq_true]
  all_goals omega
theorem bgo_to (l:List UInt8):∀f n m,n≤m→n+f=l.length→m≤l.length→(∀j,n≤j→j<m→¬m6_ (l.take (j+1))=true)→(m<l.length→m6_ (l.take (m+1))=true)→bgo l f n=m
  |0,n,m,h1,h2,h3,_,_=>by unfold bgo;omega
  |f+1,n,m,h1,h2,h3,h4,h5=>by
   unfold bgo
   by_cases e:n=m
   ·subst e
    rw[if_neg]
    rw[h5 (by omega)]
    simp
   ·have:=h4 n (Nat.le_refl _) (by omega)
    rw[if_pos ⟨by omega,by simpa using this⟩]
    exact bgo_to l f (n+1) m (by omega) (by omega) h3 (fun j hj=>h4 j (by omega)) h5
theorem begun_none {l:List UInt8}(hne:l≠[]){k:Nat}(e:nx l=(65533,k,false)):o1_ l=k:=by
  have hn:1≤l.length:=List.length_pos_iff.2 hne
  unfold o1_
  unfold nx at e
  rcases g4_ (bN l 0)with⟨c,f⟩|⟨c,f⟩|⟨f,c⟩
  ·rw[stepN_a f]at e;simp at e
  ·rw[stepN_b f]at e
   simp only[Prod.mk.injEq,true_and,and_true]at e
   subst e
   refine bgo_to l _ 1 1 (Nat.le_refl _) (by omega) hn (fun j h1 h2=>by omega) fun h=>(full_take h).2 (.inl ?_)
   rw[f];omega
  ·rw[stepN_c f]at e
   obtain⟨sz,lo,hi,e1,e2,e3,hlo,hhi,hs⟩:=d4_ f
   rw[e1,e2,e3]at e
   have ft:∀n,n<l.length→(m6_ (l.take (n+1))=true↔sz≤n+1∨(1≤n∧(bN l 1<lo∨hi<bN l 1))∨(2≤n∧(bN l 2<128∨191<bN l 2))):=by
     intro n h
     rw[full_take h,e1,e2,e3]
   unfold U8.a0_ at e
   split at e
   ·simp only[Prod.mk.injEq,true_and,and_true]at e
    subst e
    refine bgo_to l _ 1 1 (Nat.le_refl _) (by omega) hn (fun j h1 h2=>by omega) fun h=>(ft 1 h).2 (by omega)
   ·split at e
    ·simp at e
    ·split at e
     ·simp only[Prod.mk.injEq,true_and,and_true]at e
      subst e
      refine bgo_to l _ 1 2 (by omega) (by omega) (by omega) (fun j h1 h2=>?_) fun h=>(ft 2 h).2 (by omega)
      have:j=1:=by omega
      subst this
      rw[ft 1 (by omega)];omega
     ·split at e
      ·simp at e
      ·split at e
       ·simp only[Prod.mk.injEq,true_and,and_true]at e
        subst e
        refine bgo_to l _ 1 3 (by omega) (by omega) (by omega) (fun j h1 h2=>?_) fun h=>(ft 3 h).2 (by omega)
        have:j=1∨j=2:=by omega
        rcases this with rfl|rfl
        ·rw[ft 1 (by omega)];omega
        ·rw[ft 2 (by omega)];omega
       ·simp at e
theorem begun_fffd (r:List UInt8):o1_ (y2_ 65533++r)=2:=by
  have e:y2_ 65533++r=239::191::189::r:=rfl
  rw[e]
  unfold o1_
  refine bgo_to _ _ 1 2 (by omega) (by simp only[List.length_cons];omega) (by simp) (fun j h1 h2=>?_) fun _=>?_
  ·have:j=1:=by omega
   subst this
   show ¬m6_ [239,191]=true
   decide
  ·show m6_ [239,191,189]=true
   decide
theorem dgo_fix (l:List UInt8):∀f pos next out,l.length≤pos+f→pos≤l.length→next≤l.length→
    (next≤pos→dgo l f pos next out=out++s0_ (l.drop pos))∧(pos<next→(∀i,pos≤i→i<next→128≤bN l i∧bN l i≤191)→dgo l f pos next out=out++s0_ (l.drop next))
  |0,pos,next,out,h1,h2,h3=>by
   have:pos=l.length:=by omega
   subst this
   refine⟨fun _=>?_,fun h=>by omega⟩
   rw[List.drop_length]
   simp[dgo,s0_,g8_,join]
  |f+1,pos,next,out,h1,h2,h3=>by
   unfold dgo
   by_cases hlt:pos<l.length
   ·rw[if_pos hlt]
    have hd:=dAt_nx hlt
    have hne:l.drop pos≠[]:=by
      intro e
      have:=congrArg List.length e
      simp only[List.length_drop,List.length_nil]at this
      omega
    constructor
    ·intro hn
     rw[if_neg (by omega)]
     have hfix:s0_ (l.drop pos)=y2_ (nx (l.drop pos)).1++s0_ (l.drop (pos+(nx (l.drop pos)).2.1)):=by
       unfold s0_
       rw[r8_ hne,s5_,List.drop_drop]
     rcases a6_ hne with⟨c,e,hc,hl⟩|⟨k,e,k1,k2,k3,k4,k5⟩
     ·rw[e]at hd hfix
      simp only[if_true]at hd hfix
      rw[hd]
      simp only
      have hp:=nx_pos hne
      rw[e,List.length_drop]at hp
      simp only at hp
      have hs:=sgn_okC hc
      by_cases h:c=65533
      ·rw[if_pos h,hs]
       have hb:o1_ (l.drop pos)=2:=by rw[hl,h];exact begun_fffd _
       have h3':(y2_ c).length=3:=by rw[h];rfl
       have ih:=(dgo_fix l f (pos+(y2_ c).length) (pos+o1_ (l.drop pos)) (out++y2_ c) (by omega) (by omega) (by omega)).1 (by omega)
       rw[ih,hfix,List.append_assoc]
      ·rw[if_neg h,hs]
       have ih:=(dgo_fix l f (pos+(y2_ c).length) next (out++y2_ c) (by omega) (by omega) h3).1 (by omega)
       rw[ih,hfix,List.append_assoc]
     ·rw[e]at hd hfix
      simp only[Bool.false_eq_true,if_false]at hd hfix
      rw[hd]
      simp only[if_true]
      rw[begun_none hne e]
      rw[List.length_drop]at k2
      have hs:y2_ (sgn ((65533:Nat):Int))=y2_ 65533:=rfl
      rw[hs]
      by_cases hk:k=1
      ·subst hk
       have ih:=(dgo_fix l f (pos+1) (pos+1) (out++y2_ 65533) (by omega) (by omega) (by omega)).1 (by omega)
       rw[ih,hfix,List.append_assoc]
      ·have ih:=(dgo_fix l f (pos+1) (pos+k) (out++y2_ 65533) (by omega) (by omega) (by omega)).2 (by omega) (fun i i1 i2=>by
         have q1:=k4 (i-pos) (by omega)
         have q2:=k5 (i-pos) (by omega) (by omega)
         rw[bN_drop,show pos+(i-pos)=i by omega]at q1 q2
         exact⟨q1,q2⟩)
       rw[ih,hfix,List.append_assoc]
    ·intro hn hb
     rw[if_pos hn]
     have hb0:=hb pos (Nat.le_refl _) hn
     have hnx:nx (l.drop pos)=(65533,1,false):=by
       rw[drop_cons l pos hlt]
       exact nx_none (.inl ⟨hb0.1,by have:=hb0.2;unfold bN at this;omega⟩)
     rw[hnx]at hd
     simp only[Bool.false_eq_true,if_false]at hd
     rw[hd]
     simp only
     by_cases hq:pos+1<next
     ·exact(dgo_fix l f (pos+1) next out (by omega) (by omega) h3).2 hq fun i i1 i2=>hb i (by omega) i2
     ·have:next=pos+1:=by omega
      rw[this]
      exact(dgo_fix l f (pos+1) (pos+1) out (by omega) (by omega) (by omega)).1 (Nat.le_refl _)
   ·rw[if_neg hlt]
    have:pos=l.length:=by omega
    subst this
    refine⟨fun _=>?_,fun h=>by omega⟩
    rw[List.drop_length]
    simp[s0_,g8_,join]
theorem decF_eq (l:List UInt8):q6_ l=s0_ l:=by
  have:=(dgo_fix l l.length 0 0 [] (by omega) (Nat.zero_le _) (Nat.zero_le _)).1 (Nat.le_refl _)
  simpa [q6_]using this
def z9_ (cs:List Nat):List Int:=cs.map fun c:Nat=>(c:Int)
theorem sgo_join:∀(cs:List Nat) (_:∀c∈cs,okC c) (f:Nat) (pre:List UInt8) (L:List Int),(join cs).length≤f→sgo (pre++join cs) f pre.length L=L++z9_ cs
  | [],_,f,pre,L,_=>by
    have e:pre++join []=pre:=by simp[join]
    rw[e]
    cases f with
    |zero=>simp[sgo,z9_]
    |succ f=>unfold sgo;rw[if_neg (by omega)];simp[z9_]
  |c::cs,h,f,pre,L,hf=>by
   have hl:=(U8.p7_ c).1
   rw[s5_,List.length_append]at hf
   obtain⟨f',rfl⟩:∃f',f=f'+1:=⟨f-1,by omega⟩
   have hc:=h c (.head _)
   have hlt:pre.length<(pre++join (c::cs)).length:=by
     rw[s5_,List.length_append,List.length_append];omega
   have hd:=dAt_nx hlt
   have he:(pre++join (c::cs)).drop pre.length=y2_ c++join cs:=by rw[List.drop_left,s5_]
   rw[he,nx_enc hc]at hd
   simp only[if_true]at hd
   unfold sgo
   rw[if_pos hlt,hd]
   simp only
   have ih:=sgo_join cs (fun x hx=>h x (.tail _ hx)) f' (pre++y2_ c) (L++[(c:Int)]) (by omega)
   rw[s5_,←List.append_assoc,←List.length_append,ih,List.append_assoc]
   rfl
theorem sigF_eq (l:List UInt8):sigF (q6_ l)=z9_ (z3_ l):=by
  rw[decF_eq]
  have:=sgo_join (z3_ l) (U8.g7_ l) (s0_ l).length [] [] (Nat.le_refl _)
  simpa [sigF,s0_]using this
theorem valid_eq (l:List UInt8):Lib.validD l=decide (s0_ l=l):=by
  rw[Bool.eq_iff_iff,valid_iff,decide_eq_true_eq]
end Go.Proofs.YtmjldphagbobpaaDoor
namespace Go.Proofs.YtmjldphagbobpaaDoor
open IntKind (i64 u8 i32 u32 u64)
open _root_.Go.Proofs.Tryd renaming prog→p_
open Go.RowKit U8
def sgL (L:List Int):List Nat:=L.map sgn
theorem sgn_good (c:Int):okC (sgn c):=by
  unfold sgn okC
  split<;>omega
theorem sgL_good (L:List Int):∀c∈sgL L,okC c:=by
  intro c hc
  obtain⟨x,_,rfl⟩:=List.mem_map.1 hc
  exact sgn_good x
theorem int_next (L:List Int)(i:Nat)(h:i<L.length):L.take (i+1)=L.take i++[L.getD i 0]:=v9_ L i 0 h
theorem sgL_app (a b:List Int):sgL (a++b)=sgL a++sgL b:=by simp[sgL]
theorem l4_:∀cs:List Nat,(join cs).length≤4*cs.length
  | []=>by simp[join]
  |c::r=>by
   have:=(U8.p7_ c).2
   have:=l4_ r
   rw[s5_,List.length_append,List.length_cons]
   omega
theorem ints_put (out:List Int)(x:Int):(ints out).take out.length++[AV.c (Value.int IntKind.i64 x)]=ints (out++[x]):=by
  rw[List.take_of_length_le (by rw[ints_length];exact Nat.le_refl _)]
  simp[z2_]
theorem ints_all (l:List Int)(n:Nat)(h:n=l.length):List.take n (List.drop 0 (ints l))=ints l:=by
  rw[List.drop_zero,List.take_of_length_le (by rw[ints_length];omega)]
theorem natI_app (a b:List Nat):z9_ (a++b)=z9_ a++z9_ b:=by simp[z9_]
theorem m3_ (a:List Nat):(z9_ a).length=a.length:=by simp[z9_]
theorem join_next (L:List Int)(i:Nat)(h:i<L.length):join (sgL (L.take (i+1)))=join (sgL (L.take i))++y2_ (sgn (L.getD i 0)):=by
  rw[int_next L i h,sgL_app,a8_]
  congr 1
  simp[sgL,join]
theorem spec_via {P:Program}{f:FuncId}{s spec:Spec}(ok:w2_ P f s)(h:∀args r q,spec args=some (r,q)→z7_ q→∃q',s args=some (r,q')∧z7_ q'):w2_ P f spec:=
  fun args r q hs hq w κ vs hh hl hv=>by
    obtain⟨q',h1,h2⟩:=h args r q hs hq
    exact ok args r q' h1 h2 w κ vs hh hl hv
def decSpecU:Spec
  | [.fs s n l]=>some (.c (str (s0_ (x8_ l))),[s=1,l=z6_ (x8_ l),n=(x8_ l).length,n≤1000000000])
  |_=>none
theorem decU_ok:w2_ p_ 21 decSpecU:=by
  refine spec_via dec_ok fun args r q hs hq=>?_
  unfold decSpecU at hs
  split at hs
  ·simp only[oi_]at hs
   obtain⟨rfl,rfl⟩:=hs
   exact⟨_,by rw[←decF_eq];rfl,hq⟩
  ·simp at hs
def signsSpecU:Spec
  | [.c (.string s)]=>some (.fs 1 (z9_ (z3_ (sb s))).length (ints (z9_ (z3_ (sb s)))),[(sb s).length≤1000000000])
  |_=>none
theorem signsU_ok:w2_ p_ 13 signsSpecU:=by
  refine spec_via g7_ fun args r q hs hq=>?_
  unfold signsSpecU at hs
  split at hs
  ·simp only[oi_]at hs
   obtain⟨rfl,rfl⟩:=hs
   exact⟨_,by rw[←sigF_eq];rfl,hq⟩
  ·simp at hs
def s1_ (L:List Int):Prop:=∀x∈L,-9223372036854775808≤x∧x≤9223372036854775807
theorem sgL_natI {cs:List Nat}(h:∀c∈cs,okC c):sgL (z9_ cs)=cs:=by
  induction cs with
  |nil=>rfl
  |cons c r ih=>
   have:=sgn_okC (h c (.head _))
   simp only[sgL,z9_,List.map_cons]at ih ⊢
   rw[this,ih fun x hx=>h x (.tail _ hx)]
end Go.Proofs.YtmjldphagbobpaaDoor
