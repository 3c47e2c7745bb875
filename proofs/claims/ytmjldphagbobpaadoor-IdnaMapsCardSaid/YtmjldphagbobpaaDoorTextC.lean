import Derived.Test.YtmjldphagbobpaaDoorTextB
set_option linter.unusedVariables false
set_option linter.unusedSimpArgs false
namespace Go.Proofs.YtmjldphagbobpaaDoor
open IntKind (i64 u8 i32 u32 u64)
open _root_.Go.Proofs.Tryd renaming prog→p_
open Go.RowKit
theorem w8_ (r:Int)(a:Nat)(h:a≤31):r.fdiv ((2:Int)^min (Int.toNat (a:Int)) IntKind.i32.bits)=r/2^a:=by
  rw[Int.toNat_natCast,Nat.min_eq_left (by simp only[IntKind.bits];omega),Int.fdiv_eq_ediv_of_nonneg _ (Int.pow_nonneg (by omega))]
theorem or192_:∀x:Fin 32,u8.wrap (BitVec.ofInt IntKind.u8.bits 192 ||| BitVec.ofInt IntKind.u8.bits ((x.val:Nat):Int)).toNat=((192+x.val:Nat):Int):=by decide+kernel
theorem b7_ {z:Int}(h0:0≤z)(h:z<32):u8.wrap (BitVec.ofInt IntKind.u8.bits 192 ||| BitVec.ofInt IntKind.u8.bits z).toNat=192+z:=by
  obtain⟨n,rfl⟩:∃n:Nat,z=n:=⟨z.toNat,by omega⟩
  rw[or192_ ⟨n,by omega⟩]
  simp
theorem or224_:∀x:Fin 16,u8.wrap (BitVec.ofInt IntKind.u8.bits 224 ||| BitVec.ofInt IntKind.u8.bits ((x.val:Nat):Int)).toNat=((224+x.val:Nat):Int):=by decide+kernel
theorem a4_ {z:Int}(h0:0≤z)(h:z<16):u8.wrap (BitVec.ofInt IntKind.u8.bits 224 ||| BitVec.ofInt IntKind.u8.bits z).toNat=224+z:=by
  obtain⟨n,rfl⟩:∃n:Nat,z=n:=⟨z.toNat,by omega⟩
  rw[or224_ ⟨n,by omega⟩]
  simp
theorem or240_:∀x:Fin 8,u8.wrap (BitVec.ofInt IntKind.u8.bits 240 ||| BitVec.ofInt IntKind.u8.bits ((x.val:Nat):Int)).toNat=((240+x.val:Nat):Int):=by decide+kernel
theorem a2_ {z:Int}(h0:0≤z)(h:z<8):u8.wrap (BitVec.ofInt IntKind.u8.bits 240 ||| BitVec.ofInt IntKind.u8.bits z).toNat=240+z:=by
  obtain⟨n,rfl⟩:∃n:Nat,z=n:=⟨z.toNat,by omega⟩
  rw[or240_ ⟨n,by omega⟩]
  simp
theorem or128_:∀x:Fin 64,u8.wrap (BitVec.ofInt IntKind.u8.bits 128 ||| BitVec.ofInt IntKind.u8.bits ((x.val:Nat):Int)).toNat=((128+x.val:Nat):Int):=by decide+kernel
theorem a3_ {z:Int}(h0:0≤z)(h:z<64):u8.wrap (BitVec.ofInt IntKind.u8.bits 128 ||| BitVec.ofInt IntKind.u8.bits z).toNat=128+z:=by
  obtain⟨n,rfl⟩:∃n:Nat,z=n:=⟨z.toNat,by omega⟩
  rw[or128_ ⟨n,by omega⟩]
  simp
theorem and63_:∀x:Fin 256,u8.wrap (BitVec.ofInt IntKind.u8.bits ((x.val:Nat):Int) &&& BitVec.ofInt IntKind.u8.bits 63).toNat=((x.val%64:Nat):Int):=by decide+kernel
theorem a1_ {z:Int}(h0:0≤z)(h:z<256):u8.wrap (BitVec.ofInt IntKind.u8.bits z &&& BitVec.ofInt IntKind.u8.bits 63).toNat=z%64:=by
  obtain⟨n,rfl⟩:∃n:Nat,z=n:=⟨z.toNat,by omega⟩
  rw[and63_ ⟨n,by omega⟩]
  simp
theorem x6_ (z:Int):u8.wrap z=z%256:=by simp[IntKind.wrap,IntKind.bits,IntKind.signed]
theorem m2_ (z:Int):z%256%64=z%64:=by omega
noncomputable def anaSP_X (r:Int)(n:Nat)(l:List AV)(h_:List (Nat×Bool)):=y5_ [1] (z8_ p_ cl0 ⟨true,bs h_++([(7,⟨.c (.int .u32 r),none⟩),(18,⟨.c (.int .u8 (192+r/64)),none⟩),(22,⟨.c (.int .u8 (128+r%64)),none⟩),(38,⟨.c (.int .u8 (224+r/4096)),none⟩),(43,⟨.c (.int .u8 (128+r/64%64)),none⟩),(47,⟨.c (.int .u8 (128+r%64)),none⟩),(61,⟨.c (.int .u8 (240+r/262144)),none⟩),(66,⟨.c (.int .u8 (128+r/4096%64)),none⟩),(71,⟨.c (.int .u8 (128+r/64%64)),none⟩),(75,⟨.c (.int .u8 (128+r%64)),none⟩)])⟩ (y1_ ([])) 60 66 ([.sl 0 0 n,.c (.int .i32 r)]) ([some ⟨5,false,l⟩]))
theorem anaSP_1 (r:Int)(n:Nat)(l:List AV):anaSP_X r n l [(13,true)]=some ((AV.sl 2 0 (n+(2:Nat))),[.none,
 .none,
 (.some ⟨5,false,(List.take n l++
  List.take (2:Nat)
    (List.drop (0:Nat)
      ([AV.c (Value.int IntKind.u8 ((192:Int)+r/(64:Int)))]++
        ([AV.c (Value.int IntKind.u8 ((128:Int)+r%(64:Int)))]++[]))))⟩)],[((u32.wrap r:Int))=(r),
 decide ((r:Int)≤2047)=true,
 ((u8.wrap (↑(BitVec.ofInt IntKind.u8.bits (192:Int) ||| BitVec.ofInt IntKind.u8.bits (u8.wrap (r.fdiv ((2:Int)^min (Int.toNat (6:Int)) IntKind.i32.bits)))).toNat:Int):Int))=((192:Int)+r/(64:Int)),
 ((u8.wrap (↑(BitVec.ofInt IntKind.u8.bits (128:Int) ||| BitVec.ofInt IntKind.u8.bits (u8.wrap (↑(BitVec.ofInt IntKind.u8.bits (u8.wrap r) &&& BitVec.ofInt IntKind.u8.bits (63:Int)).toNat:Int))).toNat:Int):Int))=((128:Int)+r%(64:Int)),
 (((2:Nat):Nat)≤((2:Nat))),
 (((n+(2:Nat))*(1:Nat):Nat)≤((140737488355328:Nat))),
 ((n+(2:Nat):Nat)≤((4611686018427387904:Nat))),
 ((n:Nat)≤(l.length))]):=by kernel_rfl
theorem anaSP_2 (r:Int)(n:Nat)(l:List AV):anaSP_X r n l [(13,false),(27,true)]=some ((AV.sl 2 0 (n+(3:Nat))),[.none,
 .none,
 (.some ⟨5,false,(List.take n l++
  List.take (3:Nat)
    (List.drop (0:Nat)
      ([AV.c (Value.int IntKind.u8 ((224:Int)+r/(4096:Int)))]++
        ([AV.c (Value.int IntKind.u8 ((128:Int)+r/(64:Int)%(64:Int)))]++
          ([AV.c (Value.int IntKind.u8 ((128:Int)+r%(64:Int)))]++[])))))⟩)],[((u32.wrap r:Int))=(r),
 decide ((r:Int)≤2047)=false,
 decide ((r:Int)<55296)=true,
 ((u8.wrap (↑(BitVec.ofInt IntKind.u8.bits (224:Int) ||| BitVec.ofInt IntKind.u8.bits (u8.wrap (r.fdiv ((2:Int)^min (Int.toNat (12:Int)) IntKind.i32.bits)))).toNat:Int):Int))=((224:Int)+r/(4096:Int)),
 ((u8.wrap (↑(BitVec.ofInt IntKind.u8.bits (128:Int) ||| BitVec.ofInt IntKind.u8.bits (u8.wrap (↑(BitVec.ofInt IntKind.u8.bits (u8.wrap (r.fdiv ((2:Int)^min (Int.toNat (6:Int)) IntKind.i32.bits))) &&& BitVec.ofInt IntKind.u8.bits (63:Int)).toNat:Int))).toNat:Int):Int))=((128:Int)+r/(64:Int)%(64:Int)),
 ((u8.wrap (↑(BitVec.ofInt IntKind.u8.bits (128:Int) ||| BitVec.ofInt IntKind.u8.bits (u8.wrap (↑(BitVec.ofInt IntKind.u8.bits (u8.wrap r) &&& BitVec.ofInt IntKind.u8.bits (63:Int)).toNat:Int))).toNat:Int):Int))=((128:Int)+r%(64:Int)),
 (((3:Nat):Nat)≤((3:Nat))),
 (((n+(3:Nat))*(1:Nat):Nat)≤((140737488355328:Nat))),
 ((n+(3:Nat):Nat)≤((4611686018427387904:Nat))),
 ((n:Nat)≤(l.length))]):=by kernel_rfl
theorem anaSP_3 (r:Int)(n:Nat)(l:List AV):anaSP_X r n l [(13,false),(27,false),(29,true),(32,true)]=some ((AV.sl 2 0 (n+(3:Nat))),[.none,
 .none,
 (.some ⟨5,false,(List.take n l++
  List.take (3:Nat)
    (List.drop (0:Nat)
      ([AV.c (Value.int IntKind.u8 ((224:Int)+r/(4096:Int)))]++
        ([AV.c (Value.int IntKind.u8 ((128:Int)+r/(64:Int)%(64:Int)))]++
          ([AV.c (Value.int IntKind.u8 ((128:Int)+r%(64:Int)))]++[])))))⟩)],[((u32.wrap r:Int))=(r),
 decide ((r:Int)≤2047)=false,
 decide ((r:Int)<55296)=false,
 decide ((57343:Int)<r)=true,
 decide ((r:Int)≤65535)=true,
 ((u8.wrap (↑(BitVec.ofInt IntKind.u8.bits (224:Int) ||| BitVec.ofInt IntKind.u8.bits (u8.wrap (r.fdiv ((2:Int)^min (Int.toNat (12:Int)) IntKind.i32.bits)))).toNat:Int):Int))=((224:Int)+r/(4096:Int)),
 ((u8.wrap (↑(BitVec.ofInt IntKind.u8.bits (128:Int) ||| BitVec.ofInt IntKind.u8.bits (u8.wrap (↑(BitVec.ofInt IntKind.u8.bits (u8.wrap (r.fdiv ((2:Int)^min (Int.toNat (6:Int)) IntKind.i32.bits))) &&& BitVec.ofInt IntKind.u8.bits (63:Int)).toNat:Int))).toNat:Int):Int))=((128:Int)+r/(64:Int)%(64:Int)),
 ((u8.wrap (↑(BitVec.ofInt IntKind.u8.bits (128:Int) ||| BitVec.ofInt IntKind.u8.bits (u8.wrap (↑(BitVec.ofInt IntKind.u8.bits (u8.wrap r) &&& BitVec.ofInt IntKind.u8.bits (63:Int)).toNat:Int))).toNat:Int):Int))=((128:Int)+r%(64:Int)),
 (((3:Nat):Nat)≤((3:Nat))),
 (((n+(3:Nat))*(1:Nat):Nat)≤((140737488355328:Nat))),
 ((n+(3:Nat):Nat)≤((4611686018427387904:Nat))),
 ((n:Nat)≤(l.length))]):=by kernel_rfl
theorem anaSP_4 (r:Int)(n:Nat)(l:List AV):anaSP_X r n l [(13,false),(27,false),(29,true),(32,false),(52,true),(55,true)]=some ((AV.sl 2 0 (n+(4:Nat))),[.none,
 .none,
 (.some ⟨5,false,(List.take n l++
  List.take (4:Nat)
    (List.drop (0:Nat)
      ([AV.c (Value.int IntKind.u8 ((240:Int)+r/(262144:Int)))]++
        ([AV.c (Value.int IntKind.u8 ((128:Int)+r/(4096:Int)%(64:Int)))]++
          ([AV.c (Value.int IntKind.u8 ((128:Int)+r/(64:Int)%(64:Int)))]++
            ([AV.c (Value.int IntKind.u8 ((128:Int)+r%(64:Int)))]++[]))))))⟩)],[((u32.wrap r:Int))=(r),
 decide ((r:Int)≤2047)=false,
 decide ((r:Int)<55296)=false,
 decide ((57343:Int)<r)=true,
 decide ((r:Int)≤65535)=false,
 decide ((r:Int)>65535)=true,
 decide ((r:Int)≤1114111)=true,
 ((u8.wrap (↑(BitVec.ofInt IntKind.u8.bits (240:Int) ||| BitVec.ofInt IntKind.u8.bits (u8.wrap (r.fdiv ((2:Int)^min (Int.toNat (18:Int)) IntKind.i32.bits)))).toNat:Int):Int))=((240:Int)+r/(262144:Int)),
 ((u8.wrap (↑(BitVec.ofInt IntKind.u8.bits (128:Int) ||| BitVec.ofInt IntKind.u8.bits (u8.wrap (↑(BitVec.ofInt IntKind.u8.bits (u8.wrap (r.fdiv ((2:Int)^min (Int.toNat (12:Int)) IntKind.i32.bits))) &&& BitVec.ofInt IntKind.u8.bits (63:Int)).toNat:Int))).toNat:Int):Int))=((128:Int)+r/(4096:Int)%(64:Int)),
 ((u8.wrap (↑(BitVec.ofInt IntKind.u8.bits (128:Int) ||| BitVec.ofInt IntKind.u8.bits (u8.wrap (↑(BitVec.ofInt IntKind.u8.bits (u8.wrap (r.fdiv ((2:Int)^min (Int.toNat (6:Int)) IntKind.i32.bits))) &&& BitVec.ofInt IntKind.u8.bits (63:Int)).toNat:Int))).toNat:Int):Int))=((128:Int)+r/(64:Int)%(64:Int)),
 ((u8.wrap (↑(BitVec.ofInt IntKind.u8.bits (128:Int) ||| BitVec.ofInt IntKind.u8.bits (u8.wrap (↑(BitVec.ofInt IntKind.u8.bits (u8.wrap r) &&& BitVec.ofInt IntKind.u8.bits (63:Int)).toNat:Int))).toNat:Int):Int))=((128:Int)+r%(64:Int)),
 (((4:Nat):Nat)≤((4:Nat))),
 (((n+(4:Nat))*(1:Nat):Nat)≤((140737488355328:Nat))),
 ((n+(4:Nat):Nat)≤((4611686018427387904:Nat))),
 ((n:Nat)≤(l.length))]):=by kernel_rfl
theorem anaSP_5 (r:Int)(n:Nat)(l:List AV):anaSP_X r n l [(13,false),(27,false),(29,true),(32,false),(52,true),(55,false)]=some ((AV.sl 2 0 (n+(3:Nat))),[.none,
 .none,
 (.some ⟨5,false,(List.take n l++
  List.take (3:Nat)
    (List.drop (0:Nat)
      ([AV.c (Value.int IntKind.u8 (239:Int))]++
        ([AV.c (Value.int IntKind.u8 (191:Int))]++([AV.c (Value.int IntKind.u8 (189:Int))]++[])))))⟩)],[((u32.wrap r:Int))=(r),
 decide ((r:Int)≤2047)=false,
 decide ((r:Int)<55296)=false,
 decide ((57343:Int)<r)=true,
 decide ((r:Int)≤65535)=false,
 decide ((r:Int)>65535)=true,
 decide ((r:Int)≤1114111)=false,
 (((3:Nat):Nat)≤((3:Nat))),
 (((n+(3:Nat))*(1:Nat):Nat)≤((140737488355328:Nat))),
 ((n+(3:Nat):Nat)≤((4611686018427387904:Nat))),
 ((n:Nat)≤(l.length))]):=by kernel_rfl
theorem anaSP_6 (r:Int)(n:Nat)(l:List AV):anaSP_X r n l [(13,false),(27,false),(29,false),(52,false)]=some ((AV.sl 2 0 (n+(3:Nat))),[.none,
 .none,
 (.some ⟨5,false,(List.take n l++
  List.take (3:Nat)
    (List.drop (0:Nat)
      ([AV.c (Value.int IntKind.u8 (239:Int))]++
        ([AV.c (Value.int IntKind.u8 (191:Int))]++([AV.c (Value.int IntKind.u8 (189:Int))]++[])))))⟩)],[((u32.wrap r:Int))=(r),
 decide ((r:Int)≤2047)=false,
 decide ((r:Int)<55296)=false,
 decide ((57343:Int)<r)=false,
 decide ((r:Int)>65535)=false,
 (((3:Nat):Nat)≤((3:Nat))),
 (((n+(3:Nat))*(1:Nat):Nat)≤((140737488355328:Nat))),
 ((n+(3:Nat):Nat)≤((4611686018427387904:Nat))),
 ((n:Nat)≤(l.length))]):=by kernel_rfl
theorem anaSP_all (r:Int)(n:Nat)(l:List AV)(h0:128≤r)(h1:r≤2147483647)(hb:n+4≤140737488355328)(hn:n≤l.length):∃(h:Hints) (p:List Prop),y5_ [1] (z8_ p_ cl0 h (y1_ ([])) 60 66 ([.sl 0 0 n,.c (.int .i32 r)]) ([some ⟨5,false,l⟩]))=some (.sl 2 0 (n+(y2_ (sgn r)).length),[none,none,some ⟨5,false,l.take n++z6_ (y2_ (sgn r))⟩],p)∧z7_ p:=by
  cases hc13:(decide (r≤(2047:Int)):Bool)with
  |true=>
   have eR:=anaSP_1 r n l
   refine⟨_,_,eR.trans (congrArg (fun r:AV×Heap=>some (r.1,r.2,_)) (a₁:=(_,_)) (a₂:=(_,_)) ?_),?_⟩
   ·simp only[decide_eq_true_eq,decide_eq_false_iff_not]at*
    first
      |rw[x3_ _ (u7_ (r:=r) (by omega) (by omega)),u7_ (by omega) (by omega)]
      |rw[x3_ _ (u8_ (r:=r) (by omega) (by omega) (by omega)),u8_ (by omega) (by omega) (by omega)]
      |rw[x3_ _ (u9_ (r:=r) (by omega) (by omega)),u9_ (by omega) (by omega)]
      |rw[x3_ _ (v6_ (r:=r) (by omega)),v6_ (by omega)]
    rfl
   ·simp only[decide_eq_true_eq,decide_eq_false_iff_not]at*
    have f6:=w8_ r 6 (by omega)
    have f12:=w8_ r 12 (by omega)
    have f18:=w8_ r 18 (by omega)
    have w0:=x6_ r
    have w6:=x6_ (r/64)
    have w12:=x6_ (r/4096)
    simp only[Int.reducePow,Int.cast_ofNat_Int]at f6 f12 f18
    simp(disch:=omega) only[z7_,f6,f12,f18,w0,w6,w12,p6_,b7_,a4_,a2_,a3_,a1_,m2_,q8_,decide_eq_true_eq,decide_eq_false_iff_not,and_true,true_and]
    repeat' apply And.intro
    all_goals omega
  |false=>
   cases hc27:(decide (r<(55296:Int)):Bool)with
   |true=>
    have eR:=anaSP_2 r n l
    refine⟨_,_,eR.trans (congrArg (fun r:AV×Heap=>some (r.1,r.2,_)) (a₁:=(_,_)) (a₂:=(_,_)) ?_),?_⟩
    ·simp only[decide_eq_true_eq,decide_eq_false_iff_not]at*
     first
       |rw[x3_ _ (u7_ (r:=r) (by omega) (by omega)),u7_ (by omega) (by omega)]
       |rw[x3_ _ (u8_ (r:=r) (by omega) (by omega) (by omega)),u8_ (by omega) (by omega) (by omega)]
       |rw[x3_ _ (u9_ (r:=r) (by omega) (by omega)),u9_ (by omega) (by omega)]
       |rw[x3_ _ (v6_ (r:=r) (by omega)),v6_ (by omega)]
     rfl
    ·simp only[decide_eq_true_eq,decide_eq_false_iff_not]at*
     have f6:=w8_ r 6 (by omega)
     have f12:=w8_ r 12 (by omega)
     have f18:=w8_ r 18 (by omega)
     have w0:=x6_ r
     have w6:=x6_ (r/64)
     have w12:=x6_ (r/4096)
     simp only[Int.reducePow,Int.cast_ofNat_Int]at f6 f12 f18
     simp(disch:=omega) only[z7_,f6,f12,f18,w0,w6,w12,p6_,b7_,a4_,a2_,a3_,a1_,m2_,q8_,decide_eq_true_eq,decide_eq_false_iff_not,and_true,true_and]
     repeat' apply And.intro
     all_goals omega
   |false=>
    cases hc29:(decide ((57343:Int)<r):Bool)with
    |true=>
     cases hc32:(decide (r≤(65535:Int)):Bool)with
     |true=>
      have eR:=anaSP_3 r n l
      refine⟨_,_,eR.trans (congrArg (fun r:AV×Heap=>some (r.1,r.2,_)) (a₁:=(_,_)) (a₂:=(_,_)) ?_),?_⟩
      ·simp only[decide_eq_true_eq,decide_eq_false_iff_not]at*
       first
         |rw[x3_ _ (u7_ (r:=r) (by omega) (by omega)),u7_ (by omega) (by omega)]
         |rw[x3_ _ (u8_ (r:=r) (by omega) (by omega) (by omega)),u8_ (by omega) (by omega) (by omega)]
         |rw[x3_ _ (u9_ (r:=r) (by omega) (by omega)),u9_ (by omega) (by omega)]
         |rw[x3_ _ (v6_ (r:=r) (by omega)),v6_ (by omega)]
       rfl
      ·simp only[decide_eq_true_eq,decide_eq_false_iff_not]at*
       have f6:=w8_ r 6 (by omega)
       have f12:=w8_ r 12 (by omega)
       have f18:=w8_ r 18 (by omega)
       have w0:=x6_ r
       have w6:=x6_ (r/64)
       have w12:=x6_ (r/4096)
       simp only[Int.reducePow,Int.cast_ofNat_Int]at f6 f12 f18
       simp(disch:=omega) only[z7_,f6,f12,f18,w0,w6,w12,p6_,b7_,a4_,a2_,a3_,a1_,m2_,q8_,decide_eq_true_eq,decide_eq_false_iff_not,and_true,true_and]
       repeat' apply And.intro
       all_goals omega
     |false=>
      cases hc55:(decide (r≤(1114111:Int)):Bool)with
      |true=>
       have eR:=anaSP_4 r n l
       refine⟨_,_,eR.trans (congrArg (fun r:AV×Heap=>some (r.1,r.2,_)) (a₁:=(_,_)) (a₂:=(_,_)) ?_),?_⟩
       ·simp only[decide_eq_true_eq,decide_eq_false_iff_not]at*
        first
          |rw[x3_ _ (u7_ (r:=r) (by omega) (by omega)),u7_ (by omega) (by omega)]
          |rw[x3_ _ (u8_ (r:=r) (by omega) (by omega) (by omega)),u8_ (by omega) (by omega) (by omega)]
          |rw[x3_ _ (u9_ (r:=r) (by omega) (by omega)),u9_ (by omega) (by omega)]
          |rw[x3_ _ (v6_ (r:=r) (by omega)),v6_ (by omega)]
        rfl
       ·simp only[decide_eq_true_eq,decide_eq_false_iff_not]at*
        have f6:=w8_ r 6 (by omega)
        have f12:=w8_ r 12 (by omega)
        have f18:=w8_ r 18 (by omega)
        have w0:=x6_ r
        have w6:=x6_ (r/64)
        have w12:=x6_ (r/4096)
        simp only[Int.reducePow,Int.cast_ofNat_Int]at f6 f12 f18
        simp(disch:=omega) only[z7_,f6,f12,f18,w0,w6,w12,p6_,b7_,a4_,a2_,a3_,a1_,m2_,q8_,decide_eq_true_eq,decide_eq_false_iff_not,and_true,true_and]
        repeat' apply And.intro
        all_goals omega
      |false=>
       have eR:=anaSP_5 r n l
       refine⟨_,_,eR.trans (congrArg (fun r:AV×Heap=>some (r.1,r.2,_)) (a₁:=(_,_)) (a₂:=(_,_)) ?_),?_⟩
       ·simp only[decide_eq_true_eq,decide_eq_false_iff_not]at*
        first
          |rw[x3_ _ (u7_ (r:=r) (by omega) (by omega)),u7_ (by omega) (by omega)]
          |rw[x3_ _ (u8_ (r:=r) (by omega) (by omega) (by omega)),u8_ (by omega) (by omega) (by omega)]
          |rw[x3_ _ (u9_ (r:=r) (by omega) (by omega)),u9_ (by omega) (by omega)]
          |rw[x3_ _ (v6_ (r:=r) (by omega)),v6_ (by omega)]
        rfl
       ·simp only[decide_eq_true_eq,decide_eq_false_iff_not]at*
        have f6:=w8_ r 6 (by omega)
        have f12:=w8_ r 12 (by omega)
        have f18:=w8_ r 18 (by omega)
        have w0:=x6_ r
        have w6:=x6_ (r/64)
        have w12:=x6_ (r/4096)
        simp only[Int.reducePow,Int.cast_ofNat_Int]at f6 f12 f18
        simp(disch:=omega) only[z7_,f6,f12,f18,w0,w6,w12,p6_,b7_,a4_,a2_,a3_,a1_,m2_,q8_,decide_eq_true_eq,decide_eq_false_iff_not,and_true,true_and]
        repeat' apply And.intro
        all_goals omega
    |false=>
     have eR:=anaSP_6 r n l
     refine⟨_,_,eR.trans (congrArg (fun r:AV×Heap=>some (r.1,r.2,_)) (a₁:=(_,_)) (a₂:=(_,_)) ?_),?_⟩
     ·simp only[decide_eq_true_eq,decide_eq_false_iff_not]at*
      first
        |rw[x3_ _ (u7_ (r:=r) (by omega) (by omega)),u7_ (by omega) (by omega)]
        |rw[x3_ _ (u8_ (r:=r) (by omega) (by omega) (by omega)),u8_ (by omega) (by omega) (by omega)]
        |rw[x3_ _ (u9_ (r:=r) (by omega) (by omega)),u9_ (by omega) (by omega)]
        |rw[x3_ _ (v6_ (r:=r) (by omega)),v6_ (by omega)]
      rfl
     ·simp only[decide_eq_true_eq,decide_eq_false_iff_not]at*
      have f6:=w8_ r 6 (by omega)
      have f12:=w8_ r 12 (by omega)
      have f18:=w8_ r 18 (by omega)
      have w0:=x6_ r
      have w6:=x6_ (r/64)
      have w12:=x6_ (r/4096)
      simp only[Int.reducePow,Int.cast_ofNat_Int]at f6 f12 f18
      simp(disch:=omega) only[z7_,f6,f12,f18,w0,w6,w12,p6_,b7_,a4_,a2_,a3_,a1_,m2_,q8_,decide_eq_true_eq,decide_eq_false_iff_not,and_true,true_and]
      repeat' apply And.intro
      all_goals omega
noncomputable def anaSN_X (r:Int)(n:Nat)(l:List AV)(h_:List (Nat×Bool)):=y5_ [1] (z8_ p_ cl0 ⟨true,bs h_++([(7,⟨.c (.int .u32 (r+4294967296)),none⟩)])⟩ (y1_ ([])) 60 66 ([.sl 0 0 n,.c (.int .i32 r)]) ([some ⟨5,false,l⟩]))
theorem anaSN_1 (r:Int)(n:Nat)(l:List AV):anaSN_X r n l [(13,false),(27,false),(29,true),(32,false),(52,true),(55,false)]=some ((AV.sl 2 0 (n+(3:Nat))),[.none,
 .none,
 (.some ⟨5,false,(List.take n l++
  List.take (3:Nat)
    (List.drop (0:Nat)
      ([AV.c (Value.int IntKind.u8 (239:Int))]++
        ([AV.c (Value.int IntKind.u8 (191:Int))]++([AV.c (Value.int IntKind.u8 (189:Int))]++[])))))⟩)],[((u32.wrap r:Int))=(r+(4294967296:Int)),
 decide ((r+4294967296:Int)≤2047)=false,
 decide ((r+4294967296:Int)<55296)=false,
 decide ((57343:Int)<r+4294967296)=true,
 decide ((r+4294967296:Int)≤65535)=false,
 decide ((r+4294967296:Int)>65535)=true,
 decide ((r+4294967296:Int)≤1114111)=false,
 (((3:Nat):Nat)≤((3:Nat))),
 (((n+(3:Nat))*(1:Nat):Nat)≤((140737488355328:Nat))),
 ((n+(3:Nat):Nat)≤((4611686018427387904:Nat))),
 ((n:Nat)≤(l.length))]):=by kernel_rfl
theorem anaSN_all (r:Int)(n:Nat)(l:List AV)(h0:r<0)(h1: -2147483648≤r)(hb:n+4≤140737488355328)(hn:n≤l.length):∃(h:Hints) (p:List Prop),y5_ [1] (z8_ p_ cl0 h (y1_ ([])) 60 66 ([.sl 0 0 n,.c (.int .i32 r)]) ([some ⟨5,false,l⟩]))=some (.sl 2 0 (n+(y2_ (sgn r)).length),[none,none,some ⟨5,false,l.take n++z6_ (y2_ (sgn r))⟩],p)∧z7_ p:=by
  have eR:=anaSN_1 r n l
  refine⟨_,_,eR.trans (congrArg (fun r:AV×Heap=>some (r.1,r.2,_)) (a₁:=(_,_)) (a₂:=(_,_)) ?_),?_⟩
  ·simp only[decide_eq_true_eq,decide_eq_false_iff_not]at*
   rw[x3_ _ (v6_ (r:=r) (by omega)),v6_ (by omega)]
   rfl
  ·have w0:u32.wrap r=r+4294967296:=by simp only[IntKind.wrap,IntKind.bits,IntKind.signed];simp;omega
   simp only[decide_eq_true_eq,decide_eq_false_iff_not]at*
   simp(disch:=omega) only[z7_,w0,decide_eq_true_eq,decide_eq_false_iff_not,and_true,true_and]
   repeat' apply And.intro
   all_goals omega
noncomputable def ana0P_X (r:Int)(h_:List (Nat×Bool)):=y5_ [0] (z8_ p_ cl0 ⟨true,bs h_++([(7,⟨.c (.int .u32 r),none⟩),(18,⟨.c (.int .u8 (192+r/64)),none⟩),(22,⟨.c (.int .u8 (128+r%64)),none⟩),(38,⟨.c (.int .u8 (224+r/4096)),none⟩),(43,⟨.c (.int .u8 (128+r/64%64)),none⟩),(47,⟨.c (.int .u8 (128+r%64)),none⟩),(61,⟨.c (.int .u8 (240+r/262144)),none⟩),(66,⟨.c (.int .u8 (128+r/4096%64)),none⟩),(71,⟨.c (.int .u8 (128+r/64%64)),none⟩),(75,⟨.c (.int .u8 (128+r%64)),none⟩)])⟩ (y1_ ([])) 60 66 ([.c (.slice none 0 0),.c (.int .i32 r)]) ([]))
theorem ana0P_1 (r:Int):ana0P_X r [(13,true)]=some ((AV.sl 1 0 2),[.none,
 (.some ⟨5,false,[(AV.c ((Value.int .u8 ((192:Int)+r/(64:Int))))),
 (AV.c ((Value.int .u8 ((128:Int)+r%(64:Int)))))]⟩)],[((u32.wrap r:Int))=(r),
 decide ((r:Int)≤2047)=true,
 ((u8.wrap (↑(BitVec.ofInt IntKind.u8.bits (192:Int) ||| BitVec.ofInt IntKind.u8.bits (u8.wrap (r.fdiv ((2:Int)^min (Int.toNat (6:Int)) IntKind.i32.bits)))).toNat:Int):Int))=((192:Int)+r/(64:Int)),
 ((u8.wrap (↑(BitVec.ofInt IntKind.u8.bits (128:Int) ||| BitVec.ofInt IntKind.u8.bits (u8.wrap (↑(BitVec.ofInt IntKind.u8.bits (u8.wrap r) &&& BitVec.ofInt IntKind.u8.bits (63:Int)).toNat:Int))).toNat:Int):Int))=((128:Int)+r%(64:Int)),
 (((2:Nat):Nat)≤((2:Nat))),
 (((2:Nat):Nat)≤((140737488355328:Nat))),
 (((2:Nat):Nat)≤((4611686018427387904:Nat)))]):=by kernel_rfl
theorem ana0P_2 (r:Int):ana0P_X r [(13,false),(27,true)]=some ((AV.sl 1 0 3),[.none,
 (.some ⟨5,false,[(AV.c ((Value.int .u8 ((224:Int)+r/(4096:Int))))),
 (AV.c ((Value.int .u8 ((128:Int)+r/(64:Int)%(64:Int))))),
 (AV.c ((Value.int .u8 ((128:Int)+r%(64:Int)))))]⟩)],[((u32.wrap r:Int))=(r),
 decide ((r:Int)≤2047)=false,
 decide ((r:Int)<55296)=true,
 ((u8.wrap (↑(BitVec.ofInt IntKind.u8.bits (224:Int) ||| BitVec.ofInt IntKind.u8.bits (u8.wrap (r.fdiv ((2:Int)^min (Int.toNat (12:Int)) IntKind.i32.bits)))).toNat:Int):Int))=((224:Int)+r/(4096:Int)),
 ((u8.wrap (↑(BitVec.ofInt IntKind.u8.bits (128:Int) ||| BitVec.ofInt IntKind.u8.bits (u8.wrap (↑(BitVec.ofInt IntKind.u8.bits (u8.wrap (r.fdiv ((2:Int)^min (Int.toNat (6:Int)) IntKind.i32.bits))) &&& BitVec.ofInt IntKind.u8.bits (63:Int)).toNat:Int))).toNat:Int):Int))=((128:Int)+r/(64:Int)%(64:Int)),
 ((u8.wrap (↑(BitVec.ofInt IntKind.u8.bits (128:Int) ||| BitVec.ofInt IntKind.u8.bits (u8.wrap (↑(BitVec.ofInt IntKind.u8.bits (u8.wrap r) &&& BitVec.ofInt IntKind.u8.bits (63:Int)).toNat:Int))).toNat:Int):Int))=((128:Int)+r%(64:Int)),
 (((3:Nat):Nat)≤((3:Nat))),
 (((3:Nat):Nat)≤((140737488355328:Nat))),
 (((3:Nat):Nat)≤((4611686018427387904:Nat)))]):=by kernel_rfl
theorem ana0P_3 (r:Int):ana0P_X r [(13,false),(27,false),(29,true),(32,true)]=some ((AV.sl 1 0 3),[.none,
 (.some ⟨5,false,[(AV.c ((Value.int .u8 ((224:Int)+r/(4096:Int))))),
 (AV.c ((Value.int .u8 ((128:Int)+r/(64:Int)%(64:Int))))),
 (AV.c ((Value.int .u8 ((128:Int)+r%(64:Int)))))]⟩)],[((u32.wrap r:Int))=(r),
 decide ((r:Int)≤2047)=false,
 decide ((r:Int)<55296)=false,
 decide ((57343:Int)<r)=true,
 decide ((r:Int)≤65535)=true,
 ((u8.wrap (↑(BitVec.ofInt IntKind.u8.bits (224:Int) ||| BitVec.ofInt IntKind.u8.bits (u8.wrap (r.fdiv ((2:Int)^min (Int.toNat (12:Int)) IntKind.i32.bits)))).toNat:Int):Int))=((224:Int)+r/(4096:Int)),
 ((u8.wrap (↑(BitVec.ofInt IntKind.u8.bits (128:Int) ||| BitVec.ofInt IntKind.u8.bits (u8.wrap (↑(BitVec.ofInt IntKind.u8.bits (u8.wrap (r.fdiv ((2:Int)^min (Int.toNat (6:Int)) IntKind.i32.bits))) &&& BitVec.ofInt IntKind.u8.bits (63:Int)).toNat:Int))).toNat:Int):Int))=((128:Int)+r/(64:Int)%(64:Int)),
 ((u8.wrap (↑(BitVec.ofInt IntKind.u8.bits (128:Int) ||| BitVec.ofInt IntKind.u8.bits (u8.wrap (↑(BitVec.ofInt IntKind.u8.bits (u8.wrap r) &&& BitVec.ofInt IntKind.u8.bits (63:Int)).toNat:Int))).toNat:Int):Int))=((128:Int)+r%(64:Int)),
 (((3:Nat):Nat)≤((3:Nat))),
 (((3:Nat):Nat)≤((140737488355328:Nat))),
 (((3:Nat):Nat)≤((4611686018427387904:Nat)))]):=by kernel_rfl
theorem ana0P_4 (r:Int):ana0P_X r [(13,false),(27,false),(29,true),(32,false),(52,true),(55,true)]=some ((AV.sl 1 0 4),[.none,
 (.some ⟨5,false,[(AV.c ((Value.int .u8 ((240:Int)+r/(262144:Int))))),
 (AV.c ((Value.int .u8 ((128:Int)+r/(4096:Int)%(64:Int))))),
 (AV.c ((Value.int .u8 ((128:Int)+r/(64:Int)%(64:Int))))),
 (AV.c ((Value.int .u8 ((128:Int)+r%(64:Int)))))]⟩)],[((u32.wrap r:Int))=(r),
 decide ((r:Int)≤2047)=false,
 decide ((r:Int)<55296)=false,
 decide ((57343:Int)<r)=true,
 decide ((r:Int)≤65535)=false,
 decide ((r:Int)>65535)=true,
 decide ((r:Int)≤1114111)=true,
 ((u8.wrap (↑(BitVec.ofInt IntKind.u8.bits (240:Int) ||| BitVec.ofInt IntKind.u8.bits (u8.wrap (r.fdiv ((2:Int)^min (Int.toNat (18:Int)) IntKind.i32.bits)))).toNat:Int):Int))=((240:Int)+r/(262144:Int)),
 ((u8.wrap (↑(BitVec.ofInt IntKind.u8.bits (128:Int) ||| BitVec.ofInt IntKind.u8.bits (u8.wrap (↑(BitVec.ofInt IntKind.u8.bits (u8.wrap (r.fdiv ((2:Int)^min (Int.toNat (12:Int)) IntKind.i32.bits))) &&& BitVec.ofInt IntKind.u8.bits (63:Int)).toNat:Int))).toNat:Int):Int))=((128:Int)+r/(4096:Int)%(64:Int)),
 ((u8.wrap (↑(BitVec.ofInt IntKind.u8.bits (128:Int) ||| BitVec.ofInt IntKind.u8.bits (u8.wrap (↑(BitVec.ofInt IntKind.u8.bits (u8.wrap (r.fdiv ((2:Int)^min (Int.toNat (6:Int)) IntKind.i32.bits))) &&& BitVec.ofInt IntKind.u8.bits (63:Int)).toNat:Int))).toNat:Int):Int))=((128:Int)+r/(64:Int)%(64:Int)),
 ((u8.wrap (↑(BitVec.ofInt IntKind.u8.bits (128:Int) ||| BitVec.ofInt IntKind.u8.bits (u8.wrap (↑(BitVec.ofInt IntKind.u8.bits (u8.wrap r) &&& BitVec.ofInt IntKind.u8.bits (63:Int)).toNat:Int))).toNat:Int):Int))=((128:Int)+r%(64:Int)),
 (((4:Nat):Nat)≤((4:Nat))),
 (((4:Nat):Nat)≤((140737488355328:Nat))),
 (((4:Nat):Nat)≤((4611686018427387904:Nat)))]):=by kernel_rfl
theorem ana0P_5 (r:Int):ana0P_X r [(13,false),(27,false),(29,true),(32,false),(52,true),(55,false)]=some ((AV.sl 1 0 3),[.none,
 (.some ⟨5,false,[(AV.c ((Value.int .u8 239))),
 (AV.c ((Value.int .u8 191))),
 (AV.c ((Value.int .u8 189)))]⟩)],[((u32.wrap r:Int))=(r),
 decide ((r:Int)≤2047)=false,
 decide ((r:Int)<55296)=false,
 decide ((57343:Int)<r)=true,
 decide ((r:Int)≤65535)=false,
 decide ((r:Int)>65535)=true,
 decide ((r:Int)≤1114111)=false,
 (((3:Nat):Nat)≤((3:Nat))),
 (((3:Nat):Nat)≤((140737488355328:Nat))),
 (((3:Nat):Nat)≤((4611686018427387904:Nat)))]):=by kernel_rfl
theorem ana0P_6 (r:Int):ana0P_X r [(13,false),(27,false),(29,false),(52,false)]=some ((AV.sl 1 0 3),[.none,
 (.some ⟨5,false,[(AV.c ((Value.int .u8 239))),
 (AV.c ((Value.int .u8 191))),
 (AV.c ((Value.int .u8 189)))]⟩)],[((u32.wrap r:Int))=(r),
 decide ((r:Int)≤2047)=false,
 decide ((r:Int)<55296)=false,
 decide ((57343:Int)<r)=false,
 decide ((r:Int)>65535)=false,
 (((3:Nat):Nat)≤((3:Nat))),
 (((3:Nat):Nat)≤((140737488355328:Nat))),
 (((3:Nat):Nat)≤((4611686018427387904:Nat)))]):=by kernel_rfl
theorem ana0P_all (r:Int)(h0:128≤r)(h1:r≤2147483647):∃(h:Hints) (p:List Prop),y5_ [0] (z8_ p_ cl0 h (y1_ ([])) 60 66 ([.c (.slice none 0 0),.c (.int .i32 r)]) ([]))=some (.sl 1 0 (y2_ (sgn r)).length,[none,some ⟨5,false,z6_ (y2_ (sgn r))⟩],p)∧z7_ p:=by
  cases hc13:(decide (r≤(2047:Int)):Bool)with
  |true=>
   have eR:=ana0P_1 r
   refine⟨_,_,eR.trans (congrArg (fun r:AV×Heap=>some (r.1,r.2,_)) (a₁:=(_,_)) (a₂:=(_,_)) ?_),?_⟩
   ·simp only[decide_eq_true_eq,decide_eq_false_iff_not]at*
    first
      |rw[x3_ _ (u7_ (r:=r) (by omega) (by omega)),u7_ (by omega) (by omega)]
      |rw[x3_ _ (u8_ (r:=r) (by omega) (by omega) (by omega)),u8_ (by omega) (by omega) (by omega)]
      |rw[x3_ _ (u9_ (r:=r) (by omega) (by omega)),u9_ (by omega) (by omega)]
      |rw[x3_ _ (v6_ (r:=r) (by omega)),v6_ (by omega)]
    rfl
   ·simp only[decide_eq_true_eq,decide_eq_false_iff_not]at*
    have f6:=w8_ r 6 (by omega)
    have f12:=w8_ r 12 (by omega)
    have f18:=w8_ r 18 (by omega)
    have w0:=x6_ r
    have w6:=x6_ (r/64)
    have w12:=x6_ (r/4096)
    simp only[Int.reducePow,Int.cast_ofNat_Int]at f6 f12 f18
    simp(disch:=omega) only[z7_,f6,f12,f18,w0,w6,w12,p6_,b7_,a4_,a2_,a3_,a1_,m2_,q8_,decide_eq_true_eq,decide_eq_false_iff_not,and_true,true_and]
    repeat' apply And.intro
    all_goals omega
  |false=>
   cases hc27:(decide (r<(55296:Int)):Bool)with
   |true=>
    have eR:=ana0P_2 r
    refine⟨_,_,eR.trans (congrArg (fun r:AV×Heap=>some (r.1,r.2,_)) (a₁:=(_,_)) (a₂:=(_,_)) ?_),?_⟩
    ·simp only[decide_eq_true_eq,decide_eq_false_iff_not]at*
     first
       |rw[x3_ _ (u7_ (r:=r) (by omega) (by omega)),u7_ (by omega) (by omega)]
       |rw[x3_ _ (u8_ (r:=r) (by omega) (by omega) (by omega)),u8_ (by omega) (by omega) (by omega)]
       |rw[x3_ _ (u9_ (r:=r) (by omega) (by omega)),u9_ (by omega) (by omega)]
       |rw[x3_ _ (v6_ (r:=r) (by omega)),v6_ (by omega)]
     rfl
    ·simp only[decide_eq_true_eq,decide_eq_false_iff_not]at*
     have f6:=w8_ r 6 (by omega)
     have f12:=w8_ r 12 (by omega)
     have f18:=w8_ r 18 (by omega)
     have w0:=x6_ r
     have w6:=x6_ (r/64)
     have w12:=x6_ (r/4096)
     simp only[Int.reducePow,Int.cast_ofNat_Int]at f6 f12 f18
     simp(disch:=omega) only[z7_,f6,f12,f18,w0,w6,w12,p6_,b7_,a4_,a2_,a3_,a1_,m2_,q8_,decide_eq_true_eq,decide_eq_false_iff_not,and_true,true_and]
     repeat' apply And.intro
     all_goals omega
   |false=>
    cases hc29:(decide ((57343:Int)<r):Bool)with
    |true=>
     cases hc32:(decide (r≤(65535:Int)):Bool)with
     |true=>
      have eR:=ana0P_3 r
      refine⟨_,_,eR.trans (congrArg (fun r:AV×Heap=>some (r.1,r.2,_)) (a₁:=(_,_)) (a₂:=(_,_)) ?_),?_⟩
      ·simp only[decide_eq_true_eq,decide_eq_false_iff_not]at*
       first
         |rw[x3_ _ (u7_ (r:=r) (by omega) (by omega)),u7_ (by omega) (by omega)]
         |rw[x3_ _ (u8_ (r:=r) (by omega) (by omega) (by omega)),u8_ (by omega) (by omega) (by omega)]
         |rw[x3_ _ (u9_ (r:=r) (by omega) (by omega)),u9_ (by omega) (by omega)]
         |rw[x3_ _ (v6_ (r:=r) (by omega)),v6_ (by omega)]
       rfl
      ·simp only[decide_eq_true_eq,decide_eq_false_iff_not]at*
       have f6:=w8_ r 6 (by omega)
       have f12:=w8_ r 12 (by omega)
       have f18:=w8_ r 18 (by omega)
       have w0:=x6_ r
       have w6:=x6_ (r/64)
       have w12:=x6_ (r/4096)
       simp only[Int.reducePow,Int.cast_ofNat_Int]at f6 f12 f18
       simp(disch:=omega) only[z7_,f6,f12,f18,w0,w6,w12,p6_,b7_,a4_,a2_,a3_,a1_,m2_,q8_,decide_eq_true_eq,decide_eq_false_iff_not,and_true,true_and]
       repeat' apply And.intro
       all_goals omega
     |false=>
      cases hc55:(decide (r≤(1114111:Int)):Bool)with
      |true=>
       have eR:=ana0P_4 r
       refine⟨_,_,eR.trans (congrArg (fun r:AV×Heap=>some (r.1,r.2,_)) (a₁:=(_,_)) (a₂:=(_,_)) ?_),?_⟩
       ·simp only[decide_eq_true_eq,decide_eq_false_iff_not]at*
        first
          |rw[x3_ _ (u7_ (r:=r) (by omega) (by omega)),u7_ (by omega) (by omega)]
          |rw[x3_ _ (u8_ (r:=r) (by omega) (by omega) (by omega)),u8_ (by omega) (by omega) (by omega)]
          |rw[x3_ _ (u9_ (r:=r) (by omega) (by omega)),u9_ (by omega) (by omega)]
          |rw[x3_ _ (v6_ (r:=r) (by omega)),v6_ (by omega)]
        rfl
       ·simp only[decide_eq_true_eq,decide_eq_false_iff_not]at*
        have f6:=w8_ r 6 (by omega)
        have f12:=w8_ r 12 (by omega)
        have f18:=w8_ r 18 (by omega)
        have w0:=x6_ r
        have w6:=x6_ (r/64)
        have w12:=x6_ (r/4096)
        simp only[Int.reducePow,Int.cast_ofNat_Int]at f6 f12 f18
        simp(disch:=omega) only[z7_,f6,f12,f18,w0,w6,w12,p6_,b7_,a4_,a2_,a3_,a1_,m2_,q8_,decide_eq_true_eq,decide_eq_false_iff_not,and_true,true_and]
        repeat' apply And.intro
        all_goals omega
      |false=>
       have eR:=ana0P_5 r
       refine⟨_,_,eR.trans (congrArg (fun r:AV×Heap=>some (r.1,r.2,_)) (a₁:=(_,_)) (a₂:=(_,_)) ?_),?_⟩
       ·simp only[decide_eq_true_eq,decide_eq_false_iff_not]at*
        first
          |rw[x3_ _ (u7_ (r:=r) (by omega) (by omega)),u7_ (by omega) (by omega)]
          |rw[x3_ _ (u8_ (r:=r) (by omega) (by omega) (by omega)),u8_ (by omega) (by omega) (by omega)]
          |rw[x3_ _ (u9_ (r:=r) (by omega) (by omega)),u9_ (by omega) (by omega)]
          |rw[x3_ _ (v6_ (r:=r) (by omega)),v6_ (by omega)]
        rfl
       ·simp only[decide_eq_true_eq,decide_eq_false_iff_not]at*
        have f6:=w8_ r 6 (by omega)
        have f12:=w8_ r 12 (by omega)
        have f18:=w8_ r 18 (by omega)
        have w0:=x6_ r
        have w6:=x6_ (r/64)
        have w12:=x6_ (r/4096)
        simp only[Int.reducePow,Int.cast_ofNat_Int]at f6 f12 f18
        simp(disch:=omega) only[z7_,f6,f12,f18,w0,w6,w12,p6_,b7_,a4_,a2_,a3_,a1_,m2_,q8_,decide_eq_true_eq,decide_eq_false_iff_not,and_true,true_and]
        repeat' apply And.intro
        all_goals omega
    |false=>
     have eR:=ana0P_6 r
     refine⟨_,_,eR.trans (congrArg (fun r:AV×Heap=>some (r.1,r.2,_)) (a₁:=(_,_)) (a₂:=(_,_)) ?_),?_⟩
     ·simp only[decide_eq_true_eq,decide_eq_false_iff_not]at*
      first
        |rw[x3_ _ (u7_ (r:=r) (by omega) (by omega)),u7_ (by omega) (by omega)]
        |rw[x3_ _ (u8_ (r:=r) (by omega) (by omega) (by omega)),u8_ (by omega) (by omega) (by omega)]
        |rw[x3_ _ (u9_ (r:=r) (by omega) (by omega)),u9_ (by omega) (by omega)]
        |rw[x3_ _ (v6_ (r:=r) (by omega)),v6_ (by omega)]
      rfl
     ·simp only[decide_eq_true_eq,decide_eq_false_iff_not]at*
      have f6:=w8_ r 6 (by omega)
      have f12:=w8_ r 12 (by omega)
      have f18:=w8_ r 18 (by omega)
      have w0:=x6_ r
      have w6:=x6_ (r/64)
      have w12:=x6_ (r/4096)
      simp only[Int.reducePow,Int.cast_ofNat_Int]at f6 f12 f18
      simp(disch:=omega) only[z7_,f6,f12,f18,w0,w6,w12,p6_,b7_,a4_,a2_,a3_,a1_,m2_,q8_,decide_eq_true_eq,decide_eq_false_iff_not,and_true,true_and]
      repeat' apply And.intro
      all_goals omega
noncomputable def ana0N_X (r:Int)(h_:List (Nat×Bool)):=y5_ [0] (z8_ p_ cl0 ⟨true,bs h_++([(7,⟨.c (.int .u32 (r+4294967296)),none⟩)])⟩ (y1_ ([])) 60 66 ([.c (.slice none 0 0),.c (.int .i32 r)]) ([]))
theorem ana0N_1 (r:Int):ana0N_X r [(13,false),(27,false),(29,true),(32,false),(52,true),(55,false)]=some ((AV.sl 1 0 3),[.none,
 (.some ⟨5,false,[(AV.c ((Value.int .u8 239))),
 (AV.c ((Value.int .u8 191))),
 (AV.c ((Value.int .u8 189)))]⟩)],[((u32.wrap r:Int))=(r+(4294967296:Int)),
 decide ((r+4294967296:Int)≤2047)=false,
 decide ((r+4294967296:Int)<55296)=false,
 decide ((57343:Int)<r+4294967296)=true,
 decide ((r+4294967296:Int)≤65535)=false,
 decide ((r+4294967296:Int)>65535)=true,
 decide ((r+4294967296:Int)≤1114111)=false,
 (((3:Nat):Nat)≤((3:Nat))),
 (((3:Nat):Nat)≤((140737488355328:Nat))),
 (((3:Nat):Nat)≤((4611686018427387904:Nat)))]):=by kernel_rfl
theorem ana0N_all (r:Int)(h0:r<0)(h1: -2147483648≤r):∃(h:Hints) (p:List Prop),y5_ [0] (z8_ p_ cl0 h (y1_ ([])) 60 66 ([.c (.slice none 0 0),.c (.int .i32 r)]) ([]))=some (.sl 1 0 (y2_ (sgn r)).length,[none,some ⟨5,false,z6_ (y2_ (sgn r))⟩],p)∧z7_ p:=by
  have eR:=ana0N_1 r
  refine⟨_,_,eR.trans (congrArg (fun r:AV×Heap=>some (r.1,r.2,_)) (a₁:=(_,_)) (a₂:=(_,_)) ?_),?_⟩
  ·simp only[decide_eq_true_eq,decide_eq_false_iff_not]at*
   rw[x3_ _ (v6_ (r:=r) (by omega)),v6_ (by omega)]
   rfl
  ·have w0:u32.wrap r=r+4294967296:=by simp only[IntKind.wrap,IntKind.bits,IntKind.signed];simp;omega
   simp only[decide_eq_true_eq,decide_eq_false_iff_not]at*
   simp(disch:=omega) only[z7_,w0,decide_eq_true_eq,decide_eq_false_iff_not,and_true,true_and]
   repeat' apply And.intro
   all_goals omega
end Go.Proofs.YtmjldphagbobpaaDoor
