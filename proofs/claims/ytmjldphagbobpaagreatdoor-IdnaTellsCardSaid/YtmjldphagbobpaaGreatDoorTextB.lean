import Derived.Test.YtmjldphagbobpaaGreatDoorBas
set_option linter.unusedVariables false
set_option linter.unusedSimpArgs false
namespace Go.Proofs.YtmjldphagbobpaaGreatDoor
open IntKind (i64 u8 i32 u32 u64)
open _root_.Go.Proofs.Tryz renaming prog→p_
open Go.RowKit
set_option maxRecDepth 100000
def y5_ (c:Nat):List UInt8:=
  if c<128 then [UInt8.ofNat c]
  else if c<2048 then [UInt8.ofNat (192+c/64),UInt8.ofNat (128+c%64)]
  else if c<65536 then [UInt8.ofNat (224+c/4096),UInt8.ofNat (128+c/64%64),UInt8.ofNat (128+c%64)]
  else [UInt8.ofNat (240+c/262144),UInt8.ofNat (128+c/4096%64),UInt8.ofNat (128+c/64%64),UInt8.ofNat (128+c%64)]
def sgn (c:Int):Nat:=if c<0∨c>1114111∨(c≥55296∧c≤57343)then 65533 else c.toNat
theorem sb_encode (c:Int):sb (Utf8.encode c)=y5_ (sgn c):=by
  have e:(if Utf8.valid c=true then c.toNat else Utf8.runeError)=sgn c:=by
    unfold sgn
    simp only[Utf8.valid,Bool.or_eq_true,Bool.and_eq_true,decide_eq_true_eq]
    split
    ·rw[if_neg (by omega)]
    ·rw[if_pos (by omega)];rfl
  unfold Utf8.encode
  simp only[e]
  unfold y5_
  split
  ·rfl
  ·split
   ·rfl
   ·split
    ·rfl
    ·rfl
def e4_:Spec
  | [.c (.int .i64 c)]=>some (.c (str (y5_ (sgn c))),[-9223372036854775808≤c,c≤9223372036854775807])
  |_=>none
theorem i0_ {c:Int}(h:c<0∨c>1114111∨(c≥55296∧c≤57343)):sgn c=65533:=if_pos h
theorem h6_ {c:Int}(h:¬(c<0∨c>1114111∨(c≥55296∧c≤57343))):sgn c=c.toNat:=if_neg h
noncomputable def sign_X (c:Int)(h_:List (Nat×Bool)):=y0_ p_ 13 (z9_ p_ cl0 ⟨true,bs h_++([(11,⟨.c (.int .i32 c),none⟩),(13,⟨.c (str (y5_ (sgn c))),none⟩)])⟩ (y1_ ([])) 60 13 ([.c (.int .i64 c)]) ([]))
theorem sign_1 (c:Int):sign_X c [(5,true),(8,true)]=some ((AV.c ((str (y5_ (sgn c))))),[decide ((0:Int)≤c)=true,
 decide ((c:Int)≤1114111)=true,
 ((i32.wrap c:Int))=(c),
 ((sb (Utf8.encode c):List UInt8))=(y5_ (sgn c))]):=by kernel_rfl
theorem sign_2 (c:Int):sign_X c [(5,true),(8,false)]=some ((AV.c ((str (y5_ (sgn c))))),[decide ((0:Int)≤c)=true,
 decide ((c:Int)≤1114111)=false,
 (([UInt8.ofNat (239:Nat),UInt8.ofNat (191:Nat),UInt8.ofNat (189:Nat)]:List UInt8))=(y5_ (sgn c))]):=by kernel_rfl
theorem sign_3 (c:Int):sign_X c [(5,false)]=some ((AV.c ((str (y5_ (sgn c))))),[decide ((0:Int)≤c)=false,
 (([UInt8.ofNat (239:Nat),UInt8.ofNat (191:Nat),UInt8.ofNat (189:Nat)]:List UInt8))=(y5_ (sgn c))]):=by kernel_rfl
theorem sign_all (c:Int):∃(h:Hints) (p:List Prop),y0_ p_ 13 (z9_ p_ cl0 h (y1_ ([])) 60 13 ([.c (.int .i64 c)]) ([]))=some (.c (str (y5_ (sgn c))),p)∧z7_ p:=by
  cases hc5:(decide ((0:Int)≤c):Bool)with
  |true=>
   cases hc8:(decide (c≤(1114111:Int)):Bool)with
   |true=>
    have eR:=sign_1 c
    refine⟨_,_,eR.trans (congrArg (fun r=>some (r,_)) ?_),?_⟩
    ·rfl
    ·simp only[z7_,and_true,true_and,decide_eq_true_eq,decide_eq_false_iff_not]at*
     repeat' apply And.intro
     all_goals first|omega|exact i32_wrap (by omega) (by omega)|exact sb_encode c|(rw[i0_ (by omega)];rfl)
   |false=>
    have eR:=sign_2 c
    refine⟨_,_,eR.trans (congrArg (fun r=>some (r,_)) ?_),?_⟩
    ·rfl
    ·simp only[z7_,and_true,true_and,decide_eq_true_eq,decide_eq_false_iff_not]at*
     repeat' apply And.intro
     all_goals first|omega|exact i32_wrap (by omega) (by omega)|exact sb_encode c|(rw[i0_ (by omega)];rfl)
  |false=>
   have eR:=sign_3 c
   refine⟨_,_,eR.trans (congrArg (fun r=>some (r,_)) ?_),?_⟩
   ·rfl
   ·simp only[z7_,and_true,true_and,decide_eq_true_eq,decide_eq_false_iff_not]at*
    repeat' apply And.intro
    all_goals first|omega|exact i32_wrap (by omega) (by omega)|exact sb_encode c|(rw[i0_ (by omega)];rfl)
theorem sign_ok:x8_ p_ 13 e4_:=by
  refine w1_ mixed w4_ fun args r q hs hq=>?_
  unfold e4_ at hs
  split at hs
  ·rename_i c
   simp only[oi_]at hs
   obtain⟨rfl,rfl⟩:=hs
   obtain⟨h,p,e,hp⟩:=sign_all c
   exact⟨_,_,_,_,z3_,e,hp⟩
  ·simp at hs
theorem enc1 {n:Nat}(h:n<128):y5_ n=[UInt8.ofNat n]:=if_pos h
theorem enc2 {n:Nat}(h:128≤n)(h2:n<2048):y5_ n=[UInt8.ofNat (192+n/64),UInt8.ofNat (128+n%64)]:=by
  unfold y5_;rw[if_neg (by omega),if_pos h2]
theorem enc3 {n:Nat}(h:2048≤n)(h2:n<65536):y5_ n=[UInt8.ofNat (224+n/4096),UInt8.ofNat (128+n/64%64),UInt8.ofNat (128+n%64)]:=by
  unfold y5_;rw[if_neg (by omega),if_neg (by omega),if_pos h2]
theorem enc4 {n:Nat}(h:65536≤n):y5_ n=[UInt8.ofNat (240+n/262144),UInt8.ofNat (128+n/4096%64),UInt8.ofNat (128+n/64%64),UInt8.ofNat (128+n%64)]:=by
  unfold y5_;rw[if_neg (by omega),if_neg (by omega),if_neg (by omega)]
theorem k9_ {z:Int}(n:Nat)(h:z=n)(h2:n<256):w6_ (UInt8.ofNat n)= .c (.int .u8 z):=by
  subst h
  simp[w6_,Nat.mod_eq_of_lt h2]
theorem g1_ {r:Int}(h:0≤r)(h2:r<128):z6_ (y5_ (sgn r))=[.c (.int .u8 r)]:=by
  rw[h6_ (by omega),enc1 (by omega)]
  simp only[z6_,List.map_cons,List.map_nil]
  rw[k9_ (z:=r) _ (by omega) (by omega)]
theorem u9_ {r:Int}(h:128≤r)(h2:r<2048):z6_ (y5_ (sgn r))=[.c (.int .u8 (192+r/64)),.c (.int .u8 (128+r%64))]:=by
  rw[h6_ (by omega),enc2 (by omega) (by omega)]
  simp only[z6_,List.map_cons,List.map_nil]
  rw[k9_ (z:=192+r/64) _ (by omega) (by omega),k9_ (z:=128+r%64) _ (by omega) (by omega)]
theorem t1_ {r:Int}(h:2048≤r)(h2:r<65536)(h3:¬(55296≤r∧r≤57343)):z6_ (y5_ (sgn r))=[.c (.int .u8 (224+r/4096)),.c (.int .u8 (128+r/64%64)),.c (.int .u8 (128+r%64))]:=by
  rw[h6_ (by omega),enc3 (by omega) (by omega)]
  simp only[z6_,List.map_cons,List.map_nil]
  rw[k9_ (z:=224+r/4096) _ (by omega) (by omega),k9_ (z:=128+r/64%64) _ (by omega) (by omega),k9_ (z:=128+r%64) _ (by omega) (by omega)]
theorem t0_ {r:Int}(h:65536≤r)(h2:r≤1114111):z6_ (y5_ (sgn r))=[.c (.int .u8 (240+r/262144)),.c (.int .u8 (128+r/4096%64)),.c (.int .u8 (128+r/64%64)),.c (.int .u8 (128+r%64))]:=by
  rw[h6_ (by omega),enc4 (by omega)]
  simp only[z6_,List.map_cons,List.map_nil]
  rw[k9_ (z:=240+r/262144) _ (by omega) (by omega),k9_ (z:=128+r/4096%64) _ (by omega) (by omega),k9_ (z:=128+r/64%64) _ (by omega) (by omega),k9_ (z:=128+r%64) _ (by omega) (by omega)]
theorem v9_ {r:Int}(h:r<0∨r>1114111∨(r≥55296∧r≤57343)):z6_ (y5_ (sgn r))=[.c (.int .u8 239),.c (.int .u8 191),.c (.int .u8 189)]:=by
  rw[i0_ h]
  kernel_rfl
theorem x6_ (l:List UInt8){k:List AV}(h:z6_ l=k):l.length=k.length:=by rw[←h,x2_]
noncomputable def rsign_X (c:Int)(h_:List (Nat×Bool)):=y0_ p_ 19 (z9_ p_ cl0 ⟨true,bs h_++([])⟩ (y1_ ([])) 60 19 ([.c (.int .i64 c)]) ([]))
theorem rsign_1 (c:Int):rsign_X c [(4,true)]=some ((AV.c ((str ([UInt8.ofNat (Int.toNat (u8.wrap ((224:Int)+i64.wrap (Int.tdiv (65533:Int) (4096:Int))))),UInt8.ofNat (Int.toNat (u8.wrap ((128:Int)+(i64.wrap (Int.tdiv (65533:Int) (64:Int))).tmod (64:Int)))),UInt8.ofNat (Int.toNat (u8.wrap ((128:Int)+Int.tmod (65533:Int) (64:Int))))])))),[decide ((c:Int)<0)=true,
 ((i64.min:Int)≤((224:Int)+i64.wrap (Int.tdiv (65533:Int) (4096:Int)))),
 (((224:Int)+i64.wrap (Int.tdiv (65533:Int) (4096:Int)):Int)≤(i64.max)),
 ((i64.min:Int)≤((128:Int)+(i64.wrap (Int.tdiv (65533:Int) (64:Int))).tmod (64:Int))),
 (((128:Int)+(i64.wrap (Int.tdiv (65533:Int) (64:Int))).tmod (64:Int):Int)≤(i64.max)),
 (i64.min:Int)≤128+Int.tmod 65533 64,
 (128+Int.tmod 65533 64:Int)≤i64.max,
 (((3:Nat):Nat)≤((3:Nat))),
 u2_ ([(AV.c ((Value.int .u8 239))),(AV.c ((Value.int .u8 191))),(AV.c ((Value.int .u8 189)))])]):=by kernel_rfl
theorem rsign_2 (c:Int):rsign_X c [(4,false),(7,true)]=some ((AV.c ((str ([UInt8.ofNat (Int.toNat (u8.wrap ((224:Int)+i64.wrap (Int.tdiv (65533:Int) (4096:Int))))),UInt8.ofNat (Int.toNat (u8.wrap ((128:Int)+(i64.wrap (Int.tdiv (65533:Int) (64:Int))).tmod (64:Int)))),UInt8.ofNat (Int.toNat (u8.wrap ((128:Int)+Int.tmod (65533:Int) (64:Int))))])))),[decide ((c:Int)<0)=false,
 decide ((c:Int)>1114111)=true,
 ((i64.min:Int)≤((224:Int)+i64.wrap (Int.tdiv (65533:Int) (4096:Int)))),
 (((224:Int)+i64.wrap (Int.tdiv (65533:Int) (4096:Int)):Int)≤(i64.max)),
 ((i64.min:Int)≤((128:Int)+(i64.wrap (Int.tdiv (65533:Int) (64:Int))).tmod (64:Int))),
 (((128:Int)+(i64.wrap (Int.tdiv (65533:Int) (64:Int))).tmod (64:Int):Int)≤(i64.max)),
 (i64.min:Int)≤128+Int.tmod 65533 64,
 (128+Int.tmod 65533 64:Int)≤i64.max,
 (((3:Nat):Nat)≤((3:Nat))),
 u2_ ([(AV.c ((Value.int .u8 239))),(AV.c ((Value.int .u8 191))),(AV.c ((Value.int .u8 189)))])]):=by kernel_rfl
theorem rsign_3 (c:Int):rsign_X c [(4,false),(7,false),(11,true),(14,true)]=some ((AV.c ((str ([UInt8.ofNat (Int.toNat (u8.wrap ((224:Int)+i64.wrap (Int.tdiv (65533:Int) (4096:Int))))),UInt8.ofNat (Int.toNat (u8.wrap ((128:Int)+(i64.wrap (Int.tdiv (65533:Int) (64:Int))).tmod (64:Int)))),UInt8.ofNat (Int.toNat (u8.wrap ((128:Int)+Int.tmod (65533:Int) (64:Int))))])))),[decide ((c:Int)<0)=false,
 decide ((c:Int)>1114111)=false,
 decide ((c:Int)≥55296)=true,
 decide ((c:Int)≤57343)=true,
 ((i64.min:Int)≤((224:Int)+i64.wrap (Int.tdiv (65533:Int) (4096:Int)))),
 (((224:Int)+i64.wrap (Int.tdiv (65533:Int) (4096:Int)):Int)≤(i64.max)),
 ((i64.min:Int)≤((128:Int)+(i64.wrap (Int.tdiv (65533:Int) (64:Int))).tmod (64:Int))),
 (((128:Int)+(i64.wrap (Int.tdiv (65533:Int) (64:Int))).tmod (64:Int):Int)≤(i64.max)),
 (i64.min:Int)≤128+Int.tmod 65533 64,
 (128+Int.tmod 65533 64:Int)≤i64.max,
 (((3:Nat):Nat)≤((3:Nat))),
 u2_ ([(AV.c ((Value.int .u8 239))),(AV.c ((Value.int .u8 191))),(AV.c ((Value.int .u8 189)))])]):=by kernel_rfl
theorem rsign_4 (c:Int):rsign_X c [(4,false),(7,false),(11,true),(14,false),(18,false),(24,false),(36,true)]=some ((AV.c ((str ([UInt8.ofNat (Int.toNat (u8.wrap ((224:Int)+i64.wrap (c.tdiv (4096:Int))))),UInt8.ofNat (Int.toNat (u8.wrap ((128:Int)+(i64.wrap (c.tdiv (64:Int))).tmod (64:Int)))),UInt8.ofNat (Int.toNat (u8.wrap ((128:Int)+c.tmod (64:Int))))])))),[decide ((c:Int)<0)=false,
 decide ((c:Int)>1114111)=false,
 decide ((c:Int)≥55296)=true,
 decide ((c:Int)≤57343)=false,
 decide ((c:Int)<128)=false,
 decide ((c:Int)<2048)=false,
 decide ((c:Int)<65536)=true,
 ((i64.min:Int)≤((224:Int)+i64.wrap (c.tdiv (4096:Int)))),
 (((224:Int)+i64.wrap (c.tdiv (4096:Int)):Int)≤(i64.max)),
 ((i64.min:Int)≤((128:Int)+(i64.wrap (c.tdiv (64:Int))).tmod (64:Int))),
 (((128:Int)+(i64.wrap (c.tdiv (64:Int))).tmod (64:Int):Int)≤(i64.max)),
 (i64.min:Int)≤128+c.tmod 64,
 (128+c.tmod 64:Int)≤i64.max,
 (((3:Nat):Nat)≤((3:Nat))),
 u2_ ([(AV.c ((Value.int .u8 (u8.wrap ((224:Int)+i64.wrap (c.tdiv (4096:Int))))))),(AV.c ((Value.int .u8 (u8.wrap ((128:Int)+(i64.wrap (c.tdiv (64:Int))).tmod (64:Int)))))),(AV.c ((Value.int .u8 (u8.wrap ((128:Int)+c.tmod (64:Int))))))])]):=by kernel_rfl
theorem rsign_5 (c:Int):rsign_X c [(4,false),(7,false),(11,true),(14,false),(18,false),(24,false),(36,false)]=some ((AV.c ((str ([UInt8.ofNat (Int.toNat (u8.wrap ((240:Int)+i64.wrap (c.tdiv (262144:Int))))),UInt8.ofNat (Int.toNat (u8.wrap ((128:Int)+(i64.wrap (c.tdiv (4096:Int))).tmod (64:Int)))),UInt8.ofNat (Int.toNat (u8.wrap ((128:Int)+(i64.wrap (c.tdiv (64:Int))).tmod (64:Int)))),UInt8.ofNat (Int.toNat (u8.wrap ((128:Int)+c.tmod (64:Int))))])))),[decide ((c:Int)<0)=false,
 decide ((c:Int)>1114111)=false,
 decide ((c:Int)≥55296)=true,
 decide ((c:Int)≤57343)=false,
 decide ((c:Int)<128)=false,
 decide ((c:Int)<2048)=false,
 decide ((c:Int)<65536)=false,
 ((i64.min:Int)≤((240:Int)+i64.wrap (c.tdiv (262144:Int)))),
 (((240:Int)+i64.wrap (c.tdiv (262144:Int)):Int)≤(i64.max)),
 ((i64.min:Int)≤((128:Int)+(i64.wrap (c.tdiv (4096:Int))).tmod (64:Int))),
 (((128:Int)+(i64.wrap (c.tdiv (4096:Int))).tmod (64:Int):Int)≤(i64.max)),
 ((i64.min:Int)≤((128:Int)+(i64.wrap (c.tdiv (64:Int))).tmod (64:Int))),
 (((128:Int)+(i64.wrap (c.tdiv (64:Int))).tmod (64:Int):Int)≤(i64.max)),
 (i64.min:Int)≤128+c.tmod 64,
 (128+c.tmod 64:Int)≤i64.max,
 (((4:Nat):Nat)≤((4:Nat))),
 u2_ ([(AV.c ((Value.int .u8 (u8.wrap ((240:Int)+i64.wrap (c.tdiv (262144:Int))))))),(AV.c ((Value.int .u8 (u8.wrap ((128:Int)+(i64.wrap (c.tdiv (4096:Int))).tmod (64:Int)))))),(AV.c ((Value.int .u8 (u8.wrap ((128:Int)+(i64.wrap (c.tdiv (64:Int))).tmod (64:Int)))))),(AV.c ((Value.int .u8 (u8.wrap ((128:Int)+c.tmod (64:Int))))))])]):=by kernel_rfl
theorem rsign_6 (c:Int):rsign_X c [(4,false),(7,false),(11,false),(18,true)]=some ((AV.c ((str ([UInt8.ofNat (Int.toNat (u8.wrap c))])))),[decide ((c:Int)<0)=false,
 decide ((c:Int)>1114111)=false,
 decide ((c:Int)≥55296)=false,
 decide ((c:Int)<128)=true,
 (((1:Nat):Nat)≤((1:Nat))),
 u2_ ([(AV.c ((Value.int .u8 (u8.wrap c))))])]):=by kernel_rfl
theorem rsign_7 (c:Int):rsign_X c [(4,false),(7,false),(11,false),(18,false),(24,true)]=some ((AV.c ((str ([UInt8.ofNat (Int.toNat (u8.wrap ((192:Int)+i64.wrap (c.tdiv (64:Int))))),UInt8.ofNat (Int.toNat (u8.wrap ((128:Int)+c.tmod (64:Int))))])))),[decide ((c:Int)<0)=false,
 decide ((c:Int)>1114111)=false,
 decide ((c:Int)≥55296)=false,
 decide ((c:Int)<128)=false,
 decide ((c:Int)<2048)=true,
 ((i64.min:Int)≤((192:Int)+i64.wrap (c.tdiv (64:Int)))),
 (((192:Int)+i64.wrap (c.tdiv (64:Int)):Int)≤(i64.max)),
 (i64.min:Int)≤128+c.tmod 64,
 (128+c.tmod 64:Int)≤i64.max,
 (((2:Nat):Nat)≤((2:Nat))),
 u2_ ([(AV.c ((Value.int .u8 (u8.wrap ((192:Int)+i64.wrap (c.tdiv (64:Int))))))),(AV.c ((Value.int .u8 (u8.wrap ((128:Int)+c.tmod (64:Int))))))])]):=by kernel_rfl
theorem rsign_8 (c:Int):rsign_X c [(4,false),(7,false),(11,false),(18,false),(24,false),(36,true)]=some ((AV.c ((str ([UInt8.ofNat (Int.toNat (u8.wrap ((224:Int)+i64.wrap (c.tdiv (4096:Int))))),UInt8.ofNat (Int.toNat (u8.wrap ((128:Int)+(i64.wrap (c.tdiv (64:Int))).tmod (64:Int)))),UInt8.ofNat (Int.toNat (u8.wrap ((128:Int)+c.tmod (64:Int))))])))),[decide ((c:Int)<0)=false,
 decide ((c:Int)>1114111)=false,
 decide ((c:Int)≥55296)=false,
 decide ((c:Int)<128)=false,
 decide ((c:Int)<2048)=false,
 decide ((c:Int)<65536)=true,
 ((i64.min:Int)≤((224:Int)+i64.wrap (c.tdiv (4096:Int)))),
 (((224:Int)+i64.wrap (c.tdiv (4096:Int)):Int)≤(i64.max)),
 ((i64.min:Int)≤((128:Int)+(i64.wrap (c.tdiv (64:Int))).tmod (64:Int))),
 (((128:Int)+(i64.wrap (c.tdiv (64:Int))).tmod (64:Int):Int)≤(i64.max)),
 (i64.min:Int)≤128+c.tmod 64,
 (128+c.tmod 64:Int)≤i64.max,
 (((3:Nat):Nat)≤((3:Nat))),
 u2_ ([(AV.c ((Value.int .u8 (u8.wrap ((224:Int)+i64.wrap (c.tdiv (4096:Int))))))),(AV.c ((Value.int .u8 (u8.wrap ((128:Int)+(i64.wrap (c.tdiv (64:Int))).tmod (64:Int)))))),(AV.c ((Value.int .u8 (u8.wrap ((128:Int)+c.tmod (64:Int))))))])]):=by kernel_rfl
theorem rsign_all (c:Int):∃(h:Hints) (p:List Prop),y0_ p_ 19 (z9_ p_ cl0 h (y1_ ([])) 60 19 ([.c (.int .i64 c)]) ([]))=some (.c (str (y5_ (sgn c))),p)∧z7_ p:=by
  cases hc4:(decide (c<(0:Int)):Bool)with
  |true=>
   have eR:=rsign_1 c
   refine⟨_,_,eR.trans (congrArg (fun r=>some (r,_)) ?_),?_⟩
   ·simp only[decide_eq_true_eq,decide_eq_false_iff_not]at*
    first
      |(rw[i0_ (by omega)];kernel_rfl)
      |(rw[h6_ (by omega)]
        simp(disch:=omega) only[tdN,tmN,t9_,s6_]
        first
          |rw[enc1 (by omega)]
          |rw[enc2 (by omega) (by omega)]
          |rw[enc3 (by omega) (by omega)]
          |rw[enc4 (by omega)]
        all_goals simp only[AV.c.injEq,str,Value.string.injEq,ByteArray.mk.injEq,Array.mk.injEq,List.cons.injEq,and_true]
        all_goals repeat' apply And.intro
        all_goals exact k7_ (by omega))
   ·try simp only[dz]at*
    try simp(disch:=omega) only[std,u3_,u6_]
    repeat' apply And.intro
    all_goals first|exact True.intro|omega|assumption|rfl|exact x5_ _
  |false=>
   cases hc7:(decide (c>(1114111:Int)):Bool)with
   |true=>
    have eR:=rsign_2 c
    refine⟨_,_,eR.trans (congrArg (fun r=>some (r,_)) ?_),?_⟩
    ·simp only[decide_eq_true_eq,decide_eq_false_iff_not]at*
     first
       |(rw[i0_ (by omega)];kernel_rfl)
       |(rw[h6_ (by omega)]
         simp(disch:=omega) only[tdN,tmN,t9_,s6_]
         first
           |rw[enc1 (by omega)]
           |rw[enc2 (by omega) (by omega)]
           |rw[enc3 (by omega) (by omega)]
           |rw[enc4 (by omega)]
         all_goals simp only[AV.c.injEq,str,Value.string.injEq,ByteArray.mk.injEq,Array.mk.injEq,List.cons.injEq,and_true]
         all_goals repeat' apply And.intro
         all_goals exact k7_ (by omega))
    ·try simp only[dz]at*
     try simp(disch:=omega) only[std,u3_,u6_]
     repeat' apply And.intro
     all_goals first|exact True.intro|omega|assumption|rfl|exact x5_ _
   |false=>
    cases hc11:(decide (c≥(55296:Int)):Bool)with
    |true=>
     cases hc14:(decide (c≤(57343:Int)):Bool)with
     |true=>
      have eR:=rsign_3 c
      refine⟨_,_,eR.trans (congrArg (fun r=>some (r,_)) ?_),?_⟩
      ·simp only[decide_eq_true_eq,decide_eq_false_iff_not]at*
       first
         |(rw[i0_ (by omega)];kernel_rfl)
         |(rw[h6_ (by omega)]
           simp(disch:=omega) only[tdN,tmN,t9_,s6_]
           first
             |rw[enc1 (by omega)]
             |rw[enc2 (by omega) (by omega)]
             |rw[enc3 (by omega) (by omega)]
             |rw[enc4 (by omega)]
           all_goals simp only[AV.c.injEq,str,Value.string.injEq,ByteArray.mk.injEq,Array.mk.injEq,List.cons.injEq,and_true]
           all_goals repeat' apply And.intro
           all_goals exact k7_ (by omega))
      ·try simp only[dz]at*
       try simp(disch:=omega) only[std,u3_,u6_]
       repeat' apply And.intro
       all_goals first|exact True.intro|omega|assumption|rfl|exact x5_ _
     |false=>
      cases hc36:(decide (c<(65536:Int)):Bool)with
      |true=>
       have eR:=rsign_4 c
       refine⟨_,_,eR.trans (congrArg (fun r=>some (r,_)) ?_),?_⟩
       ·simp only[decide_eq_true_eq,decide_eq_false_iff_not]at*
        first
          |(rw[i0_ (by omega)];kernel_rfl)
          |(rw[h6_ (by omega)]
            simp(disch:=omega) only[tdN,tmN,t9_,s6_]
            first
              |rw[enc1 (by omega)]
              |rw[enc2 (by omega) (by omega)]
              |rw[enc3 (by omega) (by omega)]
              |rw[enc4 (by omega)]
            all_goals simp only[AV.c.injEq,str,Value.string.injEq,ByteArray.mk.injEq,Array.mk.injEq,List.cons.injEq,and_true]
            all_goals repeat' apply And.intro
            all_goals exact k7_ (by omega))
       ·try simp only[dz]at*
        try simp(disch:=omega) only[std,u3_,u6_]
        repeat' apply And.intro
        all_goals first|exact True.intro|omega|assumption|rfl|exact x5_ _
      |false=>
       have eR:=rsign_5 c
       refine⟨_,_,eR.trans (congrArg (fun r=>some (r,_)) ?_),?_⟩
       ·simp only[decide_eq_true_eq,decide_eq_false_iff_not]at*
        first
          |(rw[i0_ (by omega)];kernel_rfl)
          |(rw[h6_ (by omega)]
            simp(disch:=omega) only[tdN,tmN,t9_,s6_]
            first
              |rw[enc1 (by omega)]
              |rw[enc2 (by omega) (by omega)]
              |rw[enc3 (by omega) (by omega)]
              |rw[enc4 (by omega)]
            all_goals simp only[AV.c.injEq,str,Value.string.injEq,ByteArray.mk.injEq,Array.mk.injEq,List.cons.injEq,and_true]
            all_goals repeat' apply And.intro
            all_goals exact k7_ (by omega))
       ·try simp only[dz]at*
        try simp(disch:=omega) only[std,u3_,u6_]
        repeat' apply And.intro
        all_goals first|exact True.intro|omega|assumption|rfl|exact x5_ _
    |false=>
     cases hc18:(decide (c<(128:Int)):Bool)with
     |true=>
      have eR:=rsign_6 c
      refine⟨_,_,eR.trans (congrArg (fun r=>some (r,_)) ?_),?_⟩
      ·simp only[decide_eq_true_eq,decide_eq_false_iff_not]at*
       first
         |(rw[i0_ (by omega)];kernel_rfl)
         |(rw[h6_ (by omega)]
           simp(disch:=omega) only[tdN,tmN,t9_,s6_]
           first
             |rw[enc1 (by omega)]
             |rw[enc2 (by omega) (by omega)]
             |rw[enc3 (by omega) (by omega)]
             |rw[enc4 (by omega)]
           all_goals simp only[AV.c.injEq,str,Value.string.injEq,ByteArray.mk.injEq,Array.mk.injEq,List.cons.injEq,and_true]
           all_goals repeat' apply And.intro
           all_goals exact k7_ (by omega))
      ·try simp only[dz]at*
       try simp(disch:=omega) only[std,u3_,u6_]
       repeat' apply And.intro
       all_goals first|exact True.intro|omega|assumption|rfl|exact x5_ _
     |false=>
      cases hc24:(decide (c<(2048:Int)):Bool)with
      |true=>
       have eR:=rsign_7 c
       refine⟨_,_,eR.trans (congrArg (fun r=>some (r,_)) ?_),?_⟩
       ·simp only[decide_eq_true_eq,decide_eq_false_iff_not]at*
        first
          |(rw[i0_ (by omega)];kernel_rfl)
          |(rw[h6_ (by omega)]
            simp(disch:=omega) only[tdN,tmN,t9_,s6_]
            first
              |rw[enc1 (by omega)]
              |rw[enc2 (by omega) (by omega)]
              |rw[enc3 (by omega) (by omega)]
              |rw[enc4 (by omega)]
            all_goals simp only[AV.c.injEq,str,Value.string.injEq,ByteArray.mk.injEq,Array.mk.injEq,List.cons.injEq,and_true]
            all_goals repeat' apply And.intro
            all_goals exact k7_ (by omega))
       ·try simp only[dz]at*
        try simp(disch:=omega) only[std,u3_,u6_]
        repeat' apply And.intro
        all_goals first|exact True.intro|omega|assumption|rfl|exact x5_ _
      |false=>
       have eR:=rsign_8 c
       refine⟨_,_,eR.trans (congrArg (fun r=>some (r,_)) ?_),?_⟩
       ·simp only[decide_eq_true_eq,decide_eq_false_iff_not]at*
        first
          |(rw[i0_ (by omega)];kernel_rfl)
          |(rw[h6_ (by omega)]
            simp(disch:=omega) only[tdN,tmN,t9_,s6_]
            first
              |rw[enc1 (by omega)]
              |rw[enc2 (by omega) (by omega)]
              |rw[enc3 (by omega) (by omega)]
              |rw[enc4 (by omega)]
            all_goals simp only[AV.c.injEq,str,Value.string.injEq,ByteArray.mk.injEq,Array.mk.injEq,List.cons.injEq,and_true]
            all_goals repeat' apply And.intro
            all_goals exact k7_ (by omega))
       ·try simp only[dz]at*
        try simp(disch:=omega) only[std,u3_,u6_]
        repeat' apply And.intro
        all_goals first|exact True.intro|omega|assumption|rfl|exact x5_ _
theorem rsign_ok:x8_ p_ 19 e4_:=by
  refine w1_ mixed w4_ fun args r q hs hq=>?_
  unfold e4_ at hs
  split at hs
  ·rename_i c
   simp only[oi_]at hs
   obtain⟨rfl,rfl⟩:=hs
   obtain⟨h,p,e,hp⟩:=rsign_all c
   exact⟨_,_,_,_,z3_,e,hp⟩
  ·simp at hs
end Go.Proofs.YtmjldphagbobpaaGreatDoor
