import Derived.Test.YtmjldphagbobpaaDoorBas
set_option linter.unusedVariables false
set_option linter.unusedSimpArgs false
namespace Go.Proofs.YtmjldphagbobpaaDoor
open IntKind (i64 u8 i32 u32 u64)
open _root_.Go.Proofs.Tryd renaming prog→p_
open Go.RowKit
def y2_ (c:Nat):List UInt8:=
  if c<128 then [UInt8.ofNat c]
  else if c<2048 then [UInt8.ofNat (192+c/64),UInt8.ofNat (128+c%64)]
  else if c<65536 then [UInt8.ofNat (224+c/4096),UInt8.ofNat (128+c/64%64),UInt8.ofNat (128+c%64)]
  else [UInt8.ofNat (240+c/262144),UInt8.ofNat (128+c/4096%64),UInt8.ofNat (128+c/64%64),UInt8.ofNat (128+c%64)]
def sgn (c:Int):Nat:=if c<0∨c>1114111∨(c≥55296∧c≤57343)then 65533 else c.toNat
theorem sb_encode (c:Int):sb (Utf8.encode c)=y2_ (sgn c):=by
  have e:(if Utf8.valid c=true then c.toNat else Utf8.runeError)=sgn c:=by
    unfold sgn
    simp only[Utf8.valid,Bool.or_eq_true,Bool.and_eq_true,decide_eq_true_eq]
    split
    ·rw[if_neg (by omega)]
    ·rw[if_pos (by omega)];rfl
  unfold Utf8.encode
  simp only[e]
  unfold y2_
  split
  ·rfl
  ·split
   ·rfl
   ·split
    ·rfl
    ·rfl
def signSpec:Spec
  | [.c (.int .i64 c)]=>some (.c (str (y2_ (sgn c))),[-9223372036854775808≤c,c≤9223372036854775807])
  |_=>none
theorem sgn_bad {c:Int}(h:c<0∨c>1114111∨(c≥55296∧c≤57343)):sgn c=65533:=if_pos h
theorem sgn_ok {c:Int}(h:¬(c<0∨c>1114111∨(c≥55296∧c≤57343))):sgn c=c.toNat:=if_neg h
noncomputable def sign_X (c:Int)(h_:List (Nat×Bool)):=y3_ p_ 11 (z8_ p_ cl0 ⟨true,bs h_++([(11,⟨.c (.int .i32 c),none⟩),(13,⟨.c (str (y2_ (sgn c))),none⟩)])⟩ (y1_ ([])) 60 11 ([.c (.int .i64 c)]) ([]))
theorem sign_1 (c:Int):sign_X c [(5,true),(8,true)]=some ((AV.c ((str (y2_ (sgn c))))),[decide ((0:Int)≤c)=true,
 decide ((c:Int)≤1114111)=true,
 ((i32.wrap c:Int))=(c),
 ((sb (Utf8.encode c):List UInt8))=(y2_ (sgn c))]):=by kernel_rfl
theorem sign_2 (c:Int):sign_X c [(5,true),(8,false)]=some ((AV.c ((str (y2_ (sgn c))))),[decide ((0:Int)≤c)=true,
 decide ((c:Int)≤1114111)=false,
 (([UInt8.ofNat (239:Nat),UInt8.ofNat (191:Nat),UInt8.ofNat (189:Nat)]:List UInt8))=(y2_ (sgn c))]):=by kernel_rfl
theorem sign_3 (c:Int):sign_X c [(5,false)]=some ((AV.c ((str (y2_ (sgn c))))),[decide ((0:Int)≤c)=false,
 (([UInt8.ofNat (239:Nat),UInt8.ofNat (191:Nat),UInt8.ofNat (189:Nat)]:List UInt8))=(y2_ (sgn c))]):=by kernel_rfl
theorem sign_all (c:Int):∃(h:Hints) (p:List Prop),y3_ p_ 11 (z8_ p_ cl0 h (y1_ ([])) 60 11 ([.c (.int .i64 c)]) ([]))=some (.c (str (y2_ (sgn c))),p)∧z7_ p:=by
  cases hc5:(decide ((0:Int)≤c):Bool)with
  |true=>
   cases hc8:(decide (c≤(1114111:Int)):Bool)with
   |true=>
    have eR:=sign_1 c
    refine⟨_,_,eR.trans (congrArg (fun r=>some (r,_)) ?_),?_⟩
    ·rfl
    ·simp only[z7_,and_true,true_and,decide_eq_true_eq,decide_eq_false_iff_not]at*
     repeat' apply And.intro
     all_goals first|omega|exact i32_wrap (by omega) (by omega)|exact sb_encode c|(rw[sgn_bad (by omega)];rfl)
   |false=>
    have eR:=sign_2 c
    refine⟨_,_,eR.trans (congrArg (fun r=>some (r,_)) ?_),?_⟩
    ·rfl
    ·simp only[z7_,and_true,true_and,decide_eq_true_eq,decide_eq_false_iff_not]at*
     repeat' apply And.intro
     all_goals first|omega|exact i32_wrap (by omega) (by omega)|exact sb_encode c|(rw[sgn_bad (by omega)];rfl)
  |false=>
   have eR:=sign_3 c
   refine⟨_,_,eR.trans (congrArg (fun r=>some (r,_)) ?_),?_⟩
   ·rfl
   ·simp only[z7_,and_true,true_and,decide_eq_true_eq,decide_eq_false_iff_not]at*
    repeat' apply And.intro
    all_goals first|omega|exact i32_wrap (by omega) (by omega)|exact sb_encode c|(rw[sgn_bad (by omega)];rfl)
theorem sign_ok:w2_ p_ 11 signSpec:=by
  refine v5_ mixed w6_ fun args r q hs hq=>?_
  unfold signSpec at hs
  split at hs
  ·rename_i c
   simp only[oi_]at hs
   obtain⟨rfl,rfl⟩:=hs
   obtain⟨h,p,e,hp⟩:=sign_all c
   exact⟨_,_,_,_,z4_,e,hp⟩
  ·simp at hs
theorem enc1 {n:Nat}(h:n<128):y2_ n=[UInt8.ofNat n]:=if_pos h
theorem enc2 {n:Nat}(h:128≤n)(h2:n<2048):y2_ n=[UInt8.ofNat (192+n/64),UInt8.ofNat (128+n%64)]:=by
  unfold y2_;rw[if_neg (by omega),if_pos h2]
theorem enc3 {n:Nat}(h:2048≤n)(h2:n<65536):y2_ n=[UInt8.ofNat (224+n/4096),UInt8.ofNat (128+n/64%64),UInt8.ofNat (128+n%64)]:=by
  unfold y2_;rw[if_neg (by omega),if_neg (by omega),if_pos h2]
theorem enc4 {n:Nat}(h:65536≤n):y2_ n=[UInt8.ofNat (240+n/262144),UInt8.ofNat (128+n/4096%64),UInt8.ofNat (128+n/64%64),UInt8.ofNat (128+n%64)]:=by
  unfold y2_;rw[if_neg (by omega),if_neg (by omega),if_neg (by omega)]
theorem k3_ {z:Int}(n:Nat)(h:z=n)(h2:n<256):t4_ (UInt8.ofNat n)= .c (.int .u8 z):=by
  subst h
  simp[t4_,Nat.mod_eq_of_lt h2]
theorem g2_ {r:Int}(h:0≤r)(h2:r<128):z6_ (y2_ (sgn r))=[.c (.int .u8 r)]:=by
  rw[sgn_ok (by omega),enc1 (by omega)]
  simp only[z6_,List.map_cons,List.map_nil]
  rw[k3_ (z:=r) _ (by omega) (by omega)]
theorem u7_ {r:Int}(h:128≤r)(h2:r<2048):z6_ (y2_ (sgn r))=[.c (.int .u8 (192+r/64)),.c (.int .u8 (128+r%64))]:=by
  rw[sgn_ok (by omega),enc2 (by omega) (by omega)]
  simp only[z6_,List.map_cons,List.map_nil]
  rw[k3_ (z:=192+r/64) _ (by omega) (by omega),k3_ (z:=128+r%64) _ (by omega) (by omega)]
theorem u8_ {r:Int}(h:2048≤r)(h2:r<65536)(h3:¬(55296≤r∧r≤57343)):z6_ (y2_ (sgn r))=[.c (.int .u8 (224+r/4096)),.c (.int .u8 (128+r/64%64)),.c (.int .u8 (128+r%64))]:=by
  rw[sgn_ok (by omega),enc3 (by omega) (by omega)]
  simp only[z6_,List.map_cons,List.map_nil]
  rw[k3_ (z:=224+r/4096) _ (by omega) (by omega),k3_ (z:=128+r/64%64) _ (by omega) (by omega),k3_ (z:=128+r%64) _ (by omega) (by omega)]
theorem u9_ {r:Int}(h:65536≤r)(h2:r≤1114111):z6_ (y2_ (sgn r))=[.c (.int .u8 (240+r/262144)),.c (.int .u8 (128+r/4096%64)),.c (.int .u8 (128+r/64%64)),.c (.int .u8 (128+r%64))]:=by
  rw[sgn_ok (by omega),enc4 (by omega)]
  simp only[z6_,List.map_cons,List.map_nil]
  rw[k3_ (z:=240+r/262144) _ (by omega) (by omega),k3_ (z:=128+r/4096%64) _ (by omega) (by omega),k3_ (z:=128+r/64%64) _ (by omega) (by omega),k3_ (z:=128+r%64) _ (by omega) (by omega)]
theorem v6_ {r:Int}(h:r<0∨r>1114111∨(r≥55296∧r≤57343)):z6_ (y2_ (sgn r))=[.c (.int .u8 239),.c (.int .u8 191),.c (.int .u8 189)]:=by
  rw[sgn_bad h]
  kernel_rfl
theorem x3_ (l:List UInt8){k:List AV}(h:z6_ l=k):l.length=k.length:=by rw[←h,w0_]
end Go.Proofs.YtmjldphagbobpaaDoor
