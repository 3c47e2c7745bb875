import Derived.Test.YtmjldphagbobpaaGreatDoorTextN
set_option linter.unusedVariables false
set_option linter.unusedSimpArgs false
namespace Go.Proofs.YtmjldphagbobpaaGreatDoor
open IntKind (i64 u8 i32 u32 u64)
open _root_.Go.Proofs.Tryz renaming prog→p_
open Go.RowKit U8
set_option maxRecDepth 100000
def ldK (n:Int):Int:=if n<128 then 1 else if n<194∨n>244 then 0 else if n<224 then 2 else if n<240 then 3 else 4
def p7_ (n:Int):Int:=if n<194∨n>244 then 0 else if n=224 then 160 else if n=240 then 144 else 128
def p6_ (n:Int):Int:=if n<194∨n>244 then 0 else if n=237 then 159 else if n=244 then 143 else 191
theorem tu3 {a a' b b' c c':Int}(h1:a=a')(h2:b=b')(h3:c=c'):AV.tu [.c (.int .i64 a),.c (.int .u8 b),.c (.int .u8 c)]= .tu [.c (.int .i64 a'),.c (.int .u8 b'),.c (.int .u8 c')]:=by subst h1 h2 h3;rfl
noncomputable def b5_ (n:Int)(h_:List (Nat×Bool)):=y0_ p_ 59 (z9_ p_ cl0 ⟨true,bs h_++([])⟩ (y1_ ([])) 60 59 ([.c (.int .u8 n)]) ([]))
theorem lead_1 (n:Int):b5_ n [(6,true)]=some ((AV.tu [(AV.c ((Value.int .i64 1))),
 (AV.c ((Value.int .u8 0))),
 (AV.c ((Value.int .u8 0)))]),[decide ((n:Int)<128)=true]):=by kernel_rfl
theorem lead_2 (n:Int):b5_ n [(6,false),(8,true)]=some ((AV.tu [(AV.c ((Value.int .i64 0))),
 (AV.c ((Value.int .u8 0))),
 (AV.c ((Value.int .u8 0)))]),[decide ((n:Int)<128)=false,
 decide ((n:Int)<194)=true]):=by kernel_rfl
theorem lead_3 (n:Int):b5_ n [(6,false),(8,false),(11,true)]=some ((AV.tu [(AV.c ((Value.int .i64 0))),
 (AV.c ((Value.int .u8 0))),
 (AV.c ((Value.int .u8 0)))]),[decide ((n:Int)<128)=false,
 decide ((n:Int)<194)=false,
 decide ((n:Int)>244)=true]):=by kernel_rfl
theorem lead_4 (n:Int):b5_ n [(6,false),(8,false),(11,false),(14,true)]=some ((AV.tu [(AV.c ((Value.int .i64 2))),
 (AV.c ((Value.int .u8 128))),
 (AV.c ((Value.int .u8 191)))]),[decide ((n:Int)<128)=false,
 decide ((n:Int)<194)=false,
 decide ((n:Int)>244)=false,
 decide ((n:Int)<224)=true]):=by kernel_rfl
theorem lead_5 (n:Int):b5_ n [(6,false),(8,false),(11,false),(14,false),(17,true)]=some ((AV.tu [(AV.c ((Value.int .i64 3))),
 (AV.c ((Value.int .u8 160))),
 (AV.c ((Value.int .u8 191)))]),[decide ((n:Int)<128)=false,
 decide ((n:Int)<194)=false,
 decide ((n:Int)>244)=false,
 decide ((n:Int)<224)=false,
 (n==(224:Int))=true]):=by kernel_rfl
theorem lead_6 (n:Int):b5_ n [(6,false),(8,false),(11,false),(14,false),(17,false),(19,true)]=some ((AV.tu [(AV.c ((Value.int .i64 3))),
 (AV.c ((Value.int .u8 128))),
 (AV.c ((Value.int .u8 159)))]),[decide ((n:Int)<128)=false,
 decide ((n:Int)<194)=false,
 decide ((n:Int)>244)=false,
 decide ((n:Int)<224)=false,
 (n==(224:Int))=false,
 (n==(237:Int))=true]):=by kernel_rfl
theorem lead_7 (n:Int):b5_ n [(6,false),(8,false),(11,false),(14,false),(17,false),(19,false),(21,true)]=some ((AV.tu [(AV.c ((Value.int .i64 4))),
 (AV.c ((Value.int .u8 144))),
 (AV.c ((Value.int .u8 191)))]),[decide ((n:Int)<128)=false,
 decide ((n:Int)<194)=false,
 decide ((n:Int)>244)=false,
 decide ((n:Int)<224)=false,
 (n==(224:Int))=false,
 (n==(237:Int))=false,
 (n==(240:Int))=true]):=by kernel_rfl
theorem lead_8 (n:Int):b5_ n [(6,false),(8,false),(11,false),(14,false),(17,false),(19,false),(21,false),(23,true)]=some ((AV.tu [(AV.c ((Value.int .i64 4))),
 (AV.c ((Value.int .u8 128))),
 (AV.c ((Value.int .u8 143)))]),[decide ((n:Int)<128)=false,
 decide ((n:Int)<194)=false,
 decide ((n:Int)>244)=false,
 decide ((n:Int)<224)=false,
 (n==(224:Int))=false,
 (n==(237:Int))=false,
 (n==(240:Int))=false,
 (n==(244:Int))=true]):=by kernel_rfl
theorem lead_9 (n:Int):b5_ n [(6,false),(8,false),(11,false),(14,false),(17,false),(19,false),(21,false),(23,false),(25,true)]=some ((AV.tu [(AV.c ((Value.int .i64 3))),
 (AV.c ((Value.int .u8 128))),
 (AV.c ((Value.int .u8 191)))]),[decide ((n:Int)<128)=false,
 decide ((n:Int)<194)=false,
 decide ((n:Int)>244)=false,
 decide ((n:Int)<224)=false,
 (n==(224:Int))=false,
 (n==(237:Int))=false,
 (n==(240:Int))=false,
 (n==(244:Int))=false,
 decide ((n:Int)<240)=true]):=by kernel_rfl
theorem lead_10 (n:Int):b5_ n [(6,false),(8,false),(11,false),(14,false),(17,false),(19,false),(21,false),(23,false),(25,false)]=some ((AV.tu [(AV.c ((Value.int .i64 4))),
 (AV.c ((Value.int .u8 128))),
 (AV.c ((Value.int .u8 191)))]),[decide ((n:Int)<128)=false,
 decide ((n:Int)<194)=false,
 decide ((n:Int)>244)=false,
 decide ((n:Int)<224)=false,
 (n==(224:Int))=false,
 (n==(237:Int))=false,
 (n==(240:Int))=false,
 (n==(244:Int))=false,
 decide ((n:Int)<240)=false]):=by kernel_rfl
theorem lead_all (n:Int)(h0:0≤n)(h1:n<256):∃(h:Hints) (p:List Prop),y0_ p_ 59 (z9_ p_ cl0 h (y1_ ([])) 60 59 ([.c (.int .u8 n)]) ([]))=some (.tu [.c (.int .i64 (ldK n)),.c (.int .u8 (p7_ n)),.c (.int .u8 (p6_ n))],p)∧z7_ p:=by
  cases hc6:(decide (n<(128:Int)):Bool)with
  |true=>
   have eR:=lead_1 n
   refine⟨_,_,eR.trans (congrArg (fun r=>some (r,_)) ?_),?_⟩
   ·try clear eR
    simp only[beq_iff_eq,beq_eq_false_iff_ne,decide_eq_true_eq,decide_eq_false_iff_not,ne_eq]at*
    refine tu3 ?_ ?_ ?_
    ·unfold ldK;repeat' split
     all_goals omega
    ·unfold p7_;repeat' split
     all_goals omega
    ·unfold p6_;repeat' split
     all_goals omega
   ·clear eR
    simp only[z7_, *,and_self,and_true,true_and]
  |false=>
   cases hc8:(decide (n<(194:Int)):Bool)with
   |true=>
    have eR:=lead_2 n
    refine⟨_,_,eR.trans (congrArg (fun r=>some (r,_)) ?_),?_⟩
    ·try clear eR
     simp only[beq_iff_eq,beq_eq_false_iff_ne,decide_eq_true_eq,decide_eq_false_iff_not,ne_eq]at*
     refine tu3 ?_ ?_ ?_
     ·unfold ldK;repeat' split
      all_goals omega
     ·unfold p7_;repeat' split
      all_goals omega
     ·unfold p6_;repeat' split
      all_goals omega
    ·clear eR
     simp only[z7_, *,and_self,and_true,true_and]
   |false=>
    cases hc11:(decide (n>(244:Int)):Bool)with
    |true=>
     have eR:=lead_3 n
     refine⟨_,_,eR.trans (congrArg (fun r=>some (r,_)) ?_),?_⟩
     ·try clear eR
      simp only[beq_iff_eq,beq_eq_false_iff_ne,decide_eq_true_eq,decide_eq_false_iff_not,ne_eq]at*
      refine tu3 ?_ ?_ ?_
      ·unfold ldK;repeat' split
       all_goals omega
      ·unfold p7_;repeat' split
       all_goals omega
      ·unfold p6_;repeat' split
       all_goals omega
     ·clear eR
      simp only[z7_, *,and_self,and_true,true_and]
    |false=>
     cases hc14:(decide (n<(224:Int)):Bool)with
     |true=>
      have eR:=lead_4 n
      refine⟨_,_,eR.trans (congrArg (fun r=>some (r,_)) ?_),?_⟩
      ·try clear eR
       simp only[beq_iff_eq,beq_eq_false_iff_ne,decide_eq_true_eq,decide_eq_false_iff_not,ne_eq]at*
       refine tu3 ?_ ?_ ?_
       ·unfold ldK;repeat' split
        all_goals omega
       ·unfold p7_;repeat' split
        all_goals omega
       ·unfold p6_;repeat' split
        all_goals omega
      ·clear eR
       simp only[z7_, *,and_self,and_true,true_and]
     |false=>
      cases hc17:(n==(224:Int):Bool)with
      |true=>
       have eR:=lead_5 n
       refine⟨_,_,eR.trans (congrArg (fun r=>some (r,_)) ?_),?_⟩
       ·try clear eR
        simp only[beq_iff_eq,beq_eq_false_iff_ne,decide_eq_true_eq,decide_eq_false_iff_not,ne_eq]at*
        refine tu3 ?_ ?_ ?_
        ·unfold ldK;repeat' split
         all_goals omega
        ·unfold p7_;repeat' split
         all_goals omega
        ·unfold p6_;repeat' split
         all_goals omega
       ·clear eR
        simp only[z7_, *,and_self,and_true,true_and]
      |false=>
       cases hc19:(n==(237:Int):Bool)with
       |true=>
        have eR:=lead_6 n
        refine⟨_,_,eR.trans (congrArg (fun r=>some (r,_)) ?_),?_⟩
        ·try clear eR
         simp only[beq_iff_eq,beq_eq_false_iff_ne,decide_eq_true_eq,decide_eq_false_iff_not,ne_eq]at*
         refine tu3 ?_ ?_ ?_
         ·unfold ldK;repeat' split
          all_goals omega
         ·unfold p7_;repeat' split
          all_goals omega
         ·unfold p6_;repeat' split
          all_goals omega
        ·clear eR
         simp only[z7_, *,and_self,and_true,true_and]
       |false=>
        cases hc21:(n==(240:Int):Bool)with
        |true=>
         have eR:=lead_7 n
         refine⟨_,_,eR.trans (congrArg (fun r=>some (r,_)) ?_),?_⟩
         ·try clear eR
          simp only[beq_iff_eq,beq_eq_false_iff_ne,decide_eq_true_eq,decide_eq_false_iff_not,ne_eq]at*
          refine tu3 ?_ ?_ ?_
          ·unfold ldK;repeat' split
           all_goals omega
          ·unfold p7_;repeat' split
           all_goals omega
          ·unfold p6_;repeat' split
           all_goals omega
         ·clear eR
          simp only[z7_, *,and_self,and_true,true_and]
        |false=>
         cases hc23:(n==(244:Int):Bool)with
         |true=>
          have eR:=lead_8 n
          refine⟨_,_,eR.trans (congrArg (fun r=>some (r,_)) ?_),?_⟩
          ·try clear eR
           simp only[beq_iff_eq,beq_eq_false_iff_ne,decide_eq_true_eq,decide_eq_false_iff_not,ne_eq]at*
           refine tu3 ?_ ?_ ?_
           ·unfold ldK;repeat' split
            all_goals omega
           ·unfold p7_;repeat' split
            all_goals omega
           ·unfold p6_;repeat' split
            all_goals omega
          ·clear eR
           simp only[z7_, *,and_self,and_true,true_and]
         |false=>
          cases hc25:(decide (n<(240:Int)):Bool)with
          |true=>
           have eR:=lead_9 n
           refine⟨_,_,eR.trans (congrArg (fun r=>some (r,_)) ?_),?_⟩
           ·try clear eR
            simp only[beq_iff_eq,beq_eq_false_iff_ne,decide_eq_true_eq,decide_eq_false_iff_not,ne_eq]at*
            refine tu3 ?_ ?_ ?_
            ·unfold ldK;repeat' split
             all_goals omega
            ·unfold p7_;repeat' split
             all_goals omega
            ·unfold p6_;repeat' split
             all_goals omega
           ·clear eR
            simp only[z7_, *,and_self,and_true,true_and]
          |false=>
           have eR:=lead_10 n
           refine⟨_,_,eR.trans (congrArg (fun r=>some (r,_)) ?_),?_⟩
           ·try clear eR
            simp only[beq_iff_eq,beq_eq_false_iff_ne,decide_eq_true_eq,decide_eq_false_iff_not,ne_eq]at*
            refine tu3 ?_ ?_ ?_
            ·unfold ldK;repeat' split
             all_goals omega
            ·unfold p7_;repeat' split
             all_goals omega
            ·unfold p6_;repeat' split
             all_goals omega
           ·clear eR
            simp only[z7_, *,and_self,and_true,true_and]
def leadSpec:Spec
  | [.c (.int .u8 n)]=>some (.tu [.c (.int .i64 (ldK n)),.c (.int .u8 (p7_ n)),.c (.int .u8 (p6_ n))],[0≤n,n<256])
  |_=>none
theorem lead_ok:x8_ p_ 59 leadSpec:=by
  refine w1_ mixed w4_ fun args r q hs hq=>?_
  unfold leadSpec at hs
  split at hs
  ·rename_i n
   simp only[oi_]at hs
   obtain⟨rfl,rfl⟩:=hs
   obtain⟨h0,h1,_⟩:=hq
   obtain⟨h,p,e,hp⟩:=lead_all n h0 h1
   exact⟨_,_,_,_,z3_,e,hp⟩
  ·simp at hs
noncomputable def clN:CallT:=q4_ p_ (t4_ [(59,leadSpec)]) 500 8
theorem clN_ok:x3_ p_ clN:=t3_ mixed (y4_ lead_ok w3_) 500 8
def nxS (l:List UInt8)(n lo hi c:Int)(k:Nat):St:=⟨frame 71 [(0,.fs 1 l.length (z6_ l)),(5,.c (.int .i64 n)),(6,.c (.int .u8 lo)),(7,.c (.int .u8 hi)),(8,.c (.int .i64 c)),(9,.c (.int .i64 k))],[]⟩
def nxR (k:Nat):St:=⟨frame 71 [(2,.c (.int .i64 65533)),(3,.c (.int .i64 k)),(4,.c (.bool false))],[]⟩
noncomputable def nxr_X (l:List UInt8)(n lo hi c:Int)(k:Nat)(h_:List (Nat×Bool))(fi_:Fi):=s4_ (fi_) (r3_ p_ clN ⟨true,bs h_++([(47,⟨w6_ (l.getD k 0),none⟩),(55,⟨w6_ (l.getD k 0),none⟩),(65,⟨w6_ (l.getD k 0),none⟩),(66,⟨.c (.int .i64 ((l.getD k 0).toNat:Nat)),none⟩)])⟩ (y1_ ([])) 60 (z2_ p_ 38 8) (nxS l n lo hi c k))
theorem nxr_1 (l:List UInt8)(n lo hi c:Int)(k:Nat):nxr_X l n lo hi c k [(36,true),(42,true)] ⟨[],[2,3,4],[]⟩=some (.ret,nxR k,[decide ((↑k:Int)<n)=true,
 decide ((↑k:Int)≥↑l.length)=true]):=by kernel_rfl
theorem nxr_2 (l:List UInt8)(n lo hi c:Int)(k:Nat):nxr_X l n lo hi c k [(36,true),(42,false),(49,true)] ⟨[],[2,3,4],[]⟩=some (.ret,nxR k,[decide ((↑k:Int)<n)=true,
 decide ((↑k:Int)≥↑l.length)=false,
 (0:Int)≤↑k,
 (↑k:Int)<↑l.length,
 (((0:Nat):Nat)<((List.drop k (z6_ l)).length)),
 y2_ ((List.drop k (z6_ l)).headD AV.any) ((AV.c ((Value.int .u8 ((↑(l.getD k 0).toNat:Int)))))),
 (decide ((↑(l.getD k 0).toNat:Int)<lo))=true]):=by kernel_rfl
theorem nxr_3 (l:List UInt8)(n lo hi c:Int)(k:Nat):nxr_X l n lo hi c k [(36,true),(42,false),(49,false),(57,true)] ⟨[],[2,3,4],[]⟩=some (.ret,nxR k,[decide ((↑k:Int)<n)=true,
 decide ((↑k:Int)≥↑l.length)=false,
 (0:Int)≤↑k,
 (↑k:Int)<↑l.length,
 (((0:Nat):Nat)<((List.drop k (z6_ l)).length)),
 y2_ ((List.drop k (z6_ l)).headD AV.any) ((AV.c ((Value.int .u8 ((↑(l.getD k 0).toNat:Int)))))),
 (decide ((↑(l.getD k 0).toNat:Int)<lo))=false,
 (0:Int)≤↑k,
 (↑k:Int)<↑l.length,
 (((0:Nat):Nat)<((List.drop k (z6_ l)).length)),
 y2_ ((List.drop k (z6_ l)).headD AV.any) ((AV.c ((Value.int .u8 ((↑(l.getD k 0).toNat:Int)))))),
 (decide ((↑(l.getD k 0).toNat:Int)>hi))=true]):=by kernel_rfl
theorem nxr_4 (l:List UInt8)(n lo hi c:Int)(k:Nat):nxr_X l n lo hi c k [(36,true),(42,false),(49,false),(57,false)] (⟨[],[0,5,6,7,8,9],[]⟩)=some (.normal,nxS l n 128 191 (64*c+((l.getD k 0).toNat:Nat)-128) (k+1),[decide ((↑k:Int)<n)=true,
 decide ((↑k:Int)≥↑l.length)=false,
 (0:Int)≤↑k,
 (↑k:Int)<↑l.length,
 (((0:Nat):Nat)<((List.drop k (z6_ l)).length)),
 y2_ ((List.drop k (z6_ l)).headD AV.any) ((AV.c ((Value.int .u8 ((↑(l.getD k 0).toNat:Int)))))),
 (decide ((↑(l.getD k 0).toNat:Int)<lo))=false,
 (0:Int)≤↑k,
 (↑k:Int)<↑l.length,
 (((0:Nat):Nat)<((List.drop k (z6_ l)).length)),
 y2_ ((List.drop k (z6_ l)).headD AV.any) ((AV.c ((Value.int .u8 ((↑(l.getD k 0).toNat:Int)))))),
 (decide ((↑(l.getD k 0).toNat:Int)>hi))=false,
 (i64.min:Int)≤64*c,
 (64*c:Int)≤i64.max,
 (0:Int)≤↑k,
 (↑k:Int)<↑l.length,
 (((0:Nat):Nat)<((List.drop k (z6_ l)).length)),
 y2_ ((List.drop k (z6_ l)).headD AV.any) ((AV.c ((Value.int .u8 ((↑(l.getD k 0).toNat:Int)))))),
 ((i64.wrap (↑(l.getD k 0).toNat:Int):Int))=((↑(l.getD k 0).toNat:Int)),
 ((i64.min:Int)≤((64:Int)*c+(↑(l.getD k 0).toNat:Int))),
 (((64:Int)*c+(↑(l.getD k 0).toNat:Int):Int)≤(i64.max)),
 ((i64.min:Int)≤((64:Int)*c+(↑(l.getD k 0).toNat:Int)-(128:Int))),
 (((64:Int)*c+(↑(l.getD k 0).toNat:Int)-(128:Int):Int)≤(i64.max)),
 (i64.min:Int)≤↑k+1,
 (↑k+1:Int)≤i64.max]):=by kernel_rfl
theorem nxr_5 (l:List UInt8)(n lo hi c:Int)(k:Nat):nxr_X l n lo hi c k [(36,false)] (⟨[],[0,5,6,7,8,9],[]⟩)=some (.exit 0,nxS l n lo hi c k,[decide ((↑k:Int)<n)=false]):=by kernel_rfl
def p4_ (l:List UInt8)(c:Int):Nat→Int
  |0=>c
  |j+1=>64*p4_ l c j+(bN l (j+1):Nat)-128
def loJ (lo:Nat):Nat→Nat
  |0=>lo
  |_+1=>128
def hiJ (hi:Nat):Nat→Nat
  |0=>hi
  |_+1=>191
def nxJ (l:List UInt8)(n:Int)(lo hi:Nat)(c:Int)(j:Nat):St:=nxS l n (loJ lo j:Nat) (hiJ hi j:Nat) (p4_ l c j) (j+1)
def GoodJ (l:List UInt8)(n:Int)(lo hi:Nat)(j:Nat):Prop:=((j+1:Nat):Int)<n∧j+1<l.length∧loJ lo j≤bN l (j+1)∧bN l (j+1)≤hiJ hi j
theorem nx_go (l:List UInt8)(n:Int)(lo hi:Nat)(c:Int)(m:Nat)(hl:l.length≤1000000000)(hg:∀j,j<m→GoodJ l n lo hi j∧0≤p4_ l c j∧p4_ l c j≤1000000)(j:Nat)(h:j<m):
    y7_ Ext0 p_ clN (z2_ p_ 38 8) (nxJ l n lo hi c j) .normal (nxJ l n lo hi c (j+1)):=by
  obtain⟨⟨g1,g2,g3,g4⟩,g5,g6⟩:=hg j h
  have h3:=m8_ l (j+1) g2
  have hb:=p5_ l (j+1)
  have e:(l.getD (j+1) 0).toNat=bN l (j+1):=rfl
  have hw:i64.wrap ((bN l (j+1):Nat):Int)=((bN l (j+1):Nat):Int):=t9_ (by omega) (by omega)
  refine⟨_,_,_,_,_,z3_,by decide,nxr_4 l n (loJ lo j:Nat) (hiJ hi j:Nat) (p4_ l c j) (j+1),?_⟩
  simp only[z7_,h3,w6_,e,hw,x5_,y2_,x2_,List.length_drop,and_true,true_and,decide_eq_true_eq,decide_eq_false_iff_not,q8_,q9_]
  repeat' apply And.intro
  all_goals omega
theorem nx_exit (l:List UInt8)(n:Int)(lo hi:Nat)(c:Int)(m:Nat)(hl:l.length≤1000000000)(hg:∀j,j<m→GoodJ l n lo hi j∧0≤p4_ l c j∧p4_ l c j≤1000000)(hx:¬((m+1:Nat):Int)<n):
    Tri Ext0 p_ (.loop (z2_ p_ 38 8)) (nxJ l n lo hi c 0) (.exit 0) (nxJ l n lo hi c m):=by
  refine c3_ mixed clN_ok (nxJ l n lo hi c) m (by simp) (nx_go l n lo hi c m hl hg) ?_ 0 (Nat.zero_le _)
  refine⟨_,_,_,_,_,z3_,by decide,nxr_5 l n (loJ lo m:Nat) (hiJ hi m:Nat) (p4_ l c m) (m+1),?_⟩
  simp only[z7_,and_true,decide_eq_false_iff_not]
  omega
theorem nx_ret (l:List UInt8)(n:Int)(lo hi:Nat)(c:Int)(m:Nat)(hl:l.length≤1000000000)(hg:∀j,j<m→GoodJ l n lo hi j∧0≤p4_ l c j∧p4_ l c j≤1000000)(hx:((m+1:Nat):Int)<n)(hb:¬(m+1<l.length∧loJ lo m≤bN l (m+1)∧bN l (m+1)≤hiJ hi m)):
    Tri Ext0 p_ (.loop (z2_ p_ 38 8)) (nxJ l n lo hi c 0) .ret (nxR (m+1)):=by
  refine c3_ mixed clN_ok (nxJ l n lo hi c) m (by simp) (nx_go l n lo hi c m hl hg) ?_ 0 (Nat.zero_le _)
  have e:(l.getD (m+1) 0).toNat=bN l (m+1):=rfl
  have hlt:=p5_ l (m+1)
  by_cases c1:m+1<l.length
  ·have h3:=m8_ l (m+1) c1
   by_cases c2:loJ lo m≤bN l (m+1)
   ·refine⟨_,_,_,_,_,z3_,by decide,nxr_3 l n (loJ lo m:Nat) (hiJ hi m:Nat) (p4_ l c m) (m+1),?_⟩
    simp only[z7_,h3,w6_,e,x5_,x2_,List.length_drop,and_true,true_and,decide_eq_true_eq,decide_eq_false_iff_not,q8_,q9_]
    repeat' apply And.intro
    all_goals omega
   ·refine⟨_,_,_,_,_,z3_,by decide,nxr_2 l n (loJ lo m:Nat) (hiJ hi m:Nat) (p4_ l c m) (m+1),?_⟩
    simp only[z7_,h3,w6_,e,x5_,x2_,List.length_drop,and_true,true_and,decide_eq_true_eq,decide_eq_false_iff_not,q8_,q9_]
    repeat' apply And.intro
    all_goals omega
  ·refine⟨_,_,_,_,_,z3_,by decide,nxr_1 l n (loJ lo m:Nat) (hiJ hi m:Nat) (p4_ l c m) (m+1),?_⟩
   simp only[z7_,and_true,decide_eq_true_eq]
   omega
noncomputable def nxLpE (l:List UInt8)(n:Int)(lo hi:Nat)(c:Int)(m:Nat):List (Nat×Lp):=[(8,⟨z2_ p_ 38 8,⟨[],[0,5,6,7,8,9],[]⟩,nxS l n (lo:Nat) (hi:Nat) c 1,.exit 0,nxS l n (loJ lo m:Nat) (hiJ hi m:Nat) (p4_ l c m) (m+1)⟩)]
noncomputable def nxLpR (l:List UInt8)(n:Int)(lo hi:Nat)(c:Int)(m:Nat):List (Nat×Lp):=[(8,⟨z2_ p_ 38 8,⟨[],[0,5,6,7,8,9],[]⟩,nxS l n (lo:Nat) (hi:Nat) c 1,.ret,nxR (m+1)⟩)]
noncomputable def next1_X (l:List UInt8)(lo hi:Nat)(c:Int)(m:Nat)(h_:List (Nat×Bool)):=y0_ p_ 38 (z9_ p_ clN ⟨true,bs h_++([(13,⟨w6_ (l.getD 0 0),none⟩),(22,⟨w6_ (l.getD 0 0),none⟩),(23,⟨.c (.int .i64 ((l.getD 0 0).toNat:Nat)),none⟩),(28,⟨w6_ (l.getD 0 0),none⟩),(29,⟨.c (.int .i64 ((l.getD 0 0).toNat:Nat)),none⟩),(15,⟨.c (.int .i64 1),none⟩),(16,⟨.c (.int .u8 (lo:Nat)),none⟩),(17,⟨.c (.int .u8 (hi:Nat)),none⟩),(33,⟨.c (.int .i64 c),none⟩)])⟩ (y1_ ([])) 60 38 ([.fs 1 l.length (z6_ l)]) ([]))
theorem next1_1 (l:List UInt8)(lo hi:Nat)(c:Int)(m:Nat):next1_X l lo hi c m []=some ((AV.tu [(AV.c ((Value.int .i64 ((↑(l.getD (0:Nat) (0:UInt8)).toNat:Int))))),
 (AV.c ((Value.int .i64 1))),
 (AV.c ((Value.bool true)))]),[(0:Int)≤0,
 (0:Int)<↑l.length,
 (((0:Nat):Nat)<((List.drop (Int.toNat (0:Int)) (z6_ l)).length)),
 y2_ ((List.drop (Int.toNat (0:Int)) (z6_ l)).headD AV.any) ((AV.c ((Value.int .u8 ((↑(l.getD (0:Nat) 0).toNat:Int)))))),
 (((0:Int):Int)≤((↑(l.getD (0:Nat) 0).toNat:Int))),
 (((↑(l.getD (0:Nat) 0).toNat:Int):Int)<((256:Int))),
 ((ldK (↑(l.getD (0:Nat) 0).toNat:Int):Int))=(1),
 ((p7_ (↑(l.getD (0:Nat) 0).toNat:Int):Int))=((↑lo:Int)),
 ((p6_ (↑(l.getD (0:Nat) 0).toNat:Int):Int))=((↑hi:Int)),
 (0:Int)≤0,
 (0:Int)<↑l.length,
 (((0:Nat):Nat)<((List.drop (Int.toNat (0:Int)) (z6_ l)).length)),
 y2_ ((List.drop (Int.toNat (0:Int)) (z6_ l)).headD AV.any) ((AV.c ((Value.int .u8 ((↑(l.getD (0:Nat) 0).toNat:Int)))))),
 ((i64.wrap (↑(l.getD (0:Nat) 0).toNat:Int):Int))=((↑(l.getD (0:Nat) 0).toNat:Int))]):=by kernel_rfl
theorem next1_all (l:List UInt8)(lo hi:Nat)(c:Int)(m:Nat)(h0:0<l.length)(h1:ldK (bN l 0:Nat)=1)(h2:p7_ (bN l 0:Nat)=lo)(h3:p6_ (bN l 0:Nat)=hi)(h4:1≤(1:Int)∨c=((bN l 0%1:Nat):Int)):∃(h:Hints) (p:List Prop),y0_ p_ 38 (z9_ p_ clN h (y1_ ([])) 60 38 ([.fs 1 l.length (z6_ l)]) ([]))=some (.tu [.c (.int .i64 ((l.getD 0 0).toNat:Nat)),.c (.int .i64 1),.c (.bool true)],p)∧z7_ p:=by
  have eR:=next1_1 l lo hi c m
  refine⟨_,_,eR.trans (congrArg (fun r=>some (r,_)) ?_),?_⟩
  ·rfl
  ·clear eR
   have hh:=m8_ l 0 h0
   have e:(l.getD 0 0).toNat=bN l 0:=rfl
   have hb:=p5_ l 0
   have hw:i64.wrap ((bN l 0:Nat):Int)=((bN l 0:Nat):Int):=t9_ (by omega) (by omega)
   have f1:1≤(1:Int)∨Int.fdiv (128:Int) ((2:Int)^(1:Nat))=1:=by first|exact .inl (by omega)|exact .inr (by decide)
   have f2:∀x:Nat,Int.tmod (x:Int) 1=((x%1:Nat):Int):=fun x=>by rw[tmN (by omega)];omega
   simp only[z7_,q5_,hh,w6_,e,hw,h1,h2,h3,x5_,x2_,List.length_drop,and_true,true_and]
   refine⟨by omega,by omega,by omega,by omega,?_⟩
   first
     |omega
     |(refine⟨by omega,by omega,by omega,by omega⟩;done)
     |(have f3:=f1.resolve_left (by omega)
       have f4:=h4.resolve_left (by omega)
       rw[f3,f2,←f4]
       refine⟨?_,?_,?_,?_⟩<;>first|omega|rfl)
noncomputable def next2_X (l:List UInt8)(lo hi:Nat)(c:Int)(m:Nat)(h_:List (Nat×Bool)):=y0_ p_ 38 (z9_ p_ clN ⟨true,bs h_++([(13,⟨w6_ (l.getD 0 0),none⟩),(22,⟨w6_ (l.getD 0 0),none⟩),(23,⟨.c (.int .i64 ((l.getD 0 0).toNat:Nat)),none⟩),(28,⟨w6_ (l.getD 0 0),none⟩),(29,⟨.c (.int .i64 ((l.getD 0 0).toNat:Nat)),none⟩),(15,⟨.c (.int .i64 0),none⟩),(16,⟨.c (.int .u8 (lo:Nat)),none⟩),(17,⟨.c (.int .u8 (hi:Nat)),none⟩),(33,⟨.c (.int .i64 c),none⟩)])⟩ (y1_ ([])) 60 38 ([.fs 1 l.length (z6_ l)]) ([]))
theorem next2_1 (l:List UInt8)(lo hi:Nat)(c:Int)(m:Nat):next2_X l lo hi c m []=some ((AV.tu [(AV.c ((Value.int .i64 65533))),
 (AV.c ((Value.int .i64 1))),
 (AV.c ((Value.bool false)))]),[(0:Int)≤0,
 (0:Int)<↑l.length,
 (((0:Nat):Nat)<((List.drop (Int.toNat (0:Int)) (z6_ l)).length)),
 y2_ ((List.drop (Int.toNat (0:Int)) (z6_ l)).headD AV.any) ((AV.c ((Value.int .u8 ((↑(l.getD (0:Nat) 0).toNat:Int)))))),
 (((0:Int):Int)≤((↑(l.getD (0:Nat) 0).toNat:Int))),
 (((↑(l.getD (0:Nat) 0).toNat:Int):Int)<((256:Int))),
 ((ldK (↑(l.getD (0:Nat) 0).toNat:Int):Int))=(0),
 ((p7_ (↑(l.getD (0:Nat) 0).toNat:Int):Int))=((↑lo:Int)),
 ((p6_ (↑(l.getD (0:Nat) 0).toNat:Int):Int))=((↑hi:Int))]):=by kernel_rfl
theorem next2_all (l:List UInt8)(lo hi:Nat)(c:Int)(m:Nat)(h0:0<l.length)(h1:ldK (bN l 0:Nat)=0)(h2:p7_ (bN l 0:Nat)=lo)(h3:p6_ (bN l 0:Nat)=hi)(h4:0≤(1:Int)∨c=((bN l 0%1:Nat):Int)):∃(h:Hints) (p:List Prop),y0_ p_ 38 (z9_ p_ clN h (y1_ ([])) 60 38 ([.fs 1 l.length (z6_ l)]) ([]))=some (.tu [.c (.int .i64 65533),.c (.int .i64 1),.c (.bool false)],p)∧z7_ p:=by
  have eR:=next2_1 l lo hi c m
  refine⟨_,_,eR.trans (congrArg (fun r=>some (r,_)) ?_),?_⟩
  ·rfl
  ·clear eR
   have hh:=m8_ l 0 h0
   have e:(l.getD 0 0).toNat=bN l 0:=rfl
   have hb:=p5_ l 0
   have hw:i64.wrap ((bN l 0:Nat):Int)=((bN l 0:Nat):Int):=t9_ (by omega) (by omega)
   have f1:0≤(1:Int)∨Int.fdiv (128:Int) ((2:Int)^(0:Nat))=1:=by first|exact .inl (by omega)|exact .inr (by decide)
   have f2:∀x:Nat,Int.tmod (x:Int) 1=((x%1:Nat):Int):=fun x=>by rw[tmN (by omega)];omega
   simp only[z7_,q5_,hh,w6_,e,hw,h1,h2,h3,x5_,x2_,List.length_drop,and_true,true_and]
   refine⟨by omega,by omega,by omega,by omega,?_⟩
   first
     |omega
     |(refine⟨by omega,by omega,by omega,by omega⟩;done)
     |(have f3:=f1.resolve_left (by omega)
       have f4:=h4.resolve_left (by omega)
       rw[f3,f2,←f4]
       refine⟨?_,?_,?_,?_⟩<;>first|omega|rfl)
noncomputable def next32_X (l:List UInt8)(lo hi:Nat)(c:Int)(m:Nat)(h_:List (Nat×Bool)):=y0_ p_ 38 (z9_ p_ clN ⟨true,bs h_++([(13,⟨w6_ (l.getD 0 0),none⟩),(22,⟨w6_ (l.getD 0 0),none⟩),(23,⟨.c (.int .i64 ((l.getD 0 0).toNat:Nat)),none⟩),(28,⟨w6_ (l.getD 0 0),none⟩),(29,⟨.c (.int .i64 ((l.getD 0 0).toNat:Nat)),none⟩),(15,⟨.c (.int .i64 2),none⟩),(16,⟨.c (.int .u8 (lo:Nat)),none⟩),(17,⟨.c (.int .u8 (hi:Nat)),none⟩),(33,⟨.c (.int .i64 c),none⟩)])⟩ (y1_ (nxLpE l 2 lo hi c m)) 60 38 ([.fs 1 l.length (z6_ l)]) ([]))
theorem next32_1 (l:List UInt8)(lo hi:Nat)(c:Int)(m:Nat):next32_X l lo hi c m []=some ((AV.tu [(AV.c ((Value.int .i64 (p4_ l c m)))),
 (AV.c ((Value.int .i64 2))),
 (AV.c ((Value.bool true)))]),[(0:Int)≤0,
 (0:Int)<↑l.length,
 (((0:Nat):Nat)<((List.drop (Int.toNat (0:Int)) (z6_ l)).length)),
 y2_ ((List.drop (Int.toNat (0:Int)) (z6_ l)).headD AV.any) ((AV.c ((Value.int .u8 ((↑(l.getD (0:Nat) 0).toNat:Int)))))),
 (((0:Int):Int)≤((↑(l.getD (0:Nat) 0).toNat:Int))),
 (((↑(l.getD (0:Nat) 0).toNat:Int):Int)<((256:Int))),
 ((ldK (↑(l.getD (0:Nat) 0).toNat:Int):Int))=(2),
 ((p7_ (↑(l.getD (0:Nat) 0).toNat:Int):Int))=((↑lo:Int)),
 ((p6_ (↑(l.getD (0:Nat) 0).toNat:Int):Int))=((↑hi:Int)),
 (0:Int)≤0,
 (0:Int)<↑l.length,
 (((0:Nat):Nat)<((List.drop (Int.toNat (0:Int)) (z6_ l)).length)),
 y2_ ((List.drop (Int.toNat (0:Int)) (z6_ l)).headD AV.any) ((AV.c ((Value.int .u8 ((↑(l.getD (0:Nat) 0).toNat:Int)))))),
 ((i64.wrap (↑(l.getD (0:Nat) 0).toNat:Int):Int))=((↑(l.getD (0:Nat) 0).toNat:Int)),
 (((↑(l.getD (0:Nat) 0).toNat:Int).tmod (Int.fdiv (128:Int) ((2:Int)^(2:Nat))):Int))=(c),
 ((z2_ p_ (38:FuncId) (8:Nat):Go.Code))=(z2_ p_ (38:FuncId) (8:Nat)),
 ((nxS l (2:Int) (↑lo:Int) (↑hi:Int) c (1:Nat):St))=(nxS l (2:Int) (↑lo:Int) (↑hi:Int) c (1:Nat))]):=by kernel_rfl
theorem next32_all (l:List UInt8)(lo hi:Nat)(c:Int)(m:Nat)(h0:0<l.length)(h1:ldK (bN l 0:Nat)=2)(h2:p7_ (bN l 0:Nat)=lo)(h3:p6_ (bN l 0:Nat)=hi)(h4:2≤(1:Int)∨c=((bN l 0%32:Nat):Int)):∃(h:Hints) (p:List Prop),y0_ p_ 38 (z9_ p_ clN h (y1_ (nxLpE l 2 lo hi c m)) 60 38 ([.fs 1 l.length (z6_ l)]) ([]))=some (.tu [.c (.int .i64 (p4_ l c m)),.c (.int .i64 2),.c (.bool true)],p)∧z7_ p:=by
  have eR:=next32_1 l lo hi c m
  refine⟨_,_,eR.trans (congrArg (fun r=>some (r,_)) ?_),?_⟩
  ·rfl
  ·clear eR
   have hh:=m8_ l 0 h0
   have e:(l.getD 0 0).toNat=bN l 0:=rfl
   have hb:=p5_ l 0
   have hw:i64.wrap ((bN l 0:Nat):Int)=((bN l 0:Nat):Int):=t9_ (by omega) (by omega)
   have f1:2≤(1:Int)∨Int.fdiv (128:Int) ((2:Int)^(2:Nat))=32:=by first|exact .inl (by omega)|exact .inr (by decide)
   have f2:∀x:Nat,Int.tmod (x:Int) 32=((x%32:Nat):Int):=fun x=>by rw[tmN (by omega)];omega
   simp only[z7_,q5_,hh,w6_,e,hw,h1,h2,h3,x5_,x2_,List.length_drop,and_true,true_and]
   refine⟨by omega,by omega,by omega,by omega,?_⟩
   first
     |omega
     |(refine⟨by omega,by omega,by omega,by omega⟩;done)
     |(have f3:=f1.resolve_left (by omega)
       have f4:=h4.resolve_left (by omega)
       rw[f3,f2,←f4]
       refine⟨?_,?_,?_,?_⟩<;>first|omega|rfl)
noncomputable def next33_X (l:List UInt8)(lo hi:Nat)(c:Int)(m:Nat)(h_:List (Nat×Bool)):=y0_ p_ 38 (z9_ p_ clN ⟨true,bs h_++([(13,⟨w6_ (l.getD 0 0),none⟩),(22,⟨w6_ (l.getD 0 0),none⟩),(23,⟨.c (.int .i64 ((l.getD 0 0).toNat:Nat)),none⟩),(28,⟨w6_ (l.getD 0 0),none⟩),(29,⟨.c (.int .i64 ((l.getD 0 0).toNat:Nat)),none⟩),(15,⟨.c (.int .i64 3),none⟩),(16,⟨.c (.int .u8 (lo:Nat)),none⟩),(17,⟨.c (.int .u8 (hi:Nat)),none⟩),(33,⟨.c (.int .i64 c),none⟩)])⟩ (y1_ (nxLpE l 3 lo hi c m)) 60 38 ([.fs 1 l.length (z6_ l)]) ([]))
theorem next33_1 (l:List UInt8)(lo hi:Nat)(c:Int)(m:Nat):next33_X l lo hi c m []=some ((AV.tu [(AV.c ((Value.int .i64 (p4_ l c m)))),
 (AV.c ((Value.int .i64 3))),
 (AV.c ((Value.bool true)))]),[(0:Int)≤0,
 (0:Int)<↑l.length,
 (((0:Nat):Nat)<((List.drop (Int.toNat (0:Int)) (z6_ l)).length)),
 y2_ ((List.drop (Int.toNat (0:Int)) (z6_ l)).headD AV.any) ((AV.c ((Value.int .u8 ((↑(l.getD (0:Nat) 0).toNat:Int)))))),
 (((0:Int):Int)≤((↑(l.getD (0:Nat) 0).toNat:Int))),
 (((↑(l.getD (0:Nat) 0).toNat:Int):Int)<((256:Int))),
 ((ldK (↑(l.getD (0:Nat) 0).toNat:Int):Int))=(3),
 ((p7_ (↑(l.getD (0:Nat) 0).toNat:Int):Int))=((↑lo:Int)),
 ((p6_ (↑(l.getD (0:Nat) 0).toNat:Int):Int))=((↑hi:Int)),
 (0:Int)≤0,
 (0:Int)<↑l.length,
 (((0:Nat):Nat)<((List.drop (Int.toNat (0:Int)) (z6_ l)).length)),
 y2_ ((List.drop (Int.toNat (0:Int)) (z6_ l)).headD AV.any) ((AV.c ((Value.int .u8 ((↑(l.getD (0:Nat) 0).toNat:Int)))))),
 ((i64.wrap (↑(l.getD (0:Nat) 0).toNat:Int):Int))=((↑(l.getD (0:Nat) 0).toNat:Int)),
 (((↑(l.getD (0:Nat) 0).toNat:Int).tmod (Int.fdiv (128:Int) ((2:Int)^(3:Nat))):Int))=(c),
 ((z2_ p_ (38:FuncId) (8:Nat):Go.Code))=(z2_ p_ (38:FuncId) (8:Nat)),
 ((nxS l (3:Int) (↑lo:Int) (↑hi:Int) c (1:Nat):St))=(nxS l (3:Int) (↑lo:Int) (↑hi:Int) c (1:Nat))]):=by kernel_rfl
theorem next33_all (l:List UInt8)(lo hi:Nat)(c:Int)(m:Nat)(h0:0<l.length)(h1:ldK (bN l 0:Nat)=3)(h2:p7_ (bN l 0:Nat)=lo)(h3:p6_ (bN l 0:Nat)=hi)(h4:3≤(1:Int)∨c=((bN l 0%16:Nat):Int)):∃(h:Hints) (p:List Prop),y0_ p_ 38 (z9_ p_ clN h (y1_ (nxLpE l 3 lo hi c m)) 60 38 ([.fs 1 l.length (z6_ l)]) ([]))=some (.tu [.c (.int .i64 (p4_ l c m)),.c (.int .i64 3),.c (.bool true)],p)∧z7_ p:=by
  have eR:=next33_1 l lo hi c m
  refine⟨_,_,eR.trans (congrArg (fun r=>some (r,_)) ?_),?_⟩
  ·rfl
  ·clear eR
   have hh:=m8_ l 0 h0
   have e:(l.getD 0 0).toNat=bN l 0:=rfl
   have hb:=p5_ l 0
   have hw:i64.wrap ((bN l 0:Nat):Int)=((bN l 0:Nat):Int):=t9_ (by omega) (by omega)
   have f1:3≤(1:Int)∨Int.fdiv (128:Int) ((2:Int)^(3:Nat))=16:=by first|exact .inl (by omega)|exact .inr (by decide)
   have f2:∀x:Nat,Int.tmod (x:Int) 16=((x%16:Nat):Int):=fun x=>by rw[tmN (by omega)];omega
   simp only[z7_,q5_,hh,w6_,e,hw,h1,h2,h3,x5_,x2_,List.length_drop,and_true,true_and]
   refine⟨by omega,by omega,by omega,by omega,?_⟩
   first
     |omega
     |(refine⟨by omega,by omega,by omega,by omega⟩;done)
     |(have f3:=f1.resolve_left (by omega)
       have f4:=h4.resolve_left (by omega)
       rw[f3,f2,←f4]
       refine⟨?_,?_,?_,?_⟩<;>first|omega|rfl)
noncomputable def next34_X (l:List UInt8)(lo hi:Nat)(c:Int)(m:Nat)(h_:List (Nat×Bool)):=y0_ p_ 38 (z9_ p_ clN ⟨true,bs h_++([(13,⟨w6_ (l.getD 0 0),none⟩),(22,⟨w6_ (l.getD 0 0),none⟩),(23,⟨.c (.int .i64 ((l.getD 0 0).toNat:Nat)),none⟩),(28,⟨w6_ (l.getD 0 0),none⟩),(29,⟨.c (.int .i64 ((l.getD 0 0).toNat:Nat)),none⟩),(15,⟨.c (.int .i64 4),none⟩),(16,⟨.c (.int .u8 (lo:Nat)),none⟩),(17,⟨.c (.int .u8 (hi:Nat)),none⟩),(33,⟨.c (.int .i64 c),none⟩)])⟩ (y1_ (nxLpE l 4 lo hi c m)) 60 38 ([.fs 1 l.length (z6_ l)]) ([]))
theorem next34_1 (l:List UInt8)(lo hi:Nat)(c:Int)(m:Nat):next34_X l lo hi c m []=some ((AV.tu [(AV.c ((Value.int .i64 (p4_ l c m)))),
 (AV.c ((Value.int .i64 4))),
 (AV.c ((Value.bool true)))]),[(0:Int)≤0,
 (0:Int)<↑l.length,
 (((0:Nat):Nat)<((List.drop (Int.toNat (0:Int)) (z6_ l)).length)),
 y2_ ((List.drop (Int.toNat (0:Int)) (z6_ l)).headD AV.any) ((AV.c ((Value.int .u8 ((↑(l.getD (0:Nat) 0).toNat:Int)))))),
 (((0:Int):Int)≤((↑(l.getD (0:Nat) 0).toNat:Int))),
 (((↑(l.getD (0:Nat) 0).toNat:Int):Int)<((256:Int))),
 ((ldK (↑(l.getD (0:Nat) 0).toNat:Int):Int))=(4),
 ((p7_ (↑(l.getD (0:Nat) 0).toNat:Int):Int))=((↑lo:Int)),
 ((p6_ (↑(l.getD (0:Nat) 0).toNat:Int):Int))=((↑hi:Int)),
 (0:Int)≤0,
 (0:Int)<↑l.length,
 (((0:Nat):Nat)<((List.drop (Int.toNat (0:Int)) (z6_ l)).length)),
 y2_ ((List.drop (Int.toNat (0:Int)) (z6_ l)).headD AV.any) ((AV.c ((Value.int .u8 ((↑(l.getD (0:Nat) 0).toNat:Int)))))),
 ((i64.wrap (↑(l.getD (0:Nat) 0).toNat:Int):Int))=((↑(l.getD (0:Nat) 0).toNat:Int)),
 (((↑(l.getD (0:Nat) 0).toNat:Int).tmod (Int.fdiv (128:Int) ((2:Int)^(4:Nat))):Int))=(c),
 ((z2_ p_ (38:FuncId) (8:Nat):Go.Code))=(z2_ p_ (38:FuncId) (8:Nat)),
 ((nxS l (4:Int) (↑lo:Int) (↑hi:Int) c (1:Nat):St))=(nxS l (4:Int) (↑lo:Int) (↑hi:Int) c (1:Nat))]):=by kernel_rfl
theorem next34_all (l:List UInt8)(lo hi:Nat)(c:Int)(m:Nat)(h0:0<l.length)(h1:ldK (bN l 0:Nat)=4)(h2:p7_ (bN l 0:Nat)=lo)(h3:p6_ (bN l 0:Nat)=hi)(h4:4≤(1:Int)∨c=((bN l 0%8:Nat):Int)):∃(h:Hints) (p:List Prop),y0_ p_ 38 (z9_ p_ clN h (y1_ (nxLpE l 4 lo hi c m)) 60 38 ([.fs 1 l.length (z6_ l)]) ([]))=some (.tu [.c (.int .i64 (p4_ l c m)),.c (.int .i64 4),.c (.bool true)],p)∧z7_ p:=by
  have eR:=next34_1 l lo hi c m
  refine⟨_,_,eR.trans (congrArg (fun r=>some (r,_)) ?_),?_⟩
  ·rfl
  ·clear eR
   have hh:=m8_ l 0 h0
   have e:(l.getD 0 0).toNat=bN l 0:=rfl
   have hb:=p5_ l 0
   have hw:i64.wrap ((bN l 0:Nat):Int)=((bN l 0:Nat):Int):=t9_ (by omega) (by omega)
   have f1:4≤(1:Int)∨Int.fdiv (128:Int) ((2:Int)^(4:Nat))=8:=by first|exact .inl (by omega)|exact .inr (by decide)
   have f2:∀x:Nat,Int.tmod (x:Int) 8=((x%8:Nat):Int):=fun x=>by rw[tmN (by omega)];omega
   simp only[z7_,q5_,hh,w6_,e,hw,h1,h2,h3,x5_,x2_,List.length_drop,and_true,true_and]
   refine⟨by omega,by omega,by omega,by omega,?_⟩
   first
     |omega
     |(refine⟨by omega,by omega,by omega,by omega⟩;done)
     |(have f3:=f1.resolve_left (by omega)
       have f4:=h4.resolve_left (by omega)
       rw[f3,f2,←f4]
       refine⟨?_,?_,?_,?_⟩<;>first|omega|rfl)
noncomputable def next42_X (l:List UInt8)(lo hi:Nat)(c:Int)(m:Nat)(h_:List (Nat×Bool)):=y0_ p_ 38 (z9_ p_ clN ⟨true,bs h_++([(13,⟨w6_ (l.getD 0 0),none⟩),(22,⟨w6_ (l.getD 0 0),none⟩),(23,⟨.c (.int .i64 ((l.getD 0 0).toNat:Nat)),none⟩),(28,⟨w6_ (l.getD 0 0),none⟩),(29,⟨.c (.int .i64 ((l.getD 0 0).toNat:Nat)),none⟩),(15,⟨.c (.int .i64 2),none⟩),(16,⟨.c (.int .u8 (lo:Nat)),none⟩),(17,⟨.c (.int .u8 (hi:Nat)),none⟩),(33,⟨.c (.int .i64 c),none⟩)])⟩ (y1_ (nxLpR l 2 lo hi c m)) 60 38 ([.fs 1 l.length (z6_ l)]) ([]))
theorem next42_1 (l:List UInt8)(lo hi:Nat)(c:Int)(m:Nat):next42_X l lo hi c m []=some ((AV.tu [(AV.c ((Value.int .i64 65533))),
 (AV.c ((Value.int .i64 ((↑(m+(1:Nat)):Int))))),
 (AV.c ((Value.bool false)))]),[(0:Int)≤0,
 (0:Int)<↑l.length,
 (((0:Nat):Nat)<((List.drop (Int.toNat (0:Int)) (z6_ l)).length)),
 y2_ ((List.drop (Int.toNat (0:Int)) (z6_ l)).headD AV.any) ((AV.c ((Value.int .u8 ((↑(l.getD (0:Nat) 0).toNat:Int)))))),
 (((0:Int):Int)≤((↑(l.getD (0:Nat) 0).toNat:Int))),
 (((↑(l.getD (0:Nat) 0).toNat:Int):Int)<((256:Int))),
 ((ldK (↑(l.getD (0:Nat) 0).toNat:Int):Int))=(2),
 ((p7_ (↑(l.getD (0:Nat) 0).toNat:Int):Int))=((↑lo:Int)),
 ((p6_ (↑(l.getD (0:Nat) 0).toNat:Int):Int))=((↑hi:Int)),
 (0:Int)≤0,
 (0:Int)<↑l.length,
 (((0:Nat):Nat)<((List.drop (Int.toNat (0:Int)) (z6_ l)).length)),
 y2_ ((List.drop (Int.toNat (0:Int)) (z6_ l)).headD AV.any) ((AV.c ((Value.int .u8 ((↑(l.getD (0:Nat) 0).toNat:Int)))))),
 ((i64.wrap (↑(l.getD (0:Nat) 0).toNat:Int):Int))=((↑(l.getD (0:Nat) 0).toNat:Int)),
 (((↑(l.getD (0:Nat) 0).toNat:Int).tmod (Int.fdiv (128:Int) ((2:Int)^(2:Nat))):Int))=(c),
 ((z2_ p_ (38:FuncId) (8:Nat):Go.Code))=(z2_ p_ (38:FuncId) (8:Nat)),
 ((nxS l (2:Int) (↑lo:Int) (↑hi:Int) c (1:Nat):St))=(nxS l (2:Int) (↑lo:Int) (↑hi:Int) c (1:Nat))]):=by kernel_rfl
theorem next42_all (l:List UInt8)(lo hi:Nat)(c:Int)(m:Nat)(h0:0<l.length)(h1:ldK (bN l 0:Nat)=2)(h2:p7_ (bN l 0:Nat)=lo)(h3:p6_ (bN l 0:Nat)=hi)(h4:2≤(1:Int)∨c=((bN l 0%32:Nat):Int)):∃(h:Hints) (p:List Prop),y0_ p_ 38 (z9_ p_ clN h (y1_ (nxLpR l 2 lo hi c m)) 60 38 ([.fs 1 l.length (z6_ l)]) ([]))=some (.tu [.c (.int .i64 65533),.c (.int .i64 ((m+1:Nat):Int)),.c (.bool false)],p)∧z7_ p:=by
  have eR:=next42_1 l lo hi c m
  refine⟨_,_,eR.trans (congrArg (fun r=>some (r,_)) ?_),?_⟩
  ·rfl
  ·clear eR
   have hh:=m8_ l 0 h0
   have e:(l.getD 0 0).toNat=bN l 0:=rfl
   have hb:=p5_ l 0
   have hw:i64.wrap ((bN l 0:Nat):Int)=((bN l 0:Nat):Int):=t9_ (by omega) (by omega)
   have f1:2≤(1:Int)∨Int.fdiv (128:Int) ((2:Int)^(2:Nat))=32:=by first|exact .inl (by omega)|exact .inr (by decide)
   have f2:∀x:Nat,Int.tmod (x:Int) 32=((x%32:Nat):Int):=fun x=>by rw[tmN (by omega)];omega
   simp only[z7_,q5_,hh,w6_,e,hw,h1,h2,h3,x5_,x2_,List.length_drop,and_true,true_and]
   refine⟨by omega,by omega,by omega,by omega,?_⟩
   first
     |omega
     |(refine⟨by omega,by omega,by omega,by omega⟩;done)
     |(have f3:=f1.resolve_left (by omega)
       have f4:=h4.resolve_left (by omega)
       rw[f3,f2,←f4]
       refine⟨?_,?_,?_,?_⟩<;>first|omega|rfl)
noncomputable def next43_X (l:List UInt8)(lo hi:Nat)(c:Int)(m:Nat)(h_:List (Nat×Bool)):=y0_ p_ 38 (z9_ p_ clN ⟨true,bs h_++([(13,⟨w6_ (l.getD 0 0),none⟩),(22,⟨w6_ (l.getD 0 0),none⟩),(23,⟨.c (.int .i64 ((l.getD 0 0).toNat:Nat)),none⟩),(28,⟨w6_ (l.getD 0 0),none⟩),(29,⟨.c (.int .i64 ((l.getD 0 0).toNat:Nat)),none⟩),(15,⟨.c (.int .i64 3),none⟩),(16,⟨.c (.int .u8 (lo:Nat)),none⟩),(17,⟨.c (.int .u8 (hi:Nat)),none⟩),(33,⟨.c (.int .i64 c),none⟩)])⟩ (y1_ (nxLpR l 3 lo hi c m)) 60 38 ([.fs 1 l.length (z6_ l)]) ([]))
theorem next43_1 (l:List UInt8)(lo hi:Nat)(c:Int)(m:Nat):next43_X l lo hi c m []=some ((AV.tu [(AV.c ((Value.int .i64 65533))),
 (AV.c ((Value.int .i64 ((↑(m+(1:Nat)):Int))))),
 (AV.c ((Value.bool false)))]),[(0:Int)≤0,
 (0:Int)<↑l.length,
 (((0:Nat):Nat)<((List.drop (Int.toNat (0:Int)) (z6_ l)).length)),
 y2_ ((List.drop (Int.toNat (0:Int)) (z6_ l)).headD AV.any) ((AV.c ((Value.int .u8 ((↑(l.getD (0:Nat) 0).toNat:Int)))))),
 (((0:Int):Int)≤((↑(l.getD (0:Nat) 0).toNat:Int))),
 (((↑(l.getD (0:Nat) 0).toNat:Int):Int)<((256:Int))),
 ((ldK (↑(l.getD (0:Nat) 0).toNat:Int):Int))=(3),
 ((p7_ (↑(l.getD (0:Nat) 0).toNat:Int):Int))=((↑lo:Int)),
 ((p6_ (↑(l.getD (0:Nat) 0).toNat:Int):Int))=((↑hi:Int)),
 (0:Int)≤0,
 (0:Int)<↑l.length,
 (((0:Nat):Nat)<((List.drop (Int.toNat (0:Int)) (z6_ l)).length)),
 y2_ ((List.drop (Int.toNat (0:Int)) (z6_ l)).headD AV.any) ((AV.c ((Value.int .u8 ((↑(l.getD (0:Nat) 0).toNat:Int)))))),
 ((i64.wrap (↑(l.getD (0:Nat) 0).toNat:Int):Int))=((↑(l.getD (0:Nat) 0).toNat:Int)),
 (((↑(l.getD (0:Nat) 0).toNat:Int).tmod (Int.fdiv (128:Int) ((2:Int)^(3:Nat))):Int))=(c),
 ((z2_ p_ (38:FuncId) (8:Nat):Go.Code))=(z2_ p_ (38:FuncId) (8:Nat)),
 ((nxS l (3:Int) (↑lo:Int) (↑hi:Int) c (1:Nat):St))=(nxS l (3:Int) (↑lo:Int) (↑hi:Int) c (1:Nat))]):=by kernel_rfl
theorem next43_all (l:List UInt8)(lo hi:Nat)(c:Int)(m:Nat)(h0:0<l.length)(h1:ldK (bN l 0:Nat)=3)(h2:p7_ (bN l 0:Nat)=lo)(h3:p6_ (bN l 0:Nat)=hi)(h4:3≤(1:Int)∨c=((bN l 0%16:Nat):Int)):∃(h:Hints) (p:List Prop),y0_ p_ 38 (z9_ p_ clN h (y1_ (nxLpR l 3 lo hi c m)) 60 38 ([.fs 1 l.length (z6_ l)]) ([]))=some (.tu [.c (.int .i64 65533),.c (.int .i64 ((m+1:Nat):Int)),.c (.bool false)],p)∧z7_ p:=by
  have eR:=next43_1 l lo hi c m
  refine⟨_,_,eR.trans (congrArg (fun r=>some (r,_)) ?_),?_⟩
  ·rfl
  ·clear eR
   have hh:=m8_ l 0 h0
   have e:(l.getD 0 0).toNat=bN l 0:=rfl
   have hb:=p5_ l 0
   have hw:i64.wrap ((bN l 0:Nat):Int)=((bN l 0:Nat):Int):=t9_ (by omega) (by omega)
   have f1:3≤(1:Int)∨Int.fdiv (128:Int) ((2:Int)^(3:Nat))=16:=by first|exact .inl (by omega)|exact .inr (by decide)
   have f2:∀x:Nat,Int.tmod (x:Int) 16=((x%16:Nat):Int):=fun x=>by rw[tmN (by omega)];omega
   simp only[z7_,q5_,hh,w6_,e,hw,h1,h2,h3,x5_,x2_,List.length_drop,and_true,true_and]
   refine⟨by omega,by omega,by omega,by omega,?_⟩
   first
     |omega
     |(refine⟨by omega,by omega,by omega,by omega⟩;done)
     |(have f3:=f1.resolve_left (by omega)
       have f4:=h4.resolve_left (by omega)
       rw[f3,f2,←f4]
       refine⟨?_,?_,?_,?_⟩<;>first|omega|rfl)
noncomputable def next44_X (l:List UInt8)(lo hi:Nat)(c:Int)(m:Nat)(h_:List (Nat×Bool)):=y0_ p_ 38 (z9_ p_ clN ⟨true,bs h_++([(13,⟨w6_ (l.getD 0 0),none⟩),(22,⟨w6_ (l.getD 0 0),none⟩),(23,⟨.c (.int .i64 ((l.getD 0 0).toNat:Nat)),none⟩),(28,⟨w6_ (l.getD 0 0),none⟩),(29,⟨.c (.int .i64 ((l.getD 0 0).toNat:Nat)),none⟩),(15,⟨.c (.int .i64 4),none⟩),(16,⟨.c (.int .u8 (lo:Nat)),none⟩),(17,⟨.c (.int .u8 (hi:Nat)),none⟩),(33,⟨.c (.int .i64 c),none⟩)])⟩ (y1_ (nxLpR l 4 lo hi c m)) 60 38 ([.fs 1 l.length (z6_ l)]) ([]))
theorem next44_1 (l:List UInt8)(lo hi:Nat)(c:Int)(m:Nat):next44_X l lo hi c m []=some ((AV.tu [(AV.c ((Value.int .i64 65533))),
 (AV.c ((Value.int .i64 ((↑(m+(1:Nat)):Int))))),
 (AV.c ((Value.bool false)))]),[(0:Int)≤0,
 (0:Int)<↑l.length,
 (((0:Nat):Nat)<((List.drop (Int.toNat (0:Int)) (z6_ l)).length)),
 y2_ ((List.drop (Int.toNat (0:Int)) (z6_ l)).headD AV.any) ((AV.c ((Value.int .u8 ((↑(l.getD (0:Nat) 0).toNat:Int)))))),
 (((0:Int):Int)≤((↑(l.getD (0:Nat) 0).toNat:Int))),
 (((↑(l.getD (0:Nat) 0).toNat:Int):Int)<((256:Int))),
 ((ldK (↑(l.getD (0:Nat) 0).toNat:Int):Int))=(4),
 ((p7_ (↑(l.getD (0:Nat) 0).toNat:Int):Int))=((↑lo:Int)),
 ((p6_ (↑(l.getD (0:Nat) 0).toNat:Int):Int))=((↑hi:Int)),
 (0:Int)≤0,
 (0:Int)<↑l.length,
 (((0:Nat):Nat)<((List.drop (Int.toNat (0:Int)) (z6_ l)).length)),
 y2_ ((List.drop (Int.toNat (0:Int)) (z6_ l)).headD AV.any) ((AV.c ((Value.int .u8 ((↑(l.getD (0:Nat) 0).toNat:Int)))))),
 ((i64.wrap (↑(l.getD (0:Nat) 0).toNat:Int):Int))=((↑(l.getD (0:Nat) 0).toNat:Int)),
 (((↑(l.getD (0:Nat) 0).toNat:Int).tmod (Int.fdiv (128:Int) ((2:Int)^(4:Nat))):Int))=(c),
 ((z2_ p_ (38:FuncId) (8:Nat):Go.Code))=(z2_ p_ (38:FuncId) (8:Nat)),
 ((nxS l (4:Int) (↑lo:Int) (↑hi:Int) c (1:Nat):St))=(nxS l (4:Int) (↑lo:Int) (↑hi:Int) c (1:Nat))]):=by kernel_rfl
theorem next44_all (l:List UInt8)(lo hi:Nat)(c:Int)(m:Nat)(h0:0<l.length)(h1:ldK (bN l 0:Nat)=4)(h2:p7_ (bN l 0:Nat)=lo)(h3:p6_ (bN l 0:Nat)=hi)(h4:4≤(1:Int)∨c=((bN l 0%8:Nat):Int)):∃(h:Hints) (p:List Prop),y0_ p_ 38 (z9_ p_ clN h (y1_ (nxLpR l 4 lo hi c m)) 60 38 ([.fs 1 l.length (z6_ l)]) ([]))=some (.tu [.c (.int .i64 65533),.c (.int .i64 ((m+1:Nat):Int)),.c (.bool false)],p)∧z7_ p:=by
  have eR:=next44_1 l lo hi c m
  refine⟨_,_,eR.trans (congrArg (fun r=>some (r,_)) ?_),?_⟩
  ·rfl
  ·clear eR
   have hh:=m8_ l 0 h0
   have e:(l.getD 0 0).toNat=bN l 0:=rfl
   have hb:=p5_ l 0
   have hw:i64.wrap ((bN l 0:Nat):Int)=((bN l 0:Nat):Int):=t9_ (by omega) (by omega)
   have f1:4≤(1:Int)∨Int.fdiv (128:Int) ((2:Int)^(4:Nat))=8:=by first|exact .inl (by omega)|exact .inr (by decide)
   have f2:∀x:Nat,Int.tmod (x:Int) 8=((x%8:Nat):Int):=fun x=>by rw[tmN (by omega)];omega
   simp only[z7_,q5_,hh,w6_,e,hw,h1,h2,h3,x5_,x2_,List.length_drop,and_true,true_and]
   refine⟨by omega,by omega,by omega,by omega,?_⟩
   first
     |omega
     |(refine⟨by omega,by omega,by omega,by omega⟩;done)
     |(have f3:=f1.resolve_left (by omega)
       have f4:=h4.resolve_left (by omega)
       rw[f3,f2,←f4]
       refine⟨?_,?_,?_,?_⟩<;>first|omega|rfl)
end Go.Proofs.YtmjldphagbobpaaGreatDoor
namespace Go.Proofs.YtmjldphagbobpaaGreatDoor
open IntKind (i64 u8 i32 u32 u64)
open _root_.Go.Proofs.Tryz renaming prog→p_
open Go.RowKit U8
set_option maxRecDepth 100000
def nxV (l:List UInt8):AV:= .tu [.c (.int .i64 ((nx l).1:Nat)),.c (.int .i64 ((nx l).2.1:Nat)),.c (.bool (nx l).2.2)]
def NextAt (l:List UInt8):Prop:=∃hs lp fuel p,p8_ Ext0 p_ lp∧y0_ p_ 38 (z9_ p_ clN hs lp fuel 38 [.fs 1 l.length (z6_ l)] [])=some (nxV l,p)∧z7_ p
theorem d3_ {l:List UInt8}{c k:Nat}{g:Bool}{c' k':Int}(h:nx l=(c,k,g))(hc:c'=(c:Int))(hk:k'=(k:Int)):AV.tu [.c (.int .i64 c'),.c (.int .i64 k'),.c (.bool g)]=nxV l:=by
  unfold nxV
  rw[h,hc,hk]
theorem ld_of {b0 sz lo hi:Nat}(hs:sz=2∧194≤b0∧b0<224∧lo=128∧hi=191∨sz=3∧224≤b0∧b0<240∧(b0=224→lo=160)∧(b0≠224→lo=128)∧(b0=237→hi=159)∧(b0≠237→hi=191)∨sz=4∧240≤b0∧b0≤244∧(b0=240→lo=144)∧(b0≠240→lo=128)∧(b0=244→hi=143)∧(b0≠244→hi=191)):
    ldK (b0:Nat)=(sz:Int)∧p7_ (b0:Nat)=(lo:Int)∧p6_ (b0:Nat)=(hi:Int):=by
  refine⟨?_,?_,?_⟩
  ·unfold ldK;repeat' split
   all_goals omega
  ·unfold p7_;repeat' split
   all_goals omega
  ·unfold p6_;repeat' split
   all_goals omega
theorem next_at {l:List UInt8}(h0:0<l.length)(hl:l.length≤1000000000):NextAt l:=by
  have hb0:=p5_ l 0
  rcases g5_ (bN l 0)with⟨c,f⟩|⟨c,f⟩|⟨f,c⟩
  ·have e:nx l=(bN l 0,1,true):=stepN_a f
   have k1:ldK (bN l 0:Nat)=1:=by unfold ldK;rw[if_pos (by omega)]
   have k2:p7_ (bN l 0:Nat)=((0:Nat):Int):=by unfold p7_;rw[if_pos (by omega)];rfl
   have k3:p6_ (bN l 0:Nat)=((0:Nat):Int):=by unfold p6_;rw[if_pos (by omega)];rfl
   obtain⟨h,p,er,hp⟩:=next1_all l 0 0 0 0 h0 k1 k2 k3 (.inl (by omega))
   refine⟨_,_,_,_,z3_,er.trans ?_,hp⟩
   rw[←d3_ (c':=((l.getD 0 0).toNat:Nat)) (k':=1) e rfl rfl]
  ·have e:nx l=(65533,1,false):=stepN_b f
   have k1:ldK (bN l 0:Nat)=0:=by unfold ldK;rw[if_neg (by omega),if_pos (by omega)]
   have k2:p7_ (bN l 0:Nat)=((0:Nat):Int):=by unfold p7_;rw[if_pos (by omega)];rfl
   have k3:p6_ (bN l 0:Nat)=((0:Nat):Int):=by unfold p6_;rw[if_pos (by omega)];rfl
   obtain⟨h,p,er,hp⟩:=next2_all l 0 0 0 0 h0 k1 k2 k3 (.inl (by omega))
   refine⟨_,_,_,_,z3_,er.trans ?_,hp⟩
   rw[←d3_ (c':=65533) (k':=1) e rfl rfl]
  ·obtain⟨sz,lo,hi,e1,e2,e3,hlo,hhi,hs⟩:=c6_ f
   have e:nx l=U8.d7_ l.length (bN l 0) (bN l 1) (bN l 2) (bN l 3) sz lo hi:=by
     unfold nx;rw[stepN_c f,e1,e2,e3]
   obtain⟨k1,k2,k3⟩:=ld_of hs
   have hb1:=p5_ l 1
   have hb2:=p5_ l 2
   have hb3:=p5_ l 3
   clear f c e1 e2 e3
   unfold U8.d7_ at e
   have a1:∀c:Int,p4_ l c 1=64*c+(bN l 1:Nat)-128:=fun c=>rfl
   have a2:∀c:Int,p4_ l c 2=64*(64*c+(bN l 1:Nat)-128)+(bN l 2:Nat)-128:=fun c=>rfl
   have a3:∀c:Int,p4_ l c 3=64*(64*(64*c+(bN l 1:Nat)-128)+(bN l 2:Nat)-128)+(bN l 3:Nat)-128:=fun c=>rfl
   have g0:∀n:Int,∀c:Int,∀j,j<0→GoodJ l n lo hi j∧0≤p4_ l c j∧p4_ l c j≤1000000:=fun n c j h=>absurd h (Nat.not_lt_zero _)
   have g1:∀n:Int,1<n→∀c:Int,0≤c→c<128→¬(l.length<2∨bN l 1<lo∨hi<bN l 1)→∀j,j<1→GoodJ l n lo hi j∧0≤p4_ l c j∧p4_ l c j≤1000000:=by
     intro n hn c hc hc2 q j hj
     have:j=0:=by omega
     subst this
     exact⟨⟨by omega,by omega,show lo≤bN l 1 by omega,show bN l 1≤hi by omega⟩,show 0≤c by omega,show c≤1000000 by omega⟩
   have g2:∀n:Int,2<n→∀c:Int,0≤c→c<128→¬(l.length<2∨bN l 1<lo∨hi<bN l 1)→¬(l.length<3∨bN l 2<128∨191<bN l 2)→∀j,j<2→GoodJ l n lo hi j∧0≤p4_ l c j∧p4_ l c j≤1000000:=by
     intro n hn c hc hc2 q q2 j hj
     by_cases hj0:j<1
     ·exact g1 n (by omega) c hc hc2 q j hj0
     ·have:j=1:=by omega
      subst this
      rw[a1]
      exact⟨⟨by omega,by omega,show 128≤bN l 2 by omega,show bN l 2≤191 by omega⟩,by omega,by omega⟩
   have g3:∀n:Int,3<n→∀c:Int,0≤c→c<8→¬(l.length<2∨bN l 1<lo∨hi<bN l 1)→¬(l.length<3∨bN l 2<128∨191<bN l 2)→¬(l.length<4∨bN l 3<128∨191<bN l 3)→∀j,j<3→GoodJ l n lo hi j∧0≤p4_ l c j∧p4_ l c j≤1000000:=by
     intro n hn c hc hc2 q q2 q3 j hj
     by_cases hj0:j<2
     ·exact g2 n (by omega) c hc (by omega) q q2 j hj0
     ·have:j=2:=by omega
      subst this
      rw[a2]
      exact⟨⟨by omega,by omega,show 128≤bN l 3 by omega,show bN l 3≤191 by omega⟩,by omega,by omega⟩
   rcases hs with⟨rfl,hs⟩|⟨rfl,hs⟩|⟨rfl,hs⟩
   ·by_cases q1:l.length<2∨bN l 1<lo∨hi<bN l 1
    ·rw[if_pos q1]at e
     have T:=nx_ret l 2 lo hi ((bN l 0%32:Nat):Int) 0 hl (g0 2 _) (by omega) (show ¬(0+1<l.length∧lo≤bN l 1∧bN l 1≤hi)by omega)
     obtain⟨h,p,er,hp⟩:=next42_all l lo hi ((bN l 0%32:Nat):Int) 0 h0 k1 k2 k3 (.inr rfl)
     refine⟨_,_,_,_,y3_ z3_ List.nodup_nil T,er.trans ?_,hp⟩
     rw[←d3_ (c':=65533) (k':=1) e rfl rfl];rfl
    ·rw[if_neg q1,if_pos (by omega)]at e
     have T:=nx_exit l 2 lo hi ((bN l 0%32:Nat):Int) 1 hl (g1 2 (by omega) _ (by omega) (by omega) q1) (by omega)
     obtain⟨h,p,er,hp⟩:=next32_all l lo hi ((bN l 0%32:Nat):Int) 1 h0 k1 k2 k3 (.inr rfl)
     refine⟨_,_,_,_,y3_ z3_ List.nodup_nil T,er.trans ?_,hp⟩
     rw[←d3_ (c':=p4_ l ((bN l 0%32:Nat):Int) 1) (k':=2) e (by rw[a1];omega) rfl]
   ·by_cases q1:l.length<2∨bN l 1<lo∨hi<bN l 1
    ·rw[if_pos q1]at e
     have T:=nx_ret l 3 lo hi ((bN l 0%16:Nat):Int) 0 hl (g0 3 _) (by omega) (show ¬(0+1<l.length∧lo≤bN l 1∧bN l 1≤hi)by omega)
     obtain⟨h,p,er,hp⟩:=next43_all l lo hi ((bN l 0%16:Nat):Int) 0 h0 k1 k2 k3 (.inr rfl)
     refine⟨_,_,_,_,y3_ z3_ List.nodup_nil T,er.trans ?_,hp⟩
     rw[←d3_ (c':=65533) (k':=1) e rfl rfl];rfl
    ·rw[if_neg q1,if_neg (by omega)]at e
     by_cases q2:l.length<3∨bN l 2<128∨191<bN l 2
     ·rw[if_pos q2]at e
      have T:=nx_ret l 3 lo hi ((bN l 0%16:Nat):Int) 1 hl (g1 3 (by omega) _ (by omega) (by omega) q1) (by omega) (show ¬(1+1<l.length∧128≤bN l 2∧bN l 2≤191)by omega)
      obtain⟨h,p,er,hp⟩:=next43_all l lo hi ((bN l 0%16:Nat):Int) 1 h0 k1 k2 k3 (.inr rfl)
      refine⟨_,_,_,_,y3_ z3_ List.nodup_nil T,er.trans ?_,hp⟩
      rw[←d3_ (c':=65533) (k':=2) e rfl rfl];rfl
     ·rw[if_neg q2,if_pos (by omega)]at e
      have T:=nx_exit l 3 lo hi ((bN l 0%16:Nat):Int) 2 hl (g2 3 (by omega) _ (by omega) (by omega) q1 q2) (by omega)
      obtain⟨h,p,er,hp⟩:=next33_all l lo hi ((bN l 0%16:Nat):Int) 2 h0 k1 k2 k3 (.inr rfl)
      refine⟨_,_,_,_,y3_ z3_ List.nodup_nil T,er.trans ?_,hp⟩
      rw[←d3_ (c':=p4_ l ((bN l 0%16:Nat):Int) 2) (k':=3) e (by rw[a2];omega) rfl]
   ·by_cases q1:l.length<2∨bN l 1<lo∨hi<bN l 1
    ·rw[if_pos q1]at e
     have T:=nx_ret l 4 lo hi ((bN l 0%8:Nat):Int) 0 hl (g0 4 _) (by omega) (show ¬(0+1<l.length∧lo≤bN l 1∧bN l 1≤hi)by omega)
     obtain⟨h,p,er,hp⟩:=next44_all l lo hi ((bN l 0%8:Nat):Int) 0 h0 k1 k2 k3 (.inr rfl)
     refine⟨_,_,_,_,y3_ z3_ List.nodup_nil T,er.trans ?_,hp⟩
     rw[←d3_ (c':=65533) (k':=1) e rfl rfl];rfl
    ·rw[if_neg q1,if_neg (by omega)]at e
     by_cases q2:l.length<3∨bN l 2<128∨191<bN l 2
     ·rw[if_pos q2]at e
      have T:=nx_ret l 4 lo hi ((bN l 0%8:Nat):Int) 1 hl (g1 4 (by omega) _ (by omega) (by omega) q1) (by omega) (show ¬(1+1<l.length∧128≤bN l 2∧bN l 2≤191)by omega)
      obtain⟨h,p,er,hp⟩:=next44_all l lo hi ((bN l 0%8:Nat):Int) 1 h0 k1 k2 k3 (.inr rfl)
      refine⟨_,_,_,_,y3_ z3_ List.nodup_nil T,er.trans ?_,hp⟩
      rw[←d3_ (c':=65533) (k':=2) e rfl rfl];rfl
     ·rw[if_neg q2,if_neg (by omega)]at e
      by_cases q3:l.length<4∨bN l 3<128∨191<bN l 3
      ·rw[if_pos q3]at e
       have T:=nx_ret l 4 lo hi ((bN l 0%8:Nat):Int) 2 hl (g2 4 (by omega) _ (by omega) (by omega) q1 q2) (by omega) (show ¬(2+1<l.length∧128≤bN l 3∧bN l 3≤191)by omega)
       obtain⟨h,p,er,hp⟩:=next44_all l lo hi ((bN l 0%8:Nat):Int) 2 h0 k1 k2 k3 (.inr rfl)
       refine⟨_,_,_,_,y3_ z3_ List.nodup_nil T,er.trans ?_,hp⟩
       rw[←d3_ (c':=65533) (k':=3) e rfl rfl];rfl
      ·rw[if_neg q3]at e
       have T:=nx_exit l 4 lo hi ((bN l 0%8:Nat):Int) 3 hl (g3 4 (by omega) _ (by omega) (by omega) q1 q2 q3) (by omega)
       obtain⟨h,p,er,hp⟩:=next34_all l lo hi ((bN l 0%8:Nat):Int) 3 h0 k1 k2 k3 (.inr rfl)
       refine⟨_,_,_,_,y3_ z3_ List.nodup_nil T,er.trans ?_,hp⟩
       rw[←d3_ (c':=p4_ l ((bN l 0%8:Nat):Int) 3) (k':=4) e (by rw[a3];omega) rfl]
def nextSpec:Spec
  | [.fs s n l]=>some (nxV (w2_ l),[s=1,l=z6_ (w2_ l),n=(w2_ l).length,n≤1000000000,0<n])
  |_=>none
theorem nextc_ok:x8_ p_ 38 nextSpec:=by
  refine w1_ mixed clN_ok fun args r q hs hq=>?_
  unfold nextSpec at hs
  split at hs
  ·rename_i s n l
   simp only[oi_]at hs
   obtain⟨rfl,rfl⟩:=hs
   obtain⟨rfl,h1,h2,h3,h4,_⟩:=hq
   generalize w2_ l=m at h1 h2
   subst h1 h2
   exact next_at h4 h3
  ·simp at hs
noncomputable def clR:CallT:=q4_ p_ (t4_ [(38,nextSpec),(19,e4_)]) 500 8
theorem clR_ok:x3_ p_ clR:=t3_ mixed (y4_ nextc_ok (y4_ rsign_ok w3_)) 500 8
def rsG (l:List UInt8)(off n m:Nat)(L:List AV):St:=⟨frame 27 [(3,.sl 0 off n),(4,.sl 1 0 m)],[some ⟨5,false,z6_ l⟩,some ⟨3,false,L⟩]⟩
def rsE (l:List UInt8)(m:Nat)(L:List AV):St:=⟨frame 27 [(4,.sl 1 0 m)],[some ⟨5,false,z6_ l⟩,some ⟨3,false,L⟩]⟩
noncomputable def rs_X (l:List UInt8)(off n:Nat)(W:List Int)(c k:Nat)(h_:List (Nat×Bool))(fi_:Fi):=s4_ (fi_) (r3_ p_ clR ⟨true,bs h_++([(16,⟨.c (.int .i64 (c:Nat)),none⟩),(17,⟨.c (.int .i64 (k:Nat)),none⟩)])⟩ (y1_ ([])) 60 (z2_ p_ 24 3) (rsG l off n W.length (ints W)))
theorem rs_1 (l:List UInt8)(off n:Nat)(W:List Int)(c k:Nat):rs_X l off n W c k [(12,true)] (⟨[],[3,4],[0,3]⟩)=some (.normal,rsG l (k+off) (n-k) (W.length+1) (List.take W.length (ints W)++[.c (.int .i64 (c:Nat))]),[decide ((↑n:Int)>0)=true,
 ((p_.cellsOf (5:TypeId):Nat))=((1:Nat)),
 ((List.take n (List.drop off (z6_ l)):List AV))=(z6_ (w2_ (List.take n (List.drop off (z6_ l))))),
 ((n:Nat))=((w2_ (List.take n (List.drop off (z6_ l)))).length),
 ((n:Nat)≤((1000000000:Nat))),
 (((0:Nat):Nat)<(n)),
 (t8_ [] (nxV (w2_ (List.take n (List.drop off (z6_ l))))))=true,
 (((↑(nx (w2_ (List.take (r6_ n (p_.cellsOf ({ e:=(5:TypeId),op:=false,cells:=z6_ l} :Blk).e)) (List.drop (r6_ off (p_.cellsOf ({ e:=(5:TypeId),op:=false,cells:=z6_ l} :Blk).e)) ({ e:=(5:TypeId),op:=false,cells:=z6_ l} :Blk).cells)))).fst:Int):Int))=((↑c:Int)),
 (((↑(nx (w2_ (List.take (r6_ n (p_.cellsOf ({ e:=(5:TypeId),op:=false,cells:=z6_ l} :Blk).e)) (List.drop (r6_ off (p_.cellsOf ({ e:=(5:TypeId),op:=false,cells:=z6_ l} :Blk).e)) ({ e:=(5:TypeId),op:=false,cells:=z6_ l} :Blk).cells)))).snd.fst:Int):Int))=((↑k:Int)),
 (((1:Nat):Nat)≤((1:Nat))),
 (((W.length+(1:Nat))*(8:Nat):Nat)≤((140737488355328:Nat))),
 ((W.length+(1:Nat):Nat)≤((4611686018427387904:Nat))),
 ((W.length:Nat)≤((ints W).length)),
 (0:Int)≤↑k,
 (↑k:Int)≤↑n,
 (↑n:Int)≤↑n]):=by kernel_rfl
theorem rs_2 (l:List UInt8)(off n:Nat)(W:List Int)(c k:Nat):rs_X l off n W c k [(12,false)] ⟨[],[4],[0,1]⟩=some (.exit 0,rsE l W.length (ints W),[decide ((↑n:Int)>0)=false]):=by kernel_rfl
def jnG (L:List Int)(i n:Nat)(X:List AV):St:=⟨frame 20 [(0,.fs 1 L.length (ints L)),(3,.sl 0 0 n),(4,.c (.int .i64 i))],[some ⟨5,false,X⟩]⟩
noncomputable def jn_X (L:List Int)(i:Nat)(out:List UInt8)(c:Int)(h_:List (Nat×Bool))(fi_:Fi):=s4_ (fi_) (r3_ p_ clR ⟨true,bs h_++([(15,⟨.c (.int .i64 c),none⟩)])⟩ (y1_ ([])) 60 (z2_ p_ 17 3) (jnG L i out.length (z6_ out)))
theorem jn_1 (L:List Int)(i:Nat)(out:List UInt8)(c:Int):jn_X L i out c [(8,true)] (⟨[],[0,3,4],[1]⟩)=some (.normal,jnG L (i+1) (out.length+(y5_ (sgn c)).length) (List.take out.length (z6_ out)++z6_ (y5_ (sgn c))),[decide ((↑i:Int)<↑L.length)=true,
 (0:Int)≤↑i,
 (↑i:Int)<↑L.length,
 (((0:Nat):Nat)<((List.drop i (ints L)).length)),
 y2_ ((List.drop i (ints L)).headD AV.any) ((AV.c ((Value.int .i64 c)))),
 (-9223372036854775808:Int)≤c,
 (c:Int)≤9223372036854775807,
 (((out.length+(y5_ (sgn c)).length)*(1:Nat):Nat)≤((140737488355328:Nat))),
 ((out.length+(y5_ (sgn c)).length:Nat)≤((4611686018427387904:Nat))),
 ((out.length:Nat)≤((z6_ out).length)),
 (i64.min:Int)≤↑i+1,
 (↑i+1:Int)≤i64.max]):=by kernel_rfl
theorem jn_2 (L:List Int)(i:Nat)(out:List UInt8)(c:Int):jn_X L i out c [(8,false)] ⟨[],[0,3,4],[0]⟩=some (.exit 0,jnG L i out.length (z6_ out),[decide ((↑i:Int)<↑L.length)=false]):=by kernel_rfl
theorem cells5:p_.cellsOf 5=1:=by kernel_rfl
def RsInv (l:List UInt8)(x:Nat×Nat×List Int):Prop:=x.1≤l.length∧x.2.1=l.length-x.1∧x.2.2.length≤x.1∧x.2.2++z8_ (z1_ (l.drop x.1))=z8_ (z1_ l)
theorem byts_piece (l:List UInt8)(off n:Nat)(h:n=l.length-off):List.take n (List.drop off (z6_ l))=z6_ (l.drop off):=by
  rw[byts_drop,List.take_of_length_le (by rw[x2_,List.length_drop];omega)]
theorem nx_rng {l:List UInt8}(h:l≠[]):(nx l).1≤1114111:=by
  have:=(nx_pos h).2.2
  unfold okC at this
  omega
theorem rs_loop (l:List UInt8)(hl:l.length≤1000000000):Tri Ext0 p_ (.loop (z2_ p_ 24 3)) (rsG l 0 l.length 0 []) (.exit 0) (rsE l (z8_ (z1_ l)).length (ints (z8_ (z1_ l)))):=by
  refine t7_ mixed clR_ok (fun x:Nat×Nat×List Int=>rsG l x.1 x.2.1 x.2.2.length (ints x.2.2)) (RsInv l) (fun x=>x.2.1) ?_ (0,l.length,[]) ⟨Nat.zero_le _,by simp,Nat.zero_le _,by simp⟩
  rintro⟨off,n,W⟩ ⟨h1,h2,h3,h4⟩
  simp only at h1 h2 h3 h4 ⊢
  by_cases hn:0<n
  ·have hne:l.drop off≠[]:=by
     intro e
     have:=congrArg List.length e
     simp only[List.length_drop,List.length_nil]at this
     omega
   have hp:=nx_pos hne
   have hr:=nx_rng hne
   rw[List.length_drop]at hp
   have hs:=f7_ hne
   rw[List.drop_drop]at hs
   have hx:=byts_piece l off n h2
   refine .inl ⟨((nx (l.drop off)).2.1+off,n-(nx (l.drop off)).2.1,W++[(((nx (l.drop off)).1:Nat):Int)]),⟨by simp only;omega,by simp only;omega,by simp only[List.length_append,List.length_cons,List.length_nil];omega,?_⟩,by simp only;omega,?_⟩
   ·simp only
    rw[←h4,hs,List.append_assoc,Nat.add_comm]
    rfl
   ·simp only
    rw[List.length_append,←ints_put]
    refine⟨_,_,_,_,_,z3_,by decide,rs_1 l off n W (nx (l.drop off)).1 (nx (l.drop off)).2.1,?_⟩
    simp only[z7_,cells5,mulS_one,hx,m9_,ints_length,List.length_drop,and_true,true_and,decide_eq_true_eq]
    repeat' apply And.intro
    all_goals first|omega|rfl
  ·have e:off=l.length:=by omega
   subst e
   rw[List.drop_length,c2_]at h4
   have e2:W=z8_ (z1_ l):=by rw[←h4];simp[z8_]
   refine .inr ⟨by simp,?_⟩
   rw[←e2]
   refine⟨_,_,_,_,_,z3_,by decide,rs_2 l l.length n W 0 0,?_⟩
   simp only[z7_,and_true,decide_eq_false_iff_not]
   omega
def rsFi:Fi:=⟨[(4,3)],[3,4],[0,1]⟩
noncomputable def rsLp (l:List UInt8):List (Nat×Lp):=[(3,⟨z2_ p_ 24 3,rsFi,rsG l 0 l.length 0 [],.exit 0,rsE l (z8_ (z1_ l)).length (ints (z8_ (z1_ l)))⟩)]
noncomputable def rsigns_X (l:List UInt8)(h_:List (Nat×Bool)):=y0_ p_ 24 (z9_ p_ clR ⟨true,bs h_++([])⟩ (y1_ (rsLp l)) 60 24 ([.c (str l)]) ([]))
theorem rsigns_1 (l:List UInt8):rsigns_X l []=some ((AV.fs 1 ((z8_ (z1_ l)).length) (ints (z8_ (z1_ l)))),[((l.length:Nat)≤((140737488355328:Nat))),
 ((z2_ p_ (24:FuncId) (3:Nat):Go.Code))=(z2_ p_ (24:FuncId) (3:Nat)),
 ((rsG l (0:Nat) l.length (0:Nat) []:St))=(rsG l (0:Nat) l.length (0:Nat) [])]):=by kernel_rfl
theorem rsigns_all (l:List UInt8)(h1:l.length≤1000000000):∃(h:Hints) (p:List Prop),y0_ p_ 24 (z9_ p_ clR h (y1_ (rsLp l)) 60 24 ([.c (str l)]) ([]))=some (.fs 1 (z8_ (z1_ l)).length (ints (z8_ (z1_ l))),p)∧z7_ p:=by
  have eR:=rsigns_1 l
  refine⟨_,_,eR.trans (congrArg (fun r=>some (r,_)) ?_),?_⟩
  ·rfl
  ·simp only[z7_,and_true,true_and]
   repeat' apply And.intro
   all_goals first|omega|rfl
theorem rsigns_ok:x8_ p_ 24 i8_:=by
  refine w1_ mixed clR_ok fun args r q hs hq=>?_
  unfold i8_ at hs
  split at hs
  ·rename_i s
   simp only[oi_]at hs
   obtain⟨rfl,rfl⟩:=hs
   obtain⟨⟨⟨l⟩⟩,rfl⟩:∃b:ByteArray,b=s:=⟨s,rfl⟩
   obtain⟨h,p,e,hp⟩:=rsigns_all l hq.1
   exact⟨_,_,_,_,y3_ z3_ (show rsFi.m.Nodup by decide) (rs_loop l hq.1),e,hp⟩
  ·simp at hs
theorem jn_loop (L:List Int)(hl:L.length≤1000000000)(hL:∀n∈L,-9223372036854775808≤n∧n≤9223372036854775807):Tri Ext0 p_ (.loop (z2_ p_ 17 3)) (jnG L 0 0 []) (.exit 0) (jnG L L.length (join (sgL L)).length (z6_ (join (sgL L)))):=by
  have key:=c3_ mixed clR_ok (fun i=>jnG L i (join (sgL (L.take i))).length (z6_ (join (sgL (L.take i))))) L.length (e:= .exit 0) (R:=jnG L L.length (join (sgL L)).length (z6_ (join (sgL L)))) (b:=z2_ p_ 17 3) (by simp) ?_ ?_ 0 (Nat.zero_le _)
  ·exact key
  ·intro i hi
   have h1:=join_len (sgL (L.take i))
   have h2:(sgL (L.take i)).length=i:=by simp[sgL];omega
   have h4:=(U8.l8_ (sgn (L.getD i 0)))
   have h5:=ints_headD L i hi
   have hc:=hL (L.getD i 0) (by simp[List.getD,hi])
   try simp only
   rw[join_next L i hi]
   generalize join (sgL (L.take i))=out at*
   rw[List.length_append,←byts_put]
   refine⟨_,_,_,_,_,z3_,by decide,jn_1 L i out (L.getD i 0),?_⟩
   simp only[z7_,h5,x5_,x2_,ints_length,List.length_drop,and_true,true_and,decide_eq_true_eq,decide_eq_false_iff_not,q8_,q9_]
   repeat' apply And.intro
   all_goals first|omega|exact h7_ _|rfl
  ·try simp only[List.take_length]
   exact⟨_,_,_,_,_,z3_,by decide,jn_2 L L.length (join (sgL L)) 0,by simp[z7_]⟩
def jnFi:Fi:=⟨[(3,5)],[0,3,4],[0]⟩
noncomputable def jnLp (L:List Int):List (Nat×Lp):=[(3,⟨z2_ p_ 17 3,jnFi,jnG L 0 0 [],.exit 0,jnG L L.length (join (sgL L)).length (z6_ (join (sgL L)))⟩)]
noncomputable def rjoin_X (L:List Int)(h_:List (Nat×Bool)):=y0_ p_ 17 (z9_ p_ clR ⟨true,bs h_++([(19,⟨.c (str (join (sgL L))),none⟩)])⟩ (y1_ (jnLp L)) 60 17 ([.fs 1 L.length (ints L)]) ([]))
theorem rjoin_1 (L:List Int):rjoin_X L []=some ((AV.c ((str (join (sgL L))))),[((z2_ p_ (17:FuncId) (3:Nat):Go.Code))=(z2_ p_ (17:FuncId) (3:Nat)),
 ((jnG L (0:Nat) (0:Nat) []:St))=(jnG L (0:Nat) (0:Nat) []),
 (((join (sgL L)).length+(0:Nat):Nat)≤((z6_ (join (sgL L))).length)),
 u2_ (List.take (join (sgL L)).length (List.drop (0:Nat) (z6_ (join (sgL L))))),
 ((w2_ (List.take (join (sgL L)).length (List.drop (0:Nat) (z6_ (join (sgL L))))):List UInt8))=(join (sgL L))]):=by kernel_rfl
theorem rjoin_all (L:List Int):∃(h:Hints) (p:List Prop),y0_ p_ 17 (z9_ p_ clR h (y1_ (jnLp L)) 60 17 ([.fs 1 L.length (ints L)]) ([]))=some (.c (str (join (sgL L))),p)∧z7_ p:=by
  have eR:=rjoin_1 L
  refine⟨_,_,eR.trans (congrArg (fun r=>some (r,_)) ?_),?_⟩
  ·rfl
  ·simp only[z7_,byts_all,m9_,Nat.add_zero,x2_,and_true,true_and]
   repeat' apply And.intro
   all_goals first|omega|exact h7_ _|rfl
def joinSpec:Spec
  | [.fs s n l]=>some (.c (str (join (sgL (unints l)))),[s=1,l=ints (unints l),n=(unints l).length,n≤1000000000,s9_ (unints l)])
  |_=>none
theorem rjoin_ok:x8_ p_ 17 joinSpec:=by
  refine w1_ mixed clR_ok fun args r q hs hq=>?_
  unfold joinSpec at hs
  split at hs
  ·rename_i s n l
   simp only[oi_]at hs
   obtain⟨rfl,rfl⟩:=hs
   obtain⟨rfl,h1,h2,h3,h4,_⟩:=hq
   generalize unints l=L at h1 h2 h4
   subst h1 h2
   obtain⟨h,p,e,hp⟩:=rjoin_all L
   exact⟨_,_,_,_,y3_ z3_ (show jnFi.m.Nodup by decide) (jn_loop L h3 h4),e,hp⟩
  ·simp at hs
end Go.Proofs.YtmjldphagbobpaaGreatDoor
