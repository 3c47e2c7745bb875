/- For any two rows of numbers and every number the law IdnaGone answers true: a sign that Map leaves out changes no name (rows that are too long are answered by the small case alone, as the law says), and nothing that was handed in has changed; the two tables of package utf8 are as the text of the program lays them: the card ties them. -/
import Derived.Test.YtmjldphagbobpaaDoorTextRow
import Derived.Test.YtmjldphagbobpaaDoorIdnN
import Derived.Test.YtmjldphagbobpaaDoorLevR
set_option linter.unusedVariables false
set_option linter.unusedSimpArgs false
namespace Go.Proofs.YtmjldphagbobpaaDoor.idnaGone
open Go.ChangeShapes Go.WideShapes Go.ChangeAt Go.RowKit U8
open Go.ChangeMaps (open_string shut_string)
theorem laidOut:laidOutB Tryd.prog=true:=by kernel_rfl
theorem walk (a0:Option Addr)(len0 cap0:Nat)(z0:List Int)(a1:Int)(a2:Option Addr)(len2 cap2:Nat)(z2:List Int)(w:World)(w0:IsRow .i64 w a0 len0 cap0 z0)(w1:(Lit.int .i64 a1).wf=true)(w2:IsRow .i64 w a2 len2 cap2 z2)(hgl:GlOK Tryd.prog w):
    Calls Tryd.prog 8 #[.slice a0 len0 cap0,.int .i64 a1,.slice a2 len2 cap2] w fun e w'=>e= .returned (.bool true)∧Below w.heap.size w w':=by
  obtain⟨L,e,hm,hL,hv⟩:=row_ints (P:=Tryd.prog) w0
  obtain⟨M,e2,hm2,hM,hv2⟩:=row_ints (P:=Tryd.prog) w2
  have h:=i64_wf w1
  exact law_of mixed clIl_ok hgl rfl (args3 hv .c hv2) (gone_law L M a1 h.1 h.2 hL hM)
set_option maxRecDepth 100000 in
theorem lifted (os:Os)(started:os.Started)(H:Type)(enc:TypeId×Value→H):
    ReturnsInHanded {} Tryd.checked os 8 .any (fun w args=>(Rows.idnaGoneSpec.pre enc Tryd.prog Tryd.f8 [] false w args∧laidMetH Tryd.prog tabL w)∧sizedMet enc Tryd.prog Tryd.f8 (OpenSpec.ofChange Rows.idnaGoneSpec) false w args)
      (Rows.idnaGoneSpec.post enc Tryd.prog Tryd.f8 false true false false):=by
  refine returnsInHanded_of_change_and (C:=Tryd.checked) (X:=fun w _=>laidMetH Tryd.prog tabL w) (fun _ _ _ hh h=>h.of_heap hh) own started (by kernel_rfl) Tryd.func8
    (ChangeSpec.witness_shaped (enc:=enc) (C:=Tryd.checked) (os:=os) (X:=fun w _=>laidMetH Tryd.prog tabL w) false (tabW os) #[.slice none 0 0,.int .i64 0,.slice none 0 0] 8 rfl (World.shaped_of_RefB (by kernel_rfl) (by kernel_rfl)) (by kernel_rfl) (by kernel_rfl) (by kernel_rfl) (tab_met os _)) ?_
  intro W base args ds gs before hval0 hW _ _ hL _
  have hval:∀(j:Nat) t v,Tryd.f8.params[j]? =some t→args[j]? =some v→Value.okWide Tryd.prog W .any base t v:=hval0
  have hW':=hW
  obtain⟨p,q,hA0,hV,rfl,hfz,hnd⟩:=hW
  have hA:DataW.TrodAll enc Tryd.prog W 0 (fun _=>true) true Tryd.f8.params.toList args.toList ds p:=hA0
  rw[Tryd.params8]at hA hval
  obtain⟨v0,vs0,d0,ds0,p0,q0,hargs,rfl,rfl,h0,r0⟩:=trodAll_cons hA
  obtain⟨v1,vs1,d1,ds1,p1,q1,rfl,rfl,rfl,h1,r1⟩:=trodAll_cons r0
  obtain⟨v2,vs2,d2,ds2,p2,q2,rfl,rfl,rfl,h2,r2⟩:=trodAll_cons r1
  obtain⟨rfl,rfl,rfl⟩:=trodAll_nil r2
  obtain rfl:args= #[v0,v1,v2]:=by cases args;simp_all
  obtain⟨rfl,rfl⟩:=trodVars_none hV
  obtain⟨a0,len0,cap0,rfl⟩:=okWide_slice Tryd.underlying27 (hval 0 27 v0 rfl rfl)
  have k0:=h0
  have lt0:∀x∈p0,x.block<W.heap.size:=by obtain⟨m,hm⟩:=k0;exact DataW.trod_lt m _ _ _ hm
  obtain⟨z0,w0⟩:∃zs,IsRow .i64 W a0 len0 cap0 zs:=by
    obtain⟨fuel,hf⟩:=h0
    rcases open_ints Tryd.underlying27 Tryd.underlying3 (by kernel_rfl) hf with⟨hcs,_⟩|⟨x,l,c,zs,hcs,_,hl,hm,hz,_,hcell,hwz⟩
    ·simp[Value.cells]at hcs
     obtain⟨rfl,rfl,rfl⟩:=hcs
     exact⟨[],.inl ⟨rfl,rfl,rfl,rfl⟩⟩
    ·simp[Value.cells]at hcs
     obtain⟨rfl,rfl,rfl⟩:=hcs
     exact⟨zs,.inr ⟨_,rfl,hl,hm,by simpa using hz,hcell,hwz⟩⟩
  obtain⟨a1,rfl,rfl,rfl,w1⟩:=open_int Tryd.underlying3 (hval 1 3 v1 rfl rfl) h1
  obtain⟨a2,len2,cap2,rfl⟩:=okWide_slice Tryd.underlying27 (hval 2 27 v2 rfl rfl)
  have k2:=h2
  have lt2:∀x∈p2,x.block<W.heap.size:=by obtain⟨m,hm⟩:=k2;exact DataW.trod_lt m _ _ _ hm
  obtain⟨z2,w2⟩:∃zs,IsRow .i64 W a2 len2 cap2 zs:=by
    obtain⟨fuel,hf⟩:=h2
    rcases open_ints Tryd.underlying27 Tryd.underlying3 (by kernel_rfl) hf with⟨hcs,_⟩|⟨x,l,c,zs,hcs,_,hl,hm,hz,_,hcell,hwz⟩
    ·simp[Value.cells]at hcs
     obtain⟨rfl,rfl,rfl⟩:=hcs
     exact⟨[],.inl ⟨rfl,rfl,rfl,rfl⟩⟩
    ·simp[Value.cells]at hcs
     obtain⟨rfl,rfl,rfl⟩:=hcs
     exact⟨zs,.inr ⟨_,rfl,hl,hm,by simpa using hz,hcell,hwz⟩⟩
  clear hA0 hval0
  refine(walk a0 len0 cap0 z0 a1 a2 len2 cap2 z2 W w0 w1 w2 (glOK_laid hL)).mono fun e W' ⟨he,bel⟩=>?_
  subst he
  exact⟨_,rfl,_,_,_,[],_,[],hW',trodAll_mk1 (shut_bool Tryd.underlying4 _),(trodAll_cons_mk (Below.trod laidOut (by kernel_rfl) (of_decide_eq_true (by kernel_rfl)) k0 bel lt0) (trodAll_cons_mk (shut_int Tryd.underlying3 w1) (trodAll_cons_mk (Below.trod laidOut (by kernel_rfl) (of_decide_eq_true (by kernel_rfl)) k2 bel lt2) trodAll_mk0))),rfl,bel.frame _,fun h=>by cases h⟩
theorem over:Rows.IdnaGoneSaid:=
  OpenClaim.holds_of_wide 8 Tryd.f8 rfl rfl rfl rfl rfl rfl rfl ⟨rfl,rfl,rfl,rfl,rfl⟩ rfl rfl rfl rfl rfl (by kernel_rfl) Tryd.func8 (by kernel_rfl)
    (of_decide_eq_true (by kernel_rfl)) (by unfold Func.isWrapper;first|(rw[if_pos (by decide+kernel)];kernel_rfl)|(rw[if_neg (by decide+kernel)];exact⟨rfl,rfl⟩))
    (fun os started H enc _=>lifted os started H enc)
theorem proved:Rows.IdnaGoneCardSaid:=
  Claim7.holds_tied_plain_at .later [] _ true Rows.idnaGoneCard.stood.harness false
    over (fun _ h=>by cases h) (by kernel_rfl) (fun _ h=>by cases h) idnaGone_row_tie rfl ⟨rfl,rfl⟩ (by kernel_rfl) rfl
    (fun f fn hf hfn=>by
      obtain rfl:f=8:=Option.some.inj ((show Tryd.prog.funcNamed Rows.idnaGoneRow.func=some 8 by kernel_rfl).symm.trans hf) |>.symm
      obtain rfl:fn=Tryd.f8:=(Option.some.inj (Tryd.func8.symm.trans hfn)).symm
      exact⟨by kernel_rfl,fun j t ht=>by
        rw[Tryd.params8]at ht
        have hm:t∈[27,3,27]:=by simpa using Array.mem_of_getElem? ht
        have hall:([27,3,27].all fun u=> !Tryd.prog.wantsStandIn u)=true:=by kernel_rfl
        exact(show Tryd.prog.wantsStandIn t=false by simpa using List.all_eq_true.1 hall t hm)⟩)
    (by kernel_rfl)
end Go.Proofs.YtmjldphagbobpaaDoor.idnaGone
