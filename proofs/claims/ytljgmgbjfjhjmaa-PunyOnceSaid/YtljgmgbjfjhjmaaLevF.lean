/- Every operation that the evaluator carries out does what it says. -/
import Derived.Test.YtljgmgbjfjhjmaaLevEb
import Derived.Lib.OthersKept
namespace Go.Proofs.Ytljgmgbjfjhjmaa
open Go.RowKit
set_option linter.unusedSimpArgs false
set_option linter.unusedVariables false

variable [Gv] {P : Program} {w : World} {ι : Pl} {hp : Heap}

set_option maxHeartbeats 1000000 in
theorem op_ok {ev : Operand → AV} {ρ : Operand → Value} {o : Oper} {cks : List Ck} {av : AV} {cmd : Cmd} (hρ : ∀ x ∈ o.op.operands, VR P w ι true (ev x) (ρ x)) (hh : HpRel P w ι hp)
    (h : aOp P ev hp o = some (cks, av, cmd)) (hc : Ck.conj cks) : OpPost P w ι ((execOp ρ o).run P w) av cmd hp := by
  unfold aOp at h
  split at h
  · rename_i x ho
    simp only [Option.some.injEq, Prod.mk.injEq] at h
    obtain ⟨rfl, rfl, rfl⟩ := h
    exact .pure_ hh (by simp [execOp, ho]) (hρ x (by simp [ho, Op.operands]))
  · rename_i x ho
    simp only [Option.some.injEq, Prod.mk.injEq] at h
    obtain ⟨rfl, rfl, rfl⟩ := h
    exact .pure_ hh (by simp [execOp, ho]) (hρ x (by simp [ho, Op.operands]))
  · rename_i c a b ho
    have hcc := hρ c (by simp [ho, Op.operands])
    split at h
    · rename_i hb
      simp only [Option.some.injEq, Prod.mk.injEq] at h
      obtain ⟨rfl, rfl, rfl⟩ := h
      rw [hb] at hcc
      exact .pure_ hh (by simp [execOp, ho, hcc.cInv, asBool]) (hρ a (by simp [ho, Op.operands]))
    · rename_i hb
      simp only [Option.some.injEq, Prod.mk.injEq] at h
      obtain ⟨rfl, rfl, rfl⟩ := h
      rw [hb] at hcc
      exact .pure_ hh (by simp [execOp, ho, hcc.cInv, asBool]) (hρ b (by simp [ho, Op.operands]))
    · simp at h
  · rename_i op t x y yt ho
    have hx := hρ x (by simp [ho, Op.operands])
    have hy := hρ y (by simp [ho, Op.operands])
    split at h
    · rename_i a b ha hb
      rw [ha] at hx
      rw [hb] at hy
      split at h
      · rename_i v hv
        simp only [Option.some.injEq, Prod.mk.injEq] at h
        obtain ⟨rfl, rfl, rfl⟩ := h
        refine OpPost.of_value (r := do eqGuard op t x y a b; binOp op t a b) (by simp only [execOp, ho, hx.cInv, hy.cInv]) (sBin_run w op t x y a b v hv) (Ext.refl _ _) hh .c ⟨rfl, rfl⟩
      · split at h
        · rename_i k v hv
          simp only [Option.some.injEq, Prod.mk.injEq] at h
          obtain ⟨rfl, rfl, rfl⟩ := h
          exact OpPost.of_value (r := do eqGuard op t x y a b; binOp op t a b) (by simp only [execOp, ho, hx.cInv, hy.cInv]) (fBin_run w op t x y a b v k hv hc.1) (Ext.refl _ _) hh .c ⟨rfl, rfl⟩
        · exact fallback_ok hρ hh h
    · simp at h
  · rename_i t x i ho
    have hx := hρ x (by simp [ho, Op.operands])
    have hi := hρ i (by simp [ho, Op.operands])
    split at h
    · rename_i s k n hs ha hb
      rw [ha] at hx
      rw [hb] at hi
      simp only [Option.some.injEq, Prod.mk.injEq] at h
      obtain ⟨rfl, rfl, rfl⟩ := h
      obtain ⟨h0, h1, _⟩ := hc
      exact OpPost.of_value (by simp only [execOp, ho, hx.cInv, hi.cInv]) (index_ok (k := k) (isStr_spec hs) h0 h1) (Ext.refl _ _) hh .c ⟨rfl, rfl⟩
    · exact fallback_ok hρ hh h
  · rename_i t x lo hi mx ho
    split at h
    · have hx := hρ x (by simp [ho, Op.operands])
      have hlo : ∀ y ∈ lo, VR P w ι true (ev y) (ρ y) := fun y hy => hρ y (by simp [ho, Op.operands]; exact .inr (.inl hy))
      have hhi : ∀ y ∈ hi, VR P w ι true (ev y) (ρ y) := fun y hy => hρ y (by simp [ho, Op.operands]; exact .inr (.inr hy))
      have hex : execOp ρ o = (do pure (Next.value (← Instr.sliceAt t (ρ x) (lo.map ρ) (hi.map ρ) none))) := by simp only [execOp, ho, Option.map_none]
      unfold sliceA at h
      split at h
      · rename_i hs
        split at h
        · rename_i s ha
          rw [ha] at hx
          split at h
          · rename_i l hh' hb
            simp only [Option.some.injEq, Prod.mk.injEq] at h
            obtain ⟨rfl, rfl, rfl⟩ := h
            obtain ⟨h0, h1, h2, _⟩ := hc
            obtain ⟨b1, b2⟩ := lohi_none hlo hhi hb
            rw [hx.cInv] at hex
            exact OpPost.of_value hex (slice_string_ok (isStr_spec hs) b1 b2 h0 h1 h2) (Ext.refl _ _) hh .c ⟨rfl, rfl⟩
          · simp at h
        · simp at h
      · split at h
        · rename_i e he
          obtain ⟨ht, hz0, i', hi', _⟩ := elemOf_spec he
          split at h
          · rename_i b off n ha
            rw [ha] at hx
            split at h
            · rename_i B l hh' hB hb
              split at h
              · rename_i hBe
                simp only [Option.some.injEq, Prod.mk.injEq] at h
                obtain ⟨rfl, rfl, rfl⟩ := h
                obtain ⟨h0, h1, h2, _⟩ := hc
                simp only [ck] at h0 h1 h2
                obtain ⟨b1, b2⟩ := lohi_none hlo hhi hb
                obtain ⟨a, cap, hv, hn, hr⟩ := hx.slCut (hh.notDead hB) (hh.live hB) (lo := l.toNat) (hi := hh'.toNat) (by omega) (by omega)
                rw [hv] at hex
                rw [hBe] at hr
                exact OpPost.of_value hex (slice_slice_ok ht ⟨i', hi'⟩ b1 b2 h0 h1 h2 hn) (Ext.refl _ _) hh hr ⟨rfl, rfl⟩
              · simp at h
            · simp at h
          · rename_i s n L ha
            rw [ha] at hx
            split at h
            · rename_i l hh' hb
              split at h
              · rename_i hs
                simp only [Option.some.injEq, Prod.mk.injEq] at h
                obtain ⟨rfl, rfl, rfl⟩ := h
                obtain ⟨h0, h1, h2, _⟩ := hc
                simp only [ck] at h0 h1 h2
                obtain ⟨b1, b2⟩ := lohi_none hlo hhi hb
                obtain ⟨a, cap, hv, hn, hr⟩ := hx.fsCut (lo := l.toNat) (hi := hh'.toNat) (by omega) (by omega)
                rw [hv] at hex
                rw [mulS_eq, mulS_eq]
                rw [hs] at hr ⊢
                exact OpPost.of_value hex (slice_slice_ok ht ⟨i', hi'⟩ b1 b2 h0 h1 h2 hn) (Ext.refl _ _) hh hr ⟨rfl, rfl⟩
              · simp at h
            · simp at h
          · simp at h
        · simp at h
    · simp at h
  · rename_i t x i ho
    obtain ⟨rfl, r, hr, hv⟩ := idxAddr_ok hh (hρ x (by simp [ho, Op.operands])) (hρ i (by simp [ho, Op.operands])) h hc
    exact OpPost.of_value (by simp only [execOp, ho]) hr (Ext.refl _ _) hh hv ⟨rfl, rfl⟩
  · rename_i t x ho
    have hx := hρ x (by simp [ho, Op.operands])
    have hex : execOp ρ o = (do pure (Next.value (← Instr.loadAt t (ρ x)))) := by simp only [execOp, ho]
    split at h
    · rename_i b off ha
      rw [ha] at hx
      split at h
      · rename_i B hB
        cases hld : ldAV P t (B.cells.drop off) with
        | none => rw [hld] at h; simp at h
        | some r =>
          obtain ⟨ks, v⟩ := r
          rw [hld] at h
          simp only [Option.map_some, Option.some.injEq, Prod.mk.injEq] at h
          obtain ⟨rfl, rfl, rfl⟩ := h
          generalize hρx : ρ x = vx at hx hex
          cases hx with
          | ptDead hd => exact absurd hd (hh.notDead hB)
          | pt hg hh0 =>
            rename_i g _ _ _
            obtain ⟨cur, fz, hcur, hfz, hlen, hone, hrel, hcell⟩ := (hh.live hB).cells hg hh0
            obtain ⟨u, hu1, hu2⟩ := run_load_row (P := P) (w := w) (ι := ι) (g := g) (off := off) (us := fun j => cur.getD (off + j) undef)
              ⟨fun j hj => by simp only [List.length_drop] at hj; exact hcell _ (by omega), fun j hj => by simp only [List.length_drop] at hj; exact hone _ (by omega),
                fun j hj => by simp only [List.length_drop] at hj; rw [drop_getD]; exact (hrel _ (by omega)).open_⟩ hld hc
            exact OpPost.of_value hex hu1 (Ext.refl _ _) hh hu2 ⟨rfl, rfl⟩
      · simp at h
    · rename_i l ha
      rw [ha] at hx
      cases hld : ldAV P t l with
      | none => rw [hld] at h; simp at h
      | some r =>
        obtain ⟨ks, v⟩ := r
        rw [hld] at h
        simp only [Option.map_some, Option.some.injEq, Prod.mk.injEq] at h
        obtain ⟨rfl, rfl, rfl⟩ := h
        generalize hρx : ρ x = vx at hx hex
        cases hx with
        | fp hg hno hcl ho1 hr =>
          obtain ⟨u, hu1, hu2⟩ := run_load_row (P := P) (w := w) (ι := ι) ⟨hcl, ho1, fun j hj => (hr j hj).open_⟩ hld hc
          exact OpPost.of_value hex hu1 (Ext.refl _ _) hh hu2 ⟨rfl, rfl⟩
    · simp at h
  · rename_i t a x ho
    obtain ⟨w', hr, he, hh', rfl⟩ := store_ok hh (hρ a (by simp [ho, Op.operands])) (hρ x (by simp [ho, Op.operands])) h hc
    exact ⟨.skip, w', ι, undef, by simp [execOp, ho, hr], .inr ⟨rfl, rfl⟩, he, hh', .any, by unfold storeA at h; (repeat' split at h) <;> first | (simp at h; done) | (simp only [Option.some.injEq, Prod.mk.injEq] at h; rw [← h.2.2]; trivial)⟩
  · rename_i args argTypes ho
    split at h
    · rename_i x t ha ht
      have ha' := toList_one ha
      have ht' := toList_one ht
      subst ha'; subst ht'
      obtain ⟨rfl, u, hu, hv⟩ := len_ok (ty := o.type) hh (hρ x (by simp [ho, Op.operands, Call.operands])) h
      exact OpPost.pure_ hh (by simp [execOp, ho, resolve, invoke, builtin, hu]) hv
    · simp at h
  · rename_i args argTypes ho
    split at h
    · rename_i s x t u ha ht
      have ha' := toList_two ha
      have ht' := toList_two ht
      subst ha'; subst ht'
      split at h
      · simp at h
      · rename_i d hd hu
        obtain ⟨v, w', ι', hr, he, hh', hv, hq⟩ := append_ok (ty := o.type) hu (fun k hk => hd k hk) hh (hρ s (by simp [ho, Op.operands, Call.operands])) (hρ x (by simp [ho, Op.operands, Call.operands])) h hc
        exact ⟨.value v, w', ι', v, by simp [execOp, ho, resolve, invoke, builtin, hr], .inl rfl, he, hh', hv, hq⟩
      · simp at h
    · simp at h
  · rename_i args argTypes ho
    split at h
    · rename_i s x t u ha ht
      have ha' := toList_two ha
      have ht' := toList_two ht
      subst ha'; subst ht'
      obtain ⟨v, w', ι', hr, he, hh', hv, hq⟩ := copy_ok (u := u) (ty := o.type) hh (hρ s (by simp [ho, Op.operands, Call.operands])) (hρ x (by simp [ho, Op.operands, Call.operands])) h hc
      exact ⟨.value v, w', ι', v, by simp [execOp, ho, resolve, invoke, builtin, hr], .inl rfl, he, hh', hv, hq⟩
    · simp at h
  · rename_i args argTypes ho
    split at h
    · rename_i s x t u ha ht
      have ha' := toList_two ha
      have ht' := toList_two ht
      subst ha'; subst ht'
      obtain ⟨v, w', ι', hr, he, hh', hv, hq⟩ := ustr_ok (u := u) (ty := o.type) hh (hρ s (by simp [ho, Op.operands, Call.operands])) (hρ x (by simp [ho, Op.operands, Call.operands])) h hc
      exact ⟨.value v, w', ι', v, by simp [execOp, ho, resolve, invoke, builtin, hr], .inl rfl, he, hh', hv, hq⟩
    · simp at h
  · rename_i s d x ho
    split at h
    · rename_i r hr
      cases h
      obtain ⟨v, w', ι', hr, he, hh', hv, hq⟩ := conv_ok hh (hρ x (by simp [ho, Op.operands])) hr hc
      exact OpPost.of_value (by simp only [execOp, ho]) hr he hh' hv hq
    · split at h
      · rename_i v hv
        simp only [Option.some.injEq, Prod.mk.injEq] at h
        obtain ⟨rfl, rfl, rfl⟩ := h
        exact OpPost.of_value (by simp only [execOp, ho]) (fCnv_run (hρ x (by simp [ho, Op.operands])) hv) (Ext.refl _ _) hh .c ⟨rfl, rfl⟩
      · exact fallback_ok hρ hh h
  · rename_i t len parts ho
    split at h
    · rename_i e he
      split at h
      · rename_i z hz
        split at h
        · rename_i hcond
          split at h
          · rename_i cs hcs
            simp only [Option.some.injEq, Prod.mk.injEq] at h
            obtain ⟨rfl, rfl, rfl⟩ := h
            rw [mulS_eq] at hcond
            obtain ⟨v, w', ι', hr, he', hh', hv, hq⟩ := build_ok (len := len) (vparts := parts.map fun (i, x) => (i, ρ x)) hh he hz hcond.1 hcond.2 (by simp)
              (fun k hk => by
                simp only [List.length_map] at hk
                refine ⟨(parts.toList[k]).1, ev (parts.toList[k]).2, ρ (parts.toList[k]).2, by rw [List.getElem?_map, List.getElem?_eq_getElem hk]; rfl, by rw [Array.toList_map, List.getElem?_map, List.getElem?_eq_getElem hk]; rfl, ?_⟩
                exact hρ _ (by simp only [ho, Op.operands, List.mem_toArray, List.mem_map]; exact ⟨_, List.getElem_mem hk, rfl⟩)) (fillQ_fillA hcs)
            exact OpPost.of_value (by simp only [execOp, ho]) hr he' hh' hv hq
          · simp at h
        · simp at h
      · simp at h
    · simp at h
  · rename_i t l c ho
    split at h
    · rename_i e k l' k' c' he hl hcc
      have hL := hρ l (by simp [ho, Op.operands])
      have hC := hρ c (by simp [ho, Op.operands])
      rw [hl] at hL
      rw [hcc] at hC
      split at h
      · rename_i z hz
        split at h
        · rename_i hzl
          simp only [Option.some.injEq, Prod.mk.injEq] at h
          obtain ⟨rfl, rfl, rfl⟩ := h
          obtain ⟨h0, h1, h2, h3, _⟩ := hc
          obtain ⟨v, w', ι', hr, he', hh', hv, hq⟩ := make_ok (k := k) (k' := k') hh he hz hzl h0 h1 h2 h3
          exact OpPost.of_value (by simp only [execOp, ho, hL.cInv, hC.cInv]) hr he' hh' hv hq
        · simp at h
      · simp at h
    · simp at h
  · exact fallback_ok hρ hh h

omit [Gv] in
theorem withCells_self (cmd : Cmd) : cmd.withCells cmd.cells = cmd := by cases cmd <;> rfl

omit [Gv] in
theorem useHint_ok {sym : Bool} {h : Option Hint} {r : Res} {v : AV} {cmd : Cmd} {p : List Prop} (e : useHint sym h r = some (v, cmd, p)) (hp' : allP p) : Ck.conj r.1 ∧ v = r.2.1 ∧ cmd = r.2.2 := by
  unfold useHint at e
  split at e
  · split at e
    · simp only [Option.some.injEq, Prod.mk.injEq] at e
      obtain ⟨rfl, rfl, rfl⟩ := e
      exact ⟨Ck.conj_of_props _ hp', rfl, rfl⟩
    · split at e
      · rename_i hall
        simp only [Option.some.injEq, Prod.mk.injEq] at e
        obtain ⟨rfl, rfl, _⟩ := e
        exact ⟨Ck.conj_of_all _ hall, rfl, rfl⟩
      · simp at e
  · split at e
    · simp only [Option.some.injEq, Prod.mk.injEq] at e
      obtain ⟨rfl, rfl, rfl⟩ := e
      obtain ⟨h1, h2⟩ := allP_append hp'
      exact ⟨Ck.conj_of_props _ h1, (avEq_eq h2.1).symm, rfl⟩
    · simp only [Option.some.injEq, Prod.mk.injEq] at e
      obtain ⟨rfl, rfl, rfl⟩ := e
      obtain ⟨h1, h2⟩ := allP_append hp'
      exact ⟨Ck.conj_of_props _ h1, (avEq_eq h2.1).symm, by rw [← h2.2.1, withCells_self]⟩

omit [Gv] in
theorem wrap_in (k : IntKind) (z : Int) (h1 : k.min ≤ z) (h2 : z ≤ k.max) : k.wrap z = z := by
  cases k <;> simp only [IntKind.min, IntKind.max, IntKind.signed, IntKind.bits] at h1 h2 <;> simp only [IntKind.wrap, IntKind.bits, IntKind.signed] <;> simp at h1 h2 ⊢ <;> first | omega | (split <;> omega)

omit [Gv] in
/-- An operation seen with bounds is one. -/
theorem aOpS0_op {hs : Hints} {ev : Operand → AV} {hp : Heap} {o : Oper} {cks : List Ck} {av : AV} {cmd : Cmd} (h : aOpS0 P hs ev hp o = some (cks, av, cmd)) (hc : Ck.conj cks) : (∃ it, o.op = .next it true ∧ nextA hp (ev it) (dirOf (hintFor hs o.dst)) = some (cks, av, cmd)) ∨ (∃ cks', fallback P ev o = some (cks', av, cmd)) ∨ ∃ cks', aOpX P ev hp o = some (cks', av, cmd) ∧ Ck.conj cks' := by
  unfold aOpS0 at h
  split at h
  · rename_i it ho
    exact .inl ⟨it, ho, h⟩
  · split at h
    · exact .inr (.inl ⟨_, h⟩)
    · exact .inr (.inr ⟨_, h, hc⟩)
  refine .inr (.inr ?_)
  split at h
  · split at h
    · rename_i op _ x y _ ho
      split at h
      · rename_i k a k' b ha hb
        split at h
        · rename_i z hz
          split at h
          · rename_i hk
            subst hk
            simp only [Option.some.injEq, Prod.mk.injEq] at h
            obtain ⟨rfl, rfl, rfl⟩ := h
            obtain ⟨h1, h2, _⟩ := hc
            have hw := wrap_in k z h1 h2
            refine ⟨[], ?_, trivial⟩
            have hx : aOp2 P ev hp o = none := by unfold aOp2; rw [ho]; simp only [ha, hb]; split <;> rfl
            unfold aOpX
            rw [hx]
            unfold aOp
            rw [ho]
            simp only [ha, hb]
            unfold arith at hz
            split at hz <;> simp only [Option.some.injEq, reduceCtorEq] at hz <;> subst hz <;> simp [sBin, hw]
          · simp at h
        · exact ⟨_, h, hc⟩
      · rename_i a b ha hb
        split at h
        · simp only [Option.some.injEq, Prod.mk.injEq] at h
          obtain ⟨rfl, rfl, rfl⟩ := h
          obtain ⟨h1, _⟩ := hc
          refine ⟨[], ?_, trivial⟩
          have h1' : ¬ ((a.size + b.size : Nat) : Int) > IntKind.i64.max := by
            have h2 : (sb a).length + (sb b).length ≤ 9223372036854775807 := h1
            rw [sb_size, sb_size] at h2
            simp [IntKind.max, IntKind.signed, IntKind.bits]; omega
          have he : a ++ b = ⟨⟨sb a ++ sb b⟩⟩ := by
            apply ByteArray.ext
            apply Array.toList_inj.1
            simp [sb]
          have hx : aOp2 P ev hp o = none := by unfold aOp2; rw [ho]; simp only [ha, hb]; split <;> rfl
          unfold aOpX
          rw [hx]
          unfold aOp
          rw [ho]
          simp only [ha, hb, sBin, fBin, fallback, ho, Op.operands]
          have h2 : ¬ (9223372036854775807 : Int) < (a.size : Int) + (b.size : Int) := by simpa [IntKind.max, IntKind.signed, IntKind.bits] using h1'
          simp [ha, hb, AV.isC, AV.conc, execOp, ho, eqGuard, binOp, Op.stringOp, he, str]
          rw [if_neg h2]
          rfl
        · exact ⟨_, h, hc⟩
      · exact ⟨_, h, hc⟩
    · exact ⟨_, h, hc⟩
  · exact ⟨_, h, hc⟩

omit [Gv] in
/-- A quotient by a number that is not 0 is what the program reckons. -/
theorem divA_op {ev : Operand → AV} {o : Oper} {op : BinOp} {t : TypeId} {x y : Operand} {g : TypeId} {cks : List Ck} {av : AV} {cmd : Cmd} (ho : o.op = .binOp op t x y g) (h : divA op (ev x) (ev y) = some (cks, av, cmd)) (hc : Ck.conj cks) : fallback P ev o = some ([], av, cmd) := by
  unfold divA at h
  split at h
  · rename_i k a k' b ha hb
    split at h
    · rename_i hk
      subst hk
      split at h
      · simp only [Option.some.injEq, Prod.mk.injEq] at h
        obtain ⟨rfl, rfl, rfl⟩ := h
        have h0 : b ≠ 0 := hc.1
        simp [fallback, ho, Op.operands, ha, hb, AV.isC, AV.conc, execOp, eqGuard, binOp, Op.intDiv, h0]
        rfl
      · simp only [Option.some.injEq, Prod.mk.injEq] at h
        obtain ⟨rfl, rfl, rfl⟩ := h
        have h0 : b ≠ 0 := hc.1
        simp [fallback, ho, Op.operands, ha, hb, AV.isC, AV.conc, execOp, eqGuard, binOp, Op.intDiv, h0]
        rfl
      · cases h
    · cases h
  · cases h

omit [Gv] in
theorem aOpS_op {hs : Hints} {ev : Operand → AV} {hp : Heap} {o : Oper} {cks : List Ck} {av : AV} {cmd : Cmd} (h : aOpS P hs ev hp o = some (cks, av, cmd)) (hc : Ck.conj cks) : (∃ it, o.op = .next it true ∧ nextA hp (ev it) (dirOf (hintFor hs o.dst)) = some (cks, av, cmd)) ∨ (∃ cks', fallback P ev o = some (cks', av, cmd)) ∨ ∃ cks', aOpX P ev hp o = some (cks', av, cmd) ∧ Ck.conj cks' := by
  unfold aOpS at h
  split at h
  · rename_i op t x y g ho
    split at h
    · exact .inr (.inl ⟨[], divA_op ho h hc⟩)
    · exact aOpS0_op h hc
  · exact aOpS0_op h hc

/-- What goes over a text goes on. -/
theorem next_ok {ev : Operand → AV} {ρ : Operand → Value} {o : Oper} {it : Operand} {dir : Option Bool} {cks : List Ck} {av : AV} {cmd : Cmd} (ho : o.op = .next it true) (hx : VR P w ι true (ev it) (ρ it)) (hh : HpRel P w ι hp)
    (h : nextA hp (ev it) dir = some (cks, av, cmd)) (hc : Ck.conj cks) : OpPost P w ι ((execOp ρ o).run P w) av cmd hp := by
  have hex : execOp ρ o = (do pure (Next.value (← Instr.next (ρ it) true o.type))) := by simp only [execOp, ho]
  unfold nextA at h
  split at h
  · rename_i b ha
    rw [ha] at hx
    split at h
    · rename_i B hb
      split at h
      · rename_i s pos hcells
        have hbl : b < hp.length := (List.getElem?_eq_some_iff.1 hb).1
        obtain ⟨g, hg, hgs, hop⟩ : ∃ g, ι b = .here g ∧ w.heap[g]? = some (.stringIter ⟨⟨s⟩⟩ pos) ∧ B.op = true := by
          rcases hh.live hb with ⟨_, k⟩ | ⟨g, cur, fz, _, _, _, _, _, k⟩ | ⟨g, s', pos', k1, k2, k3, k4⟩
          · rw [hcells] at k; simp at k
          · have := k 0 (by rw [hcells]; simp)
            rw [hcells] at this
            generalize B.op = o1 at this
            generalize cur.getD 0 undef = u1 at this
            simp only [List.getD_cons_zero] at this
            cases this
          · rw [hcells] at k2
            simp only [List.cons.injEq, AV.iter.injEq, and_true] at k2
            obtain ⟨rfl, rfl⟩ := k2
            exact ⟨g, k1, k3, k4⟩
        have hv : ρ it = .pointer (some ⟨g, 0, none⟩) := by
          generalize ρ it = vx at hx
          cases hx with
          | itrDead hd => rw [hg] at hd; cases hd
          | itr hg' => rw [hg] at hg'; cases hg'; rfl
        have hsz : (⟨⟨s⟩⟩ : ByteArray).size = s.length := by rw [← sb_size]; rfl
        rw [hv] at hex
        split at h
        · simp only [Option.some.injEq, Prod.mk.injEq] at h
          obtain ⟨rfl, rfl, rfl⟩ := h
          have h0 := hc.1
          simp only [ck] at h0
          obtain ⟨e, h2⟩ := hh.writeIter (w' := w.iterAt g ⟨⟨s⟩⟩ (pos + (Utf8.decode ⟨⟨s⟩⟩ pos).2)) (B := { B with cells := [.iter s (pos + (Utf8.decode ⟨⟨s⟩⟩ pos).2)] }) hg hbl hgs rfl hop rfl rfl rfl (Lib.iterAt_size _ _ _ _) (Lib.iterAt_heap _ _ _ _ _ hgs) (fun k hk => Lib.iterAt_other _ _ _ _ _ hk)
          refine OpPost.of_value hex (Lib.run_next_any_at w g ⟨⟨s⟩⟩ pos o.type hgs (by rw [hsz]; exact h0)) e h2 (.tu rfl ?_) trivial
          intro j hj
          match j, hj with
          | 0, _ => exact .c
          | 1, _ => exact .c
          | 2, _ => exact .c
        · simp only [Option.some.injEq, Prod.mk.injEq] at h
          obtain ⟨rfl, rfl, rfl⟩ := h
          have h0 := hc.1
          simp only [ck] at h0
          refine OpPost.of_value hex (Lib.run_next_end_at w g ⟨⟨s⟩⟩ pos o.type hgs (by rw [hsz]; omega)) (Ext.refl _ _) hh (.tu rfl ?_) ⟨rfl, rfl⟩
          intro j hj
          match j, hj with
          | 0, _ => exact .c
      · simp at h
    · simp at h
  · simp at h

theorem opS_ok {hs : Hints} {ev : Operand → AV} {ρ : Operand → Value} {o : Oper} {cks : List Ck} {av : AV} {cmd : Cmd} (hρ : ∀ x ∈ o.op.operands, VR P w ι true (ev x) (ρ x)) (hh : HpRel P w ι hp)
    (h : aOpS P hs ev hp o = some (cks, av, cmd)) (hc : Ck.conj cks) : OpPost P w ι ((execOp ρ o).run P w) av cmd hp := by
  rcases aOpS_op h hc with ⟨it, ho, h⟩ | ⟨_, h⟩ | ⟨cks', h, hc⟩
  · exact next_ok ho (hρ it (by simp [ho, Op.operands])) hh h hc
  · exact fallback_ok hρ hh h
  · unfold aOpX at h
    split at h
    · rename_i r hr
      cases h
      exact op2_ok hρ hh hr hc
    · exact op_ok hρ hh h hc

/-- Slots as they stand. -/
structure FrRel (P : Program) (w : World) (ι : Pl) (fr : List AV) (tmps : Array Value) : Prop where
  len : fr.length = tmps.size
  rel : ∀ t, VR P w ι true (fr.getD t .any) (tmps.getD t undef)

omit [Gv] in
theorem FrRel.mono {w' : World} {ι' : Pl} {fr : List AV} {tmps : Array Value} (h : FrRel P w ι fr tmps) (e : Ext w ι w' ι') : FrRel P w' ι' fr tmps := ⟨h.len, fun t => (h.rel t).mono e⟩

omit [Gv] in
theorem set_getD (fr : List AV) (d t : Nat) (a : AV) : (List.set fr d a).getD t .any = if d = t ∧ t < fr.length then a else fr.getD t .any := by
  simp only [List.getD, List.getElem?_set]
  by_cases h1 : d = t
  · subst h1
    by_cases h2 : d < fr.length
    · simp [h2]
    · simp [h2]
  · simp [h1]

omit [Gv] in
theorem setA_getD (c : Array Value) (d t : Nat) (v : Value) : (c.setIfInBounds d v).getD t undef = if d = t ∧ t < c.size then v else c.getD t undef := by
  rw [← toList_getD, ← toList_getD, Array.toList_setIfInBounds]
  simp only [List.getD, List.getElem?_set, Array.length_toList]
  by_cases h1 : d = t
  · subst h1
    by_cases h2 : d < c.size
    · simp [h2]
    · simp [h2]
  · simp [h1]

omit [Gv] in
theorem FrRel.set {fr : List AV} {tmps : Array Value} (h : FrRel P w ι fr tmps) {a : AV} {v : Value} (hv : VR P w ι true a v) (d : Nat) : FrRel P w ι (List.set fr d a) (tmps.setIfInBounds d v) := by
  refine ⟨by simp [h.len], fun t => ?_⟩
  rw [set_getD, setA_getD, h.len]
  split
  · exact hv
  · exact h.rel t

/-- A state as it stands. -/
structure StRel (P : Program) (w : World) (ι : Pl) (S : St) (a : Act) : Prop where
  fr : FrRel P w ι S.fr a.tmps
  hp : HpRel P w ι S.hp
  df : a.defers = []

theorem gEv_ok (hh : HpRel P w ι hp) (g : Nat) : VR P w ι true (gEv g) (.pointer (some ⟨g, 0, none⟩)) := by
  unfold gEv
  split
  · rename_i l h; exact (hh.gl g l h).open_
  · exact .any

theorem StRel.ev {S : St} {a : Act} (h : StRel P w ι S a) (x : Operand) : VR P w ι true (aEv S.fr x) (a.eval x) := by
  cases x with
  | tmp t =>
    show VR P w ι true (getL S.fr t) _
    rw [getL_eq]
    exact h.fr.rel t
  | const v => exact .c
  | global g => exact gEv_ok h.hp g
  | func f => exact .c

theorem StRel.put {S : St} {a : Act} (h : StRel P w ι S a) {x : AV} {v : Value} (hv : VR P w ι true x v) (d : Option Tmp) : StRel P w ι (S.put d x) (a.put d v) := by
  cases d with
  | none => exact h
  | some d =>
    refine ⟨?_, h.hp, h.df⟩
    show FrRel P w ι (setL S.fr d x) _
    rw [setL_eq]
    exact h.fr.set hv d

/-- What a call does is what its abstract twin says. -/
def CallOK (P : Program) (cl : CallT) : Prop :=
  ∀ f args hp r hp' p, cl f args hp = some (r, hp', p) → allP p → ∀ w ι (vs : Array Value), HpRel P w ι hp → args.length = vs.size → (∀ j, j < args.length → VR P w ι true (args.getD j .any) (vs.getD j undef)) →
    (∃ fn c, P.funcs[f]? = some fn ∧ fn.body = some c ∧ fn.name ≠ "runtime.NumGoroutine") ∧
    Calls P f vs w fun e w' => ∃ v ι', e = .returned v ∧ Ext w ι w' ι' ∧ HpRel P w' ι' hp' ∧ VR P w' ι' true r v

omit [Gv] in
theorem run_callFunc {f : FuncId} {fn : Func} {c : Code} {args : Array Value} (hf : P.funcs[f]? = some fn) (hb : fn.body = some c) (hn : fn.name ≠ "runtime.NumGoroutine") : (callFunc f args).run P w = .ok (.enter f args) w := by
  simp [callFunc, program, Sem.run, hf, hb, hn]

omit [Gv] in
theorem getD_map_ev {ev : Operand → AV} {a : Act} (args : Array Operand) (h : ∀ x ∈ args, VR P w ι true (ev x) (a.eval x)) (j : Nat) (hj : j < args.size) :
    VR P w ι true ((args.toList.map ev).getD j .any) ((args.map a.eval).getD j undef) := by
  have e1 : (args.toList.map ev).getD j .any = ev args[j] := by simp [List.getD, hj]
  have e2 : (args.map a.eval).getD j undef = a.eval args[j] := by rw [← toList_getD]; simp [List.getD, hj]
  rw [e1, e2]
  exact h _ (by simp)

omit [Gv] in
/-- Which function is called, with what. -/
theorem callee_ok {ev : Operand → AV} {a : Act} {f : Operand} {args : Array Operand} (hf : VR P w ι true (ev f) (a.eval f)) (h : ∀ x ∈ args, VR P w ι true (ev x) (a.eval x)) {g : FuncId} {l : List AV}
    (hc : callee (ev f) (args.toList.map ev) = some (g, l)) :
    ∃ vs : Array Value, l.length = vs.size ∧ (∀ j, j < l.length → VR P w ι true (l.getD j .any) (vs.getD j undef)) ∧
      ∀ (c : Call) (ty : TypeId), c.callee = .value f → c.args = args → ∀ W, (do let d ← resolve a.eval c ty; invoke d.target d.args : Sem Next).run P W = (callFunc g vs).run P W := by
  unfold callee at hc
  split at hc
  · rename_i g' first cap e1
    split at hc
    · rename_i hz
      simp only [Option.some.injEq, Prod.mk.injEq] at hc
      obtain ⟨rfl, rfl⟩ := hc
      rw [e1] at hf
      have hfirst : first = #[] := Array.eq_empty_of_size_eq_zero hz.1
      have hcap : cap = #[] := Array.eq_empty_of_size_eq_zero hz.2
      subst hfirst; subst hcap
      refine ⟨args.map a.eval, by simp, fun j hj => getD_map_ev args h j (by simpa using hj), ?_⟩
      intro c ty hcc hca W
      simp [resolve, hcc, hca, hf.cInv, Deferred.ofValue, invoke]
    · simp at hc
  · rename_i g' cap e1
    simp only [Option.some.injEq, Prod.mk.injEq] at hc
    obtain ⟨rfl, rfl⟩ := hc
    rw [e1] at hf
    generalize hv : a.eval f = vf at hf
    cases hf with
    | fn hl hr =>
      rename_i cs
      refine ⟨args.map a.eval ++ cs, by simp [hl], ?_, ?_⟩
      · intro j hj
        have hj' : j < args.size + cap.length := by simpa using hj
        have e2 : (args.map a.eval ++ cs).getD j undef = if j < args.size then (args.map a.eval).getD j undef else cs.getD (j - args.size) undef := by
          rw [← toList_getD, ← toList_getD, ← toList_getD]
          simp only [Array.toList_append, List.getD, List.getElem?_append, Array.length_toList, Array.size_map]
          split <;> rfl
        rw [e2, getD_append]
        simp only [List.length_map, Array.length_toList]
        split
        · rename_i hlt; exact getD_map_ev args h j hlt
        · exact hr _ (by omega)
      · intro c ty hcc hca W
        simp [resolve, hcc, hca, hv, Deferred.ofValue, invoke]
  · simp at hc

omit [Gv] in
theorem find_noEsc {fn : Func} (h : fn.name = noEscName) : Extern.find fn = some Extern.AbiNoEscape.same := by
  unfold Extern.find
  rw [h]
  rfl

omit [Gv] in
theorem find_idx {fn : Func} (h : fn.name = idxName) : Extern.find fn = some Extern.BytealgIndexByte.indexByte := by
  unfold Extern.find
  rw [h]
  rfl

omit [Gv] in
theorem extA_ok {g : FuncId} {l : List AV} {r : AV} (h : extA P g l = some r) {vs : Array Value} (hl : l.length = vs.size) (hv : ∀ j, j < l.length → VR P w ι true (l.getD j .any) (vs.getD j undef)) :
    ∃ v, (callFunc g vs).run P w = .ok (.value v) w ∧ VR P w ι true r v := by
  unfold extA at h
  split at h
  · rename_i fn hf
    split at h
    · rename_i hb
      obtain ⟨hb, hng⟩ := hb
      split at h
      · rename_i hn
        split at h
        · rename_i hnext
          split at h
          · rename_i x
            simp only [Option.some.injEq] at h
            subst h
            have h0 := hv 0 (by simp)
            have hvs : vs = #[vs.getD 0 undef] := by
              apply Array.ext
              · simpa using hl.symm
              · intro i hi _
                have : i = 0 := by simp at hl; omega
                subst this
                simp [Array.getD, hi]
            refine ⟨vs.getD 0 undef, ?_, by simpa using h0⟩
            generalize vs.getD 0 undef = v0 at hvs
            subst hvs
            rw [run_callFunc_extern hf (by simpa using hng) hb (by simpa using hnext) (find_noEsc hn)]
            rfl
          · simp at h
        · simp at h
      · split at h
        · rename_i hn
          split at h
          · rename_i hnext
            split at h
            · rename_i s n
              simp only [Option.some.injEq] at h
              subst h
              have h0 := hv 0 (by simp)
              have h1 := hv 1 (by simp)
              have hvs : vs = #[vs.getD 0 undef, vs.getD 1 undef] := by
                apply Array.ext
                · simpa using hl.symm
                · intro i hi _
                  have : i = 0 ∨ i = 1 := by simp at hl; omega
                  rcases this with rfl | rfl <;> simp [Array.getD, hi]
              refine ⟨_, ?_, .c⟩
              generalize vs.getD 0 undef = v0 at hvs h0
              generalize vs.getD 1 undef = v1 at hvs h1
              subst hvs
              obtain rfl : v0 = .string s := h0.cInv
              obtain rfl : v1 = .int .u8 n := h1.cInv
              rw [run_callFunc_extern hf (by simpa using hng) hb (by simpa using hnext) (find_idx hn)]
              have hr := Lib.run_indexByteString (P := P) s n w
              simp only [Sem.run_bind, hr, sb]
              rfl
            · simp at h
          · simp at h
        split at h
        · rename_i hall
          split at h
          · rename_i v hpr
            simp only [Option.some.injEq] at h
            subst h
            refine ⟨v, ?_, .c⟩
            have e : (l.map AV.conc).toArray = vs := by
              apply Array.ext
              · simpa using hl
              · intro i h1 h2
                have hi : i < l.length := by simpa using h1
                have hc := List.all_eq_true.1 hall l[i] (List.getElem_mem hi)
                have := hv i hi
                have e1 : l.getD i .any = l[i] := by simp [List.getD, hi]
                have e2 : vs.getD i undef = vs[i] := by simp [Array.getD, h2]
                rw [e1, e2] at this
                simp only [List.getElem_toArray, List.getElem_map]
                exact (isC_conc hc this).symm
            rw [← e]
            exact pr_run P _ _ w hpr
          · simp at h
        · simp at h
    · simp at h
  · simp at h

theorem doOp_ok {cl : CallT} (hcl : CallOK P cl) {hs : Hints} {S S' : St} {a : Act} {o : Oper} {p : List Prop} (hS : StRel P w ι S a) (h : doOp P cl hs S o = some (S', p)) (hp' : allP p) {K : Act → World → Prop} {Q : Exit → Act → World → Prop}
    (hK : ∀ a' w' ι', StRel P w' ι' S' a' → Ext w ι w' ι' → K a' w') : o.wp P a w K Q := by
  unfold doOp at h
  split at h
  · rename_i f args aT ho
    split at h
    · rename_i g l hc
      split at h
      · rename_i r hext
        obtain ⟨vs, hl, hv, hres⟩ := callee_ok (hS.ev f) (fun x _ => hS.ev x) hc
        obtain ⟨v, hrun, hvr⟩ := extA_ok hext hl hv
        have he : (execOp a.eval o).run P w = .ok (.value v) w := by
          have : execOp a.eval o = (do let d ← resolve a.eval { callee := .value f, args, argTypes := aT } o.type; invoke d.target d.args) := by simp only [execOp, ho]
          rw [this, hres _ _ rfl rfl w]
          exact hrun
        have fin : ∀ (x : AV), S' = S.put o.dst x → x = r → o.wp P a w K Q := by
          intro x hS' hx
          unfold Oper.wp
          rw [he, Oper.upon_value]
          refine hK _ w ι ?_ (Ext.refl _ _)
          rw [hS', hx]
          exact hS.put hvr o.dst
        split at h
        · simp only [Option.some.injEq, Prod.mk.injEq] at h
          exact fin r h.1.symm rfl
        · rename_i hint _
          simp only [Option.some.injEq, Prod.mk.injEq] at h
          obtain ⟨e1, e2⟩ := h
          rw [← e2] at hp'
          exact fin hint.av e1.symm (avEq_eq hp'.1).symm
      split at h
      · rename_i r hp2 q hcall
        obtain ⟨vs, hl, hv, hres⟩ := callee_ok (hS.ev f) (fun x _ => hS.ev x) hc
        have fin : ∀ (x : AV), S' = ({ S with hp := hp2 } : St).put o.dst x → allP q → x = r → o.wp P a w K Q := by
          intro x hS' hq hx
          obtain ⟨⟨fn, c, h1, h2, h3⟩, hcalls⟩ := hcl g l S.hp r hp2 q hcall hq w ι vs hS.hp hl hv
          unfold Oper.wp
          have he : (execOp a.eval o).run P w = .ok (.enter g vs) w := by
            have : execOp a.eval o = (do let d ← resolve a.eval { callee := .value f, args, argTypes := aT } o.type; invoke d.target d.args) := by simp only [execOp, ho]
            rw [this, hres _ _ rfl rfl w]
            exact run_callFunc h1 h2 h3
          rw [he, Oper.upon_enter]
          refine hcalls.mono fun e w' ⟨v, ι', he', hext, hh, hr⟩ => ?_
          subst he'
          refine hK _ w' ι' ?_ hext
          rw [hS', hx]
          exact StRel.put (S := { S with hp := hp2 }) ⟨hS.fr.mono hext, hh, hS.df⟩ hr o.dst
        split at h
        · simp only [Option.some.injEq, Prod.mk.injEq] at h
          exact fin r h.1.symm (h.2 ▸ hp') rfl
        · rename_i hint _
          simp only [Option.some.injEq, Prod.mk.injEq] at h
          obtain ⟨e1, e2⟩ := h
          rw [← e2] at hp'
          obtain ⟨h1, h2⟩ := allP_append hp'
          exact fin hint.av e1.symm h1 (avEq_eq h2.1).symm
      · simp at h
    · simp at h
  · split at h
    · rename_i r hr
      split at h
      · rename_i v cmd q hu
        simp only [Option.some.injEq, Prod.mk.injEq] at h
        obtain ⟨rfl, rfl⟩ := h
        obtain ⟨c1, c2, c3⟩ := useHint_ok hu hp'
        obtain ⟨cks, av, cmd'⟩ := r
        simp only at c1 c2 c3
        subst c2; subst c3
        obtain ⟨n, w', ι', v', hrun, hn, hext, hh, hv, _⟩ := opS_ok (fun x _ => hS.ev x) hS.hp hr c1
        unfold Oper.wp
        rw [hrun]
        have fin := hK (a.put o.dst v') w' ι' (StRel.put (S := { S with hp := cmd.run S.hp }) ⟨hS.fr.mono hext, hh, hS.df⟩ hv o.dst) hext
        rcases hn with rfl | ⟨rfl, rfl⟩
        · rw [Oper.upon_value]; exact fin
        · rw [Oper.upon_skip]; exact fin
      · simp at h
    · simp at h

end Go.Proofs.Ytljgmgbjfjhjmaa
