/- A region whose operations may come up in several orders: whichever it is, the outcome is that of the text's order. -/
import Derived.Test.YtljgmgbjfjhjmaaLevG
namespace Go.Proofs.Ytljgmgbjfjhjmaa
open Go.RowKit
set_option linter.unusedSimpArgs false
set_option linter.unusedVariables false

variable [Gv] {P : Program} {w : World} {ι : Pl} {hp : Heap}

/-- One operation that leaves the blocks alone. -/
theorem doOpQ_ok {cl : CallT} (hcl : CallOK P cl) {hs : Hints} {fr : List AV} {a : Act} {o : Oper} {av : AV} {p : List Prop} (hh : HpRel P w ι hp) (hρ : ∀ x ∈ o.op.operands, VR P w ι true (aEv fr x) (a.eval x))
    (h : doOpQ P cl hs hp fr o = some (av, p)) (hp' : allP p) {K : Act → World → Prop} {Q : Exit → Act → World → Prop}
    (hK : ∀ v w', VR P w' ι true av v → Ext w ι w' ι → HpRel P w' ι hp → K (a.put o.dst v) w') : o.wp P a w K Q := by
  unfold doOpQ at h
  split at h
  · rename_i f args aT ho
    split at h
    · rename_i g l hc
      split at h
      · rename_i r hext
        have hmem : ∀ x, x = f ∨ x ∈ args → VR P w ι true (aEv fr x) (a.eval x) := fun x hx => hρ x (by
          simp only [ho, Op.operands, Call.operands]
          rcases hx with rfl | hx
          · simp
          · simp [hx])
        obtain ⟨vs, hl, hv, hres⟩ := callee_ok (hmem f (.inl rfl)) (fun x hx => hmem x (.inr hx)) hc
        obtain ⟨v, hrun, hvr⟩ := extA_ok hext hl hv
        have he : (execOp a.eval o).run P w = .ok (.value v) w := by
          have : execOp a.eval o = (do let d ← resolve a.eval { callee := .value f, args, argTypes := aT } o.type; invoke d.target d.args) := by simp only [execOp, ho]
          rw [this, hres _ _ rfl rfl w]
          exact hrun
        have hav : av = r := by
          split at h
          · simp only [Option.some.injEq, Prod.mk.injEq] at h
            exact h.1.symm
          · simp only [Option.some.injEq, Prod.mk.injEq] at h
            rw [← h.2] at hp'
            rw [← h.1, avEq_eq hp'.1]
        unfold Oper.wp
        rw [he, Oper.upon_value]
        exact hK v w (by rw [hav]; exact hvr) (Ext.refl _ _) hh
      split at h
      · rename_i l' hfr
        split at h
        · rename_i r hp2 q hcall
          split at h
          · rename_i hflat
            split at h
            · rename_i r' hfr'
              have hmem : ∀ x, x = f ∨ x ∈ args → VR P w ι true (aEv fr x) (a.eval x) := fun x hx => hρ x (by
                simp only [ho, Op.operands, Call.operands]
                rcases hx with rfl | hx
                · simp
                · simp [hx])
              obtain ⟨vs, hl, hv, hres⟩ := callee_ok (hmem f (.inl rfl)) (fun x hx => hmem x (.inr hx)) hc
              have hq : allP q ∧ av = r' := by
                split at h
                · simp only [Option.some.injEq, Prod.mk.injEq] at h
                  exact ⟨h.2 ▸ hp', h.1.symm⟩
                · simp only [Option.some.injEq, Prod.mk.injEq] at h
                  rw [← h.2] at hp'
                  obtain ⟨h1, h2⟩ := allP_append hp'
                  exact ⟨h1, by rw [← h.1, avEq_eq h2.1]⟩
              obtain ⟨f1, f2⟩ := freezeAll_ok hh (used := usedIn l) (vs := vs.toList) (by simpa using hl) (fun j hj => by rw [toList_getD]; exact hv j hj) hfr (fun b hm => hm)
              obtain ⟨⟨fn, c, h1, h2, h3⟩, hcalls⟩ := hcl g l' [] r hp2 q hcall hq.1 w (ι.iso (usedIn l)) vs (iso_rel hh _) (by simpa using f1) (fun j hj => by rw [← toList_getD]; exact (f2 j hj).open_)
              unfold Oper.wp
              have he : (execOp a.eval o).run P w = .ok (.enter g vs) w := by
                have : execOp a.eval o = (do let d ← resolve a.eval { callee := .value f, args, argTypes := aT } o.type; invoke d.target d.args) := by simp only [execOp, ho]
                rw [this, hres _ _ rfl rfl w]
                exact run_callFunc h1 h2 h3
              rw [he, Oper.upon_enter]
              refine hcalls.mono fun e w' ⟨v, κ', he', hext, hhk, hr⟩ => ?_
              subst he'
              obtain ⟨e0, h0⟩ := hh.ext hext.os hext.tape hext.output hext.size (iso_old hext)
              refine hK v w' ?_ e0 h0
              rw [hq.2]
              -- what is frozen of the result
              unfold freeze at hfr'
              split at hfr'
              · rename_i b off n _
                split at hfr'
                · rename_i B hb
                  split at hfr'
                  · simp at hfr'
                  · rename_i hop
                    simp only [Option.some.injEq] at hfr'
                    subst hfr'
                    have hop' : B.op = false := by simpa using hop
                    rcases Nat.eq_zero_or_pos n with hn | hn
                    · subst hn
                      obtain ⟨x, cap, rfl, _⟩ := hr.slShape (hhk.notDead hb)
                      have : (List.drop (mulS off (P.cellsOf B.e)) B.cells).take (mulS 0 (P.cellsOf B.e)) = [] := by rw [mulS_eq]; simp
                      rw [this]
                      exact .fsZero
                    · obtain ⟨g', cap, cur, fz, hg, hcur, hn2, hs', hm, rfl⟩ := hr.slPlace (hhk.live hb) hn
                      obtain ⟨cur', fz', hcur', _, hlen, hone, hrel, hcell⟩ := (hhk.live hb).cells hg hcur
                      rw [hcur] at hcur'; cases hcur'
                      have hge := iso_new hext hhk hg
                      have hlen2 : ((B.cells.drop (off * P.cellsOf B.e)).take (n * P.cellsOf B.e)).length ≤ n * P.cellsOf B.e := by rw [List.length_take]; omega
                      have hlen3 : ((B.cells.drop (off * P.cellsOf B.e)).take (n * P.cellsOf B.e)).length + off * P.cellsOf B.e ≤ max B.cells.length (off * P.cellsOf B.e) := by rw [List.length_take, List.length_drop]; omega
                      rw [mulS_eq, mulS_eq]
                      refine .fs (us := fun j => cur.getD (off * P.cellsOf B.e + j) undef) hn2 hlen2 (hhk.lt hg) (new_un hh hge) ?_ ?_ ?_
                      · intro j hj; exact hcell _ (by omega)
                      · intro j hj; exact hone _ (by omega)
                      · intro j hj
                        rw [take_getD _ _ _ (by omega), drop_getD]
                        have hx := hrel (off * P.cellsOf B.e + j) (by omega)
                        rw [hop'] at hx
                        rcases hflat with hc1 | hc1
                        · exact hx.shrink rfl (fun g hg => iso_back (noSl_of_closed hc1) hext hg)
                        · have hmem2 : B.cells.getD (off * P.cellsOf B.e + j) .any ∈ B.cells := by
                            have hlt : off * P.cellsOf B.e + j < B.cells.length := by omega
                            have : B.cells.getD (off * P.cellsOf B.e + j) .any = B.cells[off * P.cellsOf B.e + j] := by simp [List.getD, hlt]
                            rw [this]
                            exact List.getElem_mem hlt
                          have hisc := List.all_eq_true.1 (by simpa [flatV, hb] using hc1) _ hmem2
                          generalize B.cells.getD (off * P.cellsOf B.e + j) .any = y at hisc hx
                          cases y <;> simp [AV.isC] at hisc
                          rw [hx.cInv]
                          exact .c
                · simp at hfr'
              · rename_i hnsl
                split at hfr'
                · rename_i hc2
                  simp only [Option.some.injEq] at hfr'
                  subst hfr'
                  rcases hflat with hc1 | hc1
                  · exact ((hr.shut hc2).shrink rfl (fun g hg => iso_back (noSl_of_closed hc1) hext hg)).open_
                  · refine (hr.flat (ι := ι) ?_).open_
                    unfold flatV at hc1 ⊢
                    split at hc1
                    · rfl
                    · rfl
                    · exact hc1
                    · exact hc1
                    · exact absurd rfl (hnsl _ _ _)
                    · simp at hc1
                · simp at hfr'
            · simp at h
          · simp at h
        · simp at h
      · simp at h
    · simp at h
  · split at h
    · rename_i r hr
      obtain ⟨cks, av0, cmd0⟩ := r
      split at h
      · rename_i v q hu
        simp only [Option.some.injEq, Prod.mk.injEq] at h
        obtain ⟨rfl, rfl⟩ := h
        obtain ⟨c1, c2, c3⟩ := useHint_ok hu hp'
        simp only at c1 c2 c3
        subst c2; subst c3
        obtain ⟨n, w', ι', v', hrun, hn, hext, hhp, hv, hq⟩ := opS_ok hρ hh hr c1
        obtain ⟨rfl, rfl⟩ := hq
        unfold Oper.wp
        rw [hrun]
        have fin := hK v' w' hv hext hhp
        rcases hn with rfl | ⟨rfl, rfl⟩
        · rw [Oper.upon_value]; exact fin
        · rw [Oper.upon_skip]; exact fin
      · rename_i b off n B q hu
        split at h
        · rename_i hcond
          simp only [Option.some.injEq, Prod.mk.injEq] at h
          obtain ⟨rfl, rfl⟩ := h
          obtain ⟨c1, c2, c3⟩ := useHint_ok hu hp'
          simp only at c1 c2 c3
          subst c2; subst c3
          obtain ⟨m, w', ι', v', hrun, hn, hext, hhp, hv, hq⟩ := opS_ok hρ hh hr c1
          obtain ⟨e0, h0⟩ := hh.ext hext.os hext.tape hext.output hext.size hq
          have fin : VR P w' ι true (.fs (P.cellsOf B.e) n (B.cells.take (mulS n (P.cellsOf B.e)))) v' := by
            obtain ⟨rfl, rfl, hop⟩ := hcond
            have hb : (hp ++ [some B])[hp.length]? = some (some B) := getElem?_snoc_same hp (some B)
            have hhp' : HpRel P w' ι' (hp ++ [some B]) := hhp
            rcases Nat.eq_zero_or_pos n with hn0 | hn0
            · subst hn0
              obtain ⟨x, cap, rfl, _⟩ := hv.slShape (hhp'.notDead hb)
              have : B.cells.take (mulS 0 (P.cellsOf B.e)) = [] := by rw [mulS_eq]; simp
              rw [this]
              exact .fsZero
            · obtain ⟨g', cap, cur, fz, hg, hcur, hn2, hs', hm, rfl⟩ := hv.slPlace (hhp'.live hb) hn0
              obtain ⟨cur', fz', hcur', _, hlen, hone, hrel, hcell⟩ := (hhp'.live hb).cells hg hcur
              rw [hcur] at hcur'; cases hcur'
              have sub : ∀ k g, ι k = .here g → ι' k = .here g := by
                intro k g hk
                rcases hext.own k g hk with hd | ⟨h1, _⟩
                · have hkl : k < hp.length := by
                    have := hh.blk k
                    rcases Nat.lt_or_ge k hp.length with hlt | hge
                    · exact hlt
                    · rw [List.getElem?_eq_none hge] at this; rw [show ι k = .fresh from this] at hk; cases hk
                  have hs2 := hhp'.blk k
                  have hs1 := hh.blk k
                  rw [List.getElem?_append_left hkl] at hs2
                  match hx : hp[k]?, hs1, hs2 with
                  | none, hs1, _ => rw [show ι k = .fresh from hs1] at hk; cases hk
                  | some none, hs1, _ => rw [show ι k = .dead from hs1] at hk; cases hk
                  | some (some B'), _, hs2 =>
                    rcases hs2 with ⟨k1, _⟩ | ⟨_, _, _, k1, _⟩ | ⟨_, _, _, k1, _⟩ <;> rw [hd] at k1 <;> cases k1
                · exact h1
              have back : ∀ g, ι'.un g → ι.un g := fun g hg => ⟨fun k hk => hg.1 k (sub k g hk), by rw [← hext.hid]; exact hg.2⟩
              have hgun : ι.un g' := by
                refine ⟨fun k hk => ?_, by rw [← hext.hid]; exact hhp'.nohid _ _ hg⟩
                have := hhp'.inj _ _ _ (sub k g' hk) hg
                subst this
                have := hh.freshLen
                rw [this] at hk; cases hk
              have hlen2 : (B.cells.take (n * P.cellsOf B.e)).length ≤ n * P.cellsOf B.e := by rw [List.length_take]; omega
              have hlen3 : (B.cells.take (n * P.cellsOf B.e)).length ≤ B.cells.length := by rw [List.length_take]; omega
              rw [mulS_eq]
              refine .fs (us := fun j => cur.getD (0 * P.cellsOf B.e + j) undef) hn2 hlen2 (hhp'.lt hg) hgun ?_ ?_ ?_
              · intro j hj; exact hcell _ (by simp; omega)
              · intro j hj; exact hone _ (by simp; omega)
              · intro j hj
                rw [take_getD _ _ _ (by omega)]
                have hx := hrel j (by omega)
                rw [hop] at hx
                simp only [Nat.zero_mul, Nat.zero_add]
                exact hx.shrink rfl back
          unfold Oper.wp
          rw [hrun]
          have fin := hK v' w' fin e0 h0
          rcases hn with rfl | ⟨rfl, rfl⟩
          · rw [Oper.upon_value]; exact fin
          · rw [Oper.upon_skip]; exact fin
        · simp at h
      · simp at h
    · simp at h

end Go.Proofs.Ytljgmgbjfjhjmaa
