/- Further operations do what their abstract twins say. -/
import Derived.Test.YtljgmgbjfjhjmaaLevE
import Derived.Laws.RangeString
import Derived.Lib.Builder
namespace Go.Proofs.Ytljgmgbjfjhjmaa
open Go.RowKit
set_option linter.unusedSimpArgs false
set_option linter.unusedVariables false

variable [Gv] {P : Program} {w : World} {ι : Pl} {hp : Heap}

theorem OpPost.of_value {r : Sem Value} {w' : World} {ι' : Pl} {v : Value} {av : AV} {cmd : Cmd} {ρ : Operand → Value} {o : Oper} (he : execOp ρ o = (do pure (Next.value (← r)))) (hr : r.run P w = .ok v w') (e : Ext w ι w' ι') (hh : HpRel P w' ι' (cmd.run hp))
    (hv : VR P w' ι' true av v) (hq : CmdPost w ι w' ι' cmd) : OpPost P w ι ((execOp ρ o).run P w) av cmd hp :=
  ⟨_, w', ι', v, run_execOp he hr, .inl rfl, e, hh, hv, hq⟩

omit [Gv] in
theorem toList_one {α : Type} {a : Array α} {x : α} (h : a.toList = [x]) : a = #[x] := by rw [← Array.toArray_toList (xs := a), h]
omit [Gv] in
theorem toList_two {α : Type} {a : Array α} {x y : α} (h : a.toList = [x, y]) : a = #[x, y] := by rw [← Array.toArray_toList (xs := a), h]

omit [Gv] in
theorem info_of_pos {t : TypeId} (h : 0 < P.cellsOf t) : ∃ i, P.info? t = some i ∧ i.size = P.cellsOf t := by
  unfold Program.cellsOf at h ⊢
  cases hi : P.info? t with
  | none => simp [hi] at h
  | some i => exact ⟨i, rfl, by simp⟩

omit [Gv] in
theorem fieldOff_spec {t u : TypeId} {i o : Nat} (h : fieldOff P t i = some (o, u)) : ∃ fs f, P.underlying t = some (.struct fs) ∧ fs[i]? = some f ∧ f.offset = o ∧ f.type = u ∧ 0 < P.cellsOf u := by
  unfold fieldOff at h
  split at h
  · rename_i fs hu
    split at h
    · rename_i f hf
      split at h
      · rename_i hz
        simp only [Option.some.injEq, Prod.mk.injEq] at h
        obtain ⟨rfl, rfl⟩ := h
        exact ⟨fs, f, hu, hf, rfl, rfl, hz⟩
      · simp at h
    · simp at h
  · simp at h

omit [Gv] in
theorem arrOf_spec {t e : TypeId} {n : Nat} (h : arrOf P t = some (n, e)) : P.underlying t = some (.array n e) ∧ 0 < P.cellsOf e := by
  unfold arrOf at h
  split at h
  · rename_i n' e' hu
    split at h
    · rename_i hz
      simp only [Option.some.injEq, Prod.mk.injEq] at h
      obtain ⟨rfl, rfl⟩ := h
      exact ⟨hu, hz⟩
    · simp at h
  · simp at h

omit [Gv] in
theorem addr_add (g off n : Nat) : (⟨g, off, none⟩ : Addr).add n = ⟨g, off + n, none⟩ := by unfold Addr.add; split <;> simp_all

omit [Gv] in
/-- Memory that is only read, from a place on. -/
theorem VR.fpDrop {o : Bool} {l : List AV} {v : Value} (h : VR P w ι o (.fp l) v) (k : Nat) : ∃ g off, v = .pointer (some ⟨g, off, none⟩) ∧ VR P w ι o (.fp (l.drop k)) (.pointer (some ⟨g, off + k, none⟩)) := by
  cases h with
  | fp hg hno hcl ho hr =>
    rename_i g off us
    refine ⟨g, off, rfl, .fp (us := fun j => us (k + j)) hg hno ?_ ?_ ?_⟩
    · intro j hj
      simp only [List.length_drop] at hj
      have := hcl (k + j) (by omega)
      rw [← Nat.add_assoc] at this
      exact this
    · intro j hj
      simp only [List.length_drop] at hj
      exact ho _ (by omega)
    · intro j hj
      simp only [List.length_drop] at hj
      rw [drop_getD]
      exact hr _ (by omega)

omit [Gv] in
theorem VR.ptShape {b off : Nat} {v : Value} (h : VR P w ι true (.pt b off) v) (hd : ι b ≠ .dead) : ∃ g cur e fz, v = .pointer (some ⟨g, off, none⟩) ∧ ι b = .here g ∧ w.heap[g]? = some (.cells cur e fz) := by
  cases h with
  | ptDead k => exact absurd k hd
  | pt hg hh => exact ⟨_, _, _, _, rfl, hg, hh⟩

omit [Gv] in
/-- The part of a row of cells that stands at a place. -/
theorem run_part {t : TypeId} {cks : List Ck} {av : AV} {l : List AV} {cs : Array Value} {off : Nat} (hl : l.length = cs.size) (h1 : ∀ j, j < l.length → (cs.getD j undef).oneCell' = true)
    (hr : ∀ j, j < l.length → VR P w ι true (l.getD j .any) (cs.getD j undef)) (h : ldAV P t (l.drop off) = some (cks, av)) (hc : Ck.conj cks) : ∃ v, (part t cs off).run P w = .ok v w ∧ VR P w ι true av v := by
  unfold ldAV at h
  split at h
  · rename_i hagg
    simp only [Option.some.injEq, Prod.mk.injEq] at h
    obtain ⟨rfl, rfl⟩ := h
    have h2 := hc.1
    simp only [ck, List.length_drop] at h2
    have hinf : ∃ i, P.info? t = some i ∧ i.size = P.cellsOf t := by
      unfold isAggT at hagg
      cases hi : P.info? t with
      | none => simp [Program.underlying, hi] at hagg
      | some i => exact ⟨i, rfl, by simp [Program.cellsOf, hi]⟩
    obtain ⟨i, hi, hz⟩ := hinf
    refine ⟨.agg (cs.extract off (off + P.cellsOf t)), ?_, ?_⟩
    · unfold part
      simp [run_isAgg hagg, sizeOf, typeInfo, hi, hz]
    · have hlen : ((l.drop off).take (P.cellsOf t)).length = P.cellsOf t := by rw [List.length_take, List.length_drop]; omega
      have get : ∀ j, j < P.cellsOf t → (cs.extract off (off + P.cellsOf t)).getD j undef = cs.getD (off + j) undef ∧ ((l.drop off).take (P.cellsOf t)).getD j .any = l.getD (off + j) .any := by
        intro j hj
        refine ⟨?_, by rw [take_getD _ _ _ hj, drop_getD]⟩
        rw [← toList_getD, ← toList_getD, Array.toList_extract]
        simp only [List.getD, List.extract, List.getElem?_take, List.getElem?_drop]
        rw [if_pos (by omega)]
      by_cases hz0 : P.cellsOf t = 0
      · refine .ag ?_ (fun j hj => by omega) (fun j hj => by omega)
        rw [hlen, hz0]
        simp only [Array.size_extract]
        omega
      · refine .ag ?_ ?_ ?_
        · rw [hlen]
          simp only [Array.size_extract]
          omega
        · intro j hj
          rw [hlen] at hj
          rw [(get j hj).1]
          exact h1 _ (by omega)
        · intro j hj
          rw [hlen] at hj
          rw [(get j hj).1, (get j hj).2]
          exact hr _ (by omega)
  · rename_i hagg
    simp only [Option.some.injEq, Prod.mk.injEq] at h
    obtain ⟨rfl, rfl⟩ := h
    have h2 := hc.1
    simp only [ck, List.length_drop] at h2
    have hlt : off < cs.size := by omega
    refine ⟨cs.getD off undef, ?_, ?_⟩
    · unfold part
      simp [run_isAgg hagg, hlt]
    · have e : (l.drop off).headD .any = l.getD off .any := by
        rw [List.drop_eq_getElem_cons (by omega)]
        simp [List.getD, show off < l.length by omega]
      rw [e]
      exact hr off (by omega)
  · simp at h

omit [Gv] in
theorem VR.agInv {o : Bool} {l : List AV} {v : Value} (h : VR P w ι o (.ag l) v) : ∃ cs, v = .agg cs ∧ l.length = cs.size ∧ (∀ j, j < l.length → (cs.getD j undef).oneCell' = true) ∧ ∀ j, j < l.length → VR P w ι o (l.getD j .any) (cs.getD j undef) := by
  cases h with
  | ag a b c => exact ⟨_, rfl, a, b, c⟩

omit [Gv] in
theorem VR.tuInv {o : Bool} {l : List AV} {v : Value} (h : VR P w ι o (.tu l) v) : ∃ cs, v = .tuple cs ∧ l.length = cs.size ∧ ∀ j, j < l.length → VR P w ι o (l.getD j .any) (cs.getD j undef) := by
  cases h with
  | tu a b => exact ⟨_, rfl, a, b⟩

/-- Cells laid into a block of their own. -/
theorem newVar_ok {t : TypeId} {cs : List AV} {cur : Array Value} (hh : HpRel P w ι hp) (hl : cs.length = cur.size) (h1 : ∀ j, j < cs.length → (cur.getD j undef).oneCell' = true) (hr : ∀ j, j < cs.length → VR P w ι true (cs.getD j .any) (cur.getD j undef)) :
    ∃ w' ι', w' = w.alloc (.cells cur t) ∧ Ext w ι w' ι' ∧ HpRel P w' ι' (hp ++ [some ⟨t, true, cs⟩]) ∧ VR P w' ι' true (.pt hp.length 0) (.pointer (some ⟨w.heap.size, 0, none⟩)) ∧ ∀ g, g < w.heap.size → w'.heap[g]? = w.heap[g]? := by
  obtain ⟨e, h⟩ := hh.push (B := ⟨t, true, cs⟩) (pushed_alloc w (.cells cur t)) (rowOK0 fun _ j hj => h1 j (by rw [hl]; exact hj)) (Nat.le_of_eq hl) h1 hr
  exact ⟨_, _, rfl, e, h, .pt (by simp) (pushed_alloc w _).new, fun g hg => (pushed_alloc w _).old hg⟩

omit [Gv] in
theorem fold_splice (off : Nat) : ∀ (vs : List Value) (k : Nat) (c : Array Value), off + k + vs.length ≤ c.size →
    (vs.zipIdx k).foldl (fun cs (x : Value × Nat) => cs.setIfInBounds (off + x.2) x.1) c = (c.toList.take (off + k) ++ vs ++ c.toList.drop (off + k + vs.length)).toArray := by
  intro vs
  induction vs with
  | nil => intro k c _; simp
  | cons x xs ih =>
    intro k c hk
    simp only [List.length_cons] at hk
    simp only [List.zipIdx_cons, List.foldl_cons]
    rw [ih (k + 1) _ (by simp; omega)]
    congr 1
    have e := list_seg_step c.toList (off + k) x xs (by simp; omega)
    simpa [Array.toList_setIfInBounds, Nat.add_assoc] using e

/-- Parts laid into cells, each of its own size. -/
theorem fillB_ok {o : Bool} (hh : HpRel P w ι hp) {pl : Nat → Option (Nat × Nat)} : ∀ (parts : List (Nat × AV)) (vparts : List (Nat × Value)) (cells cs : List AV) (cur : Array Value), parts.length = vparts.length →
    (∀ k, k < parts.length → ∃ i a v, parts[k]? = some (i, a) ∧ vparts[k]? = some (i, v) ∧ VR P w ι o a v) → cells.length = cur.size →
    (∀ j, j < cells.length → (cur.getD j undef).oneCell' = true) → (∀ j, j < cells.length → VR P w ι o (cells.getD j .any) (cur.getD j undef)) → fillA hp pl cells parts = some cs →
    ∃ cur', Instr.fill pl cur vparts = some cur' ∧ cs.length = cur'.size ∧ (∀ j, j < cs.length → (cur'.getD j undef).oneCell' = true) ∧ ∀ j, j < cs.length → VR P w ι o (cs.getD j .any) (cur'.getD j undef)
  | [], [], cells, cs, cur, _, _, hl, h1, hr, h => by
    simp only [fillA, Option.some.injEq] at h
    subst h
    exact ⟨cur, rfl, hl, h1, hr⟩
  | (i, a) :: rest, [], _, _, _, hlen, _, _, _, _, _ => by simp at hlen
  | [], _ :: _, _, _, _, hlen, _, _, _, _, _ => by simp at hlen
  | (i, a) :: rest, (i', v) :: vrest, cells, cs, cur, hlen, hp', hl, h1, hr, h => by
    obtain ⟨i0, a0, v0, e1, e2, hav⟩ := hp' 0 (by simp)
    simp only [List.getElem?_cons_zero, Option.some.injEq, Prod.mk.injEq] at e1 e2
    obtain ⟨ei, ea⟩ := e1
    obtain ⟨ei', ev⟩ := e2
    have e3 : i = i' := ei.trans ei'.symm
    subst e3
    rw [← ea, ← ev] at hav
    clear ei ea ei' ev
    unfold fillA at h
    split at h
    · simp at h
    · rename_i off size hpl
      split at h
      · simp at h
      · rename_i ws hws
        split at h
        · rename_i hfit
          obtain ⟨c1, c2, c3, c4⟩ := cellsOf_rel hh hav hws
          have hvl : v.cells.toList.length = size := by simpa using c1
          have hfit2 : off + v.cells.toList.length ≤ cur.size := by rw [hvl]; omega
          have hcl : off + ws.length ≤ cells.length := by omega
          have hal := spliceA_length cells ws off hcl
          rw [c2] at hal
          have hss := splice_size cur v.cells.toList off hfit2
          have hf := fold_splice off v.cells.toList 0 cur (by rw [Nat.add_zero]; exact hfit2)
          simp only [Nat.add_zero] at hf
          have hz : v.cells.zipIdx.foldl (fun cs (x : Value × Nat) => cs.setIfInBounds (off + x.2) x.1) cur = (cur.toList.take off ++ v.cells.toList ++ cur.toList.drop (off + v.cells.toList.length)).toArray := by
            rw [← hf, ← Array.foldl_toList, Array.toList_zipIdx]
          obtain ⟨cur', f1, f2, f3, f4⟩ := fillB_ok hh rest vrest _ cs _ (by simpa using hlen)
            (fun k hk => by simpa using hp' (k + 1) (by simpa using hk)) (by rw [hal, hss]; exact hl)
            (by
              intro j hj
              rw [hal] at hj
              rw [splice_getD _ _ _ _ hfit2, toList_getD]
              split
              · exact h1 j hj
              · split
                · exact c3 _ (by omega)
                · exact h1 j hj)
            (by
              intro j hj
              rw [hal] at hj
              have e := spliceA_getD cells ws off j hcl
              rw [c2] at e
              rw [splice_getD _ _ _ _ hfit2, toList_getD, e, hvl]
              split
              · exact hr j hj
              · split
                · exact c4 _ (by omega)
                · exact hr j hj) h
          refine ⟨cur', ?_, f2, f3, f4⟩
          unfold Instr.fill
          rw [hpl]
          simp only
          rw [if_neg (by simp [c1]; omega)]
          rw [hz]
          exact f1
        · simp at h


omit [Gv] in
theorem placeA_spec {t : TypeId} {pl : Nat → Option (Nat × Nat)} {parts : Array (Nat × Value)} {z : Value} {cur' : Array Value} {i : TypeInfo} (h : placeA P t = some pl) (hs : sized P t = true) (hi : P.info? t = some i) (hz : i.zero = some z) (hf : Instr.fill pl z.cells parts.toList = some cur') :
    (Instr.build t parts).run P w = .ok (.agg cur') w := by
  unfold placeA at h
  split at h
  · rename_i fs hu
    simp only [Option.some.injEq] at h
    subst h
    unfold sized at hs
    rw [hu] at hs
    simp only [List.all_eq_true] at hs
    have gen : ∀ (g : Field → Sem (Nat × Nat)), (∀ f, (P.info? f.type).isSome = true → (g f).run P w = .ok (f.offset, P.cellsOf f.type) w) → ∀ (l : List Field), (∀ f ∈ l, (P.info? f.type).isSome = true) → (l.mapM g).run P w = .ok (l.map fun f => (f.offset, P.cellsOf f.type)) w := by
      intro g hg l
      induction l with
      | nil => intro _; rfl
      | cons f r ih =>
        intro hl
        simp [List.mapM_cons, hg f (hl f (by simp)), ih (fun g hg => hl g (by simp [hg]))]
    have hone : ∀ f : Field, (P.info? f.type).isSome = true → (Prod.mk f.offset <$> sizeOf f.type : Sem (Nat × Nat)).run P w = .ok (f.offset, P.cellsOf f.type) w := by
      intro f hf
      obtain ⟨j, hj⟩ := Option.isSome_iff_exists.1 hf
      simp [sizeOf, typeInfo, hj, Program.cellsOf]
    have hm := gen _ hone fs.toList hs
    unfold Instr.build
    simp only [zeroValue, typeInfo, hi, hz]
    simp [run_underlying hu, hi, hz, hm]
    rw [Array.mapM_eq_mapM_toList]
    simp [hm, hf]
  · rename_i n e hu
    simp only [Option.some.injEq] at h
    subst h
    unfold sized at hs
    rw [hu] at hs
    obtain ⟨j, hj⟩ := Option.isSome_iff_exists.1 hs
    unfold Instr.build
    simp only [zeroValue, typeInfo, hi, hz]
    have hce : P.cellsOf e = j.size := by simp [Program.cellsOf, hj]
    rw [hce] at hf
    simp [run_underlying hu, hi, hz, sizeOf, typeInfo, hj, hf]
  · simp at h


omit [Gv] in
theorem isPtr_spec {t : TypeId} (h : isPtr P t = true) : ∃ e, P.underlying t = some (.pointer e) ∧ P.cellsOf e ≠ 0 := by
  unfold isPtr at h
  split at h
  · exact ⟨_, by assumption, by simpa using h⟩
  · simp at h

omit [Gv] in
theorem run_eqGuard_ptr (op : BinOp) (t : TypeId) (x y : Operand) (a b : Option Addr) : (eqGuard op t x y (.pointer a) (.pointer b)).run P w = .ok () w := by
  unfold eqGuard
  split <;> rfl

omit [Gv] in
/-- Pointers held against each other. -/
theorem run_ptr_eq {t : TypeId} (ht : isPtr P t = true) (x y : Operand) (a b : Option Addr) (r : Bool) (h : (a = none ∧ r = b.isNone) ∨ (∃ a', a = some a' ∧ b = none ∧ r = false) ∨ ∃ a' b', a = some a' ∧ b = some b' ∧ a'.block = b'.block ∧ r = (a' == b')) :
    (do eqGuard .eql t x y (.pointer a) (.pointer b); binOp .eql t (.pointer a) (.pointer b) : Sem Value).run P w = .ok (.bool r) w ∧
    (do eqGuard .neq t x y (.pointer a) (.pointer b); binOp .neq t (.pointer a) (.pointer b) : Sem Value).run P w = .ok (.bool !r) w := by
  obtain ⟨e, hu, hz⟩ := isPtr_spec ht
  obtain ⟨i, hi, hs⟩ := info_of_pos (P := P) (Nat.pos_of_ne_zero hz)
  have key : ∀ d, (Op.equalIn (d + 1) t (.pointer a) (.pointer b)).run P w = .ok r w := by
    intro d
    unfold Op.equalIn
    rcases h with ⟨rfl, rfl⟩ | ⟨a', rfl, rfl, rfl⟩ | ⟨a', b', rfl, rfl, hb, rfl⟩
    · simp [run_underlying hu]
    · simp [run_underlying hu]
    · have : ¬ i.size = 0 := by rw [hs]; exact hz
      simp [run_underlying hu, sizeOf, typeInfo, hi, this, sameAddr, hb]
  have he : (Op.equal t (.pointer a) (.pointer b)).run P w = .ok r w := key 9999
  constructor
  · rw [Sem.run_bind, run_eqGuard_ptr, Result.andThen_ok]
    show (do pure (Value.bool (← Op.equal t (.pointer a) (.pointer b))) : Sem Value).run P w = _
    rw [Sem.run_bind, he]
    rfl
  · rw [Sem.run_bind, run_eqGuard_ptr, Result.andThen_ok]
    show (do pure (Value.bool (!(← Op.equal t (.pointer a) (.pointer b)))) : Sem Value).run P w = _
    rw [Sem.run_bind, he]
    rfl

omit [Gv] in
theorem liesAt_self {t : TypeId} {count : Nat} (hc : 0 < P.cellsOf t) (hn : 1 ≤ count) : liesAt P P.depth t count 0 t 1 = true := by
  obtain ⟨d, hd⟩ : ∃ d, P.depth = d + 1 := ⟨2 * (P.types.size + Made.depth) + 1, by unfold Program.depth; omega⟩
  have hs : sameLayout P P.depth t t = true := by rw [hd]; simp [sameLayout]
  have hr : rowAt P (fun x => sameLayout P P.depth x t) P.depth t count 0 1 = true := by
    rw [hd]
    unfold rowAt
    rw [← hd]
    have hz : ¬ P.cellsOf t = 0 := by omega
    simp [hz, hn, hs]
  rw [hd]
  unfold liesAt
  rw [hr]
  rfl

omit [Gv] in
theorem shape_of {g : Nat} {cur : Array Value} {e : TypeId} {fz : Nat × Nat} (h : w.heap[g]? = some (.cells cur e fz)) : w.shape? g = some (e, cur.size) := by
  simp [World.shape?, h]

set_option maxHeartbeats 1000000 in
theorem op2_ok {ev : Operand → AV} {ρ : Operand → Value} {o : Oper} {cks : List Ck} {av : AV} {cmd : Cmd} (hρ : ∀ x ∈ o.op.operands, VR P w ι true (ev x) (ρ x)) (hh : HpRel P w ι hp)
    (h : aOp2 P ev hp o = some (cks, av, cmd)) (hc : Ck.conj cks) : OpPost P w ι ((execOp ρ o).run P w) av cmd hp := by
  unfold aOp2 at h
  split at h
  · -- alloc
    rename_i t ho
    split at h
    · rename_i z hz
      simp only [Option.some.injEq, Prod.mk.injEq] at h
      obtain ⟨rfl, rfl, rfl⟩ := h
      obtain ⟨i, zv, hi, hzv, rfl, hsz, _, hone⟩ := zeroOf_spec hz
      have get : ∀ j, j < zv.cells.size → zv.cells.getD j undef = zv.cells[j]! ∧ (zv.cells.toList.map AV.c).getD j .any = .c (zv.cells[j]!) := by
        intro j hj
        simp [Array.getD, List.getD, hj]
      obtain ⟨w', ι', rfl, e, h2, hv, hq⟩ := newVar_ok (t := t) (cs := zv.cells.toList.map AV.c) (cur := zv.cells) hh (by simp)
        (fun j hj => by
          have hj' : j < zv.cells.size := by simpa using hj
          rw [(get j hj').1, getElem!_pos zv.cells j hj']
          exact hone _ (by simp))
        (fun j hj => by
          have hj' : j < zv.cells.size := by simpa using hj
          rw [(get j hj').1, (get j hj').2]
          exact .c)
      refine OpPost.of_value (r := Instr.alloc t true (.tuple #[])) (by simp only [execOp, ho]) ?_ e h2 hv hq
      simp [Instr.alloc, zeroValue, typeInfo, hi, hzv, newVar, newRow]
    · simp at h
  · -- box
    rename_i t x ho
    split at h
    · rename_i cs hcs
      simp only [Option.some.injEq, Prod.mk.injEq] at h
      obtain ⟨rfl, rfl, rfl⟩ := h
      obtain ⟨c1, c2, c3, c4⟩ := cellsOf_rel hh (hρ x (by simp [ho, Op.operands])) hcs
      obtain ⟨w', ι', rfl, e, h2, hv, hq⟩ := newVar_ok (t := t) (cs := cs) (cur := (ρ x).cells) hh (by omega) (fun j hj => c3 j (by omega)) (fun j hj => c4 j (by omega))
      refine OpPost.of_value (r := Instr.box t (ρ x)) (by simp only [execOp, ho]) ?_ e h2 hv hq
      simp [Instr.box, newVar, newRow]
    · simp at h
  · -- nilCheck
    rename_i x ho
    have hx := hρ x (by simp [ho, Op.operands])
    split at h
    · rename_i b off ha
      rw [ha] at hx
      split at h
      · rename_i B hb
        simp only [Option.some.injEq, Prod.mk.injEq] at h
        obtain ⟨rfl, rfl, rfl⟩ := h
        obtain ⟨g, cur, e, fz, hv, _, _⟩ := hx.ptShape (hh.notDead hb)
        refine .pure_ hh ?_ hx
        simp [execOp, ho, hv]
      · simp at h
    · rename_i l ha
      rw [ha] at hx
      simp only [Option.some.injEq, Prod.mk.injEq] at h
      obtain ⟨rfl, rfl, rfl⟩ := h
      obtain ⟨g, off, hv, _⟩ := hx.fpDrop 0
      refine .pure_ hh ?_ hx
      simp [execOp, ho, hv]
    · rename_i f l ha
      rw [ha] at hx
      simp only [Option.some.injEq, Prod.mk.injEq] at h
      obtain ⟨rfl, rfl, rfl⟩ := h
      obtain ⟨cs, hv⟩ : ∃ cs, ρ x = .func (.func f) #[] cs := by
        generalize ρ x = vx at hx
        cases hx with
        | fn _ _ => exact ⟨_, rfl⟩
      refine .pure_ (v := ρ x) hh ?_ hx
      simp [execOp, ho, hv]
    · simp at h
  · -- fieldAddr
    rename_i t x i ho
    have hx := hρ x (by simp [ho, Op.operands])
    split at h
    · rename_i off' u hf
      obtain ⟨fs, f, hu, hfi, rfl, rfl, hz⟩ := fieldOff_spec hf
      obtain ⟨inf, hi, hs⟩ := info_of_pos hz
      have hz' : ¬ inf.size = 0 := by omega
      have hrun : ∀ g off, (Instr.fieldAt t (.pointer (some ⟨g, off, none⟩)) i).run P w = .ok (.pointer (some ⟨g, off + f.offset, none⟩)) w := by
        intro g off
        unfold Instr.fieldAt fieldPlace
        simp [run_underlying hu, hfi, Instr.sureAddr, sizeOf, typeInfo, hi, hz', addr_add]
      split at h
      · rename_i b off ha
        rw [ha] at hx
        split at h
        · rename_i B hb
          simp only [Option.some.injEq, Prod.mk.injEq] at h
          obtain ⟨rfl, rfl, rfl⟩ := h
          obtain ⟨g, cur, e, fz, hv, hg, hcur⟩ := hx.ptShape (hh.notDead hb)
          refine OpPost.of_value (by simp only [execOp, ho, hv]) (hrun g off) (Ext.refl _ _) hh (.pt hg hcur) ⟨rfl, rfl⟩
        · simp at h
      · rename_i l ha
        rw [ha] at hx
        simp only [Option.some.injEq, Prod.mk.injEq] at h
        obtain ⟨rfl, rfl, rfl⟩ := h
        obtain ⟨g, off, hv, hd⟩ := hx.fpDrop f.offset
        exact OpPost.of_value (by simp only [execOp, ho, hv]) (hrun g off) (Ext.refl _ _) hh hd ⟨rfl, rfl⟩
      · simp at h
    · simp at h
  · -- field
    rename_i t x i ho
    have hx := hρ x (by simp [ho, Op.operands])
    split at h
    · rename_i off' u hf
      obtain ⟨fs, f, hu, hfi, rfl, rfl, hz⟩ := fieldOff_spec hf
      split at h
      · rename_i l ha
        rw [ha] at hx
        cases hld : ldAV P f.type (l.drop f.offset) with
        | none => rw [hld] at h; simp at h
        | some r =>
          obtain ⟨ks, v⟩ := r
          rw [hld] at h
          simp only [Option.map_some, Option.some.injEq, Prod.mk.injEq] at h
          obtain ⟨rfl, rfl, rfl⟩ := h
          obtain ⟨cs, hv, hl, h1, hr⟩ := hx.agInv
          obtain ⟨u, hu1, hu2⟩ := run_part hl h1 hr hld hc
          refine OpPost.of_value (r := Instr.field t (.agg cs) i) (by simp only [execOp, ho, hv]) ?_ (Ext.refl _ _) hh hu2 ⟨rfl, rfl⟩
          unfold Instr.field
          simp [run_underlying hu, hfi, asAgg, hu1]
      · simp at h
    · simp at h
  · -- index
    rename_i t x i ho
    have hx := hρ x (by simp [ho, Op.operands])
    have hi := hρ i (by simp [ho, Op.operands])
    split at h
    · rename_i n e ha
      obtain ⟨hu, hz⟩ := arrOf_spec ha
      obtain ⟨inf, hinf, hs⟩ := info_of_pos hz
      split at h
      · rename_i l k i' hax hai
        rw [hax] at hx
        rw [hai] at hi
        cases hld : ldAV P e (l.drop (mulS i'.toNat (P.cellsOf e))) with
        | none => rw [hld] at h; simp at h
        | some r =>
          obtain ⟨ks, v⟩ := r
          rw [hld] at h
          simp only [Option.map_some, Option.some.injEq, Prod.mk.injEq] at h
          obtain ⟨rfl, rfl, rfl⟩ := h
          obtain ⟨h0, h1', hc'⟩ := hc
          simp only [ck] at h0 h1'
          obtain ⟨cs, hv, hl, h1, hr⟩ := hx.agInv
          obtain ⟨u, hu1, hu2⟩ := run_part hl h1 hr hld hc'
          rw [mulS_eq] at hu1
          refine OpPost.of_value (r := Instr.index t (.agg cs) (.int k i')) (by simp only [execOp, ho, hv, hi.cInv]) ?_ (Ext.refl _ _) hh hu2 ⟨rfl, rfl⟩
          unfold Instr.index
          simp [run_underlying hu, asIntOf, h0, h1', sizeOf, typeInfo, hinf, hs, hu1]
      · simp at h
    · simp at h
  · -- indexAddr
    rename_i t x i ho
    have hx := hρ x (by simp [ho, Op.operands])
    have hi := hρ i (by simp [ho, Op.operands])
    split at h
    · rename_i n e ha
      obtain ⟨hu, hz⟩ := arrOf_spec ha
      obtain ⟨inf, hinf, hs⟩ := info_of_pos hz
      have hrun : ∀ g off (k : IntKind) (i' : Int), 0 ≤ i' → i' < n → (Instr.indexAt t (.pointer (some ⟨g, off, none⟩)) (.int k i')).run P w = .ok (.pointer (some ⟨g, off + i'.toNat * P.cellsOf e, none⟩)) w := by
        intro g off k i' h0 h1
        unfold Instr.indexAt
        simp [run_underlying hu, asIntOf, Instr.sureAddr, h0, h1, sizeOf, typeInfo, hinf, hs, addr_add]
      split at h
      · rename_i b off k i' hax hai
        rw [hax] at hx
        rw [hai] at hi
        split at h
        · rename_i B hb
          simp only [Option.some.injEq, Prod.mk.injEq] at h
          obtain ⟨rfl, rfl, rfl⟩ := h
          obtain ⟨h0, h1, _⟩ := hc
          simp only [ck] at h0 h1
          obtain ⟨g, cur, e', fz, hv, hg, hcur⟩ := hx.ptShape (hh.notDead hb)
          rw [mulS_eq]
          exact OpPost.of_value (by simp only [execOp, ho, hv, hi.cInv]) (hrun g off k i' h0 h1) (Ext.refl _ _) hh (.pt hg hcur) ⟨rfl, rfl⟩
        · simp at h
      · rename_i l k i' hax hai
        rw [hax] at hx
        rw [hai] at hi
        simp only [Option.some.injEq, Prod.mk.injEq] at h
        obtain ⟨rfl, rfl, rfl⟩ := h
        obtain ⟨h0, h1, _⟩ := hc
        simp only [ck] at h0 h1
        obtain ⟨g, off, hv, hd⟩ := hx.fpDrop (i'.toNat * P.cellsOf e)
        rw [mulS_eq]
        exact OpPost.of_value (by simp only [execOp, ho, hv, hi.cInv]) (hrun g off k i' h0 h1) (Ext.refl _ _) hh hd ⟨rfl, rfl⟩
      · simp at h
    · simp at h
  · -- build
    rename_i t parts ho
    split at h
    · rename_i pl z hpl hz
      split at h
      · rename_i hsz
        split at h
        · rename_i cs hcs
          simp only [Option.some.injEq, Prod.mk.injEq] at h
          obtain ⟨rfl, rfl, rfl⟩ := h
          obtain ⟨i, zv, hi, hzv, rfl, _, _, hone⟩ := zeroOf_spec hz
          have get : ∀ j, j < zv.cells.size → zv.cells.getD j undef = zv.cells[j]! ∧ (zv.cells.toList.map AV.c).getD j .any = .c (zv.cells[j]!) := by
            intro j hj
            simp [Array.getD, List.getD, hj]
          obtain ⟨cur', f1, f2, f3, f4⟩ := fillB_ok (o := true) hh _ (parts.map fun (i, x) => (i, ρ x)).toList _ cs zv.cells (by simp)
            (fun k hk => by
                simp only [List.length_map] at hk
                refine ⟨(parts.toList[k]).1, ev (parts.toList[k]).2, ρ (parts.toList[k]).2, by rw [List.getElem?_map, List.getElem?_eq_getElem hk]; rfl, by rw [Array.toList_map, List.getElem?_map, List.getElem?_eq_getElem hk]; rfl, ?_⟩
                exact hρ _ (by simp only [ho, Op.operands, List.mem_toArray, List.mem_map]; exact ⟨_, List.getElem_mem hk, rfl⟩))
            (by simp)
            (fun j hj => by
              have hj' : j < zv.cells.size := by simpa using hj
              rw [(get j hj').1, getElem!_pos zv.cells j hj']
              exact hone _ (by simp))
            (fun j hj => by
              have hj' : j < zv.cells.size := by simpa using hj
              rw [(get j hj').1, (get j hj').2]
              exact .c) (fillQ_fillA hcs)
          exact OpPost.of_value (by simp only [execOp, ho]) (placeA_spec hpl hsz hi hzv f1) (Ext.refl _ _) hh (.ag f2 f3 f4) ⟨rfl, rfl⟩
        · simp at h
      · simp at h
    · simp at h
  · -- extract
    rename_i x i ho
    have hx := hρ x (by simp [ho, Op.operands])
    split at h
    · rename_i l ha
      rw [ha] at hx
      split at h
      · rename_i v hv
        simp only [Option.some.injEq, Prod.mk.injEq] at h
        obtain ⟨rfl, rfl, rfl⟩ := h
        obtain ⟨cs, he, hl, hr⟩ := hx.tuInv
        have hlt : i < l.length := (List.getElem?_eq_some_iff.1 hv).1
        have hlt' : i < cs.size := by omega
        have hrr := hr i hlt
        have e1 : l.getD i .any = v := by simp [List.getD, hv]
        rw [e1] at hrr
        refine OpPost.of_value (r := Instr.extract (.tuple cs) i) (by simp only [execOp, ho, he]) (v := cs.getD i undef) ?_ (Ext.refl _ _) hh hrr ⟨rfl, rfl⟩
        unfold Instr.extract
        simp [hlt', Array.getD]
      · simp at h
    · simp at h
  · -- range
    rename_i t x ho
    have hx := hρ x (by simp [ho, Op.operands])
    split at h
    · rename_i hs
      split at h
      · rename_i s ha
        rw [ha] at hx
        simp only [Option.some.injEq, Prod.mk.injEq] at h
        obtain ⟨rfl, rfl, rfl⟩ := h
        obtain ⟨⟨s⟩⟩ := s
        obtain ⟨e, h2⟩ := hh.pushIter (B := ⟨0, true, [.iter (sb ⟨⟨s⟩⟩) 0]⟩) rfl rfl (pushed_alloc w (.stringIter ⟨⟨s⟩⟩ 0))
        refine OpPost.of_value (by simp only [execOp, ho, hx.cInv]) (run_range_string w t _ (isStr_spec hs)) e h2 (.itr (by simp)) ?_
        intro g hg
        exact (pushed_alloc w _).old hg
      · simp at h
    · simp at h
  · -- makeFunc
    rename_i f first cap ho
    split at h
    · rename_i hz
      simp only [Option.some.injEq, Prod.mk.injEq] at h
      obtain ⟨rfl, rfl, rfl⟩ := h
      have hf : first = #[] := Array.eq_empty_of_size_eq_zero hz
      subst hf
      refine OpPost.of_value (r := Instr.makeFunc (.func f) (#[].map ρ) (cap.map ρ)) (by simp only [execOp, ho]) (v := .func (.func f) #[] (cap.map ρ)) (by simp [Instr.makeFunc]) (Ext.refl _ _) hh ?_ ⟨rfl, rfl⟩
      refine .fn (by simp) fun j hj => ?_
      have hj' : j < cap.size := by simpa using hj
      have e1 : (cap.toList.map ev).getD j .any = ev cap[j] := by simp [List.getD, hj']
      have e2 : (cap.map ρ).getD j undef = ρ cap[j] := by simp [Array.getD, hj']
      rw [e1, e2]
      exact hρ _ (by simp [ho, Op.operands])
    · simp at h
  · -- pointers
    rename_i op t x y yt ho
    have hx := hρ x (by simp [ho, Op.operands])
    have hy := hρ y (by simp [ho, Op.operands])
    split at h
    · rename_i ht
      have fin : ∀ {a b : Option Addr} {r : Bool}, ρ x = .pointer a → ρ y = .pointer b → ((a = none ∧ r = b.isNone) ∨ (∃ a', a = some a' ∧ b = none ∧ r = false) ∨ ∃ a' b', a = some a' ∧ b = some b' ∧ a'.block = b'.block ∧ r = (a' == b')) →
          (op = .eql → OpPost P w ι ((execOp ρ o).run P w) (.c (.bool r)) .nop hp) ∧ (op = .neq → OpPost P w ι ((execOp ρ o).run P w) (.c (.bool !r)) .nop hp) := by
        intro a b r ha hb hr
        obtain ⟨r1, r2⟩ := run_ptr_eq (P := P) (w := w) ht x y a b r hr
        constructor
        · rintro rfl
          exact OpPost.of_value (by simp only [execOp, ho, ha, hb]) r1 (Ext.refl _ _) hh .c ⟨rfl, rfl⟩
        · rintro rfl
          exact OpPost.of_value (by simp only [execOp, ho, ha, hb]) r2 (Ext.refl _ _) hh .c ⟨rfl, rfl⟩
      split at h
      · rename_i b off ha hb
        rw [ha] at hx; rw [hb] at hy
        split at h
        · rename_i B hB
          simp only [Option.some.injEq, Prod.mk.injEq] at h
          obtain ⟨rfl, rfl, rfl⟩ := h
          obtain ⟨g, cur, e', fz, hv, hg, hcur⟩ := hx.ptShape (hh.notDead hB)
          exact (fin (r := false) hv hy.cInv (.inr (.inl ⟨_, rfl, rfl, rfl⟩))).1 rfl
        · simp at h
      · rename_i b off ha hb
        rw [ha] at hx; rw [hb] at hy
        split at h
        · rename_i B hB
          simp only [Option.some.injEq, Prod.mk.injEq] at h
          obtain ⟨rfl, rfl, rfl⟩ := h
          obtain ⟨g, cur, e', fz, hv, hg, hcur⟩ := hx.ptShape (hh.notDead hB)
          exact (fin (r := false) hv hy.cInv (.inr (.inl ⟨_, rfl, rfl, rfl⟩))).2 rfl
        · simp at h
      · rename_i l ha hb
        rw [ha] at hx; rw [hb] at hy
        simp only [Option.some.injEq, Prod.mk.injEq] at h
        obtain ⟨rfl, rfl, rfl⟩ := h
        obtain ⟨g, off, hv, _⟩ := hx.fpDrop 0
        exact (fin (r := false) hv hy.cInv (.inr (.inl ⟨_, rfl, rfl, rfl⟩))).1 rfl
      · rename_i l ha hb
        rw [ha] at hx; rw [hb] at hy
        simp only [Option.some.injEq, Prod.mk.injEq] at h
        obtain ⟨rfl, rfl, rfl⟩ := h
        obtain ⟨g, off, hv, _⟩ := hx.fpDrop 0
        exact (fin (r := false) hv hy.cInv (.inr (.inl ⟨_, rfl, rfl, rfl⟩))).2 rfl
      · rename_i b off b' off' ha hb
        rw [ha] at hx; rw [hb] at hy
        split at h
        · rename_i B hB
          split at h
          · rename_i hbb
            subst hbb
            simp only [Option.some.injEq, Prod.mk.injEq] at h
            obtain ⟨rfl, rfl, rfl⟩ := h
            obtain ⟨g, cur, e', fz, hv, hg, hcur⟩ := hx.ptShape (hh.notDead hB)
            obtain ⟨g2, cur2, e2, fz2, hv2, hg2, hcur2⟩ := hy.ptShape (hh.notDead hB)
            rw [hg] at hg2; cases hg2
            have er : (off == off') = ((⟨g, off, none⟩ : Addr) == ⟨g, off', none⟩) := by
              rw [Bool.eq_iff_iff]
              simp
            rw [er]
            exact (fin hv hv2 (.inr (.inr ⟨_, _, rfl, rfl, rfl, rfl⟩))).1 rfl
          · simp at h
        · simp at h
      · rename_i b off b' off' ha hb
        rw [ha] at hx; rw [hb] at hy
        split at h
        · rename_i B hB
          split at h
          · rename_i hbb
            subst hbb
            simp only [Option.some.injEq, Prod.mk.injEq] at h
            obtain ⟨rfl, rfl, rfl⟩ := h
            obtain ⟨g, cur, e', fz, hv, hg, hcur⟩ := hx.ptShape (hh.notDead hB)
            obtain ⟨g2, cur2, e2, fz2, hv2, hg2, hcur2⟩ := hy.ptShape (hh.notDead hB)
            rw [hg] at hg2; cases hg2
            have er : (off == off') = ((⟨g, off, none⟩ : Addr) == ⟨g, off', none⟩) := by
              rw [Bool.eq_iff_iff]
              simp
            rw [er]
            exact (fin hv hv2 (.inr (.inr ⟨_, _, rfl, rfl, rfl, rfl⟩))).2 rfl
          · simp at h
        · simp at h
      · simp at h
    · simp at h
  · -- pointers turned
    rename_i s d x ho
    have hx := hρ x (by simp [ho, Op.operands])
    split at h
    · rename_i t b hs hd ha
      rw [ha] at hx
      split at h
      · rename_i B hb
        split at h
        · rename_i hc0
          simp only [Option.some.injEq, Prod.mk.injEq] at h
          obtain ⟨rfl, rfl, rfl⟩ := h
          obtain ⟨g, cur, e, fz, hv, hg, hcur⟩ := hx.ptShape (hh.notDead hb)
          obtain ⟨cur', fz', hcur', _, hlen, _⟩ := (hh.live hb).cells hg hcur
          obtain ⟨inf, hinf, hsz⟩ := info_of_pos hc0.1
          refine OpPost.of_value (by simp only [execOp, ho, hv]) (Lib.run_to_unsafe w (e := B.e) (cells := cur'.size) (j := inf) ⟨g, 0, none⟩ hs hd hinf (by omega) (shape_of hcur') (by show 0 < cur'.size; omega)) (Ext.refl _ _) hh (.pt hg hcur) ⟨rfl, rfl⟩
        · simp at h
      · simp at h
    · rename_i t b hs hd ha
      rw [ha] at hx
      split at h
      · rename_i B hb
        split at h
        · rename_i hc0
          simp only [Option.some.injEq, Prod.mk.injEq] at h
          obtain ⟨rfl, rfl, rfl⟩ := h
          obtain ⟨g, cur, e, fz, hv, hg, hcur⟩ := hx.ptShape (hh.notDead hb)
          obtain ⟨cur', fz', hcur', _, hlen, _⟩ := (hh.live hb).cells hg hcur
          obtain ⟨inf, hinf, hsz⟩ := info_of_pos hc0.1
          have hcnt : 1 ≤ cur'.size / P.cellsOf t := (Nat.le_div_iff_mul_le hc0.1).2 (by omega)
          refine OpPost.of_value (by simp only [execOp, ho, hv]) (Lib.run_from_unsafe w (e := B.e) (cells := cur'.size) (j := inf) ⟨g, 0, none⟩ hs hd hinf (shape_of hcur') (by rw [hc0.2.1]; exact liesAt_self hc0.1 hcnt)) (Ext.refl _ _) hh (.pt hg hcur) ⟨rfl, rfl⟩
        · simp at h
      · simp at h
    · simp at h
  · -- unsafeSliceData
    rename_i args argTypes ho
    split at h
    · rename_i x t ha ht
      have ha' := toList_one ha
      have ht' := toList_one ht
      subst ha'; subst ht'
      have hx := hρ x (by simp [ho, Op.operands, Call.operands])
      split at h
      · rename_i e b n he hax
        rw [hax] at hx
        split at h
        · rename_i B hb
          split at h
          · rename_i hBe
            simp only [Option.some.injEq, Prod.mk.injEq] at h
            obtain ⟨rfl, rfl, rfl⟩ := h
            have h0 := hc.1
            simp only [ck] at h0
            obtain ⟨g, cap, cur, fz, hg, hcur, hn, hs, hm, hv⟩ := hx.slPlace (hh.live hb) h0
            simp only [Nat.zero_mul] at hv
            have hcap : ¬ cap = 0 := by omega
            refine OpPost.pure_ hh ?_ (.pt hg hcur)
            have hrun : (Builtin.unsafeSliceData_ #[t] o.type #[.slice (some ⟨g, 0, none⟩) n cap]).run P w = .ok (.pointer (some ⟨g, 0, none⟩)) w := by
              show (if cap ≠ 0 then pure (.pointer (some ⟨g, 0, none⟩)) else _ : Sem Value).run P w = _
              rw [if_pos hcap]
              rfl
            simp [execOp, ho, resolve, invoke, builtin, hv, hrun]
          · simp at h
        · simp at h
      · simp at h
    · simp at h
  · -- unsafeString of nothing
    rename_i args argTypes ho
    split at h
    · rename_i p n t1 t2 ha ht
      have ha' := toList_two ha
      have ht' := toList_two ht
      subst ha'; subst ht'
      have hpv := hρ p (by simp [ho, Op.operands, Call.operands])
      have hnv := hρ n (by simp [ho, Op.operands, Call.operands])
      split at h
      · rename_i hp1 hn1
        rw [hp1] at hpv
        rw [hn1] at hnv
        simp only [Option.some.injEq, Prod.mk.injEq] at h
        obtain ⟨rfl, rfl, rfl⟩ := h
        have hrun : (Builtin.unsafeString_ #[t1, t2] o.type #[.pointer none, .int .i64 0]).run P w = .ok (str []) w := by
          rfl
        refine OpPost.pure_ hh ?_ .c
        simp [execOp, ho, resolve, invoke, builtin, hpv.cInv, hnv.cInv, hrun]
      · simp at h
    · simp at h
  · simp at h

end Go.Proofs.Ytljgmgbjfjhjmaa
