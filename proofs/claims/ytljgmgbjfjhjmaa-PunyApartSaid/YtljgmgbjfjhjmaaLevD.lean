/- Each single operation does what its abstract twin says: those that read and write memory. -/
import Derived.Test.YtljgmgbjfjhjmaaLevC
namespace Go.Proofs.Ytljgmgbjfjhjmaa
open Go.RowKit
set_option linter.unusedSimpArgs false
set_option linter.unusedVariables false

variable [Gv]
variable {P : Program} {w : World} {ι : Pl} {hp : Heap}

omit [Gv] in
theorem elemOf_spec {t e : TypeId} (h : elemOf P t = some e) : P.underlying t = some (.slice e) ∧ 0 < P.cellsOf e ∧ ∃ i, P.info? e = some i ∧ i.size = P.cellsOf e := by
  unfold elemOf at h
  split at h
  · rename_i e' hu
    split at h
    · rename_i hz
      cases h
      refine ⟨hu, hz, ?_⟩
      unfold Program.cellsOf at hz ⊢
      cases hi : P.info? e with
      | none => simp [hi] at hz
      | some i => exact ⟨i, rfl, by simp⟩
    · simp at h
  · simp at h

omit [Gv] in
theorem isStr_spec {t : TypeId} (h : isStr P t = true) : P.underlying t = some .string := by
  unfold isStr at h
  split at h
  · assumption
  · simp at h

omit [Gv] in
theorem isU8_spec {t : TypeId} (h : isU8 P t = true) : P.underlying t = some (.int .u8) ∧ P.cellsOf t = 1 := by
  unfold isU8 at h
  split at h
  · exact ⟨by assumption, by simpa using h⟩
  · simp at h

theorem HpRel.live (h : HpRel P w ι hp) {b : Nat} {B : Blk} (hb : hp[b]? = some (some B)) : BlkOK P w ι b B := by
  have k := h.blk b
  rw [hb] at k
  exact k

theorem HpRel.notDead (h : HpRel P w ι hp) {b : Nat} {B : Blk} (hb : hp[b]? = some (some B)) : ι b ≠ .dead := by
  rcases h.live hb with ⟨k, _⟩ | ⟨g, _, _, k, _⟩ | ⟨g, _, _, k, _⟩ <;> rw [k] <;> simp

omit [Gv] in
theorem VR.slShape {b off n : Nat} {v : Value} (h : VR P w ι true (.sl b off n) v) (hd : ι b ≠ .dead) : ∃ a cap, v = .slice a n cap ∧ n ≤ cap := by
  cases h with
  | slDead k => exact absurd k hd
  | slZero => exact ⟨_, _, rfl, Nat.le_refl _⟩
  | slAt _ _ hn _ _ => exact ⟨_, _, rfl, hn⟩

omit [Gv] in
theorem VR.fsShape {o : Bool} {s n : Nat} {l : List AV} {v : Value} (h : VR P w ι o (.fs s n l) v) : ∃ a cap, v = .slice a n cap ∧ n ≤ cap := by
  cases h with
  | fsZero => exact ⟨_, _, rfl, Nat.zero_le _⟩
  | fs hn _ _ _ _ _ _ => exact ⟨_, _, rfl, hn⟩

omit [Gv] in
/-- A slice into an owned block that is not empty: where it lies. -/
theorem VR.slPlace {b off n : Nat} {v : Value} (h : VR P w ι true (.sl b off n) v) {B : Blk} (hB : BlkOK P w ι b B) (hn : 0 < n) :
    ∃ g cap cur fz, ι b = .here g ∧ w.heap[g]? = some (.cells cur B.e fz) ∧ n ≤ cap ∧ (off + cap) * P.cellsOf B.e = cur.size ∧ cap ≤ maxLen ∧ v = .slice (some ⟨g, off * P.cellsOf B.e, none⟩) n cap := by
  cases h with
  | slDead k => rcases hB with ⟨k1, _⟩ | ⟨g, _, _, k1, _⟩ | ⟨g, _, _, k1, _⟩ <;> rw [k] at k1 <;> cases k1
  | slZero => omega
  | slAt hg hh hn2 hs hm =>
    rename_i g cap cur e fz
    have he : B.e = e := by
      rcases hB with ⟨k1, _⟩ | ⟨g', cur', fz', k1, k2, _⟩ | ⟨g', _, _, k1, _, k2, _⟩
      · rw [hg] at k1; cases k1
      · rw [hg] at k1; cases k1
        rw [hh] at k2; cases k2; rfl
      · rw [hg] at k1; cases k1
        rw [hh] at k2; cases k2
    subst he
    exact ⟨g, cap, cur, fz, hg, hh, hn2, hs, hm, rfl⟩

omit [Gv] in
theorem run_len_slice {t e : TypeId} {ty : TypeId} {a : Option Addr} {n cap : Nat} (ht : P.underlying t = some (.slice e)) : (Builtin.len_ #[t] ty #[.slice a n cap]).run P w = .ok (.int .i64 n) w := by
  simp [Builtin.len_, run_underlying ht, goInt]

omit [Gv] in
theorem run_len_str {t : TypeId} {ty : TypeId} {s : ByteArray} (ht : P.underlying t = some .string) : (Builtin.len_ #[t] ty #[.string s]).run P w = .ok (.int .i64 s.size) w := by
  simp [Builtin.len_, run_underlying ht, goInt]

theorem len_ok {t ty : TypeId} {x : AV} {v : Value} {cks : List Ck} {av : AV} {cmd : Cmd} (hh : HpRel P w ι hp) (hv : VR P w ι true x v) (h : lenA P hp t x = some (cks, av, cmd)) :
    cmd = .nop ∧ ∃ u, (Builtin.len_ #[t] ty #[v]).run P w = .ok u w ∧ VR P w ι true av u := by
  unfold lenA at h
  split at h
  · rename_i hs
    split at h
    · rename_i s
      simp only [Option.some.injEq, Prod.mk.injEq] at h
      obtain ⟨_, rfl, rfl⟩ := h
      rw [hv.cInv]
      exact ⟨rfl, _, run_len_str (isStr_spec hs), by rw [sb_size]; exact .c⟩
    · simp at h
  · split at h
    · rename_i e he
      obtain ⟨hu, _, _⟩ := elemOf_spec he
      split at h
      · rename_i b off n
        split at h
        · rename_i B hb
          simp only [Option.some.injEq, Prod.mk.injEq] at h
          obtain ⟨_, rfl, rfl⟩ := h
          obtain ⟨a, cap, rfl, _⟩ := hv.slShape (hh.notDead hb)
          exact ⟨rfl, _, run_len_slice hu, .c⟩
        · simp at h
      · simp only [Option.some.injEq, Prod.mk.injEq] at h
        obtain ⟨_, rfl, rfl⟩ := h
        obtain ⟨a, cap, rfl, _⟩ := hv.fsShape
        exact ⟨rfl, _, run_len_slice hu, .c⟩
      · simp only [Option.some.injEq, Prod.mk.injEq] at h
        obtain ⟨_, rfl, rfl⟩ := h
        rw [hv.cInv]
        exact ⟨rfl, _, run_len_slice hu, .c⟩
      · simp at h
    · simp at h

omit [Gv] in
theorem run_indexAt {t e : TypeId} {g off n cap : Nat} {k : IntKind} {i : Int} (ht : P.underlying t = some (.slice e)) (hi : ∃ i, P.info? e = some i ∧ i.size = P.cellsOf e) (h0 : 0 ≤ i) (h1 : i < n) :
    (Instr.indexAt t (.slice (some ⟨g, off, none⟩) n cap) (.int k i)).run P w = .ok (.pointer (some ⟨g, off + i.toNat * P.cellsOf e, none⟩)) w := by
  obtain ⟨inf, h2, h3⟩ := hi
  unfold Instr.indexAt
  simp [asIntOf, run_underlying ht, h0, h1, sizeOf, typeInfo, h2, h3, Addr.add]

theorem idxAddr_ok {t : TypeId} {x i : AV} {v u : Value} {cks : List Ck} {av : AV} {cmd : Cmd} (hh : HpRel P w ι hp) (hv : VR P w ι true x v) (hu : VR P w ι true i u) (h : idxAddrA P hp t x i = some (cks, av, cmd)) (hc : Ck.conj cks) :
    cmd = .nop ∧ ∃ r, (Instr.indexAt t v u).run P w = .ok r w ∧ VR P w ι true av r := by
  unfold idxAddrA at h
  split at h
  · rename_i e he
    obtain ⟨ht, hz, hi⟩ := elemOf_spec he
    split at h
    · rename_i b off n k i
      split at h
      · rename_i B hb
        split at h
        · rename_i hBe
          simp only [Option.some.injEq, Prod.mk.injEq] at h
          obtain ⟨rfl, rfl, rfl⟩ := h
          obtain ⟨h0, h1, _⟩ := hc
          simp only [ck] at h0 h1
          obtain ⟨g, cap, cur, fz, hg, hcur, hn, hs, hm, rfl⟩ := hv.slPlace (hh.live hb) (by omega)
          rw [hu.cInv, hBe]
          refine ⟨rfl, _, run_indexAt ht hi h0 h1, ?_⟩
          rw [mulS_eq]
          have : off * P.cellsOf e + i.toNat * P.cellsOf e = (i.toNat + off) * P.cellsOf e := by rw [Nat.add_mul, Nat.add_comm]
          rw [this]
          exact .pt hg hcur
        · simp at h
      · simp at h
    · rename_i s n l k i
      split at h
      · rename_i hs
        simp only [Option.some.injEq, Prod.mk.injEq] at h
        obtain ⟨rfl, rfl, rfl⟩ := h
        obtain ⟨h0, h1, _⟩ := hc
        simp only [ck] at h0 h1
        rw [hu.cInv]
        cases hv with
        | fsZero => omega
        | fs hn hl hg hno hcl ho hr =>
          rename_i g off cap us
          refine ⟨rfl, _, run_indexAt ht hi h0 h1, ?_⟩
          rw [mulS_eq, hs]
          refine .fp (us := fun j => us (i.toNat * P.cellsOf e + j)) hg hno ?_ ?_ ?_
          · intro j hj
            simp only [List.length_drop] at hj
            have := hcl (i.toNat * P.cellsOf e + j) (by omega)
            rw [← Nat.add_assoc] at this
            exact this
          · intro j hj
            simp only [List.length_drop] at hj
            exact ho _ (by omega)
          · intro j hj
            simp only [List.length_drop] at hj
            rw [drop_getD]
            exact hr _ (by omega)
      · simp at h
    · simp at h
  · simp at h

omit [Gv] in
theorem run_isAgg {t : TypeId} {b : Bool} (h : isAggT P t = some b) : (isAgg t).run P w = .ok b w := by
  unfold isAggT at h
  unfold isAgg
  split at h
  · rename_i fs hu
    cases h
    simp [run_underlying hu]
  · rename_i n e hu
    cases h
    simp [run_underlying hu]
  · rename_i d h1 h2 hu
    cases h
    cases d <;> simp [run_underlying hu] <;> first | exact absurd rfl (h1 _) | exact absurd rfl (h2 _ _) | skip
    all_goals first | exact (h1 _ hu).elim | exact (h2 _ _ hu).elim | skip
  · simp at h

omit [Gv] in
/-- The cells of an owned block, as the memory has them. -/
theorem BlkOK.cells {b : Nat} {B : Blk} (h : BlkOK P w ι b B) {g : Nat} (hg : ι b = .here g) {cur0 : Array Value} {e0 : TypeId} {fz0 : Nat × Nat} (hh0 : w.heap[g]? = some (.cells cur0 e0 fz0)) : ∃ cur fz, w.heap[g]? = some (.cells cur B.e fz) ∧ RowOK P B.e cur fz ∧ B.cells.length ≤ cur.size ∧
    (∀ j, j < B.cells.length → (cur.getD j undef).oneCell' = true) ∧ (∀ j, j < B.cells.length → VR P w ι B.op (B.cells.getD j .any) (cur.getD j undef)) ∧ ∀ j, j < cur.size → w.cell? ⟨g, j, none⟩ = some (cur.getD j undef) := by
  rcases h with ⟨k, _⟩ | ⟨g', cur, fz, k1, k2, k3, k4, k5, k6⟩ | ⟨g', _, _, k1, _, k2, _⟩
  · rw [hg] at k; cases k
  · rw [hg] at k1; cases k1
    refine ⟨cur, fz, k2, k3, k4, k5, k6, fun j hj => ?_⟩
    rw [cell_of_row w g j cur B.e fz k2]
    simp [Array.getD, hj]
  · rw [hg] at k1; cases k1
    rw [hh0] at k2; cases k2

/-- A row of cells that reads as a list of abstract values tells. -/
structure RowAt (P : Program) (w : World) (ι : Pl) (o : Bool) (g off : Nat) (l : List AV) (us : Nat → Value) : Prop where
  cell : ∀ j, j < l.length → w.cell? ⟨g, off + j, none⟩ = some (us j)
  one : ∀ j, j < l.length → (us j).oneCell' = true
  rel : ∀ j, j < l.length → VR P w ι o (l.getD j .any) (us j)

omit [Gv] in
theorem run_load_row {t : TypeId} {cks : List Ck} {av : AV} {l : List AV} {g off : Nat} {us : Nat → Value} (hr : RowAt P w ι true g off l us) (h : ldAV P t l = some (cks, av)) (hc : Ck.conj cks) :
    ∃ v, (Instr.loadAt t (.pointer (some ⟨g, off, none⟩))).run P w = .ok v w ∧ VR P w ι true av v := by
  unfold ldAV at h
  split at h
  · rename_i hagg
    simp only [Option.some.injEq, Prod.mk.injEq] at h
    obtain ⟨rfl, rfl⟩ := h
    have h1 := hc.1
    simp only [ck] at h1
    have hinf : ∃ i, P.info? t = some i ∧ i.size = P.cellsOf t := by
      unfold isAggT at hagg
      cases hi : P.info? t with
      | none => simp [Program.underlying, hi] at hagg
      | some i => exact ⟨i, rfl, by simp [Program.cellsOf, hi]⟩
    obtain ⟨i, hi, hz⟩ := hinf
    have hld := run_loadCells (P := P) w ⟨g, off, none⟩ (P.cellsOf t) us (fun j hj => by
      have : (⟨g, off, none⟩ : Addr).add j = ⟨g, off + j, none⟩ := by unfold Addr.add; split <;> simp_all
      rw [this]
      exact hr.cell j (by omega))
    refine ⟨_, by
      unfold Instr.loadAt loadVar
      simp [Instr.sureAddr, run_isAgg hagg, sizeOf, typeInfo, hi, hz, hld]
      rfl, ?_⟩
    have hlt : (l.take (P.cellsOf t)).length = P.cellsOf t := by rw [List.length_take]; omega
    have hcs : ∀ j, j < P.cellsOf t → ((List.range (P.cellsOf t)).map us).toArray.getD j undef = us j := by
      intro j hj
      simp [Array.getD, hj]
    refine .ag (by simp [hlt]) ?_ ?_
    · intro j hj
      rw [hlt] at hj
      rw [hcs j hj]
      exact hr.one j (by omega)
    · intro j hj
      rw [hlt] at hj
      rw [hcs j hj, take_getD _ _ _ hj]
      exact hr.rel j (by omega)
  · rename_i hagg
    simp only [Option.some.injEq, Prod.mk.injEq] at h
    obtain ⟨rfl, rfl⟩ := h
    have h1 := hc.1
    simp only [ck] at h1
    refine ⟨us 0, ?_, ?_⟩
    · have := hr.cell 0 h1
      unfold Instr.loadAt loadVar
      simp [Instr.sureAddr, run_isAgg hagg, load, Sem.run]
      rw [show w.cell? ⟨g, off, none⟩ = some (us 0) from this]
    · have := hr.rel 0 h1
      cases l with
      | nil => simp at h1
      | cons a r => simpa using this
  · simp at h

omit [Gv] in
theorem closed_getD : ∀ (l : List AV), AV.closedAll l = true → ∀ j, j < l.length → (l.getD j .any).closed = true
  | [], _, j, hj => by simp at hj
  | a :: r, h, j, hj => by
    simp only [AV.closedAll, Bool.and_eq_true] at h
    cases j with
    | zero => simpa using h.1
    | succ j => simpa using closed_getD r h.2 j (by simpa using hj)

/-- The cells of a value, one by one. -/
theorem cellsOf_rel {o : Bool} {x : AV} {s : Nat} {cs : List AV} {v : Value} (hh : HpRel P w ι hp) (hv : VR P w ι o x v) (h : x.cellsOf hp s = some cs) :
    v.cells.size = s ∧ cs.length = s ∧ (∀ j, j < s → (v.cells.getD j undef).oneCell' = true) ∧ ∀ j, j < s → VR P w ι o (cs.getD j .any) (v.cells.getD j undef) := by
  have single : ∀ {a : AV}, VR P w ι o a v → v.oneCell' = true → s = 1 → cs = [a] → v.cells.size = s ∧ cs.length = s ∧ (∀ j, j < s → (v.cells.getD j undef).oneCell' = true) ∧ ∀ j, j < s → VR P w ι o (cs.getD j .any) (v.cells.getD j undef) := by
    intro a ha h1 hs hcs
    have hc : v.cells = #[v] := by cases v <;> first | rfl | simp [Value.oneCell'] at h1
    subst hs; subst hcs
    rw [hc]
    refine ⟨rfl, rfl, ?_, ?_⟩ <;> intro j hj <;> obtain rfl : j = 0 := by omega
    · exact h1
    · exact ha
  unfold AV.cellsOf at h
  split at h
  · rename_i l
    split at h
    · rename_i hl
      cases h
      cases hv with
      | ag hl2 h1 hr =>
        refine ⟨by simpa [Value.cells, ← hl2] using hl, hl, ?_, ?_⟩
        · intro j hj; exact h1 j (by omega)
        · intro j hj; exact hr j (by omega)
    · simp at h
  · rename_i c
    split at h
    · rename_i hl
      cases h
      rw [hv.cInv]
      refine ⟨hl.1, by simpa using hl.1, ?_, ?_⟩
      · intro j hj
        have hj' : j < c.size := by omega
        have := List.all_eq_true.1 hl.2 c[j] (by simp)
        simpa [Value.cells, Array.getD, hj'] using this
      · intro j hj
        have hj' : j < c.size := by omega
        have e : (c.toList.map AV.c).getD j .any = .c c[j] := by simp [List.getD, hj']
        rw [e]
        rw [show (Value.agg c).cells.getD j undef = c[j] from by simp [Value.cells, Array.getD, hj']]
        exact .c
    · simp at h
  · simp at h
  · simp at h
  · simp at h
  · simp at h
  · simp at h
  · rename_i b off n
    split at h
    · rename_i B hb
      split at h
      · rename_i hs
        cases h
        cases o with
        | false => cases hv
        | true =>
          obtain ⟨a, cap, rfl, _⟩ := hv.slShape (hh.notDead hb)
          exact single hv rfl hs rfl
      · simp at h
    · simp at h
  · rename_i b off
    split at h
    · rename_i B hb
      split at h
      · rename_i hs
        cases h
        cases hv with
        | ptDead hd => exact absurd hd (hh.notDead hb)
        | pt hg hh0 => exact single (VR.pt hg hh0) rfl hs rfl
      · simp at h
    · simp at h
  · rename_i hn1 hn2 hn3 hn4 hn5 hni hnj hn6 hn7
    split at h
    · rename_i hs
      cases h
      refine single hv ?_ hs rfl
      cases hv with
      | any => exact absurd rfl hn5
      | c =>
        cases v <;> first | rfl | exact absurd rfl (hn2 _) | exact absurd rfl (hn3 _)
      | slDead _ => exact absurd rfl (hn6 _ _ _)
      | slZero => rfl
      | slAt _ _ _ _ _ => rfl
      | ptDead _ => exact absurd rfl (hn7 _ _)
      | pt _ _ => rfl
      | itrDead _ => exact absurd rfl (hni _)
      | itr _ => exact absurd rfl (hni _)
      | fsZero => rfl
      | fs _ _ _ _ _ _ _ => rfl
      | fp _ _ _ _ _ => rfl
      | ag _ _ _ => exact absurd rfl (hn1 _)
      | tu _ _ => exact absurd rfl (hn4 _)
      | fn _ _ => rfl
    · simp at h

omit [Gv] in
theorem toList_getD (c : Array Value) (j : Nat) : c.toList.getD j undef = c.getD j undef := by
  by_cases h : j < c.size
  · simp [Array.getD, List.getD, h]
  · simp [Array.getD, List.getD, h]

omit [Gv] in
theorem toArray_getD (l : List Value) (j : Nat) : l.toArray.getD j undef = l.getD j undef := by
  rw [← toList_getD]

omit [Gv] in
theorem run_storeCells_fz (g o : Nat) (t : TypeId) (fz : Nat × Nat) : ∀ (vs : List Value) (i : Nat) (cur : Array Value) (w : World), w.heap[g]? = some (.cells cur t fz) → (∀ off, off < cur.size → ¬ (fz.1 ≤ off ∧ off < fz.2)) →
    o + i + vs.length ≤ cur.size → (∀ v ∈ vs, v.oneCell' = true) →
    (storeCells ⟨g, o, none⟩ vs i).run P w = .ok () (w.setRow g (cur.toList.take (o + i) ++ vs ++ cur.toList.drop (o + i + vs.length)).toArray)
  | [], i, cur, w, hg, _, _, _ => by
    simp only [storeCells, List.append_nil, List.length_nil, Nat.add_zero, List.take_append_drop, Array.toArray_toList]
    rw [setRow_self w g cur t fz hg]
    rfl
  | v :: rest, i, cur, w, hg, hf, hl, h1 => by
    have hi : o + i < cur.size := by simp at hl; omega
    have hadd : (⟨g, o, none⟩ : Addr).add i = ⟨g, o + i, none⟩ := by unfold Addr.add; split <;> simp_all
    have hcell : w.cell? ⟨g, o + i, none⟩ = some cur[o + i] := by simp [World.cell?, hg, hi]
    have hfro : w.frozen? ⟨g, o + i, none⟩ = false := by
      have := hf (o + i) hi
      obtain ⟨f1, f2⟩ := fz
      simp only [World.frozen?, hg]
      simp only [Bool.and_eq_false_iff, decide_eq_false_iff_not]
      simp only at this
      omega
    have hst : (store ((⟨g, o, none⟩ : Addr).add i) v).run P w = .ok () (w.setRow g (cur.setIfInBounds (o + i) v)) := by
      rw [hadd, run_store P w _ v _ (h1 v (by simp)), hcell]
      simp [hfro, setCell_eq_setRow w g (o + i) cur t fz v hg]
    have ih := run_storeCells_fz g o t fz rest (i + 1) (cur.setIfInBounds (o + i) v) (w.setRow g (cur.setIfInBounds (o + i) v)) (setRow_heap w g cur _ t _ hg) (by simpa using hf) (by simp at hl ⊢; omega) (fun x hx => h1 x (by simp [hx]))
    simp only [storeCells, Sem.run_bind, hst, Result.andThen_ok, ih, setRow_setRow]
    congr 3
    have e := list_seg_step cur.toList (o + i) v rest (by simp at hl ⊢; omega)
    simpa [Array.toList_setIfInBounds, Nat.add_assoc] using e

omit [Gv] in
/-- A row with a piece of it written anew: what lies where. -/
theorem splice_getD (cur : Array Value) (vs : List Value) (k j : Nat) (hk : k + vs.length ≤ cur.size) :
    (cur.toList.take k ++ vs ++ cur.toList.drop (k + vs.length)).toArray.getD j undef = if j < k then cur.getD j undef else if j < k + vs.length then vs.getD (j - k) undef else cur.getD j undef := by
  rw [toArray_getD, ← toList_getD]
  have hlt : (cur.toList.take k).length = k := by rw [List.length_take, Array.length_toList]; omega
  simp only [List.getD, List.append_assoc, List.getElem?_append, hlt, List.getElem?_take, List.getElem?_drop]
  by_cases h1 : j < k
  · simp [h1]
  · simp only [h1, if_false]
    by_cases h2 : j < k + vs.length
    · rw [if_pos (by omega), if_pos h2]
    · rw [if_neg (by omega), if_neg h2]
      congr 2
      omega

omit [Gv] in
theorem splice_size (cur : Array Value) (vs : List Value) (k : Nat) (hk : k + vs.length ≤ cur.size) : (cur.toList.take k ++ vs ++ cur.toList.drop (k + vs.length)).toArray.size = cur.size := by
  simp; omega

omit [Gv] in
theorem splice_one {cur : Array Value} {vs : List Value} {k : Nat} (hk : k + vs.length ≤ cur.size) (h1 : ∀ j, j < cur.size → (cur.getD j undef).oneCell' = true) (h2 : ∀ j, j < vs.length → (vs.getD j undef).oneCell' = true) (j : Nat)
    (hj : j < (cur.toList.take k ++ vs ++ cur.toList.drop (k + vs.length)).toArray.size) : ((cur.toList.take k ++ vs ++ cur.toList.drop (k + vs.length)).toArray.getD j undef).oneCell' = true := by
  rw [splice_size _ _ _ hk] at hj
  rw [splice_getD _ _ _ _ hk]
  by_cases c1 : j < k
  · rw [if_pos c1]; exact h1 j hj
  · rw [if_neg c1]
    by_cases c2 : j < k + vs.length
    · rw [if_pos c2]; exact h2 _ (by omega)
    · rw [if_neg c2]; exact h1 j hj

omit [Gv] in
theorem spliceA_getD (l cs : List AV) (k j : Nat) (hk : k + cs.length ≤ l.length) :
    (l.take k ++ cs ++ l.drop (k + cs.length)).getD j .any = if j < k then l.getD j .any else if j < k + cs.length then cs.getD (j - k) .any else l.getD j .any := by
  have hlt : (l.take k).length = k := by rw [List.length_take]; omega
  simp only [List.getD, List.append_assoc, List.getElem?_append, hlt, List.getElem?_take, List.getElem?_drop]
  by_cases h1 : j < k
  · simp [h1]
  · simp only [h1, if_false]
    by_cases h2 : j < k + cs.length
    · rw [if_pos (by omega), if_pos h2]
    · rw [if_neg (by omega), if_neg h2]
      congr 2
      omega

omit [Gv] in
theorem spliceA_length (l cs : List AV) (k : Nat) (hk : k + cs.length ≤ l.length) : (l.take k ++ cs ++ l.drop (k + cs.length)).length = l.length := by simp; omega

theorem store_ok {t : TypeId} {a x : AV} {va vx : Value} {cks : List Ck} {av : AV} {cmd : Cmd} (hh : HpRel P w ι hp) (ha : VR P w ι true a va) (hx : VR P w ι true x vx) (h : storeA P hp t a x = some (cks, av, cmd)) (hc : Ck.conj cks) :
    ∃ w', (Instr.storeAt t va vx).run P w = .ok () w' ∧ Ext w ι w' ι ∧ HpRel P w' ι (cmd.run hp) ∧ av = .any := by
  unfold storeA at h
  split at h
  · rename_i b off
    split at h
    · rename_i B cs hb hcs
      split at h
      · rename_i hcond
        simp only [Option.some.injEq, Prod.mk.injEq] at h
        obtain ⟨rfl, rfl, rfl⟩ := h
        have h1 := hc.1
        simp only [ck] at h1
        obtain ⟨hz, hclosed⟩ := hcond
        obtain ⟨i, hi, hsz⟩ : ∃ i, P.info? t = some i ∧ i.size = P.cellsOf t := by
          unfold Program.cellsOf at hz ⊢
          cases hi : P.info? t with
          | none => simp [hi] at hz
          | some i => exact ⟨i, rfl, by simp⟩
        have hbl : b < hp.length := (List.getElem?_eq_some_iff.1 hb).1
        cases ha with
        | ptDead hd => exact absurd hd (hh.notDead hb)
        | pt hg hh0 =>
          rename_i g _ _ _
          obtain ⟨cur, fz, hcur, hfz, hlen, hone, hrel, hcell⟩ := (hh.live hb).cells hg hh0
          obtain ⟨c1, c2, c3, c4⟩ := cellsOf_rel hh hx hcs
          have hvl : vx.cells.toList.length = P.cellsOf t := by simpa using c1
          have hfit : off + vx.cells.toList.length ≤ cur.size := by rw [hvl]; omega
          have hmem : ∀ v ∈ vx.cells.toList, v.oneCell' = true := by
            intro v hv
            obtain ⟨j, hj, rfl⟩ := List.getElem_of_mem hv
            have := c3 j (by omega)
            simpa [Array.getD, show j < vx.cells.size by simpa using hj] using this
          have hst := run_storeCells_fz (P := P) g off B.e fz vx.cells.toList 0 cur w hcur hfz.in_ (by simpa using hfit) hmem
          simp only [Nat.add_zero] at hst
          have hput := put_setRow w g cur (cur.toList.take off ++ vx.cells.toList ++ cur.toList.drop (off + vx.cells.toList.length)).toArray B.e fz hcur
          have hs := splice_size cur vx.cells.toList off hfit
          have hv := toList_getD vx.cells
          have hcl : off + cs.length ≤ B.cells.length := by omega
          have hal := spliceA_length B.cells cs off hcl
          rw [c2] at hal
          have hw := hh.write (B := { B with cells := B.cells.take off ++ cs ++ B.cells.drop (off + P.cellsOf t) }) hg hbl hcur hput hs (hfz.same hs (fun hu => splice_one hfit (hfz.one hu) (fun j hj => by rw [hv]; exact c3 _ (by omega)))) (by rw [hs]; simp only [hal]; exact hlen)
            (by
              intro j hj
              simp only [hal] at hj
              rw [splice_getD _ _ _ _ hfit]
              split
              · exact hone j hj
              · split
                · rw [hv]; exact c3 _ (by omega)
                · exact hone j hj)
            (by
              intro j hj
              simp only [hal] at hj
              rw [splice_getD _ _ _ _ hfit, ← c2, spliceA_getD _ _ _ _ hcl, c2, hvl]
              split
              · exact hrel j hj
              · split
                · rw [hv]
                  have r := c4 (j - off) (by omega)
                  rcases hclosed with ho | hcc
                  · simp only [ho]; exact r
                  · exact (r.shut (closed_getD cs hcc _ (by omega))).weak (by simp)
                · exact hrel j hj)
          refine ⟨_, ?_, hw.1, hw.2, rfl⟩
          unfold Instr.storeAt storeVar
          simp [Instr.sureAddr, sizeOf, typeInfo, hi, hsz, c1, hst]
      · simp at h
    · simp at h
  · simp at h

end Go.Proofs.Ytljgmgbjfjhjmaa
