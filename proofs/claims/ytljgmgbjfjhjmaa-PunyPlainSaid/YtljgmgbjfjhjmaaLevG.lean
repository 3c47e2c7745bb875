/- Calls in a memory of their own; operations in whatever order. -/
import Derived.Test.YtljgmgbjfjhjmaaLevF
namespace Go.Proofs.Ytljgmgbjfjhjmaa
open Go.RowKit
set_option linter.unusedSimpArgs false
set_option linter.unusedVariables false

variable [Gv] {P : Program} {w : World} {ι : Pl} {hp : Heap}

omit [Gv] in
theorem VR.shrink {κ : Pl} {o : Bool} {a : AV} {v : Value} (hv : VR P w κ o a v) : o = false → (∀ g, κ.un g → ι.un g) → VR P w ι false a v := by
  induction hv with
  | any => intro _ _; exact .any
  | c => intro _ _; exact .c
  | slDead | slZero | slAt | ptDead | pt | itrDead | itr => intro h; simp at h
  | fsZero => intro _ _; exact .fsZero
  | fs hn hl hg hno hc h1 _ ih => intro _ h; exact .fs hn hl hg (h _ hno) hc h1 fun j hj => ih j hj rfl h
  | fp hg hno hc h1 _ ih => intro _ h; exact .fp hg (h _ hno) hc h1 fun j hj => ih j hj rfl h
  | ag hl h1 _ ih => intro ho h; exact .ag hl h1 fun j hj => ih j hj ho h
  | tu hl _ ih => intro ho h; exact .tu hl fun j hj => ih j hj ho h
  | fn hl _ ih => intro ho h; exact .fn hl fun j hj => ih j hj ho h

omit [Gv] in
/-- What is plain stands anywhere. -/
theorem VR.flat {κ : Pl} {o : Bool} {a : AV} {v : Value} (hv : VR P w κ o a v) (h : flatV [] a = true) : VR P w ι false a v := by
  have all : ∀ (l : List AV), l.all AV.isC = true → ∀ j, j < l.length → ∃ u, l.getD j .any = .c u := by
    intro l hl j hj
    have e : l.getD j .any = l[j] := by simp [List.getD, hj]
    rw [e]
    have := List.all_eq_true.1 hl _ (List.getElem_mem hj)
    cases hx : l[j] <;> rw [hx] at this <;> simp [AV.isC] at this
    exact ⟨_, rfl⟩
  cases hv with
  | any => exact .any
  | c => exact .c
  | slDead | slZero | slAt | ptDead | pt | itrDead | itr | fsZero | fs | fp | fn => simp [flatV] at h
  | ag hl h1 hr =>
    refine .ag hl h1 fun j hj => ?_
    obtain ⟨u, hu⟩ := all _ (by simpa [flatV] using h) j hj
    have := hr j hj
    rw [hu] at this ⊢
    rw [this.cInv]
    exact .c
  | tu hl hr =>
    refine .tu hl fun j hj => ?_
    obtain ⟨u, hu⟩ := all _ (by simpa [flatV] using h) j hj
    have := hr j hj
    rw [hu] at this ⊢
    rw [this.cInv]
    exact .c

/-- The place of a call in a memory of its own: all that is owned is another's, but for the blocks that it reads. -/
def Pl.iso (ι : Pl) (used : Nat → Prop) : Pl := { at_ := fun _ => .fresh, hid := fun g => ι.hid g ∨ ∃ b, ι b = .here g ∧ ¬ used b }

omit [Gv] in
theorem iso_un {used : Nat → Prop} {g : Nat} (h : ι.un g) : (ι.iso used).un g :=
  ⟨fun b hb => by simp [Pl.iso] at hb, fun hh => by
    rcases hh with hh | ⟨b, hb, _⟩
    · exact h.2 hh
    · exact h.1 b hb⟩

theorem iso_rel (h : HpRel P w ι hp) (used : Nat → Prop) : HpRel P w (ι.iso used) [] :=
  ⟨fun b => by simp only [List.getElem?_nil]; rfl, fun b b' g hb => by simp [Pl.iso] at hb, fun b g hb => by simp [Pl.iso] at hb, fun g hg => by
    rcases hg with hg | ⟨b, hb, _⟩
    · exact h.hlt g hg
    · exact h.lt hb, fun g l hg => (h.gl g l hg).shrink rfl (fun g hg => iso_un hg)⟩

omit [Gv] in
/-- A call in a memory of its own leaves all that was there. -/
theorem iso_old {w' : World} {used : Nat → Prop} {κ' : Pl} (e : Ext w (ι.iso used) w' κ') : ∀ g, g < w.heap.size → w'.heap[g]? = w.heap[g]? := by
  intro g hg
  by_cases hh : (ι.iso used).hid g
  · exact e.hkeep g hg hh
  · exact (e.blk g hg ⟨fun b hb => by simp [Pl.iso] at hb, hh⟩).1

theorem iso_new {w' : World} {used : Nat → Prop} {κ' : Pl} {hp' : Heap} (e : Ext w (ι.iso used) w' κ') (k : HpRel P w' κ' hp') {b g : Nat} (hb : κ' b = .here g) : w.heap.size ≤ g := by
  rcases Nat.lt_or_ge g w.heap.size with hg | hg
  · have hh : ¬ (ι.iso used).hid g := by rw [← e.hid]; exact k.nohid b g hb
    exact absurd hb ((e.blk g hg ⟨fun b hb => by simp [Pl.iso] at hb, hh⟩).2.1 b)
  · exact hg

theorem new_un (h : HpRel P w ι hp) {g : Nat} (hg : w.heap.size ≤ g) : ι.un g :=
  ⟨fun b hb => by have := h.lt hb; omega, fun hh => by have := h.hlt g hh; omega⟩

omit [Gv] in
/-- Nothing of the caller's is read: what the callee tells of is nobody's. -/
theorem iso_back {w' : World} {used : Nat → Prop} {κ' : Pl} (hu : ∀ b, ¬ used b) (e : Ext w (ι.iso used) w' κ') {g : Nat} (h : κ'.un g) : ι.un g := by
  have hh : ¬ (ι.iso used).hid g := by rw [← e.hid]; exact h.2
  exact ⟨fun b hb => hh (.inr ⟨b, hb, hu b⟩), fun hx => hh (.inl hx)⟩

def usedIn (l : List AV) (b : Nat) : Prop := (∃ off n, AV.sl b off n ∈ l) ∨ ∃ off, AV.pt b off ∈ l

theorem freeze_ok (h : HpRel P w ι hp) {a a' : AV} {v : Value} {used : Nat → Prop} (hv : VR P w ι true a v) (hf : freeze hp P a = some a') (hu : ∀ b off n, a = .sl b off n → used b) : VR P w (ι.iso used) false a' v := by
  have closedCase : a.closed = true → VR P w (ι.iso used) false a v := fun hc => (hv.shut hc).shrink rfl (fun g hg => iso_un hg)
  unfold freeze at hf
  split at hf
  · rename_i b off n
    split at hf
    · rename_i B hb
      split at hf
      · simp at hf
      · rename_i hop
        simp only [Option.some.injEq] at hf
        subst hf
        have hop' : B.op = false := by simpa using hop
        rcases Nat.eq_zero_or_pos n with hn | hn
        · subst hn
          obtain ⟨x, cap, rfl, _⟩ := hv.slShape (h.notDead hb)
          have : (List.drop (mulS off (P.cellsOf B.e)) B.cells).take (mulS 0 (P.cellsOf B.e)) = [] := by rw [mulS_eq]; simp
          rw [this]
          exact .fsZero
        · obtain ⟨g, cap, cur, fz, hg, hcur, hn2, hs, hm, rfl⟩ := hv.slPlace (h.live hb) hn
          obtain ⟨cur', fz', hcur', _, hlen, hone, hrel, hcell⟩ := (h.live hb).cells hg hcur
          rw [hcur] at hcur'; cases hcur'
          have hlen2 : ((B.cells.drop (off * P.cellsOf B.e)).take (n * P.cellsOf B.e)).length ≤ n * P.cellsOf B.e := by rw [List.length_take]; omega
          have hlen3 : ((B.cells.drop (off * P.cellsOf B.e)).take (n * P.cellsOf B.e)).length + off * P.cellsOf B.e ≤ max B.cells.length (off * P.cellsOf B.e) := by rw [List.length_take, List.length_drop]; omega
          rw [mulS_eq, mulS_eq]
          refine .fs (us := fun j => cur.getD (off * P.cellsOf B.e + j) undef) hn2 hlen2 (h.lt hg) ?_ ?_ ?_ ?_
          · refine ⟨fun b' hb' => by simp [Pl.iso] at hb', fun hh => ?_⟩
            rcases hh with hh | ⟨b', hb', hnu⟩
            · exact h.nohid b g hg hh
            · have := h.inj b b' g hg hb'
              subst this
              exact hnu (hu _ _ _ rfl)
          · intro j hj; exact hcell _ (by omega)
          · intro j hj; exact hone _ (by omega)
          · intro j hj
            rw [take_getD _ _ _ (by omega), drop_getD]
            have := hrel (off * P.cellsOf B.e + j) (by omega)
            rw [hop'] at this
            exact this.shrink rfl (fun g hg => iso_un hg)
    · simp at hf
  · split at hf
    · rename_i hc
      simp only [Option.some.injEq] at hf
      subst hf
      exact closedCase hc
    · simp at hf

omit [Gv] in
theorem closedAll_mem : ∀ {l : List AV}, AV.closedAll l = true → ∀ a ∈ l, a.closed = true
  | b :: r, h, a, ha => by
    simp only [AV.closedAll, Bool.and_eq_true] at h
    rcases List.mem_cons.1 ha with rfl | ha
    · exact h.1
    · exact closedAll_mem h.2 a ha

omit [Gv] in
theorem closedAll_getD {l : List AV} (h : AV.closedAll l = true) {j : Nat} (hj : j < l.length) : (l.getD j .any).closed = true := by
  have e : l.getD j .any = l[j] := by simp [List.getD, hj]
  rw [e]
  exact closedAll_mem h _ (List.getElem_mem hj)

theorem freezeArg_ok (h : HpRel P w ι hp) {a a' : AV} {v : Value} {used : Nat → Prop} (hv : VR P w ι true a v) (hf : freezeArg hp P a = some a') (hu : ∀ b off n, a = .sl b off n → used b) (hu2 : ∀ b off, a = .pt b off → used b) : VR P w (ι.iso used) false a' v := by
  unfold freezeArg at hf
  split at hf
  · rename_i b off
    split at hf
    · rename_i B hb
      split at hf
      · rename_i hcl
        simp only [Option.some.injEq] at hf
        subst hf
        cases hv with
        | ptDead hd => exact absurd hd (h.notDead hb)
        | pt hg hcur =>
          rename_i g cur e fz
          obtain ⟨cur', fz', hcur', _, hlen, hone, hrel, hcell⟩ := (h.live hb).cells hg hcur
          rw [hcur] at hcur'; cases hcur'
          refine .fp (us := fun j => cur.getD (off + j) undef) (h.lt hg) ?_ ?_ ?_ ?_
          · refine ⟨fun b' hb' => by simp [Pl.iso] at hb', fun hh => ?_⟩
            rcases hh with hh | ⟨b', hb', hnu⟩
            · exact h.nohid b g hg hh
            · have := h.inj b b' g hg hb'
              subst this
              exact hnu (hu2 _ _ rfl)
          · intro j hj
            rw [List.length_drop] at hj
            exact hcell _ (by omega)
          · intro j hj
            rw [List.length_drop] at hj
            exact hone _ (by omega)
          · intro j hj
            rw [List.length_drop] at hj
            rw [drop_getD]
            have hx := hrel (off + j) (by omega)
            exact VR.shrink (hx.open_.shut (closedAll_getD hcl (by omega))) rfl (fun g hg => iso_un hg)
      · simp at hf
    · simp at hf
  · exact freeze_ok h hv hf hu

theorem freezeAll_ok (h : HpRel P w ι hp) {used : Nat → Prop} : ∀ {l l' : List AV} {vs : List Value}, l.length = vs.length → (∀ j, j < l.length → VR P w ι true (l.getD j .any) (vs.getD j undef)) → freezeAll hp P l = some l' →
    (∀ b, usedIn l b → used b) → l'.length = vs.length ∧ ∀ j, j < l'.length → VR P w (ι.iso used) false (l'.getD j .any) (vs.getD j undef)
  | [], l', vs, hl, _, hf, _ => by
    simp only [freezeAll, Option.some.injEq] at hf
    subst hf
    exact ⟨hl, fun j hj => by simp at hj⟩
  | a :: r, l', vs, hl, hv, hf, hu => by
    simp only [freezeAll] at hf
    split at hf
    · rename_i x m hx hm
      simp only [Option.some.injEq] at hf
      subst hf
      cases vs with
      | nil => simp at hl
      | cons v vr =>
        have h0 := hv 0 (by simp)
        simp only [List.getD_cons_zero] at h0
        have hx' := freezeArg_ok h (used := used) h0 hx (fun b off n e => hu b (.inl ⟨off, n, by rw [e]; exact List.mem_cons_self⟩)) (fun b off e => hu b (.inr ⟨off, by rw [e]; exact List.mem_cons_self⟩))
        obtain ⟨i1, i2⟩ := freezeAll_ok h (used := used) (l := r) (l' := m) (vs := vr) (by simpa using hl) (fun j hj => by simpa using hv (j + 1) (by simpa using hj)) hm (fun b hb => hu b (hb.elim (fun ⟨off, n, hmem⟩ => .inl ⟨off, n, List.mem_cons_of_mem _ hmem⟩) (fun ⟨off, hmem⟩ => .inr ⟨off, List.mem_cons_of_mem _ hmem⟩)))
        refine ⟨by simpa using i1, fun j hj => ?_⟩
        cases j with
        | zero => simpa using hx'
        | succ j => simpa using i2 j (by simpa using hj)
    · simp at hf

/-- A block that a call in a memory of its own has left, taken over by the caller. -/
theorem HpRel.adopt {w' : World} {x : Loc} {B : Blk} (h : HpRel P w ι hp) (hos : w'.os = w.os) (ht : w'.tape = w.tape) (ho : w'.output = w.output) (hsz : w.heap.size ≤ w'.heap.size)
    (hold : ∀ g, g < w.heap.size → w'.heap[g]? = w.heap[g]?)
    (hx : (x = .virt ∧ B.cells = []) ∨ ∃ g cur fz, x = .here g ∧ w.heap.size ≤ g ∧ w'.heap[g]? = some (.cells cur B.e fz) ∧ RowOK P B.e cur fz ∧ B.cells.length ≤ cur.size ∧
      (∀ j, j < B.cells.length → (cur.getD j undef).oneCell' = true) ∧ ∀ j, j < B.cells.length → VR P w' (upd ι hp.length x) B.op (B.cells.getD j .any) (cur.getD j undef)) :
    Ext w ι w' (upd ι hp.length x) ∧ HpRel P w' (upd ι hp.length x) (hp ++ [some B]) := by
  have hf := h.freshLen
  obtain ⟨e0, h0⟩ := h.ext hos ht ho hsz hold
  have hxg : ∀ g, x = .here g → w.heap.size ≤ g := by
    intro g hg
    rcases hx with ⟨hx, _⟩ | ⟨g', _, _, hx, hge, _⟩
    · rw [hx] at hg; cases hg
    · rw [hx] at hg; cases hg; exact hge
  have e : Ext w ι w' (upd ι hp.length x) := by
    refine ⟨hos, ht, ho, hsz, rfl, fun g hg _ => hold g hg, ?_, ?_, ?_⟩
    · intro g hg hn
      refine ⟨hold g hg, fun b hb => ?_, hn.2⟩
      by_cases hbl : b = hp.length
      · subst hbl; simp at hb; have := hxg g hb; omega
      · rw [upd_other hbl] at hb; exact hn.1 b hb
    · intro b g hb
      have hbl : b ≠ hp.length := by rintro rfl; rw [hf] at hb; cases hb
      exact .inr ⟨by rw [upd_other hbl]; exact hb, fun cur _ fz hc => ⟨cur, fz, (hold g (h.lt hb)).trans hc, rfl⟩⟩
    · intro b hb
      have hbl : b ≠ hp.length := by rintro rfl; rw [hf] at hb; cases hb
      rw [upd_other hbl]; exact hb
  refine ⟨e, fun b => ?_, ?_, ?_, fun g hg => Nat.lt_of_lt_of_le (h.hlt g hg) hsz, fun g l hg => (h.gl g l hg).mono e⟩
  · by_cases hbl : b = hp.length
    · subst hbl
      rw [getElem?_snoc_same]
      rcases hx with ⟨hx, hB⟩ | ⟨g, cur, fz, hx, hge, k1, k2, k3, k4, k5⟩
      · exact .inl ⟨by simp [hx], hB⟩
      · exact .inr (.inl ⟨g, cur, fz, by simp [hx], k1, k2, k3, k4, k5⟩)
    · rw [getElem?_snoc _ _ hbl]
      exact (h.blk b).ext e (upd_other hbl) (fun g hg => hold g (h.lt hg))
  · intro b b' g hb hb'
    by_cases h1 : b = hp.length <;> by_cases h2 : b' = hp.length
    · omega
    · subst h1; rw [upd_other h2] at hb'; simp at hb; have := hxg g hb; have := h.lt hb'; omega
    · subst h2; rw [upd_other h1] at hb; simp at hb'; have := hxg g hb'; have := h.lt hb; omega
    · rw [upd_other h1] at hb; rw [upd_other h2] at hb'; exact h.inj b b' g hb hb'
  · intro b g hb hh
    by_cases h1 : b = hp.length
    · subst h1; simp at hb; have := hxg g hb; have := h.hlt g hh; omega
    · rw [upd_other h1] at hb; exact h.nohid b g hb hh

def HasBody (P : Program) (f : FuncId) : Prop := ∃ fn c, P.funcs[f]? = some fn ∧ fn.body = some c ∧ fn.name ≠ "runtime.NumGoroutine"

/-- What a contract's result tells. -/
def ResRel (P : Program) (w : World) (κ : Pl) (hp : Heap) (f : FuncId) : AV → Value → Prop
  | .fs s n l, v => ∃ b e, elemT P f = some e ∧ s = P.cellsOf e ∧ VR P w κ true (.sl b 0 n) v ∧ hp[b]? = some (some ⟨e, false, l⟩)
  | r, v => VR P w κ false r v

/-- A contract that holds. -/
def SpecOK (P : Program) (f : FuncId) (spec : Spec) : Prop :=
  ∀ args r q, spec args = some (r, q) → allP q → ∀ w (κ : Pl) (vs : Array Value), HpRel P w κ [] → args.length = vs.size → (∀ j, j < args.length → VR P w κ false (args.getD j .any) (vs.getD j undef)) →
    HasBody P f ∧ Calls P f vs w fun e w' => ∃ v κ' hp', e = .returned v ∧ Ext w κ w' κ' ∧ HpRel P w' κ' hp' ∧ ResRel P w' κ' hp' f r v

/-- A slice that a call has made, taken over. -/
theorem adopt_slice {w' : World} {used : Nat → Prop} {κ' : Pl} {hp' : Heap} {b n : Nat} {B : Blk} {v : Value} (h : HpRel P w ι hp) (e : Ext w (ι.iso used) w' κ') (k : HpRel P w' κ' hp')
    (hv : VR P w' κ' true (.sl b 0 n) v) (hb : hp'[b]? = some (some B)) (hop : B.op = false) (hfl : (∀ b, ¬ used b) ∨ ∀ x ∈ B.cells, x.isC = true) :
    ∃ ι', Ext w ι w' ι' ∧ HpRel P w' ι' (hp ++ [some B]) ∧ VR P w' ι' true (.sl hp.length 0 n) v := by
  have hold := iso_old e
  have cellTo : ∀ (ι2 : Pl) (a : AV) (u : Value), a ∈ B.cells → VR P w' κ' false a u → (∀ g, κ'.un g → (∀ b, ¬ used b) → ι2.un g) → VR P w' ι2 false a u := by
    intro ι2 a u ha hr hun
    rcases hfl with hu | hfl
    · exact hr.shrink rfl (fun g hg => hun g hg hu)
    · have hc := hfl a ha
      cases a <;> simp [AV.isC] at hc
      rw [hr.cInv]
      exact .c
  have mem : ∀ j, j < B.cells.length → B.cells.getD j .any ∈ B.cells := by
    intro j hj
    have : B.cells.getD j .any = B.cells[j] := by simp [List.getD, hj]
    rw [this]
    exact List.getElem_mem hj
  rcases k.live hb with ⟨hvirt, hB⟩ | ⟨g, cur, fz, hg, hcur, hfz, hlen, hone, hrel⟩ | ⟨_, _, _, _, _, _, hit⟩
  · obtain ⟨e1, h1⟩ := h.adopt (x := .virt) (B := B) e.os e.tape e.output e.size hold (.inl ⟨rfl, hB⟩)
    refine ⟨_, e1, h1, ?_⟩
    cases hv with
    | slDead hd => rw [hvirt] at hd; cases hd
    | slZero => exact .slZero
    | slAt hg _ _ _ _ => rw [hvirt] at hg; cases hg
  · have hge := iso_new e k hg
    obtain ⟨e1, h1⟩ := h.adopt (x := .here g) (B := B) e.os e.tape e.output e.size hold (.inr ⟨g, cur, fz, rfl, hge, hcur, hfz, hlen, hone, fun j hj => by
      have hr := hrel j hj
      rw [hop] at hr ⊢
      refine cellTo _ _ _ (mem j hj) hr (fun g' hg' hu => ?_)
      have hun := iso_back hu e hg'
      refine ⟨fun b' hb' => ?_, hun.2⟩
      by_cases hbl : b' = hp.length
      · subst hbl; simp at hb'; subst hb'; exact hg'.1 b hg
      · rw [upd_other hbl] at hb'; exact hun.1 b' hb'⟩)
    refine ⟨_, e1, h1, ?_⟩
    cases hv with
    | slDead hd => rw [hg] at hd; cases hd
    | slZero => exact .slZero
    | slAt hg2 hcur2 hn hs hm =>
      rw [hg] at hg2; cases hg2
      exact .slAt (by simp) hcur2 hn hs hm
  · rw [hop] at hit; cases hit

/-- A plain or closed result, taken over. -/
theorem adopt_closed {w' : World} {used : Nat → Prop} {κ' : Pl} {r : AV} {v : Value} (h : HpRel P w ι hp) (e : Ext w (ι.iso used) w' κ') (hv : VR P w' κ' false r v) (hfl : (∀ b, ¬ used b) ∨ flatV [] r = true) :
    Ext w ι w' ι ∧ HpRel P w' ι hp ∧ VR P w' ι true r v := by
  obtain ⟨e0, h0⟩ := h.ext e.os e.tape e.output e.size (iso_old e)
  refine ⟨e0, h0, ?_⟩
  rcases hfl with hu | hfl
  · exact (hv.shrink rfl (fun g hg => iso_back hu e hg)).open_
  · exact (hv.flat hfl).open_

omit [Gv] in
theorem noSl_of_closed {l : List AV} (h : AV.closedAll l = true) : ∀ b, ¬ usedIn l b := by
  rintro b (⟨off, n, hm⟩ | ⟨off, hm⟩)
  · have := closedAll_mem h _ hm
    simp [AV.closed] at this
  · have := closedAll_mem h _ hm
    simp [AV.closed] at this

/-- A call by its contract. -/
theorem bySpec_ok {f : FuncId} {spec : Spec} (hs : SpecOK P f spec) {args l : List AV} {vs : Array Value} {r0 r : AV} {q0 : List Prop} {hp' : Heap} {p : List Prop} (h : HpRel P w ι hp) (hl : args.length = vs.size)
    (hv : ∀ j, j < args.length → VR P w ι true (args.getD j .any) (vs.getD j undef)) (hf : freezeAll hp P args = some l) (hr : spec l = some (r0, q0)) (hb : bySpec P f args hp (r0, q0) = some (r, hp', p)) (hp0 : allP p) :
    HasBody P f ∧ Calls P f vs w fun e w' => ∃ v ι', e = .returned v ∧ Ext w ι w' ι' ∧ HpRel P w' ι' hp' ∧ VR P w' ι' true r v := by
  obtain ⟨f1, f2⟩ := freezeAll_ok h (used := usedIn args) (vs := vs.toList) (by simpa using hl) (fun j hj => by rw [toList_getD]; exact hv j hj) hf (fun b hm => hm)
  have hq0 : allP q0 := by
    unfold bySpec at hb
    split at hb
    · rename_i heq
      cases heq
      split at hb
      · split at hb
        · simp only [Option.some.injEq, Prod.mk.injEq] at hb
          rw [← hb.2.2] at hp0
          exact (allP_append hp0).1
        · simp at hb
      · simp at hb
    · rename_i heq
      cases heq
      simp only [Option.some.injEq, Prod.mk.injEq] at hb
      rw [← hb.2.2] at hp0
      exact (allP_append hp0).1
  obtain ⟨hbody, hcalls⟩ := hs l r0 q0 hr hq0 w (ι.iso (usedIn args)) vs (iso_rel h _) (by simpa using f1) (fun j hj => by rw [← toList_getD]; exact f2 j hj)
  refine ⟨hbody, hcalls.mono fun e w' ⟨v, κ', hpc, he, hext, hhp, hres⟩ => ?_⟩
  unfold bySpec at hb
  split at hb
  · rename_i s n l0 q1 heq
    cases heq
    obtain ⟨b, e', he', hs', hvr, hblk⟩ := hres
    rw [he'] at hb
    simp only at hb
    split at hb
    · simp only [Option.some.injEq, Prod.mk.injEq] at hb
      obtain ⟨rfl, rfl, rfl⟩ := hb
      have hfl : (∀ b, ¬ usedIn args b) ∨ ∀ x ∈ l0, x.isC = true := by
        by_cases hc : AV.closedAll args = true
        · exact .inl (noSl_of_closed hc)
        · rw [if_neg hc] at hp0; exact .inr (allP_append hp0).2.1
      obtain ⟨ι', a1, a2, a3⟩ := adopt_slice h hext hhp hvr hblk rfl hfl
      exact ⟨v, ι', he, a1, a2, a3⟩
    · rename_i hne
      exact absurd hs' hne
  · rename_i r1 q1 hnfs heq
    cases heq
    simp only [Option.some.injEq, Prod.mk.injEq] at hb
    obtain ⟨rfl, rfl, rfl⟩ := hb
    have hres' : VR P w' κ' false r0 v := by
      unfold ResRel at hres
      split at hres
      · exact (hnfs _ _ _ rfl).elim
      · exact hres
    have hfl : (∀ b, ¬ usedIn args b) ∨ flatV [] r0 = true := by
      by_cases hc : AV.closedAll args = true
      · exact .inl (noSl_of_closed hc)
      · rw [if_neg hc] at hp0; exact .inr (allP_append hp0).2.1
    obtain ⟨a1, a2, a3⟩ := adopt_closed h hext hres' hfl
    exact ⟨v, ι, he, a1, a2, a3⟩

end Go.Proofs.Ytljgmgbjfjhjmaa
