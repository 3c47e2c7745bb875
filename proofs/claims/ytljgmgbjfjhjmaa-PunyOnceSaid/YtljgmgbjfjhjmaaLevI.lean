/- A region whose operations may come up in several orders: the orders. -/
import Derived.Test.YtljgmgbjfjhjmaaLevH
namespace Go.Proofs.Ytljgmgbjfjhjmaa
open Go.RowKit
set_option linter.unusedSimpArgs false
set_option linter.unusedVariables false

variable [Gv] {P : Program} {w : World} {ι : Pl} {hp : Heap}

/-- Operation x comes ahead of operation j by edges. -/
inductive PredOf (ops : Array Oper) : Nat → Nat → Prop
  | edge {j : Nat} {o : Oper} {e : Edge} : ops[j]? = some o → e ∈ o.after → Region.binds .any e = true → PredOf ops j e.on
  | more {j x : Nat} {o : Oper} {e : Edge} : ops[j]? = some o → e ∈ o.after → Region.binds .any e = true → PredOf ops e.on x → PredOf ops j x

omit [Gv] in
theorem mem_addAll : ∀ (l acc : List Nat) (x : Nat), x ∈ addAll l acc → x ∈ l ∨ x ∈ acc
  | [], acc, x, h => .inr h
  | y :: r, acc, x, h => by
    simp only [addAll] at h
    rcases mem_addAll r _ x h with h | h
    · exact .inl (List.mem_cons_of_mem _ h)
    · split at h
      · exact .inr h
      · rcases List.mem_cons.1 h with rfl | h
        · exact .inl (by simp)
        · exact .inr h

omit [Gv] in
theorem predsGo_spec {ops : Array Oper} : ∀ (l : List Oper) (acc : List (List Nat)), (∀ k, l[k]? = ops[acc.length + k]?) → (∀ j x, x ∈ acc.getD j [] → PredOf ops j x) → ∀ j x, x ∈ (predsGo l acc).getD j [] → PredOf ops j x
  | [], acc, _, h, j, x, hx => h j x hx
  | o :: r, acc, ho, h, j, x, hx => by
    simp only [predsGo] at hx
    refine predsGo_spec r _ (fun k => ?_) ?_ j x hx
    · have := ho (k + 1)
      simp only [List.getElem?_cons_succ] at this
      rw [this]
      congr 1
      simp
      omega
    · intro j x hx
      have ho0 : ops[acc.length]? = some o := by have := ho 0; simpa using this.symm
      by_cases hj : j < acc.length
      · rw [List.getD, List.getElem?_append_left hj] at hx
        exact h j x hx
      · by_cases hj2 : j = acc.length
        · subst hj2
          rw [List.getD, List.getElem?_append_right (Nat.le_refl _)] at hx
          simp only [Nat.sub_self, List.getElem?_cons_zero, Option.getD_some] at hx
          have fold : ∀ (es : List Edge) (l0 : List Nat), (∀ e ∈ es, e ∈ o.after) → (∀ x ∈ l0, PredOf ops acc.length x) →
              ∀ x ∈ es.foldl (fun l e => if Region.binds .any e = true then addAll (e.on :: acc.getD e.on []) l else l) l0, PredOf ops acc.length x := by
            intro es
            induction es with
            | nil => intro l0 _ h0 x hx; exact h0 x hx
            | cons e es ih =>
              intro l0 hes h0 x hx
              simp only [List.foldl_cons] at hx
              refine ih _ (fun e' he' => hes e' (List.mem_cons_of_mem _ he')) ?_ x hx
              intro y hy
              split at hy
              · rename_i hb
                rcases mem_addAll _ _ _ hy with hy | hy
                · rcases List.mem_cons.1 hy with rfl | hy
                  · exact .edge ho0 (hes e (by simp)) hb
                  · exact .more ho0 (hes e (by simp)) hb (h _ _ hy)
                · exact h0 y hy
              · exact h0 y hy
          exact fold o.after.toList [] (fun e he => by simpa using he) (by simp) x hx
        · rw [List.getD, List.getElem?_eq_none (by simp; omega)] at hx
          simp at hx

/-- What has come up, with all that comes ahead of it. -/
def Downed (ops : Array Oper) (L : Nat → Bool) : Prop := ∀ j o e, L j = true → ops[j]? = some o → e ∈ o.after → Region.binds .any e = true → L e.on = true

omit [Gv] in
theorem Downed.pred {ops : Array Oper} {L : Nat → Bool} (h : Downed ops L) {j x : Nat} (hp : PredOf ops j x) (hj : ∀ o e, ops[j]? = some o → e ∈ o.after → Region.binds .any e = true → L e.on = true) : L x = true := by
  induction hp with
  | edge ho he hb => exact hj _ _ ho he hb
  | more ho he hb _ ih =>
    have h1 := hj _ _ ho he hb
    exact ih fun o' e' ho' he' hb' => h _ o' e' h1 ho' he' hb'

/-- Slot t, once the operations below k that are listed have been carried out. -/
def slotAt (fr : List AV) (ops : Array Oper) (V : Nat → AV) (L : Nat → Bool) : Nat → Nat → AV
  | 0, t => fr.getD t .any
  | k + 1, t => match ops[k]? with
    | some o => if L k = true ∧ o.dst = some t ∧ t < fr.length then V k else slotAt fr ops V L k t
    | none => slotAt fr ops V L k t

omit [Gv] in
theorem slotAt_congr {fr : List AV} {ops : Array Oper} {V : Nat → AV} {L L' : Nat → Bool} {t : Nat} : ∀ {k : Nat}, (∀ i o, i < k → ops[i]? = some o → o.dst = some t → L i = L' i) → slotAt fr ops V L k t = slotAt fr ops V L' k t
  | 0, _ => rfl
  | k + 1, h => by
    have ih := slotAt_congr (fr := fr) (V := V) (k := k) fun i o hi ho hd => h i o (by omega) ho hd
    simp only [slotAt]
    split
    · rename_i o ho
      by_cases hd : o.dst = some t
      · rw [h k o (by omega) ho hd, ih]
      · simp [hd, ih]
    · exact ih

omit [Gv] in
theorem slotAt_past {fr : List AV} {ops : Array Oper} {V : Nat → AV} {L : Nat → Bool} {t i : Nat} : ∀ {k : Nat}, i ≤ k → (∀ j o, i ≤ j → j < k → ops[j]? = some o → L j = true → o.dst ≠ some t) → slotAt fr ops V L k t = slotAt fr ops V L i t
  | 0, hi, _ => by
    obtain rfl : i = 0 := by omega
    rfl
  | k + 1, hi, h => by
    by_cases hik : i = k + 1
    · rw [hik]
    · have ih := slotAt_past (fr := fr) (V := V) (k := k) (i := i) (by omega) fun j o h1 h2 => h j o h1 (by omega)
      simp only [slotAt]
      split
      · rename_i o ho
        rw [if_neg (by rintro ⟨hL, hd, _⟩; exact h k o (by omega) (by omega) ho hL hd), ih]
      · exact ih

omit [Gv] in
/-- One operation more is listed. -/
theorem slotAt_add {fr : List AV} {ops : Array Oper} {V : Nat → AV} {L L' : Nat → Bool} {i n : Nat} {o : Oper} (ho : ops[i]? = some o) (hin : i < n) (hLi : L' i = true) (hL : ∀ j, j ≠ i → L' j = L j)
    (hlater : ∀ j o', i < j → j < n → ops[j]? = some o' → L j = true → o'.dst = o.dst → o.dst = none) (t : Nat) :
    slotAt fr ops V L' n t = if o.dst = some t ∧ t < fr.length then V i else slotAt fr ops V L n t := by
  by_cases hd : o.dst = some t
  · by_cases hlt : t < fr.length
    · rw [if_pos ⟨hd, hlt⟩]
      rw [slotAt_past (i := i + 1) (by omega) (fun j o' h1 h2 ho' hLj hd' => by
        have hji : j ≠ i := by omega
        rw [hL j hji] at hLj
        have := hlater j o' (by omega) h2 ho' hLj (by rw [hd', hd])
        rw [hd] at this; cases this)]
      simp only [slotAt, ho]
      rw [if_pos ⟨hLi, hd, hlt⟩]
    · rw [if_neg (fun h => hlt h.2)]
      have gen : ∀ (M : Nat → Bool) k, slotAt fr ops V M k t = fr.getD t .any := by
        intro M k
        induction k with
        | zero => rfl
        | succ k ih =>
          simp only [slotAt]
          split
          · rw [if_neg (fun h => hlt h.2.2)]; exact ih
          · exact ih
      rw [gen, gen]
  · rw [if_neg (fun h => hd h.1)]
    refine slotAt_congr fun j o' hj ho' hd' => ?_
    by_cases hji : j = i
    · subst hji
      rw [ho] at ho'; cases ho'
      exact absurd hd' hd
    · exact hL j hji

/-- The frames of the text's order. -/
structure LexF (ops : Array Oper) (K : Nat) (fr fr' : List AV) (F : Nat → List AV) (V : Nat → AV) : Prop where
  le : K ≤ ops.size
  first : F 0 = fr
  last : F K = fr'
  step : ∀ i o, i < K → ops[i]? = some o → F (i + 1) = (St.put ⟨F i, []⟩ o.dst (V i)).fr

/-- What the text's order gave at an operation. -/
def LexAt [Gv] (P : Program) (cl : CallT) (hs : Hints) (ops : Array Oper) (hp : Heap) (F : Nat → List AV) (V : Nat → AV) (i : Nat) (o : Oper) : Prop :=
  (wantA ops (F i) o = some true ∧ ∃ q, doOpQ P cl hs hp (F i) o = some (V i, q) ∧ allP q) ∨ (wantA ops (F i) o = some false ∧ V i = uAV)

omit [Gv] in
theorem putFr (fr : List AV) (hp hp' : Heap) (d : Option Tmp) (v : AV) : (St.put ⟨fr, hp⟩ d v).fr = (St.put ⟨fr, hp'⟩ d v).fr := by
  cases d <;> rfl

theorem aOpsQ_mono {cl : CallT} {hs : Hints} {ops : Array Oper} : ∀ (l : List Oper) (fr fr' : List AV) (p0 p : List Prop), aOpsQ P cl hs ops hp l fr p0 = some (fr', p) → allP p → allP p0
  | [], fr, fr', p0, p, h, hp' => by
    simp only [aOpsQ, Option.some.injEq, Prod.mk.injEq] at h
    rw [h.2]; exact hp'
  | o :: r, fr, fr', p0, p, h, hp' => by
    simp only [aOpsQ] at h
    split at h
    · split at h
      · exact (allP_append (aOpsQ_mono r _ _ _ _ h hp')).1
      · simp at h
    · exact aOpsQ_mono r _ _ _ _ h hp'
    · simp at h

theorem aOpsQ_lex {cl : CallT} {hs : Hints} {ops : Array Oper} : ∀ (l : List Oper) (fr fr' : List AV) (p0 p : List Prop), aOpsQ P cl hs ops hp l fr p0 = some (fr', p) → allP p →
    ∃ (F : Nat → List AV) (V : Nat → AV), F 0 = fr ∧ F l.length = fr' ∧ ∀ i o, l[i]? = some o →
      ((wantA ops (F i) o = some true ∧ ∃ q, doOpQ P cl hs hp (F i) o = some (V i, q) ∧ allP q) ∨ (wantA ops (F i) o = some false ∧ V i = uAV)) ∧ F (i + 1) = (St.put ⟨F i, hp⟩ o.dst (V i)).fr
  | [], fr, fr', p0, p, h, _ => by
    simp only [aOpsQ, Option.some.injEq, Prod.mk.injEq] at h
    exact ⟨fun _ => fr, fun _ => .any, rfl, h.1, fun i o ho => by simp at ho⟩
  | o :: r, fr, fr', p0, p, h, hp' => by
    have build : ∀ (v : AV) (p1 : List Prop), aOpsQ P cl hs ops hp r (St.put ⟨fr, hp⟩ o.dst v).fr p1 = some (fr', p) →
        ((wantA ops fr o = some true ∧ ∃ q, doOpQ P cl hs hp fr o = some (v, q) ∧ allP q) ∨ (wantA ops fr o = some false ∧ v = uAV)) →
        ∃ (F : Nat → List AV) (V : Nat → AV), F 0 = fr ∧ F (o :: r).length = fr' ∧ ∀ i o', (o :: r)[i]? = some o' →
          ((wantA ops (F i) o' = some true ∧ ∃ q, doOpQ P cl hs hp (F i) o' = some (V i, q) ∧ allP q) ∨ (wantA ops (F i) o' = some false ∧ V i = uAV)) ∧ F (i + 1) = (St.put ⟨F i, hp⟩ o'.dst (V i)).fr := by
      intro v p1 h1 h2
      obtain ⟨F, V, f1, f2, f3⟩ := aOpsQ_lex r _ fr' p1 p h1 hp'
      refine ⟨fun i => match i with | 0 => fr | i + 1 => F i, fun i => match i with | 0 => v | i + 1 => V i, rfl, f2, fun i o' ho' => ?_⟩
      cases i with
      | zero =>
        simp only [List.getElem?_cons_zero, Option.some.injEq] at ho'
        subst ho'
        exact ⟨h2, f1⟩
      | succ i => exact f3 i o' (by simpa using ho')
    simp only [aOpsQ] at h
    split at h
    · rename_i hw
      split at h
      · rename_i v q hq
        exact build v _ h (.inl ⟨hw, q, hq, (allP_append (aOpsQ_mono r _ _ _ _ h hp')).2⟩)
      · simp at h
    · rename_i hw
      exact build uAV _ h (.inr ⟨hw, rfl⟩)
    · simp at h

omit [Gv] in
theorem LexF.slot {ops : Array Oper} {K : Nat} {fr fr' : List AV} {F : Nat → List AV} {V : Nat → AV} (h : LexF ops K fr fr' F V) : ∀ k, k ≤ K → (F k).length = fr.length ∧ ∀ t, (F k).getD t .any = slotAt fr ops V (fun _ => true) k t := by
  intro k
  induction k with
  | zero => intro _; rw [h.first]; exact ⟨rfl, fun _ => rfl⟩
  | succ k ih =>
    intro hk
    obtain ⟨i1, i2⟩ := ih (by omega)
    have hle := h.le
    have ho : ops[k]? = some ops[k] := by simp [show k < ops.size by omega]
    have hF := h.step k _ (by omega) ho
    rw [hF]
    cases hd : ops[k].dst with
    | none =>
      simp only [St.put]
      refine ⟨i1, fun t => ?_⟩
      simp only [slotAt, ho, hd]
      rw [if_neg (by simp)]
      exact i2 t
    | some d =>
      simp only [St.put, setL_eq]
      refine ⟨by rw [List.length_set]; exact i1, fun t => ?_⟩
      rw [set_getD, i1]
      simp only [slotAt, ho, hd, Option.some.injEq, true_and]
      split
      · rfl
      · exact i2 t

omit [Gv] in
theorem want_ok {ops : Array Oper} {fr : List AV} {a : Act} {o : Oper} {b : Bool} (hg : ∀ j d want, o.guard = some (j, want) → (ops[j]?).bind (·.dst) = some d → VR P w ι true (fr.getD d .any) (a.tmps.getD d undef))
    (h : wantA ops fr o = some b) : Region.wanted o (yielded ops a.tmps) = b := by
  unfold wantA at h
  simp only [getL_eq] at h
  unfold Region.wanted
  split at h
  · rename_i h0
    rw [h0]
    simpa using h
  · rename_i j want h0
    rw [h0]
    simp only
    split at h
    · rename_i d hd
      have hv := hg j d want h0 hd
      split at h
      · rename_i b' hb
        rw [hb] at hv
        have hv' := hv.cInv
        simp only [Option.some.injEq] at h
        have hy : yielded ops a.tmps j = some b' := by
          unfold yielded
          rw [hd]
          simp only [Option.bind_some]
          by_cases hlt : d < a.tmps.size
          · have : a.tmps.getD d undef = a.tmps[d] := by simp [Array.getD, hlt]
            rw [this] at hv'
            simp [hlt, hv']
          · have : a.tmps.getD d undef = undef := by simp [Array.getD, hlt]
            rw [this] at hv'
            simp [undef] at hv'
        rw [hy, ← h]
        cases b' <;> cases want <;> rfl
      · rename_i xs hb
        rw [hb] at hv
        have hv' := hv.cInv
        simp only [Option.some.injEq] at h
        have hy : yielded ops a.tmps j = none := by
          unfold yielded
          rw [hd]
          simp only [Option.bind_some]
          by_cases hlt : d < a.tmps.size
          · have : a.tmps.getD d undef = a.tmps[d] := by simp [Array.getD, hlt]
            rw [this] at hv'
            simp [hlt, hv']
          · simp [hlt]
        rw [hy, ← h]
        rfl
      · simp at h
    · simp at h

omit [Gv] in
theorem tailN_le (ps : List (List Nat)) : ∀ n, tailN ps n ≤ n
  | 0 => Nat.le_refl _
  | n + 1 => by
    simp only [tailN]
    split
    · have := tailN_le ps n; omega
    · omega

omit [Gv] in
theorem tailN_spec (ps : List (List Nat)) : ∀ n j, n - tailN ps n ≤ j → j < n → ∀ i, i < j → (ps.getD j []).contains i = true
  | 0, j, _, hj, _, _ => by omega
  | n + 1, j, h, hj, i, hi => by
    simp only [tailN] at h
    split at h
    · rename_i hall
      by_cases hjn : j = n
      · subst hjn
        exact List.all_eq_true.1 hall i (List.mem_range.2 hi)
      · exact tailN_spec ps n j (by omega) (by omega) i hi
    · omega

omit [Gv] in
/-- What comes behind all else comes in the order of the text. -/
theorem tail_ok {ops : Array Oper} {K : Nat} (hK : ∀ j i, K ≤ j → i < j → j < ops.size → PredOf ops j i) (hback : ∀ j o e, ops[j]? = some o → e ∈ o.after → Region.binds .any e = true → e.on < j)
    (ready : ∀ (listed : Array Bool) i, listed.size = ops.size → (i ∈ Region.ready .any ops listed ↔ i < ops.size ∧ listed.getD i false = false ∧ ∀ o e, ops[i]? = some o → e ∈ o.after → Region.binds .any e = true → listed.getD e.on false = true))
    {Q : Exit → Act → World → Prop} : ∀ (n k : Nat) (listed : Array Bool) (a : Act) (w : World) (fuel : Nat), ops.size - k = n → K ≤ k → k ≤ ops.size → n ≤ fuel → listed.size = ops.size → (∀ i, i < ops.size → listed.getD i false = decide (i < k)) →
      wpList P ops Q (ops.toList.drop k) a w → wpAny P .any ops Q fuel listed a w := by
  intro n
  induction n with
  | zero =>
    intro k listed a w fuel hn hKk hk hf hsz hl h
    have hkk : k = ops.size := by omega
    have hq : Q .normal a w := by
      rw [List.drop_eq_nil_of_le (by simp; omega)] at h
      exact h
    have hr : Region.ready .any ops listed = [] := by
      apply List.eq_nil_iff_forall_not_mem.2
      intro i hi
      obtain ⟨h1, h2, _⟩ := (ready listed i hsz).1 hi
      rw [hl i h1] at h2
      simp at h2
      omega
    cases fuel with
    | zero => exact ⟨hr, hq⟩
    | succ fuel => exact ⟨fun _ => hq, fun i hi => (by rw [hr] at hi; cases hi)⟩
  | succ n ih =>
    intro k listed a w fuel hn hKk hk hf hsz hl h
    have hkl : k < ops.size := by omega
    have ho : ops[k]? = some ops[k] := by simp [hkl]
    cases fuel with
    | zero => omega
    | succ fuel =>
      have only : ∀ i, i ∈ Region.ready .any ops listed → i = k := by
        intro i hi
        obtain ⟨h1, h2, h3⟩ := (ready listed i hsz).1 hi
        have h2' : ¬ i < k := by rw [hl i h1] at h2; simpa using h2
        rcases Nat.lt_or_ge k i with hki | hki
        · have hd : Downed ops (fun i => listed.getD i false) := by
            intro j o e hj hoj he hb
            have hjlt : j < ops.size := (Array.getElem?_eq_some_iff.1 hoj).1
            have hj : listed.getD j false = true := hj
            rw [hl j hjlt] at hj
            have hej := hback j o e hoj he hb
            show listed.getD e.on false = true
            rw [hl e.on (by omega)]
            simp only [decide_eq_true_eq] at hj ⊢
            omega
          have := hd.pred (hK i k (by omega) hki h1) h3
          have this : listed.getD k false = true := this
          rw [hl k hkl] at this
          simp at this
        · omega
      have isr : k ∈ Region.ready .any ops listed := (ready listed k hsz).2 ⟨hkl, by rw [hl k hkl]; simp, fun o e hoj he hb => by
        have := hback k o e hoj he hb
        rw [hl e.on (by omega)]
        simpa using this⟩
      refine ⟨fun h0 => (by rw [h0] at isr; cases isr), fun i hi => ?_⟩
      have hik := only i hi
      subst hik
      rw [List.drop_eq_getElem_cons (by simpa using hkl)] at h
      have e1 : ops.toList[i] = ops[i] := by simp
      rw [e1] at h
      unfold wpList at h
      unfold wpOp
      rw [ho]
      simp only
      have next : ∀ a' w', wpList P ops Q (ops.toList.drop (i + 1)) a' w' → wpAny P .any ops Q fuel (listed.setIfInBounds i true) a' w' := by
        intro a' w' h'
        refine ih (i + 1) _ a' w' fuel (by omega) (by omega) (by omega) (by omega) (by simp [hsz]) (fun j hj => ?_) h'
        by_cases hji : j = i
        · subst hji
          simp [Array.getD, show j < listed.size by omega]
        · have : (listed.setIfInBounds i true).getD j false = listed.getD j false := by
            by_cases hjl : j < listed.size
            · simp [Array.getD, hjl, Ne.symm hji]
            · simp [Array.getD, hjl]
          rw [this, hl j hj]
          congr 1
          apply propext
          omega
      split at h
      · rename_i hw
        rw [if_pos hw]
        rcases h with h | h
        · exact .inl (Oper.wp_mono next h)
        · exact .inr h
      · rename_i hw
        rw [if_neg hw]
        exact next _ _ h

/-- The orders. 'Un': what may come up yet, but for the one 'sp' that is told apart. -/
theorem orders_ok {cl : CallT} (hcl : CallOK P cl) {hs : Hints} {ops : Array Oper} {fr fr' : List AV} {F : Nat → List AV} {V : Nat → AV} (hlex : LexF ops (headN ops) fr fr' F V) (Un : Nat → Prop) (sp : Option Nat)
    (hstep0 : ∀ i o, i < headN ops → Un i → ops[i]? = some o → LexAt P cl hs ops hp F V i o) (hok : drawOk ops = true)
    {Q : Exit → Act → World → Prop} {w0 : World} (hQ : sp = none → ∀ a' w', StRel P w' ι ⟨fr', hp⟩ a' → Ext w0 ι w' ι → wpList P ops Q (ops.toList.drop (headN ops)) a' w')
    (hSp : ∀ s, sp = some s → s < headN ops ∧ ∀ (fuel : Nat) (listed : Array Bool) (a : Act) (w : World), listed.size = ops.size → Downed ops (fun i => listed.getD i false) → (∀ i, headN ops ≤ i → listed.getD i false = false) → listed.getD s false = false →
      (∀ x, PredOf ops s x → listed.getD x false = true) → (∀ o, ops[s]? = some o → ∀ x ∈ o.op.operands, VR P w ι true (aEv (F s) x) (a.eval x)) → ((List.range (headN ops)).filter fun i => !(listed.setIfInBounds s true).getD i false).length + (ops.size - headN ops) ≤ fuel → a.tmps.size = fr.length →
      (∀ t, VR P w ι true (slotAt fr ops V (fun i => listed.getD i false) ops.size t) (a.tmps.getD t undef)) → HpRel P w ι hp → Ext w0 ι w ι → a.defers = [] → wpOp P ops Q s (wpAny P .any ops Q fuel (listed.setIfInBounds s true)) a w) :
    ∀ (fuel : Nat) (listed : Array Bool) (a : Act) (w : World), listed.size = ops.size → Downed ops (fun i => listed.getD i false) → (∀ i, headN ops ≤ i → listed.getD i false = false) → (∀ i, i < headN ops → listed.getD i false = false → Un i ∨ sp = some i) → (∀ s, sp = some s → listed.getD s false = false) →
      ((List.range (headN ops)).filter fun i => !listed.getD i false).length + (ops.size - headN ops) ≤ fuel →
      a.tmps.size = fr.length → (∀ t, VR P w ι true (slotAt fr ops V (fun i => listed.getD i false) ops.size t) (a.tmps.getD t undef)) → HpRel P w ι hp → Ext w0 ι w ι → a.defers = [] → wpAny P .any ops Q fuel listed a w := by
  have hok' := hok
  unfold drawOk at hok'
  simp only [Bool.and_eq_true, List.all_eq_true, List.mem_range] at hok'
  obtain ⟨hback, hconf⟩ := hok'
  have preds : ∀ j x, x ∈ (predsGo ops.toList []).getD j [] → PredOf ops j x := predsGo_spec ops.toList [] (by simp) (by intro j x hx; simp at hx)
  have apart : ∀ i j o o', i < j → j < ops.size → ops[i]? = some o → ops[j]? = some o' → PredOf ops j i ∨ o.apart ops o' = true := by
    intro i j o o' hij hj ho ho'
    have := hconf j hj i hij
    simp only [Bool.or_eq_true, List.contains_iff_mem, ho, ho'] at this
    rcases this with h | h
    · exact .inl (preds j i h)
    · exact .inr h
  have ready : ∀ (listed : Array Bool) i, listed.size = ops.size → (i ∈ Region.ready .any ops listed ↔ i < ops.size ∧ listed.getD i false = false ∧ ∀ o e, ops[i]? = some o → e ∈ o.after → Region.binds .any e = true → listed.getD e.on false = true) := by
    intro listed i hsz
    unfold Region.ready
    simp only [List.mem_filter, List.mem_range, Bool.and_eq_true, Bool.not_eq_true']
    constructor
    · rintro ⟨h1, h2, h3⟩
      have ho : ops[i]? = some ops[i] := by simp [h1]
      refine ⟨h1, ?_, fun o e ho' he hb => ?_⟩
      · have hlt : i < listed.size := by omega
        simpa [Array.getD, hlt] using h2
      · rw [ho] at ho'; cases ho'
        rw [ho] at h3
        simp only [Option.map_some, Option.getD_some, Array.all_eq_true_iff_forall_mem, Bool.or_eq_true, Bool.not_eq_true'] at h3
        rcases h3 e he with h | h
        · rw [hb] at h; cases h
        · exact h
    · rintro ⟨h1, h2, h3⟩
      have ho : ops[i]? = some ops[i] := by simp [h1]
      refine ⟨h1, ?_, ?_⟩
      · have hlt : i < listed.size := by omega
        simpa [Array.getD, hlt] using h2
      · rw [ho]
        simp only [Option.map_some, Option.getD_some, Array.all_eq_true_iff_forall_mem, Bool.or_eq_true, Bool.not_eq_true']
        intro e he
        cases hb : Region.binds .any e with
        | false => exact .inl rfl
        | true => exact .inr (h3 _ e ho he hb)
  have hback' : ∀ j o e, ops[j]? = some o → e ∈ o.after → Region.binds .any e = true → e.on < j := by
    intro j o e ho he hb
    have hj : j < ops.size := (Array.getElem?_eq_some_iff.1 ho).1
    have hb2 := hback j hj
    rw [ho] at hb2
    simp only [List.all_eq_true, Bool.or_eq_true, Bool.not_eq_true', decide_eq_true_eq] at hb2
    rcases hb2 e (by simpa using he) with h | h
    · rw [hb] at h; cases h
    · exact h
  have hKp : ∀ j i, headN ops ≤ j → i < j → j < ops.size → PredOf ops j i := by
    intro j i hj hi hjs
    refine preds j i ?_
    have := tailN_spec (predsGo ops.toList []) ops.size j hj hjs i hi
    simpa using this
  have hle := hlex.le
  have done : ∀ (listed : Array Bool), listed.size = ops.size → Region.ready .any ops listed = [] → ∀ i, i < ops.size → listed.getD i false = true := by
    intro listed hsz hr i
    induction i using Nat.strongRecOn with
    | _ i ih =>
      intro hi
      cases hc : listed.getD i false with
      | true => rfl
      | false =>
        have : i ∈ Region.ready .any ops listed := (ready listed i hsz).2 ⟨hi, hc, fun o e ho he hb => by
          have hon := hback' i o e ho he hb
          exact ih e.on hon (by omega)⟩
        rw [hr] at this
        cases this
  have fin : ∀ (fuel : Nat) (listed : Array Bool) (a : Act) (w : World), listed.size = ops.size → (∀ s, sp = some s → listed.getD s false = false) → (∀ i, i < headN ops → listed.getD i false = true) → (∀ i, headN ops ≤ i → listed.getD i false = false) → ops.size - headN ops ≤ fuel → a.tmps.size = fr.length →
      (∀ t, VR P w ι true (slotAt fr ops V (fun i => listed.getD i false) ops.size t) (a.tmps.getD t undef)) → HpRel P w ι hp → Ext w0 ι w ι → a.defers = [] → wpAny P .any ops Q fuel listed a w := by
    intro fuel listed a w hsz hsp hall hno hf hlen hrel hh hext hdf
    have hsn : sp = none := by
      cases hc : sp with
      | none => rfl
      | some s =>
        have h1 := hsp s hc
        rw [hall s (hSp s hc).1] at h1
        cases h1
    obtain ⟨l1, l2⟩ := hlex.slot (headN ops) (Nat.le_refl _)
    rw [hlex.last] at l1 l2
    refine tail_ok hKp hback' ready _ (headN ops) listed a w fuel rfl (Nat.le_refl _) hle hf hsz (fun i hi => ?_) (hQ hsn a w ⟨⟨by simp only [l1]; exact hlen.symm, fun t => ?_⟩, hh, hdf⟩ hext)
    · by_cases h : i < headN ops
      · rw [hall i h]; simp [h]
      · rw [hno i (by omega)]; simp [h]
    · rw [l2 t, slotAt_congr (L' := fun i => listed.getD i false) (fun i o hi _ _ => (hall i hi).symm)]
      have := hrel t
      rw [slotAt_past hle (fun j o' h1 h2 ho' hLj => by have hLj : listed.getD j false = true := hLj; rw [hno j h1] at hLj; cases hLj)] at this
      exact this
  intro fuel
  induction fuel with
  | zero =>
    intro listed a w hsz hdown hno hun hsp hcnt hlen hrel hh hext hdf
    have hall : ∀ i, i < headN ops → listed.getD i false = true := by
      intro i hi
      cases hc : listed.getD i false with
      | true => rfl
      | false =>
        have : i ∈ (List.range (headN ops)).filter fun i => !listed.getD i false := by simp only [List.mem_filter, List.mem_range, hi, hc]; simp
        have := List.length_pos_of_mem this
        omega
    exact fin 0 listed a w hsz hsp hall hno (by omega) hlen hrel hh hext hdf
  | succ fuel ih =>
    intro listed a w hsz hdown hno hun hsp hcnt hlen hrel hh hext hdf
    by_cases hall : ∀ i, i < headN ops → listed.getD i false = true
    · exact fin (fuel + 1) listed a w hsz hsp hall hno (by omega) hlen hrel hh hext hdf
    have ⟨i0, hi0, hn0⟩ : ∃ i, i < headN ops ∧ listed.getD i false = false := by
      apply Classical.byContradiction
      intro hne
      refine hall fun i hi => ?_
      cases hc : listed.getD i false with
      | true => rfl
      | false => exact absurd ⟨i, hi, hc⟩ hne
    refine ⟨fun hr => (by have := done listed hsz hr i0 (by omega); rw [hn0] at this; cases this), fun i hi => ?_⟩
    obtain ⟨hin, hnl, hpre⟩ := (ready listed i hsz).1 hi
    have ho : ops[i]? = some ops[i] := by simp [hin]
    have hiK : i < headN ops := by
      rcases Nat.lt_or_ge i (headN ops) with h | h
      · exact h
      · have := hdown.pred (hKp i i0 h (by omega) hin) hpre
        have this : listed.getD i0 false = true := this
        rw [hn0] at this; cases this
    have hpred : ∀ x, PredOf ops i x → listed.getD x false = true := fun x hx => hdown.pred hx hpre
    have hset : ∀ k, (listed.setIfInBounds i true).getD k false = if k = i then true else listed.getD k false := by
      intro k
      by_cases hk : k = i
      · subst hk
        simp [Array.getD, show k < listed.size by omega]
      · by_cases hkl : k < listed.size
        · simp [Array.getD, hkl, Ne.symm hk, hk]
        · simp [Array.getD, hkl, hk]
    have hcnt2 : ((List.range (headN ops)).filter fun k => !(listed.setIfInBounds i true).getD k false).length + (ops.size - headN ops) ≤ fuel := by
      have hmem : i ∈ (List.range (headN ops)).filter fun i => !listed.getD i false := by simp only [List.mem_filter, List.mem_range, hiK, hnl]; simp
      have hlt : ((List.range (headN ops)).filter fun k => !(listed.setIfInBounds i true).getD k false).length < ((List.range (headN ops)).filter fun i => !listed.getD i false).length := by
        have e1 : ((List.range (headN ops)).filter fun k => !(listed.setIfInBounds i true).getD k false) = ((List.range (headN ops)).filter fun i => !listed.getD i false).filter fun k => k != i := by
          rw [List.filter_filter]
          congr 1
          funext k
          rw [hset]
          by_cases hk : k = i
          · subst hk; simp
          · simp [hk]
        rw [e1]
        refine List.length_filter_lt_length_iff_exists.2 ⟨i, hmem, by simp⟩
      omega
    obtain ⟨l1, l2⟩ := hlex.slot i (by omega)
    have later : ∀ j o', i < j → j < ops.size → ops[j]? = some o' → listed.getD j false = true → (ops[i]).apart ops o' = true := by
      intro j o' hij hj ho' hLj
      rcases apart i j _ o' hij hj ho ho' with h | h
      · have := hdown.pred h (fun o e h1 h2 h3 => hdown j o e hLj h1 h2 h3)
        exact absurd (show listed.getD i false = true from this) (by rw [hnl]; simp)
      · exact h
    -- what the operation looks at is as it was in the text's order
    have look : ∀ t, t ∈ (ops[i]).looksAt ops → VR P w ι true ((F i).getD t .any) (a.tmps.getD t undef) := by
      intro t ht
      have e1 : slotAt fr ops V (fun i => listed.getD i false) ops.size t = slotAt fr ops V (fun i => listed.getD i false) i t :=
        slotAt_past (by omega) fun j o' h1 h2 ho' hLj hd => by
          by_cases hji : j = i
          · subst hji; exact absurd (show listed.getD j false = true from hLj) (by rw [hnl]; simp)
          · exact (Oper.apart_spec (later j o' (by omega) h2 ho' hLj)).2.2 t hd ht
      have e2 : slotAt fr ops V (fun i => listed.getD i false) i t = slotAt fr ops V (fun _ => true) i t :=
        slotAt_congr fun j o' hj ho' hd => by
          rcases apart j i o' _ hj hin ho' ho with h | h
          · exact hpred j h
          · exact absurd ht ((Oper.apart_spec h).1 t hd)
      have := hrel t
      rw [e1, e2] at this
      rw [l2 t]
      exact this
    have hops : ∀ x ∈ (ops[i]).op.operands, VR P w ι true (aEv (F i) x) (a.eval x) := by
      intro x hx
      cases x with
      | tmp t =>
        show VR P w ι true (getL (F i) t) _
        rw [getL_eq]
        refine look t ?_
        unfold Oper.looksAt
        exact List.mem_append_left _ (List.mem_filterMap.2 ⟨.tmp t, by simpa using hx, rfl⟩)
      | const v => exact .c
      | global g => exact gEv_ok hh g
      | func f => exact .c
    by_cases hspi : sp = some i
    · exact (hSp i hspi).2 fuel listed a w hsz hdown hno hnl hpred (fun o ho' => by rw [ho] at ho'; cases ho'; exact hops) hcnt2 hlen hrel hh hext hdf
    have hstep := hstep0 i _ hiK ((hun i hiK hnl).resolve_right hspi) ho
    have hguard : ∀ j d want, (ops[i]).guard = some (j, want) → (ops[j]?).bind (·.dst) = some d → VR P w ι true ((F i).getD d .any) (a.tmps.getD d undef) := by
      intro j d want hg hd
      refine look d ?_
      unfold Oper.looksAt
      refine List.mem_append_right _ ?_
      simp [hg, hd]
    have next : ∀ v w', VR P w' ι true (V i) v → Ext w ι w' ι → HpRel P w' ι hp → wpAny P .any ops Q fuel (listed.setIfInBounds i true) (a.put (ops[i]).dst v) w' := by
      intro v w' hv hext' hh'
      refine ih _ _ _ (by simp [hsz]) ?_ ?_ ?_ ?_ hcnt2 ?_ ?_ hh' (hext.trans hext') ?_
      · intro j o e hj ho' he hb
        have hj : (listed.setIfInBounds i true).getD j false = true := hj
        show (listed.setIfInBounds i true).getD e.on false = true
        rw [hset] at hj ⊢
        split
        · rfl
        · split at hj
          · rename_i hji
            subst hji
            exact hpre o e ho' he hb
          · exact hdown j o e hj ho' he hb
      · intro k hk
        rw [hset, if_neg (by omega)]
        exact hno k hk
      · intro k hk hkn
        rw [hset] at hkn
        split at hkn
        · cases hkn
        · exact hun k hk hkn
      · intro s hs
        rw [hset, if_neg (by rintro rfl; exact hspi hs)]
        exact hsp s hs
      · cases (ops[i]).dst <;> simp [Act.put, hlen]
      · intro t
        rw [slotAt_add (L := fun i => listed.getD i false) ho hin (by simp only [hset]; simp) (fun j hj => by simp only [hset, hj, if_false]) (fun j o' hij hj ho' hLj hd => by
          have hap := Oper.apart_spec (later j o' hij hj ho' hLj)
          cases hdd : (ops[i]).dst with
          | none => rfl
          | some d => exact absurd (hd.trans hdd) (hap.2.1 d hdd))]
        have e : (a.put (ops[i]).dst v).tmps.getD t undef = if (ops[i]).dst = some t ∧ t < fr.length then v else a.tmps.getD t undef := by
          cases hdd : (ops[i]).dst with
          | none => simp [Act.put]
          | some d =>
            simp only [Act.put, Option.some.injEq]
            rw [setA_getD, hlen]
        rw [e]
        split
        · exact hv
        · exact (hrel t).mono hext'
      · cases (ops[i]).dst <;> exact hdf
    unfold wpOp
    rw [ho]
    simp only
    rcases hstep with ⟨hw, q, hq, hqq⟩ | ⟨hw, hV⟩
    · rw [if_pos (want_ok hguard hw)]
      exact .inl (doOpQ_ok hcl hh hops hq hqq fun v w' hv hext' hh' => next v w' hv hext' hh')
    · rw [if_neg (by rw [want_ok hguard hw]; simp)]
      refine next undef w ?_ (Ext.refl _ _) hh
      rw [hV]
      exact .c

omit [Gv] in
/-- An operation that looks at slots alone gives the same, whatever the blocks. -/
theorem float_op {hs : Hints} {o : Oper} (h : floatOk o = true) (ev : Operand → AV) : ∃ r : Option Res, (∀ hp, aOpS P hs ev hp o = r) ∧ ∀ k v c, r = some (k, v, c) → c = .nop := by
  obtain ⟨dst, op, ty, pos, after, guard⟩ := o
  unfold floatOk at h
  rw [Bool.and_eq_true] at h
  obtain ⟨_, h⟩ := h
  have fb : ∀ (o : Oper) k v c, fallback P ev o = some (k, v, c) → c = .nop := by
    intro o k v c hr
    unfold fallback at hr
    (repeat' split at hr) <;> first | (simp at hr; done) | (simp only [Option.some.injEq, Prod.mk.injEq] at hr; exact hr.2.2.symm)
  have bin : ∀ (op : BinOp) t x y z k v c, (op = .add ∨ op = .sub ∨ op = .mul) → aOpS P hs ev [] ⟨dst, .binOp op t x y z, ty, pos, after, guard⟩ = some (k, v, c) → c = .nop := by
    intro op t x y z k v c hop hr
    simp only [aOpS] at hr
    split at hr
    · unfold divA at hr
      rcases hop with rfl | rfl | rfl <;> ((repeat' split at hr) <;> simp_all)
    · have plain : aOpX P ev [] ⟨dst, .binOp op t x y z, ty, pos, after, guard⟩ = some (k, v, c) → c = .nop := by
        intro hr
        simp only [aOpX, aOp2, aOp] at hr
        split at hr
        · rename_i h2
          split at h2
          · rcases hop with rfl | rfl | rfl <;> simp at h2
          · simp at h2
        · (repeat' split at hr) <;> first | (simp at hr; done) | (simp only [Option.some.injEq, Prod.mk.injEq] at hr; exact hr.2.2.symm) | exact fb _ _ _ _ hr
      simp only [aOpS0] at hr
      (repeat' split at hr) <;> first | exact plain hr | (simp at hr; done) | (simp only [Option.some.injEq, Prod.mk.injEq] at hr; exact hr.2.2.symm)
  split at h
  · rename_i x heq
    simp only at heq; subst heq
    refine ⟨aOpS P hs ev [] ⟨dst, .move x, ty, pos, after, guard⟩, fun hp => ?_, fun k v c hr => ?_⟩
    · simp only [aOpS, aOpS0, aOpX, aOp2, aOp]
    · simp only [aOpS, aOpS0, aOpX, aOp2, aOp, ite_self, Option.some.injEq, Prod.mk.injEq] at hr
      exact hr.2.2.symm
  · rename_i x heq
    simp only at heq; subst heq
    refine ⟨aOpS P hs ev [] ⟨dst, .assign x, ty, pos, after, guard⟩, fun hp => ?_, fun k v c hr => ?_⟩
    · simp only [aOpS, aOpS0, aOpX, aOp2, aOp]
    · simp only [aOpS, aOpS0, aOpX, aOp2, aOp, ite_self, Option.some.injEq, Prod.mk.injEq] at hr
      exact hr.2.2.symm
  · rename_i t x y z heq
    simp only at heq; subst heq
    exact ⟨aOpS P hs ev [] ⟨dst, .binOp .add t x y z, ty, pos, after, guard⟩, fun hp => rfl, fun k v c hr => bin .add t x y z k v c (by simp) hr⟩
  · rename_i t x y z heq
    simp only at heq; subst heq
    exact ⟨aOpS P hs ev [] ⟨dst, .binOp .sub t x y z, ty, pos, after, guard⟩, fun hp => rfl, fun k v c hr => bin .sub t x y z k v c (by simp) hr⟩
  · rename_i t x y z heq
    simp only at heq; subst heq
    exact ⟨aOpS P hs ev [] ⟨dst, .binOp .mul t x y z, ty, pos, after, guard⟩, fun hp => rfl, fun k v c hr => bin .mul t x y z k v c (by simp) hr⟩
  · simp at h

theorem float_same {cl : CallT} {hs : Hints} {fr : List AV} {o : Oper} (h : floatOk o = true) (hp hp' : Heap) : doOpQ P cl hs hp fr o = doOpQ P cl hs hp' fr o := by
  obtain ⟨r, h1, h2⟩ := float_op (P := P) (hs := hs) h (aEv fr)
  unfold doOpQ
  split
  · rename_i ho
    unfold floatOk at h
    rw [ho] at h
    simp at h
  · rw [h1 hp, h1 hp']
    cases r with
    | none => rfl
    | some x =>
      obtain ⟨k, v, c⟩ := x
      obtain rfl := h2 k v c rfl
      simp only
      cases hu : useHint hs.sym (hintFor hs (hkey o)) (k, v, Cmd.nop) with
      | none => rfl
      | some y =>
        obtain ⟨v', c', p'⟩ := y
        have hc : c' = .nop := by
          unfold useHint at hu
          (repeat' split at hu) <;> first | (simp at hu; done) | (simp only [Option.some.injEq, Prod.mk.injEq] at hu; rw [← hu.2.1]; try rfl)
        subst hc
        rfl

end Go.Proofs.Ytljgmgbjfjhjmaa
