/- Loops by a family of states; contracts and laws out of bodies. -/
import Derived.Test.YtljgmgbjfjhjmaaLevJ
namespace Go.Proofs.Ytljgmgbjfjhjmaa
open Go.RowKit
set_option linter.unusedSimpArgs false
set_option linter.unusedVariables false

variable [Gv] {P : Program}

theorem virt_ok : ∀ (ns : List (Nat × TypeId)) {w : World} {ι : Pl} {S : St} {a : Act}, StRel P w ι S a → ∃ ι', StRel P w ι' (S.virt ns) a ∧ Ext w ι w ι'
  | [], w, ι, S, a, h => ⟨ι, h, Ext.refl _ _⟩
  | (t, e) :: r, w, ι, S, a, h => by
    simp only [St.virt]
    split
    · rename_i hc
      obtain ⟨e1, h1⟩ := h.hp.pushVirt (B := ⟨e, false, []⟩) rfl
      have hv : a.tmps.getD t undef = .slice none 0 0 := by
        have := h.fr.rel t
        rw [hc] at this
        exact this.cInv
      have hS : StRel P w (upd ι S.hp.length .virt) ⟨List.set S.fr t (.sl S.hp.length 0 0), S.hp ++ [some ⟨e, false, []⟩]⟩ a := by
        refine ⟨⟨by simp [h.fr.len], fun k => ?_⟩, h1, h.df⟩
        rw [set_getD]
        split
        · rename_i hk
          obtain ⟨rfl, _⟩ := hk
          rw [hv]
          exact .slZero
        · exact (h.fr.rel k).mono e1
      obtain ⟨ι', h2, e2⟩ := virt_ok r hS
      exact ⟨ι', h2, e1.trans e2⟩
    · exact virt_ok r h

def Loc.unfresh : Loc → Loc
  | .fresh => .dead
  | x => x

def placeOf (ι : Pl) (m : List Nat) (i : Nat) : Loc :=
  match m[i]? with
  | some b => (ι b).unfresh
  | none => .fresh

/-- The places under new numbers. -/
def Pl.ren (ι : Pl) (m : List Nat) : Pl := { ι with at_ := placeOf ι m }

omit [Gv] in
theorem ren_at {ι : Pl} {m : List Nat} {i b : Nat} (h : m[i]? = some b) : ι.ren m i = (ι b).unfresh := by
  show placeOf ι m i = _
  unfold placeOf
  rw [h]

omit [Gv] in
theorem ren_none {ι : Pl} {m : List Nat} {i : Nat} (h : m[i]? = none) : ι.ren m i = .fresh := by
  show placeOf ι m i = _
  unfold placeOf
  rw [h]

omit [Gv] in
theorem ren_here {ι : Pl} {m : List Nat} {i g : Nat} (h : ι.ren m i = .here g) : ∃ b, m[i]? = some b ∧ ι b = .here g := by
  cases hm : m[i]? with
  | none => rw [ren_none hm] at h; cases h
  | some b =>
    rw [ren_at hm] at h
    refine ⟨b, rfl, ?_⟩
    generalize ι b = x at h ⊢
    cases x <;> simp [Loc.unfresh] at h ⊢
    exact h

omit [Gv] in
theorem ren_un {ι : Pl} {m : List Nat} {g : Nat} (h : ι.un g) : (ι.ren m).un g :=
  ⟨fun i hi => by obtain ⟨b, _, hb⟩ := ren_here hi; exact h.1 b hb, h.2⟩

omit [Gv] in
theorem findIdx_spec {m : List Nat} {b i : Nat} (h : m.findIdx? (· == b) = some i) : m[i]? = some b := by
  have := List.findIdx?_eq_some_iff_getElem.1 h
  obtain ⟨hi, hb, _⟩ := this
  rw [List.getElem?_eq_getElem hi]
  simpa using hb

omit [Gv] in
theorem renAll_length (m : List Nat) : ∀ l : List AV, (AV.renAll m l).length = l.length
  | [] => rfl
  | a :: r => by simp [AV.renAll, renAll_length m r]

omit [Gv] in
theorem renAll_getD (m : List Nat) : ∀ (l : List AV) (j : Nat), (AV.renAll m l).getD j .any = (l.getD j .any).ren m
  | [], j => by simp [AV.renAll, AV.ren]
  | a :: r, 0 => by simp [AV.renAll]
  | a :: r, j + 1 => by simpa [AV.renAll] using renAll_getD m r j

omit [Gv] in
theorem VR.renm {w : World} {ι : Pl} {m : List Nat} {o : Bool} {a : AV} {v : Value} (hv : VR P w ι o a v) : VR P w (ι.ren m) o (a.ren m) v := by
  induction hv with
  | any => simp only [AV.ren]; exact .any
  | c => simp only [AV.ren]; exact .c
  | slDead hd =>
    simp only [AV.ren]
    split
    · rename_i i hi
      exact .slDead (by rw [ren_at (findIdx_spec hi), hd]; rfl)
    · exact .any
  | slZero =>
    simp only [AV.ren]
    split
    · exact .slZero
    · exact .any
  | slAt hg hh hn hs hm =>
    simp only [AV.ren]
    split
    · rename_i i hi
      exact .slAt (by rw [ren_at (findIdx_spec hi), hg]; rfl) hh hn hs hm
    · exact .any
  | ptDead hd =>
    simp only [AV.ren]
    split
    · rename_i i hi
      exact .ptDead (by rw [ren_at (findIdx_spec hi), hd]; rfl)
    · exact .any
  | pt hg hh =>
    simp only [AV.ren]
    split
    · rename_i i hi
      exact .pt (by rw [ren_at (findIdx_spec hi), hg]; rfl) hh
    · exact .any
  | itrDead hd =>
    simp only [AV.ren]
    split
    · rename_i i hi
      exact .itrDead (by rw [ren_at (findIdx_spec hi), hd]; rfl)
    · exact .any
  | itr hg =>
    simp only [AV.ren]
    split
    · rename_i i hi
      exact .itr (by rw [ren_at (findIdx_spec hi), hg]; rfl)
    · exact .any
  | fsZero => simp only [AV.ren]; exact .fsZero
  | fs hn hl hg hno hc h1 hr _ => simp only [AV.ren]; exact .fs hn hl hg (ren_un hno) hc h1 fun j hj => (hr j hj).shrink rfl (fun g hg => ren_un hg)
  | fp hg hno hc h1 hr _ => simp only [AV.ren]; exact .fp hg (ren_un hno) hc h1 fun j hj => (hr j hj).shrink rfl (fun g hg => ren_un hg)
  | ag hl h1 _ ih =>
    simp only [AV.ren]
    exact .ag (by rw [renAll_length]; exact hl) (fun j hj => h1 j (by rw [renAll_length] at hj; exact hj)) fun j hj => by rw [renAll_getD]; exact ih j (by rw [renAll_length] at hj; exact hj)
  | tu hl _ ih =>
    simp only [AV.ren]
    exact .tu (by rw [renAll_length]; exact hl) fun j hj => by rw [renAll_getD]; exact ih j (by rw [renAll_length] at hj; exact hj)
  | fn hl _ ih =>
    simp only [AV.ren]
    exact .fn (by rw [renAll_length]; exact hl) fun j hj => by rw [renAll_getD]; exact ih j (by rw [renAll_length] at hj; exact hj)

omit [Gv] in
theorem keepOnly_length (keep : List Nat) : ∀ (l : List AV) (i : Nat), (keepOnly keep i l).length = l.length
  | [], _ => rfl
  | a :: r, i => by simp [keepOnly, keepOnly_length keep r (i + 1)]

omit [Gv] in
theorem keepOnly_getD (keep : List Nat) : ∀ (l : List AV) (i j : Nat), (keepOnly keep i l).getD j .any = .any ∨ (keepOnly keep i l).getD j .any = l.getD j .any
  | [], _, _ => .inr rfl
  | a :: r, i, 0 => by
    simp only [keepOnly, List.getD_cons_zero]
    split
    · exact .inr rfl
    · exact .inl rfl
  | a :: r, i, j + 1 => by simpa [keepOnly] using keepOnly_getD keep r (i + 1) j

theorem fin_ok {w : World} {ι : Pl} {S : St} {a : Act} {keep m : List Nat} (hnd : m.Nodup) (h : StRel P w ι S a) : StRel P w (ι.ren m) (S.fin keep m) a ∧ Ext0 w ι w (ι.ren m) := by
  refine ⟨⟨⟨?_, fun t => ?_⟩, ⟨fun i => ?_, ?_, ?_, h.hp.hlt, fun g l hg => (h.hp.gl g l hg).shrink rfl (fun g hg => ren_un hg)⟩, h.df⟩, rfl, rfl, rfl, Nat.le_refl _, rfl, fun _ _ _ => rfl, fun g _ hn => ⟨rfl, ren_un hn⟩⟩
  · simp only [St.fin, renAll_length, keepOnly_length]; exact h.fr.len
  · simp only [St.fin, renAll_getD]
    rcases keepOnly_getD keep S.fr 0 t with hk | hk <;> rw [hk]
    · simp only [AV.ren]; exact .any
    · exact (h.fr.rel t).renm
  · simp only [St.fin, List.getElem?_map]
    cases hm : m[i]? with
    | none =>
      exact ren_none hm
    | some b =>
      simp only [Option.map_some]
      have hb := h.hp.blk b
      cases hs : S.hp[b]? with
      | none =>
        rw [hs] at hb
        have : S.hp.getD b none = none := by simp [List.getD, hs]
        rw [this]
        show ι.ren m i = .dead
        rw [ren_at hm, show ι b = .fresh from hb]; rfl
      | some x =>
        rw [hs] at hb
        have : S.hp.getD b none = x := by simp [List.getD, hs]
        rw [this]
        cases x with
        | none =>
          show ι.ren m i = .dead
          rw [ren_at hm, show ι b = .dead from hb]; rfl
        | some B =>
          show BlkOK P w (ι.ren m) i (renBlk m B)
          have hc : (renBlk m B).cells.length = B.cells.length := by unfold renBlk; split <;> simp [renAll_length]
          have hop : (renBlk m B).op = B.op := by unfold renBlk; split <;> rfl
          have hee : (renBlk m B).e = B.e := by unfold renBlk; split <;> rfl
          rcases hb with ⟨k1, k2⟩ | ⟨g, cur, fz, k1, k2, k3, k4, k5, k6⟩ | ⟨g, s, pos, k1, k2, k3, k4⟩
          · refine .inl ⟨by rw [ren_at hm, k1]; rfl, ?_⟩
            exact List.eq_nil_of_length_eq_zero (by rw [hc, k2]; rfl)
          rotate_left
          · refine .inr (.inr ⟨g, s, pos, by rw [ren_at hm, k1]; rfl, ?_, k3, by rw [hop]; exact k4⟩)
            unfold renBlk
            rw [if_pos k4]
            simp only [k2, AV.renAll, AV.ren]
          · refine .inr (.inl ⟨g, cur, fz, by rw [ren_at hm, k1]; rfl, by rw [hee]; exact k2, by rw [hee]; exact k3, by rw [hc]; exact k4, by rw [hc]; exact k5, fun j hj => ?_⟩)
            rw [hc] at hj
            rw [hop]
            have hr := k6 j hj
            unfold renBlk
            split
            · rename_i ho
              rw [ho] at hr ⊢
              simp only [renAll_getD]
              exact hr.renm
            · rename_i ho
              have ho' : B.op = false := by simpa using ho
              rw [ho'] at hr ⊢
              exact hr.shrink rfl (fun g hg => ren_un hg)
  · intro i j g hi hj
    obtain ⟨b, hb1, hb2⟩ := ren_here hi
    obtain ⟨b', hb1', hb2'⟩ := ren_here hj
    have := h.hp.inj _ _ _ hb2 hb2'
    subst this
    exact (List.getElem?_inj (List.getElem?_eq_some_iff.1 hb1).1 hnd).1 (hb1.trans hb1'.symm)
  · intro i g hi
    obtain ⟨b, _, hb2⟩ := ren_here hi
    exact h.hp.nohid b g hb2

theorem Fi.ok {w : World} {ι : Pl} {S : St} {a : Act} (f : Fi) (hnd : f.m.Nodup) (h : StRel P w ι S a) : ∃ ι', StRel P w ι' (f.app S) a ∧ Ext0 w ι w ι' := by
  obtain ⟨ι1, h1, e1⟩ := virt_ok f.ns h
  obtain ⟨h2, e2⟩ := fin_ok (keep := f.keep) hnd h1
  exact ⟨_, h2, e1.weak.trans e2⟩

/-- A piece of code's outcome, its state told anew. -/
def roundOut (fi : Fi) : Option (Exit × St × List Prop) → Option (Exit × St × List Prop)
  | some (e, S, p) => some (e, fi.app S, p)
  | none => none

/-- One round of a loop's body: from S to e and S'. -/
def Round (X : Rl) (P : Program) (cl : CallT) (b : Code) (S : St) (e : Exit) (S' : St) : Prop :=
  ∃ (hs : Hints) (lp : Nat → Option Lp) (fuel : Nat) (fi : Fi) (p : List Prop), LpOK X P lp ∧ fi.m.Nodup ∧ roundOut fi (aCode P cl hs lp fuel b S) = some (e, S', p) ∧ allP p

theorem Round.tri {cl : CallT} (hm : P.follows .mixedOrders = true) (hcl : CallOK P cl) {b : Code} {S S' : St} {e : Exit} (h : Round Ext0 P cl b S e S') : Tri Ext0 P b S e S' := by
  obtain ⟨hs, lp, fuel, fi, p, hlp, hnd, hc, hp⟩ := h
  intro w ι a Q hS hQ
  cases hcc : aCode P cl hs lp fuel b S with
  | none => rw [hcc] at hc; simp [roundOut] at hc
  | some x =>
    obtain ⟨e1, S1, p1⟩ := x
    rw [hcc] at hc
    simp only [roundOut, Option.some.injEq, Prod.mk.injEq] at hc
    obtain ⟨rfl, hS1, rfl⟩ := hc
    refine (aCode_ok rlExt0 hm hcl hlp fuel b S S1 e1 p1 hcc hp).1 w ι a Q hS fun a' w' ι' hS' hext => ?_
    obtain ⟨ι2, h2, e2⟩ := fi.ok hnd hS'
    rw [hS1] at h2
    exact hQ a' w' ι2 h2 (hext.trans e2)

/-- A loop, by a family of states that a measure orders. -/
theorem loop_ok {α : Type} {cl : CallT} (hm : P.follows .mixedOrders = true) (hcl : CallOK P cl) {b : Code} (I : α → St) (μ : α → Nat) {e : Exit} {R : St}
    (round : ∀ x, (∃ x', μ x' < μ x ∧ Round Ext0 P cl b (I x) .normal (I x')) ∨ (e ≠ .normal ∧ Round Ext0 P cl b (I x) e R)) (x0 : α) : Tri Ext0 P (.loop b) (I x0) e R := by
  have key : ∀ n x, μ x < n → ∀ w ι a Q, StRel P w ι (I x) a → (∀ a' w' ι', StRel P w' ι' R a' → Ext0 w ι w' ι' → Q e a' w') → Code.rounds P b Q n a w := by
    intro n
    induction n with
    | zero => intro x h; omega
    | succ n ih =>
      intro x hx w ι a Q hS hQ
      rw [rounds_succ]
      rcases round x with ⟨x', hlt, hr⟩ | ⟨hne, hr⟩
      · exact hr.tri hm hcl w ι a _ hS fun a1 w1 ι1 hS1 e1 => ih x' (by omega) w1 ι1 a1 Q hS1 fun a2 w2 ι2 hS2 e2 => hQ a2 w2 ι2 hS2 (e1.trans e2)
      · refine hr.tri hm hcl w ι a _ hS fun a1 w1 ι1 hS1 e1 => ?_
        have := hQ a1 w1 ι1 hS1 e1
        cases e with
        | normal => exact absurd rfl hne
        | _ => exact this
  intro w ι a Q hS hQ
  exact wp_loop_rounds _ (key (μ x0 + 1) x0 (by omega) w ι a Q hS hQ)

theorem lp_one {k : Nat} {L : Lp} (hnd : L.fi.m.Nodup) (h : Tri Ext0 P (.loop L.body) L.E L.e L.R) : LpOK Ext0 P (fun i => if i = k then some L else none) := by
  intro i L' hL w ι a Q S hS hE hQ
  have hL : (if i = k then some L else none) = some L' := hL
  split at hL
  · cases hL
    obtain ⟨ι2, h2, e2⟩ := L.fi.ok hnd hS
    rw [hE] at h2
    exact h w ι2 a Q h2 fun a' w' ι' hS' hext => hQ a' w' ι' hS' (e2.trans hext)
  · cases hL

theorem lp_more {k : Nat} {L : Lp} {lp : Nat → Option Lp} (hlp : LpOK Ext0 P lp) (hnd : L.fi.m.Nodup) (h : Tri Ext0 P (.loop L.body) L.E L.e L.R) : LpOK Ext0 P (fun i => if i = k then some L else lp i) := by
  intro i L' hL
  have hL : (if i = k then some L else lp i) = some L' := hL
  split at hL
  · cases hL
    intro w ι a Q S hS hE hQ
    obtain ⟨ι2, h2, e2⟩ := L.fi.ok hnd hS
    rw [hE] at h2
    exact h w ι2 a Q h2 fun a' w' ι' hS' hext => hQ a' w' ι' hS' (e2.trans hext)
  · exact hlp i L' hL

/-- A loop's body by its number. -/
def Code.loopAt (k : Nat) : Code → Option Code
  | .seq a b => match Code.loopAt k a with
    | some c => some c
    | none => Code.loopAt k b
  | .block _ b | .scope b => Code.loopAt k b
  | .cond _ a b => match Code.loopAt k a with
    | some c => some c
    | none => Code.loopAt k b
  | .loop b => if Code.rid b = some k then some b else Code.loopAt k b
  | _ => none

def lbody (P : Program) (f : FuncId) (k : Nat) : Code :=
  match P.funcs[f]? with
  | some fn => match fn.body with
    | some c => (Code.loopAt k c).getD .skip
    | none => .skip
  | none => .skip

/-- Loops by their numbers. -/
def lpBy : List (Nat × Lp) → Nat → Option Lp
  | [], _ => none
  | (k, L) :: r, i => if i = k then some L else lpBy r i

theorem lpBy_nil : LpOK Ext0 P (lpBy []) := fun _ _ h => by cases h

theorem lpBy_cons {k : Nat} {L : Lp} {r : List (Nat × Lp)} (hlp : LpOK Ext0 P (lpBy r)) (hnd : L.fi.m.Nodup) (h : Tri Ext0 P (.loop L.body) L.E L.e L.R) : LpOK Ext0 P (lpBy ((k, L) :: r)) := lp_more (k := k) hlp hnd h

/-- Contracts by their functions' numbers. -/
def sgBy : List (FuncId × Spec) → Specs
  | [], _ => none
  | (k, s) :: r, f => if f = k then some s else sgBy r f

theorem sgBy_nil : ∀ f spec, sgBy [] f = some spec → SpecOK P f spec := fun _ _ h => by cases h

theorem sgBy_cons {k : FuncId} {s : Spec} {r : List (FuncId × Spec)} (h : SpecOK P k s) (hr : ∀ f spec, sgBy r f = some spec → SpecOK P f spec) : ∀ f spec, sgBy ((k, s) :: r) f = some spec → SpecOK P f spec := by
  intro f spec hf
  have hf : (if f = k then some s else sgBy r f) = some spec := hf
  split at hf
  · rename_i he
    cases hf; rw [he]; exact h
  · exact hr f spec hf

omit [Gv] in
/-- What holds of each number below a bound, by one reckoning. -/
theorem byAll {α : Type} {F G : Nat → α} (N : Nat) (h : (List.range N).map F = (List.range N).map G) (n : Nat) (hn : n < N) : F n = G n :=
  List.map_inj_left.1 h n (List.mem_range.2 hn)

/-- What comes of a law's run. -/
def lawOut : Option (AV × Heap × List Prop) → Option (AV × List Prop)
  | some (r, _, p) => some (r, p)
  | none => none

/-- Nothing is owned, nothing is another's. -/
def Pl.none : Pl := { at_ := fun _ => .fresh, hid := fun _ => False }

/-- The package's variables read as is said. -/
def GlOK (P : Program) (w : World) : Prop := ∀ g l, Gv.gv g = some l → VR P w Pl.none false (.fp l) (.pointer (some ⟨g, 0, none⟩))

theorem none_rel (w : World) (hg : GlOK P w) : HpRel P w Pl.none [] :=
  ⟨fun b => by simp only [List.getElem?_nil]; rfl, fun b b' g hb => by simp [Pl.none] at hb, fun b g hb => by simp [Pl.none] at hb, fun g hg => hg.elim, hg⟩

theorem ext_of_ext0 {w w' : World} {κ κ' : Pl} (h0 : HpRel P w κ []) (e : Ext0 w κ w' κ') : Ext w κ w' κ' := by
  have hf : ∀ b, κ b = .fresh := fun b => by have := h0.blk b; simp only [List.getElem?_nil] at this; exact this
  exact ⟨e.os, e.tape, e.output, e.size, e.hid, e.hkeep, e.blk, (fun b g hb => by rw [hf b] at hb; cases hb), (fun b hb => by rw [hf b] at hb; cases hb)⟩

/-- A contract out of a body. -/
theorem spec_of {cl : CallT} (hm : P.follows .mixedOrders = true) (hcl : CallOK P cl) {f : FuncId} {spec : Spec}
    (h : ∀ args r q, spec args = some (r, q) → allP q → ∃ hs lp fuel p, LpOK Ext0 P lp ∧ outcome P f (aBody P cl hs lp fuel f args []) = some (r, p) ∧ allP p) : SpecOK P f spec := by
  intro args r q hr hq w κ vs hh hl hv
  obtain ⟨hs, lp, fuel, p, hlp, hb, hp⟩ := h args r q hr hq
  cases hbd : aBody P cl hs lp fuel f args [] with
  | none => rw [hbd] at hb; simp [outcome] at hb
  | some x =>
    obtain ⟨r', hp', p'⟩ := x
    rw [hbd] at hb
    have hpp : p' = p ∧ ∀ (w' : World) (κ' : Pl) (v : Value), HpRel P w' κ' hp' → VR P w' κ' true r' v → ResRel P w' κ' hp' f r v := by
      unfold outcome at hb
      split at hb
      · rename_i b n hp1 p1 heq
        cases heq
        split at hb
        · rename_i e B he hB
          split at hb
          · rename_i hc
            simp only [Option.some.injEq, Prod.mk.injEq] at hb
            obtain ⟨rfl, rfl⟩ := hb
            refine ⟨rfl, fun w' κ' v _ hv => ⟨b, e, he, rfl, hv, ?_⟩⟩
            rw [hB]
            obtain ⟨h1, h2⟩ := hc
            cases B
            simp only at h1 h2
            subst h1; subst h2
            rfl
          · simp at hb
        · simp at hb
      · simp at hb
      · rename_i r1 hp1 p1 hn hn2 heq
        cases heq
        split at hb
        · rename_i hc
          simp only [Option.some.injEq, Prod.mk.injEq] at hb
          obtain ⟨rfl, rfl⟩ := hb
          refine ⟨rfl, fun w' κ' v hhp hv => ?_⟩
          have hx := hv.shut hc
          unfold ResRel
          split
          · exact (hn2 _ _ _ rfl).elim
          · exact hx
        · simp at hb
      · simp at hb
    obtain ⟨rfl, hres⟩ := hpp
    obtain ⟨hbody, hcalls⟩ := aBody_ok rlExt0 hm hcl hlp hbd hp hh hl (fun j hj => (hv j hj).open_)
    exact ⟨hbody, hcalls.mono fun e w' ⟨v, κ', he, hext, hhp, hv'⟩ => ⟨v, κ', hp', he, ext_of_ext0 hh hext, hhp, hres w' κ' v hhp hv'⟩⟩

/-- A law out of its body: it answers, and nothing that was there has changed. -/
theorem law_of {cl : CallT} (hm : P.follows .mixedOrders = true) (hcl : CallOK P cl) {f : FuncId} {args : List AV} {vs : Array Value} {w : World} {v : Value} (hgl : GlOK P w) (hl : args.length = vs.size)
    (hv : ∀ j, j < args.length → VR P w Pl.none true (args.getD j .any) (vs.getD j undef))
    (h : ∃ hs lp fuel p, LpOK Ext0 P lp ∧ lawOut (aBody P cl hs lp fuel f args []) = some (.c v, p) ∧ allP p) : Calls P f vs w fun e w' => e = .returned v ∧ Below w.heap.size w w' := by
  obtain ⟨hs, lp, fuel, p, hlp, hb, hp⟩ := h
  cases hb1 : aBody P cl hs lp fuel f args [] with
  | none => rw [hb1] at hb; simp [lawOut] at hb
  | some x =>
  obtain ⟨r, hp', p1⟩ := x
  rw [hb1] at hb
  simp only [lawOut, Option.some.injEq, Prod.mk.injEq] at hb
  obtain ⟨rfl, rfl⟩ := hb
  replace hb := hb1
  obtain ⟨_, hcalls⟩ := aBody_ok rlExt0 hm hcl hlp hb hp (none_rel w hgl) hl hv
  refine hcalls.mono fun e w' ⟨u, κ', he, hext, hhp, hres⟩ => ?_
  rw [hres.cInv] at he
  exact ⟨he, hext.os, hext.tape, hext.output, hext.size, fun k hk => (hext.blk k hk ⟨fun b hb => by simp [Pl.none] at hb, fun hh => hh.elim⟩).1⟩

end Go.Proofs.Ytljgmgbjfjhjmaa
