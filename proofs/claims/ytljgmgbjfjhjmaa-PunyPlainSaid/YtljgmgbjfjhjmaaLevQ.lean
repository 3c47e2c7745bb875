/- Code run in pieces, with operations that are shown by hand in between. -/
import Derived.Test.YtljgmgbjfjhjmaaLevP
namespace Go.Proofs.Ytljgmgbjfjhjmaa
open Go.RowKit
set_option linter.unusedVariables false
set_option linter.unusedSimpArgs false

/-! Parts of code. -/
def Code.lft : Code → Code
  | .seq x _ => x
  | c => c
def Code.rgt : Code → Code
  | .seq _ y => y
  | c => c
def Code.thn : Code → Code
  | .cond _ x _ => x
  | c => c
def Code.rops : Code → Array Oper
  | .region _ o _ => o
  | _ => #[]
def codeOf (P : Program) (f : FuncId) : Code :=
  match P.funcs[f]? with
  | some fn => fn.body.getD .skip
  | none => .skip

variable [Gv] {P : Program}

/-- A call, by its body's code. -/
theorem body_calls {f : FuncId} {fn : Func} {c : Code} {args : List AV} {hp : Heap} {R : Ending → World → Prop} (hf : P.funcs[f]? = some fn) (hb : fn.body = some c)
    {w : World} {ι : Pl} {vs : Array Value} (hh : HpRel P w ι hp) (hl : args.length = vs.size) (hv : ∀ j, j < args.length → VR P w ι true (args.getD j .any) (vs.getD j undef))
    (H : ∀ a, StRel P w ι ⟨args ++ List.replicate (fn.ntmps - args.length) .any, hp⟩ a → c.wp P (bodyPost P fn R) a w) : Calls P f vs w R := by
  refine calls_of_wp hf hb (H _ ⟨⟨by simp [hl], fun t => ?_⟩, hh, rfl⟩)
  rw [getD_append]
  have e2 : (vs ++ Array.replicate (fn.ntmps - vs.size) undef).getD t undef = if t < vs.size then vs.getD t undef else undef := by
    rw [← toList_getD, ← toList_getD]
    simp only [Array.toList_append, List.getD, List.getElem?_append, Array.length_toList, Array.toList_replicate, List.getElem?_replicate]
    split
    · rfl
    · split <;> rfl
  rw [e2]
  split
  · rename_i hlt
    rw [if_pos (by omega)]
    exact hv t (by omega)
  · rename_i hlt
    rw [if_neg (by omega)]
    have : (List.replicate (fn.ntmps - args.length) AV.any).getD (t - args.length) .any = .any := by
      simp only [List.getD, List.getElem?_replicate]
      split <;> rfl
    rw [this]
    exact .any

theorem post_ret {fn : Func} {R : Ending → World → Prop} {w : World} {ι : Pl} {S : St} {a : Act} {r : AV} (hS : StRel P w ι S a) (hr : resAV P S.fr S.hp fn.results.toList = some r) (hR : ∀ v, VR P w ι true r v → R (.returned v) w) : bodyPost P fn R .ret a w := by
  obtain ⟨v, hres, hrel⟩ := run_results (P := P) hS.fr hS.hp hr
  exact ⟨hS.df, v, hres, hR v hrel⟩

omit [Gv] in
theorem wp_parts {Q : Exit → Act → World → Prop} {c : Code} {a : Act} {w : World} (h : c = .seq (Code.lft c) (Code.rgt c)) (hw : (Code.lft c).wp P (Exit.then ((Code.rgt c).wp P Q) Q) a w) : c.wp P Q a w := by
  have := wp_seq hw
  rwa [← h] at this

/-- The first part by what it comes to. -/
theorem wp_piece {X : Rl} {Q : Exit → Act → World → Prop} {c : Code} {a : Act} {w : World} {ι : Pl} {S S' : St} (h : c = .seq (Code.lft c) (Code.rgt c)) (ht : Tri X P (Code.lft c) S .normal S') (hS : StRel P w ι S a)
    (next : ∀ a' w' ι', StRel P w' ι' S' a' → X w ι w' ι' → (Code.rgt c).wp P Q a' w') : c.wp P Q a w :=
  wp_parts h (ht w ι a _ hS fun a' w' ι' h1 h2 => next a' w' ι' h1 h2)

omit [Gv] in
/-- An operation that is shown by hand. -/
theorem wpList_val {ops : Array Oper} {Q : Exit → Act → World → Prop} {l : List Oper} {o : Oper} {a : Act} {w w' : World} {v : Value} (hg : o.guard = none) (he : (execOp a.eval o).run P w = .ok (.value v) w')
    (h : wpList P ops Q l (a.put o.dst v) w') : wpList P ops Q (o :: l) a w := by
  unfold wpList
  rw [if_pos (by unfold Region.wanted; rw [hg])]
  refine .inl ?_
  unfold Oper.wp
  rw [he, Oper.upon_value]
  exact h

/-- Operations ahead of others. -/
theorem aOps_pre {cl : CallT} (hcl : CallOK P cl) {hs : Hints} {ops : Array Oper} {Q : Exit → Act → World → Prop} : ∀ (l l2 : List Oper) (S S' : St) (p0 p : List Prop) (w : World) (ι : Pl) (a : Act),
    aOps P cl hs ops l S p0 = some (S', p) → allP p → StRel P w ι S a → (∀ a' w' ι', StRel P w' ι' S' a' → Ext w ι w' ι' → wpList P ops Q l2 a' w') → wpList P ops Q (l ++ l2) a w
  | [], l2, S, S', p0, p, w, ι, a, h, hp', hS, hQ => by
    simp only [aOps, Option.some.injEq, Prod.mk.injEq] at h
    obtain ⟨rfl, rfl⟩ := h
    exact hQ a w ι hS (Ext.refl _ _)
  | o :: r, l2, S, S', p0, p, w, ι, a, h, hp', hS, hQ => by
    simp only [aOps] at h
    rw [List.cons_append]
    unfold wpList
    split at h
    · rename_i hw
      split at h
      · rename_i S1 q hq
        rw [if_pos (want_st hS hw)]
        exact .inl (doOp_ok hcl hS hq (allP_append (aOps_mono r _ _ _ _ h hp')).2 fun a' w' ι' hS' hext => aOps_pre hcl r l2 S1 S' _ p w' ι' a' h hp' hS' fun a2 w2 ι2 h2 e2 => hQ a2 w2 ι2 h2 (hext.trans e2))
      · simp at h
    · rename_i hw
      rw [if_neg (by rw [want_st hS hw]; simp)]
      exact aOps_pre hcl r l2 _ S' _ p w ι _ h hp' (hS.put (show VR P w ι true uAV undef from .c) o.dst) hQ
    · simp at h

/-- Slots that are not asked for. -/
theorem StRel.keep {w : World} {ι : Pl} {S : St} {a : Act} (h : StRel P w ι S a) (keep : List Nat) : StRel P w ι ⟨keepOnly keep 0 S.fr, S.hp⟩ a := by
  refine ⟨⟨by rw [keepOnly_length]; exact h.fr.len, fun t => ?_⟩, h.hp, h.df⟩
  rcases keepOnly_getD keep S.fr 0 t with hk | hk <;> rw [hk]
  · exact .any
  · exact h.fr.rel t

/-- A run of operations, its state told anew. -/
def opsKeep (keep : List Nat) : Option (St × List Prop) → Option (St × List Prop)
  | some (S, p) => some (⟨keepOnly keep 0 S.fr, S.hp⟩, p)
  | none => none

theorem aOps_keep {cl : CallT} (hcl : CallOK P cl) {hs : Hints} {ops : Array Oper} {Q : Exit → Act → World → Prop} {l l2 : List Oper} {S S' : St} {p : List Prop} {w : World} {ι : Pl} {a : Act} {keep : List Nat}
    (h : opsKeep keep (aOps P cl hs ops l S []) = some (S', p)) (hp' : allP p) (hS : StRel P w ι S a) (hQ : ∀ a' w' ι', StRel P w' ι' S' a' → Ext w ι w' ι' → wpList P ops Q l2 a' w') : wpList P ops Q (l ++ l2) a w := by
  cases hc : aOps P cl hs ops l S [] with
  | none => rw [hc] at h; simp [opsKeep] at h
  | some x =>
    obtain ⟨S1, p1⟩ := x
    rw [hc] at h
    simp only [opsKeep, Option.some.injEq, Prod.mk.injEq] at h
    obtain ⟨rfl, rfl⟩ := h
    exact aOps_pre hcl l l2 S S1 [] p1 w ι a hc hp' hS fun a' w' ι' h1 h2 => hQ a' w' ι' (h1.keep keep) h2

end Go.Proofs.Ytljgmgbjfjhjmaa
