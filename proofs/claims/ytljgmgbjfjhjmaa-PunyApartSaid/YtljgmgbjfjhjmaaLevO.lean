/- Contracts of functions that hand back new memory: their result told anew. -/
import Derived.Test.YtljgmgbjfjhjmaaLevN
namespace Go.Proofs.Ytljgmgbjfjhjmaa
open Go.RowKit
set_option linter.unusedSimpArgs false
set_option linter.unusedVariables false

/-- An outcome told anew: nil slices as empty ones, the blocks that are kept. -/
def outTell (fi : Fi) : Option (AV × Heap × List Prop) → Option (AV × Heap × List Prop)
  | some (.tu l, hp, p) => some (.tu (fi.app ⟨l, hp⟩).fr, (fi.app ⟨l, hp⟩).hp, p)
  | some (r, hp, p) => some ((fi.app ⟨[r], hp⟩).fr.headD .any, (fi.app ⟨[r], hp⟩).hp, p)
  | none => none

variable [Gv] {P : Program}

theorem tell_tu {w : World} {κ : Pl} {l : List AV} {hp : Heap} {v : Value} (fi : Fi) (hnd : fi.m.Nodup) (hh : HpRel P w κ hp) (hv : VR P w κ true (.tu l) v) :
    ∃ ι', Ext0 w κ w ι' ∧ HpRel P w ι' (fi.app ⟨l, hp⟩).hp ∧ VR P w ι' true (.tu (fi.app ⟨l, hp⟩).fr) v := by
  obtain ⟨cs, rfl, hl, hr⟩ := hv.tuInv
  have hS : StRel P w κ ⟨l, hp⟩ { tmps := cs, defers := [] } := by
    refine ⟨⟨hl, fun t => ?_⟩, hh, rfl⟩
    by_cases ht : t < l.length
    · exact hr t ht
    · have : l.getD t .any = .any := by simp [List.getD, List.getElem?_eq_none (by omega : l.length ≤ t)]
      show VR P w κ true (l.getD t .any) _
      rw [this]; exact .any
  obtain ⟨ι', h1, e⟩ := fi.ok hnd hS
  exact ⟨ι', e, h1.hp, .tu h1.fr.len fun j hj => h1.fr.rel j⟩

theorem tell_one {w : World} {κ : Pl} {r : AV} {hp : Heap} {v : Value} (fi : Fi) (hnd : fi.m.Nodup) (hh : HpRel P w κ hp) (hv : VR P w κ true r v) :
    ∃ ι', Ext0 w κ w ι' ∧ HpRel P w ι' (fi.app ⟨[r], hp⟩).hp ∧ VR P w ι' true ((fi.app ⟨[r], hp⟩).fr.headD .any) v := by
  have hS : StRel P w κ ⟨[r], hp⟩ { tmps := #[v], defers := [] } := by
    refine ⟨⟨rfl, fun t => ?_⟩, hh, rfl⟩
    cases t with
    | zero => exact hv
    | succ t => exact .any
  obtain ⟨ι', h1, e⟩ := fi.ok hnd hS
  refine ⟨ι', e, h1.hp, ?_⟩
  have h0 := h1.fr.rel 0
  have he : (fi.app ⟨[r], hp⟩).fr.headD .any = (fi.app ⟨[r], hp⟩).fr.getD 0 .any := by
    cases (fi.app ⟨[r], hp⟩).fr <;> rfl
  rw [he]
  exact h0

/-- A contract over no blocks, out of a body; its result is told anew. -/
theorem hspec_new (hm : P.follows .mixedOrders = true) {cl : CallT} (hcl : CallOK P cl) {f : FuncId} {spec : HSpec}
    (h : ∀ args hp r hp' q, spec args hp = some (r, hp', q) → allP q → hp = [] ∧ ∃ fi hs lp fuel p, fi.m.Nodup ∧ LpOK Ext0 P lp ∧ outTell fi (aBody P cl hs lp fuel f args []) = some (r, hp', p) ∧ allP p) : HSpecOK P f spec := by
  intro args hp r hp' q hspec hq w ι vs hh hl hv
  obtain ⟨rfl, fi, hs, lp, fuel, p, hnd, hlp, hb, hp0⟩ := h args hp r hp' q hspec hq
  cases hb1 : aBody P cl hs lp fuel f args [] with
  | none => rw [hb1] at hb; simp [outTell] at hb
  | some x =>
    obtain ⟨r1, hp1, p1⟩ := x
    rw [hb1] at hb
    have key : p1 = p ∧ ∀ (w' : World) (κ' : Pl) (v : Value), HpRel P w' κ' hp1 → VR P w' κ' true r1 v → ∃ ι', Ext0 w' κ' w' ι' ∧ HpRel P w' ι' hp' ∧ VR P w' ι' true r v := by
      unfold outTell at hb
      split at hb
      · rename_i l hp2 p2 heq
        cases heq
        simp only [Option.some.injEq, Prod.mk.injEq] at hb
        obtain ⟨rfl, rfl, rfl⟩ := hb
        exact ⟨rfl, fun w' κ' v hh hv => tell_tu fi hnd hh hv⟩
      · rename_i r2 hp2 p2 hn heq
        cases heq
        simp only [Option.some.injEq, Prod.mk.injEq] at hb
        obtain ⟨rfl, rfl, rfl⟩ := hb
        exact ⟨rfl, fun w' κ' v hh hv => tell_one fi hnd hh hv⟩
      · simp at hb
    obtain ⟨rfl, hres⟩ := key
    obtain ⟨hbody, hcalls⟩ := aBody_ok rlExt0 hm hcl hlp hb1 hp0 hh hl hv
    refine ⟨hbody, hcalls.mono fun e w' ⟨v, κ', he, hext, hhp, hr⟩ => ?_⟩
    obtain ⟨ι', e2, h2, h3⟩ := hres w' κ' v hhp hr
    exact ⟨v, ι', he, ext_of_ext0 hh (hext.trans e2), h2, h3⟩

end Go.Proofs.Ytljgmgbjfjhjmaa
