/- Is a text right? -/
import Derived.Test.YtfaffnemfndkfaaDoorTextI
import Derived.Test.YtfaffnemfndkfaaDoorShelfV
namespace Go.Proofs.YtfaffnemfndkfaaDoor
open Go.Proofs Go.Shelf Go.RowKit
set_option linter.unusedVariables false
set_option linter.unusedSimpArgs false

theorem acceptAV_cells {i : Nat} (h : i < 16) : acceptAV.getD (2 * i) .any = .c (.int .u8 (Lib.accLo i)) ∧ acceptAV.getD (2 * i + 1) .any = .c (.int .u8 (Lib.accHi i)) := by
  have h16 : i = 0 ∨ i = 1 ∨ i = 2 ∨ i = 3 ∨ i = 4 ∨ i = 5 ∨ i = 6 ∨ i = 7 ∨ i = 8 ∨ i = 9 ∨ i = 10 ∨ i = 11 ∨ i = 12 ∨ i = 13 ∨ i = 14 ∨ i = 15 := by omega
  rcases h16 with rfl | rfl | rfl | rfl | rfl | rfl | rfl | rfl | rfl | rfl | rfl | rfl | rfl | rfl | rfl | rfl <;> exact ⟨rfl, rfl⟩

theorem tabs_of {w : World} {κ : Pl} {hp : Heap} (h : HpRel Tryd.prog w κ hp) : Lib.Utf8Tabs 0 1 w := by
  have cellOf : ∀ (g : Nat) (l : List AV), Gv.gv g = some l → ∀ j v, j < l.length → l.getD j .any = .c v → w.cell? ⟨g, j, none⟩ = some v := by
    intro g l hg j v hj hv
    have hr := h.gl g l hg
    cases hr with
    | fp h1 h2 h3 h4 h5 =>
      have h5' := h5 j hj
      rw [hv] at h5'
      have h3' := h3 j hj
      rw [Nat.zero_add] at h3'
      rw [h3']
      cases h5'
      rfl
  have hf : Gv.gv 0 = some firstAV := by kernel_rfl
  have ha : Gv.gv 1 = some acceptAV := by kernel_rfl
  refine ⟨fun c hc => ?_, fun i hi => ⟨?_, ?_⟩⟩
  · exact cellOf _ _ hf c _ (by rw [firstAV_len]; exact hc) (by simp [firstAV, List.getD, hc])
  · refine cellOf _ _ ha _ _ (by rw [acceptAV_len]; omega) (acceptAV_cells hi).1
  · refine cellOf _ _ ha _ _ (by rw [acceptAV_len]; omega) (acceptAV_cells hi).2

def validSpec : Spec
  | [.c (.string s)] => some (.c (.bool (Lib.validD (sb s))), [(sb s).length ≤ 9223372036854775807])
  | _ => none

theorem valid_ok : SpecOK Tryd.prog 25 validSpec := by
  intro args r q hs hq w κ vs hh hl hv
  unfold validSpec at hs
  split at hs
  · rename_i s
    simp only [Option.some.injEq, Prod.mk.injEq] at hs
    obtain ⟨rfl, rfl⟩ := hs
    obtain ⟨l⟩ := vs
    match l, hl with
    | [v0], _ =>
    have hv0 := hv 0 (by simp)
    have e0 : (#[v0] : Array Value).getD 0 undef = v0 := rfl
    rw [e0] at hv0
    cases hv0
    have hcall := Any.utf8_ValidString Tryd.lays196 s w hq.1 (tabs_of hh)
    refine ⟨⟨_, _, Tryd.func25, rfl, by decide⟩, hcall.mono ?_⟩
    rintro e w' ⟨rfl, hb⟩
    obtain ⟨ext, hp⟩ := hh.ext hb.os hb.tape hb.output hb.size hb.block
    exact ⟨_, _, _, rfl, ext, hp, .c⟩
  · simp at hs

noncomputable def sg9 : Specs := sgBy [(25, validSpec)]
noncomputable def cl9 : CallT := aCall Tryd.prog sg9 500 8
theorem cl9_ok : CallOK Tryd.prog cl9 := aCall_ok mixed (sgBy_cons valid_ok sgBy_nil) 500 8

theorem right_1 (l : List UInt8) : outcome Tryd.prog 14 (aBody Tryd.prog cl9 ⟨true, bs [] ++ ([])⟩ (lpBy ([])) 60 14 ([.c (str l)]) ([])) = some ((AV.c ((Value.bool (Lib.validD l)))), [((l.length : Nat) ≤ ((9223372036854775807 : Nat)))]) := by kernel_rfl

theorem right_all (l : List UInt8) (h1 : l.length ≤ 1000000000) : ∃ (h : Hints) (p : List Prop), outcome Tryd.prog 14 (aBody Tryd.prog cl9 h (lpBy ([])) 60 14 ([.c (str l)]) ([])) = some (.c (.bool (Lib.validD l)), p) ∧ allP p := by
  have eR := right_1 l
  refine ⟨_, _, eR.trans (congrArg (fun r => some (r, _)) ?_), ?_⟩
  · rfl
  · simp only [allP, and_true]
    omega

def rightSpec : Spec
  | [.c (.string s)] => some (.c (.bool (Lib.validD (sb s))), [(sb s).length ≤ 1000000000])
  | _ => none

theorem right_ok : SpecOK Tryd.prog 14 rightSpec := by
  refine spec_of mixed cl9_ok fun args r q hs hq => ?_
  unfold rightSpec at hs
  split at hs
  · rename_i s
    simp only [Option.some.injEq, Prod.mk.injEq] at hs
    obtain ⟨rfl, rfl⟩ := hs
    obtain ⟨⟨⟨l⟩⟩, rfl⟩ : ∃ b : ByteArray, b = s := ⟨s, rfl⟩
    obtain ⟨h, p, e, hp⟩ := right_all l hq.1
    exact ⟨_, _, _, _, lpBy_nil, e, hp⟩
  · simp at hs

end Go.Proofs.YtfaffnemfndkfaaDoor
