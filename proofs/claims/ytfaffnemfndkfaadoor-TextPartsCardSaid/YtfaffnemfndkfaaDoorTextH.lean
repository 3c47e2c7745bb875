/- Bytes into right signs: Decode. -/
import Derived.Test.YtfaffnemfndkfaaDoorTextG
namespace Go.Proofs.YtfaffnemfndkfaaDoor
open Go.RowKit
set_option linter.unusedVariables false
set_option linter.unusedSimpArgs false

noncomputable def decLp (l : List UInt8) : List (Nat × Lp) := [(6, ⟨lbody Tryd.prog 11 6, decFi, decS l 0 0 [], .exit 0, decE l (decF l)⟩)]
theorem decLp_ok (l : List UInt8) (hl : l.length ≤ 1000000000) : LpOK Ext0 Tryd.prog (lpBy (decLp l)) := lpBy_cons lpBy_nil (show decFi.m.Nodup by decide) (dec_loop l hl)

theorem dgo_mono (l : List UInt8) : ∀ f pos next out, out.length ≤ (dgo l f pos next out).length
  | 0, _, _, _ => Nat.le_refl _
  | f + 1, pos, next, out => by
    unfold dgo
    split
    · split
      · exact dgo_mono l f _ _ _
      · split
        · exact Nat.le_trans (by simp) (dgo_mono l f _ _ _)
        · exact Nat.le_trans (by simp) (dgo_mono l f _ _ _)
    · exact Nat.le_refl _

theorem dgo_le (l : List UInt8) : ∀ f pos next out, pos ≤ l.length → out.length ≤ 4 * pos → (dgo l f pos next out).length ≤ 4 * l.length
  | 0, _, _, _, h, h2 => by unfold dgo; omega
  | f + 1, pos, next, out, h, h2 => by
    unfold dgo
    have hw := dAt_pos l pos
    have hel := enc_len ((dAt l pos).1 : Nat)
    split
    · rename_i hlt
      have hle := dAt_le hlt
      split
      · exact dgo_le l f _ _ _ hle (by omega)
      · split
        · exact dgo_le l f _ _ _ hle (by simp; omega)
        · exact dgo_le l f _ _ _ hle (by simp; omega)
    · omega

theorem decF_le (l : List UInt8) : (decF l).length ≤ 4 * l.length := dgo_le l _ 0 0 [] (Nat.zero_le _) (by simp)

theorem decF_pos {l : List UInt8} (h : 0 < l.length) : 0 < (decF l).length := by
  unfold decF
  obtain ⟨f, hf⟩ : ∃ f, l.length = f + 1 := ⟨l.length - 1, by omega⟩
  rw [hf]
  unfold dgo
  have hel := enc_len ((dAt l 0).1 : Nat)
  rw [if_pos h, if_neg (by omega)]
  split
  · exact Nat.lt_of_lt_of_le (by simp; omega) (dgo_mono l f _ _ _)
  · exact Nat.lt_of_lt_of_le (by simp; omega) (dgo_mono l f _ _ _)

theorem dec_1 (l : List UInt8) : outcome Tryd.prog 11 (aBody Tryd.prog cl6 ⟨true, bs [] ++ ([(9, ⟨.c (str l), none⟩)])⟩ (lpBy (decLp l)) 60 11 ([.fs 1 l.length (byts l)]) ([])) = some ((AV.c ((str (unbyts (List.take (decF l).length (byts (decF l))))))), [(((byts l).length : Nat)) = (l.length),
 bytesOK (byts l),
 ((unbyts (byts l) : List UInt8)) = (l),
 (((0 : Int) : Int) < ((↑l.length : Int))),
 (((↑l.length : Int) : Int) ≤ ((281474976710656 : Int))),
 ((lbody Tryd.prog (11 : FuncId) (6 : Nat) : Go.Code)) = (lbody Tryd.prog (11 : FuncId) (6 : Nat)),
 ((decS l (0 : Nat) (0 : Nat) [] : Go.Proofs.YtfaffnemfndkfaaDoor.St)) = (decS l (0 : Nat) (0 : Nat) []),
 (((0 : Nat) : Nat) < ((decF l).length)),
 (((decF l).length : Nat) ≤ ((byts (decF l)).length)),
 bytesOK (List.take (decF l).length (byts (decF l))),
 (((decF l).length : Nat) ≤ ((4611686018427387904 : Nat)))]) := by kernel_rfl

theorem dec_all (l : List UInt8) (h0 : 0 < l.length) (h1 : l.length ≤ 1000000000) : ∃ (h : Hints) (p : List Prop), outcome Tryd.prog 11 (aBody Tryd.prog cl6 h (lpBy (decLp l)) 60 11 ([.fs 1 l.length (byts l)]) ([])) = some (.c (str (decF l)), p) ∧ allP p := by
  have eR := dec_1 l
  refine ⟨_, _, eR.trans (congrArg (fun r => some (r, _)) ?_), ?_⟩
  · rw [byts_take, unbyts_byts, List.take_length]
  · have k1 := decF_pos h0
    have k2 := decF_le l
    simp only [allP, byts_take, byts_length, unbyts_byts, and_true, true_and]
    repeat' apply And.intro
    all_goals first | omega | exact bytesOK_byts _

/-! Of no byte. -/

def gro0Spec : HSpec
  | [.pt 0 0, .c (.int .i64 0)], [some ⟨t, true, [.c (.pointer none), .c (.slice none 0 0)]⟩] => if t = 37 then
      some (.tu [], [some ⟨37, true, [.pt 0 0, .c (.slice none 0 0)]⟩], []) else none
  | _, _ => none

theorem gro0_1  : outKill [] (aBody Tryd.prog cl3 ⟨true, bs [] ++ ([])⟩ (lpBy ([])) 60 20 ([.pt 0 0, .c (.int .i64 0)]) ([some ⟨37, true, [.c (.pointer none), .c (.slice none 0 0)]⟩])) = some ((AV.tu []), [(.some ⟨37, true, [(AV.pt 0 0),
 (AV.c ((Value.slice .none 0 0)))]⟩)], [(((0 : Nat) : Nat) < ((1 : Nat))),
 (((0 : Nat) : Nat) < ((1 : Nat))),
 ((IntKind.i64.min : Int) ≤ ((↑(0 : Nat) : Int) - (↑(0 : Nat) : Int))),
 (((↑(0 : Nat) : Int) - (↑(0 : Nat) : Int) : Int) ≤ (IntKind.i64.max))]) := by kernel_rfl

theorem gro0_all   : ∃ (h : Hints) (p : List Prop), outKill [] (aBody Tryd.prog cl3 h (lpBy ([])) 60 20 ([.pt 0 0, .c (.int .i64 0)]) ([some ⟨37, true, [.c (.pointer none), .c (.slice none 0 0)]⟩])) = some (.tu [], [some ⟨37, true, [.pt 0 0, .c (.slice none 0 0)]⟩], p) ∧ allP p := by
  have eR := gro0_1 
  refine ⟨_, _, eR.trans (congrArg (fun r : AV × Heap => some (r.1, r.2, _)) (a₁ := (_, _)) (a₂ := (_, _)) ?_), ?_⟩
  · rfl
  · simp [allP, i64_min, i64_max]

theorem gro0_ok : HSpecOK Tryd.prog 20 gro0Spec := by
  refine hspec_kill mixed cl3_ok fun args hp r hp' q hs hq => ?_
  unfold gro0Spec at hs
  split at hs
  · rename_i t
    split at hs
    · rename_i ht
      subst ht
      simp only [Option.some.injEq, Prod.mk.injEq] at hs
      obtain ⟨rfl, rfl, rfl⟩ := hs
      obtain ⟨h, p, e, hp⟩ := gro0_all
      exact ⟨[], _, _, _, e, hp⟩
    · simp at hs
  · simp at hs

noncomputable def hsg7 : HSpecs := hsgBy [(20, gro0Spec), (23, bstSpec)]
noncomputable def cl7 : CallT := aCallH Tryd.prog (sgBy []) hsg7 500 8
theorem cl7_ok : CallOK Tryd.prog cl7 := aCallH_ok mixed sgBy_nil (hsgBy_cons gro0_ok (hsgBy_cons bst_ok hsgBy_nil)) 500 8

def dec0S : St := ⟨frame 33 [(3, .c (str [])), (4, .pt 0 0), (14, .itr 1)], [some ⟨37, true, [.pt 0 0, .c (.slice none 0 0)]⟩, some ⟨0, true, [.iter [] 0]⟩]⟩
def dec0E : St := ⟨frame 33 [(3, .c (str [])), (4, .pt 0 0)], [some ⟨37, true, [.pt 0 0, .c (.slice none 0 0)]⟩]⟩

theorem decz_1  : roundOut (⟨[], [3, 4], [0]⟩) (aCode Tryd.prog cl7 ⟨true, bs [] ++ ([])⟩ (lpBy ([])) 60 (lbody Tryd.prog 11 6) (dec0S)) = some (.exit 0, dec0E, [(((0 : Nat) : Nat) ≤ ((0 : Nat)))]) := by kernel_rfl

theorem dec0_loop : Tri Ext0 Tryd.prog (.loop (lbody Tryd.prog 11 6)) dec0S (.exit 0) dec0E :=
  loop_ok mixed cl7_ok (α := Unit) (fun _ => dec0S) (fun _ => 0) (fun _ => .inr ⟨by simp, _, _, _, _, _, lpBy_nil, by decide, decz_1, by simp [allP]⟩) ()

noncomputable def dec0Lp : List (Nat × Lp) := [(6, ⟨lbody Tryd.prog 11 6, ⟨[], [3, 4, 14], [0, 1]⟩, dec0S, .exit 0, dec0E⟩)]
theorem dec0Lp_ok : LpOK Ext0 Tryd.prog (lpBy dec0Lp) := lpBy_cons lpBy_nil (by decide) dec0_loop

theorem dec0_1  : outcome Tryd.prog 11 (aBody Tryd.prog cl7 ⟨true, bs [] ++ ([(9, ⟨.c (str []), none⟩)])⟩ (lpBy (dec0Lp)) 60 11 ([.fs 1 0 []]) ([])) = some ((AV.c ((str ([])))), [(((0 : Nat) : Nat)) = ((0 : Nat)),
 bytesOK ([]),
 (([] : List UInt8)) = ([]),
 ((lbody Tryd.prog (11 : FuncId) (6 : Nat) : Go.Code)) = (lbody Tryd.prog (11 : FuncId) (6 : Nat)),
 ((dec0S : Go.Proofs.YtfaffnemfndkfaaDoor.St)) = (dec0S)]) := by kernel_rfl

theorem dec0_all   : ∃ (h : Hints) (p : List Prop), outcome Tryd.prog 11 (aBody Tryd.prog cl7 h (lpBy (dec0Lp)) 60 11 ([.fs 1 0 []]) ([])) = some (.c (str []), p) ∧ allP p := by
  have eR := dec0_1 
  refine ⟨_, _, eR.trans (congrArg (fun r => some (r, _)) ?_), ?_⟩
  · rfl
  · exact ⟨rfl, bytesOK_byts [], rfl, rfl, rfl, trivial⟩

def decSpec : Spec
  | [.fs s n l] => some (.c (str (decF (unbyts l))), [s = 1, l = byts (unbyts l), n = (unbyts l).length, n ≤ 1000000000])
  | _ => none

/-- A contract by others. -/
theorem spec_by {P : Program} {f : FuncId} {spec : Spec} (h : ∀ args r q, spec args = some (r, q) → allP q → ∃ s, SpecOK P f s ∧ ∃ q', s args = some (r, q') ∧ allP q') : SpecOK P f spec :=
  fun args r q hs hq w κ vs hh hl hv => by
    obtain ⟨s, ok, q', h1, h2⟩ := h args r q hs hq
    exact ok args r q' h1 h2 w κ vs hh hl hv

def decASpec : Spec
  | [.fs s n l] => some (.c (str (decF (unbyts l))), [s = 1, l = byts (unbyts l), n = (unbyts l).length, n ≤ 1000000000, 0 < n])
  | _ => none

theorem decA_ok : SpecOK Tryd.prog 11 decASpec := by
  refine spec_of mixed cl6_ok fun args r q hs hq => ?_
  unfold decASpec at hs
  split at hs
  · rename_i s n l
    simp only [Option.some.injEq, Prod.mk.injEq] at hs
    obtain ⟨rfl, rfl⟩ := hs
    obtain ⟨rfl, h1, h2, h3, h4, _⟩ := hq
    generalize unbyts l = m at h1 h2
    subst h1 h2
    obtain ⟨hh, p, e, hp⟩ := dec_all m h4 h3
    exact ⟨_, _, _, _, decLp_ok m h3, e, hp⟩
  · simp at hs

def decZSpec : Spec
  | [.fs 1 0 []] => some (.c (str []), [])
  | _ => none

theorem decZ_ok : SpecOK Tryd.prog 11 decZSpec := by
  refine spec_of mixed cl7_ok fun args r q hs hq => ?_
  unfold decZSpec at hs
  split at hs
  · simp only [Option.some.injEq, Prod.mk.injEq] at hs
    obtain ⟨rfl, rfl⟩ := hs
    obtain ⟨hh, p, e, hp⟩ := dec0_all
    exact ⟨_, _, _, _, dec0Lp_ok, e, hp⟩
  · simp at hs

theorem dec_ok : SpecOK Tryd.prog 11 decSpec := by
  refine spec_by fun args r q hs hq => ?_
  unfold decSpec at hs
  split at hs
  · rename_i s n l
    simp only [Option.some.injEq, Prod.mk.injEq] at hs
    obtain ⟨rfl, rfl⟩ := hs
    obtain ⟨h0, h1, h2, h3, _⟩ := hq
    by_cases h : 0 < n
    · exact ⟨decASpec, decA_ok, _, rfl, h0, h1, h2, h3, h, trivial⟩
    · have hn : n = 0 := by omega
      have hl : unbyts l = [] := List.length_eq_zero_iff.1 (by omega)
      rw [hl] at h1
      subst hn h0 h1
      exact ⟨decZSpec, decZ_ok, _, rfl, trivial⟩
  · simp at hs

end Go.Proofs.YtfaffnemfndkfaaDoor
