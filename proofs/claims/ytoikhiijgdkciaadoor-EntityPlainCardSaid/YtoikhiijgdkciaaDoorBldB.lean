/- The library's Builder: Grow, of one that has not been written. -/
import Derived.Test.YtoikhiijgdkciaaDoorGrowB
namespace Go.Proofs.YtoikhiijgdkciaaDoor
open Go.RowKit
set_option linter.unusedVariables false
set_option linter.unusedSimpArgs false

noncomputable def hsg3 : HSpecs := hsgBy [(38, growSpec)]
noncomputable def cl3 : CallT := aCallH Tryd.prog (sgBy []) hsg3 500 8
theorem cl3_ok : CallOK Tryd.prog cl3 := aCallH_ok mixed sgBy_nil (hsgBy_cons grow_ok hsgBy_nil) 500 8

theorem gro_1 (n : Int) : outKill [] (aBody Tryd.prog cl3 ⟨true, bs [(7, false), (21, true)] ++ ([])⟩ (lpBy ([])) 60 26 ([.pt 0 0, .c (.int .i64 n)]) ([some ⟨46, true, [.c (.pointer none), .c (.slice none 0 0)]⟩])) = some ((AV.tu []), [(.some ⟨46, true, [(AV.pt 0 0),
 (AV.sl 1 0 0)]⟩),
 (.some ⟨5, false, []⟩)], [((decide (n < (0 : Int)) : Bool)) = (false),
 (((0 : Nat) : Nat) < ((1 : Nat))),
 (((0 : Nat) : Nat) < ((1 : Nat))),
 ((IntKind.i64.min : Int) ≤ ((↑(0 : Nat) : Int) - (↑(0 : Nat) : Int))),
 (((↑(0 : Nat) : Int) - (↑(0 : Nat) : Int) : Int) ≤ (IntKind.i64.max)),
 ((decide ((↑(0 : Nat) : Int) - (↑(0 : Nat) : Int) < n) : Bool)) = (true),
 (((0 : Int) : Int) ≤ (n)),
 ((n : Int) ≤ ((281474976710656 : Int)))]) := by kernel_rfl

theorem gro_all (n : Int) (h1 : 0 < n) (h2 : n ≤ 281474976710656) : ∃ (h : Hints) (p : List Prop), outKill [] (aBody Tryd.prog cl3 h (lpBy ([])) 60 26 ([.pt 0 0, .c (.int .i64 n)]) ([some ⟨46, true, [.c (.pointer none), .c (.slice none 0 0)]⟩])) = some (.tu [], [some ⟨46, true, [.pt 0 0, .sl 1 0 0]⟩, some ⟨5, false, []⟩], p) ∧ allP p := by
  have eR := gro_1 n
  refine ⟨_, _, eR.trans (congrArg (fun r : AV × Heap => some (r.1, r.2, _)) (a₁ := (_, _)) (a₂ := (_, _)) ?_), ?_⟩
  · rfl
  · try simp only [decide_eq_true_eq, decide_eq_false_iff_not, beq_iff_eq, beq_eq_false_iff_ne, ne_eq] at *
    try simp (disch := omega) only [allP, tdN, tmN, i64_wrap, i32_wrap, u8_wrap, u32_wrap, bytesOK_cons, bytesOK_nil, decide_eq_true_eq, decide_eq_false_iff_not, beq_iff_eq, beq_eq_false_iff_ne, ne_eq, not_false_eq_true, and_true, true_and, i64_min, i64_max, u8_min, u8_max]
    repeat' apply And.intro
    all_goals first | exact True.intro | omega | assumption | rfl | exact avEq_refl _

def groSpec : HSpec
  | [.pt 0 0, .c (.int .i64 n)], [some ⟨t, true, [.c (.pointer none), .c (.slice none 0 0)]⟩] => if t = 46 then
      some (.tu [], [some ⟨46, true, [.pt 0 0, .sl 1 0 0]⟩, some ⟨5, false, []⟩], [0 < n, n ≤ 281474976710656]) else none
  | _, _ => none

theorem gro_ok : HSpecOK Tryd.prog 26 groSpec := by
  refine hspec_kill mixed cl3_ok fun args hp r hp' q hs hq => ?_
  unfold groSpec at hs
  split at hs
  · rename_i n t
    split at hs
    · rename_i ht
      subst ht
      simp only [Option.some.injEq, Prod.mk.injEq] at hs
      obtain ⟨rfl, rfl, rfl⟩ := hs
      obtain ⟨h1, h2, _⟩ := hq
      obtain ⟨h, p, e, hp⟩ := gro_all n h1 h2
      exact ⟨[], _, _, _, e, hp⟩
    · simp at hs
  · simp at hs

/-! Of nothing. -/
def gro0Spec : HSpec
  | [.pt 0 0, .c (.int .i64 0)], [some ⟨t, true, [.c (.pointer none), .c (.slice none 0 0)]⟩] => if t = 46 then
      some (.tu [], [some ⟨46, true, [.pt 0 0, .c (.slice none 0 0)]⟩], []) else none
  | _, _ => none

theorem gro0_1  : outKill [] (aBody Tryd.prog cl3 ⟨true, bs [] ++ ([])⟩ (lpBy ([])) 60 26 ([.pt 0 0, .c (.int .i64 0)]) ([some ⟨46, true, [.c (.pointer none), .c (.slice none 0 0)]⟩])) = some ((AV.tu []), [(.some ⟨46, true, [(AV.pt 0 0),
 (AV.c ((Value.slice .none 0 0)))]⟩)], [(((0 : Nat) : Nat) < ((1 : Nat))),
 (((0 : Nat) : Nat) < ((1 : Nat))),
 ((IntKind.i64.min : Int) ≤ ((↑(0 : Nat) : Int) - (↑(0 : Nat) : Int))),
 (((↑(0 : Nat) : Int) - (↑(0 : Nat) : Int) : Int) ≤ (IntKind.i64.max))]) := by kernel_rfl

theorem gro0_all   : ∃ (h : Hints) (p : List Prop), outKill [] (aBody Tryd.prog cl3 h (lpBy ([])) 60 26 ([.pt 0 0, .c (.int .i64 0)]) ([some ⟨46, true, [.c (.pointer none), .c (.slice none 0 0)]⟩])) = some (.tu [], [some ⟨46, true, [.pt 0 0, .c (.slice none 0 0)]⟩], p) ∧ allP p := by
  have eR := gro0_1 
  refine ⟨_, _, eR.trans (congrArg (fun r : AV × Heap => some (r.1, r.2, _)) (a₁ := (_, _)) (a₂ := (_, _)) ?_), ?_⟩
  · rfl
  · simp [allP, i64_min, i64_max]

theorem gro0_ok : HSpecOK Tryd.prog 26 gro0Spec := by
  refine hspec_kill mixed cl3_ok fun args hp r hp' q hs hq => ?_
  unfold gro0Spec at hs
  split at hs
  · rename_i t
    split at hs
    · rename_i ht
      subst ht
      simp only [Option.some.injEq, Prod.mk.injEq] at hs
      obtain ⟨rfl, rfl, rfl⟩ := hs
      obtain ⟨h, p, e, hp⟩ := gro0_all
      exact ⟨[], _, _, _, e, hp⟩
    · simp at hs
  · simp at hs


end Go.Proofs.YtoikhiijgdkciaaDoor
