/- The library's own copy of a text, and where a byte stands in it. -/
import Derived.Test.YtfnappdgiomiiaaDoorBas
namespace Go.Proofs.YtfnappdgiomiiaaDoor
open Go.RowKit
set_option linter.unusedVariables false
set_option linter.unusedSimpArgs false

def cloneSpec : Spec
  | [.c (.string s)] => some (.c (str (sb s)), [(sb s).length ≤ 140737488355328])
  | _ => none

noncomputable def clRun (h : List (Nat × Hint)) (l : List UInt8) : Option (AV × List Prop) :=
  outcome Tryd.prog 37 (aBody Tryd.prog cl0 ⟨true, h⟩ (lpBy []) 60 37 [.c (str l)] [])

theorem clone1 : clRun (bs [(6, true)]) [] = some (.c (str []), [((true : Bool)) = (true)]) := by kernel_rfl

theorem clone2 (l : List UInt8) : clRun (bs [(6, false)] ++ [(12, ⟨.c (.int .i64 l.length), some (byts l)⟩), (17, ⟨.c (str l), none⟩)]) l = some (.c (str l), [(((↑l.length : Int) == (0 : Int) : Bool)) = (false),
 (((0 : Int) : Int) ≤ ((↑l.length : Int))),
 (((↑l.length : Int) : Int) ≤ ((↑l.length : Int))),
 (((↑l.length : Int) * (↑(1 : Nat) : Int) : Int) ≤ ((140737488355328 : Int))),
 (((↑l.length : Int) : Int) ≤ ((4611686018427387904 : Int))),
 ((l.length + (0 : Nat) : Nat) ≤ ((List.replicate l.length (AV.c (Value.int IntKind.u8 (0 : Int)))).length)),
 (((↑(min l.length l.length) : Int) : Int)) = ((↑l.length : Int)),
 ((List.take (0 : Nat) (List.replicate l.length (AV.c (Value.int IntKind.u8 (0 : Int)))) ++
    List.take (min l.length l.length) (byts l) ++
  List.drop ((0 : Nat) + min l.length l.length) (List.replicate l.length (AV.c (Value.int IntKind.u8 (0 : Int)))) : List AV)) = (byts l),
 (((0 : Int) : Int) ≤ ((0 : Int))),
 (((0 : Int) : Int) < ((↑l.length : Int))),
 (((0 : Int) : Int) < ((↑l.length : Int))),
 (((↑l.length : Int) : Int) ≤ ((↑(byts l).length : Int))),
 bytesOK (List.take l.length (byts l)),
 (((↑l.length : Int) : Int) ≤ ((4611686018427387904 : Int))),
 ((unbyts (List.take l.length (byts l)) : List UInt8)) = (l)]) := by kernel_rfl

theorem clone_ok : SpecOK Tryd.prog 37 cloneSpec := by
  refine spec_of mixed cl0_ok fun args r q hs hq => ?_
  unfold cloneSpec at hs
  split at hs
  · rename_i l
    simp only [Option.some.injEq, Prod.mk.injEq] at hs
    obtain ⟨rfl, rfl⟩ := hs
    obtain ⟨⟨⟨l⟩⟩, rfl⟩ : ∃ b : ByteArray, b = l := ⟨l, rfl⟩
    simp only [sb_mk, allP, and_true] at hq ⊢
    by_cases h : l = []
    · subst h
      exact ⟨_, _, _, _, lpBy_nil, clone1, by simp [allP]⟩
    · have h1 : 0 < l.length := List.length_pos_iff.2 h
      refine ⟨_, _, _, _, lpBy_nil, clone2 l, ?_⟩
      simp only [allP, and_true, true_and]
      repeat' apply And.intro
      all_goals first | omega | exact bytesOK_byts _ | (simp [byts_length, unbyts_byts, byts_take, bytesOK_byts]; done) | (simp [byts_length, unbyts_byts, byts_take, bytesOK_byts]; omega)
  · simp at hs

end Go.Proofs.YtfnappdgiomiiaaDoor
