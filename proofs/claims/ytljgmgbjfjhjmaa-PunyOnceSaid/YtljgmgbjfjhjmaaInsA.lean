/- slices.Insert of one number: pieces of its code. -/
import Derived.Test.YtljgmgbjfjhjmaaLevQ
import Derived.Test.YtljgmgbjfjhjmaaBas
namespace Go.Proofs.Ytljgmgbjfjhjmaa
open Go.RowKit
set_option linter.unusedVariables false
set_option linter.unusedSimpArgs false

noncomputable def insC : Code := codeOf Try.prog 31
def iF (n i : Nat) (l : List (Nat × AV)) (hp : Heap) : St := ⟨frame 95 ([(0, .sl 0 0 n), (1, .c (.int .i64 i)), (2, .sl 1 0 1)] ++ l), hp⟩
def iH (C : List AV) (x : AV) : Heap := [some ⟨3, false, C⟩, some ⟨3, false, [x]⟩]

/-! At the end: an append. -/
theorem ipE_all (C : List AV) (x : AV) (n i : Nat) (hi : i = n) (hn : n ≤ 255) (hC : C.length = n) : ∃ (h : Hints) (p : List Prop), outKill [1] (aBody Try.prog cl0 h (lpBy ([])) 60 31 ([.sl 0 0 n, .c (.int .i64 i), .sl 1 0 1]) (iH C x)) = some (.sl 2 0 (n + 1), [none, none, some ⟨3, false, C.take n ++ [x]⟩], p) ∧ allP p := by
  refine ⟨⟨true, (bs [(22, true)])⟩, [(0 : Int) ≤ ↑i,
 (↑i : Int) ≤ ↑n,
 (↑n : Int) ≤ ↑n,
 ((↑i : Int) == (↑n : Int)) = true,
 (((1 : Nat) : Nat) ≤ ((1 : Nat))),
 (((n + (1 : Nat)) * (8 : Nat) : Nat) ≤ ((140737488355328 : Nat))),
 ((n + (1 : Nat) : Nat) ≤ ((4611686018427387904 : Nat))),
 ((n : Nat) ≤ (C.length))], by kernel_rfl, ?_⟩
  all_goals try simp (disch := omega) only [std, hC]
  all_goals repeat' apply And.intro
  all_goals first | exact True.intro | omega | with_reducible rfl | with_reducible assumption | exact hi | exact hC | rfl

/-! Ahead of it. -/
theorem ip0_all (C : List AV) (x : AV) (n i : Nat) (hi : i < n) (hn : n ≤ 255) (hC : C.length = n) : RoundK 2 Try.prog cl0 (Code.lft insC) (iF n i [] (iH C x)) (.normal) (iF n i [] (iH C x)) := by
  refine ⟨⟨true, (bs [(22, false)])⟩, _, 60, ⟨[], [0, 1, 2], [0, 1]⟩, [], lpBy_nilK, by decide, by kernel_rfl, ?_⟩
  all_goals try simp (disch := omega) only [std, hC]
  all_goals repeat' apply And.intro
  all_goals first | exact True.intro | omega | with_reducible rfl | with_reducible assumption | exact hC | rfl


theorem ip1_all (C : List AV) (x : AV) (n i : Nat) (hi : i < n) (hn : n ≤ 255) (hC : C.length = n) : RoundK 2 Try.prog cl0 (Code.lft (Code.rgt insC)) (iF n i [] (iH C x)) (.normal) (iF n i [] (iH C x)) := by
  refine ⟨⟨true, (bs [(22, false)])⟩, _, 60, ⟨[], [0, 1, 2], [0, 1]⟩, [(0 : Int) ≤ ↑i,
 (↑i : Int) ≤ ↑n,
 (↑n : Int) ≤ ↑n], lpBy_nilK, by decide, by kernel_rfl, ?_⟩
  all_goals try simp (disch := omega) only [std, hC]
  all_goals repeat' apply And.intro
  all_goals first | exact True.intro | omega | with_reducible rfl | with_reducible assumption | exact hC | rfl


theorem ip2_all (C : List AV) (x : AV) (n i : Nat) (hi : i < n) (hn : n ≤ 255) (hC : C.length = n) : RoundK 2 Try.prog cl0 (Code.lft (Code.rgt (Code.rgt insC))) (iF n i [] (iH C x)) (.normal) (iF n i [(7, .c (.int .i64 1))] (iH C x)) := by
  refine ⟨⟨true, (bs [(22, false)])⟩, _, 60, ⟨[], [0, 1, 2, 7], [0, 1]⟩, [], lpBy_nilK, by decide, by kernel_rfl, ?_⟩
  all_goals try simp (disch := omega) only [std, hC]
  all_goals repeat' apply And.intro
  all_goals first | exact True.intro | omega | with_reducible rfl | with_reducible assumption | exact hC | rfl


theorem ip3_all (C : List AV) (x : AV) (n i : Nat) (hi : i < n) (hn : n ≤ 255) (hC : C.length = n) : RoundK 2 Try.prog cl0 (Code.lft (Code.rgt (Code.rgt (Code.rgt insC)))) (iF n i [(7, .c (.int .i64 1))] (iH C x)) (.normal) (iF n i [(7, .c (.int .i64 1))] (iH C x)) := by
  refine ⟨⟨true, (bs [(22, false)])⟩, _, 60, ⟨[], [0, 1, 2, 7], [0, 1]⟩, [], lpBy_nilK, by decide, by kernel_rfl, ?_⟩
  all_goals try simp (disch := omega) only [std, hC]
  all_goals repeat' apply And.intro
  all_goals first | exact True.intro | omega | with_reducible rfl | with_reducible assumption | exact hC | rfl


theorem ip4_all (C : List AV) (x : AV) (n i : Nat) (hi : i < n) (hn : n ≤ 255) (hC : C.length = n) : RoundK 2 Try.prog cl0 (Code.lft (Code.rgt (Code.rgt (Code.rgt (Code.rgt insC))))) (iF n i [(7, .c (.int .i64 1))] (iH C x)) (.normal) (iF n i [(7, .c (.int .i64 1)), (8, .c (.int .i64 n))] (iH C x)) := by
  refine ⟨⟨true, (bs [(22, false)])⟩, _, 60, ⟨[], [0, 1, 2, 7, 8], [0, 1]⟩, [], lpBy_nilK, by decide, by kernel_rfl, ?_⟩
  all_goals try simp (disch := omega) only [std, hC]
  all_goals repeat' apply And.intro
  all_goals first | exact True.intro | omega | with_reducible rfl | with_reducible assumption | exact hC | rfl


theorem ip5_all (C : List AV) (x : AV) (n i : Nat) (hi : i < n) (hn : n ≤ 255) (hC : C.length = n) : RoundK 2 Try.prog cl0 (Code.lft (Code.rgt (Code.rgt (Code.rgt (Code.rgt (Code.rgt insC)))))) (iF n i [(7, .c (.int .i64 1)), (8, .c (.int .i64 n))] (iH C x)) (.normal) (iF n i [(7, .c (.int .i64 1)), (8, .c (.int .i64 n))] (iH C x)) := by
  refine ⟨⟨true, (bs [(22, false)])⟩, _, 60, ⟨[], [0, 1, 2, 7, 8], [0, 1]⟩, [((↑i : Int) == (↑n : Int)) = false], lpBy_nilK, by decide, by kernel_rfl, ?_⟩
  all_goals try simp (disch := omega) only [std, hC]
  all_goals repeat' apply And.intro
  all_goals first | exact True.intro | omega | with_reducible rfl | with_reducible assumption | exact hC | rfl

end Go.Proofs.Ytljgmgbjfjhjmaa
