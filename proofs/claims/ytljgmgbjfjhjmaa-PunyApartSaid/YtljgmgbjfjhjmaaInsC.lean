/- slices.Insert of one number: its code behind the question how much room there is. -/
import Derived.Test.YtljgmgbjfjhjmaaInsB
namespace Go.Proofs.Ytljgmgbjfjhjmaa
open Go.RowKit
set_option linter.unusedVariables false
set_option linter.unusedSimpArgs false

noncomputable def insC6 : Code := Code.rgt (Code.rgt (Code.rgt (Code.rgt (Code.rgt (Code.rgt insC)))))
noncomputable def insB9 : Code := Code.thn (Code.rgt (Code.lft insC6))
noncomputable def insR13 : Code := Code.rgt insC6
noncomputable def insX14 : Code := Code.lft (Code.rgt insR13)
noncomputable def insC15 : Code := Code.thn (Code.rgt insX14)
def iE (b n : Nat) (hp : Heap) : St := ⟨frame 95 [(6, .sl b 0 (n + 1))], hp⟩
def iB (C : List AV) : Option Blk := some ⟨3, false, C⟩

/-! Where there was none: the new row is filled. -/
theorem ipB_all (C Z D1 D2 : List AV) (x : AV) (n i : Nat) (hi : i < n) (hn : n ≤ 255) (hC : C.length = n) (hZ : Z.length = n + 1) (hD : D1.length = n + 1) (h1 : List.take (i + 0) Z ++ List.take (min (n + 1 - i) 1) [x] ++ List.drop (i + 0 + min (n + 1 - i) 1) Z = D1) (h2 : List.take (i + 1 + 0) D1 ++ List.take (min (n + 1 - (i + 1)) (n - i)) (List.take (n - i) (List.drop (i + 0) C)) ++ List.drop (i + 1 + 0 + min (n + 1 - (i + 1)) (n - i)) D1 = D2) : RoundK 2 Try.prog cl0 (Code.rgt insB9) (iF n i [(7, .c (.int .i64 1)), (8, .c (.int .i64 n)), (9, .sl 2 0 (n + 1))] [iB C, iB [x], iB Z]) (.ret) (iE 2 n [iB C, iB [x], iB D2]) := by
  refine ⟨⟨true, ([(45, ⟨.c (.int .i64 1), some D1⟩), (49, ⟨.c (.int .i64 (i + 1 : Nat)), none⟩), (54, ⟨.c (.int .i64 (n - i : Nat)), some D2⟩)])⟩, _, 60, ⟨[], [6], [0, 1, 2]⟩, [(0 : Int) ≤ ↑i,
 (↑i : Int) ≤ ↑(n + 1),
 (↑(n + 1) : Int) ≤ ↑(n + 1),
 (((1 : Nat) : Nat) ≤ ((1 : Nat))),
 ((n + (1 : Nat) - i + (i + (0 : Nat)) : Nat) ≤ (Z.length)),
 (((↑(min (n + (1 : Nat) - i) (1 : Nat)) : Int) : Int)) = (1),
 ((List.take (i + (0 : Nat)) Z ++ List.take (min (n + (1 : Nat) - i) (1 : Nat)) (List.take (1 : Nat) (List.drop (0 : Nat) [x])) ++ List.drop (i + (0 : Nat) + min (n + (1 : Nat) - i) (1 : Nat)) Z : List AV)) = (D1),
 (IntKind.i64.min : Int) ≤ ↑i + 1,
 (↑i + 1 : Int) ≤ IntKind.i64.max,
 (↑i + 1 : Int) = ↑(i + 1),
 (0 : Int) ≤ ↑(i + 1),
 (↑(i + 1) : Int) ≤ ↑(n + 1),
 (↑(n + 1) : Int) ≤ ↑(n + 1),
 (0 : Int) ≤ ↑i,
 (↑i : Int) ≤ ↑n,
 (↑n : Int) ≤ ↑n,
 ((n - i + (i + (0 : Nat)) : Nat) ≤ (C.length)),
 ((n + (1 : Nat) - (i + (1 : Nat)) + (i + (1 : Nat) + (0 : Nat)) : Nat) ≤ (D1.length)),
 (((↑(min (n + (1 : Nat) - (i + (1 : Nat))) (n - i)) : Int) : Int)) = ((↑(n - i) : Int)),
 ((List.take (i + (1 : Nat) + (0 : Nat)) D1 ++ List.take (min (n + (1 : Nat) - (i + (1 : Nat))) (n - i)) (List.take (n - i) (List.drop (i + (0 : Nat)) C)) ++ List.drop (i + (1 : Nat) + (0 : Nat) + min (n + (1 : Nat) - (i + (1 : Nat))) (n - i)) D1 : List AV)) = (D2)], lpBy_nilK, by decide, by kernel_rfl, ?_⟩
  all_goals try simp (disch := omega) only [std, List.length_take, List.length_drop, hC, hZ, hD]
  all_goals repeat' apply And.intro
  all_goals first | exact True.intro | omega | with_reducible rfl | with_reducible assumption | exact hC | exact hZ | exact hD | exact h1 | exact h2 | rfl

/-! Where there was some: the row is moved up. -/
def iG (n i : Nat) (l : List (Nat × AV)) (hp : Heap) : St := ⟨frame 95 ([(0, .sl 0 0 (n + 1)), (1, .c (.int .i64 i)), (2, .sl 1 0 1)] ++ l), hp⟩
theorem ipC_all (Z D1 D2 : List AV) (x : AV) (n i : Nat) (hi : i < n) (hn : n ≤ 255) (hZ : Z.length = n + 1) (hD : D1.length = n + 1) (h1 : List.take (i + 1 + 0) Z ++ List.take (min (n + 1 - (i + 1)) (n + 1 - i)) (List.take (n + 1 - i) (List.drop (i + 0) Z)) ++ List.drop (i + 1 + 0 + min (n + 1 - (i + 1)) (n + 1 - i)) Z = D1) (h2 : List.take (i + 0) D1 ++ List.take (min (n + 1 - i) 1) [x] ++ List.drop (i + 0 + min (n + 1 - i) 1) D1 = D2) : RoundK 2 Try.prog cl0 (insC15) (iG n i [(7, .c (.int .i64 1)), (8, .c (.int .i64 n))] [iB Z, iB [x]]) (.ret) (iE 0 n [iB D2, iB [x]]) := by
  refine ⟨⟨true, ([(72, ⟨.c (.int .i64 (i + 1 : Nat)), none⟩), (77, ⟨.c (.int .i64 (n - i : Nat)), some D1⟩), (82, ⟨.c (.int .i64 1), some D2⟩)])⟩, _, 60, ⟨[], [6], [0, 1]⟩, [(IntKind.i64.min : Int) ≤ ↑i + 1,
 (↑i + 1 : Int) ≤ IntKind.i64.max,
 (↑i + 1 : Int) = ↑(i + 1),
 (0 : Int) ≤ ↑(i + 1),
 (↑(i + 1) : Int) ≤ ↑(n + 1),
 (↑(n + 1) : Int) ≤ ↑(n + 1),
 (0 : Int) ≤ ↑i,
 (↑i : Int) ≤ ↑(n + 1),
 (↑(n + 1) : Int) ≤ ↑(n + 1),
 ((n + (1 : Nat) - i + (i + (0 : Nat)) : Nat) ≤ (Z.length)),
 ((n + (1 : Nat) - (i + (1 : Nat)) + (i + (1 : Nat) + (0 : Nat)) : Nat) ≤ (Z.length)),
 (((↑(min (n + (1 : Nat) - (i + (1 : Nat))) (n + (1 : Nat) - i)) : Int) : Int)) = ((↑(n - i) : Int)),
 ((List.take (i + (1 : Nat) + (0 : Nat)) Z ++ List.take (min (n + (1 : Nat) - (i + (1 : Nat))) (n + (1 : Nat) - i)) (List.take (n + (1 : Nat) - i) (List.drop (i + (0 : Nat)) Z)) ++ List.drop (i + (1 : Nat) + (0 : Nat) + min (n + (1 : Nat) - (i + (1 : Nat))) (n + (1 : Nat) - i)) Z : List AV)) = (D1),
 (0 : Int) ≤ ↑i,
 (↑i : Int) ≤ ↑(n + 1),
 (↑(n + 1) : Int) ≤ ↑(n + 1),
 (((1 : Nat) : Nat) ≤ ((1 : Nat))),
 ((n + (1 : Nat) - i + (i + (0 : Nat)) : Nat) ≤ (D1.length)),
 (((↑(min (n + (1 : Nat) - i) (1 : Nat)) : Int) : Int)) = (1),
 ((List.take (i + (0 : Nat)) D1 ++ List.take (min (n + (1 : Nat) - i) (1 : Nat)) (List.take (1 : Nat) (List.drop (0 : Nat) [x])) ++ List.drop (i + (0 : Nat) + min (n + (1 : Nat) - i) (1 : Nat)) D1 : List AV)) = (D2)], lpBy_nilK, by decide, by kernel_rfl, ?_⟩
  all_goals try simp (disch := omega) only [std, List.length_take, List.length_drop, hZ, hD]
  all_goals repeat' apply And.intro
  all_goals first | exact True.intro | omega | with_reducible rfl | with_reducible assumption | exact hZ | exact hD | exact h1 | exact h2 | rfl

end Go.Proofs.Ytljgmgbjfjhjmaa
