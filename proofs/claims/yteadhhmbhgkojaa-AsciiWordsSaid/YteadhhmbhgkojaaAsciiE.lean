/- Small letters, and texts without ends of lines. -/
import Derived.Test.YteadhhmbhgkojaaAsciiD
namespace Go.Proofs.Yteadhhmbhgkojaa
open Go.RowKit
set_option linter.unusedVariables false

def lowB (x : UInt8) : UInt8 := if largeI x.toNat then x + 32 else x
def tightI (n : Int) : Bool := !(n == 9 || n == 10 || n == 13)

def lowS (n i : Nat) (M : List UInt8) : St := ⟨frame 26 [(3, .sl 0 0 n), (8, .sl 0 0 n), (9, .c (.int .i64 n)), (10, .c (.int .i64 i))], [some ⟨5, false, byts M⟩]⟩
noncomputable def lowRun (h : List (Nat × Hint)) (S : St) : Option (Exit × St × List Prop) := roundOut ⟨[], [3, 8, 9, 10], [0]⟩ (aCode Try.prog cl3 ⟨true, h⟩ (lpBy []) 60 (lbody Try.prog 16 3) S)

theorem low1 (n i : Nat) (M : List UInt8) (x y : UInt8) : lowRun (bs [(11, true), (16, true)] ++ [(14, ⟨byteC x, none⟩), (21, ⟨byteC y, none⟩), (100022, ⟨.any, some (byts (M.set i y))⟩)]) (lowS n i M) = some (.normal, lowS n (i + 1) (M.set i y), [((decide ((↑i : Int) < (↑n : Int)) : Bool)) = (true),
 (((0 : Int) : Int) ≤ ((↑i : Int))),
 (((↑i : Int) : Int) < ((↑n : Int))),
 (((0 : Nat) : Nat) < ((List.drop (i + (0 : Nat)) (byts M)).length)),
 avEq ((List.drop (i + (0 : Nat)) (byts M)).headD AV.any) ((AV.c (Value.int .u8 ((↑x.toNat : Int))))),
 (((0 : Int) : Int) ≤ ((↑x.toNat : Int))),
 (((↑x.toNat : Int) : Int) < ((256 : Int))),
 ((largeI (↑x.toNat : Int) : Bool)) = (true),
 ((IntKind.u8.min : Int) ≤ ((↑x.toNat : Int) - (65 : Int))),
 (((↑x.toNat : Int) - (65 : Int) : Int) ≤ (IntKind.u8.max)),
 ((IntKind.u8.min : Int) ≤ ((↑x.toNat : Int) - (65 : Int) + (97 : Int))),
 (((↑x.toNat : Int) - (65 : Int) + (97 : Int) : Int) ≤ (IntKind.u8.max)),
 (((↑x.toNat : Int) - (65 : Int) + (97 : Int) : Int)) = ((↑y.toNat : Int)),
 (((0 : Int) : Int) ≤ ((↑i : Int))),
 (((↑i : Int) : Int) < ((↑n : Int))),
 ((i + (0 : Nat) + (1 : Nat) : Nat) ≤ ((byts M).length)),
 avEq (AV.any) (AV.any),
 ((List.take (i + (0 : Nat)) (byts M) ++ [AV.c (Value.int IntKind.u8 (↑y.toNat : Int))] ++
  List.drop (i + (0 : Nat) + (1 : Nat)) (byts M) : List AV)) = (byts (M.set i y)),
 ((IntKind.i64.min : Int) ≤ ((↑i : Int) + (1 : Int))),
 (((↑i : Int) + (1 : Int) : Int) ≤ (IntKind.i64.max))]) := by kernel_rfl

theorem low2 (n i : Nat) (M : List UInt8) (x : UInt8) : lowRun (bs [(11, true), (16, false)] ++ [(14, ⟨byteC x, none⟩)]) (lowS n i M) = some (.normal, lowS n (i + 1) M, [((decide ((↑i : Int) < (↑n : Int)) : Bool)) = (true),
 (((0 : Int) : Int) ≤ ((↑i : Int))),
 (((↑i : Int) : Int) < ((↑n : Int))),
 (((0 : Nat) : Nat) < ((List.drop (i + (0 : Nat)) (byts M)).length)),
 avEq ((List.drop (i + (0 : Nat)) (byts M)).headD AV.any) ((AV.c (Value.int .u8 ((↑x.toNat : Int))))),
 (((0 : Int) : Int) ≤ ((↑x.toNat : Int))),
 (((↑x.toNat : Int) : Int) < ((256 : Int))),
 ((largeI (↑x.toNat : Int) : Bool)) = (false),
 ((IntKind.i64.min : Int) ≤ ((↑i : Int) + (1 : Int))),
 (((↑i : Int) + (1 : Int) : Int) ≤ (IntKind.i64.max))]) := by kernel_rfl

theorem low3 (n i : Nat) (M : List UInt8) : lowRun (bs [(11, false)]) (lowS n i M) = some (.exit 0, lowS n i M, [((decide ((↑i : Int) < (↑n : Int)) : Bool)) = (false)]) := by kernel_rfl

def rlowS (l : List UInt8) (i : Nat) (M : List UInt8) : St := ⟨frame 30 [(0, .c (str l)), (3, .sl 0 0 M.length), (4, .c (.int .i64 i))], [some ⟨5, false, byts M⟩]⟩
noncomputable def rlowRun (m : Nat) (h : List (Nat × Hint)) (S : St) : Option (Exit × St × List Prop) := roundOut ⟨[], [0, 3, 4], [m]⟩ (aCode Try.prog cl3 ⟨true, h⟩ (lpBy []) 60 (lbody Try.prog 17 3) S)

theorem rlow1 (l : List UInt8) (i : Nat) (M : List UInt8) (y : UInt8) : rlowRun 2 (bs [(9, true), (16, true), (19, true)] ++ [(23, ⟨byteC y, none⟩), (27, ⟨.sl 2 0 (M ++ [y]).length, some (byts (M ++ [y]))⟩)]) (rlowS l i M) = some (.normal, rlowS l (i + 1) (M ++ [y]), [((decide ((↑i : Int) < (↑l.length : Int)) : Bool)) = (true),
 (((0 : Int) : Int) ≤ ((↑i : Int))),
 (((↑i : Int) : Int) < ((↑l.length : Int))),
 ((decide ((↑(l.getD i (0 : UInt8)).toNat : Int) ≥ (65 : Int)) : Bool)) = (true),
 ((decide ((↑(l.getD i (0 : UInt8)).toNat : Int) ≤ (90 : Int)) : Bool)) = (true),
 ((IntKind.u8.min : Int) ≤ ((↑(l.getD i (0 : UInt8)).toNat : Int) - (65 : Int))),
 (((↑(l.getD i (0 : UInt8)).toNat : Int) - (65 : Int) : Int) ≤ (IntKind.u8.max)),
 ((IntKind.u8.min : Int) ≤ ((↑(l.getD i (0 : UInt8)).toNat : Int) - (65 : Int) + (97 : Int))),
 (((↑(l.getD i (0 : UInt8)).toNat : Int) - (65 : Int) + (97 : Int) : Int) ≤ (IntKind.u8.max)),
 (((↑(l.getD i (0 : UInt8)).toNat : Int) - (65 : Int) + (97 : Int) : Int)) = ((↑y.toNat : Int)),
 (((1 : Nat) : Nat) ≤ ((List.take (0 : Nat) (List.replicate (1 : Nat) (AV.c (Value.int IntKind.u8 (0 : Int)))) ++
      [AV.c (Value.int IntKind.u8 (↑y.toNat : Int))] ++
    List.drop (1 : Nat) (List.replicate (1 : Nat) (AV.c (Value.int IntKind.u8 (0 : Int))))).length)),
 (((M.length + (1 : Nat)) * (1 : Nat) : Nat) ≤ ((140737488355328 : Nat))),
 ((M.length + (1 : Nat) : Nat) ≤ ((4611686018427387904 : Nat))),
 ((M.length : Nat) ≤ ((byts M).length)),
 avEq ((AV.sl 2 0 (M.length + (1 : Nat)))) ((AV.sl 2 0 (M ++ [y]).length)),
 ((List.take M.length (byts M) ++
  List.take (1 : Nat)
    (List.drop (0 : Nat)
      (List.take (0 : Nat) (List.replicate (1 : Nat) (AV.c (Value.int IntKind.u8 (0 : Int)))) ++
          [AV.c (Value.int IntKind.u8 (↑y.toNat : Int))] ++
        List.drop (1 : Nat) (List.replicate (1 : Nat) (AV.c (Value.int IntKind.u8 (0 : Int)))))) : List AV)) = (byts (M ++ [y])),
 ((IntKind.i64.min : Int) ≤ ((↑i : Int) + (1 : Int))),
 (((↑i : Int) + (1 : Int) : Int) ≤ (IntKind.i64.max))]) := by kernel_rfl

theorem rlow2 (l : List UInt8) (i : Nat) (M : List UInt8) (y : UInt8) : rlowRun 2 (bs [(9, true), (16, true), (19, false)] ++ [(27, ⟨.sl 2 0 (M ++ [y]).length, some (byts (M ++ [y]))⟩)]) (rlowS l i M) = some (.normal, rlowS l (i + 1) (M ++ [y]), [((decide ((↑i : Int) < (↑l.length : Int)) : Bool)) = (true),
 (((0 : Int) : Int) ≤ ((↑i : Int))),
 (((↑i : Int) : Int) < ((↑l.length : Int))),
 ((decide ((↑(l.getD i (0 : UInt8)).toNat : Int) ≥ (65 : Int)) : Bool)) = (true),
 ((decide ((↑(l.getD i (0 : UInt8)).toNat : Int) ≤ (90 : Int)) : Bool)) = (false),
 (((1 : Nat) : Nat) ≤ ((List.take (0 : Nat) (List.replicate (1 : Nat) (AV.c (Value.int IntKind.u8 (0 : Int)))) ++
      [AV.c (Value.int IntKind.u8 (↑(l.getD i (0 : UInt8)).toNat : Int))] ++
    List.drop (1 : Nat) (List.replicate (1 : Nat) (AV.c (Value.int IntKind.u8 (0 : Int))))).length)),
 (((M.length + (1 : Nat)) * (1 : Nat) : Nat) ≤ ((140737488355328 : Nat))),
 ((M.length + (1 : Nat) : Nat) ≤ ((4611686018427387904 : Nat))),
 ((M.length : Nat) ≤ ((byts M).length)),
 avEq ((AV.sl 2 0 (M.length + (1 : Nat)))) ((AV.sl 2 0 (M ++ [y]).length)),
 ((List.take M.length (byts M) ++
  List.take (1 : Nat)
    (List.drop (0 : Nat)
      (List.take (0 : Nat) (List.replicate (1 : Nat) (AV.c (Value.int IntKind.u8 (0 : Int)))) ++
          [AV.c (Value.int IntKind.u8 (↑(l.getD i (0 : UInt8)).toNat : Int))] ++
        List.drop (1 : Nat) (List.replicate (1 : Nat) (AV.c (Value.int IntKind.u8 (0 : Int)))))) : List AV)) = (byts (M ++ [y])),
 ((IntKind.i64.min : Int) ≤ ((↑i : Int) + (1 : Int))),
 (((↑i : Int) + (1 : Int) : Int) ≤ (IntKind.i64.max))]) := by kernel_rfl


theorem rlow3 (l : List UInt8) (i : Nat) (M : List UInt8) (y : UInt8) : rlowRun 2 (bs [(9, true), (16, false)] ++ [(27, ⟨.sl 2 0 (M ++ [y]).length, some (byts (M ++ [y]))⟩)]) (rlowS l i M) = some (.normal, rlowS l (i + 1) (M ++ [y]), [((decide ((↑i : Int) < (↑l.length : Int)) : Bool)) = (true),
 (((0 : Int) : Int) ≤ ((↑i : Int))),
 (((↑i : Int) : Int) < ((↑l.length : Int))),
 ((decide ((↑(l.getD i (0 : UInt8)).toNat : Int) ≥ (65 : Int)) : Bool)) = (false),
 (((1 : Nat) : Nat) ≤ ((List.take (0 : Nat) (List.replicate (1 : Nat) (AV.c (Value.int IntKind.u8 (0 : Int)))) ++
      [AV.c (Value.int IntKind.u8 (↑(l.getD i (0 : UInt8)).toNat : Int))] ++
    List.drop (1 : Nat) (List.replicate (1 : Nat) (AV.c (Value.int IntKind.u8 (0 : Int))))).length)),
 (((M.length + (1 : Nat)) * (1 : Nat) : Nat) ≤ ((140737488355328 : Nat))),
 ((M.length + (1 : Nat) : Nat) ≤ ((4611686018427387904 : Nat))),
 ((M.length : Nat) ≤ ((byts M).length)),
 avEq ((AV.sl 2 0 (M.length + (1 : Nat)))) ((AV.sl 2 0 (M ++ [y]).length)),
 ((List.take M.length (byts M) ++
  List.take (1 : Nat)
    (List.drop (0 : Nat)
      (List.take (0 : Nat) (List.replicate (1 : Nat) (AV.c (Value.int IntKind.u8 (0 : Int)))) ++
          [AV.c (Value.int IntKind.u8 (↑(l.getD i (0 : UInt8)).toNat : Int))] ++
        List.drop (1 : Nat) (List.replicate (1 : Nat) (AV.c (Value.int IntKind.u8 (0 : Int)))))) : List AV)) = (byts (M ++ [y])),
 ((IntKind.i64.min : Int) ≤ ((↑i : Int) + (1 : Int))),
 (((↑i : Int) + (1 : Int) : Int) ≤ (IntKind.i64.max))]) := by kernel_rfl

theorem rlow4 (l : List UInt8) (i : Nat) (M : List UInt8) : rlowRun 0 (bs [(9, false)]) (rlowS l i M) = some (.exit 0, rlowS l i M, [((decide ((↑i : Int) < (↑l.length : Int)) : Bool)) = (false)]) := by kernel_rfl

def tightS (l : List UInt8) (i : Nat) (M : List UInt8) : St := ⟨frame 29 [(0, .c (str l)), (3, .sl 0 0 M.length), (4, .c (.int .i64 i))], [some ⟨5, false, byts M⟩]⟩

noncomputable def tightRun (m : Nat) (h : List (Nat × Hint)) (S : St) : Option (Exit × St × List Prop) := roundOut ⟨[], [0, 3, 4], [m]⟩ (aCode Try.prog cl3 ⟨true, h⟩ (lpBy []) 60 (lbody Try.prog 22 3) S)

theorem tight1 (l : List UInt8) (i : Nat) (M : List UInt8) : tightRun 0 (bs [(11, true), (24, true)]) (tightS l i M) = some (.normal, tightS l (i + 1) M, [((decide ((↑i : Int) < (↑l.length : Int)) : Bool)) = (true),
 (((0 : Int) : Int) ≤ ((↑i : Int))),
 (((↑i : Int) : Int) < ((↑l.length : Int))),
 (((↑(l.getD i (0 : UInt8)).toNat : Int) == (9 : Int) : Bool)) = (true),
 ((IntKind.i64.min : Int) ≤ ((↑i : Int) + (1 : Int))),
 (((↑i : Int) + (1 : Int) : Int) ≤ (IntKind.i64.max))]) := by kernel_rfl

theorem tight2 (l : List UInt8) (i : Nat) (M : List UInt8) : tightRun 0 (bs [(11, true), (24, false), (25, true)]) (tightS l i M) = some (.normal, tightS l (i + 1) M, [((decide ((↑i : Int) < (↑l.length : Int)) : Bool)) = (true),
 (((0 : Int) : Int) ≤ ((↑i : Int))),
 (((↑i : Int) : Int) < ((↑l.length : Int))),
 (((↑(l.getD i (0 : UInt8)).toNat : Int) == (9 : Int) : Bool)) = (false),
 (((↑(l.getD i (0 : UInt8)).toNat : Int) == (10 : Int) : Bool)) = (true),
 ((IntKind.i64.min : Int) ≤ ((↑i : Int) + (1 : Int))),
 (((↑i : Int) + (1 : Int) : Int) ≤ (IntKind.i64.max))]) := by kernel_rfl

theorem tight3 (l : List UInt8) (i : Nat) (M : List UInt8) : tightRun 0 (bs [(11, true), (24, false), (25, false), (26, true)]) (tightS l i M) = some (.normal, tightS l (i + 1) M, [((decide ((↑i : Int) < (↑l.length : Int)) : Bool)) = (true),
 (((0 : Int) : Int) ≤ ((↑i : Int))),
 (((↑i : Int) : Int) < ((↑l.length : Int))),
 (((↑(l.getD i (0 : UInt8)).toNat : Int) == (9 : Int) : Bool)) = (false),
 (((↑(l.getD i (0 : UInt8)).toNat : Int) == (10 : Int) : Bool)) = (false),
 (((↑(l.getD i (0 : UInt8)).toNat : Int) == (13 : Int) : Bool)) = (true),
 ((IntKind.i64.min : Int) ≤ ((↑i : Int) + (1 : Int))),
 (((↑i : Int) + (1 : Int) : Int) ≤ (IntKind.i64.max))]) := by kernel_rfl

theorem tight4 (l : List UInt8) (i : Nat) (M : List UInt8) (y : UInt8) : tightRun 2 (bs [(11, true), (24, false), (25, false), (26, false)] ++ [(22, ⟨.sl 2 0 (M ++ [y]).length, some (byts (M ++ [y]))⟩)]) (tightS l i M) = some (.normal, tightS l (i + 1) (M ++ [y]), [((decide ((↑i : Int) < (↑l.length : Int)) : Bool)) = (true),
 (((0 : Int) : Int) ≤ ((↑i : Int))),
 (((↑i : Int) : Int) < ((↑l.length : Int))),
 (((↑(l.getD i (0 : UInt8)).toNat : Int) == (9 : Int) : Bool)) = (false),
 (((↑(l.getD i (0 : UInt8)).toNat : Int) == (10 : Int) : Bool)) = (false),
 (((↑(l.getD i (0 : UInt8)).toNat : Int) == (13 : Int) : Bool)) = (false),
 (((0 : Int) : Int) ≤ ((↑i : Int))),
 (((↑i : Int) : Int) < ((↑l.length : Int))),
 (((1 : Nat) : Nat) ≤ ((List.take (0 : Nat) (List.replicate (1 : Nat) (AV.c (Value.int IntKind.u8 (0 : Int)))) ++
      [AV.c (Value.int IntKind.u8 (↑(l.getD i (0 : UInt8)).toNat : Int))] ++
    List.drop (1 : Nat) (List.replicate (1 : Nat) (AV.c (Value.int IntKind.u8 (0 : Int))))).length)),
 (((M.length + (1 : Nat)) * (1 : Nat) : Nat) ≤ ((140737488355328 : Nat))),
 ((M.length + (1 : Nat) : Nat) ≤ ((4611686018427387904 : Nat))),
 ((M.length : Nat) ≤ ((byts M).length)),
 avEq ((AV.sl 2 0 (M.length + (1 : Nat)))) ((AV.sl 2 0 (M ++ [y]).length)),
 ((List.take M.length (byts M) ++
  List.take (1 : Nat)
    (List.drop (0 : Nat)
      (List.take (0 : Nat) (List.replicate (1 : Nat) (AV.c (Value.int IntKind.u8 (0 : Int)))) ++
          [AV.c (Value.int IntKind.u8 (↑(l.getD i (0 : UInt8)).toNat : Int))] ++
        List.drop (1 : Nat) (List.replicate (1 : Nat) (AV.c (Value.int IntKind.u8 (0 : Int)))))) : List AV)) = (byts (M ++ [y])),
 ((IntKind.i64.min : Int) ≤ ((↑i : Int) + (1 : Int))),
 (((↑i : Int) + (1 : Int) : Int) ≤ (IntKind.i64.max))]) := by kernel_rfl

theorem tight5 (l : List UInt8) (i : Nat) (M : List UInt8) : tightRun 0 (bs [(11, false)]) (tightS l i M) = some (.exit 0, tightS l i M, [((decide ((↑i : Int) < (↑l.length : Int)) : Bool)) = (false)]) := by kernel_rfl


def rtightS (l : List UInt8) (i : Nat) (M : List UInt8) : St := ⟨frame 35 [(0, .c (str l)), (3, .sl 0 0 M.length), (4, .c (.int .i64 i))], [some ⟨5, false, byts M⟩]⟩

noncomputable def rtightRun (m : Nat) (h : List (Nat × Hint)) (S : St) : Option (Exit × St × List Prop) := roundOut ⟨[], [0, 3, 4], [m]⟩ (aCode Try.prog cl3 ⟨true, h⟩ (lpBy []) 60 (lbody Try.prog 23 3) S)

theorem rtight1 (l : List UInt8) (i : Nat) (M : List UInt8) : rtightRun 0 (bs [(8, true), (14, false)]) (rtightS l i M) = some (.normal, rtightS l (i + 1) M, [((decide ((↑i : Int) < (↑l.length : Int)) : Bool)) = (true),
 (((0 : Int) : Int) ≤ ((↑i : Int))),
 (((↑i : Int) : Int) < ((↑l.length : Int))),
 (((↑(l.getD i (0 : UInt8)).toNat : Int) != (9 : Int) : Bool)) = (false),
 ((IntKind.i64.min : Int) ≤ ((↑i : Int) + (1 : Int))),
 (((↑i : Int) + (1 : Int) : Int) ≤ (IntKind.i64.max))]) := by kernel_rfl

theorem rtight2 (l : List UInt8) (i : Nat) (M : List UInt8) : rtightRun 0 (bs [(8, true), (14, true), (19, false)]) (rtightS l i M) = some (.normal, rtightS l (i + 1) M, [((decide ((↑i : Int) < (↑l.length : Int)) : Bool)) = (true),
 (((0 : Int) : Int) ≤ ((↑i : Int))),
 (((↑i : Int) : Int) < ((↑l.length : Int))),
 (((↑(l.getD i (0 : UInt8)).toNat : Int) != (9 : Int) : Bool)) = (true),
 (((0 : Int) : Int) ≤ ((↑i : Int))),
 (((↑i : Int) : Int) < ((↑l.length : Int))),
 (((↑(l.getD i (0 : UInt8)).toNat : Int) != (10 : Int) : Bool)) = (false),
 ((IntKind.i64.min : Int) ≤ ((↑i : Int) + (1 : Int))),
 (((↑i : Int) + (1 : Int) : Int) ≤ (IntKind.i64.max))]) := by kernel_rfl

theorem rtight3 (l : List UInt8) (i : Nat) (M : List UInt8) : rtightRun 0 (bs [(8, true), (14, true), (19, true), (25, false)]) (rtightS l i M) = some (.normal, rtightS l (i + 1) M, [((decide ((↑i : Int) < (↑l.length : Int)) : Bool)) = (true),
 (((0 : Int) : Int) ≤ ((↑i : Int))),
 (((↑i : Int) : Int) < ((↑l.length : Int))),
 (((↑(l.getD i (0 : UInt8)).toNat : Int) != (9 : Int) : Bool)) = (true),
 (((0 : Int) : Int) ≤ ((↑i : Int))),
 (((↑i : Int) : Int) < ((↑l.length : Int))),
 (((↑(l.getD i (0 : UInt8)).toNat : Int) != (10 : Int) : Bool)) = (true),
 (((0 : Int) : Int) ≤ ((↑i : Int))),
 (((↑i : Int) : Int) < ((↑l.length : Int))),
 (((↑(l.getD i (0 : UInt8)).toNat : Int) != (13 : Int) : Bool)) = (false),
 ((IntKind.i64.min : Int) ≤ ((↑i : Int) + (1 : Int))),
 (((↑i : Int) + (1 : Int) : Int) ≤ (IntKind.i64.max))]) := by kernel_rfl

theorem rtight4 (l : List UInt8) (i : Nat) (M : List UInt8) (y : UInt8) : rtightRun 2 (bs [(8, true), (14, true), (19, true), (25, true)] ++ [(32, ⟨.sl 2 0 (M ++ [y]).length, some (byts (M ++ [y]))⟩)]) (rtightS l i M) = some (.normal, rtightS l (i + 1) (M ++ [y]), [((decide ((↑i : Int) < (↑l.length : Int)) : Bool)) = (true),
 (((0 : Int) : Int) ≤ ((↑i : Int))),
 (((↑i : Int) : Int) < ((↑l.length : Int))),
 (((↑(l.getD i (0 : UInt8)).toNat : Int) != (9 : Int) : Bool)) = (true),
 (((0 : Int) : Int) ≤ ((↑i : Int))),
 (((↑i : Int) : Int) < ((↑l.length : Int))),
 (((↑(l.getD i (0 : UInt8)).toNat : Int) != (10 : Int) : Bool)) = (true),
 (((0 : Int) : Int) ≤ ((↑i : Int))),
 (((↑i : Int) : Int) < ((↑l.length : Int))),
 (((↑(l.getD i (0 : UInt8)).toNat : Int) != (13 : Int) : Bool)) = (true),
 (((0 : Int) : Int) ≤ ((↑i : Int))),
 (((↑i : Int) : Int) < ((↑l.length : Int))),
 (((1 : Nat) : Nat) ≤ ((List.take (0 : Nat) (List.replicate (1 : Nat) (AV.c (Value.int IntKind.u8 (0 : Int)))) ++
      [AV.c (Value.int IntKind.u8 (↑(l.getD i (0 : UInt8)).toNat : Int))] ++
    List.drop (1 : Nat) (List.replicate (1 : Nat) (AV.c (Value.int IntKind.u8 (0 : Int))))).length)),
 (((M.length + (1 : Nat)) * (1 : Nat) : Nat) ≤ ((140737488355328 : Nat))),
 ((M.length + (1 : Nat) : Nat) ≤ ((4611686018427387904 : Nat))),
 ((M.length : Nat) ≤ ((byts M).length)),
 avEq ((AV.sl 2 0 (M.length + (1 : Nat)))) ((AV.sl 2 0 (M ++ [y]).length)),
 ((List.take M.length (byts M) ++
  List.take (1 : Nat)
    (List.drop (0 : Nat)
      (List.take (0 : Nat) (List.replicate (1 : Nat) (AV.c (Value.int IntKind.u8 (0 : Int)))) ++
          [AV.c (Value.int IntKind.u8 (↑(l.getD i (0 : UInt8)).toNat : Int))] ++
        List.drop (1 : Nat) (List.replicate (1 : Nat) (AV.c (Value.int IntKind.u8 (0 : Int)))))) : List AV)) = (byts (M ++ [y])),
 ((IntKind.i64.min : Int) ≤ ((↑i : Int) + (1 : Int))),
 (((↑i : Int) + (1 : Int) : Int) ≤ (IntKind.i64.max))]) := by kernel_rfl

theorem rtight5 (l : List UInt8) (i : Nat) (M : List UInt8) : rtightRun 0 (bs [(8, false)]) (rtightS l i M) = some (.exit 0, rtightS l i M, [((decide ((↑i : Int) < (↑l.length : Int)) : Bool)) = (false)]) := by kernel_rfl

end Go.Proofs.Yteadhhmbhgkojaa
