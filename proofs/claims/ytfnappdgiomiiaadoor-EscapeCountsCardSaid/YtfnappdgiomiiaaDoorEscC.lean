/- The law that counts what was escaped. -/
import Derived.Test.YtfnappdgiomiiaaDoorEscB
namespace Go.Proofs.YtfnappdgiomiiaaDoor
open Go.RowKit Ent
set_option linter.unusedVariables false
set_option linter.unusedSimpArgs false

def ecS (l x : List UInt8) (t i : Nat) : St := ⟨frame 100 [(0, .c (str l)), (3, .c (.bool true)), (4, .c (str x)), (5, .c (.int .i64 t)), (6, .c (.int .i64 i))], []⟩

noncomputable def ecA_X (l x u : List UInt8) (t i : Nat) (h_ : List (Nat × Bool)) := roundOut (⟨[], [0, 3, 4, 5, 6], []⟩) (aCode Tryd.prog clT ⟨true, bs h_ ++ (bs [(18, true), (50, false), (76, false)] ++ [(47, ⟨.c (.int .i64 (t + 5 : Nat)), none⟩), (54, ⟨.c (.int .u8 38), none⟩), (60, ⟨.c (.int .i64 (t + 4 : Nat)), none⟩), (61, ⟨.c (.int .u8 59), none⟩), (68, ⟨.c (.int .i64 (t + 5 : Nat)), none⟩), (69, ⟨.c (str u), none⟩), (70, ⟨.c (str [l.getD i 0]), none⟩), (74, ⟨.c (.int .i64 (i + 1 : Nat)), none⟩), (75, ⟨.c (str [l.getD i 0]), none⟩), (79, ⟨.c (.int .i64 (t + 5 : Nat)), none⟩), (92, ⟨.c (.int .i64 (t + 1 : Nat)), none⟩)])⟩ (lpBy ([])) 60 (lbody Tryd.prog 7 7) (ecS l x t i))

theorem ecA_1 (l x u : List UInt8) (t i : Nat) : ecA_X l x u t i [(25, true)] = some (.normal, ⟨frame 100 [(0, (AV.c ((str (l))))), (3, (AV.c ((Value.bool true)))), (4, (AV.c ((str (x))))), (5, (AV.c ((Value.int .i64 ((↑(t + (5 : Nat)) : Int)))))), (6, (AV.c ((Value.int .i64 ((↑i : Int) + (1 : Int))))))], []⟩, [decide ((↑i : Int) < ↑l.length) = true,
 (0 : Int) ≤ ↑i,
 (↑i : Int) < ↑l.length,
 ((↑(l.getD i 0).toNat : Int) == (38 : Int)) = true,
 (IntKind.i64.min : Int) ≤ ↑t + 5,
 (↑t + 5 : Int) ≤ IntKind.i64.max,
 (↑t + 5 : Int) = ↑(t + 5),
 decide ((↑(t + 5) : Int) > ↑x.length) = false,
 (0 : Int) ≤ ↑t,
 (↑t : Int) < ↑x.length,
 (((↑(x.getD t 0).toNat : Int) : Int)) = (38),
 (IntKind.i64.min : Int) ≤ ↑t + 4,
 (↑t + 4 : Int) ≤ IntKind.i64.max,
 (↑t + 4 : Int) = ↑(t + 4),
 (0 : Int) ≤ ↑(t + 4),
 (↑(t + 4) : Int) < ↑x.length,
 (((↑(x.getD (t + (4 : Nat)) (0 : UInt8)).toNat : Int) : Int)) = (59),
 (IntKind.i64.min : Int) ≤ ↑t + 5,
 (↑t + 5 : Int) ≤ IntKind.i64.max,
 (↑t + 5 : Int) = ↑(t + 5),
 (0 : Int) ≤ ↑t,
 (↑t : Int) ≤ ↑(t + 5),
 (↑(t + 5) : Int) ≤ ↑x.length,
 ((List.drop t (List.take (t + (5 : Nat)) x) : List UInt8)) = (u),
 ((u.length : Nat) ≤ ((1000000000 : Nat))),
 ((entF u : List UInt8)) = ([l.getD i 0]),
 (IntKind.i64.min : Int) ≤ ↑i + 1,
 (↑i + 1 : Int) ≤ IntKind.i64.max,
 (↑i + 1 : Int) = ↑(i + 1),
 (0 : Int) ≤ ↑i,
 (↑i : Int) ≤ ↑(i + 1),
 (↑(i + 1) : Int) ≤ ↑l.length,
 ((List.drop i (List.take (i + (1 : Nat)) l) : List UInt8)) = ([l.getD i 0]),
 (![l.getD i 0] == [l.getD i 0]) = false,
 (IntKind.i64.min : Int) ≤ ↑t + 5,
 (↑t + 5 : Int) ≤ IntKind.i64.max,
 (↑t + 5 : Int) = ↑(t + 5),
 (IntKind.i64.min : Int) ≤ ↑i + 1,
 (↑i + 1 : Int) ≤ IntKind.i64.max]) := by kernel_rfl

theorem ecA_2 (l x u : List UInt8) (t i : Nat) : ecA_X l x u t i [(25, false), (28, true)] = some (.normal, ⟨frame 100 [(0, (AV.c ((str (l))))), (3, (AV.c ((Value.bool true)))), (4, (AV.c ((str (x))))), (5, (AV.c ((Value.int .i64 ((↑(t + (5 : Nat)) : Int)))))), (6, (AV.c ((Value.int .i64 ((↑i : Int) + (1 : Int))))))], []⟩, [decide ((↑i : Int) < ↑l.length) = true,
 (0 : Int) ≤ ↑i,
 (↑i : Int) < ↑l.length,
 ((↑(l.getD i 0).toNat : Int) == (38 : Int)) = false,
 ((↑(l.getD i 0).toNat : Int) == (34 : Int)) = true,
 (IntKind.i64.min : Int) ≤ ↑t + 5,
 (↑t + 5 : Int) ≤ IntKind.i64.max,
 (↑t + 5 : Int) = ↑(t + 5),
 decide ((↑(t + 5) : Int) > ↑x.length) = false,
 (0 : Int) ≤ ↑t,
 (↑t : Int) < ↑x.length,
 (((↑(x.getD t 0).toNat : Int) : Int)) = (38),
 (IntKind.i64.min : Int) ≤ ↑t + 4,
 (↑t + 4 : Int) ≤ IntKind.i64.max,
 (↑t + 4 : Int) = ↑(t + 4),
 (0 : Int) ≤ ↑(t + 4),
 (↑(t + 4) : Int) < ↑x.length,
 (((↑(x.getD (t + (4 : Nat)) (0 : UInt8)).toNat : Int) : Int)) = (59),
 (IntKind.i64.min : Int) ≤ ↑t + 5,
 (↑t + 5 : Int) ≤ IntKind.i64.max,
 (↑t + 5 : Int) = ↑(t + 5),
 (0 : Int) ≤ ↑t,
 (↑t : Int) ≤ ↑(t + 5),
 (↑(t + 5) : Int) ≤ ↑x.length,
 ((List.drop t (List.take (t + (5 : Nat)) x) : List UInt8)) = (u),
 ((u.length : Nat) ≤ ((1000000000 : Nat))),
 ((entF u : List UInt8)) = ([l.getD i 0]),
 (IntKind.i64.min : Int) ≤ ↑i + 1,
 (↑i + 1 : Int) ≤ IntKind.i64.max,
 (↑i + 1 : Int) = ↑(i + 1),
 (0 : Int) ≤ ↑i,
 (↑i : Int) ≤ ↑(i + 1),
 (↑(i + 1) : Int) ≤ ↑l.length,
 ((List.drop i (List.take (i + (1 : Nat)) l) : List UInt8)) = ([l.getD i 0]),
 (![l.getD i 0] == [l.getD i 0]) = false,
 (IntKind.i64.min : Int) ≤ ↑t + 5,
 (↑t + 5 : Int) ≤ IntKind.i64.max,
 (↑t + 5 : Int) = ↑(t + 5),
 (IntKind.i64.min : Int) ≤ ↑i + 1,
 (↑i + 1 : Int) ≤ IntKind.i64.max]) := by kernel_rfl

theorem ecA_3 (l x u : List UInt8) (t i : Nat) : ecA_X l x u t i [(25, false), (28, false), (32, true)] = some (.normal, ⟨frame 100 [(0, (AV.c ((str (l))))), (3, (AV.c ((Value.bool true)))), (4, (AV.c ((str (x))))), (5, (AV.c ((Value.int .i64 ((↑(t + (5 : Nat)) : Int)))))), (6, (AV.c ((Value.int .i64 ((↑i : Int) + (1 : Int))))))], []⟩, [decide ((↑i : Int) < ↑l.length) = true,
 (0 : Int) ≤ ↑i,
 (↑i : Int) < ↑l.length,
 ((↑(l.getD i 0).toNat : Int) == (38 : Int)) = false,
 ((↑(l.getD i 0).toNat : Int) == (34 : Int)) = false,
 ((↑(l.getD i 0).toNat : Int) == (39 : Int)) = true,
 (IntKind.i64.min : Int) ≤ ↑t + 5,
 (↑t + 5 : Int) ≤ IntKind.i64.max,
 (↑t + 5 : Int) = ↑(t + 5),
 decide ((↑(t + 5) : Int) > ↑x.length) = false,
 (0 : Int) ≤ ↑t,
 (↑t : Int) < ↑x.length,
 (((↑(x.getD t 0).toNat : Int) : Int)) = (38),
 (IntKind.i64.min : Int) ≤ ↑t + 4,
 (↑t + 4 : Int) ≤ IntKind.i64.max,
 (↑t + 4 : Int) = ↑(t + 4),
 (0 : Int) ≤ ↑(t + 4),
 (↑(t + 4) : Int) < ↑x.length,
 (((↑(x.getD (t + (4 : Nat)) (0 : UInt8)).toNat : Int) : Int)) = (59),
 (IntKind.i64.min : Int) ≤ ↑t + 5,
 (↑t + 5 : Int) ≤ IntKind.i64.max,
 (↑t + 5 : Int) = ↑(t + 5),
 (0 : Int) ≤ ↑t,
 (↑t : Int) ≤ ↑(t + 5),
 (↑(t + 5) : Int) ≤ ↑x.length,
 ((List.drop t (List.take (t + (5 : Nat)) x) : List UInt8)) = (u),
 ((u.length : Nat) ≤ ((1000000000 : Nat))),
 ((entF u : List UInt8)) = ([l.getD i 0]),
 (IntKind.i64.min : Int) ≤ ↑i + 1,
 (↑i + 1 : Int) ≤ IntKind.i64.max,
 (↑i + 1 : Int) = ↑(i + 1),
 (0 : Int) ≤ ↑i,
 (↑i : Int) ≤ ↑(i + 1),
 (↑(i + 1) : Int) ≤ ↑l.length,
 ((List.drop i (List.take (i + (1 : Nat)) l) : List UInt8)) = ([l.getD i 0]),
 (![l.getD i 0] == [l.getD i 0]) = false,
 (IntKind.i64.min : Int) ≤ ↑t + 5,
 (↑t + 5 : Int) ≤ IntKind.i64.max,
 (↑t + 5 : Int) = ↑(t + 5),
 (IntKind.i64.min : Int) ≤ ↑i + 1,
 (↑i + 1 : Int) ≤ IntKind.i64.max]) := by kernel_rfl

theorem ecA_4 (l x u : List UInt8) (t i : Nat) : ecA_X l x u t i [(25, false), (28, false), (32, false), (36, true)] = some (.normal, ⟨frame 100 [(0, (AV.c ((str (l))))), (3, (AV.c ((Value.bool true)))), (4, (AV.c ((str (x))))), (5, (AV.c ((Value.int .i64 ((↑(t + (5 : Nat)) : Int)))))), (6, (AV.c ((Value.int .i64 ((↑i : Int) + (1 : Int))))))], []⟩, [decide ((↑i : Int) < ↑l.length) = true,
 (0 : Int) ≤ ↑i,
 (↑i : Int) < ↑l.length,
 ((↑(l.getD i 0).toNat : Int) == (38 : Int)) = false,
 ((↑(l.getD i 0).toNat : Int) == (34 : Int)) = false,
 ((↑(l.getD i 0).toNat : Int) == (39 : Int)) = false,
 ((↑(l.getD i 0).toNat : Int) == (60 : Int)) = true,
 (IntKind.i64.min : Int) ≤ ↑t + 5,
 (↑t + 5 : Int) ≤ IntKind.i64.max,
 (↑t + 5 : Int) = ↑(t + 5),
 decide ((↑(t + 5) : Int) > ↑x.length) = false,
 (0 : Int) ≤ ↑t,
 (↑t : Int) < ↑x.length,
 (((↑(x.getD t 0).toNat : Int) : Int)) = (38),
 (IntKind.i64.min : Int) ≤ ↑t + 4,
 (↑t + 4 : Int) ≤ IntKind.i64.max,
 (↑t + 4 : Int) = ↑(t + 4),
 (0 : Int) ≤ ↑(t + 4),
 (↑(t + 4) : Int) < ↑x.length,
 (((↑(x.getD (t + (4 : Nat)) (0 : UInt8)).toNat : Int) : Int)) = (59),
 (IntKind.i64.min : Int) ≤ ↑t + 5,
 (↑t + 5 : Int) ≤ IntKind.i64.max,
 (↑t + 5 : Int) = ↑(t + 5),
 (0 : Int) ≤ ↑t,
 (↑t : Int) ≤ ↑(t + 5),
 (↑(t + 5) : Int) ≤ ↑x.length,
 ((List.drop t (List.take (t + (5 : Nat)) x) : List UInt8)) = (u),
 ((u.length : Nat) ≤ ((1000000000 : Nat))),
 ((entF u : List UInt8)) = ([l.getD i 0]),
 (IntKind.i64.min : Int) ≤ ↑i + 1,
 (↑i + 1 : Int) ≤ IntKind.i64.max,
 (↑i + 1 : Int) = ↑(i + 1),
 (0 : Int) ≤ ↑i,
 (↑i : Int) ≤ ↑(i + 1),
 (↑(i + 1) : Int) ≤ ↑l.length,
 ((List.drop i (List.take (i + (1 : Nat)) l) : List UInt8)) = ([l.getD i 0]),
 (![l.getD i 0] == [l.getD i 0]) = false,
 (IntKind.i64.min : Int) ≤ ↑t + 5,
 (↑t + 5 : Int) ≤ IntKind.i64.max,
 (↑t + 5 : Int) = ↑(t + 5),
 (IntKind.i64.min : Int) ≤ ↑i + 1,
 (↑i + 1 : Int) ≤ IntKind.i64.max]) := by kernel_rfl

theorem ecA_5 (l x u : List UInt8) (t i : Nat) : ecA_X l x u t i [(25, false), (28, false), (32, false), (36, false), (40, true)] = some (.normal, ⟨frame 100 [(0, (AV.c ((str (l))))), (3, (AV.c ((Value.bool true)))), (4, (AV.c ((str (x))))), (5, (AV.c ((Value.int .i64 ((↑(t + (5 : Nat)) : Int)))))), (6, (AV.c ((Value.int .i64 ((↑i : Int) + (1 : Int))))))], []⟩, [decide ((↑i : Int) < ↑l.length) = true,
 (0 : Int) ≤ ↑i,
 (↑i : Int) < ↑l.length,
 ((↑(l.getD i 0).toNat : Int) == (38 : Int)) = false,
 ((↑(l.getD i 0).toNat : Int) == (34 : Int)) = false,
 ((↑(l.getD i 0).toNat : Int) == (39 : Int)) = false,
 ((↑(l.getD i 0).toNat : Int) == (60 : Int)) = false,
 ((↑(l.getD i 0).toNat : Int) == (62 : Int)) = true,
 (IntKind.i64.min : Int) ≤ ↑t + 5,
 (↑t + 5 : Int) ≤ IntKind.i64.max,
 (↑t + 5 : Int) = ↑(t + 5),
 decide ((↑(t + 5) : Int) > ↑x.length) = false,
 (0 : Int) ≤ ↑t,
 (↑t : Int) < ↑x.length,
 (((↑(x.getD t 0).toNat : Int) : Int)) = (38),
 (IntKind.i64.min : Int) ≤ ↑t + 4,
 (↑t + 4 : Int) ≤ IntKind.i64.max,
 (↑t + 4 : Int) = ↑(t + 4),
 (0 : Int) ≤ ↑(t + 4),
 (↑(t + 4) : Int) < ↑x.length,
 (((↑(x.getD (t + (4 : Nat)) (0 : UInt8)).toNat : Int) : Int)) = (59),
 (IntKind.i64.min : Int) ≤ ↑t + 5,
 (↑t + 5 : Int) ≤ IntKind.i64.max,
 (↑t + 5 : Int) = ↑(t + 5),
 (0 : Int) ≤ ↑t,
 (↑t : Int) ≤ ↑(t + 5),
 (↑(t + 5) : Int) ≤ ↑x.length,
 ((List.drop t (List.take (t + (5 : Nat)) x) : List UInt8)) = (u),
 ((u.length : Nat) ≤ ((1000000000 : Nat))),
 ((entF u : List UInt8)) = ([l.getD i 0]),
 (IntKind.i64.min : Int) ≤ ↑i + 1,
 (↑i + 1 : Int) ≤ IntKind.i64.max,
 (↑i + 1 : Int) = ↑(i + 1),
 (0 : Int) ≤ ↑i,
 (↑i : Int) ≤ ↑(i + 1),
 (↑(i + 1) : Int) ≤ ↑l.length,
 ((List.drop i (List.take (i + (1 : Nat)) l) : List UInt8)) = ([l.getD i 0]),
 (![l.getD i 0] == [l.getD i 0]) = false,
 (IntKind.i64.min : Int) ≤ ↑t + 5,
 (↑t + 5 : Int) ≤ IntKind.i64.max,
 (↑t + 5 : Int) = ↑(t + 5),
 (IntKind.i64.min : Int) ≤ ↑i + 1,
 (↑i + 1 : Int) ≤ IntKind.i64.max]) := by kernel_rfl

theorem ecA_6 (l x u : List UInt8) (t i : Nat) : ecA_X l x u t i [(25, false), (28, false), (32, false), (36, false), (40, false), (44, true)] = some (.normal, ⟨frame 100 [(0, (AV.c ((str (l))))), (3, (AV.c ((Value.bool true)))), (4, (AV.c ((str (x))))), (5, (AV.c ((Value.int .i64 ((↑(t + (5 : Nat)) : Int)))))), (6, (AV.c ((Value.int .i64 ((↑i : Int) + (1 : Int))))))], []⟩, [decide ((↑i : Int) < ↑l.length) = true,
 (0 : Int) ≤ ↑i,
 (↑i : Int) < ↑l.length,
 ((↑(l.getD i 0).toNat : Int) == (38 : Int)) = false,
 ((↑(l.getD i 0).toNat : Int) == (34 : Int)) = false,
 ((↑(l.getD i 0).toNat : Int) == (39 : Int)) = false,
 ((↑(l.getD i 0).toNat : Int) == (60 : Int)) = false,
 ((↑(l.getD i 0).toNat : Int) == (62 : Int)) = false,
 ((↑(l.getD i 0).toNat : Int) == (96 : Int)) = true,
 (IntKind.i64.min : Int) ≤ ↑t + 5,
 (↑t + 5 : Int) ≤ IntKind.i64.max,
 (↑t + 5 : Int) = ↑(t + 5),
 decide ((↑(t + 5) : Int) > ↑x.length) = false,
 (0 : Int) ≤ ↑t,
 (↑t : Int) < ↑x.length,
 (((↑(x.getD t 0).toNat : Int) : Int)) = (38),
 (IntKind.i64.min : Int) ≤ ↑t + 4,
 (↑t + 4 : Int) ≤ IntKind.i64.max,
 (↑t + 4 : Int) = ↑(t + 4),
 (0 : Int) ≤ ↑(t + 4),
 (↑(t + 4) : Int) < ↑x.length,
 (((↑(x.getD (t + (4 : Nat)) (0 : UInt8)).toNat : Int) : Int)) = (59),
 (IntKind.i64.min : Int) ≤ ↑t + 5,
 (↑t + 5 : Int) ≤ IntKind.i64.max,
 (↑t + 5 : Int) = ↑(t + 5),
 (0 : Int) ≤ ↑t,
 (↑t : Int) ≤ ↑(t + 5),
 (↑(t + 5) : Int) ≤ ↑x.length,
 ((List.drop t (List.take (t + (5 : Nat)) x) : List UInt8)) = (u),
 ((u.length : Nat) ≤ ((1000000000 : Nat))),
 ((entF u : List UInt8)) = ([l.getD i 0]),
 (IntKind.i64.min : Int) ≤ ↑i + 1,
 (↑i + 1 : Int) ≤ IntKind.i64.max,
 (↑i + 1 : Int) = ↑(i + 1),
 (0 : Int) ≤ ↑i,
 (↑i : Int) ≤ ↑(i + 1),
 (↑(i + 1) : Int) ≤ ↑l.length,
 ((List.drop i (List.take (i + (1 : Nat)) l) : List UInt8)) = ([l.getD i 0]),
 (![l.getD i 0] == [l.getD i 0]) = false,
 (IntKind.i64.min : Int) ≤ ↑t + 5,
 (↑t + 5 : Int) ≤ IntKind.i64.max,
 (↑t + 5 : Int) = ↑(t + 5),
 (IntKind.i64.min : Int) ≤ ↑i + 1,
 (↑i + 1 : Int) ≤ IntKind.i64.max]) := by kernel_rfl

theorem ecA_all (l x u : List UInt8) (t i : Nat) (hi : i < l.length) (hs : (((l.getD i 0).toNat : Nat) : Int) = 38 ∨ (((l.getD i 0).toNat : Nat) : Int) = 34 ∨ (((l.getD i 0).toNat : Nat) : Int) = 39 ∨ (((l.getD i 0).toNat : Nat) : Int) = 60 ∨ (((l.getD i 0).toNat : Nat) : Int) = 62 ∨ (((l.getD i 0).toNat : Nat) : Int) = 96) (ht : t + 5 ≤ x.length) (h0 : (((x.getD t 0).toNat : Nat) : Int) = 38) (h4 : (((x.getD (t + 4) 0).toNat : Nat) : Int) = 59) (hu : List.drop t (List.take (t + 5) x) = u) (hul : u.length ≤ 5) (he : entF u = [l.getD i 0]) (hone : List.drop i (List.take (i + 1) l) = [l.getD i 0]) (hl : l.length ≤ 1000000) (hxl : x.length ≤ 5000000) : Round Ext0 Tryd.prog clT (lbody Tryd.prog 7 7) (ecS l x t i) (.normal) (ecS l x (t + 5) (i + 1)) := by
  refine bcase ((↑(l.getD i (0 : UInt8)).toNat : Int) == (38 : Int)) (fun hc25 => ⟨_, _, _, _, _, lpBy_nil, by decide, (ecA_1 l x u t i).trans (congrArg (fun S : St => some ((.normal : Exit), S, _)) (by first | rfl | (simp (disch := omega) only [std, beq_self_eq_true, Bool.not_true]; done))), ?_⟩)
    (fun hc25 => bcase ((↑(l.getD i (0 : UInt8)).toNat : Int) == (34 : Int)) (fun hc28 => ⟨_, _, _, _, _, lpBy_nil, by decide, (ecA_2 l x u t i).trans (congrArg (fun S : St => some ((.normal : Exit), S, _)) (by first | rfl | (simp (disch := omega) only [std, beq_self_eq_true, Bool.not_true]; done))), ?_⟩)
    (fun hc28 => bcase ((↑(l.getD i (0 : UInt8)).toNat : Int) == (39 : Int)) (fun hc32 => ⟨_, _, _, _, _, lpBy_nil, by decide, (ecA_3 l x u t i).trans (congrArg (fun S : St => some ((.normal : Exit), S, _)) (by first | rfl | (simp (disch := omega) only [std, beq_self_eq_true, Bool.not_true]; done))), ?_⟩)
    (fun hc32 => bcase ((↑(l.getD i (0 : UInt8)).toNat : Int) == (60 : Int)) (fun hc36 => ⟨_, _, _, _, _, lpBy_nil, by decide, (ecA_4 l x u t i).trans (congrArg (fun S : St => some ((.normal : Exit), S, _)) (by first | rfl | (simp (disch := omega) only [std, beq_self_eq_true, Bool.not_true]; done))), ?_⟩)
    (fun hc36 => bcase ((↑(l.getD i (0 : UInt8)).toNat : Int) == (62 : Int)) (fun hc40 => ⟨_, _, _, _, _, lpBy_nil, by decide, (ecA_5 l x u t i).trans (congrArg (fun S : St => some ((.normal : Exit), S, _)) (by first | rfl | (simp (disch := omega) only [std, beq_self_eq_true, Bool.not_true]; done))), ?_⟩)
    (fun hc40 => ⟨_, _, _, _, _, lpBy_nil, by decide, (ecA_6 l x u t i).trans (congrArg (fun S : St => some ((.normal : Exit), S, _)) (by first | rfl | (simp (disch := omega) only [std, beq_self_eq_true, Bool.not_true]; done))), ?_⟩)))))
  all_goals try simp only [dz] at hc25
  all_goals try simp only [dz] at hc28
  all_goals try simp only [dz] at hc32
  all_goals try simp only [dz] at hc36
  all_goals try simp only [dz] at hc40
  all_goals try simp (disch := omega) only [std, beq_self_eq_true, Bool.not_true]
  all_goals repeat' apply And.intro
  all_goals first | exact True.intro | omega | with_reducible rfl | with_reducible assumption | exact hs | exact h0 | exact h4 | exact hu | exact he | exact hone | rfl


noncomputable def ecB_X (l x u : List UInt8) (t i : Nat) (h_ : List (Nat × Bool)) := roundOut (⟨[], [0, 3, 4, 5, 6], []⟩) (aCode Tryd.prog clT ⟨true, bs h_ ++ (bs [(18, true), (83, false), (89, false)] ++ [(47, ⟨.c (.int .i64 (t + 5 : Nat)), none⟩), (54, ⟨.c (.int .u8 38), none⟩), (60, ⟨.c (.int .i64 (t + 4 : Nat)), none⟩), (61, ⟨.c (.int .u8 59), none⟩), (68, ⟨.c (.int .i64 (t + 5 : Nat)), none⟩), (69, ⟨.c (str u), none⟩), (70, ⟨.c (str [l.getD i 0]), none⟩), (74, ⟨.c (.int .i64 (i + 1 : Nat)), none⟩), (75, ⟨.c (str [l.getD i 0]), none⟩), (79, ⟨.c (.int .i64 (t + 5 : Nat)), none⟩), (92, ⟨.c (.int .i64 (t + 1 : Nat)), none⟩)])⟩ (lpBy ([])) 60 (lbody Tryd.prog 7 7) (ecS l x t i))

theorem ecB_1 (l x u : List UInt8) (t i : Nat) : ecB_X l x u t i [(25, false), (28, false), (32, false), (36, false), (40, false), (44, false)] = some (.normal, ⟨frame 100 [(0, (AV.c ((str (l))))), (3, (AV.c ((Value.bool true)))), (4, (AV.c ((str (x))))), (5, (AV.c ((Value.int .i64 ((↑(t + (1 : Nat)) : Int)))))), (6, (AV.c ((Value.int .i64 ((↑i : Int) + (1 : Int))))))], []⟩, [decide ((↑i : Int) < ↑l.length) = true,
 (0 : Int) ≤ ↑i,
 (↑i : Int) < ↑l.length,
 ((↑(l.getD i 0).toNat : Int) == (38 : Int)) = false,
 ((↑(l.getD i 0).toNat : Int) == (34 : Int)) = false,
 ((↑(l.getD i 0).toNat : Int) == (39 : Int)) = false,
 ((↑(l.getD i 0).toNat : Int) == (60 : Int)) = false,
 ((↑(l.getD i 0).toNat : Int) == (62 : Int)) = false,
 ((↑(l.getD i 0).toNat : Int) == (96 : Int)) = false,
 decide ((↑t : Int) ≥ ↑x.length) = false,
 (0 : Int) ≤ ↑t,
 (↑t : Int) < ↑x.length,
 ((↑(x.getD t 0).toNat : Int) != (↑(l.getD i 0).toNat : Int)) = false,
 (IntKind.i64.min : Int) ≤ ↑t + 1,
 (↑t + 1 : Int) ≤ IntKind.i64.max,
 (↑t + 1 : Int) = ↑(t + 1),
 (IntKind.i64.min : Int) ≤ ↑i + 1,
 (↑i + 1 : Int) ≤ IntKind.i64.max]) := by kernel_rfl

theorem ecB_all (l x u : List UInt8) (t i : Nat) (hi : i < l.length) (hs : ¬ ((((l.getD i 0).toNat : Nat) : Int) = 38 ∨ (((l.getD i 0).toNat : Nat) : Int) = 34 ∨ (((l.getD i 0).toNat : Nat) : Int) = 39 ∨ (((l.getD i 0).toNat : Nat) : Int) = 60 ∨ (((l.getD i 0).toNat : Nat) : Int) = 62 ∨ (((l.getD i 0).toNat : Nat) : Int) = 96)) (ht : t + 1 ≤ x.length) (h0 : (((x.getD t 0).toNat : Nat) : Int) = (((l.getD i 0).toNat : Nat) : Int)) (hl : l.length ≤ 1000000) (hxl : x.length ≤ 5000000) : Round Ext0 Tryd.prog clT (lbody Tryd.prog 7 7) (ecS l x t i) (.normal) (ecS l x (t + 1) (i + 1)) := by
  refine ⟨_, _, _, _, _, lpBy_nil, by decide, (ecB_1 l x u t i).trans (congrArg (fun S : St => some ((.normal : Exit), S, _)) (by first | rfl | (simp (disch := omega) only [std, beq_self_eq_true, Bool.not_true]; done))), ?_⟩
  all_goals try simp (disch := omega) only [std, beq_self_eq_true, Bool.not_true]
  all_goals repeat' apply And.intro
  all_goals first | exact True.intro | omega | with_reducible rfl | with_reducible assumption | exact hs | exact h0 | rfl


noncomputable def ecZ_X (l x u : List UInt8) (t i : Nat) (h_ : List (Nat × Bool)) := roundOut (⟨[], [0, 3, 4, 5, 6], []⟩) (aCode Tryd.prog clT ⟨true, bs h_ ++ (bs [(18, false)] ++ [(47, ⟨.c (.int .i64 (t + 5 : Nat)), none⟩), (54, ⟨.c (.int .u8 38), none⟩), (60, ⟨.c (.int .i64 (t + 4 : Nat)), none⟩), (61, ⟨.c (.int .u8 59), none⟩), (68, ⟨.c (.int .i64 (t + 5 : Nat)), none⟩), (69, ⟨.c (str u), none⟩), (70, ⟨.c (str [l.getD i 0]), none⟩), (74, ⟨.c (.int .i64 (i + 1 : Nat)), none⟩), (75, ⟨.c (str [l.getD i 0]), none⟩), (79, ⟨.c (.int .i64 (t + 5 : Nat)), none⟩), (92, ⟨.c (.int .i64 (t + 1 : Nat)), none⟩)])⟩ (lpBy ([])) 60 (lbody Tryd.prog 7 7) (ecS l x t i))

theorem ecZ_1 (l x u : List UInt8) (t i : Nat) : ecZ_X l x u t i [] = some (.exit 0, ⟨frame 100 [(0, (AV.c ((str (l))))), (3, (AV.c ((Value.bool true)))), (4, (AV.c ((str (x))))), (5, (AV.c ((Value.int .i64 ((↑t : Int)))))), (6, (AV.c ((Value.int .i64 ((↑i : Int))))))], []⟩, [decide ((↑i : Int) < ↑l.length) = false]) := by kernel_rfl

theorem ecZ_all (l x u : List UInt8) (t i : Nat) (hi : i = l.length) (hl : l.length ≤ 1000000) (hxl : x.length ≤ 5000000) : Round Ext0 Tryd.prog clT (lbody Tryd.prog 7 7) (ecS l x t i) (.exit 0) (ecS l x t i) := by
  refine ⟨_, _, _, _, _, lpBy_nil, by decide, (ecZ_1 l x u t i).trans (congrArg (fun S : St => some ((.exit 0 : Exit), S, _)) (by first | rfl | (simp (disch := omega) only [std, beq_self_eq_true, Bool.not_true]; done))), ?_⟩
  all_goals try simp (disch := omega) only [std, beq_self_eq_true, Bool.not_true]
  all_goals repeat' apply And.intro
  all_goals first | exact True.intro | omega | with_reducible rfl | with_reducible assumption | exact hi | rfl

theorem esc_split (l : List UInt8) (i : Nat) (h : i < l.length) : escF l = escF (l.take i) ++ (oneE (l.getD i 0) ++ escF (l.drop (i + 1))) := by
  rw [← esc_cons, ← drop_cons l i h, ← esc_app, List.take_append_drop]
theorem app_at (a b c : List UInt8) (j : Nat) (h : j < b.length) : (a ++ (b ++ c)).getD (a.length + j) 0 = b.getD j 0 := by
  rw [List.getD_eq_getElem?_getD, List.getElem?_append_right (by omega), Nat.add_sub_cancel_left, List.getElem?_append_left h, List.getD_eq_getElem?_getD]
theorem app_cut (a b c : List UInt8) : List.drop a.length (List.take (a.length + b.length) (a ++ (b ++ c))) = b := by
  rw [List.take_length_add_append, List.take_left, List.drop_left]
theorem sp_iff (c : UInt8) : spE c = true ↔ (((c.toNat : Nat) : Int) = 38 ∨ ((c.toNat : Nat) : Int) = 34 ∨ ((c.toNat : Nat) : Int) = 39 ∨ ((c.toNat : Nat) : Int) = 60 ∨ ((c.toNat : Nat) : Int) = 62 ∨ ((c.toNat : Nat) : Int) = 96) := by
  revert c
  refine byte_all ?_
  decide +kernel

theorem ec_walk (l : List UInt8) (hl : l.length ≤ 1000000) : Tri Ext0 Tryd.prog (.loop (lbody Tryd.prog 7 7)) (ecS l (escF l) 0 0) (.exit 0) (ecS l (escF l) (escF l).length l.length) := by
  have hxl := (esc_len l).2
  have h := loop_up mixed clT_ok (b := lbody Tryd.prog 7 7) (fun i => ecS l (escF l) (escF (l.take i)).length i) l.length (e := .exit 0) (R := ecS l (escF l) (escF l).length l.length) (by simp) (fun i hi => by
    have hsp := esc_split l i hi
    rw [esc_snoc l i hi, List.length_append]
    generalize hA : escF (l.take i) = A at *
    generalize hC : escF (l.drop (i + 1)) = C at *
    have hlen : (escF l).length = A.length + ((oneE (l.getD i 0)).length + C.length) := by rw [hsp, List.length_append, List.length_append]
    have ho := one_sp (l.getD i 0)
    cases hs : spE (l.getD i 0) with
    | true =>
      obtain ⟨o1, o2, o3⟩ := ho.1 hs
      rw [o1] at hlen ⊢
      refine ecA_all l _ (oneE (l.getD i 0)) _ i hi ((sp_iff _).1 hs) (by omega) ?_ ?_ ?_ (by omega) (one_ent _) (one_at l i hi) hl (by omega)
      · have := app_at A (oneE (l.getD i 0)) C 0 (by omega)
        rw [← hsp, Nat.add_zero] at this
        rw [this, o2]; rfl
      · have := app_at A (oneE (l.getD i 0)) C 4 (by omega)
        rw [← hsp] at this
        rw [this, o3]; rfl
      · have := app_cut A (oneE (l.getD i 0)) C
        rw [← hsp, o1] at this
        exact this
    | false =>
      obtain ⟨o1, o2⟩ := ho.2 hs
      have o3 : (oneE (l.getD i 0)).length = 1 := by rw [o1]; rfl
      rw [o3] at hlen ⊢
      refine ecB_all l _ [] _ i hi (fun e => by rw [(sp_iff _).2 e] at hs; cases hs) (by omega) ?_ hl (by omega)
      have := app_at A (oneE (l.getD i 0)) C 0 (by omega)
      rw [← hsp, Nat.add_zero, o1] at this
      rw [this]; rfl) (by
    rw [List.take_length]
    exact ecZ_all l _ [] _ l.length rfl hl (by omega)) 0 (Nat.zero_le _)
  exact h

noncomputable def ecLp (l x : List UInt8) : List (Nat × Lp) := [(7, ⟨lbody Tryd.prog 7 7, ⟨[], [0, 3, 4, 5, 6], []⟩, ecS l x 0 0, .exit 0, ecS l x x.length l.length⟩)]

noncomputable def counts0_X (l : List UInt8) (h_ : List (Nat × Bool)) := lawOut (aBody Tryd.prog clT ⟨true, bs h_ ++ ([])⟩ (lpBy ([])) 60 7 ([.c (str l)]) ([]))

theorem counts0_1 (l : List UInt8) : counts0_X l [(11, true)] = some ((AV.c ((Value.bool true))), [decide ((↑l.length : Int) > 300) = true]) := by kernel_rfl

theorem counts0_all (l : List UInt8) (h0 : (l.length : Int) > 300) : ∃ (h : Hints) (p : List Prop), lawOut (aBody Tryd.prog clT h (lpBy ([])) 60 7 ([.c (str l)]) ([])) = some (.c (.bool true), p) ∧ allP p := by
  refine ⟨_, _, (counts0_1 l).trans (congrArg (fun r => some (r, _)) rfl), ?_⟩
  all_goals try simp (disch := omega) only [std]
  all_goals repeat' apply And.intro
  all_goals first | exact True.intro | omega | with_reducible rfl | with_reducible assumption | rfl

noncomputable def counts1_X (l x : List UInt8) (h_ : List (Nat × Bool)) := lawOut (aBody Tryd.prog clT ⟨true, bs h_ ++ (bs [(11, false), (98, true)] ++ [(14, ⟨.c (str x), none⟩)])⟩ (lpBy (ecLp l x)) 60 7 ([.c (str l)]) ([]))

theorem counts1_1 (l x : List UInt8) : counts1_X l x [] = some ((AV.c ((Value.bool true))), [decide ((↑l.length : Int) > 300) = false,
 ((l.length : Nat) ≤ ((1000000000 : Nat))),
 ((escF l : List UInt8)) = (x),
 ((lbody Tryd.prog (7 : FuncId) (7 : Nat) : Go.Code)) = (lbody Tryd.prog (7 : FuncId) (7 : Nat)),
 ((ecS l x (0 : Nat) (0 : Nat) : Go.Proofs.YtfnappdgiomiiaaDoor.St)) = (ecS l x (0 : Nat) (0 : Nat)),
 ((↑x.length : Int) == (↑x.length : Int)) = true]) := by kernel_rfl

theorem counts1_all (l x : List UInt8) (h0 : l.length ≤ 300) (hx : escF l = x) (hxl : x.length ≤ 1500) : ∃ (h : Hints) (p : List Prop), lawOut (aBody Tryd.prog clT h (lpBy (ecLp l x)) 60 7 ([.c (str l)]) ([])) = some (.c (.bool true), p) ∧ allP p := by
  refine ⟨_, _, (counts1_1 l x).trans (congrArg (fun r => some (r, _)) rfl), ?_⟩
  all_goals try simp (disch := omega) only [std, beq_self_eq_true]
  all_goals repeat' apply And.intro
  all_goals first | exact True.intro | omega | with_reducible rfl | with_reducible assumption | exact hx | rfl

theorem counts_law (l : List UInt8) : ∃ hs lp fuel p, LpOK Ext0 Tryd.prog lp ∧ lawOut (aBody Tryd.prog clT hs lp fuel 7 [.c (str l)] []) = some (.c (.bool true), p) ∧ allP p := by
  by_cases h : (l.length : Int) > 300
  · obtain ⟨hh, p, e, hp⟩ := counts0_all l h
    exact ⟨_, _, _, _, lpBy_nil, e, hp⟩
  · have h1 := esc_len l
    obtain ⟨hh, p, e, hp⟩ := counts1_all l _ (by omega) rfl (by omega)
    exact ⟨_, _, _, _, lpBy_cons lpBy_nil List.nodup_nil (ec_walk l (by omega)), e, hp⟩

end Go.Proofs.YtfnappdgiomiiaaDoor
