/- References by names, and what is decoded: the document's own. -/
import Derived.Test.YtfnappdgiomiiaaDoorEntE
namespace Go.Proofs.YtfnappdgiomiiaaDoor
open Go.RowKit Ent
set_option linter.unusedVariables false
set_option linter.unusedSimpArgs false

noncomputable def clRy : CallT := aCall Tryd.prog (sgBy [(46, namedSpec), (47, byteSpec fun n => .bool (letterI n)), (44, digitSpec)]) 500 8

theorem clRy_ok : CallOK Tryd.prog clRy := aCall_ok mixed (sgBy_cons rnamed_ok (sgBy_cons rletter_ok (sgBy_cons rdigit_ok sgBy_nil))) 500 8

def rnS (l : List UInt8) (n : Nat) : St := ⟨frame 57 [(0, .c (str l)), (4, .c (.int .i64 n))], []⟩
def rnN : St := ⟨frame 57 [(2, .c (str [])), (3, .c (.int .i64 0))], []⟩
def rnY (x : List UInt8 × Nat) : St := ⟨frame 57 [(2, .c (str x.1)), (3, .c (.int .i64 x.2))], []⟩

noncomputable def rnyA_X (l v : List UInt8) (n : Nat) (h_ : List (Nat × Bool)) := roundOut (⟨[], [0, 4], []⟩) (aCode Tryd.prog clRy ⟨true, bs h_ ++ (bs [(23, true)] ++ [(14, ⟨.c (.int .i64 n), none⟩), (20, ⟨.c (str v), none⟩), (21, ⟨.c (.bool false), none⟩)])⟩ (lpBy ([])) 60 (lbody Tryd.prog 35 2) (rnS l (n + 1)))

theorem rnyA_1 (l v : List UInt8) (n : Nat) : rnyA_X l v n [(12, true)] = some (.normal, ⟨frame 57 [(0, (AV.c ((str (l))))), (4, (AV.c ((Value.int .i64 ((↑n : Int))))))], []⟩, [decide ((↑(n + 1) : Int) > 0) = true,
 (0 : Int) ≤ 0,
 (0 : Int) ≤ ↑(n + 1),
 (↑(n + 1) : Int) ≤ ↑l.length,
 (((List.drop (Int.toNat (0 : Int)) (List.take (n + (1 : Nat)) l)).length : Nat) ≤ ((9223372036854775800 : Nat))),
 ((namedF (List.drop (Int.toNat (0 : Int)) (List.take (n + (1 : Nat)) l)) : List UInt8)) = (v),
 (!namedF (List.drop (Int.toNat (0 : Int)) (List.take (n + (1 : Nat)) l)) == []) = false,
 (true) = true,
 (IntKind.i64.min : Int) ≤ ↑(n + 1) - 1,
 (↑(n + 1) - 1 : Int) ≤ IntKind.i64.max,
 (↑(n + 1) - 1 : Int) = ↑n]) := by kernel_rfl

theorem rnyA_all (l v : List UInt8) (n : Nat) (hv : namedF (l.take (n + 1)) = v) (hx : (!(namedF (l.take (n + 1)) == [])) = false) (hl : l.length ≤ 9223372036854775790) (hn : n < l.length) (hl2 : (l.take (n + 1)).length ≤ 9223372036854775800) : Round Ext0 Tryd.prog clRy (lbody Tryd.prog 35 2) (rnS l (n + 1)) (.normal) (rnS l n) := by
  refine ⟨_, _, _, _, _, lpBy_nil, by decide, (rnyA_1 l v n).trans (congrArg (fun S : St => some ((.normal : Exit), S, _)) (by first | rfl | (simp (disch := omega) only [std]; done))), ?_⟩
  all_goals try simp (disch := omega) only [std]
  all_goals repeat' apply And.intro
  all_goals first | exact True.intro | omega | with_reducible rfl | with_reducible assumption | exact hv | exact hx | rfl

noncomputable def rnyB_X (l v : List UInt8) (n : Nat) (y g : Bool) (d : Int) (h_ : List (Nat × Bool)) := roundOut (⟨[], [2, 3], []⟩) (aCode Tryd.prog clRy ⟨true, bs h_ ++ (bs [(23, false), (51, false)] ++ [(49, ⟨.c (.int .i64 n), none⟩), (20, ⟨.c (str v), none⟩), (21, ⟨.c (.bool true), none⟩), (32, ⟨.c (.bool y), none⟩), (37, ⟨.c (.int .i64 d), none⟩), (46, ⟨.c (.bool g), none⟩)])⟩ (lpBy ([])) 60 (lbody Tryd.prog 35 2) (rnS l (n + 1)))

theorem rnyB_1 (l v : List UInt8) (n : Nat) (y g : Bool) (d : Int) : rnyB_X l v n y g d [(12, true), (27, true), (32, true)] = some (.ret, ⟨frame 57 [(2, (AV.c ((str (v))))), (3, (AV.c ((Value.int .i64 ((↑(n + (1 : Nat)) : Int))))))], []⟩, [decide ((↑(n + 1) : Int) > 0) = true,
 (0 : Int) ≤ 0,
 (0 : Int) ≤ ↑(n + 1),
 (↑(n + 1) : Int) ≤ ↑l.length,
 (((List.drop (Int.toNat (0 : Int)) (List.take (n + (1 : Nat)) l)).length : Nat) ≤ ((9223372036854775800 : Nat))),
 ((namedF (List.drop (Int.toNat (0 : Int)) (List.take (n + (1 : Nat)) l)) : List UInt8)) = (v),
 (!namedF (List.drop (Int.toNat (0 : Int)) (List.take (n + (1 : Nat)) l)) == []) = true,
 (false) = false,
 decide ((↑(n + 1) : Int) < ↑l.length) = true,
 (0 : Int) ≤ ↑(n + 1),
 (↑(n + 1) : Int) < ↑l.length,
 (((0 : Int) : Int) ≤ ((↑(l.getD (n + (1 : Nat)) (0 : UInt8)).toNat : Int))),
 (((↑(l.getD (n + (1 : Nat)) (0 : UInt8)).toNat : Int) : Int) < ((256 : Int))),
 (letterI (↑(l.getD (n + (1 : Nat)) (0 : UInt8)).toNat : Int)) = true,
 ((true : Bool)) = (g),
 (IntKind.i64.min : Int) ≤ ↑(n + 1) - 1,
 (↑(n + 1) - 1 : Int) ≤ IntKind.i64.max,
 (↑(n + 1) - 1 : Int) = ↑n,
 (0 : Int) ≤ ↑n,
 (↑n : Int) < ↑l.length,
 ((↑(l.getD n 0).toNat : Int) != (59 : Int)) = false]) := by kernel_rfl

theorem rnyB_2 (l v : List UInt8) (n : Nat) (y g : Bool) (d : Int) : rnyB_X l v n y g d [(12, true), (27, true), (32, false), (38, true)] = some (.ret, ⟨frame 57 [(2, (AV.c ((str (v))))), (3, (AV.c ((Value.int .i64 ((↑(n + (1 : Nat)) : Int))))))], []⟩, [decide ((↑(n + 1) : Int) > 0) = true,
 (0 : Int) ≤ 0,
 (0 : Int) ≤ ↑(n + 1),
 (↑(n + 1) : Int) ≤ ↑l.length,
 (((List.drop (Int.toNat (0 : Int)) (List.take (n + (1 : Nat)) l)).length : Nat) ≤ ((9223372036854775800 : Nat))),
 ((namedF (List.drop (Int.toNat (0 : Int)) (List.take (n + (1 : Nat)) l)) : List UInt8)) = (v),
 (!namedF (List.drop (Int.toNat (0 : Int)) (List.take (n + (1 : Nat)) l)) == []) = true,
 (false) = false,
 decide ((↑(n + 1) : Int) < ↑l.length) = true,
 (0 : Int) ≤ ↑(n + 1),
 (↑(n + 1) : Int) < ↑l.length,
 (((0 : Int) : Int) ≤ ((↑(l.getD (n + (1 : Nat)) (0 : UInt8)).toNat : Int))),
 (((↑(l.getD (n + (1 : Nat)) (0 : UInt8)).toNat : Int) : Int) < ((256 : Int))),
 (letterI (↑(l.getD (n + (1 : Nat)) (0 : UInt8)).toNat : Int)) = false,
 (0 : Int) ≤ ↑(n + 1),
 (↑(n + 1) : Int) < ↑l.length,
 (((0 : Int) : Int) ≤ ((↑(l.getD (n + (1 : Nat)) (0 : UInt8)).toNat : Int))),
 (((↑(l.getD (n + (1 : Nat)) (0 : UInt8)).toNat : Int) : Int) < ((256 : Int))),
 ((digitI (↑(l.getD (n + (1 : Nat)) (0 : UInt8)).toNat : Int) (10 : Int) : Int)) = (d),
 decide ((d : Int) ≥ 0) = true,
 ((true : Bool)) = (g),
 (IntKind.i64.min : Int) ≤ ↑(n + 1) - 1,
 (↑(n + 1) - 1 : Int) ≤ IntKind.i64.max,
 (↑(n + 1) - 1 : Int) = ↑n,
 (0 : Int) ≤ ↑n,
 (↑n : Int) < ↑l.length,
 ((↑(l.getD n 0).toNat : Int) != (59 : Int)) = false]) := by kernel_rfl

theorem rnyB_3 (l v : List UInt8) (n : Nat) (y g : Bool) (d : Int) : rnyB_X l v n y g d [(12, true), (27, true), (32, false), (38, false)] = some (.ret, ⟨frame 57 [(2, (AV.c ((str (v))))), (3, (AV.c ((Value.int .i64 ((↑(n + (1 : Nat)) : Int))))))], []⟩, [decide ((↑(n + 1) : Int) > 0) = true,
 (0 : Int) ≤ 0,
 (0 : Int) ≤ ↑(n + 1),
 (↑(n + 1) : Int) ≤ ↑l.length,
 (((List.drop (Int.toNat (0 : Int)) (List.take (n + (1 : Nat)) l)).length : Nat) ≤ ((9223372036854775800 : Nat))),
 ((namedF (List.drop (Int.toNat (0 : Int)) (List.take (n + (1 : Nat)) l)) : List UInt8)) = (v),
 (!namedF (List.drop (Int.toNat (0 : Int)) (List.take (n + (1 : Nat)) l)) == []) = true,
 (false) = false,
 decide ((↑(n + 1) : Int) < ↑l.length) = true,
 (0 : Int) ≤ ↑(n + 1),
 (↑(n + 1) : Int) < ↑l.length,
 (((0 : Int) : Int) ≤ ((↑(l.getD (n + (1 : Nat)) (0 : UInt8)).toNat : Int))),
 (((↑(l.getD (n + (1 : Nat)) (0 : UInt8)).toNat : Int) : Int) < ((256 : Int))),
 (letterI (↑(l.getD (n + (1 : Nat)) (0 : UInt8)).toNat : Int)) = false,
 (0 : Int) ≤ ↑(n + 1),
 (↑(n + 1) : Int) < ↑l.length,
 (((0 : Int) : Int) ≤ ((↑(l.getD (n + (1 : Nat)) (0 : UInt8)).toNat : Int))),
 (((↑(l.getD (n + (1 : Nat)) (0 : UInt8)).toNat : Int) : Int) < ((256 : Int))),
 ((digitI (↑(l.getD (n + (1 : Nat)) (0 : UInt8)).toNat : Int) (10 : Int) : Int)) = (d),
 decide ((d : Int) ≥ 0) = false,
 (0 : Int) ≤ ↑(n + 1),
 (↑(n + 1) : Int) < ↑l.length,
 (((↑(l.getD (n + (1 : Nat)) (0 : UInt8)).toNat : Int) == (61 : Int) : Bool)) = (g),
 (IntKind.i64.min : Int) ≤ ↑(n + 1) - 1,
 (↑(n + 1) - 1 : Int) ≤ IntKind.i64.max,
 (↑(n + 1) - 1 : Int) = ↑n,
 (0 : Int) ≤ ↑n,
 (↑n : Int) < ↑l.length,
 ((↑(l.getD n 0).toNat : Int) != (59 : Int)) = false]) := by kernel_rfl

theorem rnyB_4 (l v : List UInt8) (n : Nat) (y g : Bool) (d : Int) : rnyB_X l v n y g d [(12, true), (27, false)] = some (.ret, ⟨frame 57 [(2, (AV.c ((str (v))))), (3, (AV.c ((Value.int .i64 ((↑(n + (1 : Nat)) : Int))))))], []⟩, [decide ((↑(n + 1) : Int) > 0) = true,
 (0 : Int) ≤ 0,
 (0 : Int) ≤ ↑(n + 1),
 (↑(n + 1) : Int) ≤ ↑l.length,
 (((List.drop (Int.toNat (0 : Int)) (List.take (n + (1 : Nat)) l)).length : Nat) ≤ ((9223372036854775800 : Nat))),
 ((namedF (List.drop (Int.toNat (0 : Int)) (List.take (n + (1 : Nat)) l)) : List UInt8)) = (v),
 (!namedF (List.drop (Int.toNat (0 : Int)) (List.take (n + (1 : Nat)) l)) == []) = true,
 (false) = false,
 decide ((↑(n + 1) : Int) < ↑l.length) = false,
 ((false : Bool)) = (g),
 (IntKind.i64.min : Int) ≤ ↑(n + 1) - 1,
 (↑(n + 1) - 1 : Int) ≤ IntKind.i64.max,
 (↑(n + 1) - 1 : Int) = ↑n,
 (0 : Int) ≤ ↑n,
 (↑n : Int) < ↑l.length,
 ((↑(l.getD n 0).toNat : Int) != (59 : Int)) = false]) := by kernel_rfl

theorem rnyB_all (l v : List UInt8) (n : Nat) (y g : Bool) (d : Int) (hv : namedF (l.take (n + 1)) = v) (hx : (!(namedF (l.take (n + 1)) == [])) = true) (hl : l.length ≤ 9223372036854775790) (hn : n < l.length) (hl2 : (l.take (n + 1)).length ≤ 9223372036854775800) (hc : (((l.getD n 0).toNat : Nat) : Int) = 59) (h5 : (l.getD (n + 1) 0).toNat < 256) (hy : isL (l.getD (n + 1) 0) = y) (hd : dg 10 (l.getD (n + 1) 0) = d) (gF : ¬ (n + 1 < l.length) → false = g) (gT : n + 1 < l.length → y = true → true = g) (gD : n + 1 < l.length → 0 ≤ d → true = g) (gE : n + 1 < l.length → y = false → ¬ 0 ≤ d → ((((l.getD (n + 1) 0).toNat : Nat) : Int) == 61) = g) (gg : g = g) : Round Ext0 Tryd.prog clRy (lbody Tryd.prog 35 2) (rnS l (n + 1)) (.ret) (rnY (v, n + 1)) := by
  refine bcase (decide ((↑(n + (1 : Nat)) : Int) < (↑l.length : Int))) (fun hc27 => bcase (y) (fun hc32 => ⟨_, _, _, _, _, lpBy_nil, by decide, (rnyB_1 l v n y g d).trans (congrArg (fun S : St => some ((.ret : Exit), S, _)) (by first | rfl | (simp (disch := omega) only [std]; done))), ?_⟩)
    (fun hc32 => bcase (decide (d ≥ (0 : Int))) (fun hc38 => ⟨_, _, _, _, _, lpBy_nil, by decide, (rnyB_2 l v n y g d).trans (congrArg (fun S : St => some ((.ret : Exit), S, _)) (by first | rfl | (simp (disch := omega) only [std]; done))), ?_⟩)
    (fun hc38 => ⟨_, _, _, _, _, lpBy_nil, by decide, (rnyB_3 l v n y g d).trans (congrArg (fun S : St => some ((.ret : Exit), S, _)) (by first | rfl | (simp (disch := omega) only [std]; done))), ?_⟩)))
    (fun hc27 => ⟨_, _, _, _, _, lpBy_nil, by decide, (rnyB_4 l v n y g d).trans (congrArg (fun S : St => some ((.ret : Exit), S, _)) (by first | rfl | (simp (disch := omega) only [std]; done))), ?_⟩)
  all_goals try simp only [dz] at hc27
  all_goals try simp only [dz] at hc32
  all_goals try simp only [dz] at hc38
  all_goals try simp (disch := omega) only [std]
  all_goals repeat' apply And.intro
  all_goals first | exact True.intro | omega | with_reducible rfl | with_reducible assumption | exact gF (by omega) | exact gT (by omega) hc32 | exact gD (by omega) (by omega) | exact gE (by omega) hc32 (by omega) | exact beq_iff_eq.1 (gE (by omega) hc32 (by omega)) | exact beq_eq_false_iff_ne.1 (gE (by omega) hc32 (by omega)) | exact hy.trans hc32 | exact hv | exact hx | exact hc | exact hy | exact hd | exact gg | rfl


noncomputable def rnyC_X (l v : List UInt8) (n : Nat) (y g : Bool) (d : Int) (h_ : List (Nat × Bool)) := roundOut (⟨[], [2, 3], []⟩) (aCode Tryd.prog clRy ⟨true, bs h_ ++ (bs [(23, false), (51, true)] ++ [(49, ⟨.c (.int .i64 n), none⟩), (20, ⟨.c (str v), none⟩), (21, ⟨.c (.bool true), none⟩), (32, ⟨.c (.bool y), none⟩), (37, ⟨.c (.int .i64 d), none⟩), (46, ⟨.c (.bool false), none⟩)])⟩ (lpBy ([])) 60 (lbody Tryd.prog 35 2) (rnS l (n + 1)))

theorem rnyC_1 (l v : List UInt8) (n : Nat) (y g : Bool) (d : Int) : rnyC_X l v n y g d [(12, true), (27, true), (32, true)] = some (.ret, ⟨frame 57 [(2, (AV.c ((str (v))))), (3, (AV.c ((Value.int .i64 ((↑(n + (1 : Nat)) : Int))))))], []⟩, [decide ((↑(n + 1) : Int) > 0) = true,
 (0 : Int) ≤ 0,
 (0 : Int) ≤ ↑(n + 1),
 (↑(n + 1) : Int) ≤ ↑l.length,
 (((List.drop (Int.toNat (0 : Int)) (List.take (n + (1 : Nat)) l)).length : Nat) ≤ ((9223372036854775800 : Nat))),
 ((namedF (List.drop (Int.toNat (0 : Int)) (List.take (n + (1 : Nat)) l)) : List UInt8)) = (v),
 (!namedF (List.drop (Int.toNat (0 : Int)) (List.take (n + (1 : Nat)) l)) == []) = true,
 (false) = false,
 decide ((↑(n + 1) : Int) < ↑l.length) = true,
 (0 : Int) ≤ ↑(n + 1),
 (↑(n + 1) : Int) < ↑l.length,
 (((0 : Int) : Int) ≤ ((↑(l.getD (n + (1 : Nat)) (0 : UInt8)).toNat : Int))),
 (((↑(l.getD (n + (1 : Nat)) (0 : UInt8)).toNat : Int) : Int) < ((256 : Int))),
 (letterI (↑(l.getD (n + (1 : Nat)) (0 : UInt8)).toNat : Int)) = true,
 (true) = false,
 (IntKind.i64.min : Int) ≤ ↑(n + 1) - 1,
 (↑(n + 1) - 1 : Int) ≤ IntKind.i64.max,
 (↑(n + 1) - 1 : Int) = ↑n,
 (0 : Int) ≤ ↑n,
 (↑n : Int) < ↑l.length,
 ((↑(l.getD n 0).toNat : Int) != (59 : Int)) = true]) := by kernel_rfl

theorem rnyC_2 (l v : List UInt8) (n : Nat) (y g : Bool) (d : Int) : rnyC_X l v n y g d [(12, true), (27, true), (32, false), (38, true)] = some (.ret, ⟨frame 57 [(2, (AV.c ((str (v))))), (3, (AV.c ((Value.int .i64 ((↑(n + (1 : Nat)) : Int))))))], []⟩, [decide ((↑(n + 1) : Int) > 0) = true,
 (0 : Int) ≤ 0,
 (0 : Int) ≤ ↑(n + 1),
 (↑(n + 1) : Int) ≤ ↑l.length,
 (((List.drop (Int.toNat (0 : Int)) (List.take (n + (1 : Nat)) l)).length : Nat) ≤ ((9223372036854775800 : Nat))),
 ((namedF (List.drop (Int.toNat (0 : Int)) (List.take (n + (1 : Nat)) l)) : List UInt8)) = (v),
 (!namedF (List.drop (Int.toNat (0 : Int)) (List.take (n + (1 : Nat)) l)) == []) = true,
 (false) = false,
 decide ((↑(n + 1) : Int) < ↑l.length) = true,
 (0 : Int) ≤ ↑(n + 1),
 (↑(n + 1) : Int) < ↑l.length,
 (((0 : Int) : Int) ≤ ((↑(l.getD (n + (1 : Nat)) (0 : UInt8)).toNat : Int))),
 (((↑(l.getD (n + (1 : Nat)) (0 : UInt8)).toNat : Int) : Int) < ((256 : Int))),
 (letterI (↑(l.getD (n + (1 : Nat)) (0 : UInt8)).toNat : Int)) = false,
 (0 : Int) ≤ ↑(n + 1),
 (↑(n + 1) : Int) < ↑l.length,
 (((0 : Int) : Int) ≤ ((↑(l.getD (n + (1 : Nat)) (0 : UInt8)).toNat : Int))),
 (((↑(l.getD (n + (1 : Nat)) (0 : UInt8)).toNat : Int) : Int) < ((256 : Int))),
 ((digitI (↑(l.getD (n + (1 : Nat)) (0 : UInt8)).toNat : Int) (10 : Int) : Int)) = (d),
 decide ((d : Int) ≥ 0) = true,
 (true) = false,
 (IntKind.i64.min : Int) ≤ ↑(n + 1) - 1,
 (↑(n + 1) - 1 : Int) ≤ IntKind.i64.max,
 (↑(n + 1) - 1 : Int) = ↑n,
 (0 : Int) ≤ ↑n,
 (↑n : Int) < ↑l.length,
 ((↑(l.getD n 0).toNat : Int) != (59 : Int)) = true]) := by kernel_rfl

theorem rnyC_3 (l v : List UInt8) (n : Nat) (y g : Bool) (d : Int) : rnyC_X l v n y g d [(12, true), (27, true), (32, false), (38, false)] = some (.ret, ⟨frame 57 [(2, (AV.c ((str (v))))), (3, (AV.c ((Value.int .i64 ((↑(n + (1 : Nat)) : Int))))))], []⟩, [decide ((↑(n + 1) : Int) > 0) = true,
 (0 : Int) ≤ 0,
 (0 : Int) ≤ ↑(n + 1),
 (↑(n + 1) : Int) ≤ ↑l.length,
 (((List.drop (Int.toNat (0 : Int)) (List.take (n + (1 : Nat)) l)).length : Nat) ≤ ((9223372036854775800 : Nat))),
 ((namedF (List.drop (Int.toNat (0 : Int)) (List.take (n + (1 : Nat)) l)) : List UInt8)) = (v),
 (!namedF (List.drop (Int.toNat (0 : Int)) (List.take (n + (1 : Nat)) l)) == []) = true,
 (false) = false,
 decide ((↑(n + 1) : Int) < ↑l.length) = true,
 (0 : Int) ≤ ↑(n + 1),
 (↑(n + 1) : Int) < ↑l.length,
 (((0 : Int) : Int) ≤ ((↑(l.getD (n + (1 : Nat)) (0 : UInt8)).toNat : Int))),
 (((↑(l.getD (n + (1 : Nat)) (0 : UInt8)).toNat : Int) : Int) < ((256 : Int))),
 (letterI (↑(l.getD (n + (1 : Nat)) (0 : UInt8)).toNat : Int)) = false,
 (0 : Int) ≤ ↑(n + 1),
 (↑(n + 1) : Int) < ↑l.length,
 (((0 : Int) : Int) ≤ ((↑(l.getD (n + (1 : Nat)) (0 : UInt8)).toNat : Int))),
 (((↑(l.getD (n + (1 : Nat)) (0 : UInt8)).toNat : Int) : Int) < ((256 : Int))),
 ((digitI (↑(l.getD (n + (1 : Nat)) (0 : UInt8)).toNat : Int) (10 : Int) : Int)) = (d),
 decide ((d : Int) ≥ 0) = false,
 (0 : Int) ≤ ↑(n + 1),
 (↑(n + 1) : Int) < ↑l.length,
 ((↑(l.getD (n + (1 : Nat)) (0 : UInt8)).toNat : Int) == (61 : Int)) = false,
 (IntKind.i64.min : Int) ≤ ↑(n + 1) - 1,
 (↑(n + 1) - 1 : Int) ≤ IntKind.i64.max,
 (↑(n + 1) - 1 : Int) = ↑n,
 (0 : Int) ≤ ↑n,
 (↑n : Int) < ↑l.length,
 ((↑(l.getD n 0).toNat : Int) != (59 : Int)) = true]) := by kernel_rfl

theorem rnyC_4 (l v : List UInt8) (n : Nat) (y g : Bool) (d : Int) : rnyC_X l v n y g d [(12, true), (27, false)] = some (.ret, ⟨frame 57 [(2, (AV.c ((str (v))))), (3, (AV.c ((Value.int .i64 ((↑(n + (1 : Nat)) : Int))))))], []⟩, [decide ((↑(n + 1) : Int) > 0) = true,
 (0 : Int) ≤ 0,
 (0 : Int) ≤ ↑(n + 1),
 (↑(n + 1) : Int) ≤ ↑l.length,
 (((List.drop (Int.toNat (0 : Int)) (List.take (n + (1 : Nat)) l)).length : Nat) ≤ ((9223372036854775800 : Nat))),
 ((namedF (List.drop (Int.toNat (0 : Int)) (List.take (n + (1 : Nat)) l)) : List UInt8)) = (v),
 (!namedF (List.drop (Int.toNat (0 : Int)) (List.take (n + (1 : Nat)) l)) == []) = true,
 (false) = false,
 decide ((↑(n + 1) : Int) < ↑l.length) = false,
 (false) = false,
 (IntKind.i64.min : Int) ≤ ↑(n + 1) - 1,
 (↑(n + 1) - 1 : Int) ≤ IntKind.i64.max,
 (↑(n + 1) - 1 : Int) = ↑n,
 (0 : Int) ≤ ↑n,
 (↑n : Int) < ↑l.length,
 ((↑(l.getD n 0).toNat : Int) != (59 : Int)) = true]) := by kernel_rfl

theorem rnyC_all (l v : List UInt8) (n : Nat) (y g : Bool) (d : Int) (hv : namedF (l.take (n + 1)) = v) (hx : (!(namedF (l.take (n + 1)) == [])) = true) (hl : l.length ≤ 9223372036854775790) (hn : n < l.length) (hl2 : (l.take (n + 1)).length ≤ 9223372036854775800) (hc : ¬ (((l.getD n 0).toNat : Nat) : Int) = 59) (h5 : (l.getD (n + 1) 0).toNat < 256) (hy : isL (l.getD (n + 1) 0) = y) (hd : dg 10 (l.getD (n + 1) 0) = d) (gF : ¬ (n + 1 < l.length) → false = false) (gT : n + 1 < l.length → y = true → true = false) (gD : n + 1 < l.length → 0 ≤ d → true = false) (gE : n + 1 < l.length → y = false → ¬ 0 ≤ d → ((((l.getD (n + 1) 0).toNat : Nat) : Int) == 61) = false) (gg : g = false) : Round Ext0 Tryd.prog clRy (lbody Tryd.prog 35 2) (rnS l (n + 1)) (.ret) (rnY (v, n + 1)) := by
  refine bcase (decide ((↑(n + (1 : Nat)) : Int) < (↑l.length : Int))) (fun hc27 => bcase (y) (fun hc32 => ⟨_, _, _, _, _, lpBy_nil, by decide, (rnyC_1 l v n y g d).trans (congrArg (fun S : St => some ((.ret : Exit), S, _)) (by first | rfl | (simp (disch := omega) only [std]; done))), ?_⟩)
    (fun hc32 => bcase (decide (d ≥ (0 : Int))) (fun hc38 => ⟨_, _, _, _, _, lpBy_nil, by decide, (rnyC_2 l v n y g d).trans (congrArg (fun S : St => some ((.ret : Exit), S, _)) (by first | rfl | (simp (disch := omega) only [std]; done))), ?_⟩)
    (fun hc38 => ⟨_, _, _, _, _, lpBy_nil, by decide, (rnyC_3 l v n y g d).trans (congrArg (fun S : St => some ((.ret : Exit), S, _)) (by first | rfl | (simp (disch := omega) only [std]; done))), ?_⟩)))
    (fun hc27 => ⟨_, _, _, _, _, lpBy_nil, by decide, (rnyC_4 l v n y g d).trans (congrArg (fun S : St => some ((.ret : Exit), S, _)) (by first | rfl | (simp (disch := omega) only [std]; done))), ?_⟩)
  all_goals try simp only [dz] at hc27
  all_goals try simp only [dz] at hc32
  all_goals try simp only [dz] at hc38
  all_goals try simp (disch := omega) only [std]
  all_goals repeat' apply And.intro
  all_goals first | exact True.intro | omega | with_reducible rfl | with_reducible assumption | exact gF (by omega) | exact gT (by omega) hc32 | exact gD (by omega) (by omega) | exact gE (by omega) hc32 (by omega) | exact beq_iff_eq.1 (gE (by omega) hc32 (by omega)) | exact beq_eq_false_iff_ne.1 (gE (by omega) hc32 (by omega)) | exact hy.trans hc32 | exact hv | exact hx | exact hc | exact hy | exact hd | exact gg | rfl


noncomputable def rnyD_X (l v : List UInt8) (n : Nat) (y g : Bool) (d : Int) (h_ : List (Nat × Bool)) := roundOut (⟨[], [2, 3], []⟩) (aCode Tryd.prog clRy ⟨true, bs h_ ++ (bs [(23, false), (51, true)] ++ [(49, ⟨.c (.int .i64 n), none⟩), (20, ⟨.c (str v), none⟩), (21, ⟨.c (.bool true), none⟩), (32, ⟨.c (.bool y), none⟩), (37, ⟨.c (.int .i64 d), none⟩), (46, ⟨.c (.bool true), none⟩)])⟩ (lpBy ([])) 60 (lbody Tryd.prog 35 2) (rnS l (n + 1)))

theorem rnyD_1 (l v : List UInt8) (n : Nat) (y g : Bool) (d : Int) : rnyD_X l v n y g d [(12, true), (27, true), (32, true)] = some (.ret, ⟨frame 57 [(2, (AV.c ((str ([]))))), (3, (AV.c ((Value.int .i64 0))))], []⟩, [decide ((↑(n + 1) : Int) > 0) = true,
 (0 : Int) ≤ 0,
 (0 : Int) ≤ ↑(n + 1),
 (↑(n + 1) : Int) ≤ ↑l.length,
 (((List.drop (Int.toNat (0 : Int)) (List.take (n + (1 : Nat)) l)).length : Nat) ≤ ((9223372036854775800 : Nat))),
 ((namedF (List.drop (Int.toNat (0 : Int)) (List.take (n + (1 : Nat)) l)) : List UInt8)) = (v),
 (!namedF (List.drop (Int.toNat (0 : Int)) (List.take (n + (1 : Nat)) l)) == []) = true,
 (false) = false,
 decide ((↑(n + 1) : Int) < ↑l.length) = true,
 (0 : Int) ≤ ↑(n + 1),
 (↑(n + 1) : Int) < ↑l.length,
 (((0 : Int) : Int) ≤ ((↑(l.getD (n + (1 : Nat)) (0 : UInt8)).toNat : Int))),
 (((↑(l.getD (n + (1 : Nat)) (0 : UInt8)).toNat : Int) : Int) < ((256 : Int))),
 (letterI (↑(l.getD (n + (1 : Nat)) (0 : UInt8)).toNat : Int)) = true,
 (true) = true,
 (IntKind.i64.min : Int) ≤ ↑(n + 1) - 1,
 (↑(n + 1) - 1 : Int) ≤ IntKind.i64.max,
 (↑(n + 1) - 1 : Int) = ↑n,
 (0 : Int) ≤ ↑n,
 (↑n : Int) < ↑l.length,
 ((↑(l.getD n 0).toNat : Int) != (59 : Int)) = true]) := by kernel_rfl

theorem rnyD_2 (l v : List UInt8) (n : Nat) (y g : Bool) (d : Int) : rnyD_X l v n y g d [(12, true), (27, true), (32, false), (38, true)] = some (.ret, ⟨frame 57 [(2, (AV.c ((str ([]))))), (3, (AV.c ((Value.int .i64 0))))], []⟩, [decide ((↑(n + 1) : Int) > 0) = true,
 (0 : Int) ≤ 0,
 (0 : Int) ≤ ↑(n + 1),
 (↑(n + 1) : Int) ≤ ↑l.length,
 (((List.drop (Int.toNat (0 : Int)) (List.take (n + (1 : Nat)) l)).length : Nat) ≤ ((9223372036854775800 : Nat))),
 ((namedF (List.drop (Int.toNat (0 : Int)) (List.take (n + (1 : Nat)) l)) : List UInt8)) = (v),
 (!namedF (List.drop (Int.toNat (0 : Int)) (List.take (n + (1 : Nat)) l)) == []) = true,
 (false) = false,
 decide ((↑(n + 1) : Int) < ↑l.length) = true,
 (0 : Int) ≤ ↑(n + 1),
 (↑(n + 1) : Int) < ↑l.length,
 (((0 : Int) : Int) ≤ ((↑(l.getD (n + (1 : Nat)) (0 : UInt8)).toNat : Int))),
 (((↑(l.getD (n + (1 : Nat)) (0 : UInt8)).toNat : Int) : Int) < ((256 : Int))),
 (letterI (↑(l.getD (n + (1 : Nat)) (0 : UInt8)).toNat : Int)) = false,
 (0 : Int) ≤ ↑(n + 1),
 (↑(n + 1) : Int) < ↑l.length,
 (((0 : Int) : Int) ≤ ((↑(l.getD (n + (1 : Nat)) (0 : UInt8)).toNat : Int))),
 (((↑(l.getD (n + (1 : Nat)) (0 : UInt8)).toNat : Int) : Int) < ((256 : Int))),
 ((digitI (↑(l.getD (n + (1 : Nat)) (0 : UInt8)).toNat : Int) (10 : Int) : Int)) = (d),
 decide ((d : Int) ≥ 0) = true,
 (true) = true,
 (IntKind.i64.min : Int) ≤ ↑(n + 1) - 1,
 (↑(n + 1) - 1 : Int) ≤ IntKind.i64.max,
 (↑(n + 1) - 1 : Int) = ↑n,
 (0 : Int) ≤ ↑n,
 (↑n : Int) < ↑l.length,
 ((↑(l.getD n 0).toNat : Int) != (59 : Int)) = true]) := by kernel_rfl

theorem rnyD_3 (l v : List UInt8) (n : Nat) (y g : Bool) (d : Int) : rnyD_X l v n y g d [(12, true), (27, true), (32, false), (38, false)] = some (.ret, ⟨frame 57 [(2, (AV.c ((str ([]))))), (3, (AV.c ((Value.int .i64 0))))], []⟩, [decide ((↑(n + 1) : Int) > 0) = true,
 (0 : Int) ≤ 0,
 (0 : Int) ≤ ↑(n + 1),
 (↑(n + 1) : Int) ≤ ↑l.length,
 (((List.drop (Int.toNat (0 : Int)) (List.take (n + (1 : Nat)) l)).length : Nat) ≤ ((9223372036854775800 : Nat))),
 ((namedF (List.drop (Int.toNat (0 : Int)) (List.take (n + (1 : Nat)) l)) : List UInt8)) = (v),
 (!namedF (List.drop (Int.toNat (0 : Int)) (List.take (n + (1 : Nat)) l)) == []) = true,
 (false) = false,
 decide ((↑(n + 1) : Int) < ↑l.length) = true,
 (0 : Int) ≤ ↑(n + 1),
 (↑(n + 1) : Int) < ↑l.length,
 (((0 : Int) : Int) ≤ ((↑(l.getD (n + (1 : Nat)) (0 : UInt8)).toNat : Int))),
 (((↑(l.getD (n + (1 : Nat)) (0 : UInt8)).toNat : Int) : Int) < ((256 : Int))),
 (letterI (↑(l.getD (n + (1 : Nat)) (0 : UInt8)).toNat : Int)) = false,
 (0 : Int) ≤ ↑(n + 1),
 (↑(n + 1) : Int) < ↑l.length,
 (((0 : Int) : Int) ≤ ((↑(l.getD (n + (1 : Nat)) (0 : UInt8)).toNat : Int))),
 (((↑(l.getD (n + (1 : Nat)) (0 : UInt8)).toNat : Int) : Int) < ((256 : Int))),
 ((digitI (↑(l.getD (n + (1 : Nat)) (0 : UInt8)).toNat : Int) (10 : Int) : Int)) = (d),
 decide ((d : Int) ≥ 0) = false,
 (0 : Int) ≤ ↑(n + 1),
 (↑(n + 1) : Int) < ↑l.length,
 ((↑(l.getD (n + (1 : Nat)) (0 : UInt8)).toNat : Int) == (61 : Int)) = true,
 (IntKind.i64.min : Int) ≤ ↑(n + 1) - 1,
 (↑(n + 1) - 1 : Int) ≤ IntKind.i64.max,
 (↑(n + 1) - 1 : Int) = ↑n,
 (0 : Int) ≤ ↑n,
 (↑n : Int) < ↑l.length,
 ((↑(l.getD n 0).toNat : Int) != (59 : Int)) = true]) := by kernel_rfl

theorem rnyD_4 (l v : List UInt8) (n : Nat) (y g : Bool) (d : Int) : rnyD_X l v n y g d [(12, true), (27, false)] = some (.ret, ⟨frame 57 [(2, (AV.c ((str ([]))))), (3, (AV.c ((Value.int .i64 0))))], []⟩, [decide ((↑(n + 1) : Int) > 0) = true,
 (0 : Int) ≤ 0,
 (0 : Int) ≤ ↑(n + 1),
 (↑(n + 1) : Int) ≤ ↑l.length,
 (((List.drop (Int.toNat (0 : Int)) (List.take (n + (1 : Nat)) l)).length : Nat) ≤ ((9223372036854775800 : Nat))),
 ((namedF (List.drop (Int.toNat (0 : Int)) (List.take (n + (1 : Nat)) l)) : List UInt8)) = (v),
 (!namedF (List.drop (Int.toNat (0 : Int)) (List.take (n + (1 : Nat)) l)) == []) = true,
 (false) = false,
 decide ((↑(n + 1) : Int) < ↑l.length) = false,
 (false) = true,
 (IntKind.i64.min : Int) ≤ ↑(n + 1) - 1,
 (↑(n + 1) - 1 : Int) ≤ IntKind.i64.max,
 (↑(n + 1) - 1 : Int) = ↑n,
 (0 : Int) ≤ ↑n,
 (↑n : Int) < ↑l.length,
 ((↑(l.getD n 0).toNat : Int) != (59 : Int)) = true]) := by kernel_rfl

theorem rnyD_all (l v : List UInt8) (n : Nat) (y g : Bool) (d : Int) (hv : namedF (l.take (n + 1)) = v) (hx : (!(namedF (l.take (n + 1)) == [])) = true) (hl : l.length ≤ 9223372036854775790) (hn : n < l.length) (hl2 : (l.take (n + 1)).length ≤ 9223372036854775800) (hc : ¬ (((l.getD n 0).toNat : Nat) : Int) = 59) (h5 : (l.getD (n + 1) 0).toNat < 256) (hy : isL (l.getD (n + 1) 0) = y) (hd : dg 10 (l.getD (n + 1) 0) = d) (gF : ¬ (n + 1 < l.length) → false = true) (gT : n + 1 < l.length → y = true → true = true) (gD : n + 1 < l.length → 0 ≤ d → true = true) (gE : n + 1 < l.length → y = false → ¬ 0 ≤ d → ((((l.getD (n + 1) 0).toNat : Nat) : Int) == 61) = true) (gg : g = true) : Round Ext0 Tryd.prog clRy (lbody Tryd.prog 35 2) (rnS l (n + 1)) (.ret) (rnN) := by
  refine bcase (decide ((↑(n + (1 : Nat)) : Int) < (↑l.length : Int))) (fun hc27 => bcase (y) (fun hc32 => ⟨_, _, _, _, _, lpBy_nil, by decide, (rnyD_1 l v n y g d).trans (congrArg (fun S : St => some ((.ret : Exit), S, _)) (by first | rfl | (simp (disch := omega) only [std]; done))), ?_⟩)
    (fun hc32 => bcase (decide (d ≥ (0 : Int))) (fun hc38 => ⟨_, _, _, _, _, lpBy_nil, by decide, (rnyD_2 l v n y g d).trans (congrArg (fun S : St => some ((.ret : Exit), S, _)) (by first | rfl | (simp (disch := omega) only [std]; done))), ?_⟩)
    (fun hc38 => ⟨_, _, _, _, _, lpBy_nil, by decide, (rnyD_3 l v n y g d).trans (congrArg (fun S : St => some ((.ret : Exit), S, _)) (by first | rfl | (simp (disch := omega) only [std]; done))), ?_⟩)))
    (fun hc27 => ⟨_, _, _, _, _, lpBy_nil, by decide, (rnyD_4 l v n y g d).trans (congrArg (fun S : St => some ((.ret : Exit), S, _)) (by first | rfl | (simp (disch := omega) only [std]; done))), ?_⟩)
  all_goals try simp only [dz] at hc27
  all_goals try simp only [dz] at hc32
  all_goals try simp only [dz] at hc38
  all_goals try simp (disch := omega) only [std]
  all_goals repeat' apply And.intro
  all_goals first | exact True.intro | omega | with_reducible rfl | with_reducible assumption | exact gF (by omega) | exact gT (by omega) hc32 | exact gD (by omega) (by omega) | exact gE (by omega) hc32 (by omega) | exact beq_iff_eq.1 (gE (by omega) hc32 (by omega)) | exact beq_eq_false_iff_ne.1 (gE (by omega) hc32 (by omega)) | exact hy.trans hc32 | exact hv | exact hx | exact hc | exact hy | exact hd | exact gg | rfl


noncomputable def rnz_X (l : List UInt8) (h_ : List (Nat × Bool)) := roundOut (⟨[], [], []⟩) (aCode Tryd.prog clRy ⟨true, bs h_ ++ ([])⟩ (lpBy ([])) 60 (lbody Tryd.prog 35 2) (rnS l 0))

theorem rnz_1 (l : List UInt8) : rnz_X l [] = some (.exit 0, ⟨frame 57 [], []⟩, []) := by kernel_rfl

theorem goes_at (l : List UInt8) (n : Nat) : (¬ n < l.length → goesOn (l.drop n) = false) ∧ (n < l.length → isL (l.getD n 0) = true → goesOn (l.drop n) = true) ∧ (n < l.length → 0 ≤ dg 10 (l.getD n 0) → goesOn (l.drop n) = true) ∧ (n < l.length → isL (l.getD n 0) = false → ¬ 0 ≤ dg 10 (l.getD n 0) → ((((l.getD n 0).toNat : Nat) : Int) == 61) = goesOn (l.drop n)) := by
  refine ⟨fun h => by rw [List.drop_of_length_le (by omega)]; rfl, ?_, ?_, ?_⟩
  · intro h h1
    rw [drop_cons l n h]
    show (isL (l.getD n 0) || decide (0 ≤ dg 10 (l.getD n 0)) || l.getD n 0 == 61) = true
    rw [h1]; rfl
  · intro h h1
    rw [drop_cons l n h]
    show (isL (l.getD n 0) || decide (0 ≤ dg 10 (l.getD n 0)) || l.getD n 0 == 61) = true
    rw [decide_eq_true h1, Bool.or_true]; rfl
  · intro h h1 h2
    rw [drop_cons l n h]
    show _ = (isL (l.getD n 0) || decide (0 ≤ dg 10 (l.getD n 0)) || l.getD n 0 == 61)
    rw [h1, decide_eq_false h2]
    exact u8_eqB (l.getD n 0) (k := 61) (by decide)

def rnE (x : List UInt8 × Nat) (b : Bool) : Exit := if b = true then .ret else .exit 0

/-- Where the document's loop ends: at a name, or where one is kept from being read, or nowhere. -/
def endR (l : List UInt8) : Nat → Exit × St
  | 0 => (.exit 0, ⟨frame 57 [], []⟩)
  | n + 1 => if namedF (l.take (n + 1)) = [] then endR l n
    else if l.getD n 0 ≠ 59 ∧ goesOn (l.drop (n + 1)) = true then (.ret, rnN)
    else (.ret, rnY (namedF (l.take (n + 1)), n + 1))

theorem endR_cons (l : List UInt8) (n : Nat) : endR l (n + 1) = if namedF (l.take (n + 1)) = [] then endR l n
    else if l.getD n 0 ≠ 59 ∧ goesOn (l.drop (n + 1)) = true then (.ret, rnN)
    else (.ret, rnY (namedF (l.take (n + 1)), n + 1)) := rfl

theorem endR_exit (l : List UInt8) : ∀ n, (endR l n).1 ≠ .normal
  | 0 => by simp [endR]
  | n + 1 => by
    rw [endR_cons]
    split
    · exact endR_exit l n
    · split <;> simp

theorem rn_walk (l : List UInt8) (hl : l.length ≤ 9223372036854775790) (n0 : Nat) (hn : n0 ≤ l.length) : Tri Ext0 Tryd.prog (.loop (lbody Tryd.prog 35 2)) (rnS l n0) (endR l n0).1 (endR l n0).2 := by
  refine loop_inv mixed clRy_ok (fun n => rnS l n) (fun n => endR l n = endR l n0 ∧ n ≤ l.length) (fun n => n) (fun n hx => ?_) n0 ⟨rfl, hn⟩
  obtain ⟨h1, h2⟩ := hx
  match n, h1, h2 with
  | 0, h1, h2 =>
    rw [← h1]
    exact .inr ⟨by simp [endR], _, _, _, _, _, lpBy_nil, by decide, rnz_1 l, by simp only [allP, and_true]⟩
  | n + 1, h1, h2 =>
    rw [endR_cons] at h1
    have hlen : (List.take (n + 1) l).length ≤ 9223372036854775800 := by rw [List.length_take]; omega
    by_cases hv : namedF (l.take (n + 1)) = []
    · rw [if_pos hv] at h1
      exact .inl ⟨n, ⟨h1, by omega⟩, by omega, rnyA_all l _ n rfl (by rw [hv]; rfl) hl (by omega) hlen⟩
    · rw [if_neg hv] at h1
      refine .inr ?_
      have hx : (!(namedF (l.take (n + 1)) == [])) = true := by simpa using hv
      obtain ⟨g1, g2, g3, g4⟩ := goes_at l (n + 1)
      by_cases hc : l.getD n 0 = 59
      · rw [if_neg (by intro h; exact h.1 hc)] at h1
        rw [← h1]
        exact ⟨by simp, rnyB_all l _ n _ (goesOn (l.drop (n + 1))) _ rfl hx hl (by omega) hlen (by rw [hc]; rfl) (UInt8.toNat_lt _) rfl rfl (fun h => (g1 h).symm) (fun h h' => (g2 h h').symm) (fun h h' => (g3 h h').symm) g4 rfl⟩
      · have hcn := u8_ne (k := 59) (by decide) hc
        cases hg : goesOn (l.drop (n + 1)) with
        | false =>
          rw [hg] at g1 g2 g3 g4
          rw [if_neg (by intro h; rw [hg] at h; cases h.2)] at h1
          rw [← h1]
          exact ⟨by simp, rnyC_all l _ n _ false _ rfl hx hl (by omega) hlen hcn (UInt8.toNat_lt _) rfl rfl (fun h => (g1 h).symm) (fun h h' => (g2 h h').symm) (fun h h' => (g3 h h').symm) g4 rfl⟩
        | true =>
          rw [hg] at g1 g2 g3 g4
          rw [if_pos ⟨hc, hg⟩] at h1
          rw [← h1]
          exact ⟨by simp, rnyD_all l (namedF (l.take (n + 1))) n _ true _ rfl hx hl (by omega) hlen hcn (UInt8.toNat_lt _) rfl rfl (fun h => (g1 h).symm) (fun h h' => (g2 h h').symm) (fun h h' => (g3 h h').symm) g4 rfl⟩

/-- What it tells. -/
theorem endR_is (l : List UInt8) : ∀ n, (endR l n = (.exit 0, ⟨frame 57 [], []⟩) ∧ (byName l n).2 = 0) ∨ (endR l n = (.ret, rnN) ∧ (byName l n).2 = 0) ∨ (endR l n = (.ret, rnY (byName l n)) ∧ (byName l n).2 ≠ 0)
  | 0 => .inl ⟨rfl, rfl⟩
  | n + 1 => by
    rw [endR_cons, byName_cons]
    split
    · exact endR_is l n
    · split
      · exact .inr (.inl ⟨rfl, rfl⟩)
      · exact .inr (.inr ⟨rfl, by simp⟩)

noncomputable def rnLp (l : List UInt8) (n : Nat) (e : Exit) (R : St) : List (Nat × Lp) := [(2, ⟨lbody Tryd.prog 35 2, ⟨[], [0, 4], []⟩, rnS l n, e, R⟩)]

noncomputable def rnq0_X (l : List UInt8) (n : Nat) (x : List UInt8 × Nat) (h_ : List (Nat × Bool)) := outcome Tryd.prog 35 (aBody Tryd.prog clRy ⟨true, bs h_ ++ ([(10, ⟨.c (.int .i64 n), none⟩)])⟩ (lpBy (rnLp l n (.exit 0) ⟨frame 57 [], []⟩)) 60 35 ([.c (str l)]) ([]))

theorem rnq0_1 (l : List UInt8) (n : Nat) (x : List UInt8 × Nat) : rnq0_X l n x [] = some ((AV.tu [(AV.c ((str ([])))),
 (AV.c ((Value.int .i64 0)))]), [((if (15 : Int) < (↑l.length : Int) then (15 : Int) else (↑l.length : Int) : Int)) = ((↑n : Int)),
 ((lbody Tryd.prog (35 : FuncId) (2 : Nat) : Go.Code)) = (lbody Tryd.prog (35 : FuncId) (2 : Nat)),
 ((rnS l n : Go.Proofs.YtfnappdgiomiiaaDoor.St)) = (rnS l n)]) := by kernel_rfl

theorem rnq0_all (l : List UInt8) (n : Nat) (x : List UInt8 × Nat) (hn : n = min l.length 15) : ∃ (h : Hints) (p : List Prop), outcome Tryd.prog 35 (aBody Tryd.prog clRy h (lpBy (rnLp l n (.exit 0) ⟨frame 57 [], []⟩)) 60 35 ([.c (str l)]) ([])) = some (.tu [.c (str []), .c (.int .i64 0)], p) ∧ allP p := by
  have eR := rnq0_1 l n x
  refine ⟨_, _, eR.trans (congrArg (fun r => some (r, _)) ?_), ?_⟩
  · rfl
  · try clear eR
    simp only [allP, sb_mk]
    repeat' apply And.intro
    all_goals first | exact True.intro | omega | rfl | (show (if _ then _ else _ : Int) = _; split <;> omega)


noncomputable def rnq1_X (l : List UInt8) (n : Nat) (x : List UInt8 × Nat) (h_ : List (Nat × Bool)) := outcome Tryd.prog 35 (aBody Tryd.prog clRy ⟨true, bs h_ ++ ([(10, ⟨.c (.int .i64 n), none⟩)])⟩ (lpBy (rnLp l n .ret rnN)) 60 35 ([.c (str l)]) ([]))

theorem rnq1_1 (l : List UInt8) (n : Nat) (x : List UInt8 × Nat) : rnq1_X l n x [] = some ((AV.tu [(AV.c ((str ([])))),
 (AV.c ((Value.int .i64 0)))]), [((if (15 : Int) < (↑l.length : Int) then (15 : Int) else (↑l.length : Int) : Int)) = ((↑n : Int)),
 ((lbody Tryd.prog (35 : FuncId) (2 : Nat) : Go.Code)) = (lbody Tryd.prog (35 : FuncId) (2 : Nat)),
 ((rnS l n : Go.Proofs.YtfnappdgiomiiaaDoor.St)) = (rnS l n)]) := by kernel_rfl

theorem rnq1_all (l : List UInt8) (n : Nat) (x : List UInt8 × Nat) (hn : n = min l.length 15) : ∃ (h : Hints) (p : List Prop), outcome Tryd.prog 35 (aBody Tryd.prog clRy h (lpBy (rnLp l n .ret rnN)) 60 35 ([.c (str l)]) ([])) = some (.tu [.c (str []), .c (.int .i64 0)], p) ∧ allP p := by
  have eR := rnq1_1 l n x
  refine ⟨_, _, eR.trans (congrArg (fun r => some (r, _)) ?_), ?_⟩
  · rfl
  · try clear eR
    simp only [allP, sb_mk]
    repeat' apply And.intro
    all_goals first | exact True.intro | omega | rfl | (show (if _ then _ else _ : Int) = _; split <;> omega)


noncomputable def rnq2_X (l : List UInt8) (n : Nat) (x : List UInt8 × Nat) (h_ : List (Nat × Bool)) := outcome Tryd.prog 35 (aBody Tryd.prog clRy ⟨true, bs h_ ++ ([(10, ⟨.c (.int .i64 n), none⟩)])⟩ (lpBy (rnLp l n .ret (rnY x))) 60 35 ([.c (str l)]) ([]))

theorem rnq2_1 (l : List UInt8) (n : Nat) (x : List UInt8 × Nat) : rnq2_X l n x [] = some ((AV.tu [(AV.c ((str (x.fst)))),
 (AV.c ((Value.int .i64 ((↑x.snd : Int)))))]), [((if (15 : Int) < (↑l.length : Int) then (15 : Int) else (↑l.length : Int) : Int)) = ((↑n : Int)),
 ((lbody Tryd.prog (35 : FuncId) (2 : Nat) : Go.Code)) = (lbody Tryd.prog (35 : FuncId) (2 : Nat)),
 ((rnS l n : Go.Proofs.YtfnappdgiomiiaaDoor.St)) = (rnS l n)]) := by kernel_rfl

theorem rnq2_all (l : List UInt8) (n : Nat) (x : List UInt8 × Nat) (hn : n = min l.length 15) : ∃ (h : Hints) (p : List Prop), outcome Tryd.prog 35 (aBody Tryd.prog clRy h (lpBy (rnLp l n .ret (rnY x))) 60 35 ([.c (str l)]) ([])) = some (refT x, p) ∧ allP p := by
  have eR := rnq2_1 l n x
  refine ⟨_, _, eR.trans (congrArg (fun r => some (r, _)) ?_), ?_⟩
  · rfl
  · try clear eR
    simp only [allP, sb_mk]
    repeat' apply And.intro
    all_goals first | exact True.intro | omega | rfl | (show (if _ then _ else _ : Int) = _; split <;> omega)


def rnameSpec : Spec
  | [.c (.string s)] => some (rT (byName (sb s) (min (sb s).length 15)), [(sb s).length ≤ 9223372036854775790])
  | _ => none

theorem rname_ok : SpecOK Tryd.prog 35 rnameSpec := by
  refine spec_of mixed clRy_ok fun args r q hs hq => ?_
  unfold rnameSpec at hs
  split at hs
  · rename_i l
    simp only [Option.some.injEq, Prod.mk.injEq] at hs
    obtain ⟨rfl, rfl⟩ := hs
    obtain ⟨⟨⟨l⟩⟩, rfl⟩ : ∃ b : ByteArray, b = l := ⟨l, rfl⟩
    simp only [sb_mk, allP, and_true] at hq ⊢
    have hw := rn_walk l hq (min l.length 15) (by omega)
    rcases endR_is l (min l.length 15) with ⟨h1, h2⟩ | ⟨h1, h2⟩ | ⟨h1, h2⟩
    · rw [h1] at hw
      have e0 : rT (byName l (min l.length 15)) = .tu [.c (str []), .c (.int .i64 0)] := rT_zero h2
      rw [e0]
      obtain ⟨hh, q, e, hp⟩ := rnq0_all l _ ([], 0) rfl
      exact ⟨_, _, _, _, lpBy_cons lpBy_nil List.nodup_nil hw, e, hp⟩
    · rw [h1] at hw
      have e0 : rT (byName l (min l.length 15)) = .tu [.c (str []), .c (.int .i64 0)] := rT_zero h2
      rw [e0]
      obtain ⟨hh, q, e, hp⟩ := rnq1_all l _ ([], 0) rfl
      exact ⟨_, _, _, _, lpBy_cons lpBy_nil List.nodup_nil hw, e, hp⟩
    · rw [h1] at hw
      have e0 : rT (byName l (min l.length 15)) = refT (byName l (min l.length 15)) := rT_some h2
      rw [e0]
      obtain ⟨hh, q, e, hp⟩ := rnq2_all l _ (byName l (min l.length 15)) rfl
      exact ⟨_, _, _, _, lpBy_cons lpBy_nil List.nodup_nil hw, e, hp⟩
  · simp at hs

end Go.Proofs.YtfnappdgiomiiaaDoor
