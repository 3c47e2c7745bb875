/- The float's other ways: the document's own. -/
import Derived.Test.YtigglgobiofalaaNumD
namespace Go.Proofs.Ytigglgobiofalaa
open Go.RowKit Num
set_option linter.unusedVariables false
set_option linter.unusedSimpArgs false

theorem rfZt_1 (b d z : List UInt8) (k n : Nat) : outcome Try.prog 12 (aBody Try.prog clF ⟨true, bs [] ++ (bs [(35, true), (39, true), (45, true)] ++ [(25, ⟨.c (str b), none⟩), (27, ⟨.c (.int .i64 n), none⟩), (30, ⟨.c (str d), none⟩), (33, ⟨.c (str (46 :: z)), none⟩), (42, ⟨.c (str z), none⟩), (43, ⟨.c (.int .i64 k), none⟩)])⟩ (lpBy ([])) 60 12 ([.c (str (45 :: b))]) ([])) = some ((AV.tu [(AV.c ((Value.float .f64 0))),
 (AV.c ((Value.bool false)))]), [(((0 : Int) : Int) ≤ ((0 : Int))),
 (((0 : Int) : Int) < ((↑((45 : UInt8) :: b).length : Int))),
 (((0 : Int) : Int) ≤ ((1 : Int))),
 (((1 : Int) : Int) ≤ ((↑((45 : UInt8) :: b).length : Int))),
 (((↑((45 : UInt8) :: b).length : Int) : Int) ≤ ((↑((45 : UInt8) :: b).length : Int))),
 ((List.drop (Int.toNat (1 : Int)) (List.take ((45 : UInt8) :: b).length ((45 : UInt8) :: b)) : List UInt8)) = (b),
 ((b.length : Nat) ≤ ((1000000000 : Nat))),
 (((↑(ldD b) : Int) : Int)) = ((↑n : Int)),
 (((0 : Int) : Int) ≤ ((0 : Int))),
 (((0 : Int) : Int) ≤ ((↑n : Int))),
 (((↑n : Int) : Int) ≤ ((↑b.length : Int))),
 ((List.drop (Int.toNat (0 : Int)) (List.take n b) : List UInt8)) = (d),
 (((0 : Int) : Int) ≤ ((↑n : Int))),
 (((↑n : Int) : Int) ≤ ((↑b.length : Int))),
 (((↑b.length : Int) : Int) ≤ ((↑b.length : Int))),
 ((List.drop n (List.take b.length b) : List UInt8)) = ((46 : UInt8) :: z),
 ((true : Bool)) = (true),
 (((0 : Int) : Int) ≤ ((0 : Int))),
 (((0 : Int) : Int) < ((↑((46 : UInt8) :: z).length : Int))),
 ((true : Bool)) = (true),
 (((0 : Int) : Int) ≤ ((1 : Int))),
 (((1 : Int) : Int) ≤ ((↑((46 : UInt8) :: z).length : Int))),
 (((↑((46 : UInt8) :: z).length : Int) : Int) ≤ ((↑((46 : UInt8) :: z).length : Int))),
 ((List.drop (Int.toNat (1 : Int)) (List.take ((46 : UInt8) :: z).length ((46 : UInt8) :: z)) : List UInt8)) = (z),
 ((z.length : Nat) ≤ ((1000000000 : Nat))),
 (((↑(ldD z) : Int) : Int)) = ((↑k : Int)),
 (((↑k : Int) == (0 : Int) : Bool)) = (true)]) := by kernel_rfl

theorem rfZt_all (b d z : List UInt8) (k n : Nat) (hn : ldD b = n) (hd : List.take n b = d) (hz : List.drop n b = 46 :: z) (hk : ldD z = k) (hk0 : k = 0) (hl : b.length ≤ 999999980) (hnl : n ≤ b.length) (hzl : z.length < b.length) : ∃ (h : Hints) (p : List Prop), outcome Try.prog 12 (aBody Try.prog clF h (lpBy ([])) 60 12 ([.c (str (45 :: b))]) ([])) = some (.tu [.c (.float .f64 0), .c (.bool false)], p) ∧ allP p := by
  have eR := rfZt_1 b d z k n
  refine ⟨_, _, eR.trans (congrArg (fun r => some (r, _)) ?_), ?_⟩
  · rfl
  · simp only [allP, List.take_length, toNat0, toNat1, List.take_succ_cons, List.drop_succ_cons, List.drop_zero, sb_mk]
    simp only [List.length_cons, List.length_take, i64_min, i64_max, and_true, true_and, decide_eq_true_eq, decide_eq_false_iff_not, beq_eq_false_iff_ne, beq_iff_eq, bne_iff_ne, bne_eq_false_iff_eq, ne_eq]
    repeat' apply And.intro
    all_goals first | omega | exact hd | exact hz



theorem rfNt_1 (b d z : List UInt8) (c : UInt8) (v x e : Int) (n : Nat) (ok ox : Bool) : outcome Try.prog 12 (aBody Try.prog clF ⟨true, bs [(70, true)] ++ (bs [(35, true), (39, false)] ++ [(25, ⟨.c (str b), none⟩), (27, ⟨.c (.int .i64 n), none⟩), (30, ⟨.c (str d), none⟩), (33, ⟨.c (str (c :: z)), none⟩), (59, ⟨.c (.int .i64 v), none⟩), (60, ⟨.c (.bool ok), none⟩), (64, ⟨.c (.int .i64 x), none⟩), (65, ⟨.c (.bool ox), none⟩), (68, ⟨.c (.int .i64 e), none⟩)])⟩ (lpBy (rfLp true v e)) 60 12 ([.c (str (45 :: b))]) ([])) = some ((AV.tu [(AV.c ((Value.float .f64 0))),
 (AV.c ((Value.bool false)))]), [(((0 : Int) : Int) ≤ ((0 : Int))),
 (((0 : Int) : Int) < ((↑((45 : UInt8) :: b).length : Int))),
 (((0 : Int) : Int) ≤ ((1 : Int))),
 (((1 : Int) : Int) ≤ ((↑((45 : UInt8) :: b).length : Int))),
 (((↑((45 : UInt8) :: b).length : Int) : Int) ≤ ((↑((45 : UInt8) :: b).length : Int))),
 ((List.drop (Int.toNat (1 : Int)) (List.take ((45 : UInt8) :: b).length ((45 : UInt8) :: b)) : List UInt8)) = (b),
 ((b.length : Nat) ≤ ((1000000000 : Nat))),
 (((↑(ldD b) : Int) : Int)) = ((↑n : Int)),
 (((0 : Int) : Int) ≤ ((0 : Int))),
 (((0 : Int) : Int) ≤ ((↑n : Int))),
 (((↑n : Int) : Int) ≤ ((↑b.length : Int))),
 ((List.drop (Int.toNat (0 : Int)) (List.take n b) : List UInt8)) = (d),
 (((0 : Int) : Int) ≤ ((↑n : Int))),
 (((↑n : Int) : Int) ≤ ((↑b.length : Int))),
 (((↑b.length : Int) : Int) ≤ ((↑b.length : Int))),
 ((List.drop n (List.take b.length b) : List UInt8)) = (c :: z),
 ((true : Bool)) = (true),
 (((0 : Int) : Int) ≤ ((0 : Int))),
 (((0 : Int) : Int) < ((↑(c :: z).length : Int))),
 (((↑((c :: z).getD (Int.toNat (0 : Int)) (0 : UInt8)).toNat : Int) == (46 : Int) : Bool)) = (false),
 ((d.length : Nat) ≤ ((1000000000 : Nat))),
 (((↑(wV d) : Int) : Int)) = (v),
 ((wOK d : Bool)) = (ok),
 (((c :: z).length : Nat) ≤ ((999999990 : Nat))),
 (((expoF (sb { data := { toList := c :: z } })).getD (0 : Int) : Int)) = (x),
 (((expoF (sb { data := { toList := c :: z } })).isSome : Bool)) = (ox),
 ((IntKind.i64.min : Int) ≤ (x - (0 : Int))),
 ((x - (0 : Int) : Int) ≤ (IntKind.i64.max)),
 ((x - (0 : Int) : Int)) = (e),
 ((!ok : Bool)) = (true)]) := by kernel_rfl

theorem rfNt_2 (b d z : List UInt8) (c : UInt8) (v x e : Int) (n : Nat) (ok ox : Bool) : outcome Try.prog 12 (aBody Try.prog clF ⟨true, bs [(70, false), (73, true)] ++ (bs [(35, true), (39, false)] ++ [(25, ⟨.c (str b), none⟩), (27, ⟨.c (.int .i64 n), none⟩), (30, ⟨.c (str d), none⟩), (33, ⟨.c (str (c :: z)), none⟩), (59, ⟨.c (.int .i64 v), none⟩), (60, ⟨.c (.bool ok), none⟩), (64, ⟨.c (.int .i64 x), none⟩), (65, ⟨.c (.bool ox), none⟩), (68, ⟨.c (.int .i64 e), none⟩)])⟩ (lpBy (rfLp true v e)) 60 12 ([.c (str (45 :: b))]) ([])) = some ((AV.tu [(AV.c ((Value.float .f64 0))),
 (AV.c ((Value.bool false)))]), [(((0 : Int) : Int) ≤ ((0 : Int))),
 (((0 : Int) : Int) < ((↑((45 : UInt8) :: b).length : Int))),
 (((0 : Int) : Int) ≤ ((1 : Int))),
 (((1 : Int) : Int) ≤ ((↑((45 : UInt8) :: b).length : Int))),
 (((↑((45 : UInt8) :: b).length : Int) : Int) ≤ ((↑((45 : UInt8) :: b).length : Int))),
 ((List.drop (Int.toNat (1 : Int)) (List.take ((45 : UInt8) :: b).length ((45 : UInt8) :: b)) : List UInt8)) = (b),
 ((b.length : Nat) ≤ ((1000000000 : Nat))),
 (((↑(ldD b) : Int) : Int)) = ((↑n : Int)),
 (((0 : Int) : Int) ≤ ((0 : Int))),
 (((0 : Int) : Int) ≤ ((↑n : Int))),
 (((↑n : Int) : Int) ≤ ((↑b.length : Int))),
 ((List.drop (Int.toNat (0 : Int)) (List.take n b) : List UInt8)) = (d),
 (((0 : Int) : Int) ≤ ((↑n : Int))),
 (((↑n : Int) : Int) ≤ ((↑b.length : Int))),
 (((↑b.length : Int) : Int) ≤ ((↑b.length : Int))),
 ((List.drop n (List.take b.length b) : List UInt8)) = (c :: z),
 ((true : Bool)) = (true),
 (((0 : Int) : Int) ≤ ((0 : Int))),
 (((0 : Int) : Int) < ((↑(c :: z).length : Int))),
 (((↑((c :: z).getD (Int.toNat (0 : Int)) (0 : UInt8)).toNat : Int) == (46 : Int) : Bool)) = (false),
 ((d.length : Nat) ≤ ((1000000000 : Nat))),
 (((↑(wV d) : Int) : Int)) = (v),
 ((wOK d : Bool)) = (ok),
 (((c :: z).length : Nat) ≤ ((999999990 : Nat))),
 (((expoF (sb { data := { toList := c :: z } })).getD (0 : Int) : Int)) = (x),
 (((expoF (sb { data := { toList := c :: z } })).isSome : Bool)) = (ox),
 ((IntKind.i64.min : Int) ≤ (x - (0 : Int))),
 ((x - (0 : Int) : Int) ≤ (IntKind.i64.max)),
 ((x - (0 : Int) : Int)) = (e),
 ((!ok : Bool)) = (false),
 ((!ox : Bool)) = (true)]) := by kernel_rfl

theorem rfNt_3 (b d z : List UInt8) (c : UInt8) (v x e : Int) (n : Nat) (ok ox : Bool) : outcome Try.prog 12 (aBody Try.prog clF ⟨true, bs [(70, false), (73, false), (78, true)] ++ (bs [(35, true), (39, false)] ++ [(25, ⟨.c (str b), none⟩), (27, ⟨.c (.int .i64 n), none⟩), (30, ⟨.c (str d), none⟩), (33, ⟨.c (str (c :: z)), none⟩), (59, ⟨.c (.int .i64 v), none⟩), (60, ⟨.c (.bool ok), none⟩), (64, ⟨.c (.int .i64 x), none⟩), (65, ⟨.c (.bool ox), none⟩), (68, ⟨.c (.int .i64 e), none⟩)])⟩ (lpBy (rfLp true v e)) 60 12 ([.c (str (45 :: b))]) ([])) = some ((AV.tu [(AV.c ((Value.float .f64 0))),
 (AV.c ((Value.bool false)))]), [(((0 : Int) : Int) ≤ ((0 : Int))),
 (((0 : Int) : Int) < ((↑((45 : UInt8) :: b).length : Int))),
 (((0 : Int) : Int) ≤ ((1 : Int))),
 (((1 : Int) : Int) ≤ ((↑((45 : UInt8) :: b).length : Int))),
 (((↑((45 : UInt8) :: b).length : Int) : Int) ≤ ((↑((45 : UInt8) :: b).length : Int))),
 ((List.drop (Int.toNat (1 : Int)) (List.take ((45 : UInt8) :: b).length ((45 : UInt8) :: b)) : List UInt8)) = (b),
 ((b.length : Nat) ≤ ((1000000000 : Nat))),
 (((↑(ldD b) : Int) : Int)) = ((↑n : Int)),
 (((0 : Int) : Int) ≤ ((0 : Int))),
 (((0 : Int) : Int) ≤ ((↑n : Int))),
 (((↑n : Int) : Int) ≤ ((↑b.length : Int))),
 ((List.drop (Int.toNat (0 : Int)) (List.take n b) : List UInt8)) = (d),
 (((0 : Int) : Int) ≤ ((↑n : Int))),
 (((↑n : Int) : Int) ≤ ((↑b.length : Int))),
 (((↑b.length : Int) : Int) ≤ ((↑b.length : Int))),
 ((List.drop n (List.take b.length b) : List UInt8)) = (c :: z),
 ((true : Bool)) = (true),
 (((0 : Int) : Int) ≤ ((0 : Int))),
 (((0 : Int) : Int) < ((↑(c :: z).length : Int))),
 (((↑((c :: z).getD (Int.toNat (0 : Int)) (0 : UInt8)).toNat : Int) == (46 : Int) : Bool)) = (false),
 ((d.length : Nat) ≤ ((1000000000 : Nat))),
 (((↑(wV d) : Int) : Int)) = (v),
 ((wOK d : Bool)) = (ok),
 (((c :: z).length : Nat) ≤ ((999999990 : Nat))),
 (((expoF (sb { data := { toList := c :: z } })).getD (0 : Int) : Int)) = (x),
 (((expoF (sb { data := { toList := c :: z } })).isSome : Bool)) = (ox),
 ((IntKind.i64.min : Int) ≤ (x - (0 : Int))),
 ((x - (0 : Int) : Int) ≤ (IntKind.i64.max)),
 ((x - (0 : Int) : Int)) = (e),
 ((!ok : Bool)) = (false),
 ((!ox : Bool)) = (false),
 ((decide ((↑d.length : Int) > (15 : Int)) : Bool)) = (true)]) := by kernel_rfl

theorem rfNt_4 (b d z : List UInt8) (c : UInt8) (v x e : Int) (n : Nat) (ok ox : Bool) : outcome Try.prog 12 (aBody Try.prog clF ⟨true, bs [(70, false), (73, false), (78, false), (82, true)] ++ (bs [(35, true), (39, false)] ++ [(25, ⟨.c (str b), none⟩), (27, ⟨.c (.int .i64 n), none⟩), (30, ⟨.c (str d), none⟩), (33, ⟨.c (str (c :: z)), none⟩), (59, ⟨.c (.int .i64 v), none⟩), (60, ⟨.c (.bool ok), none⟩), (64, ⟨.c (.int .i64 x), none⟩), (65, ⟨.c (.bool ox), none⟩), (68, ⟨.c (.int .i64 e), none⟩)])⟩ (lpBy (rfLp true v e)) 60 12 ([.c (str (45 :: b))]) ([])) = some ((AV.tu [(AV.c ((Value.float .f64 0))),
 (AV.c ((Value.bool false)))]), [(((0 : Int) : Int) ≤ ((0 : Int))),
 (((0 : Int) : Int) < ((↑((45 : UInt8) :: b).length : Int))),
 (((0 : Int) : Int) ≤ ((1 : Int))),
 (((1 : Int) : Int) ≤ ((↑((45 : UInt8) :: b).length : Int))),
 (((↑((45 : UInt8) :: b).length : Int) : Int) ≤ ((↑((45 : UInt8) :: b).length : Int))),
 ((List.drop (Int.toNat (1 : Int)) (List.take ((45 : UInt8) :: b).length ((45 : UInt8) :: b)) : List UInt8)) = (b),
 ((b.length : Nat) ≤ ((1000000000 : Nat))),
 (((↑(ldD b) : Int) : Int)) = ((↑n : Int)),
 (((0 : Int) : Int) ≤ ((0 : Int))),
 (((0 : Int) : Int) ≤ ((↑n : Int))),
 (((↑n : Int) : Int) ≤ ((↑b.length : Int))),
 ((List.drop (Int.toNat (0 : Int)) (List.take n b) : List UInt8)) = (d),
 (((0 : Int) : Int) ≤ ((↑n : Int))),
 (((↑n : Int) : Int) ≤ ((↑b.length : Int))),
 (((↑b.length : Int) : Int) ≤ ((↑b.length : Int))),
 ((List.drop n (List.take b.length b) : List UInt8)) = (c :: z),
 ((true : Bool)) = (true),
 (((0 : Int) : Int) ≤ ((0 : Int))),
 (((0 : Int) : Int) < ((↑(c :: z).length : Int))),
 (((↑((c :: z).getD (Int.toNat (0 : Int)) (0 : UInt8)).toNat : Int) == (46 : Int) : Bool)) = (false),
 ((d.length : Nat) ≤ ((1000000000 : Nat))),
 (((↑(wV d) : Int) : Int)) = (v),
 ((wOK d : Bool)) = (ok),
 (((c :: z).length : Nat) ≤ ((999999990 : Nat))),
 (((expoF (sb { data := { toList := c :: z } })).getD (0 : Int) : Int)) = (x),
 (((expoF (sb { data := { toList := c :: z } })).isSome : Bool)) = (ox),
 ((IntKind.i64.min : Int) ≤ (x - (0 : Int))),
 ((x - (0 : Int) : Int) ≤ (IntKind.i64.max)),
 ((x - (0 : Int) : Int)) = (e),
 ((!ok : Bool)) = (false),
 ((!ox : Bool)) = (false),
 ((decide ((↑d.length : Int) > (15 : Int)) : Bool)) = (false),
 ((decide (e < (-22 : Int)) : Bool)) = (true)]) := by kernel_rfl

theorem rfNt_5 (b d z : List UInt8) (c : UInt8) (v x e : Int) (n : Nat) (ok ox : Bool) : outcome Try.prog 12 (aBody Try.prog clF ⟨true, bs [(70, false), (73, false), (78, false), (82, false), (86, true)] ++ (bs [(35, true), (39, false)] ++ [(25, ⟨.c (str b), none⟩), (27, ⟨.c (.int .i64 n), none⟩), (30, ⟨.c (str d), none⟩), (33, ⟨.c (str (c :: z)), none⟩), (59, ⟨.c (.int .i64 v), none⟩), (60, ⟨.c (.bool ok), none⟩), (64, ⟨.c (.int .i64 x), none⟩), (65, ⟨.c (.bool ox), none⟩), (68, ⟨.c (.int .i64 e), none⟩)])⟩ (lpBy (rfLp true v e)) 60 12 ([.c (str (45 :: b))]) ([])) = some ((AV.tu [(AV.c ((Value.float .f64 0))),
 (AV.c ((Value.bool false)))]), [(((0 : Int) : Int) ≤ ((0 : Int))),
 (((0 : Int) : Int) < ((↑((45 : UInt8) :: b).length : Int))),
 (((0 : Int) : Int) ≤ ((1 : Int))),
 (((1 : Int) : Int) ≤ ((↑((45 : UInt8) :: b).length : Int))),
 (((↑((45 : UInt8) :: b).length : Int) : Int) ≤ ((↑((45 : UInt8) :: b).length : Int))),
 ((List.drop (Int.toNat (1 : Int)) (List.take ((45 : UInt8) :: b).length ((45 : UInt8) :: b)) : List UInt8)) = (b),
 ((b.length : Nat) ≤ ((1000000000 : Nat))),
 (((↑(ldD b) : Int) : Int)) = ((↑n : Int)),
 (((0 : Int) : Int) ≤ ((0 : Int))),
 (((0 : Int) : Int) ≤ ((↑n : Int))),
 (((↑n : Int) : Int) ≤ ((↑b.length : Int))),
 ((List.drop (Int.toNat (0 : Int)) (List.take n b) : List UInt8)) = (d),
 (((0 : Int) : Int) ≤ ((↑n : Int))),
 (((↑n : Int) : Int) ≤ ((↑b.length : Int))),
 (((↑b.length : Int) : Int) ≤ ((↑b.length : Int))),
 ((List.drop n (List.take b.length b) : List UInt8)) = (c :: z),
 ((true : Bool)) = (true),
 (((0 : Int) : Int) ≤ ((0 : Int))),
 (((0 : Int) : Int) < ((↑(c :: z).length : Int))),
 (((↑((c :: z).getD (Int.toNat (0 : Int)) (0 : UInt8)).toNat : Int) == (46 : Int) : Bool)) = (false),
 ((d.length : Nat) ≤ ((1000000000 : Nat))),
 (((↑(wV d) : Int) : Int)) = (v),
 ((wOK d : Bool)) = (ok),
 (((c :: z).length : Nat) ≤ ((999999990 : Nat))),
 (((expoF (sb { data := { toList := c :: z } })).getD (0 : Int) : Int)) = (x),
 (((expoF (sb { data := { toList := c :: z } })).isSome : Bool)) = (ox),
 ((IntKind.i64.min : Int) ≤ (x - (0 : Int))),
 ((x - (0 : Int) : Int) ≤ (IntKind.i64.max)),
 ((x - (0 : Int) : Int)) = (e),
 ((!ok : Bool)) = (false),
 ((!ox : Bool)) = (false),
 ((decide ((↑d.length : Int) > (15 : Int)) : Bool)) = (false),
 ((decide (e < (-22 : Int)) : Bool)) = (false),
 ((decide (e > (22 : Int)) : Bool)) = (true)]) := by kernel_rfl

theorem rfNt_6 (b d z : List UInt8) (c : UInt8) (v x e : Int) (n : Nat) (ok ox : Bool) : outcome Try.prog 12 (aBody Try.prog clF ⟨true, bs [(70, false), (73, false), (78, false), (82, false), (86, false), (104, true), (114, true)] ++ (bs [(35, true), (39, false)] ++ [(25, ⟨.c (str b), none⟩), (27, ⟨.c (.int .i64 n), none⟩), (30, ⟨.c (str d), none⟩), (33, ⟨.c (str (c :: z)), none⟩), (59, ⟨.c (.int .i64 v), none⟩), (60, ⟨.c (.bool ok), none⟩), (64, ⟨.c (.int .i64 x), none⟩), (65, ⟨.c (.bool ox), none⟩), (68, ⟨.c (.int .i64 e), none⟩)])⟩ (lpBy (rfLp true v e)) 60 12 ([.c (str (45 :: b))]) ([])) = some ((AV.tu [(AV.c ((Value.float .f64 (Op.negFloat FloatKind.f64
  ((floatBits BinOp.quo FloatKind.f64 (floatOfInt FloatKind.f64 v) (pwB e.natAbs)).getD (0 : Nat)))))),
 (AV.c ((Value.bool true)))]), [(((0 : Int) : Int) ≤ ((0 : Int))),
 (((0 : Int) : Int) < ((↑((45 : UInt8) :: b).length : Int))),
 (((0 : Int) : Int) ≤ ((1 : Int))),
 (((1 : Int) : Int) ≤ ((↑((45 : UInt8) :: b).length : Int))),
 (((↑((45 : UInt8) :: b).length : Int) : Int) ≤ ((↑((45 : UInt8) :: b).length : Int))),
 ((List.drop (Int.toNat (1 : Int)) (List.take ((45 : UInt8) :: b).length ((45 : UInt8) :: b)) : List UInt8)) = (b),
 ((b.length : Nat) ≤ ((1000000000 : Nat))),
 (((↑(ldD b) : Int) : Int)) = ((↑n : Int)),
 (((0 : Int) : Int) ≤ ((0 : Int))),
 (((0 : Int) : Int) ≤ ((↑n : Int))),
 (((↑n : Int) : Int) ≤ ((↑b.length : Int))),
 ((List.drop (Int.toNat (0 : Int)) (List.take n b) : List UInt8)) = (d),
 (((0 : Int) : Int) ≤ ((↑n : Int))),
 (((↑n : Int) : Int) ≤ ((↑b.length : Int))),
 (((↑b.length : Int) : Int) ≤ ((↑b.length : Int))),
 ((List.drop n (List.take b.length b) : List UInt8)) = (c :: z),
 ((true : Bool)) = (true),
 (((0 : Int) : Int) ≤ ((0 : Int))),
 (((0 : Int) : Int) < ((↑(c :: z).length : Int))),
 (((↑((c :: z).getD (Int.toNat (0 : Int)) (0 : UInt8)).toNat : Int) == (46 : Int) : Bool)) = (false),
 ((d.length : Nat) ≤ ((1000000000 : Nat))),
 (((↑(wV d) : Int) : Int)) = (v),
 ((wOK d : Bool)) = (ok),
 (((c :: z).length : Nat) ≤ ((999999990 : Nat))),
 (((expoF (sb { data := { toList := c :: z } })).getD (0 : Int) : Int)) = (x),
 (((expoF (sb { data := { toList := c :: z } })).isSome : Bool)) = (ox),
 ((IntKind.i64.min : Int) ≤ (x - (0 : Int))),
 ((x - (0 : Int) : Int) ≤ (IntKind.i64.max)),
 ((x - (0 : Int) : Int)) = (e),
 ((!ok : Bool)) = (false),
 ((!ox : Bool)) = (false),
 ((decide ((↑d.length : Int) > (15 : Int)) : Bool)) = (false),
 ((decide (e < (-22 : Int)) : Bool)) = (false),
 ((decide (e > (22 : Int)) : Bool)) = (false),
 ((lbody Try.prog (12 : FuncId) (21 : Nat) : Go.Code)) = (lbody Try.prog (12 : FuncId) (21 : Nat)),
 ((pwS true v e (4607182418800017408 : Nat) (0 : Nat) : Go.Proofs.Ytigglgobiofalaa.St)) = (pwS true v e (4607182418800017408 : Nat) (0 : Nat)),
 ((decide (e < (0 : Int)) : Bool)) = (true),
 (((floatBits BinOp.quo FloatKind.f64 (floatOfInt FloatKind.f64 v) (pwB e.natAbs)).isSome : Bool)) = (true),
 ((v != (0 : Int) : Bool)) = (true)]) := by kernel_rfl

theorem rfNt_7 (b d z : List UInt8) (c : UInt8) (v x e : Int) (n : Nat) (ok ox : Bool) : outcome Try.prog 12 (aBody Try.prog clF ⟨true, bs [(70, false), (73, false), (78, false), (82, false), (86, false), (104, true), (114, false)] ++ (bs [(35, true), (39, false)] ++ [(25, ⟨.c (str b), none⟩), (27, ⟨.c (.int .i64 n), none⟩), (30, ⟨.c (str d), none⟩), (33, ⟨.c (str (c :: z)), none⟩), (59, ⟨.c (.int .i64 v), none⟩), (60, ⟨.c (.bool ok), none⟩), (64, ⟨.c (.int .i64 x), none⟩), (65, ⟨.c (.bool ox), none⟩), (68, ⟨.c (.int .i64 e), none⟩)])⟩ (lpBy (rfLp true v e)) 60 12 ([.c (str (45 :: b))]) ([])) = some ((AV.tu [(AV.c ((Value.float .f64 ((floatBits BinOp.quo FloatKind.f64 (floatOfInt FloatKind.f64 v) (pwB e.natAbs)).getD (0 : Nat))))),
 (AV.c ((Value.bool true)))]), [(((0 : Int) : Int) ≤ ((0 : Int))),
 (((0 : Int) : Int) < ((↑((45 : UInt8) :: b).length : Int))),
 (((0 : Int) : Int) ≤ ((1 : Int))),
 (((1 : Int) : Int) ≤ ((↑((45 : UInt8) :: b).length : Int))),
 (((↑((45 : UInt8) :: b).length : Int) : Int) ≤ ((↑((45 : UInt8) :: b).length : Int))),
 ((List.drop (Int.toNat (1 : Int)) (List.take ((45 : UInt8) :: b).length ((45 : UInt8) :: b)) : List UInt8)) = (b),
 ((b.length : Nat) ≤ ((1000000000 : Nat))),
 (((↑(ldD b) : Int) : Int)) = ((↑n : Int)),
 (((0 : Int) : Int) ≤ ((0 : Int))),
 (((0 : Int) : Int) ≤ ((↑n : Int))),
 (((↑n : Int) : Int) ≤ ((↑b.length : Int))),
 ((List.drop (Int.toNat (0 : Int)) (List.take n b) : List UInt8)) = (d),
 (((0 : Int) : Int) ≤ ((↑n : Int))),
 (((↑n : Int) : Int) ≤ ((↑b.length : Int))),
 (((↑b.length : Int) : Int) ≤ ((↑b.length : Int))),
 ((List.drop n (List.take b.length b) : List UInt8)) = (c :: z),
 ((true : Bool)) = (true),
 (((0 : Int) : Int) ≤ ((0 : Int))),
 (((0 : Int) : Int) < ((↑(c :: z).length : Int))),
 (((↑((c :: z).getD (Int.toNat (0 : Int)) (0 : UInt8)).toNat : Int) == (46 : Int) : Bool)) = (false),
 ((d.length : Nat) ≤ ((1000000000 : Nat))),
 (((↑(wV d) : Int) : Int)) = (v),
 ((wOK d : Bool)) = (ok),
 (((c :: z).length : Nat) ≤ ((999999990 : Nat))),
 (((expoF (sb { data := { toList := c :: z } })).getD (0 : Int) : Int)) = (x),
 (((expoF (sb { data := { toList := c :: z } })).isSome : Bool)) = (ox),
 ((IntKind.i64.min : Int) ≤ (x - (0 : Int))),
 ((x - (0 : Int) : Int) ≤ (IntKind.i64.max)),
 ((x - (0 : Int) : Int)) = (e),
 ((!ok : Bool)) = (false),
 ((!ox : Bool)) = (false),
 ((decide ((↑d.length : Int) > (15 : Int)) : Bool)) = (false),
 ((decide (e < (-22 : Int)) : Bool)) = (false),
 ((decide (e > (22 : Int)) : Bool)) = (false),
 ((lbody Try.prog (12 : FuncId) (21 : Nat) : Go.Code)) = (lbody Try.prog (12 : FuncId) (21 : Nat)),
 ((pwS true v e (4607182418800017408 : Nat) (0 : Nat) : Go.Proofs.Ytigglgobiofalaa.St)) = (pwS true v e (4607182418800017408 : Nat) (0 : Nat)),
 ((decide (e < (0 : Int)) : Bool)) = (true),
 (((floatBits BinOp.quo FloatKind.f64 (floatOfInt FloatKind.f64 v) (pwB e.natAbs)).isSome : Bool)) = (true),
 ((v != (0 : Int) : Bool)) = (false)]) := by kernel_rfl

theorem rfNt_8 (b d z : List UInt8) (c : UInt8) (v x e : Int) (n : Nat) (ok ox : Bool) : outcome Try.prog 12 (aBody Try.prog clF ⟨true, bs [(70, false), (73, false), (78, false), (82, false), (86, false), (104, false), (114, true)] ++ (bs [(35, true), (39, false)] ++ [(25, ⟨.c (str b), none⟩), (27, ⟨.c (.int .i64 n), none⟩), (30, ⟨.c (str d), none⟩), (33, ⟨.c (str (c :: z)), none⟩), (59, ⟨.c (.int .i64 v), none⟩), (60, ⟨.c (.bool ok), none⟩), (64, ⟨.c (.int .i64 x), none⟩), (65, ⟨.c (.bool ox), none⟩), (68, ⟨.c (.int .i64 e), none⟩)])⟩ (lpBy (rfLp true v e)) 60 12 ([.c (str (45 :: b))]) ([])) = some ((AV.tu [(AV.c ((Value.float .f64 (Op.negFloat FloatKind.f64
  ((floatBits BinOp.mul FloatKind.f64 (floatOfInt FloatKind.f64 v) (pwB e.natAbs)).getD (0 : Nat)))))),
 (AV.c ((Value.bool true)))]), [(((0 : Int) : Int) ≤ ((0 : Int))),
 (((0 : Int) : Int) < ((↑((45 : UInt8) :: b).length : Int))),
 (((0 : Int) : Int) ≤ ((1 : Int))),
 (((1 : Int) : Int) ≤ ((↑((45 : UInt8) :: b).length : Int))),
 (((↑((45 : UInt8) :: b).length : Int) : Int) ≤ ((↑((45 : UInt8) :: b).length : Int))),
 ((List.drop (Int.toNat (1 : Int)) (List.take ((45 : UInt8) :: b).length ((45 : UInt8) :: b)) : List UInt8)) = (b),
 ((b.length : Nat) ≤ ((1000000000 : Nat))),
 (((↑(ldD b) : Int) : Int)) = ((↑n : Int)),
 (((0 : Int) : Int) ≤ ((0 : Int))),
 (((0 : Int) : Int) ≤ ((↑n : Int))),
 (((↑n : Int) : Int) ≤ ((↑b.length : Int))),
 ((List.drop (Int.toNat (0 : Int)) (List.take n b) : List UInt8)) = (d),
 (((0 : Int) : Int) ≤ ((↑n : Int))),
 (((↑n : Int) : Int) ≤ ((↑b.length : Int))),
 (((↑b.length : Int) : Int) ≤ ((↑b.length : Int))),
 ((List.drop n (List.take b.length b) : List UInt8)) = (c :: z),
 ((true : Bool)) = (true),
 (((0 : Int) : Int) ≤ ((0 : Int))),
 (((0 : Int) : Int) < ((↑(c :: z).length : Int))),
 (((↑((c :: z).getD (Int.toNat (0 : Int)) (0 : UInt8)).toNat : Int) == (46 : Int) : Bool)) = (false),
 ((d.length : Nat) ≤ ((1000000000 : Nat))),
 (((↑(wV d) : Int) : Int)) = (v),
 ((wOK d : Bool)) = (ok),
 (((c :: z).length : Nat) ≤ ((999999990 : Nat))),
 (((expoF (sb { data := { toList := c :: z } })).getD (0 : Int) : Int)) = (x),
 (((expoF (sb { data := { toList := c :: z } })).isSome : Bool)) = (ox),
 ((IntKind.i64.min : Int) ≤ (x - (0 : Int))),
 ((x - (0 : Int) : Int) ≤ (IntKind.i64.max)),
 ((x - (0 : Int) : Int)) = (e),
 ((!ok : Bool)) = (false),
 ((!ox : Bool)) = (false),
 ((decide ((↑d.length : Int) > (15 : Int)) : Bool)) = (false),
 ((decide (e < (-22 : Int)) : Bool)) = (false),
 ((decide (e > (22 : Int)) : Bool)) = (false),
 ((lbody Try.prog (12 : FuncId) (21 : Nat) : Go.Code)) = (lbody Try.prog (12 : FuncId) (21 : Nat)),
 ((pwS true v e (4607182418800017408 : Nat) (0 : Nat) : Go.Proofs.Ytigglgobiofalaa.St)) = (pwS true v e (4607182418800017408 : Nat) (0 : Nat)),
 ((decide (e < (0 : Int)) : Bool)) = (false),
 (((floatBits BinOp.mul FloatKind.f64 (floatOfInt FloatKind.f64 v) (pwB e.natAbs)).isSome : Bool)) = (true),
 ((v != (0 : Int) : Bool)) = (true)]) := by kernel_rfl

theorem rfNt_9 (b d z : List UInt8) (c : UInt8) (v x e : Int) (n : Nat) (ok ox : Bool) : outcome Try.prog 12 (aBody Try.prog clF ⟨true, bs [(70, false), (73, false), (78, false), (82, false), (86, false), (104, false), (114, false)] ++ (bs [(35, true), (39, false)] ++ [(25, ⟨.c (str b), none⟩), (27, ⟨.c (.int .i64 n), none⟩), (30, ⟨.c (str d), none⟩), (33, ⟨.c (str (c :: z)), none⟩), (59, ⟨.c (.int .i64 v), none⟩), (60, ⟨.c (.bool ok), none⟩), (64, ⟨.c (.int .i64 x), none⟩), (65, ⟨.c (.bool ox), none⟩), (68, ⟨.c (.int .i64 e), none⟩)])⟩ (lpBy (rfLp true v e)) 60 12 ([.c (str (45 :: b))]) ([])) = some ((AV.tu [(AV.c ((Value.float .f64 ((floatBits BinOp.mul FloatKind.f64 (floatOfInt FloatKind.f64 v) (pwB e.natAbs)).getD (0 : Nat))))),
 (AV.c ((Value.bool true)))]), [(((0 : Int) : Int) ≤ ((0 : Int))),
 (((0 : Int) : Int) < ((↑((45 : UInt8) :: b).length : Int))),
 (((0 : Int) : Int) ≤ ((1 : Int))),
 (((1 : Int) : Int) ≤ ((↑((45 : UInt8) :: b).length : Int))),
 (((↑((45 : UInt8) :: b).length : Int) : Int) ≤ ((↑((45 : UInt8) :: b).length : Int))),
 ((List.drop (Int.toNat (1 : Int)) (List.take ((45 : UInt8) :: b).length ((45 : UInt8) :: b)) : List UInt8)) = (b),
 ((b.length : Nat) ≤ ((1000000000 : Nat))),
 (((↑(ldD b) : Int) : Int)) = ((↑n : Int)),
 (((0 : Int) : Int) ≤ ((0 : Int))),
 (((0 : Int) : Int) ≤ ((↑n : Int))),
 (((↑n : Int) : Int) ≤ ((↑b.length : Int))),
 ((List.drop (Int.toNat (0 : Int)) (List.take n b) : List UInt8)) = (d),
 (((0 : Int) : Int) ≤ ((↑n : Int))),
 (((↑n : Int) : Int) ≤ ((↑b.length : Int))),
 (((↑b.length : Int) : Int) ≤ ((↑b.length : Int))),
 ((List.drop n (List.take b.length b) : List UInt8)) = (c :: z),
 ((true : Bool)) = (true),
 (((0 : Int) : Int) ≤ ((0 : Int))),
 (((0 : Int) : Int) < ((↑(c :: z).length : Int))),
 (((↑((c :: z).getD (Int.toNat (0 : Int)) (0 : UInt8)).toNat : Int) == (46 : Int) : Bool)) = (false),
 ((d.length : Nat) ≤ ((1000000000 : Nat))),
 (((↑(wV d) : Int) : Int)) = (v),
 ((wOK d : Bool)) = (ok),
 (((c :: z).length : Nat) ≤ ((999999990 : Nat))),
 (((expoF (sb { data := { toList := c :: z } })).getD (0 : Int) : Int)) = (x),
 (((expoF (sb { data := { toList := c :: z } })).isSome : Bool)) = (ox),
 ((IntKind.i64.min : Int) ≤ (x - (0 : Int))),
 ((x - (0 : Int) : Int) ≤ (IntKind.i64.max)),
 ((x - (0 : Int) : Int)) = (e),
 ((!ok : Bool)) = (false),
 ((!ox : Bool)) = (false),
 ((decide ((↑d.length : Int) > (15 : Int)) : Bool)) = (false),
 ((decide (e < (-22 : Int)) : Bool)) = (false),
 ((decide (e > (22 : Int)) : Bool)) = (false),
 ((lbody Try.prog (12 : FuncId) (21 : Nat) : Go.Code)) = (lbody Try.prog (12 : FuncId) (21 : Nat)),
 ((pwS true v e (4607182418800017408 : Nat) (0 : Nat) : Go.Proofs.Ytigglgobiofalaa.St)) = (pwS true v e (4607182418800017408 : Nat) (0 : Nat)),
 ((decide (e < (0 : Int)) : Bool)) = (false),
 (((floatBits BinOp.mul FloatKind.f64 (floatOfInt FloatKind.f64 v) (pwB e.natAbs)).isSome : Bool)) = (true),
 ((v != (0 : Int) : Bool)) = (false)]) := by kernel_rfl

theorem rfNt_all (b d z : List UInt8) (c : UInt8) (v x e : Int) (n : Nat) (ok ox : Bool) (hn : ldD b = n) (hd : List.take n b = d) (hz : List.drop n b = c :: z) (hv : (wV d : Int) = v) (hok : wOK d = ok) (hx : (expoF (c :: z)).getD 0 = x) (hox : (expoF (c :: z)).isSome = ox) (he : x - 0 = e) (hl : b.length ≤ 999999980) (hnl : n ≤ b.length) (hal : d.length ≤ b.length) (hwl : z.length < b.length) (hx1 : -9999 ≤ x) (hx2 : x ≤ 9999) (hs : wOKs v e) (hc : ¬ (c.toNat : Int) = 46) : ∃ (h : Hints) (p : List Prop), outcome Try.prog 12 (aBody Try.prog clF h (lpBy (rfLp true v e)) 60 12 ([.c (str (45 :: b))]) ([])) = some (fltG true ok ox d.length v e, p) ∧ allP p := by
  cases hc70 : (!ok : Bool) with
  | true =>
    have eR := rfNt_1 b d z c v x e n ok ox
    refine ⟨_, _, eR.trans (congrArg (fun r => some (r, _)) ?_), ?_⟩
    · try clear eR
      unfold fltG wordF
      try simp only [decide_eq_true_eq, decide_eq_false_iff_not] at hc78
      try simp only [decide_eq_true_eq, decide_eq_false_iff_not] at hc82
      try simp only [decide_eq_true_eq, decide_eq_false_iff_not] at hc86
      try simp only [decide_eq_true_eq, decide_eq_false_iff_not] at hc104
      try simp only [bne_iff_ne, bne_eq_false_iff_eq, ne_eq] at hc114
      first
        | rw [if_neg (by rintro ⟨a1, a2, a3, a4, a5⟩; omega)]
        | rw [if_neg (by rintro ⟨a1, a2, a3, a4, a5⟩; rw [a1] at hc70; exact absurd hc70 (by decide))]
        | rw [if_neg (by rintro ⟨a1, a2, a3, a4, a5⟩; rw [a2] at hc73; exact absurd hc73 (by decide))]
        | (rw [if_pos ⟨by simpa using hc70, by simpa using hc73, by omega, by omega, by omega⟩]
           first
             | simp only [hc104, hc114, if_true, if_false, Bool.false_eq_true, false_and, true_and, ne_eq, not_true_eq_false, not_false_eq_true]
             | simp only [hc104, if_true, if_false, Bool.false_eq_true, false_and, true_and])
    · try simp only [decide_eq_true_eq, decide_eq_false_iff_not] at hc78
      try simp only [decide_eq_true_eq, decide_eq_false_iff_not] at hc82
      try simp only [decide_eq_true_eq, decide_eq_false_iff_not] at hc86
      try simp only [decide_eq_true_eq, decide_eq_false_iff_not] at hc104
      simp only [allP, List.take_length, toNat0, toNat1, List.take_succ_cons, List.drop_succ_cons, List.drop_zero, sb_mk]
      simp only [List.length_cons, List.length_take, i64_min, i64_max, and_true, true_and, decide_eq_true_eq, decide_eq_false_iff_not, beq_eq_false_iff_ne, bne_iff_ne, bne_eq_false_iff_eq, ne_eq]
      repeat' apply And.intro
      all_goals first | omega | exact hd | exact hz | exact hok | exact hox | exact hx | exact hc70 | exact hc73 | exact (hs (by omega) (by omega)).1 hc104 | exact (hs (by omega) (by omega)).2 hc104 | exact hc | (simpa using hc114)
  | false =>
    cases hc73 : (!ox : Bool) with
    | true =>
      have eR := rfNt_2 b d z c v x e n ok ox
      refine ⟨_, _, eR.trans (congrArg (fun r => some (r, _)) ?_), ?_⟩
      · try clear eR
        unfold fltG wordF
        try simp only [decide_eq_true_eq, decide_eq_false_iff_not] at hc78
        try simp only [decide_eq_true_eq, decide_eq_false_iff_not] at hc82
        try simp only [decide_eq_true_eq, decide_eq_false_iff_not] at hc86
        try simp only [decide_eq_true_eq, decide_eq_false_iff_not] at hc104
        try simp only [bne_iff_ne, bne_eq_false_iff_eq, ne_eq] at hc114
        first
          | rw [if_neg (by rintro ⟨a1, a2, a3, a4, a5⟩; omega)]
          | rw [if_neg (by rintro ⟨a1, a2, a3, a4, a5⟩; rw [a1] at hc70; exact absurd hc70 (by decide))]
          | rw [if_neg (by rintro ⟨a1, a2, a3, a4, a5⟩; rw [a2] at hc73; exact absurd hc73 (by decide))]
          | (rw [if_pos ⟨by simpa using hc70, by simpa using hc73, by omega, by omega, by omega⟩]
             first
               | simp only [hc104, hc114, if_true, if_false, Bool.false_eq_true, false_and, true_and, ne_eq, not_true_eq_false, not_false_eq_true]
               | simp only [hc104, if_true, if_false, Bool.false_eq_true, false_and, true_and])
      · try simp only [decide_eq_true_eq, decide_eq_false_iff_not] at hc78
        try simp only [decide_eq_true_eq, decide_eq_false_iff_not] at hc82
        try simp only [decide_eq_true_eq, decide_eq_false_iff_not] at hc86
        try simp only [decide_eq_true_eq, decide_eq_false_iff_not] at hc104
        simp only [allP, List.take_length, toNat0, toNat1, List.take_succ_cons, List.drop_succ_cons, List.drop_zero, sb_mk]
        simp only [List.length_cons, List.length_take, i64_min, i64_max, and_true, true_and, decide_eq_true_eq, decide_eq_false_iff_not, beq_eq_false_iff_ne, bne_iff_ne, bne_eq_false_iff_eq, ne_eq]
        repeat' apply And.intro
        all_goals first | omega | exact hd | exact hz | exact hok | exact hox | exact hx | exact hc70 | exact hc73 | exact (hs (by omega) (by omega)).1 hc104 | exact (hs (by omega) (by omega)).2 hc104 | exact hc | (simpa using hc114)
    | false =>
      cases hc78 : (decide ((↑d.length : Int) > (15 : Int)) : Bool) with
      | true =>
        have eR := rfNt_3 b d z c v x e n ok ox
        refine ⟨_, _, eR.trans (congrArg (fun r => some (r, _)) ?_), ?_⟩
        · try clear eR
          unfold fltG wordF
          try simp only [decide_eq_true_eq, decide_eq_false_iff_not] at hc78
          try simp only [decide_eq_true_eq, decide_eq_false_iff_not] at hc82
          try simp only [decide_eq_true_eq, decide_eq_false_iff_not] at hc86
          try simp only [decide_eq_true_eq, decide_eq_false_iff_not] at hc104
          try simp only [bne_iff_ne, bne_eq_false_iff_eq, ne_eq] at hc114
          first
            | rw [if_neg (by rintro ⟨a1, a2, a3, a4, a5⟩; omega)]
            | rw [if_neg (by rintro ⟨a1, a2, a3, a4, a5⟩; rw [a1] at hc70; exact absurd hc70 (by decide))]
            | rw [if_neg (by rintro ⟨a1, a2, a3, a4, a5⟩; rw [a2] at hc73; exact absurd hc73 (by decide))]
            | (rw [if_pos ⟨by simpa using hc70, by simpa using hc73, by omega, by omega, by omega⟩]
               first
                 | simp only [hc104, hc114, if_true, if_false, Bool.false_eq_true, false_and, true_and, ne_eq, not_true_eq_false, not_false_eq_true]
                 | simp only [hc104, if_true, if_false, Bool.false_eq_true, false_and, true_and])
        · try simp only [decide_eq_true_eq, decide_eq_false_iff_not] at hc78
          try simp only [decide_eq_true_eq, decide_eq_false_iff_not] at hc82
          try simp only [decide_eq_true_eq, decide_eq_false_iff_not] at hc86
          try simp only [decide_eq_true_eq, decide_eq_false_iff_not] at hc104
          simp only [allP, List.take_length, toNat0, toNat1, List.take_succ_cons, List.drop_succ_cons, List.drop_zero, sb_mk]
          simp only [List.length_cons, List.length_take, i64_min, i64_max, and_true, true_and, decide_eq_true_eq, decide_eq_false_iff_not, beq_eq_false_iff_ne, bne_iff_ne, bne_eq_false_iff_eq, ne_eq]
          repeat' apply And.intro
          all_goals first | omega | exact hd | exact hz | exact hok | exact hox | exact hx | exact hc70 | exact hc73 | exact (hs (by omega) (by omega)).1 hc104 | exact (hs (by omega) (by omega)).2 hc104 | exact hc | (simpa using hc114)
      | false =>
        cases hc82 : (decide (e < (-22 : Int)) : Bool) with
        | true =>
          have eR := rfNt_4 b d z c v x e n ok ox
          refine ⟨_, _, eR.trans (congrArg (fun r => some (r, _)) ?_), ?_⟩
          · try clear eR
            unfold fltG wordF
            try simp only [decide_eq_true_eq, decide_eq_false_iff_not] at hc78
            try simp only [decide_eq_true_eq, decide_eq_false_iff_not] at hc82
            try simp only [decide_eq_true_eq, decide_eq_false_iff_not] at hc86
            try simp only [decide_eq_true_eq, decide_eq_false_iff_not] at hc104
            try simp only [bne_iff_ne, bne_eq_false_iff_eq, ne_eq] at hc114
            first
              | rw [if_neg (by rintro ⟨a1, a2, a3, a4, a5⟩; omega)]
              | rw [if_neg (by rintro ⟨a1, a2, a3, a4, a5⟩; rw [a1] at hc70; exact absurd hc70 (by decide))]
              | rw [if_neg (by rintro ⟨a1, a2, a3, a4, a5⟩; rw [a2] at hc73; exact absurd hc73 (by decide))]
              | (rw [if_pos ⟨by simpa using hc70, by simpa using hc73, by omega, by omega, by omega⟩]
                 first
                   | simp only [hc104, hc114, if_true, if_false, Bool.false_eq_true, false_and, true_and, ne_eq, not_true_eq_false, not_false_eq_true]
                   | simp only [hc104, if_true, if_false, Bool.false_eq_true, false_and, true_and])
          · try simp only [decide_eq_true_eq, decide_eq_false_iff_not] at hc78
            try simp only [decide_eq_true_eq, decide_eq_false_iff_not] at hc82
            try simp only [decide_eq_true_eq, decide_eq_false_iff_not] at hc86
            try simp only [decide_eq_true_eq, decide_eq_false_iff_not] at hc104
            simp only [allP, List.take_length, toNat0, toNat1, List.take_succ_cons, List.drop_succ_cons, List.drop_zero, sb_mk]
            simp only [List.length_cons, List.length_take, i64_min, i64_max, and_true, true_and, decide_eq_true_eq, decide_eq_false_iff_not, beq_eq_false_iff_ne, bne_iff_ne, bne_eq_false_iff_eq, ne_eq]
            repeat' apply And.intro
            all_goals first | omega | exact hd | exact hz | exact hok | exact hox | exact hx | exact hc70 | exact hc73 | exact (hs (by omega) (by omega)).1 hc104 | exact (hs (by omega) (by omega)).2 hc104 | exact hc | (simpa using hc114)
        | false =>
          cases hc86 : (decide (e > (22 : Int)) : Bool) with
          | true =>
            have eR := rfNt_5 b d z c v x e n ok ox
            refine ⟨_, _, eR.trans (congrArg (fun r => some (r, _)) ?_), ?_⟩
            · try clear eR
              unfold fltG wordF
              try simp only [decide_eq_true_eq, decide_eq_false_iff_not] at hc78
              try simp only [decide_eq_true_eq, decide_eq_false_iff_not] at hc82
              try simp only [decide_eq_true_eq, decide_eq_false_iff_not] at hc86
              try simp only [decide_eq_true_eq, decide_eq_false_iff_not] at hc104
              try simp only [bne_iff_ne, bne_eq_false_iff_eq, ne_eq] at hc114
              first
                | rw [if_neg (by rintro ⟨a1, a2, a3, a4, a5⟩; omega)]
                | rw [if_neg (by rintro ⟨a1, a2, a3, a4, a5⟩; rw [a1] at hc70; exact absurd hc70 (by decide))]
                | rw [if_neg (by rintro ⟨a1, a2, a3, a4, a5⟩; rw [a2] at hc73; exact absurd hc73 (by decide))]
                | (rw [if_pos ⟨by simpa using hc70, by simpa using hc73, by omega, by omega, by omega⟩]
                   first
                     | simp only [hc104, hc114, if_true, if_false, Bool.false_eq_true, false_and, true_and, ne_eq, not_true_eq_false, not_false_eq_true]
                     | simp only [hc104, if_true, if_false, Bool.false_eq_true, false_and, true_and])
            · try simp only [decide_eq_true_eq, decide_eq_false_iff_not] at hc78
              try simp only [decide_eq_true_eq, decide_eq_false_iff_not] at hc82
              try simp only [decide_eq_true_eq, decide_eq_false_iff_not] at hc86
              try simp only [decide_eq_true_eq, decide_eq_false_iff_not] at hc104
              simp only [allP, List.take_length, toNat0, toNat1, List.take_succ_cons, List.drop_succ_cons, List.drop_zero, sb_mk]
              simp only [List.length_cons, List.length_take, i64_min, i64_max, and_true, true_and, decide_eq_true_eq, decide_eq_false_iff_not, beq_eq_false_iff_ne, bne_iff_ne, bne_eq_false_iff_eq, ne_eq]
              repeat' apply And.intro
              all_goals first | omega | exact hd | exact hz | exact hok | exact hox | exact hx | exact hc70 | exact hc73 | exact (hs (by omega) (by omega)).1 hc104 | exact (hs (by omega) (by omega)).2 hc104 | exact hc | (simpa using hc114)
          | false =>
            cases hc104 : (decide (e < (0 : Int)) : Bool) with
            | true =>
              cases hc114 : (v != (0 : Int) : Bool) with
              | true =>
                have eR := rfNt_6 b d z c v x e n ok ox
                refine ⟨_, _, eR.trans (congrArg (fun r => some (r, _)) ?_), ?_⟩
                · try clear eR
                  unfold fltG wordF
                  try simp only [decide_eq_true_eq, decide_eq_false_iff_not] at hc78
                  try simp only [decide_eq_true_eq, decide_eq_false_iff_not] at hc82
                  try simp only [decide_eq_true_eq, decide_eq_false_iff_not] at hc86
                  try simp only [decide_eq_true_eq, decide_eq_false_iff_not] at hc104
                  try simp only [bne_iff_ne, bne_eq_false_iff_eq, ne_eq] at hc114
                  first
                    | rw [if_neg (by rintro ⟨a1, a2, a3, a4, a5⟩; omega)]
                    | rw [if_neg (by rintro ⟨a1, a2, a3, a4, a5⟩; rw [a1] at hc70; exact absurd hc70 (by decide))]
                    | rw [if_neg (by rintro ⟨a1, a2, a3, a4, a5⟩; rw [a2] at hc73; exact absurd hc73 (by decide))]
                    | (rw [if_pos ⟨by simpa using hc70, by simpa using hc73, by omega, by omega, by omega⟩]
                       first
                         | simp only [hc104, hc114, if_true, if_false, Bool.false_eq_true, false_and, true_and, ne_eq, not_true_eq_false, not_false_eq_true]
                         | simp only [hc104, if_true, if_false, Bool.false_eq_true, false_and, true_and])
                · try simp only [decide_eq_true_eq, decide_eq_false_iff_not] at hc78
                  try simp only [decide_eq_true_eq, decide_eq_false_iff_not] at hc82
                  try simp only [decide_eq_true_eq, decide_eq_false_iff_not] at hc86
                  try simp only [decide_eq_true_eq, decide_eq_false_iff_not] at hc104
                  simp only [allP, List.take_length, toNat0, toNat1, List.take_succ_cons, List.drop_succ_cons, List.drop_zero, sb_mk]
                  simp only [List.length_cons, List.length_take, i64_min, i64_max, and_true, true_and, decide_eq_true_eq, decide_eq_false_iff_not, beq_eq_false_iff_ne, bne_iff_ne, bne_eq_false_iff_eq, ne_eq]
                  repeat' apply And.intro
                  all_goals first | omega | exact hd | exact hz | exact hok | exact hox | exact hx | exact hc70 | exact hc73 | exact (hs (by omega) (by omega)).1 hc104 | exact (hs (by omega) (by omega)).2 hc104 | exact hc | (simpa using hc114)
              | false =>
                have eR := rfNt_7 b d z c v x e n ok ox
                refine ⟨_, _, eR.trans (congrArg (fun r => some (r, _)) ?_), ?_⟩
                · try clear eR
                  unfold fltG wordF
                  try simp only [decide_eq_true_eq, decide_eq_false_iff_not] at hc78
                  try simp only [decide_eq_true_eq, decide_eq_false_iff_not] at hc82
                  try simp only [decide_eq_true_eq, decide_eq_false_iff_not] at hc86
                  try simp only [decide_eq_true_eq, decide_eq_false_iff_not] at hc104
                  try simp only [bne_iff_ne, bne_eq_false_iff_eq, ne_eq] at hc114
                  first
                    | rw [if_neg (by rintro ⟨a1, a2, a3, a4, a5⟩; omega)]
                    | rw [if_neg (by rintro ⟨a1, a2, a3, a4, a5⟩; rw [a1] at hc70; exact absurd hc70 (by decide))]
                    | rw [if_neg (by rintro ⟨a1, a2, a3, a4, a5⟩; rw [a2] at hc73; exact absurd hc73 (by decide))]
                    | (rw [if_pos ⟨by simpa using hc70, by simpa using hc73, by omega, by omega, by omega⟩]
                       first
                         | simp only [hc104, hc114, if_true, if_false, Bool.false_eq_true, false_and, true_and, ne_eq, not_true_eq_false, not_false_eq_true]
                         | simp only [hc104, if_true, if_false, Bool.false_eq_true, false_and, true_and])
                · try simp only [decide_eq_true_eq, decide_eq_false_iff_not] at hc78
                  try simp only [decide_eq_true_eq, decide_eq_false_iff_not] at hc82
                  try simp only [decide_eq_true_eq, decide_eq_false_iff_not] at hc86
                  try simp only [decide_eq_true_eq, decide_eq_false_iff_not] at hc104
                  simp only [allP, List.take_length, toNat0, toNat1, List.take_succ_cons, List.drop_succ_cons, List.drop_zero, sb_mk]
                  simp only [List.length_cons, List.length_take, i64_min, i64_max, and_true, true_and, decide_eq_true_eq, decide_eq_false_iff_not, beq_eq_false_iff_ne, bne_iff_ne, bne_eq_false_iff_eq, ne_eq]
                  repeat' apply And.intro
                  all_goals first | omega | exact hd | exact hz | exact hok | exact hox | exact hx | exact hc70 | exact hc73 | exact (hs (by omega) (by omega)).1 hc104 | exact (hs (by omega) (by omega)).2 hc104 | exact hc | (simpa using hc114)
            | false =>
              cases hc114 : (v != (0 : Int) : Bool) with
              | true =>
                have eR := rfNt_8 b d z c v x e n ok ox
                refine ⟨_, _, eR.trans (congrArg (fun r => some (r, _)) ?_), ?_⟩
                · try clear eR
                  unfold fltG wordF
                  try simp only [decide_eq_true_eq, decide_eq_false_iff_not] at hc78
                  try simp only [decide_eq_true_eq, decide_eq_false_iff_not] at hc82
                  try simp only [decide_eq_true_eq, decide_eq_false_iff_not] at hc86
                  try simp only [decide_eq_true_eq, decide_eq_false_iff_not] at hc104
                  try simp only [bne_iff_ne, bne_eq_false_iff_eq, ne_eq] at hc114
                  first
                    | rw [if_neg (by rintro ⟨a1, a2, a3, a4, a5⟩; omega)]
                    | rw [if_neg (by rintro ⟨a1, a2, a3, a4, a5⟩; rw [a1] at hc70; exact absurd hc70 (by decide))]
                    | rw [if_neg (by rintro ⟨a1, a2, a3, a4, a5⟩; rw [a2] at hc73; exact absurd hc73 (by decide))]
                    | (rw [if_pos ⟨by simpa using hc70, by simpa using hc73, by omega, by omega, by omega⟩]
                       first
                         | simp only [hc104, hc114, if_true, if_false, Bool.false_eq_true, false_and, true_and, ne_eq, not_true_eq_false, not_false_eq_true]
                         | simp only [hc104, if_true, if_false, Bool.false_eq_true, false_and, true_and])
                · try simp only [decide_eq_true_eq, decide_eq_false_iff_not] at hc78
                  try simp only [decide_eq_true_eq, decide_eq_false_iff_not] at hc82
                  try simp only [decide_eq_true_eq, decide_eq_false_iff_not] at hc86
                  try simp only [decide_eq_true_eq, decide_eq_false_iff_not] at hc104
                  simp only [allP, List.take_length, toNat0, toNat1, List.take_succ_cons, List.drop_succ_cons, List.drop_zero, sb_mk]
                  simp only [List.length_cons, List.length_take, i64_min, i64_max, and_true, true_and, decide_eq_true_eq, decide_eq_false_iff_not, beq_eq_false_iff_ne, bne_iff_ne, bne_eq_false_iff_eq, ne_eq]
                  repeat' apply And.intro
                  all_goals first | omega | exact hd | exact hz | exact hok | exact hox | exact hx | exact hc70 | exact hc73 | exact (hs (by omega) (by omega)).1 hc104 | exact (hs (by omega) (by omega)).2 hc104 | exact hc | (simpa using hc114)
              | false =>
                have eR := rfNt_9 b d z c v x e n ok ox
                refine ⟨_, _, eR.trans (congrArg (fun r => some (r, _)) ?_), ?_⟩
                · try clear eR
                  unfold fltG wordF
                  try simp only [decide_eq_true_eq, decide_eq_false_iff_not] at hc78
                  try simp only [decide_eq_true_eq, decide_eq_false_iff_not] at hc82
                  try simp only [decide_eq_true_eq, decide_eq_false_iff_not] at hc86
                  try simp only [decide_eq_true_eq, decide_eq_false_iff_not] at hc104
                  try simp only [bne_iff_ne, bne_eq_false_iff_eq, ne_eq] at hc114
                  first
                    | rw [if_neg (by rintro ⟨a1, a2, a3, a4, a5⟩; omega)]
                    | rw [if_neg (by rintro ⟨a1, a2, a3, a4, a5⟩; rw [a1] at hc70; exact absurd hc70 (by decide))]
                    | rw [if_neg (by rintro ⟨a1, a2, a3, a4, a5⟩; rw [a2] at hc73; exact absurd hc73 (by decide))]
                    | (rw [if_pos ⟨by simpa using hc70, by simpa using hc73, by omega, by omega, by omega⟩]
                       first
                         | simp only [hc104, hc114, if_true, if_false, Bool.false_eq_true, false_and, true_and, ne_eq, not_true_eq_false, not_false_eq_true]
                         | simp only [hc104, if_true, if_false, Bool.false_eq_true, false_and, true_and])
                · try simp only [decide_eq_true_eq, decide_eq_false_iff_not] at hc78
                  try simp only [decide_eq_true_eq, decide_eq_false_iff_not] at hc82
                  try simp only [decide_eq_true_eq, decide_eq_false_iff_not] at hc86
                  try simp only [decide_eq_true_eq, decide_eq_false_iff_not] at hc104
                  simp only [allP, List.take_length, toNat0, toNat1, List.take_succ_cons, List.drop_succ_cons, List.drop_zero, sb_mk]
                  simp only [List.length_cons, List.length_take, i64_min, i64_max, and_true, true_and, decide_eq_true_eq, decide_eq_false_iff_not, beq_eq_false_iff_ne, bne_iff_ne, bne_eq_false_iff_eq, ne_eq]
                  repeat' apply And.intro
                  all_goals first | omega | exact hd | exact hz | exact hok | exact hox | exact hx | exact hc70 | exact hc73 | exact (hs (by omega) (by omega)).1 hc104 | exact (hs (by omega) (by omega)).2 hc104 | exact hc | (simpa using hc114)



theorem rfEt_1 (b d : List UInt8) (v x e : Int) (n : Nat) (ok ox : Bool) : outcome Try.prog 12 (aBody Try.prog clF ⟨true, bs [(70, true)] ++ (bs [] ++ [(25, ⟨.c (str b), none⟩), (27, ⟨.c (.int .i64 n), none⟩), (30, ⟨.c (str d), none⟩), (33, ⟨.c (str ([])), none⟩), (59, ⟨.c (.int .i64 v), none⟩), (60, ⟨.c (.bool ok), none⟩), (64, ⟨.c (.int .i64 x), none⟩), (65, ⟨.c (.bool ox), none⟩), (68, ⟨.c (.int .i64 e), none⟩)])⟩ (lpBy (rfLp true v e)) 60 12 ([.c (str (45 :: b))]) ([])) = some ((AV.tu [(AV.c ((Value.float .f64 0))),
 (AV.c ((Value.bool false)))]), [(((0 : Int) : Int) ≤ ((0 : Int))),
 (((0 : Int) : Int) < ((↑((45 : UInt8) :: b).length : Int))),
 (((0 : Int) : Int) ≤ ((1 : Int))),
 (((1 : Int) : Int) ≤ ((↑((45 : UInt8) :: b).length : Int))),
 (((↑((45 : UInt8) :: b).length : Int) : Int) ≤ ((↑((45 : UInt8) :: b).length : Int))),
 ((List.drop (Int.toNat (1 : Int)) (List.take ((45 : UInt8) :: b).length ((45 : UInt8) :: b)) : List UInt8)) = (b),
 ((b.length : Nat) ≤ ((1000000000 : Nat))),
 (((↑(ldD b) : Int) : Int)) = ((↑n : Int)),
 (((0 : Int) : Int) ≤ ((0 : Int))),
 (((0 : Int) : Int) ≤ ((↑n : Int))),
 (((↑n : Int) : Int) ≤ ((↑b.length : Int))),
 ((List.drop (Int.toNat (0 : Int)) (List.take n b) : List UInt8)) = (d),
 (((0 : Int) : Int) ≤ ((↑n : Int))),
 (((↑n : Int) : Int) ≤ ((↑b.length : Int))),
 (((↑b.length : Int) : Int) ≤ ((↑b.length : Int))),
 ((List.drop n (List.take b.length b) : List UInt8)) = ([]),
 ((d.length : Nat) ≤ ((1000000000 : Nat))),
 (((↑(wV d) : Int) : Int)) = (v),
 ((wOK d : Bool)) = (ok),
 (((0 : Nat) : Nat) ≤ ((999999990 : Nat))),
 ((0 : Int)) = (x),
 ((true : Bool)) = (ox),
 ((IntKind.i64.min : Int) ≤ (x - (0 : Int))),
 ((x - (0 : Int) : Int) ≤ (IntKind.i64.max)),
 ((x - (0 : Int) : Int)) = (e),
 ((!ok : Bool)) = (true)]) := by kernel_rfl

theorem rfEt_2 (b d : List UInt8) (v x e : Int) (n : Nat) (ok ox : Bool) : outcome Try.prog 12 (aBody Try.prog clF ⟨true, bs [(70, false), (73, true)] ++ (bs [] ++ [(25, ⟨.c (str b), none⟩), (27, ⟨.c (.int .i64 n), none⟩), (30, ⟨.c (str d), none⟩), (33, ⟨.c (str ([])), none⟩), (59, ⟨.c (.int .i64 v), none⟩), (60, ⟨.c (.bool ok), none⟩), (64, ⟨.c (.int .i64 x), none⟩), (65, ⟨.c (.bool ox), none⟩), (68, ⟨.c (.int .i64 e), none⟩)])⟩ (lpBy (rfLp true v e)) 60 12 ([.c (str (45 :: b))]) ([])) = some ((AV.tu [(AV.c ((Value.float .f64 0))),
 (AV.c ((Value.bool false)))]), [(((0 : Int) : Int) ≤ ((0 : Int))),
 (((0 : Int) : Int) < ((↑((45 : UInt8) :: b).length : Int))),
 (((0 : Int) : Int) ≤ ((1 : Int))),
 (((1 : Int) : Int) ≤ ((↑((45 : UInt8) :: b).length : Int))),
 (((↑((45 : UInt8) :: b).length : Int) : Int) ≤ ((↑((45 : UInt8) :: b).length : Int))),
 ((List.drop (Int.toNat (1 : Int)) (List.take ((45 : UInt8) :: b).length ((45 : UInt8) :: b)) : List UInt8)) = (b),
 ((b.length : Nat) ≤ ((1000000000 : Nat))),
 (((↑(ldD b) : Int) : Int)) = ((↑n : Int)),
 (((0 : Int) : Int) ≤ ((0 : Int))),
 (((0 : Int) : Int) ≤ ((↑n : Int))),
 (((↑n : Int) : Int) ≤ ((↑b.length : Int))),
 ((List.drop (Int.toNat (0 : Int)) (List.take n b) : List UInt8)) = (d),
 (((0 : Int) : Int) ≤ ((↑n : Int))),
 (((↑n : Int) : Int) ≤ ((↑b.length : Int))),
 (((↑b.length : Int) : Int) ≤ ((↑b.length : Int))),
 ((List.drop n (List.take b.length b) : List UInt8)) = ([]),
 ((d.length : Nat) ≤ ((1000000000 : Nat))),
 (((↑(wV d) : Int) : Int)) = (v),
 ((wOK d : Bool)) = (ok),
 (((0 : Nat) : Nat) ≤ ((999999990 : Nat))),
 ((0 : Int)) = (x),
 ((true : Bool)) = (ox),
 ((IntKind.i64.min : Int) ≤ (x - (0 : Int))),
 ((x - (0 : Int) : Int) ≤ (IntKind.i64.max)),
 ((x - (0 : Int) : Int)) = (e),
 ((!ok : Bool)) = (false),
 ((!ox : Bool)) = (true)]) := by kernel_rfl

theorem rfEt_3 (b d : List UInt8) (v x e : Int) (n : Nat) (ok ox : Bool) : outcome Try.prog 12 (aBody Try.prog clF ⟨true, bs [(70, false), (73, false), (78, true)] ++ (bs [] ++ [(25, ⟨.c (str b), none⟩), (27, ⟨.c (.int .i64 n), none⟩), (30, ⟨.c (str d), none⟩), (33, ⟨.c (str ([])), none⟩), (59, ⟨.c (.int .i64 v), none⟩), (60, ⟨.c (.bool ok), none⟩), (64, ⟨.c (.int .i64 x), none⟩), (65, ⟨.c (.bool ox), none⟩), (68, ⟨.c (.int .i64 e), none⟩)])⟩ (lpBy (rfLp true v e)) 60 12 ([.c (str (45 :: b))]) ([])) = some ((AV.tu [(AV.c ((Value.float .f64 0))),
 (AV.c ((Value.bool false)))]), [(((0 : Int) : Int) ≤ ((0 : Int))),
 (((0 : Int) : Int) < ((↑((45 : UInt8) :: b).length : Int))),
 (((0 : Int) : Int) ≤ ((1 : Int))),
 (((1 : Int) : Int) ≤ ((↑((45 : UInt8) :: b).length : Int))),
 (((↑((45 : UInt8) :: b).length : Int) : Int) ≤ ((↑((45 : UInt8) :: b).length : Int))),
 ((List.drop (Int.toNat (1 : Int)) (List.take ((45 : UInt8) :: b).length ((45 : UInt8) :: b)) : List UInt8)) = (b),
 ((b.length : Nat) ≤ ((1000000000 : Nat))),
 (((↑(ldD b) : Int) : Int)) = ((↑n : Int)),
 (((0 : Int) : Int) ≤ ((0 : Int))),
 (((0 : Int) : Int) ≤ ((↑n : Int))),
 (((↑n : Int) : Int) ≤ ((↑b.length : Int))),
 ((List.drop (Int.toNat (0 : Int)) (List.take n b) : List UInt8)) = (d),
 (((0 : Int) : Int) ≤ ((↑n : Int))),
 (((↑n : Int) : Int) ≤ ((↑b.length : Int))),
 (((↑b.length : Int) : Int) ≤ ((↑b.length : Int))),
 ((List.drop n (List.take b.length b) : List UInt8)) = ([]),
 ((d.length : Nat) ≤ ((1000000000 : Nat))),
 (((↑(wV d) : Int) : Int)) = (v),
 ((wOK d : Bool)) = (ok),
 (((0 : Nat) : Nat) ≤ ((999999990 : Nat))),
 ((0 : Int)) = (x),
 ((true : Bool)) = (ox),
 ((IntKind.i64.min : Int) ≤ (x - (0 : Int))),
 ((x - (0 : Int) : Int) ≤ (IntKind.i64.max)),
 ((x - (0 : Int) : Int)) = (e),
 ((!ok : Bool)) = (false),
 ((!ox : Bool)) = (false),
 ((decide ((↑d.length : Int) > (15 : Int)) : Bool)) = (true)]) := by kernel_rfl

theorem rfEt_4 (b d : List UInt8) (v x e : Int) (n : Nat) (ok ox : Bool) : outcome Try.prog 12 (aBody Try.prog clF ⟨true, bs [(70, false), (73, false), (78, false), (82, true)] ++ (bs [] ++ [(25, ⟨.c (str b), none⟩), (27, ⟨.c (.int .i64 n), none⟩), (30, ⟨.c (str d), none⟩), (33, ⟨.c (str ([])), none⟩), (59, ⟨.c (.int .i64 v), none⟩), (60, ⟨.c (.bool ok), none⟩), (64, ⟨.c (.int .i64 x), none⟩), (65, ⟨.c (.bool ox), none⟩), (68, ⟨.c (.int .i64 e), none⟩)])⟩ (lpBy (rfLp true v e)) 60 12 ([.c (str (45 :: b))]) ([])) = some ((AV.tu [(AV.c ((Value.float .f64 0))),
 (AV.c ((Value.bool false)))]), [(((0 : Int) : Int) ≤ ((0 : Int))),
 (((0 : Int) : Int) < ((↑((45 : UInt8) :: b).length : Int))),
 (((0 : Int) : Int) ≤ ((1 : Int))),
 (((1 : Int) : Int) ≤ ((↑((45 : UInt8) :: b).length : Int))),
 (((↑((45 : UInt8) :: b).length : Int) : Int) ≤ ((↑((45 : UInt8) :: b).length : Int))),
 ((List.drop (Int.toNat (1 : Int)) (List.take ((45 : UInt8) :: b).length ((45 : UInt8) :: b)) : List UInt8)) = (b),
 ((b.length : Nat) ≤ ((1000000000 : Nat))),
 (((↑(ldD b) : Int) : Int)) = ((↑n : Int)),
 (((0 : Int) : Int) ≤ ((0 : Int))),
 (((0 : Int) : Int) ≤ ((↑n : Int))),
 (((↑n : Int) : Int) ≤ ((↑b.length : Int))),
 ((List.drop (Int.toNat (0 : Int)) (List.take n b) : List UInt8)) = (d),
 (((0 : Int) : Int) ≤ ((↑n : Int))),
 (((↑n : Int) : Int) ≤ ((↑b.length : Int))),
 (((↑b.length : Int) : Int) ≤ ((↑b.length : Int))),
 ((List.drop n (List.take b.length b) : List UInt8)) = ([]),
 ((d.length : Nat) ≤ ((1000000000 : Nat))),
 (((↑(wV d) : Int) : Int)) = (v),
 ((wOK d : Bool)) = (ok),
 (((0 : Nat) : Nat) ≤ ((999999990 : Nat))),
 ((0 : Int)) = (x),
 ((true : Bool)) = (ox),
 ((IntKind.i64.min : Int) ≤ (x - (0 : Int))),
 ((x - (0 : Int) : Int) ≤ (IntKind.i64.max)),
 ((x - (0 : Int) : Int)) = (e),
 ((!ok : Bool)) = (false),
 ((!ox : Bool)) = (false),
 ((decide ((↑d.length : Int) > (15 : Int)) : Bool)) = (false),
 ((decide (e < (-22 : Int)) : Bool)) = (true)]) := by kernel_rfl

theorem rfEt_5 (b d : List UInt8) (v x e : Int) (n : Nat) (ok ox : Bool) : outcome Try.prog 12 (aBody Try.prog clF ⟨true, bs [(70, false), (73, false), (78, false), (82, false), (86, true)] ++ (bs [] ++ [(25, ⟨.c (str b), none⟩), (27, ⟨.c (.int .i64 n), none⟩), (30, ⟨.c (str d), none⟩), (33, ⟨.c (str ([])), none⟩), (59, ⟨.c (.int .i64 v), none⟩), (60, ⟨.c (.bool ok), none⟩), (64, ⟨.c (.int .i64 x), none⟩), (65, ⟨.c (.bool ox), none⟩), (68, ⟨.c (.int .i64 e), none⟩)])⟩ (lpBy (rfLp true v e)) 60 12 ([.c (str (45 :: b))]) ([])) = some ((AV.tu [(AV.c ((Value.float .f64 0))),
 (AV.c ((Value.bool false)))]), [(((0 : Int) : Int) ≤ ((0 : Int))),
 (((0 : Int) : Int) < ((↑((45 : UInt8) :: b).length : Int))),
 (((0 : Int) : Int) ≤ ((1 : Int))),
 (((1 : Int) : Int) ≤ ((↑((45 : UInt8) :: b).length : Int))),
 (((↑((45 : UInt8) :: b).length : Int) : Int) ≤ ((↑((45 : UInt8) :: b).length : Int))),
 ((List.drop (Int.toNat (1 : Int)) (List.take ((45 : UInt8) :: b).length ((45 : UInt8) :: b)) : List UInt8)) = (b),
 ((b.length : Nat) ≤ ((1000000000 : Nat))),
 (((↑(ldD b) : Int) : Int)) = ((↑n : Int)),
 (((0 : Int) : Int) ≤ ((0 : Int))),
 (((0 : Int) : Int) ≤ ((↑n : Int))),
 (((↑n : Int) : Int) ≤ ((↑b.length : Int))),
 ((List.drop (Int.toNat (0 : Int)) (List.take n b) : List UInt8)) = (d),
 (((0 : Int) : Int) ≤ ((↑n : Int))),
 (((↑n : Int) : Int) ≤ ((↑b.length : Int))),
 (((↑b.length : Int) : Int) ≤ ((↑b.length : Int))),
 ((List.drop n (List.take b.length b) : List UInt8)) = ([]),
 ((d.length : Nat) ≤ ((1000000000 : Nat))),
 (((↑(wV d) : Int) : Int)) = (v),
 ((wOK d : Bool)) = (ok),
 (((0 : Nat) : Nat) ≤ ((999999990 : Nat))),
 ((0 : Int)) = (x),
 ((true : Bool)) = (ox),
 ((IntKind.i64.min : Int) ≤ (x - (0 : Int))),
 ((x - (0 : Int) : Int) ≤ (IntKind.i64.max)),
 ((x - (0 : Int) : Int)) = (e),
 ((!ok : Bool)) = (false),
 ((!ox : Bool)) = (false),
 ((decide ((↑d.length : Int) > (15 : Int)) : Bool)) = (false),
 ((decide (e < (-22 : Int)) : Bool)) = (false),
 ((decide (e > (22 : Int)) : Bool)) = (true)]) := by kernel_rfl

theorem rfEt_6 (b d : List UInt8) (v x e : Int) (n : Nat) (ok ox : Bool) : outcome Try.prog 12 (aBody Try.prog clF ⟨true, bs [(70, false), (73, false), (78, false), (82, false), (86, false), (104, true), (114, true)] ++ (bs [] ++ [(25, ⟨.c (str b), none⟩), (27, ⟨.c (.int .i64 n), none⟩), (30, ⟨.c (str d), none⟩), (33, ⟨.c (str ([])), none⟩), (59, ⟨.c (.int .i64 v), none⟩), (60, ⟨.c (.bool ok), none⟩), (64, ⟨.c (.int .i64 x), none⟩), (65, ⟨.c (.bool ox), none⟩), (68, ⟨.c (.int .i64 e), none⟩)])⟩ (lpBy (rfLp true v e)) 60 12 ([.c (str (45 :: b))]) ([])) = some ((AV.tu [(AV.c ((Value.float .f64 (Op.negFloat FloatKind.f64
  ((floatBits BinOp.quo FloatKind.f64 (floatOfInt FloatKind.f64 v) (pwB e.natAbs)).getD (0 : Nat)))))),
 (AV.c ((Value.bool true)))]), [(((0 : Int) : Int) ≤ ((0 : Int))),
 (((0 : Int) : Int) < ((↑((45 : UInt8) :: b).length : Int))),
 (((0 : Int) : Int) ≤ ((1 : Int))),
 (((1 : Int) : Int) ≤ ((↑((45 : UInt8) :: b).length : Int))),
 (((↑((45 : UInt8) :: b).length : Int) : Int) ≤ ((↑((45 : UInt8) :: b).length : Int))),
 ((List.drop (Int.toNat (1 : Int)) (List.take ((45 : UInt8) :: b).length ((45 : UInt8) :: b)) : List UInt8)) = (b),
 ((b.length : Nat) ≤ ((1000000000 : Nat))),
 (((↑(ldD b) : Int) : Int)) = ((↑n : Int)),
 (((0 : Int) : Int) ≤ ((0 : Int))),
 (((0 : Int) : Int) ≤ ((↑n : Int))),
 (((↑n : Int) : Int) ≤ ((↑b.length : Int))),
 ((List.drop (Int.toNat (0 : Int)) (List.take n b) : List UInt8)) = (d),
 (((0 : Int) : Int) ≤ ((↑n : Int))),
 (((↑n : Int) : Int) ≤ ((↑b.length : Int))),
 (((↑b.length : Int) : Int) ≤ ((↑b.length : Int))),
 ((List.drop n (List.take b.length b) : List UInt8)) = ([]),
 ((d.length : Nat) ≤ ((1000000000 : Nat))),
 (((↑(wV d) : Int) : Int)) = (v),
 ((wOK d : Bool)) = (ok),
 (((0 : Nat) : Nat) ≤ ((999999990 : Nat))),
 ((0 : Int)) = (x),
 ((true : Bool)) = (ox),
 ((IntKind.i64.min : Int) ≤ (x - (0 : Int))),
 ((x - (0 : Int) : Int) ≤ (IntKind.i64.max)),
 ((x - (0 : Int) : Int)) = (e),
 ((!ok : Bool)) = (false),
 ((!ox : Bool)) = (false),
 ((decide ((↑d.length : Int) > (15 : Int)) : Bool)) = (false),
 ((decide (e < (-22 : Int)) : Bool)) = (false),
 ((decide (e > (22 : Int)) : Bool)) = (false),
 ((lbody Try.prog (12 : FuncId) (21 : Nat) : Go.Code)) = (lbody Try.prog (12 : FuncId) (21 : Nat)),
 ((pwS true v e (4607182418800017408 : Nat) (0 : Nat) : Go.Proofs.Ytigglgobiofalaa.St)) = (pwS true v e (4607182418800017408 : Nat) (0 : Nat)),
 ((decide (e < (0 : Int)) : Bool)) = (true),
 (((floatBits BinOp.quo FloatKind.f64 (floatOfInt FloatKind.f64 v) (pwB e.natAbs)).isSome : Bool)) = (true),
 ((v != (0 : Int) : Bool)) = (true)]) := by kernel_rfl

theorem rfEt_7 (b d : List UInt8) (v x e : Int) (n : Nat) (ok ox : Bool) : outcome Try.prog 12 (aBody Try.prog clF ⟨true, bs [(70, false), (73, false), (78, false), (82, false), (86, false), (104, true), (114, false)] ++ (bs [] ++ [(25, ⟨.c (str b), none⟩), (27, ⟨.c (.int .i64 n), none⟩), (30, ⟨.c (str d), none⟩), (33, ⟨.c (str ([])), none⟩), (59, ⟨.c (.int .i64 v), none⟩), (60, ⟨.c (.bool ok), none⟩), (64, ⟨.c (.int .i64 x), none⟩), (65, ⟨.c (.bool ox), none⟩), (68, ⟨.c (.int .i64 e), none⟩)])⟩ (lpBy (rfLp true v e)) 60 12 ([.c (str (45 :: b))]) ([])) = some ((AV.tu [(AV.c ((Value.float .f64 ((floatBits BinOp.quo FloatKind.f64 (floatOfInt FloatKind.f64 v) (pwB e.natAbs)).getD (0 : Nat))))),
 (AV.c ((Value.bool true)))]), [(((0 : Int) : Int) ≤ ((0 : Int))),
 (((0 : Int) : Int) < ((↑((45 : UInt8) :: b).length : Int))),
 (((0 : Int) : Int) ≤ ((1 : Int))),
 (((1 : Int) : Int) ≤ ((↑((45 : UInt8) :: b).length : Int))),
 (((↑((45 : UInt8) :: b).length : Int) : Int) ≤ ((↑((45 : UInt8) :: b).length : Int))),
 ((List.drop (Int.toNat (1 : Int)) (List.take ((45 : UInt8) :: b).length ((45 : UInt8) :: b)) : List UInt8)) = (b),
 ((b.length : Nat) ≤ ((1000000000 : Nat))),
 (((↑(ldD b) : Int) : Int)) = ((↑n : Int)),
 (((0 : Int) : Int) ≤ ((0 : Int))),
 (((0 : Int) : Int) ≤ ((↑n : Int))),
 (((↑n : Int) : Int) ≤ ((↑b.length : Int))),
 ((List.drop (Int.toNat (0 : Int)) (List.take n b) : List UInt8)) = (d),
 (((0 : Int) : Int) ≤ ((↑n : Int))),
 (((↑n : Int) : Int) ≤ ((↑b.length : Int))),
 (((↑b.length : Int) : Int) ≤ ((↑b.length : Int))),
 ((List.drop n (List.take b.length b) : List UInt8)) = ([]),
 ((d.length : Nat) ≤ ((1000000000 : Nat))),
 (((↑(wV d) : Int) : Int)) = (v),
 ((wOK d : Bool)) = (ok),
 (((0 : Nat) : Nat) ≤ ((999999990 : Nat))),
 ((0 : Int)) = (x),
 ((true : Bool)) = (ox),
 ((IntKind.i64.min : Int) ≤ (x - (0 : Int))),
 ((x - (0 : Int) : Int) ≤ (IntKind.i64.max)),
 ((x - (0 : Int) : Int)) = (e),
 ((!ok : Bool)) = (false),
 ((!ox : Bool)) = (false),
 ((decide ((↑d.length : Int) > (15 : Int)) : Bool)) = (false),
 ((decide (e < (-22 : Int)) : Bool)) = (false),
 ((decide (e > (22 : Int)) : Bool)) = (false),
 ((lbody Try.prog (12 : FuncId) (21 : Nat) : Go.Code)) = (lbody Try.prog (12 : FuncId) (21 : Nat)),
 ((pwS true v e (4607182418800017408 : Nat) (0 : Nat) : Go.Proofs.Ytigglgobiofalaa.St)) = (pwS true v e (4607182418800017408 : Nat) (0 : Nat)),
 ((decide (e < (0 : Int)) : Bool)) = (true),
 (((floatBits BinOp.quo FloatKind.f64 (floatOfInt FloatKind.f64 v) (pwB e.natAbs)).isSome : Bool)) = (true),
 ((v != (0 : Int) : Bool)) = (false)]) := by kernel_rfl

theorem rfEt_8 (b d : List UInt8) (v x e : Int) (n : Nat) (ok ox : Bool) : outcome Try.prog 12 (aBody Try.prog clF ⟨true, bs [(70, false), (73, false), (78, false), (82, false), (86, false), (104, false), (114, true)] ++ (bs [] ++ [(25, ⟨.c (str b), none⟩), (27, ⟨.c (.int .i64 n), none⟩), (30, ⟨.c (str d), none⟩), (33, ⟨.c (str ([])), none⟩), (59, ⟨.c (.int .i64 v), none⟩), (60, ⟨.c (.bool ok), none⟩), (64, ⟨.c (.int .i64 x), none⟩), (65, ⟨.c (.bool ox), none⟩), (68, ⟨.c (.int .i64 e), none⟩)])⟩ (lpBy (rfLp true v e)) 60 12 ([.c (str (45 :: b))]) ([])) = some ((AV.tu [(AV.c ((Value.float .f64 (Op.negFloat FloatKind.f64
  ((floatBits BinOp.mul FloatKind.f64 (floatOfInt FloatKind.f64 v) (pwB e.natAbs)).getD (0 : Nat)))))),
 (AV.c ((Value.bool true)))]), [(((0 : Int) : Int) ≤ ((0 : Int))),
 (((0 : Int) : Int) < ((↑((45 : UInt8) :: b).length : Int))),
 (((0 : Int) : Int) ≤ ((1 : Int))),
 (((1 : Int) : Int) ≤ ((↑((45 : UInt8) :: b).length : Int))),
 (((↑((45 : UInt8) :: b).length : Int) : Int) ≤ ((↑((45 : UInt8) :: b).length : Int))),
 ((List.drop (Int.toNat (1 : Int)) (List.take ((45 : UInt8) :: b).length ((45 : UInt8) :: b)) : List UInt8)) = (b),
 ((b.length : Nat) ≤ ((1000000000 : Nat))),
 (((↑(ldD b) : Int) : Int)) = ((↑n : Int)),
 (((0 : Int) : Int) ≤ ((0 : Int))),
 (((0 : Int) : Int) ≤ ((↑n : Int))),
 (((↑n : Int) : Int) ≤ ((↑b.length : Int))),
 ((List.drop (Int.toNat (0 : Int)) (List.take n b) : List UInt8)) = (d),
 (((0 : Int) : Int) ≤ ((↑n : Int))),
 (((↑n : Int) : Int) ≤ ((↑b.length : Int))),
 (((↑b.length : Int) : Int) ≤ ((↑b.length : Int))),
 ((List.drop n (List.take b.length b) : List UInt8)) = ([]),
 ((d.length : Nat) ≤ ((1000000000 : Nat))),
 (((↑(wV d) : Int) : Int)) = (v),
 ((wOK d : Bool)) = (ok),
 (((0 : Nat) : Nat) ≤ ((999999990 : Nat))),
 ((0 : Int)) = (x),
 ((true : Bool)) = (ox),
 ((IntKind.i64.min : Int) ≤ (x - (0 : Int))),
 ((x - (0 : Int) : Int) ≤ (IntKind.i64.max)),
 ((x - (0 : Int) : Int)) = (e),
 ((!ok : Bool)) = (false),
 ((!ox : Bool)) = (false),
 ((decide ((↑d.length : Int) > (15 : Int)) : Bool)) = (false),
 ((decide (e < (-22 : Int)) : Bool)) = (false),
 ((decide (e > (22 : Int)) : Bool)) = (false),
 ((lbody Try.prog (12 : FuncId) (21 : Nat) : Go.Code)) = (lbody Try.prog (12 : FuncId) (21 : Nat)),
 ((pwS true v e (4607182418800017408 : Nat) (0 : Nat) : Go.Proofs.Ytigglgobiofalaa.St)) = (pwS true v e (4607182418800017408 : Nat) (0 : Nat)),
 ((decide (e < (0 : Int)) : Bool)) = (false),
 (((floatBits BinOp.mul FloatKind.f64 (floatOfInt FloatKind.f64 v) (pwB e.natAbs)).isSome : Bool)) = (true),
 ((v != (0 : Int) : Bool)) = (true)]) := by kernel_rfl

theorem rfEt_9 (b d : List UInt8) (v x e : Int) (n : Nat) (ok ox : Bool) : outcome Try.prog 12 (aBody Try.prog clF ⟨true, bs [(70, false), (73, false), (78, false), (82, false), (86, false), (104, false), (114, false)] ++ (bs [] ++ [(25, ⟨.c (str b), none⟩), (27, ⟨.c (.int .i64 n), none⟩), (30, ⟨.c (str d), none⟩), (33, ⟨.c (str ([])), none⟩), (59, ⟨.c (.int .i64 v), none⟩), (60, ⟨.c (.bool ok), none⟩), (64, ⟨.c (.int .i64 x), none⟩), (65, ⟨.c (.bool ox), none⟩), (68, ⟨.c (.int .i64 e), none⟩)])⟩ (lpBy (rfLp true v e)) 60 12 ([.c (str (45 :: b))]) ([])) = some ((AV.tu [(AV.c ((Value.float .f64 ((floatBits BinOp.mul FloatKind.f64 (floatOfInt FloatKind.f64 v) (pwB e.natAbs)).getD (0 : Nat))))),
 (AV.c ((Value.bool true)))]), [(((0 : Int) : Int) ≤ ((0 : Int))),
 (((0 : Int) : Int) < ((↑((45 : UInt8) :: b).length : Int))),
 (((0 : Int) : Int) ≤ ((1 : Int))),
 (((1 : Int) : Int) ≤ ((↑((45 : UInt8) :: b).length : Int))),
 (((↑((45 : UInt8) :: b).length : Int) : Int) ≤ ((↑((45 : UInt8) :: b).length : Int))),
 ((List.drop (Int.toNat (1 : Int)) (List.take ((45 : UInt8) :: b).length ((45 : UInt8) :: b)) : List UInt8)) = (b),
 ((b.length : Nat) ≤ ((1000000000 : Nat))),
 (((↑(ldD b) : Int) : Int)) = ((↑n : Int)),
 (((0 : Int) : Int) ≤ ((0 : Int))),
 (((0 : Int) : Int) ≤ ((↑n : Int))),
 (((↑n : Int) : Int) ≤ ((↑b.length : Int))),
 ((List.drop (Int.toNat (0 : Int)) (List.take n b) : List UInt8)) = (d),
 (((0 : Int) : Int) ≤ ((↑n : Int))),
 (((↑n : Int) : Int) ≤ ((↑b.length : Int))),
 (((↑b.length : Int) : Int) ≤ ((↑b.length : Int))),
 ((List.drop n (List.take b.length b) : List UInt8)) = ([]),
 ((d.length : Nat) ≤ ((1000000000 : Nat))),
 (((↑(wV d) : Int) : Int)) = (v),
 ((wOK d : Bool)) = (ok),
 (((0 : Nat) : Nat) ≤ ((999999990 : Nat))),
 ((0 : Int)) = (x),
 ((true : Bool)) = (ox),
 ((IntKind.i64.min : Int) ≤ (x - (0 : Int))),
 ((x - (0 : Int) : Int) ≤ (IntKind.i64.max)),
 ((x - (0 : Int) : Int)) = (e),
 ((!ok : Bool)) = (false),
 ((!ox : Bool)) = (false),
 ((decide ((↑d.length : Int) > (15 : Int)) : Bool)) = (false),
 ((decide (e < (-22 : Int)) : Bool)) = (false),
 ((decide (e > (22 : Int)) : Bool)) = (false),
 ((lbody Try.prog (12 : FuncId) (21 : Nat) : Go.Code)) = (lbody Try.prog (12 : FuncId) (21 : Nat)),
 ((pwS true v e (4607182418800017408 : Nat) (0 : Nat) : Go.Proofs.Ytigglgobiofalaa.St)) = (pwS true v e (4607182418800017408 : Nat) (0 : Nat)),
 ((decide (e < (0 : Int)) : Bool)) = (false),
 (((floatBits BinOp.mul FloatKind.f64 (floatOfInt FloatKind.f64 v) (pwB e.natAbs)).isSome : Bool)) = (true),
 ((v != (0 : Int) : Bool)) = (false)]) := by kernel_rfl

theorem rfEt_all (b d : List UInt8) (v x e : Int) (n : Nat) (ok ox : Bool) (hn : ldD b = n) (hd : List.take n b = d) (hz : List.drop n b = []) (hv : (wV d : Int) = v) (hok : wOK d = ok) (hx : (expoF ([])).getD 0 = x) (hox : (expoF ([])).isSome = ox) (he : x - 0 = e) (hl : b.length ≤ 999999980) (hnl : n ≤ b.length) (hal : d.length ≤ b.length) (hx1 : -9999 ≤ x) (hx2 : x ≤ 9999) (hs : wOKs v e) : ∃ (h : Hints) (p : List Prop), outcome Try.prog 12 (aBody Try.prog clF h (lpBy (rfLp true v e)) 60 12 ([.c (str (45 :: b))]) ([])) = some (fltG true ok ox d.length v e, p) ∧ allP p := by
  cases hc70 : (!ok : Bool) with
  | true =>
    have eR := rfEt_1 b d v x e n ok ox
    refine ⟨_, _, eR.trans (congrArg (fun r => some (r, _)) ?_), ?_⟩
    · try clear eR
      unfold fltG wordF
      try simp only [decide_eq_true_eq, decide_eq_false_iff_not] at hc78
      try simp only [decide_eq_true_eq, decide_eq_false_iff_not] at hc82
      try simp only [decide_eq_true_eq, decide_eq_false_iff_not] at hc86
      try simp only [decide_eq_true_eq, decide_eq_false_iff_not] at hc104
      try simp only [bne_iff_ne, bne_eq_false_iff_eq, ne_eq] at hc114
      first
        | rw [if_neg (by rintro ⟨a1, a2, a3, a4, a5⟩; omega)]
        | rw [if_neg (by rintro ⟨a1, a2, a3, a4, a5⟩; rw [a1] at hc70; exact absurd hc70 (by decide))]
        | rw [if_neg (by rintro ⟨a1, a2, a3, a4, a5⟩; rw [a2] at hc73; exact absurd hc73 (by decide))]
        | (rw [if_pos ⟨by simpa using hc70, by simpa using hc73, by omega, by omega, by omega⟩]
           first
             | simp only [hc104, hc114, if_true, if_false, Bool.false_eq_true, false_and, true_and, ne_eq, not_true_eq_false, not_false_eq_true]
             | simp only [hc104, if_true, if_false, Bool.false_eq_true, false_and, true_and])
    · try simp only [decide_eq_true_eq, decide_eq_false_iff_not] at hc78
      try simp only [decide_eq_true_eq, decide_eq_false_iff_not] at hc82
      try simp only [decide_eq_true_eq, decide_eq_false_iff_not] at hc86
      try simp only [decide_eq_true_eq, decide_eq_false_iff_not] at hc104
      simp only [allP, List.take_length, toNat0, toNat1, List.take_succ_cons, List.drop_succ_cons, List.drop_zero, sb_mk]
      simp only [List.length_cons, List.length_take, i64_min, i64_max, and_true, true_and, decide_eq_true_eq, decide_eq_false_iff_not, beq_eq_false_iff_ne, bne_iff_ne, bne_eq_false_iff_eq, ne_eq]
      repeat' apply And.intro
      all_goals first | omega | exact hd | exact hz | exact hok | exact hox | exact hx | exact hc70 | exact hc73 | exact (hs (by omega) (by omega)).1 hc104 | exact (hs (by omega) (by omega)).2 hc104 | (simpa using hc114)
  | false =>
    cases hc73 : (!ox : Bool) with
    | true =>
      have eR := rfEt_2 b d v x e n ok ox
      refine ⟨_, _, eR.trans (congrArg (fun r => some (r, _)) ?_), ?_⟩
      · try clear eR
        unfold fltG wordF
        try simp only [decide_eq_true_eq, decide_eq_false_iff_not] at hc78
        try simp only [decide_eq_true_eq, decide_eq_false_iff_not] at hc82
        try simp only [decide_eq_true_eq, decide_eq_false_iff_not] at hc86
        try simp only [decide_eq_true_eq, decide_eq_false_iff_not] at hc104
        try simp only [bne_iff_ne, bne_eq_false_iff_eq, ne_eq] at hc114
        first
          | rw [if_neg (by rintro ⟨a1, a2, a3, a4, a5⟩; omega)]
          | rw [if_neg (by rintro ⟨a1, a2, a3, a4, a5⟩; rw [a1] at hc70; exact absurd hc70 (by decide))]
          | rw [if_neg (by rintro ⟨a1, a2, a3, a4, a5⟩; rw [a2] at hc73; exact absurd hc73 (by decide))]
          | (rw [if_pos ⟨by simpa using hc70, by simpa using hc73, by omega, by omega, by omega⟩]
             first
               | simp only [hc104, hc114, if_true, if_false, Bool.false_eq_true, false_and, true_and, ne_eq, not_true_eq_false, not_false_eq_true]
               | simp only [hc104, if_true, if_false, Bool.false_eq_true, false_and, true_and])
      · try simp only [decide_eq_true_eq, decide_eq_false_iff_not] at hc78
        try simp only [decide_eq_true_eq, decide_eq_false_iff_not] at hc82
        try simp only [decide_eq_true_eq, decide_eq_false_iff_not] at hc86
        try simp only [decide_eq_true_eq, decide_eq_false_iff_not] at hc104
        simp only [allP, List.take_length, toNat0, toNat1, List.take_succ_cons, List.drop_succ_cons, List.drop_zero, sb_mk]
        simp only [List.length_cons, List.length_take, i64_min, i64_max, and_true, true_and, decide_eq_true_eq, decide_eq_false_iff_not, beq_eq_false_iff_ne, bne_iff_ne, bne_eq_false_iff_eq, ne_eq]
        repeat' apply And.intro
        all_goals first | omega | exact hd | exact hz | exact hok | exact hox | exact hx | exact hc70 | exact hc73 | exact (hs (by omega) (by omega)).1 hc104 | exact (hs (by omega) (by omega)).2 hc104 | (simpa using hc114)
    | false =>
      cases hc78 : (decide ((↑d.length : Int) > (15 : Int)) : Bool) with
      | true =>
        have eR := rfEt_3 b d v x e n ok ox
        refine ⟨_, _, eR.trans (congrArg (fun r => some (r, _)) ?_), ?_⟩
        · try clear eR
          unfold fltG wordF
          try simp only [decide_eq_true_eq, decide_eq_false_iff_not] at hc78
          try simp only [decide_eq_true_eq, decide_eq_false_iff_not] at hc82
          try simp only [decide_eq_true_eq, decide_eq_false_iff_not] at hc86
          try simp only [decide_eq_true_eq, decide_eq_false_iff_not] at hc104
          try simp only [bne_iff_ne, bne_eq_false_iff_eq, ne_eq] at hc114
          first
            | rw [if_neg (by rintro ⟨a1, a2, a3, a4, a5⟩; omega)]
            | rw [if_neg (by rintro ⟨a1, a2, a3, a4, a5⟩; rw [a1] at hc70; exact absurd hc70 (by decide))]
            | rw [if_neg (by rintro ⟨a1, a2, a3, a4, a5⟩; rw [a2] at hc73; exact absurd hc73 (by decide))]
            | (rw [if_pos ⟨by simpa using hc70, by simpa using hc73, by omega, by omega, by omega⟩]
               first
                 | simp only [hc104, hc114, if_true, if_false, Bool.false_eq_true, false_and, true_and, ne_eq, not_true_eq_false, not_false_eq_true]
                 | simp only [hc104, if_true, if_false, Bool.false_eq_true, false_and, true_and])
        · try simp only [decide_eq_true_eq, decide_eq_false_iff_not] at hc78
          try simp only [decide_eq_true_eq, decide_eq_false_iff_not] at hc82
          try simp only [decide_eq_true_eq, decide_eq_false_iff_not] at hc86
          try simp only [decide_eq_true_eq, decide_eq_false_iff_not] at hc104
          simp only [allP, List.take_length, toNat0, toNat1, List.take_succ_cons, List.drop_succ_cons, List.drop_zero, sb_mk]
          simp only [List.length_cons, List.length_take, i64_min, i64_max, and_true, true_and, decide_eq_true_eq, decide_eq_false_iff_not, beq_eq_false_iff_ne, bne_iff_ne, bne_eq_false_iff_eq, ne_eq]
          repeat' apply And.intro
          all_goals first | omega | exact hd | exact hz | exact hok | exact hox | exact hx | exact hc70 | exact hc73 | exact (hs (by omega) (by omega)).1 hc104 | exact (hs (by omega) (by omega)).2 hc104 | (simpa using hc114)
      | false =>
        cases hc82 : (decide (e < (-22 : Int)) : Bool) with
        | true =>
          have eR := rfEt_4 b d v x e n ok ox
          refine ⟨_, _, eR.trans (congrArg (fun r => some (r, _)) ?_), ?_⟩
          · try clear eR
            unfold fltG wordF
            try simp only [decide_eq_true_eq, decide_eq_false_iff_not] at hc78
            try simp only [decide_eq_true_eq, decide_eq_false_iff_not] at hc82
            try simp only [decide_eq_true_eq, decide_eq_false_iff_not] at hc86
            try simp only [decide_eq_true_eq, decide_eq_false_iff_not] at hc104
            try simp only [bne_iff_ne, bne_eq_false_iff_eq, ne_eq] at hc114
            first
              | rw [if_neg (by rintro ⟨a1, a2, a3, a4, a5⟩; omega)]
              | rw [if_neg (by rintro ⟨a1, a2, a3, a4, a5⟩; rw [a1] at hc70; exact absurd hc70 (by decide))]
              | rw [if_neg (by rintro ⟨a1, a2, a3, a4, a5⟩; rw [a2] at hc73; exact absurd hc73 (by decide))]
              | (rw [if_pos ⟨by simpa using hc70, by simpa using hc73, by omega, by omega, by omega⟩]
                 first
                   | simp only [hc104, hc114, if_true, if_false, Bool.false_eq_true, false_and, true_and, ne_eq, not_true_eq_false, not_false_eq_true]
                   | simp only [hc104, if_true, if_false, Bool.false_eq_true, false_and, true_and])
          · try simp only [decide_eq_true_eq, decide_eq_false_iff_not] at hc78
            try simp only [decide_eq_true_eq, decide_eq_false_iff_not] at hc82
            try simp only [decide_eq_true_eq, decide_eq_false_iff_not] at hc86
            try simp only [decide_eq_true_eq, decide_eq_false_iff_not] at hc104
            simp only [allP, List.take_length, toNat0, toNat1, List.take_succ_cons, List.drop_succ_cons, List.drop_zero, sb_mk]
            simp only [List.length_cons, List.length_take, i64_min, i64_max, and_true, true_and, decide_eq_true_eq, decide_eq_false_iff_not, beq_eq_false_iff_ne, bne_iff_ne, bne_eq_false_iff_eq, ne_eq]
            repeat' apply And.intro
            all_goals first | omega | exact hd | exact hz | exact hok | exact hox | exact hx | exact hc70 | exact hc73 | exact (hs (by omega) (by omega)).1 hc104 | exact (hs (by omega) (by omega)).2 hc104 | (simpa using hc114)
        | false =>
          cases hc86 : (decide (e > (22 : Int)) : Bool) with
          | true =>
            have eR := rfEt_5 b d v x e n ok ox
            refine ⟨_, _, eR.trans (congrArg (fun r => some (r, _)) ?_), ?_⟩
            · try clear eR
              unfold fltG wordF
              try simp only [decide_eq_true_eq, decide_eq_false_iff_not] at hc78
              try simp only [decide_eq_true_eq, decide_eq_false_iff_not] at hc82
              try simp only [decide_eq_true_eq, decide_eq_false_iff_not] at hc86
              try simp only [decide_eq_true_eq, decide_eq_false_iff_not] at hc104
              try simp only [bne_iff_ne, bne_eq_false_iff_eq, ne_eq] at hc114
              first
                | rw [if_neg (by rintro ⟨a1, a2, a3, a4, a5⟩; omega)]
                | rw [if_neg (by rintro ⟨a1, a2, a3, a4, a5⟩; rw [a1] at hc70; exact absurd hc70 (by decide))]
                | rw [if_neg (by rintro ⟨a1, a2, a3, a4, a5⟩; rw [a2] at hc73; exact absurd hc73 (by decide))]
                | (rw [if_pos ⟨by simpa using hc70, by simpa using hc73, by omega, by omega, by omega⟩]
                   first
                     | simp only [hc104, hc114, if_true, if_false, Bool.false_eq_true, false_and, true_and, ne_eq, not_true_eq_false, not_false_eq_true]
                     | simp only [hc104, if_true, if_false, Bool.false_eq_true, false_and, true_and])
            · try simp only [decide_eq_true_eq, decide_eq_false_iff_not] at hc78
              try simp only [decide_eq_true_eq, decide_eq_false_iff_not] at hc82
              try simp only [decide_eq_true_eq, decide_eq_false_iff_not] at hc86
              try simp only [decide_eq_true_eq, decide_eq_false_iff_not] at hc104
              simp only [allP, List.take_length, toNat0, toNat1, List.take_succ_cons, List.drop_succ_cons, List.drop_zero, sb_mk]
              simp only [List.length_cons, List.length_take, i64_min, i64_max, and_true, true_and, decide_eq_true_eq, decide_eq_false_iff_not, beq_eq_false_iff_ne, bne_iff_ne, bne_eq_false_iff_eq, ne_eq]
              repeat' apply And.intro
              all_goals first | omega | exact hd | exact hz | exact hok | exact hox | exact hx | exact hc70 | exact hc73 | exact (hs (by omega) (by omega)).1 hc104 | exact (hs (by omega) (by omega)).2 hc104 | (simpa using hc114)
          | false =>
            cases hc104 : (decide (e < (0 : Int)) : Bool) with
            | true =>
              cases hc114 : (v != (0 : Int) : Bool) with
              | true =>
                have eR := rfEt_6 b d v x e n ok ox
                refine ⟨_, _, eR.trans (congrArg (fun r => some (r, _)) ?_), ?_⟩
                · try clear eR
                  unfold fltG wordF
                  try simp only [decide_eq_true_eq, decide_eq_false_iff_not] at hc78
                  try simp only [decide_eq_true_eq, decide_eq_false_iff_not] at hc82
                  try simp only [decide_eq_true_eq, decide_eq_false_iff_not] at hc86
                  try simp only [decide_eq_true_eq, decide_eq_false_iff_not] at hc104
                  try simp only [bne_iff_ne, bne_eq_false_iff_eq, ne_eq] at hc114
                  first
                    | rw [if_neg (by rintro ⟨a1, a2, a3, a4, a5⟩; omega)]
                    | rw [if_neg (by rintro ⟨a1, a2, a3, a4, a5⟩; rw [a1] at hc70; exact absurd hc70 (by decide))]
                    | rw [if_neg (by rintro ⟨a1, a2, a3, a4, a5⟩; rw [a2] at hc73; exact absurd hc73 (by decide))]
                    | (rw [if_pos ⟨by simpa using hc70, by simpa using hc73, by omega, by omega, by omega⟩]
                       first
                         | simp only [hc104, hc114, if_true, if_false, Bool.false_eq_true, false_and, true_and, ne_eq, not_true_eq_false, not_false_eq_true]
                         | simp only [hc104, if_true, if_false, Bool.false_eq_true, false_and, true_and])
                · try simp only [decide_eq_true_eq, decide_eq_false_iff_not] at hc78
                  try simp only [decide_eq_true_eq, decide_eq_false_iff_not] at hc82
                  try simp only [decide_eq_true_eq, decide_eq_false_iff_not] at hc86
                  try simp only [decide_eq_true_eq, decide_eq_false_iff_not] at hc104
                  simp only [allP, List.take_length, toNat0, toNat1, List.take_succ_cons, List.drop_succ_cons, List.drop_zero, sb_mk]
                  simp only [List.length_cons, List.length_take, i64_min, i64_max, and_true, true_and, decide_eq_true_eq, decide_eq_false_iff_not, beq_eq_false_iff_ne, bne_iff_ne, bne_eq_false_iff_eq, ne_eq]
                  repeat' apply And.intro
                  all_goals first | omega | exact hd | exact hz | exact hok | exact hox | exact hx | exact hc70 | exact hc73 | exact (hs (by omega) (by omega)).1 hc104 | exact (hs (by omega) (by omega)).2 hc104 | (simpa using hc114)
              | false =>
                have eR := rfEt_7 b d v x e n ok ox
                refine ⟨_, _, eR.trans (congrArg (fun r => some (r, _)) ?_), ?_⟩
                · try clear eR
                  unfold fltG wordF
                  try simp only [decide_eq_true_eq, decide_eq_false_iff_not] at hc78
                  try simp only [decide_eq_true_eq, decide_eq_false_iff_not] at hc82
                  try simp only [decide_eq_true_eq, decide_eq_false_iff_not] at hc86
                  try simp only [decide_eq_true_eq, decide_eq_false_iff_not] at hc104
                  try simp only [bne_iff_ne, bne_eq_false_iff_eq, ne_eq] at hc114
                  first
                    | rw [if_neg (by rintro ⟨a1, a2, a3, a4, a5⟩; omega)]
                    | rw [if_neg (by rintro ⟨a1, a2, a3, a4, a5⟩; rw [a1] at hc70; exact absurd hc70 (by decide))]
                    | rw [if_neg (by rintro ⟨a1, a2, a3, a4, a5⟩; rw [a2] at hc73; exact absurd hc73 (by decide))]
                    | (rw [if_pos ⟨by simpa using hc70, by simpa using hc73, by omega, by omega, by omega⟩]
                       first
                         | simp only [hc104, hc114, if_true, if_false, Bool.false_eq_true, false_and, true_and, ne_eq, not_true_eq_false, not_false_eq_true]
                         | simp only [hc104, if_true, if_false, Bool.false_eq_true, false_and, true_and])
                · try simp only [decide_eq_true_eq, decide_eq_false_iff_not] at hc78
                  try simp only [decide_eq_true_eq, decide_eq_false_iff_not] at hc82
                  try simp only [decide_eq_true_eq, decide_eq_false_iff_not] at hc86
                  try simp only [decide_eq_true_eq, decide_eq_false_iff_not] at hc104
                  simp only [allP, List.take_length, toNat0, toNat1, List.take_succ_cons, List.drop_succ_cons, List.drop_zero, sb_mk]
                  simp only [List.length_cons, List.length_take, i64_min, i64_max, and_true, true_and, decide_eq_true_eq, decide_eq_false_iff_not, beq_eq_false_iff_ne, bne_iff_ne, bne_eq_false_iff_eq, ne_eq]
                  repeat' apply And.intro
                  all_goals first | omega | exact hd | exact hz | exact hok | exact hox | exact hx | exact hc70 | exact hc73 | exact (hs (by omega) (by omega)).1 hc104 | exact (hs (by omega) (by omega)).2 hc104 | (simpa using hc114)
            | false =>
              cases hc114 : (v != (0 : Int) : Bool) with
              | true =>
                have eR := rfEt_8 b d v x e n ok ox
                refine ⟨_, _, eR.trans (congrArg (fun r => some (r, _)) ?_), ?_⟩
                · try clear eR
                  unfold fltG wordF
                  try simp only [decide_eq_true_eq, decide_eq_false_iff_not] at hc78
                  try simp only [decide_eq_true_eq, decide_eq_false_iff_not] at hc82
                  try simp only [decide_eq_true_eq, decide_eq_false_iff_not] at hc86
                  try simp only [decide_eq_true_eq, decide_eq_false_iff_not] at hc104
                  try simp only [bne_iff_ne, bne_eq_false_iff_eq, ne_eq] at hc114
                  first
                    | rw [if_neg (by rintro ⟨a1, a2, a3, a4, a5⟩; omega)]
                    | rw [if_neg (by rintro ⟨a1, a2, a3, a4, a5⟩; rw [a1] at hc70; exact absurd hc70 (by decide))]
                    | rw [if_neg (by rintro ⟨a1, a2, a3, a4, a5⟩; rw [a2] at hc73; exact absurd hc73 (by decide))]
                    | (rw [if_pos ⟨by simpa using hc70, by simpa using hc73, by omega, by omega, by omega⟩]
                       first
                         | simp only [hc104, hc114, if_true, if_false, Bool.false_eq_true, false_and, true_and, ne_eq, not_true_eq_false, not_false_eq_true]
                         | simp only [hc104, if_true, if_false, Bool.false_eq_true, false_and, true_and])
                · try simp only [decide_eq_true_eq, decide_eq_false_iff_not] at hc78
                  try simp only [decide_eq_true_eq, decide_eq_false_iff_not] at hc82
                  try simp only [decide_eq_true_eq, decide_eq_false_iff_not] at hc86
                  try simp only [decide_eq_true_eq, decide_eq_false_iff_not] at hc104
                  simp only [allP, List.take_length, toNat0, toNat1, List.take_succ_cons, List.drop_succ_cons, List.drop_zero, sb_mk]
                  simp only [List.length_cons, List.length_take, i64_min, i64_max, and_true, true_and, decide_eq_true_eq, decide_eq_false_iff_not, beq_eq_false_iff_ne, bne_iff_ne, bne_eq_false_iff_eq, ne_eq]
                  repeat' apply And.intro
                  all_goals first | omega | exact hd | exact hz | exact hok | exact hox | exact hx | exact hc70 | exact hc73 | exact (hs (by omega) (by omega)).1 hc104 | exact (hs (by omega) (by omega)).2 hc104 | (simpa using hc114)
              | false =>
                have eR := rfEt_9 b d v x e n ok ox
                refine ⟨_, _, eR.trans (congrArg (fun r => some (r, _)) ?_), ?_⟩
                · try clear eR
                  unfold fltG wordF
                  try simp only [decide_eq_true_eq, decide_eq_false_iff_not] at hc78
                  try simp only [decide_eq_true_eq, decide_eq_false_iff_not] at hc82
                  try simp only [decide_eq_true_eq, decide_eq_false_iff_not] at hc86
                  try simp only [decide_eq_true_eq, decide_eq_false_iff_not] at hc104
                  try simp only [bne_iff_ne, bne_eq_false_iff_eq, ne_eq] at hc114
                  first
                    | rw [if_neg (by rintro ⟨a1, a2, a3, a4, a5⟩; omega)]
                    | rw [if_neg (by rintro ⟨a1, a2, a3, a4, a5⟩; rw [a1] at hc70; exact absurd hc70 (by decide))]
                    | rw [if_neg (by rintro ⟨a1, a2, a3, a4, a5⟩; rw [a2] at hc73; exact absurd hc73 (by decide))]
                    | (rw [if_pos ⟨by simpa using hc70, by simpa using hc73, by omega, by omega, by omega⟩]
                       first
                         | simp only [hc104, hc114, if_true, if_false, Bool.false_eq_true, false_and, true_and, ne_eq, not_true_eq_false, not_false_eq_true]
                         | simp only [hc104, if_true, if_false, Bool.false_eq_true, false_and, true_and])
                · try simp only [decide_eq_true_eq, decide_eq_false_iff_not] at hc78
                  try simp only [decide_eq_true_eq, decide_eq_false_iff_not] at hc82
                  try simp only [decide_eq_true_eq, decide_eq_false_iff_not] at hc86
                  try simp only [decide_eq_true_eq, decide_eq_false_iff_not] at hc104
                  simp only [allP, List.take_length, toNat0, toNat1, List.take_succ_cons, List.drop_succ_cons, List.drop_zero, sb_mk]
                  simp only [List.length_cons, List.length_take, i64_min, i64_max, and_true, true_and, decide_eq_true_eq, decide_eq_false_iff_not, beq_eq_false_iff_ne, bne_iff_ne, bne_eq_false_iff_eq, ne_eq]
                  repeat' apply And.intro
                  all_goals first | omega | exact hd | exact hz | exact hok | exact hox | exact hx | exact hc70 | exact hc73 | exact (hs (by omega) (by omega)).1 hc104 | exact (hs (by omega) (by omega)).2 hc104 | (simpa using hc114)


theorem rfZf_1 (b d z : List UInt8) (k n : Nat) : outcome Try.prog 12 (aBody Try.prog clF ⟨true, bs [] ++ (bs [(17, true), (21, false), (35, true), (39, true), (45, true)] ++ [(27, ⟨.c (.int .i64 n), none⟩), (30, ⟨.c (str d), none⟩), (33, ⟨.c (str (46 :: z)), none⟩), (42, ⟨.c (str z), none⟩), (43, ⟨.c (.int .i64 k), none⟩)])⟩ (lpBy ([])) 60 12 ([.c (str (b))]) ([])) = some ((AV.tu [(AV.c ((Value.float .f64 0))),
 (AV.c ((Value.bool false)))]), [((!b == [] : Bool)) = (true),
 (((0 : Int) : Int) ≤ ((0 : Int))),
 (((0 : Int) : Int) < ((↑b.length : Int))),
 (((↑(b.getD (Int.toNat (0 : Int)) (0 : UInt8)).toNat : Int) == (45 : Int) : Bool)) = (false),
 ((b.length : Nat) ≤ ((1000000000 : Nat))),
 (((↑(ldD b) : Int) : Int)) = ((↑n : Int)),
 (((0 : Int) : Int) ≤ ((0 : Int))),
 (((0 : Int) : Int) ≤ ((↑n : Int))),
 (((↑n : Int) : Int) ≤ ((↑b.length : Int))),
 ((List.drop (Int.toNat (0 : Int)) (List.take n b) : List UInt8)) = (d),
 (((0 : Int) : Int) ≤ ((↑n : Int))),
 (((↑n : Int) : Int) ≤ ((↑b.length : Int))),
 (((↑b.length : Int) : Int) ≤ ((↑b.length : Int))),
 ((List.drop n (List.take b.length b) : List UInt8)) = ((46 : UInt8) :: z),
 ((true : Bool)) = (true),
 (((0 : Int) : Int) ≤ ((0 : Int))),
 (((0 : Int) : Int) < ((↑((46 : UInt8) :: z).length : Int))),
 ((true : Bool)) = (true),
 (((0 : Int) : Int) ≤ ((1 : Int))),
 (((1 : Int) : Int) ≤ ((↑((46 : UInt8) :: z).length : Int))),
 (((↑((46 : UInt8) :: z).length : Int) : Int) ≤ ((↑((46 : UInt8) :: z).length : Int))),
 ((List.drop (Int.toNat (1 : Int)) (List.take ((46 : UInt8) :: z).length ((46 : UInt8) :: z)) : List UInt8)) = (z),
 ((z.length : Nat) ≤ ((1000000000 : Nat))),
 (((↑(ldD z) : Int) : Int)) = ((↑k : Int)),
 (((↑k : Int) == (0 : Int) : Bool)) = (true)]) := by kernel_rfl

theorem rfZf_all (b d z : List UInt8) (k n : Nat) (hn : ldD b = n) (hd : List.take n b = d) (hz : List.drop n b = 46 :: z) (hk : ldD z = k) (hk0 : k = 0) (hl : b.length ≤ 999999980) (hnl : n ≤ b.length) (hzl : z.length < b.length) (hb0 : b ≠ []) (hb1 : ¬ ((b.getD 0 0).toNat : Int) = 45) (hb2 : 0 < b.length) : ∃ (h : Hints) (p : List Prop), outcome Try.prog 12 (aBody Try.prog clF h (lpBy ([])) 60 12 ([.c (str (b))]) ([])) = some (.tu [.c (.float .f64 0), .c (.bool false)], p) ∧ allP p := by
  have eR := rfZf_1 b d z k n
  refine ⟨_, _, eR.trans (congrArg (fun r => some (r, _)) ?_), ?_⟩
  · rfl
  · simp only [allP, List.take_length, toNat0, toNat1, List.take_succ_cons, List.drop_succ_cons, List.drop_zero, sb_mk]
    simp only [List.length_cons, List.length_take, i64_min, i64_max, and_true, true_and, decide_eq_true_eq, decide_eq_false_iff_not, beq_eq_false_iff_ne, beq_iff_eq, bne_iff_ne, bne_eq_false_iff_eq, ne_eq]
    repeat' apply And.intro
    all_goals first | omega | exact hd | exact hz | exact hb1 | (simpa using hb0)



theorem rfNf_1 (b d z : List UInt8) (c : UInt8) (v x e : Int) (n : Nat) (ok ox : Bool) : outcome Try.prog 12 (aBody Try.prog clF ⟨true, bs [(70, true)] ++ (bs [(17, true), (21, false), (35, true), (39, false)] ++ [(27, ⟨.c (.int .i64 n), none⟩), (30, ⟨.c (str d), none⟩), (33, ⟨.c (str (c :: z)), none⟩), (59, ⟨.c (.int .i64 v), none⟩), (60, ⟨.c (.bool ok), none⟩), (64, ⟨.c (.int .i64 x), none⟩), (65, ⟨.c (.bool ox), none⟩), (68, ⟨.c (.int .i64 e), none⟩)])⟩ (lpBy (rfLp false v e)) 60 12 ([.c (str (b))]) ([])) = some ((AV.tu [(AV.c ((Value.float .f64 0))),
 (AV.c ((Value.bool false)))]), [((!b == [] : Bool)) = (true),
 (((0 : Int) : Int) ≤ ((0 : Int))),
 (((0 : Int) : Int) < ((↑b.length : Int))),
 (((↑(b.getD (Int.toNat (0 : Int)) (0 : UInt8)).toNat : Int) == (45 : Int) : Bool)) = (false),
 ((b.length : Nat) ≤ ((1000000000 : Nat))),
 (((↑(ldD b) : Int) : Int)) = ((↑n : Int)),
 (((0 : Int) : Int) ≤ ((0 : Int))),
 (((0 : Int) : Int) ≤ ((↑n : Int))),
 (((↑n : Int) : Int) ≤ ((↑b.length : Int))),
 ((List.drop (Int.toNat (0 : Int)) (List.take n b) : List UInt8)) = (d),
 (((0 : Int) : Int) ≤ ((↑n : Int))),
 (((↑n : Int) : Int) ≤ ((↑b.length : Int))),
 (((↑b.length : Int) : Int) ≤ ((↑b.length : Int))),
 ((List.drop n (List.take b.length b) : List UInt8)) = (c :: z),
 ((true : Bool)) = (true),
 (((0 : Int) : Int) ≤ ((0 : Int))),
 (((0 : Int) : Int) < ((↑(c :: z).length : Int))),
 (((↑((c :: z).getD (Int.toNat (0 : Int)) (0 : UInt8)).toNat : Int) == (46 : Int) : Bool)) = (false),
 ((d.length : Nat) ≤ ((1000000000 : Nat))),
 (((↑(wV d) : Int) : Int)) = (v),
 ((wOK d : Bool)) = (ok),
 (((c :: z).length : Nat) ≤ ((999999990 : Nat))),
 (((expoF (sb { data := { toList := c :: z } })).getD (0 : Int) : Int)) = (x),
 (((expoF (sb { data := { toList := c :: z } })).isSome : Bool)) = (ox),
 ((IntKind.i64.min : Int) ≤ (x - (0 : Int))),
 ((x - (0 : Int) : Int) ≤ (IntKind.i64.max)),
 ((x - (0 : Int) : Int)) = (e),
 ((!ok : Bool)) = (true)]) := by kernel_rfl

theorem rfNf_2 (b d z : List UInt8) (c : UInt8) (v x e : Int) (n : Nat) (ok ox : Bool) : outcome Try.prog 12 (aBody Try.prog clF ⟨true, bs [(70, false), (73, true)] ++ (bs [(17, true), (21, false), (35, true), (39, false)] ++ [(27, ⟨.c (.int .i64 n), none⟩), (30, ⟨.c (str d), none⟩), (33, ⟨.c (str (c :: z)), none⟩), (59, ⟨.c (.int .i64 v), none⟩), (60, ⟨.c (.bool ok), none⟩), (64, ⟨.c (.int .i64 x), none⟩), (65, ⟨.c (.bool ox), none⟩), (68, ⟨.c (.int .i64 e), none⟩)])⟩ (lpBy (rfLp false v e)) 60 12 ([.c (str (b))]) ([])) = some ((AV.tu [(AV.c ((Value.float .f64 0))),
 (AV.c ((Value.bool false)))]), [((!b == [] : Bool)) = (true),
 (((0 : Int) : Int) ≤ ((0 : Int))),
 (((0 : Int) : Int) < ((↑b.length : Int))),
 (((↑(b.getD (Int.toNat (0 : Int)) (0 : UInt8)).toNat : Int) == (45 : Int) : Bool)) = (false),
 ((b.length : Nat) ≤ ((1000000000 : Nat))),
 (((↑(ldD b) : Int) : Int)) = ((↑n : Int)),
 (((0 : Int) : Int) ≤ ((0 : Int))),
 (((0 : Int) : Int) ≤ ((↑n : Int))),
 (((↑n : Int) : Int) ≤ ((↑b.length : Int))),
 ((List.drop (Int.toNat (0 : Int)) (List.take n b) : List UInt8)) = (d),
 (((0 : Int) : Int) ≤ ((↑n : Int))),
 (((↑n : Int) : Int) ≤ ((↑b.length : Int))),
 (((↑b.length : Int) : Int) ≤ ((↑b.length : Int))),
 ((List.drop n (List.take b.length b) : List UInt8)) = (c :: z),
 ((true : Bool)) = (true),
 (((0 : Int) : Int) ≤ ((0 : Int))),
 (((0 : Int) : Int) < ((↑(c :: z).length : Int))),
 (((↑((c :: z).getD (Int.toNat (0 : Int)) (0 : UInt8)).toNat : Int) == (46 : Int) : Bool)) = (false),
 ((d.length : Nat) ≤ ((1000000000 : Nat))),
 (((↑(wV d) : Int) : Int)) = (v),
 ((wOK d : Bool)) = (ok),
 (((c :: z).length : Nat) ≤ ((999999990 : Nat))),
 (((expoF (sb { data := { toList := c :: z } })).getD (0 : Int) : Int)) = (x),
 (((expoF (sb { data := { toList := c :: z } })).isSome : Bool)) = (ox),
 ((IntKind.i64.min : Int) ≤ (x - (0 : Int))),
 ((x - (0 : Int) : Int) ≤ (IntKind.i64.max)),
 ((x - (0 : Int) : Int)) = (e),
 ((!ok : Bool)) = (false),
 ((!ox : Bool)) = (true)]) := by kernel_rfl

theorem rfNf_3 (b d z : List UInt8) (c : UInt8) (v x e : Int) (n : Nat) (ok ox : Bool) : outcome Try.prog 12 (aBody Try.prog clF ⟨true, bs [(70, false), (73, false), (78, true)] ++ (bs [(17, true), (21, false), (35, true), (39, false)] ++ [(27, ⟨.c (.int .i64 n), none⟩), (30, ⟨.c (str d), none⟩), (33, ⟨.c (str (c :: z)), none⟩), (59, ⟨.c (.int .i64 v), none⟩), (60, ⟨.c (.bool ok), none⟩), (64, ⟨.c (.int .i64 x), none⟩), (65, ⟨.c (.bool ox), none⟩), (68, ⟨.c (.int .i64 e), none⟩)])⟩ (lpBy (rfLp false v e)) 60 12 ([.c (str (b))]) ([])) = some ((AV.tu [(AV.c ((Value.float .f64 0))),
 (AV.c ((Value.bool false)))]), [((!b == [] : Bool)) = (true),
 (((0 : Int) : Int) ≤ ((0 : Int))),
 (((0 : Int) : Int) < ((↑b.length : Int))),
 (((↑(b.getD (Int.toNat (0 : Int)) (0 : UInt8)).toNat : Int) == (45 : Int) : Bool)) = (false),
 ((b.length : Nat) ≤ ((1000000000 : Nat))),
 (((↑(ldD b) : Int) : Int)) = ((↑n : Int)),
 (((0 : Int) : Int) ≤ ((0 : Int))),
 (((0 : Int) : Int) ≤ ((↑n : Int))),
 (((↑n : Int) : Int) ≤ ((↑b.length : Int))),
 ((List.drop (Int.toNat (0 : Int)) (List.take n b) : List UInt8)) = (d),
 (((0 : Int) : Int) ≤ ((↑n : Int))),
 (((↑n : Int) : Int) ≤ ((↑b.length : Int))),
 (((↑b.length : Int) : Int) ≤ ((↑b.length : Int))),
 ((List.drop n (List.take b.length b) : List UInt8)) = (c :: z),
 ((true : Bool)) = (true),
 (((0 : Int) : Int) ≤ ((0 : Int))),
 (((0 : Int) : Int) < ((↑(c :: z).length : Int))),
 (((↑((c :: z).getD (Int.toNat (0 : Int)) (0 : UInt8)).toNat : Int) == (46 : Int) : Bool)) = (false),
 ((d.length : Nat) ≤ ((1000000000 : Nat))),
 (((↑(wV d) : Int) : Int)) = (v),
 ((wOK d : Bool)) = (ok),
 (((c :: z).length : Nat) ≤ ((999999990 : Nat))),
 (((expoF (sb { data := { toList := c :: z } })).getD (0 : Int) : Int)) = (x),
 (((expoF (sb { data := { toList := c :: z } })).isSome : Bool)) = (ox),
 ((IntKind.i64.min : Int) ≤ (x - (0 : Int))),
 ((x - (0 : Int) : Int) ≤ (IntKind.i64.max)),
 ((x - (0 : Int) : Int)) = (e),
 ((!ok : Bool)) = (false),
 ((!ox : Bool)) = (false),
 ((decide ((↑d.length : Int) > (15 : Int)) : Bool)) = (true)]) := by kernel_rfl

theorem rfNf_4 (b d z : List UInt8) (c : UInt8) (v x e : Int) (n : Nat) (ok ox : Bool) : outcome Try.prog 12 (aBody Try.prog clF ⟨true, bs [(70, false), (73, false), (78, false), (82, true)] ++ (bs [(17, true), (21, false), (35, true), (39, false)] ++ [(27, ⟨.c (.int .i64 n), none⟩), (30, ⟨.c (str d), none⟩), (33, ⟨.c (str (c :: z)), none⟩), (59, ⟨.c (.int .i64 v), none⟩), (60, ⟨.c (.bool ok), none⟩), (64, ⟨.c (.int .i64 x), none⟩), (65, ⟨.c (.bool ox), none⟩), (68, ⟨.c (.int .i64 e), none⟩)])⟩ (lpBy (rfLp false v e)) 60 12 ([.c (str (b))]) ([])) = some ((AV.tu [(AV.c ((Value.float .f64 0))),
 (AV.c ((Value.bool false)))]), [((!b == [] : Bool)) = (true),
 (((0 : Int) : Int) ≤ ((0 : Int))),
 (((0 : Int) : Int) < ((↑b.length : Int))),
 (((↑(b.getD (Int.toNat (0 : Int)) (0 : UInt8)).toNat : Int) == (45 : Int) : Bool)) = (false),
 ((b.length : Nat) ≤ ((1000000000 : Nat))),
 (((↑(ldD b) : Int) : Int)) = ((↑n : Int)),
 (((0 : Int) : Int) ≤ ((0 : Int))),
 (((0 : Int) : Int) ≤ ((↑n : Int))),
 (((↑n : Int) : Int) ≤ ((↑b.length : Int))),
 ((List.drop (Int.toNat (0 : Int)) (List.take n b) : List UInt8)) = (d),
 (((0 : Int) : Int) ≤ ((↑n : Int))),
 (((↑n : Int) : Int) ≤ ((↑b.length : Int))),
 (((↑b.length : Int) : Int) ≤ ((↑b.length : Int))),
 ((List.drop n (List.take b.length b) : List UInt8)) = (c :: z),
 ((true : Bool)) = (true),
 (((0 : Int) : Int) ≤ ((0 : Int))),
 (((0 : Int) : Int) < ((↑(c :: z).length : Int))),
 (((↑((c :: z).getD (Int.toNat (0 : Int)) (0 : UInt8)).toNat : Int) == (46 : Int) : Bool)) = (false),
 ((d.length : Nat) ≤ ((1000000000 : Nat))),
 (((↑(wV d) : Int) : Int)) = (v),
 ((wOK d : Bool)) = (ok),
 (((c :: z).length : Nat) ≤ ((999999990 : Nat))),
 (((expoF (sb { data := { toList := c :: z } })).getD (0 : Int) : Int)) = (x),
 (((expoF (sb { data := { toList := c :: z } })).isSome : Bool)) = (ox),
 ((IntKind.i64.min : Int) ≤ (x - (0 : Int))),
 ((x - (0 : Int) : Int) ≤ (IntKind.i64.max)),
 ((x - (0 : Int) : Int)) = (e),
 ((!ok : Bool)) = (false),
 ((!ox : Bool)) = (false),
 ((decide ((↑d.length : Int) > (15 : Int)) : Bool)) = (false),
 ((decide (e < (-22 : Int)) : Bool)) = (true)]) := by kernel_rfl

theorem rfNf_5 (b d z : List UInt8) (c : UInt8) (v x e : Int) (n : Nat) (ok ox : Bool) : outcome Try.prog 12 (aBody Try.prog clF ⟨true, bs [(70, false), (73, false), (78, false), (82, false), (86, true)] ++ (bs [(17, true), (21, false), (35, true), (39, false)] ++ [(27, ⟨.c (.int .i64 n), none⟩), (30, ⟨.c (str d), none⟩), (33, ⟨.c (str (c :: z)), none⟩), (59, ⟨.c (.int .i64 v), none⟩), (60, ⟨.c (.bool ok), none⟩), (64, ⟨.c (.int .i64 x), none⟩), (65, ⟨.c (.bool ox), none⟩), (68, ⟨.c (.int .i64 e), none⟩)])⟩ (lpBy (rfLp false v e)) 60 12 ([.c (str (b))]) ([])) = some ((AV.tu [(AV.c ((Value.float .f64 0))),
 (AV.c ((Value.bool false)))]), [((!b == [] : Bool)) = (true),
 (((0 : Int) : Int) ≤ ((0 : Int))),
 (((0 : Int) : Int) < ((↑b.length : Int))),
 (((↑(b.getD (Int.toNat (0 : Int)) (0 : UInt8)).toNat : Int) == (45 : Int) : Bool)) = (false),
 ((b.length : Nat) ≤ ((1000000000 : Nat))),
 (((↑(ldD b) : Int) : Int)) = ((↑n : Int)),
 (((0 : Int) : Int) ≤ ((0 : Int))),
 (((0 : Int) : Int) ≤ ((↑n : Int))),
 (((↑n : Int) : Int) ≤ ((↑b.length : Int))),
 ((List.drop (Int.toNat (0 : Int)) (List.take n b) : List UInt8)) = (d),
 (((0 : Int) : Int) ≤ ((↑n : Int))),
 (((↑n : Int) : Int) ≤ ((↑b.length : Int))),
 (((↑b.length : Int) : Int) ≤ ((↑b.length : Int))),
 ((List.drop n (List.take b.length b) : List UInt8)) = (c :: z),
 ((true : Bool)) = (true),
 (((0 : Int) : Int) ≤ ((0 : Int))),
 (((0 : Int) : Int) < ((↑(c :: z).length : Int))),
 (((↑((c :: z).getD (Int.toNat (0 : Int)) (0 : UInt8)).toNat : Int) == (46 : Int) : Bool)) = (false),
 ((d.length : Nat) ≤ ((1000000000 : Nat))),
 (((↑(wV d) : Int) : Int)) = (v),
 ((wOK d : Bool)) = (ok),
 (((c :: z).length : Nat) ≤ ((999999990 : Nat))),
 (((expoF (sb { data := { toList := c :: z } })).getD (0 : Int) : Int)) = (x),
 (((expoF (sb { data := { toList := c :: z } })).isSome : Bool)) = (ox),
 ((IntKind.i64.min : Int) ≤ (x - (0 : Int))),
 ((x - (0 : Int) : Int) ≤ (IntKind.i64.max)),
 ((x - (0 : Int) : Int)) = (e),
 ((!ok : Bool)) = (false),
 ((!ox : Bool)) = (false),
 ((decide ((↑d.length : Int) > (15 : Int)) : Bool)) = (false),
 ((decide (e < (-22 : Int)) : Bool)) = (false),
 ((decide (e > (22 : Int)) : Bool)) = (true)]) := by kernel_rfl

theorem rfNf_6 (b d z : List UInt8) (c : UInt8) (v x e : Int) (n : Nat) (ok ox : Bool) : outcome Try.prog 12 (aBody Try.prog clF ⟨true, bs [(70, false), (73, false), (78, false), (82, false), (86, false), (104, true)] ++ (bs [(17, true), (21, false), (35, true), (39, false)] ++ [(27, ⟨.c (.int .i64 n), none⟩), (30, ⟨.c (str d), none⟩), (33, ⟨.c (str (c :: z)), none⟩), (59, ⟨.c (.int .i64 v), none⟩), (60, ⟨.c (.bool ok), none⟩), (64, ⟨.c (.int .i64 x), none⟩), (65, ⟨.c (.bool ox), none⟩), (68, ⟨.c (.int .i64 e), none⟩)])⟩ (lpBy (rfLp false v e)) 60 12 ([.c (str (b))]) ([])) = some ((AV.tu [(AV.c ((Value.float .f64 ((floatBits BinOp.quo FloatKind.f64 (floatOfInt FloatKind.f64 v) (pwB e.natAbs)).getD (0 : Nat))))),
 (AV.c ((Value.bool true)))]), [((!b == [] : Bool)) = (true),
 (((0 : Int) : Int) ≤ ((0 : Int))),
 (((0 : Int) : Int) < ((↑b.length : Int))),
 (((↑(b.getD (Int.toNat (0 : Int)) (0 : UInt8)).toNat : Int) == (45 : Int) : Bool)) = (false),
 ((b.length : Nat) ≤ ((1000000000 : Nat))),
 (((↑(ldD b) : Int) : Int)) = ((↑n : Int)),
 (((0 : Int) : Int) ≤ ((0 : Int))),
 (((0 : Int) : Int) ≤ ((↑n : Int))),
 (((↑n : Int) : Int) ≤ ((↑b.length : Int))),
 ((List.drop (Int.toNat (0 : Int)) (List.take n b) : List UInt8)) = (d),
 (((0 : Int) : Int) ≤ ((↑n : Int))),
 (((↑n : Int) : Int) ≤ ((↑b.length : Int))),
 (((↑b.length : Int) : Int) ≤ ((↑b.length : Int))),
 ((List.drop n (List.take b.length b) : List UInt8)) = (c :: z),
 ((true : Bool)) = (true),
 (((0 : Int) : Int) ≤ ((0 : Int))),
 (((0 : Int) : Int) < ((↑(c :: z).length : Int))),
 (((↑((c :: z).getD (Int.toNat (0 : Int)) (0 : UInt8)).toNat : Int) == (46 : Int) : Bool)) = (false),
 ((d.length : Nat) ≤ ((1000000000 : Nat))),
 (((↑(wV d) : Int) : Int)) = (v),
 ((wOK d : Bool)) = (ok),
 (((c :: z).length : Nat) ≤ ((999999990 : Nat))),
 (((expoF (sb { data := { toList := c :: z } })).getD (0 : Int) : Int)) = (x),
 (((expoF (sb { data := { toList := c :: z } })).isSome : Bool)) = (ox),
 ((IntKind.i64.min : Int) ≤ (x - (0 : Int))),
 ((x - (0 : Int) : Int) ≤ (IntKind.i64.max)),
 ((x - (0 : Int) : Int)) = (e),
 ((!ok : Bool)) = (false),
 ((!ox : Bool)) = (false),
 ((decide ((↑d.length : Int) > (15 : Int)) : Bool)) = (false),
 ((decide (e < (-22 : Int)) : Bool)) = (false),
 ((decide (e > (22 : Int)) : Bool)) = (false),
 ((lbody Try.prog (12 : FuncId) (21 : Nat) : Go.Code)) = (lbody Try.prog (12 : FuncId) (21 : Nat)),
 ((pwS false v e (4607182418800017408 : Nat) (0 : Nat) : Go.Proofs.Ytigglgobiofalaa.St)) = (pwS false v e (4607182418800017408 : Nat) (0 : Nat)),
 ((decide (e < (0 : Int)) : Bool)) = (true),
 (((floatBits BinOp.quo FloatKind.f64 (floatOfInt FloatKind.f64 v) (pwB e.natAbs)).isSome : Bool)) = (true)]) := by kernel_rfl

theorem rfNf_7 (b d z : List UInt8) (c : UInt8) (v x e : Int) (n : Nat) (ok ox : Bool) : outcome Try.prog 12 (aBody Try.prog clF ⟨true, bs [(70, false), (73, false), (78, false), (82, false), (86, false), (104, false)] ++ (bs [(17, true), (21, false), (35, true), (39, false)] ++ [(27, ⟨.c (.int .i64 n), none⟩), (30, ⟨.c (str d), none⟩), (33, ⟨.c (str (c :: z)), none⟩), (59, ⟨.c (.int .i64 v), none⟩), (60, ⟨.c (.bool ok), none⟩), (64, ⟨.c (.int .i64 x), none⟩), (65, ⟨.c (.bool ox), none⟩), (68, ⟨.c (.int .i64 e), none⟩)])⟩ (lpBy (rfLp false v e)) 60 12 ([.c (str (b))]) ([])) = some ((AV.tu [(AV.c ((Value.float .f64 ((floatBits BinOp.mul FloatKind.f64 (floatOfInt FloatKind.f64 v) (pwB e.natAbs)).getD (0 : Nat))))),
 (AV.c ((Value.bool true)))]), [((!b == [] : Bool)) = (true),
 (((0 : Int) : Int) ≤ ((0 : Int))),
 (((0 : Int) : Int) < ((↑b.length : Int))),
 (((↑(b.getD (Int.toNat (0 : Int)) (0 : UInt8)).toNat : Int) == (45 : Int) : Bool)) = (false),
 ((b.length : Nat) ≤ ((1000000000 : Nat))),
 (((↑(ldD b) : Int) : Int)) = ((↑n : Int)),
 (((0 : Int) : Int) ≤ ((0 : Int))),
 (((0 : Int) : Int) ≤ ((↑n : Int))),
 (((↑n : Int) : Int) ≤ ((↑b.length : Int))),
 ((List.drop (Int.toNat (0 : Int)) (List.take n b) : List UInt8)) = (d),
 (((0 : Int) : Int) ≤ ((↑n : Int))),
 (((↑n : Int) : Int) ≤ ((↑b.length : Int))),
 (((↑b.length : Int) : Int) ≤ ((↑b.length : Int))),
 ((List.drop n (List.take b.length b) : List UInt8)) = (c :: z),
 ((true : Bool)) = (true),
 (((0 : Int) : Int) ≤ ((0 : Int))),
 (((0 : Int) : Int) < ((↑(c :: z).length : Int))),
 (((↑((c :: z).getD (Int.toNat (0 : Int)) (0 : UInt8)).toNat : Int) == (46 : Int) : Bool)) = (false),
 ((d.length : Nat) ≤ ((1000000000 : Nat))),
 (((↑(wV d) : Int) : Int)) = (v),
 ((wOK d : Bool)) = (ok),
 (((c :: z).length : Nat) ≤ ((999999990 : Nat))),
 (((expoF (sb { data := { toList := c :: z } })).getD (0 : Int) : Int)) = (x),
 (((expoF (sb { data := { toList := c :: z } })).isSome : Bool)) = (ox),
 ((IntKind.i64.min : Int) ≤ (x - (0 : Int))),
 ((x - (0 : Int) : Int) ≤ (IntKind.i64.max)),
 ((x - (0 : Int) : Int)) = (e),
 ((!ok : Bool)) = (false),
 ((!ox : Bool)) = (false),
 ((decide ((↑d.length : Int) > (15 : Int)) : Bool)) = (false),
 ((decide (e < (-22 : Int)) : Bool)) = (false),
 ((decide (e > (22 : Int)) : Bool)) = (false),
 ((lbody Try.prog (12 : FuncId) (21 : Nat) : Go.Code)) = (lbody Try.prog (12 : FuncId) (21 : Nat)),
 ((pwS false v e (4607182418800017408 : Nat) (0 : Nat) : Go.Proofs.Ytigglgobiofalaa.St)) = (pwS false v e (4607182418800017408 : Nat) (0 : Nat)),
 ((decide (e < (0 : Int)) : Bool)) = (false),
 (((floatBits BinOp.mul FloatKind.f64 (floatOfInt FloatKind.f64 v) (pwB e.natAbs)).isSome : Bool)) = (true)]) := by kernel_rfl

theorem rfNf_all (b d z : List UInt8) (c : UInt8) (v x e : Int) (n : Nat) (ok ox : Bool) (hn : ldD b = n) (hd : List.take n b = d) (hz : List.drop n b = c :: z) (hv : (wV d : Int) = v) (hok : wOK d = ok) (hx : (expoF (c :: z)).getD 0 = x) (hox : (expoF (c :: z)).isSome = ox) (he : x - 0 = e) (hl : b.length ≤ 999999980) (hnl : n ≤ b.length) (hal : d.length ≤ b.length) (hwl : z.length < b.length) (hx1 : -9999 ≤ x) (hx2 : x ≤ 9999) (hs : wOKs v e) (hb0 : b ≠ []) (hb1 : ¬ ((b.getD 0 0).toNat : Int) = 45) (hb2 : 0 < b.length) (hc : ¬ (c.toNat : Int) = 46) : ∃ (h : Hints) (p : List Prop), outcome Try.prog 12 (aBody Try.prog clF h (lpBy (rfLp false v e)) 60 12 ([.c (str (b))]) ([])) = some (fltG false ok ox d.length v e, p) ∧ allP p := by
  cases hc70 : (!ok : Bool) with
  | true =>
    have eR := rfNf_1 b d z c v x e n ok ox
    refine ⟨_, _, eR.trans (congrArg (fun r => some (r, _)) ?_), ?_⟩
    · try clear eR
      unfold fltG wordF
      try simp only [decide_eq_true_eq, decide_eq_false_iff_not] at hc78
      try simp only [decide_eq_true_eq, decide_eq_false_iff_not] at hc82
      try simp only [decide_eq_true_eq, decide_eq_false_iff_not] at hc86
      try simp only [decide_eq_true_eq, decide_eq_false_iff_not] at hc104
      try simp only [bne_iff_ne, bne_eq_false_iff_eq, ne_eq] at hc114
      first
        | rw [if_neg (by rintro ⟨a1, a2, a3, a4, a5⟩; omega)]
        | rw [if_neg (by rintro ⟨a1, a2, a3, a4, a5⟩; rw [a1] at hc70; exact absurd hc70 (by decide))]
        | rw [if_neg (by rintro ⟨a1, a2, a3, a4, a5⟩; rw [a2] at hc73; exact absurd hc73 (by decide))]
        | (rw [if_pos ⟨by simpa using hc70, by simpa using hc73, by omega, by omega, by omega⟩]
           first
             | simp only [hc104, hc114, if_true, if_false, Bool.false_eq_true, false_and, true_and, ne_eq, not_true_eq_false, not_false_eq_true]
             | simp only [hc104, if_true, if_false, Bool.false_eq_true, false_and, true_and])
    · try simp only [decide_eq_true_eq, decide_eq_false_iff_not] at hc78
      try simp only [decide_eq_true_eq, decide_eq_false_iff_not] at hc82
      try simp only [decide_eq_true_eq, decide_eq_false_iff_not] at hc86
      try simp only [decide_eq_true_eq, decide_eq_false_iff_not] at hc104
      simp only [allP, List.take_length, toNat0, toNat1, List.take_succ_cons, List.drop_succ_cons, List.drop_zero, sb_mk]
      simp only [List.length_cons, List.length_take, i64_min, i64_max, and_true, true_and, decide_eq_true_eq, decide_eq_false_iff_not, beq_eq_false_iff_ne, bne_iff_ne, bne_eq_false_iff_eq, ne_eq]
      repeat' apply And.intro
      all_goals first | omega | exact hd | exact hz | exact hok | exact hox | exact hx | exact hc70 | exact hc73 | exact (hs (by omega) (by omega)).1 hc104 | exact (hs (by omega) (by omega)).2 hc104 | exact hb1 | exact hc | (simpa using hb0)
  | false =>
    cases hc73 : (!ox : Bool) with
    | true =>
      have eR := rfNf_2 b d z c v x e n ok ox
      refine ⟨_, _, eR.trans (congrArg (fun r => some (r, _)) ?_), ?_⟩
      · try clear eR
        unfold fltG wordF
        try simp only [decide_eq_true_eq, decide_eq_false_iff_not] at hc78
        try simp only [decide_eq_true_eq, decide_eq_false_iff_not] at hc82
        try simp only [decide_eq_true_eq, decide_eq_false_iff_not] at hc86
        try simp only [decide_eq_true_eq, decide_eq_false_iff_not] at hc104
        try simp only [bne_iff_ne, bne_eq_false_iff_eq, ne_eq] at hc114
        first
          | rw [if_neg (by rintro ⟨a1, a2, a3, a4, a5⟩; omega)]
          | rw [if_neg (by rintro ⟨a1, a2, a3, a4, a5⟩; rw [a1] at hc70; exact absurd hc70 (by decide))]
          | rw [if_neg (by rintro ⟨a1, a2, a3, a4, a5⟩; rw [a2] at hc73; exact absurd hc73 (by decide))]
          | (rw [if_pos ⟨by simpa using hc70, by simpa using hc73, by omega, by omega, by omega⟩]
             first
               | simp only [hc104, hc114, if_true, if_false, Bool.false_eq_true, false_and, true_and, ne_eq, not_true_eq_false, not_false_eq_true]
               | simp only [hc104, if_true, if_false, Bool.false_eq_true, false_and, true_and])
      · try simp only [decide_eq_true_eq, decide_eq_false_iff_not] at hc78
        try simp only [decide_eq_true_eq, decide_eq_false_iff_not] at hc82
        try simp only [decide_eq_true_eq, decide_eq_false_iff_not] at hc86
        try simp only [decide_eq_true_eq, decide_eq_false_iff_not] at hc104
        simp only [allP, List.take_length, toNat0, toNat1, List.take_succ_cons, List.drop_succ_cons, List.drop_zero, sb_mk]
        simp only [List.length_cons, List.length_take, i64_min, i64_max, and_true, true_and, decide_eq_true_eq, decide_eq_false_iff_not, beq_eq_false_iff_ne, bne_iff_ne, bne_eq_false_iff_eq, ne_eq]
        repeat' apply And.intro
        all_goals first | omega | exact hd | exact hz | exact hok | exact hox | exact hx | exact hc70 | exact hc73 | exact (hs (by omega) (by omega)).1 hc104 | exact (hs (by omega) (by omega)).2 hc104 | exact hb1 | exact hc | (simpa using hb0)
    | false =>
      cases hc78 : (decide ((↑d.length : Int) > (15 : Int)) : Bool) with
      | true =>
        have eR := rfNf_3 b d z c v x e n ok ox
        refine ⟨_, _, eR.trans (congrArg (fun r => some (r, _)) ?_), ?_⟩
        · try clear eR
          unfold fltG wordF
          try simp only [decide_eq_true_eq, decide_eq_false_iff_not] at hc78
          try simp only [decide_eq_true_eq, decide_eq_false_iff_not] at hc82
          try simp only [decide_eq_true_eq, decide_eq_false_iff_not] at hc86
          try simp only [decide_eq_true_eq, decide_eq_false_iff_not] at hc104
          try simp only [bne_iff_ne, bne_eq_false_iff_eq, ne_eq] at hc114
          first
            | rw [if_neg (by rintro ⟨a1, a2, a3, a4, a5⟩; omega)]
            | rw [if_neg (by rintro ⟨a1, a2, a3, a4, a5⟩; rw [a1] at hc70; exact absurd hc70 (by decide))]
            | rw [if_neg (by rintro ⟨a1, a2, a3, a4, a5⟩; rw [a2] at hc73; exact absurd hc73 (by decide))]
            | (rw [if_pos ⟨by simpa using hc70, by simpa using hc73, by omega, by omega, by omega⟩]
               first
                 | simp only [hc104, hc114, if_true, if_false, Bool.false_eq_true, false_and, true_and, ne_eq, not_true_eq_false, not_false_eq_true]
                 | simp only [hc104, if_true, if_false, Bool.false_eq_true, false_and, true_and])
        · try simp only [decide_eq_true_eq, decide_eq_false_iff_not] at hc78
          try simp only [decide_eq_true_eq, decide_eq_false_iff_not] at hc82
          try simp only [decide_eq_true_eq, decide_eq_false_iff_not] at hc86
          try simp only [decide_eq_true_eq, decide_eq_false_iff_not] at hc104
          simp only [allP, List.take_length, toNat0, toNat1, List.take_succ_cons, List.drop_succ_cons, List.drop_zero, sb_mk]
          simp only [List.length_cons, List.length_take, i64_min, i64_max, and_true, true_and, decide_eq_true_eq, decide_eq_false_iff_not, beq_eq_false_iff_ne, bne_iff_ne, bne_eq_false_iff_eq, ne_eq]
          repeat' apply And.intro
          all_goals first | omega | exact hd | exact hz | exact hok | exact hox | exact hx | exact hc70 | exact hc73 | exact (hs (by omega) (by omega)).1 hc104 | exact (hs (by omega) (by omega)).2 hc104 | exact hb1 | exact hc | (simpa using hb0)
      | false =>
        cases hc82 : (decide (e < (-22 : Int)) : Bool) with
        | true =>
          have eR := rfNf_4 b d z c v x e n ok ox
          refine ⟨_, _, eR.trans (congrArg (fun r => some (r, _)) ?_), ?_⟩
          · try clear eR
            unfold fltG wordF
            try simp only [decide_eq_true_eq, decide_eq_false_iff_not] at hc78
            try simp only [decide_eq_true_eq, decide_eq_false_iff_not] at hc82
            try simp only [decide_eq_true_eq, decide_eq_false_iff_not] at hc86
            try simp only [decide_eq_true_eq, decide_eq_false_iff_not] at hc104
            try simp only [bne_iff_ne, bne_eq_false_iff_eq, ne_eq] at hc114
            first
              | rw [if_neg (by rintro ⟨a1, a2, a3, a4, a5⟩; omega)]
              | rw [if_neg (by rintro ⟨a1, a2, a3, a4, a5⟩; rw [a1] at hc70; exact absurd hc70 (by decide))]
              | rw [if_neg (by rintro ⟨a1, a2, a3, a4, a5⟩; rw [a2] at hc73; exact absurd hc73 (by decide))]
              | (rw [if_pos ⟨by simpa using hc70, by simpa using hc73, by omega, by omega, by omega⟩]
                 first
                   | simp only [hc104, hc114, if_true, if_false, Bool.false_eq_true, false_and, true_and, ne_eq, not_true_eq_false, not_false_eq_true]
                   | simp only [hc104, if_true, if_false, Bool.false_eq_true, false_and, true_and])
          · try simp only [decide_eq_true_eq, decide_eq_false_iff_not] at hc78
            try simp only [decide_eq_true_eq, decide_eq_false_iff_not] at hc82
            try simp only [decide_eq_true_eq, decide_eq_false_iff_not] at hc86
            try simp only [decide_eq_true_eq, decide_eq_false_iff_not] at hc104
            simp only [allP, List.take_length, toNat0, toNat1, List.take_succ_cons, List.drop_succ_cons, List.drop_zero, sb_mk]
            simp only [List.length_cons, List.length_take, i64_min, i64_max, and_true, true_and, decide_eq_true_eq, decide_eq_false_iff_not, beq_eq_false_iff_ne, bne_iff_ne, bne_eq_false_iff_eq, ne_eq]
            repeat' apply And.intro
            all_goals first | omega | exact hd | exact hz | exact hok | exact hox | exact hx | exact hc70 | exact hc73 | exact (hs (by omega) (by omega)).1 hc104 | exact (hs (by omega) (by omega)).2 hc104 | exact hb1 | exact hc | (simpa using hb0)
        | false =>
          cases hc86 : (decide (e > (22 : Int)) : Bool) with
          | true =>
            have eR := rfNf_5 b d z c v x e n ok ox
            refine ⟨_, _, eR.trans (congrArg (fun r => some (r, _)) ?_), ?_⟩
            · try clear eR
              unfold fltG wordF
              try simp only [decide_eq_true_eq, decide_eq_false_iff_not] at hc78
              try simp only [decide_eq_true_eq, decide_eq_false_iff_not] at hc82
              try simp only [decide_eq_true_eq, decide_eq_false_iff_not] at hc86
              try simp only [decide_eq_true_eq, decide_eq_false_iff_not] at hc104
              try simp only [bne_iff_ne, bne_eq_false_iff_eq, ne_eq] at hc114
              first
                | rw [if_neg (by rintro ⟨a1, a2, a3, a4, a5⟩; omega)]
                | rw [if_neg (by rintro ⟨a1, a2, a3, a4, a5⟩; rw [a1] at hc70; exact absurd hc70 (by decide))]
                | rw [if_neg (by rintro ⟨a1, a2, a3, a4, a5⟩; rw [a2] at hc73; exact absurd hc73 (by decide))]
                | (rw [if_pos ⟨by simpa using hc70, by simpa using hc73, by omega, by omega, by omega⟩]
                   first
                     | simp only [hc104, hc114, if_true, if_false, Bool.false_eq_true, false_and, true_and, ne_eq, not_true_eq_false, not_false_eq_true]
                     | simp only [hc104, if_true, if_false, Bool.false_eq_true, false_and, true_and])
            · try simp only [decide_eq_true_eq, decide_eq_false_iff_not] at hc78
              try simp only [decide_eq_true_eq, decide_eq_false_iff_not] at hc82
              try simp only [decide_eq_true_eq, decide_eq_false_iff_not] at hc86
              try simp only [decide_eq_true_eq, decide_eq_false_iff_not] at hc104
              simp only [allP, List.take_length, toNat0, toNat1, List.take_succ_cons, List.drop_succ_cons, List.drop_zero, sb_mk]
              simp only [List.length_cons, List.length_take, i64_min, i64_max, and_true, true_and, decide_eq_true_eq, decide_eq_false_iff_not, beq_eq_false_iff_ne, bne_iff_ne, bne_eq_false_iff_eq, ne_eq]
              repeat' apply And.intro
              all_goals first | omega | exact hd | exact hz | exact hok | exact hox | exact hx | exact hc70 | exact hc73 | exact (hs (by omega) (by omega)).1 hc104 | exact (hs (by omega) (by omega)).2 hc104 | exact hb1 | exact hc | (simpa using hb0)
          | false =>
            cases hc104 : (decide (e < (0 : Int)) : Bool) with
            | true =>
              have eR := rfNf_6 b d z c v x e n ok ox
              refine ⟨_, _, eR.trans (congrArg (fun r => some (r, _)) ?_), ?_⟩
              · try clear eR
                unfold fltG wordF
                try simp only [decide_eq_true_eq, decide_eq_false_iff_not] at hc78
                try simp only [decide_eq_true_eq, decide_eq_false_iff_not] at hc82
                try simp only [decide_eq_true_eq, decide_eq_false_iff_not] at hc86
                try simp only [decide_eq_true_eq, decide_eq_false_iff_not] at hc104
                try simp only [bne_iff_ne, bne_eq_false_iff_eq, ne_eq] at hc114
                first
                  | rw [if_neg (by rintro ⟨a1, a2, a3, a4, a5⟩; omega)]
                  | rw [if_neg (by rintro ⟨a1, a2, a3, a4, a5⟩; rw [a1] at hc70; exact absurd hc70 (by decide))]
                  | rw [if_neg (by rintro ⟨a1, a2, a3, a4, a5⟩; rw [a2] at hc73; exact absurd hc73 (by decide))]
                  | (rw [if_pos ⟨by simpa using hc70, by simpa using hc73, by omega, by omega, by omega⟩]
                     first
                       | simp only [hc104, hc114, if_true, if_false, Bool.false_eq_true, false_and, true_and, ne_eq, not_true_eq_false, not_false_eq_true]
                       | simp only [hc104, if_true, if_false, Bool.false_eq_true, false_and, true_and])
              · try simp only [decide_eq_true_eq, decide_eq_false_iff_not] at hc78
                try simp only [decide_eq_true_eq, decide_eq_false_iff_not] at hc82
                try simp only [decide_eq_true_eq, decide_eq_false_iff_not] at hc86
                try simp only [decide_eq_true_eq, decide_eq_false_iff_not] at hc104
                simp only [allP, List.take_length, toNat0, toNat1, List.take_succ_cons, List.drop_succ_cons, List.drop_zero, sb_mk]
                simp only [List.length_cons, List.length_take, i64_min, i64_max, and_true, true_and, decide_eq_true_eq, decide_eq_false_iff_not, beq_eq_false_iff_ne, bne_iff_ne, bne_eq_false_iff_eq, ne_eq]
                repeat' apply And.intro
                all_goals first | omega | exact hd | exact hz | exact hok | exact hox | exact hx | exact hc70 | exact hc73 | exact (hs (by omega) (by omega)).1 hc104 | exact (hs (by omega) (by omega)).2 hc104 | exact hb1 | exact hc | (simpa using hb0)
            | false =>
              have eR := rfNf_7 b d z c v x e n ok ox
              refine ⟨_, _, eR.trans (congrArg (fun r => some (r, _)) ?_), ?_⟩
              · try clear eR
                unfold fltG wordF
                try simp only [decide_eq_true_eq, decide_eq_false_iff_not] at hc78
                try simp only [decide_eq_true_eq, decide_eq_false_iff_not] at hc82
                try simp only [decide_eq_true_eq, decide_eq_false_iff_not] at hc86
                try simp only [decide_eq_true_eq, decide_eq_false_iff_not] at hc104
                try simp only [bne_iff_ne, bne_eq_false_iff_eq, ne_eq] at hc114
                first
                  | rw [if_neg (by rintro ⟨a1, a2, a3, a4, a5⟩; omega)]
                  | rw [if_neg (by rintro ⟨a1, a2, a3, a4, a5⟩; rw [a1] at hc70; exact absurd hc70 (by decide))]
                  | rw [if_neg (by rintro ⟨a1, a2, a3, a4, a5⟩; rw [a2] at hc73; exact absurd hc73 (by decide))]
                  | (rw [if_pos ⟨by simpa using hc70, by simpa using hc73, by omega, by omega, by omega⟩]
                     first
                       | simp only [hc104, hc114, if_true, if_false, Bool.false_eq_true, false_and, true_and, ne_eq, not_true_eq_false, not_false_eq_true]
                       | simp only [hc104, if_true, if_false, Bool.false_eq_true, false_and, true_and])
              · try simp only [decide_eq_true_eq, decide_eq_false_iff_not] at hc78
                try simp only [decide_eq_true_eq, decide_eq_false_iff_not] at hc82
                try simp only [decide_eq_true_eq, decide_eq_false_iff_not] at hc86
                try simp only [decide_eq_true_eq, decide_eq_false_iff_not] at hc104
                simp only [allP, List.take_length, toNat0, toNat1, List.take_succ_cons, List.drop_succ_cons, List.drop_zero, sb_mk]
                simp only [List.length_cons, List.length_take, i64_min, i64_max, and_true, true_and, decide_eq_true_eq, decide_eq_false_iff_not, beq_eq_false_iff_ne, bne_iff_ne, bne_eq_false_iff_eq, ne_eq]
                repeat' apply And.intro
                all_goals first | omega | exact hd | exact hz | exact hok | exact hox | exact hx | exact hc70 | exact hc73 | exact (hs (by omega) (by omega)).1 hc104 | exact (hs (by omega) (by omega)).2 hc104 | exact hb1 | exact hc | (simpa using hb0)



theorem rfEf_1 (b d : List UInt8) (v x e : Int) (n : Nat) (ok ox : Bool) : outcome Try.prog 12 (aBody Try.prog clF ⟨true, bs [(70, true)] ++ (bs [(17, true), (21, false)] ++ [(27, ⟨.c (.int .i64 n), none⟩), (30, ⟨.c (str d), none⟩), (33, ⟨.c (str ([])), none⟩), (59, ⟨.c (.int .i64 v), none⟩), (60, ⟨.c (.bool ok), none⟩), (64, ⟨.c (.int .i64 x), none⟩), (65, ⟨.c (.bool ox), none⟩), (68, ⟨.c (.int .i64 e), none⟩)])⟩ (lpBy (rfLp false v e)) 60 12 ([.c (str (b))]) ([])) = some ((AV.tu [(AV.c ((Value.float .f64 0))),
 (AV.c ((Value.bool false)))]), [((!b == [] : Bool)) = (true),
 (((0 : Int) : Int) ≤ ((0 : Int))),
 (((0 : Int) : Int) < ((↑b.length : Int))),
 (((↑(b.getD (Int.toNat (0 : Int)) (0 : UInt8)).toNat : Int) == (45 : Int) : Bool)) = (false),
 ((b.length : Nat) ≤ ((1000000000 : Nat))),
 (((↑(ldD b) : Int) : Int)) = ((↑n : Int)),
 (((0 : Int) : Int) ≤ ((0 : Int))),
 (((0 : Int) : Int) ≤ ((↑n : Int))),
 (((↑n : Int) : Int) ≤ ((↑b.length : Int))),
 ((List.drop (Int.toNat (0 : Int)) (List.take n b) : List UInt8)) = (d),
 (((0 : Int) : Int) ≤ ((↑n : Int))),
 (((↑n : Int) : Int) ≤ ((↑b.length : Int))),
 (((↑b.length : Int) : Int) ≤ ((↑b.length : Int))),
 ((List.drop n (List.take b.length b) : List UInt8)) = ([]),
 ((d.length : Nat) ≤ ((1000000000 : Nat))),
 (((↑(wV d) : Int) : Int)) = (v),
 ((wOK d : Bool)) = (ok),
 (((0 : Nat) : Nat) ≤ ((999999990 : Nat))),
 ((0 : Int)) = (x),
 ((true : Bool)) = (ox),
 ((IntKind.i64.min : Int) ≤ (x - (0 : Int))),
 ((x - (0 : Int) : Int) ≤ (IntKind.i64.max)),
 ((x - (0 : Int) : Int)) = (e),
 ((!ok : Bool)) = (true)]) := by kernel_rfl

theorem rfEf_2 (b d : List UInt8) (v x e : Int) (n : Nat) (ok ox : Bool) : outcome Try.prog 12 (aBody Try.prog clF ⟨true, bs [(70, false), (73, true)] ++ (bs [(17, true), (21, false)] ++ [(27, ⟨.c (.int .i64 n), none⟩), (30, ⟨.c (str d), none⟩), (33, ⟨.c (str ([])), none⟩), (59, ⟨.c (.int .i64 v), none⟩), (60, ⟨.c (.bool ok), none⟩), (64, ⟨.c (.int .i64 x), none⟩), (65, ⟨.c (.bool ox), none⟩), (68, ⟨.c (.int .i64 e), none⟩)])⟩ (lpBy (rfLp false v e)) 60 12 ([.c (str (b))]) ([])) = some ((AV.tu [(AV.c ((Value.float .f64 0))),
 (AV.c ((Value.bool false)))]), [((!b == [] : Bool)) = (true),
 (((0 : Int) : Int) ≤ ((0 : Int))),
 (((0 : Int) : Int) < ((↑b.length : Int))),
 (((↑(b.getD (Int.toNat (0 : Int)) (0 : UInt8)).toNat : Int) == (45 : Int) : Bool)) = (false),
 ((b.length : Nat) ≤ ((1000000000 : Nat))),
 (((↑(ldD b) : Int) : Int)) = ((↑n : Int)),
 (((0 : Int) : Int) ≤ ((0 : Int))),
 (((0 : Int) : Int) ≤ ((↑n : Int))),
 (((↑n : Int) : Int) ≤ ((↑b.length : Int))),
 ((List.drop (Int.toNat (0 : Int)) (List.take n b) : List UInt8)) = (d),
 (((0 : Int) : Int) ≤ ((↑n : Int))),
 (((↑n : Int) : Int) ≤ ((↑b.length : Int))),
 (((↑b.length : Int) : Int) ≤ ((↑b.length : Int))),
 ((List.drop n (List.take b.length b) : List UInt8)) = ([]),
 ((d.length : Nat) ≤ ((1000000000 : Nat))),
 (((↑(wV d) : Int) : Int)) = (v),
 ((wOK d : Bool)) = (ok),
 (((0 : Nat) : Nat) ≤ ((999999990 : Nat))),
 ((0 : Int)) = (x),
 ((true : Bool)) = (ox),
 ((IntKind.i64.min : Int) ≤ (x - (0 : Int))),
 ((x - (0 : Int) : Int) ≤ (IntKind.i64.max)),
 ((x - (0 : Int) : Int)) = (e),
 ((!ok : Bool)) = (false),
 ((!ox : Bool)) = (true)]) := by kernel_rfl

theorem rfEf_3 (b d : List UInt8) (v x e : Int) (n : Nat) (ok ox : Bool) : outcome Try.prog 12 (aBody Try.prog clF ⟨true, bs [(70, false), (73, false), (78, true)] ++ (bs [(17, true), (21, false)] ++ [(27, ⟨.c (.int .i64 n), none⟩), (30, ⟨.c (str d), none⟩), (33, ⟨.c (str ([])), none⟩), (59, ⟨.c (.int .i64 v), none⟩), (60, ⟨.c (.bool ok), none⟩), (64, ⟨.c (.int .i64 x), none⟩), (65, ⟨.c (.bool ox), none⟩), (68, ⟨.c (.int .i64 e), none⟩)])⟩ (lpBy (rfLp false v e)) 60 12 ([.c (str (b))]) ([])) = some ((AV.tu [(AV.c ((Value.float .f64 0))),
 (AV.c ((Value.bool false)))]), [((!b == [] : Bool)) = (true),
 (((0 : Int) : Int) ≤ ((0 : Int))),
 (((0 : Int) : Int) < ((↑b.length : Int))),
 (((↑(b.getD (Int.toNat (0 : Int)) (0 : UInt8)).toNat : Int) == (45 : Int) : Bool)) = (false),
 ((b.length : Nat) ≤ ((1000000000 : Nat))),
 (((↑(ldD b) : Int) : Int)) = ((↑n : Int)),
 (((0 : Int) : Int) ≤ ((0 : Int))),
 (((0 : Int) : Int) ≤ ((↑n : Int))),
 (((↑n : Int) : Int) ≤ ((↑b.length : Int))),
 ((List.drop (Int.toNat (0 : Int)) (List.take n b) : List UInt8)) = (d),
 (((0 : Int) : Int) ≤ ((↑n : Int))),
 (((↑n : Int) : Int) ≤ ((↑b.length : Int))),
 (((↑b.length : Int) : Int) ≤ ((↑b.length : Int))),
 ((List.drop n (List.take b.length b) : List UInt8)) = ([]),
 ((d.length : Nat) ≤ ((1000000000 : Nat))),
 (((↑(wV d) : Int) : Int)) = (v),
 ((wOK d : Bool)) = (ok),
 (((0 : Nat) : Nat) ≤ ((999999990 : Nat))),
 ((0 : Int)) = (x),
 ((true : Bool)) = (ox),
 ((IntKind.i64.min : Int) ≤ (x - (0 : Int))),
 ((x - (0 : Int) : Int) ≤ (IntKind.i64.max)),
 ((x - (0 : Int) : Int)) = (e),
 ((!ok : Bool)) = (false),
 ((!ox : Bool)) = (false),
 ((decide ((↑d.length : Int) > (15 : Int)) : Bool)) = (true)]) := by kernel_rfl

theorem rfEf_4 (b d : List UInt8) (v x e : Int) (n : Nat) (ok ox : Bool) : outcome Try.prog 12 (aBody Try.prog clF ⟨true, bs [(70, false), (73, false), (78, false), (82, true)] ++ (bs [(17, true), (21, false)] ++ [(27, ⟨.c (.int .i64 n), none⟩), (30, ⟨.c (str d), none⟩), (33, ⟨.c (str ([])), none⟩), (59, ⟨.c (.int .i64 v), none⟩), (60, ⟨.c (.bool ok), none⟩), (64, ⟨.c (.int .i64 x), none⟩), (65, ⟨.c (.bool ox), none⟩), (68, ⟨.c (.int .i64 e), none⟩)])⟩ (lpBy (rfLp false v e)) 60 12 ([.c (str (b))]) ([])) = some ((AV.tu [(AV.c ((Value.float .f64 0))),
 (AV.c ((Value.bool false)))]), [((!b == [] : Bool)) = (true),
 (((0 : Int) : Int) ≤ ((0 : Int))),
 (((0 : Int) : Int) < ((↑b.length : Int))),
 (((↑(b.getD (Int.toNat (0 : Int)) (0 : UInt8)).toNat : Int) == (45 : Int) : Bool)) = (false),
 ((b.length : Nat) ≤ ((1000000000 : Nat))),
 (((↑(ldD b) : Int) : Int)) = ((↑n : Int)),
 (((0 : Int) : Int) ≤ ((0 : Int))),
 (((0 : Int) : Int) ≤ ((↑n : Int))),
 (((↑n : Int) : Int) ≤ ((↑b.length : Int))),
 ((List.drop (Int.toNat (0 : Int)) (List.take n b) : List UInt8)) = (d),
 (((0 : Int) : Int) ≤ ((↑n : Int))),
 (((↑n : Int) : Int) ≤ ((↑b.length : Int))),
 (((↑b.length : Int) : Int) ≤ ((↑b.length : Int))),
 ((List.drop n (List.take b.length b) : List UInt8)) = ([]),
 ((d.length : Nat) ≤ ((1000000000 : Nat))),
 (((↑(wV d) : Int) : Int)) = (v),
 ((wOK d : Bool)) = (ok),
 (((0 : Nat) : Nat) ≤ ((999999990 : Nat))),
 ((0 : Int)) = (x),
 ((true : Bool)) = (ox),
 ((IntKind.i64.min : Int) ≤ (x - (0 : Int))),
 ((x - (0 : Int) : Int) ≤ (IntKind.i64.max)),
 ((x - (0 : Int) : Int)) = (e),
 ((!ok : Bool)) = (false),
 ((!ox : Bool)) = (false),
 ((decide ((↑d.length : Int) > (15 : Int)) : Bool)) = (false),
 ((decide (e < (-22 : Int)) : Bool)) = (true)]) := by kernel_rfl

theorem rfEf_5 (b d : List UInt8) (v x e : Int) (n : Nat) (ok ox : Bool) : outcome Try.prog 12 (aBody Try.prog clF ⟨true, bs [(70, false), (73, false), (78, false), (82, false), (86, true)] ++ (bs [(17, true), (21, false)] ++ [(27, ⟨.c (.int .i64 n), none⟩), (30, ⟨.c (str d), none⟩), (33, ⟨.c (str ([])), none⟩), (59, ⟨.c (.int .i64 v), none⟩), (60, ⟨.c (.bool ok), none⟩), (64, ⟨.c (.int .i64 x), none⟩), (65, ⟨.c (.bool ox), none⟩), (68, ⟨.c (.int .i64 e), none⟩)])⟩ (lpBy (rfLp false v e)) 60 12 ([.c (str (b))]) ([])) = some ((AV.tu [(AV.c ((Value.float .f64 0))),
 (AV.c ((Value.bool false)))]), [((!b == [] : Bool)) = (true),
 (((0 : Int) : Int) ≤ ((0 : Int))),
 (((0 : Int) : Int) < ((↑b.length : Int))),
 (((↑(b.getD (Int.toNat (0 : Int)) (0 : UInt8)).toNat : Int) == (45 : Int) : Bool)) = (false),
 ((b.length : Nat) ≤ ((1000000000 : Nat))),
 (((↑(ldD b) : Int) : Int)) = ((↑n : Int)),
 (((0 : Int) : Int) ≤ ((0 : Int))),
 (((0 : Int) : Int) ≤ ((↑n : Int))),
 (((↑n : Int) : Int) ≤ ((↑b.length : Int))),
 ((List.drop (Int.toNat (0 : Int)) (List.take n b) : List UInt8)) = (d),
 (((0 : Int) : Int) ≤ ((↑n : Int))),
 (((↑n : Int) : Int) ≤ ((↑b.length : Int))),
 (((↑b.length : Int) : Int) ≤ ((↑b.length : Int))),
 ((List.drop n (List.take b.length b) : List UInt8)) = ([]),
 ((d.length : Nat) ≤ ((1000000000 : Nat))),
 (((↑(wV d) : Int) : Int)) = (v),
 ((wOK d : Bool)) = (ok),
 (((0 : Nat) : Nat) ≤ ((999999990 : Nat))),
 ((0 : Int)) = (x),
 ((true : Bool)) = (ox),
 ((IntKind.i64.min : Int) ≤ (x - (0 : Int))),
 ((x - (0 : Int) : Int) ≤ (IntKind.i64.max)),
 ((x - (0 : Int) : Int)) = (e),
 ((!ok : Bool)) = (false),
 ((!ox : Bool)) = (false),
 ((decide ((↑d.length : Int) > (15 : Int)) : Bool)) = (false),
 ((decide (e < (-22 : Int)) : Bool)) = (false),
 ((decide (e > (22 : Int)) : Bool)) = (true)]) := by kernel_rfl

theorem rfEf_6 (b d : List UInt8) (v x e : Int) (n : Nat) (ok ox : Bool) : outcome Try.prog 12 (aBody Try.prog clF ⟨true, bs [(70, false), (73, false), (78, false), (82, false), (86, false), (104, true)] ++ (bs [(17, true), (21, false)] ++ [(27, ⟨.c (.int .i64 n), none⟩), (30, ⟨.c (str d), none⟩), (33, ⟨.c (str ([])), none⟩), (59, ⟨.c (.int .i64 v), none⟩), (60, ⟨.c (.bool ok), none⟩), (64, ⟨.c (.int .i64 x), none⟩), (65, ⟨.c (.bool ox), none⟩), (68, ⟨.c (.int .i64 e), none⟩)])⟩ (lpBy (rfLp false v e)) 60 12 ([.c (str (b))]) ([])) = some ((AV.tu [(AV.c ((Value.float .f64 ((floatBits BinOp.quo FloatKind.f64 (floatOfInt FloatKind.f64 v) (pwB e.natAbs)).getD (0 : Nat))))),
 (AV.c ((Value.bool true)))]), [((!b == [] : Bool)) = (true),
 (((0 : Int) : Int) ≤ ((0 : Int))),
 (((0 : Int) : Int) < ((↑b.length : Int))),
 (((↑(b.getD (Int.toNat (0 : Int)) (0 : UInt8)).toNat : Int) == (45 : Int) : Bool)) = (false),
 ((b.length : Nat) ≤ ((1000000000 : Nat))),
 (((↑(ldD b) : Int) : Int)) = ((↑n : Int)),
 (((0 : Int) : Int) ≤ ((0 : Int))),
 (((0 : Int) : Int) ≤ ((↑n : Int))),
 (((↑n : Int) : Int) ≤ ((↑b.length : Int))),
 ((List.drop (Int.toNat (0 : Int)) (List.take n b) : List UInt8)) = (d),
 (((0 : Int) : Int) ≤ ((↑n : Int))),
 (((↑n : Int) : Int) ≤ ((↑b.length : Int))),
 (((↑b.length : Int) : Int) ≤ ((↑b.length : Int))),
 ((List.drop n (List.take b.length b) : List UInt8)) = ([]),
 ((d.length : Nat) ≤ ((1000000000 : Nat))),
 (((↑(wV d) : Int) : Int)) = (v),
 ((wOK d : Bool)) = (ok),
 (((0 : Nat) : Nat) ≤ ((999999990 : Nat))),
 ((0 : Int)) = (x),
 ((true : Bool)) = (ox),
 ((IntKind.i64.min : Int) ≤ (x - (0 : Int))),
 ((x - (0 : Int) : Int) ≤ (IntKind.i64.max)),
 ((x - (0 : Int) : Int)) = (e),
 ((!ok : Bool)) = (false),
 ((!ox : Bool)) = (false),
 ((decide ((↑d.length : Int) > (15 : Int)) : Bool)) = (false),
 ((decide (e < (-22 : Int)) : Bool)) = (false),
 ((decide (e > (22 : Int)) : Bool)) = (false),
 ((lbody Try.prog (12 : FuncId) (21 : Nat) : Go.Code)) = (lbody Try.prog (12 : FuncId) (21 : Nat)),
 ((pwS false v e (4607182418800017408 : Nat) (0 : Nat) : Go.Proofs.Ytigglgobiofalaa.St)) = (pwS false v e (4607182418800017408 : Nat) (0 : Nat)),
 ((decide (e < (0 : Int)) : Bool)) = (true),
 (((floatBits BinOp.quo FloatKind.f64 (floatOfInt FloatKind.f64 v) (pwB e.natAbs)).isSome : Bool)) = (true)]) := by kernel_rfl

theorem rfEf_7 (b d : List UInt8) (v x e : Int) (n : Nat) (ok ox : Bool) : outcome Try.prog 12 (aBody Try.prog clF ⟨true, bs [(70, false), (73, false), (78, false), (82, false), (86, false), (104, false)] ++ (bs [(17, true), (21, false)] ++ [(27, ⟨.c (.int .i64 n), none⟩), (30, ⟨.c (str d), none⟩), (33, ⟨.c (str ([])), none⟩), (59, ⟨.c (.int .i64 v), none⟩), (60, ⟨.c (.bool ok), none⟩), (64, ⟨.c (.int .i64 x), none⟩), (65, ⟨.c (.bool ox), none⟩), (68, ⟨.c (.int .i64 e), none⟩)])⟩ (lpBy (rfLp false v e)) 60 12 ([.c (str (b))]) ([])) = some ((AV.tu [(AV.c ((Value.float .f64 ((floatBits BinOp.mul FloatKind.f64 (floatOfInt FloatKind.f64 v) (pwB e.natAbs)).getD (0 : Nat))))),
 (AV.c ((Value.bool true)))]), [((!b == [] : Bool)) = (true),
 (((0 : Int) : Int) ≤ ((0 : Int))),
 (((0 : Int) : Int) < ((↑b.length : Int))),
 (((↑(b.getD (Int.toNat (0 : Int)) (0 : UInt8)).toNat : Int) == (45 : Int) : Bool)) = (false),
 ((b.length : Nat) ≤ ((1000000000 : Nat))),
 (((↑(ldD b) : Int) : Int)) = ((↑n : Int)),
 (((0 : Int) : Int) ≤ ((0 : Int))),
 (((0 : Int) : Int) ≤ ((↑n : Int))),
 (((↑n : Int) : Int) ≤ ((↑b.length : Int))),
 ((List.drop (Int.toNat (0 : Int)) (List.take n b) : List UInt8)) = (d),
 (((0 : Int) : Int) ≤ ((↑n : Int))),
 (((↑n : Int) : Int) ≤ ((↑b.length : Int))),
 (((↑b.length : Int) : Int) ≤ ((↑b.length : Int))),
 ((List.drop n (List.take b.length b) : List UInt8)) = ([]),
 ((d.length : Nat) ≤ ((1000000000 : Nat))),
 (((↑(wV d) : Int) : Int)) = (v),
 ((wOK d : Bool)) = (ok),
 (((0 : Nat) : Nat) ≤ ((999999990 : Nat))),
 ((0 : Int)) = (x),
 ((true : Bool)) = (ox),
 ((IntKind.i64.min : Int) ≤ (x - (0 : Int))),
 ((x - (0 : Int) : Int) ≤ (IntKind.i64.max)),
 ((x - (0 : Int) : Int)) = (e),
 ((!ok : Bool)) = (false),
 ((!ox : Bool)) = (false),
 ((decide ((↑d.length : Int) > (15 : Int)) : Bool)) = (false),
 ((decide (e < (-22 : Int)) : Bool)) = (false),
 ((decide (e > (22 : Int)) : Bool)) = (false),
 ((lbody Try.prog (12 : FuncId) (21 : Nat) : Go.Code)) = (lbody Try.prog (12 : FuncId) (21 : Nat)),
 ((pwS false v e (4607182418800017408 : Nat) (0 : Nat) : Go.Proofs.Ytigglgobiofalaa.St)) = (pwS false v e (4607182418800017408 : Nat) (0 : Nat)),
 ((decide (e < (0 : Int)) : Bool)) = (false),
 (((floatBits BinOp.mul FloatKind.f64 (floatOfInt FloatKind.f64 v) (pwB e.natAbs)).isSome : Bool)) = (true)]) := by kernel_rfl

theorem rfEf_all (b d : List UInt8) (v x e : Int) (n : Nat) (ok ox : Bool) (hn : ldD b = n) (hd : List.take n b = d) (hz : List.drop n b = []) (hv : (wV d : Int) = v) (hok : wOK d = ok) (hx : (expoF ([])).getD 0 = x) (hox : (expoF ([])).isSome = ox) (he : x - 0 = e) (hl : b.length ≤ 999999980) (hnl : n ≤ b.length) (hal : d.length ≤ b.length) (hx1 : -9999 ≤ x) (hx2 : x ≤ 9999) (hs : wOKs v e) (hb0 : b ≠ []) (hb1 : ¬ ((b.getD 0 0).toNat : Int) = 45) (hb2 : 0 < b.length) : ∃ (h : Hints) (p : List Prop), outcome Try.prog 12 (aBody Try.prog clF h (lpBy (rfLp false v e)) 60 12 ([.c (str (b))]) ([])) = some (fltG false ok ox d.length v e, p) ∧ allP p := by
  cases hc70 : (!ok : Bool) with
  | true =>
    have eR := rfEf_1 b d v x e n ok ox
    refine ⟨_, _, eR.trans (congrArg (fun r => some (r, _)) ?_), ?_⟩
    · try clear eR
      unfold fltG wordF
      try simp only [decide_eq_true_eq, decide_eq_false_iff_not] at hc78
      try simp only [decide_eq_true_eq, decide_eq_false_iff_not] at hc82
      try simp only [decide_eq_true_eq, decide_eq_false_iff_not] at hc86
      try simp only [decide_eq_true_eq, decide_eq_false_iff_not] at hc104
      try simp only [bne_iff_ne, bne_eq_false_iff_eq, ne_eq] at hc114
      first
        | rw [if_neg (by rintro ⟨a1, a2, a3, a4, a5⟩; omega)]
        | rw [if_neg (by rintro ⟨a1, a2, a3, a4, a5⟩; rw [a1] at hc70; exact absurd hc70 (by decide))]
        | rw [if_neg (by rintro ⟨a1, a2, a3, a4, a5⟩; rw [a2] at hc73; exact absurd hc73 (by decide))]
        | (rw [if_pos ⟨by simpa using hc70, by simpa using hc73, by omega, by omega, by omega⟩]
           first
             | simp only [hc104, hc114, if_true, if_false, Bool.false_eq_true, false_and, true_and, ne_eq, not_true_eq_false, not_false_eq_true]
             | simp only [hc104, if_true, if_false, Bool.false_eq_true, false_and, true_and])
    · try simp only [decide_eq_true_eq, decide_eq_false_iff_not] at hc78
      try simp only [decide_eq_true_eq, decide_eq_false_iff_not] at hc82
      try simp only [decide_eq_true_eq, decide_eq_false_iff_not] at hc86
      try simp only [decide_eq_true_eq, decide_eq_false_iff_not] at hc104
      simp only [allP, List.take_length, toNat0, toNat1, List.take_succ_cons, List.drop_succ_cons, List.drop_zero, sb_mk]
      simp only [List.length_cons, List.length_take, i64_min, i64_max, and_true, true_and, decide_eq_true_eq, decide_eq_false_iff_not, beq_eq_false_iff_ne, bne_iff_ne, bne_eq_false_iff_eq, ne_eq]
      repeat' apply And.intro
      all_goals first | omega | exact hd | exact hz | exact hok | exact hox | exact hx | exact hc70 | exact hc73 | exact (hs (by omega) (by omega)).1 hc104 | exact (hs (by omega) (by omega)).2 hc104 | exact hb1 | (simpa using hb0)
  | false =>
    cases hc73 : (!ox : Bool) with
    | true =>
      have eR := rfEf_2 b d v x e n ok ox
      refine ⟨_, _, eR.trans (congrArg (fun r => some (r, _)) ?_), ?_⟩
      · try clear eR
        unfold fltG wordF
        try simp only [decide_eq_true_eq, decide_eq_false_iff_not] at hc78
        try simp only [decide_eq_true_eq, decide_eq_false_iff_not] at hc82
        try simp only [decide_eq_true_eq, decide_eq_false_iff_not] at hc86
        try simp only [decide_eq_true_eq, decide_eq_false_iff_not] at hc104
        try simp only [bne_iff_ne, bne_eq_false_iff_eq, ne_eq] at hc114
        first
          | rw [if_neg (by rintro ⟨a1, a2, a3, a4, a5⟩; omega)]
          | rw [if_neg (by rintro ⟨a1, a2, a3, a4, a5⟩; rw [a1] at hc70; exact absurd hc70 (by decide))]
          | rw [if_neg (by rintro ⟨a1, a2, a3, a4, a5⟩; rw [a2] at hc73; exact absurd hc73 (by decide))]
          | (rw [if_pos ⟨by simpa using hc70, by simpa using hc73, by omega, by omega, by omega⟩]
             first
               | simp only [hc104, hc114, if_true, if_false, Bool.false_eq_true, false_and, true_and, ne_eq, not_true_eq_false, not_false_eq_true]
               | simp only [hc104, if_true, if_false, Bool.false_eq_true, false_and, true_and])
      · try simp only [decide_eq_true_eq, decide_eq_false_iff_not] at hc78
        try simp only [decide_eq_true_eq, decide_eq_false_iff_not] at hc82
        try simp only [decide_eq_true_eq, decide_eq_false_iff_not] at hc86
        try simp only [decide_eq_true_eq, decide_eq_false_iff_not] at hc104
        simp only [allP, List.take_length, toNat0, toNat1, List.take_succ_cons, List.drop_succ_cons, List.drop_zero, sb_mk]
        simp only [List.length_cons, List.length_take, i64_min, i64_max, and_true, true_and, decide_eq_true_eq, decide_eq_false_iff_not, beq_eq_false_iff_ne, bne_iff_ne, bne_eq_false_iff_eq, ne_eq]
        repeat' apply And.intro
        all_goals first | omega | exact hd | exact hz | exact hok | exact hox | exact hx | exact hc70 | exact hc73 | exact (hs (by omega) (by omega)).1 hc104 | exact (hs (by omega) (by omega)).2 hc104 | exact hb1 | (simpa using hb0)
    | false =>
      cases hc78 : (decide ((↑d.length : Int) > (15 : Int)) : Bool) with
      | true =>
        have eR := rfEf_3 b d v x e n ok ox
        refine ⟨_, _, eR.trans (congrArg (fun r => some (r, _)) ?_), ?_⟩
        · try clear eR
          unfold fltG wordF
          try simp only [decide_eq_true_eq, decide_eq_false_iff_not] at hc78
          try simp only [decide_eq_true_eq, decide_eq_false_iff_not] at hc82
          try simp only [decide_eq_true_eq, decide_eq_false_iff_not] at hc86
          try simp only [decide_eq_true_eq, decide_eq_false_iff_not] at hc104
          try simp only [bne_iff_ne, bne_eq_false_iff_eq, ne_eq] at hc114
          first
            | rw [if_neg (by rintro ⟨a1, a2, a3, a4, a5⟩; omega)]
            | rw [if_neg (by rintro ⟨a1, a2, a3, a4, a5⟩; rw [a1] at hc70; exact absurd hc70 (by decide))]
            | rw [if_neg (by rintro ⟨a1, a2, a3, a4, a5⟩; rw [a2] at hc73; exact absurd hc73 (by decide))]
            | (rw [if_pos ⟨by simpa using hc70, by simpa using hc73, by omega, by omega, by omega⟩]
               first
                 | simp only [hc104, hc114, if_true, if_false, Bool.false_eq_true, false_and, true_and, ne_eq, not_true_eq_false, not_false_eq_true]
                 | simp only [hc104, if_true, if_false, Bool.false_eq_true, false_and, true_and])
        · try simp only [decide_eq_true_eq, decide_eq_false_iff_not] at hc78
          try simp only [decide_eq_true_eq, decide_eq_false_iff_not] at hc82
          try simp only [decide_eq_true_eq, decide_eq_false_iff_not] at hc86
          try simp only [decide_eq_true_eq, decide_eq_false_iff_not] at hc104
          simp only [allP, List.take_length, toNat0, toNat1, List.take_succ_cons, List.drop_succ_cons, List.drop_zero, sb_mk]
          simp only [List.length_cons, List.length_take, i64_min, i64_max, and_true, true_and, decide_eq_true_eq, decide_eq_false_iff_not, beq_eq_false_iff_ne, bne_iff_ne, bne_eq_false_iff_eq, ne_eq]
          repeat' apply And.intro
          all_goals first | omega | exact hd | exact hz | exact hok | exact hox | exact hx | exact hc70 | exact hc73 | exact (hs (by omega) (by omega)).1 hc104 | exact (hs (by omega) (by omega)).2 hc104 | exact hb1 | (simpa using hb0)
      | false =>
        cases hc82 : (decide (e < (-22 : Int)) : Bool) with
        | true =>
          have eR := rfEf_4 b d v x e n ok ox
          refine ⟨_, _, eR.trans (congrArg (fun r => some (r, _)) ?_), ?_⟩
          · try clear eR
            unfold fltG wordF
            try simp only [decide_eq_true_eq, decide_eq_false_iff_not] at hc78
            try simp only [decide_eq_true_eq, decide_eq_false_iff_not] at hc82
            try simp only [decide_eq_true_eq, decide_eq_false_iff_not] at hc86
            try simp only [decide_eq_true_eq, decide_eq_false_iff_not] at hc104
            try simp only [bne_iff_ne, bne_eq_false_iff_eq, ne_eq] at hc114
            first
              | rw [if_neg (by rintro ⟨a1, a2, a3, a4, a5⟩; omega)]
              | rw [if_neg (by rintro ⟨a1, a2, a3, a4, a5⟩; rw [a1] at hc70; exact absurd hc70 (by decide))]
              | rw [if_neg (by rintro ⟨a1, a2, a3, a4, a5⟩; rw [a2] at hc73; exact absurd hc73 (by decide))]
              | (rw [if_pos ⟨by simpa using hc70, by simpa using hc73, by omega, by omega, by omega⟩]
                 first
                   | simp only [hc104, hc114, if_true, if_false, Bool.false_eq_true, false_and, true_and, ne_eq, not_true_eq_false, not_false_eq_true]
                   | simp only [hc104, if_true, if_false, Bool.false_eq_true, false_and, true_and])
          · try simp only [decide_eq_true_eq, decide_eq_false_iff_not] at hc78
            try simp only [decide_eq_true_eq, decide_eq_false_iff_not] at hc82
            try simp only [decide_eq_true_eq, decide_eq_false_iff_not] at hc86
            try simp only [decide_eq_true_eq, decide_eq_false_iff_not] at hc104
            simp only [allP, List.take_length, toNat0, toNat1, List.take_succ_cons, List.drop_succ_cons, List.drop_zero, sb_mk]
            simp only [List.length_cons, List.length_take, i64_min, i64_max, and_true, true_and, decide_eq_true_eq, decide_eq_false_iff_not, beq_eq_false_iff_ne, bne_iff_ne, bne_eq_false_iff_eq, ne_eq]
            repeat' apply And.intro
            all_goals first | omega | exact hd | exact hz | exact hok | exact hox | exact hx | exact hc70 | exact hc73 | exact (hs (by omega) (by omega)).1 hc104 | exact (hs (by omega) (by omega)).2 hc104 | exact hb1 | (simpa using hb0)
        | false =>
          cases hc86 : (decide (e > (22 : Int)) : Bool) with
          | true =>
            have eR := rfEf_5 b d v x e n ok ox
            refine ⟨_, _, eR.trans (congrArg (fun r => some (r, _)) ?_), ?_⟩
            · try clear eR
              unfold fltG wordF
              try simp only [decide_eq_true_eq, decide_eq_false_iff_not] at hc78
              try simp only [decide_eq_true_eq, decide_eq_false_iff_not] at hc82
              try simp only [decide_eq_true_eq, decide_eq_false_iff_not] at hc86
              try simp only [decide_eq_true_eq, decide_eq_false_iff_not] at hc104
              try simp only [bne_iff_ne, bne_eq_false_iff_eq, ne_eq] at hc114
              first
                | rw [if_neg (by rintro ⟨a1, a2, a3, a4, a5⟩; omega)]
                | rw [if_neg (by rintro ⟨a1, a2, a3, a4, a5⟩; rw [a1] at hc70; exact absurd hc70 (by decide))]
                | rw [if_neg (by rintro ⟨a1, a2, a3, a4, a5⟩; rw [a2] at hc73; exact absurd hc73 (by decide))]
                | (rw [if_pos ⟨by simpa using hc70, by simpa using hc73, by omega, by omega, by omega⟩]
                   first
                     | simp only [hc104, hc114, if_true, if_false, Bool.false_eq_true, false_and, true_and, ne_eq, not_true_eq_false, not_false_eq_true]
                     | simp only [hc104, if_true, if_false, Bool.false_eq_true, false_and, true_and])
            · try simp only [decide_eq_true_eq, decide_eq_false_iff_not] at hc78
              try simp only [decide_eq_true_eq, decide_eq_false_iff_not] at hc82
              try simp only [decide_eq_true_eq, decide_eq_false_iff_not] at hc86
              try simp only [decide_eq_true_eq, decide_eq_false_iff_not] at hc104
              simp only [allP, List.take_length, toNat0, toNat1, List.take_succ_cons, List.drop_succ_cons, List.drop_zero, sb_mk]
              simp only [List.length_cons, List.length_take, i64_min, i64_max, and_true, true_and, decide_eq_true_eq, decide_eq_false_iff_not, beq_eq_false_iff_ne, bne_iff_ne, bne_eq_false_iff_eq, ne_eq]
              repeat' apply And.intro
              all_goals first | omega | exact hd | exact hz | exact hok | exact hox | exact hx | exact hc70 | exact hc73 | exact (hs (by omega) (by omega)).1 hc104 | exact (hs (by omega) (by omega)).2 hc104 | exact hb1 | (simpa using hb0)
          | false =>
            cases hc104 : (decide (e < (0 : Int)) : Bool) with
            | true =>
              have eR := rfEf_6 b d v x e n ok ox
              refine ⟨_, _, eR.trans (congrArg (fun r => some (r, _)) ?_), ?_⟩
              · try clear eR
                unfold fltG wordF
                try simp only [decide_eq_true_eq, decide_eq_false_iff_not] at hc78
                try simp only [decide_eq_true_eq, decide_eq_false_iff_not] at hc82
                try simp only [decide_eq_true_eq, decide_eq_false_iff_not] at hc86
                try simp only [decide_eq_true_eq, decide_eq_false_iff_not] at hc104
                try simp only [bne_iff_ne, bne_eq_false_iff_eq, ne_eq] at hc114
                first
                  | rw [if_neg (by rintro ⟨a1, a2, a3, a4, a5⟩; omega)]
                  | rw [if_neg (by rintro ⟨a1, a2, a3, a4, a5⟩; rw [a1] at hc70; exact absurd hc70 (by decide))]
                  | rw [if_neg (by rintro ⟨a1, a2, a3, a4, a5⟩; rw [a2] at hc73; exact absurd hc73 (by decide))]
                  | (rw [if_pos ⟨by simpa using hc70, by simpa using hc73, by omega, by omega, by omega⟩]
                     first
                       | simp only [hc104, hc114, if_true, if_false, Bool.false_eq_true, false_and, true_and, ne_eq, not_true_eq_false, not_false_eq_true]
                       | simp only [hc104, if_true, if_false, Bool.false_eq_true, false_and, true_and])
              · try simp only [decide_eq_true_eq, decide_eq_false_iff_not] at hc78
                try simp only [decide_eq_true_eq, decide_eq_false_iff_not] at hc82
                try simp only [decide_eq_true_eq, decide_eq_false_iff_not] at hc86
                try simp only [decide_eq_true_eq, decide_eq_false_iff_not] at hc104
                simp only [allP, List.take_length, toNat0, toNat1, List.take_succ_cons, List.drop_succ_cons, List.drop_zero, sb_mk]
                simp only [List.length_cons, List.length_take, i64_min, i64_max, and_true, true_and, decide_eq_true_eq, decide_eq_false_iff_not, beq_eq_false_iff_ne, bne_iff_ne, bne_eq_false_iff_eq, ne_eq]
                repeat' apply And.intro
                all_goals first | omega | exact hd | exact hz | exact hok | exact hox | exact hx | exact hc70 | exact hc73 | exact (hs (by omega) (by omega)).1 hc104 | exact (hs (by omega) (by omega)).2 hc104 | exact hb1 | (simpa using hb0)
            | false =>
              have eR := rfEf_7 b d v x e n ok ox
              refine ⟨_, _, eR.trans (congrArg (fun r => some (r, _)) ?_), ?_⟩
              · try clear eR
                unfold fltG wordF
                try simp only [decide_eq_true_eq, decide_eq_false_iff_not] at hc78
                try simp only [decide_eq_true_eq, decide_eq_false_iff_not] at hc82
                try simp only [decide_eq_true_eq, decide_eq_false_iff_not] at hc86
                try simp only [decide_eq_true_eq, decide_eq_false_iff_not] at hc104
                try simp only [bne_iff_ne, bne_eq_false_iff_eq, ne_eq] at hc114
                first
                  | rw [if_neg (by rintro ⟨a1, a2, a3, a4, a5⟩; omega)]
                  | rw [if_neg (by rintro ⟨a1, a2, a3, a4, a5⟩; rw [a1] at hc70; exact absurd hc70 (by decide))]
                  | rw [if_neg (by rintro ⟨a1, a2, a3, a4, a5⟩; rw [a2] at hc73; exact absurd hc73 (by decide))]
                  | (rw [if_pos ⟨by simpa using hc70, by simpa using hc73, by omega, by omega, by omega⟩]
                     first
                       | simp only [hc104, hc114, if_true, if_false, Bool.false_eq_true, false_and, true_and, ne_eq, not_true_eq_false, not_false_eq_true]
                       | simp only [hc104, if_true, if_false, Bool.false_eq_true, false_and, true_and])
              · try simp only [decide_eq_true_eq, decide_eq_false_iff_not] at hc78
                try simp only [decide_eq_true_eq, decide_eq_false_iff_not] at hc82
                try simp only [decide_eq_true_eq, decide_eq_false_iff_not] at hc86
                try simp only [decide_eq_true_eq, decide_eq_false_iff_not] at hc104
                simp only [allP, List.take_length, toNat0, toNat1, List.take_succ_cons, List.drop_succ_cons, List.drop_zero, sb_mk]
                simp only [List.length_cons, List.length_take, i64_min, i64_max, and_true, true_and, decide_eq_true_eq, decide_eq_false_iff_not, beq_eq_false_iff_ne, bne_iff_ne, bne_eq_false_iff_eq, ne_eq]
                repeat' apply And.intro
                all_goals first | omega | exact hd | exact hz | exact hok | exact hox | exact hx | exact hc70 | exact hc73 | exact (hs (by omega) (by omega)).1 hc104 | exact (hs (by omega) (by omega)).2 hc104 | exact hb1 | (simpa using hb0)


theorem rfO_1  : outcome Try.prog 12 (aBody Try.prog clF ⟨true, bs [] ++ ([(27, ⟨.c (.int .i64 0), none⟩), (30, ⟨.c (str []), none⟩), (33, ⟨.c (str []), none⟩), (59, ⟨.c (.int .i64 0), none⟩), (60, ⟨.c (.bool false), none⟩), (64, ⟨.c (.int .i64 0), none⟩), (65, ⟨.c (.bool true), none⟩)])⟩ (lpBy ([])) 60 12 ([.c (str [])]) ([])) = some ((AV.tu [(AV.c ((Value.float .f64 0))),
 (AV.c ((Value.bool false)))]), [(((0 : Nat) : Nat) ≤ ((1000000000 : Nat))),
 ((0 : Int)) = (0),
 (((0 : Int) : Int) ≤ ((0 : Int))),
 (((0 : Int) : Int) ≤ ((0 : Int))),
 (((0 : Int) : Int) ≤ ((↑(0 : Nat) : Int))),
 (([] : List UInt8)) = ([]),
 (((0 : Int) : Int) ≤ ((0 : Int))),
 (((0 : Int) : Int) ≤ ((↑(0 : Nat) : Int))),
 (((↑(0 : Nat) : Int) : Int) ≤ ((↑(0 : Nat) : Int))),
 (([] : List UInt8)) = ([]),
 (((0 : Nat) : Nat) ≤ ((1000000000 : Nat))),
 ((0 : Int)) = (0),
 ((false : Bool)) = (false),
 (((0 : Nat) : Nat) ≤ ((999999990 : Nat))),
 ((0 : Int)) = (0),
 ((true : Bool)) = (true),
 ((IntKind.i64.min : Int) ≤ ((0 : Int) - (0 : Int))),
 (((0 : Int) - (0 : Int) : Int) ≤ (IntKind.i64.max))]) := by kernel_rfl

theorem rfO_all   : ∃ (h : Hints) (p : List Prop), outcome Try.prog 12 (aBody Try.prog clF h (lpBy ([])) 60 12 ([.c (str [])]) ([])) = some (.tu [.c (.float .f64 0), .c (.bool false)], p) ∧ allP p := by
  have eR := rfO_1 
  refine ⟨_, _, eR.trans (congrArg (fun r => some (r, _)) ?_), ?_⟩
  · rfl
  · simp only [allP]
    repeat' apply And.intro
    all_goals first | exact True.intro | decide

end Go.Proofs.Ytigglgobiofalaa
