/- What is decoded: the document's own. -/
import Derived.Test.YtfnappdgiomiiaaDoorEntF
namespace Go.Proofs.YtfnappdgiomiiaaDoor
open Go.RowKit Ent
set_option linter.unusedVariables false
set_option linter.unusedSimpArgs false

noncomputable def clRd : CallT := aCall Tryd.prog (sgBy [(34, rnumSpec), (35, rnameSpec)]) 500 8

theorem clRd_ok : CallOK Tryd.prog clRd := aCall_ok mixed (sgBy_cons rnum_ok (sgBy_cons rname_ok sgBy_nil)) 500 8

def rdS (l out : List UInt8) (i : Nat) : St := ⟨frame 51 [(0, .c (str l)), (3, .c (str out)), (4, .c (.int .i64 i))], []⟩
def numX (r : List UInt8) : List UInt8 × Nat := if r.headD 0 = 35 then byNum (r.drop 1) else ([], 0)

theorem toNat_succ (i : Nat) : ((i : Int) + 1).toNat = i + 1 := by omega

theorem one_at (l : List UInt8) (i : Nat) (h : i < l.length) : List.drop i (List.take (i + 1) l) = [l.getD i 0] := by
  rw [List.drop_take, drop_cons l i h, show i + 1 - i = 1 by omega]
  rfl

noncomputable def rdA_X (l out t z : List UInt8) (n i : Nat) (h_ : List (Nat × Bool)) := roundOut (⟨[], [0, 3, 4], []⟩) (aCode Tryd.prog clRd ⟨true, bs h_ ++ (bs [(10, true), (16, false)] ++ [(49, ⟨.c (str z), none⟩)])⟩ (lpBy ([])) 60 (lbody Tryd.prog 26 3) (rdS l out i))

theorem rdA_1 (l out t z : List UInt8) (n i : Nat) : rdA_X l out t z n i [] = some (.normal, ⟨frame 51 [(0, (AV.c ((str (l))))), (3, (AV.c ((str (z))))), (4, (AV.c ((Value.int .i64 ((↑i : Int) + (1 : Int))))))], []⟩, [decide ((↑i : Int) < ↑l.length) = true,
 (0 : Int) ≤ ↑i,
 (↑i : Int) < ↑l.length,
 ((↑(l.getD i 0).toNat : Int) == (38 : Int)) = false,
 (IntKind.i64.min : Int) ≤ ↑i + 1,
 (↑i + 1 : Int) ≤ IntKind.i64.max,
 (0 : Int) ≤ ↑i,
 (↑i : Int) ≤ ↑i + 1,
 (↑i + 1 : Int) ≤ ↑l.length,
 ((out.length + (List.drop i (List.take ((↑i : Int) + (1 : Int)).toNat l)).length : Nat) ≤ ((9223372036854775807 : Nat))),
 ((out ++ List.drop i (List.take ((↑i : Int) + (1 : Int)).toNat l) : List UInt8)) = (z),
 (IntKind.i64.min : Int) ≤ ↑i + 1,
 (↑i + 1 : Int) ≤ IntKind.i64.max]) := by kernel_rfl

theorem rdA_all (l out t z : List UInt8) (n i : Nat) (hz : out ++ [l.getD i 0] = z) (hi : i < l.length) (hc : ¬ (((l.getD i 0).toNat : Nat) : Int) = 38) (hl : l.length ≤ 1000000000) (hol : out.length ≤ 1000000000) : Round Ext0 Tryd.prog clRd (lbody Tryd.prog 26 3) (rdS l out i) (.normal) (rdS l z (i + 1)) := by
  refine ⟨_, _, _, _, _, lpBy_nil, by decide, (rdA_1 l out t z n i).trans (congrArg (fun S : St => some ((.normal : Exit), S, _)) (by first | rfl | (simp (disch := omega) only [std, List.length_drop, List.length_take, toNat_succ]; done))), ?_⟩
  all_goals try simp (disch := omega) only [std, List.length_drop, List.length_take, toNat_succ]
  all_goals repeat' apply And.intro
  all_goals first | exact True.intro | omega | with_reducible rfl | with_reducible assumption | (rw [one_at l i hi]; exact hz) | exact congrArg (fun z : Nat => (z : Int)) k22 | exact congrArg (fun z : Nat => (z : Int)) k32 | exact hz | exact hc | rfl


noncomputable def rdB_X (l out t z : List UInt8) (n i : Nat) (h_ : List (Nat × Bool)) := roundOut (⟨[], [0, 3, 4], []⟩) (aCode Tryd.prog clRd ⟨true, bs h_ ++ (bs [(10, true), (16, true), (26, false), (36, true)] ++ [(23, ⟨.c (str t), none⟩), (24, ⟨.c (.int .i64 n), none⟩), (39, ⟨.c (str z), none⟩), (42, ⟨.c (.int .i64 (i + n : Nat)), none⟩)])⟩ (lpBy ([])) 60 (lbody Tryd.prog 26 3) (rdS l out i))

theorem rdB_1 (l out t z : List UInt8) (n i : Nat) : rdB_X l out t z n i [] = some (.normal, ⟨frame 51 [(0, (AV.c ((str (l))))), (3, (AV.c ((str (z))))), (4, (AV.c ((Value.int .i64 ((↑(i + n) : Int) + (1 : Int))))))], []⟩, [decide ((↑i : Int) < ↑l.length) = true,
 (0 : Int) ≤ ↑i,
 (↑i : Int) < ↑l.length,
 ((↑(l.getD i 0).toNat : Int) == (38 : Int)) = true,
 (IntKind.i64.min : Int) ≤ ↑i + 1,
 (↑i + 1 : Int) ≤ IntKind.i64.max,
 (0 : Int) ≤ ↑i + 1,
 (↑i + 1 : Int) ≤ ↑l.length,
 (↑l.length : Int) ≤ ↑l.length,
 (((List.drop ((↑i : Int) + (1 : Int)).toNat (List.take l.length l)).length : Nat) ≤ ((9223372036854775790 : Nat))),
 ((rv (if (sb { data := { toList := List.drop ((↑i : Int) + (1 : Int)).toNat (List.take (↑(sb { data := { toList := l } }).length : Int).toNat (sb { data := { toList := l } })) } }).headD (0 : UInt8) = (35 : UInt8) then byNum (List.drop (1 : Nat) (sb { data := { toList := List.drop ((↑i : Int) + (1 : Int)).toNat (List.take (↑(sb { data := { toList := l } }).length : Int).toNat (sb { data := { toList := l } })) } })) else ([], (0 : Nat))) : List UInt8)) = (t),
 (((↑(if (sb { data := { toList := List.drop ((↑i : Int) + (1 : Int)).toNat (List.take (↑(sb { data := { toList := l } }).length : Int).toNat (sb { data := { toList := l } })) } }).headD (0 : UInt8) = (35 : UInt8) then byNum (List.drop (1 : Nat) (sb { data := { toList := List.drop ((↑i : Int) + (1 : Int)).toNat (List.take (↑(sb { data := { toList := l } }).length : Int).toNat (sb { data := { toList := l } })) } })) else ([], (0 : Nat))).snd : Int) : Int)) = ((↑n : Int)),
 ((↑n : Int) == (0 : Int)) = false,
 decide ((↑n : Int) > 0) = true,
 ((out.length + t.length : Nat) ≤ ((9223372036854775807 : Nat))),
 ((out ++ t : List UInt8)) = (z),
 (IntKind.i64.min : Int) ≤ ↑i + ↑n,
 (↑i + ↑n : Int) ≤ IntKind.i64.max,
 (↑i + ↑n : Int) = ↑(i + n),
 (IntKind.i64.min : Int) ≤ ↑(i + n) + 1,
 (↑(i + n) + 1 : Int) ≤ IntKind.i64.max]) := by kernel_rfl

theorem rdB_all (l out t z : List UInt8) (n i : Nat) (hz : out ++ t = z) (ht : t.length ≤ 1000) (hi : i < l.length) (hc : (((l.getD i 0).toNat : Nat) : Int) = 38) (n0 : 0 < n) (hn : i + n < l.length) (h22 : rv (numX (l.drop (i + 1))) = t) (k22 : (numX (l.drop (i + 1))).2 = n) (hl : l.length ≤ 1000000000) (hol : out.length ≤ 1000000000) : Round Ext0 Tryd.prog clRd (lbody Tryd.prog 26 3) (rdS l out i) (.normal) (rdS l z (i + n + 1)) := by
  refine ⟨_, _, _, _, _, lpBy_nil, by decide, (rdB_1 l out t z n i).trans (congrArg (fun S : St => some ((.normal : Exit), S, _)) (by first | rfl | (simp (disch := omega) only [std, List.length_drop, List.length_take, toNat_succ]; done))), ?_⟩
  all_goals try simp (disch := omega) only [std, List.length_drop, List.length_take, toNat_succ]
  all_goals repeat' apply And.intro
  all_goals first | exact True.intro | omega | with_reducible rfl | with_reducible assumption | (rw [one_at l i hi]; exact hz) | exact congrArg (fun z : Nat => (z : Int)) k22 | exact congrArg (fun z : Nat => (z : Int)) k32 | exact hz | exact hc | exact h22 | exact k22 | rfl


noncomputable def rdC_X (l out t z : List UInt8) (n i : Nat) (h_ : List (Nat × Bool)) := roundOut (⟨[], [0, 3, 4], []⟩) (aCode Tryd.prog clRd ⟨true, bs h_ ++ (bs [(10, true), (16, true), (26, true), (36, true)] ++ [(23, ⟨.c (str []), none⟩), (24, ⟨.c (.int .i64 0), none⟩), (33, ⟨.c (str t), none⟩), (34, ⟨.c (.int .i64 n), none⟩), (39, ⟨.c (str z), none⟩), (42, ⟨.c (.int .i64 (i + n : Nat)), none⟩)])⟩ (lpBy ([])) 60 (lbody Tryd.prog 26 3) (rdS l out i))

theorem rdC_1 (l out t z : List UInt8) (n i : Nat) : rdC_X l out t z n i [] = some (.normal, ⟨frame 51 [(0, (AV.c ((str (l))))), (3, (AV.c ((str (z))))), (4, (AV.c ((Value.int .i64 ((↑(i + n) : Int) + (1 : Int))))))], []⟩, [decide ((↑i : Int) < ↑l.length) = true,
 (0 : Int) ≤ ↑i,
 (↑i : Int) < ↑l.length,
 ((↑(l.getD i 0).toNat : Int) == (38 : Int)) = true,
 (IntKind.i64.min : Int) ≤ ↑i + 1,
 (↑i + 1 : Int) ≤ IntKind.i64.max,
 (0 : Int) ≤ ↑i + 1,
 (↑i + 1 : Int) ≤ ↑l.length,
 (↑l.length : Int) ≤ ↑l.length,
 (((List.drop ((↑i : Int) + (1 : Int)).toNat (List.take l.length l)).length : Nat) ≤ ((9223372036854775790 : Nat))),
 ((rv (if (sb { data := { toList := List.drop ((↑i : Int) + (1 : Int)).toNat (List.take (↑(sb { data := { toList := l } }).length : Int).toNat (sb { data := { toList := l } })) } }).headD (0 : UInt8) = (35 : UInt8) then byNum (List.drop (1 : Nat) (sb { data := { toList := List.drop ((↑i : Int) + (1 : Int)).toNat (List.take (↑(sb { data := { toList := l } }).length : Int).toNat (sb { data := { toList := l } })) } })) else ([], (0 : Nat))) : List UInt8)) = ([]),
 (((↑(if (sb { data := { toList := List.drop ((↑i : Int) + (1 : Int)).toNat (List.take (↑(sb { data := { toList := l } }).length : Int).toNat (sb { data := { toList := l } })) } }).headD (0 : UInt8) = (35 : UInt8) then byNum (List.drop (1 : Nat) (sb { data := { toList := List.drop ((↑i : Int) + (1 : Int)).toNat (List.take (↑(sb { data := { toList := l } }).length : Int).toNat (sb { data := { toList := l } })) } })) else ([], (0 : Nat))).snd : Int) : Int)) = (0),
 (true) = true,
 (IntKind.i64.min : Int) ≤ ↑i + 1,
 (↑i + 1 : Int) ≤ IntKind.i64.max,
 (0 : Int) ≤ ↑i + 1,
 (↑i + 1 : Int) ≤ ↑l.length,
 (↑l.length : Int) ≤ ↑l.length,
 (((List.drop ((↑i : Int) + (1 : Int)).toNat (List.take l.length l)).length : Nat) ≤ ((9223372036854775790 : Nat))),
 ((rv (byName (sb { data := { toList := List.drop ((↑i : Int) + (1 : Int)).toNat (List.take (↑(sb { data := { toList := l } }).length : Int).toNat (sb { data := { toList := l } })) } }) (min (sb { data := { toList := List.drop ((↑i : Int) + (1 : Int)).toNat (List.take (↑(sb { data := { toList := l } }).length : Int).toNat (sb { data := { toList := l } })) } }).length (15 : Nat))) : List UInt8)) = (t),
 (((↑(byName (sb { data := { toList := List.drop ((↑i : Int) + (1 : Int)).toNat (List.take (↑(sb { data := { toList := l } }).length : Int).toNat (sb { data := { toList := l } })) } }) (min (sb { data := { toList := List.drop ((↑i : Int) + (1 : Int)).toNat (List.take (↑(sb { data := { toList := l } }).length : Int).toNat (sb { data := { toList := l } })) } }).length (15 : Nat))).snd : Int) : Int)) = ((↑n : Int)),
 decide ((↑n : Int) > 0) = true,
 ((out.length + t.length : Nat) ≤ ((9223372036854775807 : Nat))),
 ((out ++ t : List UInt8)) = (z),
 (IntKind.i64.min : Int) ≤ ↑i + ↑n,
 (↑i + ↑n : Int) ≤ IntKind.i64.max,
 (↑i + ↑n : Int) = ↑(i + n),
 (IntKind.i64.min : Int) ≤ ↑(i + n) + 1,
 (↑(i + n) + 1 : Int) ≤ IntKind.i64.max]) := by kernel_rfl

theorem rdC_all (l out t z : List UInt8) (n i : Nat) (hz : out ++ t = z) (ht : t.length ≤ 1000) (hi : i < l.length) (hc : (((l.getD i 0).toNat : Nat) : Int) = 38) (n0 : 0 < n) (hn : i + n < l.length) (h22 : rv (numX (l.drop (i + 1))) = []) (k22 : (numX (l.drop (i + 1))).2 = 0) (h32 : rv (byName (l.drop (i + 1)) (min (l.length - (i + 1)) 15)) = t) (k32 : (byName (l.drop (i + 1)) (min (l.length - (i + 1)) 15)).2 = n) (hl : l.length ≤ 1000000000) (hol : out.length ≤ 1000000000) : Round Ext0 Tryd.prog clRd (lbody Tryd.prog 26 3) (rdS l out i) (.normal) (rdS l z (i + n + 1)) := by
  refine ⟨_, _, _, _, _, lpBy_nil, by decide, (rdC_1 l out t z n i).trans (congrArg (fun S : St => some ((.normal : Exit), S, _)) (by first | rfl | (simp (disch := omega) only [std, List.length_drop, List.length_take, toNat_succ]; done))), ?_⟩
  all_goals try simp (disch := omega) only [std, List.length_drop, List.length_take, toNat_succ]
  all_goals repeat' apply And.intro
  all_goals first | exact True.intro | omega | with_reducible rfl | with_reducible assumption | (rw [one_at l i hi]; exact hz) | exact congrArg (fun z : Nat => (z : Int)) k22 | exact congrArg (fun z : Nat => (z : Int)) k32 | exact hz | exact hc | exact h22 | exact k22 | exact h32 | exact k32 | rfl


noncomputable def rdD_X (l out t z : List UInt8) (n i : Nat) (h_ : List (Nat × Bool)) := roundOut (⟨[], [0, 3, 4], []⟩) (aCode Tryd.prog clRd ⟨true, bs h_ ++ (bs [(10, true), (16, true), (26, true), (36, false)] ++ [(23, ⟨.c (str []), none⟩), (24, ⟨.c (.int .i64 0), none⟩), (33, ⟨.c (str []), none⟩), (34, ⟨.c (.int .i64 0), none⟩), (49, ⟨.c (str z), none⟩)])⟩ (lpBy ([])) 60 (lbody Tryd.prog 26 3) (rdS l out i))

theorem rdD_1 (l out t z : List UInt8) (n i : Nat) : rdD_X l out t z n i [] = some (.normal, ⟨frame 51 [(0, (AV.c ((str (l))))), (3, (AV.c ((str (z))))), (4, (AV.c ((Value.int .i64 ((↑i : Int) + (1 : Int))))))], []⟩, [decide ((↑i : Int) < ↑l.length) = true,
 (0 : Int) ≤ ↑i,
 (↑i : Int) < ↑l.length,
 ((↑(l.getD i 0).toNat : Int) == (38 : Int)) = true,
 (IntKind.i64.min : Int) ≤ ↑i + 1,
 (↑i + 1 : Int) ≤ IntKind.i64.max,
 (0 : Int) ≤ ↑i + 1,
 (↑i + 1 : Int) ≤ ↑l.length,
 (↑l.length : Int) ≤ ↑l.length,
 (((List.drop ((↑i : Int) + (1 : Int)).toNat (List.take l.length l)).length : Nat) ≤ ((9223372036854775790 : Nat))),
 ((rv (if (sb { data := { toList := List.drop ((↑i : Int) + (1 : Int)).toNat (List.take (↑(sb { data := { toList := l } }).length : Int).toNat (sb { data := { toList := l } })) } }).headD (0 : UInt8) = (35 : UInt8) then byNum (List.drop (1 : Nat) (sb { data := { toList := List.drop ((↑i : Int) + (1 : Int)).toNat (List.take (↑(sb { data := { toList := l } }).length : Int).toNat (sb { data := { toList := l } })) } })) else ([], (0 : Nat))) : List UInt8)) = ([]),
 (((↑(if (sb { data := { toList := List.drop ((↑i : Int) + (1 : Int)).toNat (List.take (↑(sb { data := { toList := l } }).length : Int).toNat (sb { data := { toList := l } })) } }).headD (0 : UInt8) = (35 : UInt8) then byNum (List.drop (1 : Nat) (sb { data := { toList := List.drop ((↑i : Int) + (1 : Int)).toNat (List.take (↑(sb { data := { toList := l } }).length : Int).toNat (sb { data := { toList := l } })) } })) else ([], (0 : Nat))).snd : Int) : Int)) = (0),
 (true) = true,
 (IntKind.i64.min : Int) ≤ ↑i + 1,
 (↑i + 1 : Int) ≤ IntKind.i64.max,
 (0 : Int) ≤ ↑i + 1,
 (↑i + 1 : Int) ≤ ↑l.length,
 (↑l.length : Int) ≤ ↑l.length,
 (((List.drop ((↑i : Int) + (1 : Int)).toNat (List.take l.length l)).length : Nat) ≤ ((9223372036854775790 : Nat))),
 ((rv (byName (sb { data := { toList := List.drop ((↑i : Int) + (1 : Int)).toNat (List.take (↑(sb { data := { toList := l } }).length : Int).toNat (sb { data := { toList := l } })) } }) (min (sb { data := { toList := List.drop ((↑i : Int) + (1 : Int)).toNat (List.take (↑(sb { data := { toList := l } }).length : Int).toNat (sb { data := { toList := l } })) } }).length (15 : Nat))) : List UInt8)) = ([]),
 (((↑(byName (sb { data := { toList := List.drop ((↑i : Int) + (1 : Int)).toNat (List.take (↑(sb { data := { toList := l } }).length : Int).toNat (sb { data := { toList := l } })) } }) (min (sb { data := { toList := List.drop ((↑i : Int) + (1 : Int)).toNat (List.take (↑(sb { data := { toList := l } }).length : Int).toNat (sb { data := { toList := l } })) } }).length (15 : Nat))).snd : Int) : Int)) = (0),
 (false) = false,
 (IntKind.i64.min : Int) ≤ ↑i + 1,
 (↑i + 1 : Int) ≤ IntKind.i64.max,
 (0 : Int) ≤ ↑i,
 (↑i : Int) ≤ ↑i + 1,
 (↑i + 1 : Int) ≤ ↑l.length,
 ((out.length + (List.drop i (List.take ((↑i : Int) + (1 : Int)).toNat l)).length : Nat) ≤ ((9223372036854775807 : Nat))),
 ((out ++ List.drop i (List.take ((↑i : Int) + (1 : Int)).toNat l) : List UInt8)) = (z),
 (IntKind.i64.min : Int) ≤ ↑i + 1,
 (↑i + 1 : Int) ≤ IntKind.i64.max]) := by kernel_rfl

theorem rdD_all (l out t z : List UInt8) (n i : Nat) (hz : out ++ [l.getD i 0] = z) (hi : i < l.length) (hc : (((l.getD i 0).toNat : Nat) : Int) = 38) (h22 : rv (numX (l.drop (i + 1))) = []) (k22 : (numX (l.drop (i + 1))).2 = 0) (h32 : rv (byName (l.drop (i + 1)) (min (l.length - (i + 1)) 15)) = []) (k32 : (byName (l.drop (i + 1)) (min (l.length - (i + 1)) 15)).2 = 0) (hl : l.length ≤ 1000000000) (hol : out.length ≤ 1000000000) : Round Ext0 Tryd.prog clRd (lbody Tryd.prog 26 3) (rdS l out i) (.normal) (rdS l z (i + 1)) := by
  refine ⟨_, _, _, _, _, lpBy_nil, by decide, (rdD_1 l out t z n i).trans (congrArg (fun S : St => some ((.normal : Exit), S, _)) (by first | rfl | (simp (disch := omega) only [std, List.length_drop, List.length_take, toNat_succ]; done))), ?_⟩
  all_goals try simp (disch := omega) only [std, List.length_drop, List.length_take, toNat_succ]
  all_goals repeat' apply And.intro
  all_goals first | exact True.intro | omega | with_reducible rfl | with_reducible assumption | (rw [one_at l i hi]; exact hz) | exact congrArg (fun z : Nat => (z : Int)) k22 | exact congrArg (fun z : Nat => (z : Int)) k32 | exact hz | exact hc | exact h22 | exact k22 | exact h32 | exact k32 | rfl


noncomputable def rdZ_X (l out t z : List UInt8) (n i : Nat) (h_ : List (Nat × Bool)) := roundOut (⟨[], [0, 3, 4], []⟩) (aCode Tryd.prog clRd ⟨true, bs h_ ++ (bs [(10, false)] ++ [])⟩ (lpBy ([])) 60 (lbody Tryd.prog 26 3) (rdS l out i))

theorem rdZ_1 (l out t z : List UInt8) (n i : Nat) : rdZ_X l out t z n i [] = some (.exit 0, ⟨frame 51 [(0, (AV.c ((str (l))))), (3, (AV.c ((str (out))))), (4, (AV.c ((Value.int .i64 ((↑i : Int))))))], []⟩, [decide ((↑i : Int) < ↑l.length) = false]) := by kernel_rfl

theorem rdZ_all (l out t z : List UInt8) (n i : Nat) (hz : z = z) (hi : i = l.length) (hl : l.length ≤ 1000000000) (hol : out.length ≤ 1000000000) : Round Ext0 Tryd.prog clRd (lbody Tryd.prog 26 3) (rdS l out i) (.exit 0) (rdS l out i) := by
  refine ⟨_, _, _, _, _, lpBy_nil, by decide, (rdZ_1 l out t z n i).trans (congrArg (fun S : St => some ((.exit 0 : Exit), S, _)) (by first | rfl | (simp (disch := omega) only [std, List.length_drop, List.length_take, toNat_succ]; done))), ?_⟩
  all_goals try simp (disch := omega) only [std, List.length_drop, List.length_take, toNat_succ]
  all_goals repeat' apply And.intro
  all_goals first | exact True.intro | omega | with_reducible rfl | with_reducible assumption | (rw [one_at l i hi]; exact hz) | exact congrArg (fun z : Nat => (z : Int)) k22 | exact congrArg (fun z : Nat => (z : Int)) k32 | exact hz | exact hi | rfl


def RdI (l : List UInt8) (x : List UInt8 × Nat) : Prop := x.1 ++ entF (l.drop x.2) = entF l ∧ x.1.length ≤ x.2 ∧ x.2 ≤ l.length

theorem num_ref {r : List UInt8} : (r.headD 0 = 35 → refF r = byNum (r.drop 1) ∧ numX r = byNum (r.drop 1)) ∧ (¬ r.headD 0 = 35 → refF r = byName r (min r.length 15) ∧ numX r = ([], 0)) := by
  constructor
  · intro h
    refine ⟨?_, if_pos h⟩
    cases r with
    | nil => simp at h
    | cons c r => rw [List.headD_cons] at h; subst h; rfl
  · intro h
    refine ⟨ref_other ?_, if_neg h⟩
    cases r with
    | nil => rfl
    | cons c r => rw [preB_one]; exact decide_eq_false h

theorem named_35 (r : List UInt8) : ∀ n, n ≤ 15 → byName (35 :: r) n = ([38], 0)
  | 0, _ => rfl
  | n + 1, h => by
    rw [byName_cons, List.take_succ_cons, named_head (by decide), if_pos rfl]
    exact named_35 r n (by omega)

theorem byNum_zero {l : List UInt8} (h : (byNum l).2 = 0) : byNum l = ([38], 0) := by
  have key : ∀ (b : Int) (a : Nat) (l : List UInt8), (tailR b a l).2 = 0 → tailR b a l = ([38], 0) := by
    intro b a l h
    unfold tailR at h ⊢
    split at h
    · rename_i h0; rw [if_pos h0]
    · rename_i h0; simp only at h; omega
  unfold byNum at h ⊢
  split at h
  · exact key _ _ _ h
  · exact key _ _ _ h
  · exact key _ _ _ h

theorem rd_walk (l : List UInt8) (hl : l.length ≤ 1000000000) : Tri Ext0 Tryd.prog (.loop (lbody Tryd.prog 26 3)) (rdS l [] 0) (.exit 0) (rdS l (entF l) l.length) := by
  refine loop_inv mixed clRd_ok (fun x : List UInt8 × Nat => rdS l x.1 x.2) (RdI l) (fun x => l.length - x.2) (fun x hx => ?_) ([], 0) ⟨rfl, by simp, by simp⟩
  obtain ⟨out, i⟩ := x
  obtain ⟨e1, e2, e3⟩ := hx
  simp only at e1 e2 e3 ⊢
  by_cases hi : i < l.length
  · have hd := drop_cons l i hi
    by_cases hc : l.getD i 0 = 38
    · rw [hd, hc, ent_amp] at e1
      have hr := ref_len (l.drop (i + 1))
      have hdl : (l.drop (i + 1)).length = l.length - (i + 1) := List.length_drop
      have hne := num_ref (r := l.drop (i + 1))
      have hcc : (((l.getD i 0).toNat : Nat) : Int) = 38 := by rw [hc]; rfl
      have fin : RdI l (out ++ (refF (l.drop (i + 1))).1, i + (refF (l.drop (i + 1))).2 + 1) := by
        refine ⟨?_, by simp only [List.length_append]; omega, by simp only; omega⟩
        simp only
        rw [← e1, List.append_assoc, List.drop_drop, show i + 1 + (refF (l.drop (i + 1))).2 = i + (refF (l.drop (i + 1))).2 + 1 by omega]
      have rv1 : ∀ x : List UInt8 × Nat, x.2 ≠ 0 → rv x = x.1 := fun x h => if_neg h
      have rv0 : ∀ x : List UInt8 × Nat, x.2 = 0 → rv x = [] := fun x h => if_pos h
      by_cases h35 : (l.drop (i + 1)).headD 0 = 35
      · obtain ⟨n1, n2⟩ := hne.1 h35
        by_cases h0 : (refF (l.drop (i + 1))).2 = 0
        · have hz : refF (l.drop (i + 1)) = ([38], 0) := by rw [n1] at h0 ⊢; exact byNum_zero h0
          rw [hz] at fin
          have hbn : byName (l.drop (i + 1)) (min (l.length - (i + 1)) 15) = ([38], 0) := by
            obtain ⟨r, hr35⟩ : ∃ r, l.drop (i + 1) = 35 :: r := by
              match hq : l.drop (i + 1) with
              | [] => rw [hq] at h35; simp at h35
              | c :: r => rw [hq] at h35; simp only [List.headD_cons] at h35; exact ⟨r, by rw [h35]⟩
            rw [hr35]
            exact named_35 r _ (by omega)
          refine .inl ⟨(out ++ [38], i + 1), fin, by simp only; omega, ?_⟩
          have := rdD_all l out [] (out ++ [l.getD i 0]) 0 i rfl hi hcc (rv0 _ (by rw [n2, ← n1]; exact h0)) (by rw [n2, ← n1]; exact h0) (by rw [hbn]; rfl) (by rw [hbn]) hl (by omega)
          rw [hc] at this
          exact this
        · refine .inl ⟨_, fin, by simp only; omega, ?_⟩
          have h4 : (refF (l.drop (i + 1))).1.length ≤ 1000 := by
            rw [n1]
            have := byNum_le4 ((l.drop (i + 1)).drop 1)
            omega
          exact rdB_all l out (refF (l.drop (i + 1))).1 _ (refF (l.drop (i + 1))).2 i rfl h4 hi hcc (by omega) (by omega) (by rw [n2, ← n1]; exact rv1 _ h0) (by rw [n2, ← n1]) hl (by omega)
      · obtain ⟨n1, n2⟩ := hne.2 h35
        rw [hdl] at n1
        by_cases h0 : (refF (l.drop (i + 1))).2 = 0
        · have hz : refF (l.drop (i + 1)) = ([38], 0) := by rw [n1] at h0 ⊢; exact byName_zero _ _ h0
          rw [hz] at fin
          refine .inl ⟨(out ++ [38], i + 1), fin, by simp only; omega, ?_⟩
          have := rdD_all l out [] (out ++ [l.getD i 0]) 0 i rfl hi hcc (by rw [n2]; rfl) (by rw [n2]) (by rw [← n1, hz]; rfl) (by rw [← n1, hz]) hl (by omega)
          rw [hc] at this
          exact this
        · refine .inl ⟨_, fin, by simp only; omega, ?_⟩
          have h4 : (refF (l.drop (i + 1))).1.length ≤ 1000 := by
            have : (refF (l.drop (i + 1))).2 ≤ 15 := by
              rw [n1]
              have := (byName_len (l.drop (i + 1)) (min (l.length - (i + 1)) 15) (by omega)).2
              omega
            omega
          exact rdC_all l out (refF (l.drop (i + 1))).1 _ (refF (l.drop (i + 1))).2 i rfl h4 hi hcc (by omega) (by omega) (by rw [n2]; rfl) (by rw [n2]) (by rw [← n1]; exact rv1 _ h0) (by rw [← n1]) hl (by omega)
    · rw [hd, ent_cons _ hc] at e1
      refine .inl ⟨(out ++ [l.getD i 0], i + 1), ⟨by simp only; rw [← e1]; simp, by simp only [List.length_append, List.length_singleton]; omega, by simp only; omega⟩, by simp only; omega, ?_⟩
      exact rdA_all l out [] _ 0 i rfl hi (u8_ne (k := 38) (by decide) hc) hl (by omega)
  · have he : i = l.length := by omega
    subst he
    rw [List.drop_length, ent_nil, List.append_nil] at e1
    rw [← e1]
    exact .inr ⟨by simp, rdZ_all l out [] [] 0 l.length rfl rfl hl (by omega)⟩

noncomputable def rdLp (l : List UInt8) : List (Nat × Lp) := [(3, ⟨lbody Tryd.prog 26 3, ⟨[], [0, 3, 4], []⟩, rdS l [] 0, .exit 0, rdS l (entF l) l.length⟩)]

noncomputable def rd_X (l : List UInt8) (h_ : List (Nat × Bool)) := outcome Tryd.prog 26 (aBody Tryd.prog clRd ⟨true, bs h_ ++ ([])⟩ (lpBy (rdLp l)) 60 26 ([.c (str l)]) ([]))

theorem rd_1 (l : List UInt8) : rd_X l [] = some ((AV.c ((str (entF l)))), [((lbody Tryd.prog (26 : FuncId) (3 : Nat) : Go.Code)) = (lbody Tryd.prog (26 : FuncId) (3 : Nat)),
 ((rdS l [] (0 : Nat) : Go.Proofs.YtfnappdgiomiiaaDoor.St)) = (rdS l [] (0 : Nat))]) := by kernel_rfl

theorem rd_all (l : List UInt8)  : ∃ (h : Hints) (p : List Prop), outcome Tryd.prog 26 (aBody Tryd.prog clRd h (lpBy (rdLp l)) 60 26 ([.c (str l)]) ([])) = some (.c (str (entF l)), p) ∧ allP p := by
  have eR := rd_1 l
  refine ⟨_, _, eR.trans (congrArg (fun r => some (r, _)) ?_), ?_⟩
  · rfl
  · try simp only [dz] at *
    try simp (disch := omega) only [std, bytesOK_cons, bytesOK_nil]
    repeat' apply And.intro
    all_goals first | exact True.intro | omega | assumption | rfl | exact avEq_refl _

theorem rent_ok : SpecOK Tryd.prog 26 entSpec := by
  refine spec_of mixed clRd_ok fun args r q hs hq => ?_
  unfold entSpec at hs
  split at hs
  · rename_i l
    simp only [Option.some.injEq, Prod.mk.injEq] at hs
    obtain ⟨rfl, rfl⟩ := hs
    obtain ⟨⟨⟨l⟩⟩, rfl⟩ : ∃ b : ByteArray, b = l := ⟨l, rfl⟩
    simp only [sb_mk, allP, and_true] at hq ⊢
    obtain ⟨hh, q, e, hp⟩ := rd_all l
    exact ⟨_, _, _, _, lpBy_cons lpBy_nil List.nodup_nil (rd_walk l hq), e, hp⟩
  · simp at hs

end Go.Proofs.YtfnappdgiomiiaaDoor
