/- The laws of numbers: the form. -/
import Derived.Test.YtigglgobiofalaaNumM
namespace Go.Proofs.Ytigglgobiofalaa
open Go.RowKit Num Ieee
set_option linter.unusedVariables false
set_option linter.unusedSimpArgs false

/-! The form. -/
theorem formE1_1 (l : List UInt8) (a : Int) (c : UInt8) (is : Bool) : lawOut (aBody Try.prog clT ⟨true, bs [(27, true)] ++ ([(24, ⟨.c (.bool is), none⟩)])⟩ (lpBy ([])) 60 7 ([.c (str l), .c (.int .i64 a), .c (.int .u8 (c.toNat : Nat))]) ([])) = some ((AV.c ((Value.bool true))), [((l.length : Nat) ≤ ((9223372036854775807 : Nat))),
 (((floatF (sb { data := { toList := l } })).isSome : Bool)) = (is),
 ((decide ((↑l.length : Int) > (50 : Int)) : Bool)) = (true)]) := by kernel_rfl

theorem formE1_all (l : List UInt8) (a : Int) (c : UInt8) (is : Bool) (h1 : (floatF l).isSome = is) (ll : l.length ≤ 9223372036854775807) (h0 : (l.length : Int) > 50) : ∃ (h : Hints) (p : List Prop), lawOut (aBody Try.prog clT h (lpBy ([])) 60 7 ([.c (str l), .c (.int .i64 a), .c (.int .u8 (c.toNat : Nat))]) ([])) = some (.c (.bool true), p) ∧ allP p := by
  have eR := formE1_1 l a c is
  refine ⟨_, _, eR.trans (congrArg (fun r => some (r, _)) ?_), ?_⟩
  · try clear eR
    rfl
  · try clear eR
    simp (disch := omega) only [allP, sb_mk, sl1, toNat0, toNat1, toNat2, Int.toNat_natCast, List.take_length, List.take_succ_cons, List.drop_succ_cons, List.drop_zero, List.take_zero, List.length_cons, List.length_nil, List.getD_cons_zero, i64_wrap, i32_wrap, u8_wrap, u32_wrap, tdN, tmN, i64_min, i64_max, u8_min, u8_max, decide_eq_true_eq, decide_eq_false_iff_not, beq_iff_eq, beq_eq_false_iff_ne, bne_iff_ne, bne_eq_false_iff_eq, ne_eq, not_false_eq_true, and_true, true_and, Int.zero_sub]
    repeat' apply And.intro
    all_goals first | exact True.intro | omega | with_reducible rfl | with_reducible assumption | exact h1 | rfl


theorem formE2_1 (l : List UInt8) (a : Int) (c : UInt8) (is : Bool) : lawOut (aBody Try.prog clT ⟨true, bs [(27, false)] ++ ([(24, ⟨.c (.bool false), none⟩)])⟩ (lpBy ([])) 60 7 ([.c (str l), .c (.int .i64 a), .c (.int .u8 (c.toNat : Nat))]) ([])) = some ((AV.c ((Value.bool true))), [((l.length : Nat) ≤ ((9223372036854775807 : Nat))),
 (((floatF (sb { data := { toList := l } })).isSome : Bool)) = (false),
 ((decide ((↑l.length : Int) > (50 : Int)) : Bool)) = (false)]) := by kernel_rfl

theorem formE2_all (l : List UInt8) (a : Int) (c : UInt8) (is : Bool) (h1 : (floatF l).isSome = false) (ll : l.length ≤ 9223372036854775807) (h0 : l.length ≤ 50) (h2 : (floatF l).isSome = false) : ∃ (h : Hints) (p : List Prop), lawOut (aBody Try.prog clT h (lpBy ([])) 60 7 ([.c (str l), .c (.int .i64 a), .c (.int .u8 (c.toNat : Nat))]) ([])) = some (.c (.bool true), p) ∧ allP p := by
  have eR := formE2_1 l a c is
  refine ⟨_, _, eR.trans (congrArg (fun r => some (r, _)) ?_), ?_⟩
  · try clear eR
    rfl
  · try clear eR
    simp (disch := omega) only [allP, sb_mk, sl1, toNat0, toNat1, toNat2, Int.toNat_natCast, List.take_length, List.take_succ_cons, List.drop_succ_cons, List.drop_zero, List.take_zero, List.length_cons, List.length_nil, List.getD_cons_zero, i64_wrap, i32_wrap, u8_wrap, u32_wrap, tdN, tmN, i64_min, i64_max, u8_min, u8_max, decide_eq_true_eq, decide_eq_false_iff_not, beq_iff_eq, beq_eq_false_iff_ne, bne_iff_ne, bne_eq_false_iff_eq, ne_eq, not_false_eq_true, and_true, true_and, Int.zero_sub]
    repeat' apply And.intro
    all_goals first | exact True.intro | omega | with_reducible rfl | with_reducible assumption | exact h1 | exact h2 | rfl


theorem formE3_1 (l : List UInt8) (a : Int) (c : UInt8) (is : Bool) : lawOut (aBody Try.prog clT ⟨true, bs [(27, false), (34, true)] ++ ([(24, ⟨.c (.bool true), none⟩)])⟩ (lpBy ([])) 60 7 ([.c (str l), .c (.int .i64 a), .c (.int .u8 (c.toNat : Nat))]) ([])) = some ((AV.c ((Value.bool true))), [((l.length : Nat) ≤ ((9223372036854775807 : Nat))),
 (((floatF (sb { data := { toList := l } })).isSome : Bool)) = (true),
 ((decide ((↑l.length : Int) > (50 : Int)) : Bool)) = (false),
 ((decide (a < (0 : Int)) : Bool)) = (true)]) := by kernel_rfl

theorem formE3_2 (l : List UInt8) (a : Int) (c : UInt8) (is : Bool) : lawOut (aBody Try.prog clT ⟨true, bs [(27, false), (34, false), (40, true)] ++ ([(24, ⟨.c (.bool true), none⟩)])⟩ (lpBy ([])) 60 7 ([.c (str l), .c (.int .i64 a), .c (.int .u8 (c.toNat : Nat))]) ([])) = some ((AV.c ((Value.bool true))), [((l.length : Nat) ≤ ((9223372036854775807 : Nat))),
 (((floatF (sb { data := { toList := l } })).isSome : Bool)) = (true),
 ((decide ((↑l.length : Int) > (50 : Int)) : Bool)) = (false),
 ((decide (a < (0 : Int)) : Bool)) = (false),
 ((decide (a > (↑l.length : Int)) : Bool)) = (true)]) := by kernel_rfl

theorem formE3_all (l : List UInt8) (a : Int) (c : UInt8) (is : Bool) (h1 : (floatF l).isSome = true) (ll : l.length ≤ 9223372036854775807) (h0 : l.length ≤ 50) (h3 : a < 0 ∨ a > (l.length : Int)) : ∃ (h : Hints) (p : List Prop), lawOut (aBody Try.prog clT h (lpBy ([])) 60 7 ([.c (str l), .c (.int .i64 a), .c (.int .u8 (c.toNat : Nat))]) ([])) = some (.c (.bool true), p) ∧ allP p := by
  cases hc34 : (decide (a < (0 : Int)) : Bool) with
  | true =>
    have eR := formE3_1 l a c is
    refine ⟨_, _, eR.trans (congrArg (fun r => some (r, _)) ?_), ?_⟩
    · try clear eR
      rfl
    · try clear eR
      try simp only [decide_eq_true_eq, decide_eq_false_iff_not, beq_iff_eq, beq_eq_false_iff_ne, bne_iff_ne, bne_eq_false_iff_eq, ne_eq] at hc34
      try simp only [toNat0, toNat1, toNat2, Int.toNat_natCast, sb_mk] at hc34
      simp (disch := omega) only [allP, sb_mk, sl1, toNat0, toNat1, toNat2, Int.toNat_natCast, List.take_length, List.take_succ_cons, List.drop_succ_cons, List.drop_zero, List.take_zero, List.length_cons, List.length_nil, List.getD_cons_zero, i64_wrap, i32_wrap, u8_wrap, u32_wrap, tdN, tmN, i64_min, i64_max, u8_min, u8_max, decide_eq_true_eq, decide_eq_false_iff_not, beq_iff_eq, beq_eq_false_iff_ne, bne_iff_ne, bne_eq_false_iff_eq, ne_eq, not_false_eq_true, and_true, true_and, Int.zero_sub]
      repeat' apply And.intro
      all_goals first | exact True.intro | omega | with_reducible rfl | with_reducible assumption | exact h1 | rfl
  | false =>
    have eR := formE3_2 l a c is
    refine ⟨_, _, eR.trans (congrArg (fun r => some (r, _)) ?_), ?_⟩
    · try clear eR
      rfl
    · try clear eR
      try simp only [decide_eq_true_eq, decide_eq_false_iff_not, beq_iff_eq, beq_eq_false_iff_ne, bne_iff_ne, bne_eq_false_iff_eq, ne_eq] at hc34
      try simp only [toNat0, toNat1, toNat2, Int.toNat_natCast, sb_mk] at hc34
      simp (disch := omega) only [allP, sb_mk, sl1, toNat0, toNat1, toNat2, Int.toNat_natCast, List.take_length, List.take_succ_cons, List.drop_succ_cons, List.drop_zero, List.take_zero, List.length_cons, List.length_nil, List.getD_cons_zero, i64_wrap, i32_wrap, u8_wrap, u32_wrap, tdN, tmN, i64_min, i64_max, u8_min, u8_max, decide_eq_true_eq, decide_eq_false_iff_not, beq_iff_eq, beq_eq_false_iff_ne, bne_iff_ne, bne_eq_false_iff_eq, ne_eq, not_false_eq_true, and_true, true_and, Int.zero_sub]
      repeat' apply And.intro
      all_goals first | exact True.intro | omega | with_reducible rfl | with_reducible assumption | exact h1 | rfl


theorem form_1 (l t : List UInt8) (a : Nat) (c : UInt8) (more twice : Bool) : lawOut (aBody Try.prog clT ⟨true, bs [(27, false), (40, false), (59, true), (62, true), (115, true), (123, true)] ++ (bs [(133, true)] ++ [(24, ⟨.c (.bool true), none⟩), (49, ⟨.c (str [c]), none⟩), (54, ⟨.c (str t), none⟩), (57, ⟨.c (.bool more), none⟩), (90, ⟨.c (.bool twice), none⟩), (96, ⟨.c (.bool false), none⟩), (102, ⟨.c (.bool false), none⟩), (118, ⟨.c (.bool true), none⟩), (139, ⟨.c (.bool true), none⟩)])⟩ (lpBy ([])) 60 7 ([.c (str l), .c (.int .i64 a), .c (.int .u8 (c.toNat : Nat))]) ([])) = some ((AV.c ((Value.bool true))), [((l.length : Nat) ≤ ((9223372036854775807 : Nat))),
 (((floatF (sb { data := { toList := l } })).isSome : Bool)) = (true),
 ((decide ((↑l.length : Int) > (50 : Int)) : Bool)) = (false),
 ((decide ((↑a : Int) > (↑l.length : Int)) : Bool)) = (false),
 (((0 : Int) : Int) ≤ ((0 : Int))),
 (((0 : Int) : Int) ≤ ((↑a : Int))),
 (((↑a : Int) : Int) ≤ ((↑l.length : Int))),
 (((1 : Nat) : Nat)) = ((1 : Nat)),
 bytesOK ([(AV.c ((Value.int .u8 ((↑c.toNat : Int)))))]),
 (([UInt8.ofNat (Int.toNat ((↑c.toNat : Int)))] : List UInt8)) = ([c]),
 (((List.drop (Int.toNat (0 : Int)) (List.take a l)).length + (1 : Nat) : Nat) ≤ ((9223372036854775807 : Nat))),
 (((0 : Int) : Int) ≤ ((↑a : Int))),
 (((↑a : Int) : Int) ≤ ((↑l.length : Int))),
 (((↑l.length : Int) : Int) ≤ ((↑l.length : Int))),
 (((List.drop (Int.toNat (0 : Int)) (List.take a l) ++ [c]).length + (List.drop a (List.take l.length l)).length : Nat) ≤ ((9223372036854775807 : Nat))),
 ((List.drop (Int.toNat (0 : Int)) (List.take a l) ++ [c] ++ List.drop a (List.take l.length l) : List UInt8)) = (t),
 ((t.length : Nat) ≤ ((9223372036854775807 : Nat))),
 (((floatF (sb { data := { toList := t } })).isSome : Bool)) = (more),
 ((decide ((↑c.toNat : Int) ≥ (48 : Int)) : Bool)) = (true),
 ((decide ((↑c.toNat : Int) ≤ (57 : Int)) : Bool)) = (true),
 (((1 : Nat) + l.length : Nat) ≤ ((9223372036854775807 : Nat))),
 ((([(45 : UInt8)] ++ l).length : Nat) ≤ ((9223372036854775807 : Nat))),
 (((floatF (sb { data := { toList := sb { data := #[(45 : UInt8)] } ++ sb { data := { toList := l } } } })).isSome : Bool)) = (twice),
 (((1 : Nat) + l.length : Nat) ≤ ((9223372036854775807 : Nat))),
 ((([(43 : UInt8)] ++ l).length : Nat) ≤ ((9223372036854775807 : Nat))),
 ((false : Bool)) = (false),
 ((l.length + (1 : Nat) : Nat) ≤ ((9223372036854775807 : Nat))),
 (((l ++ [(46 : UInt8)]).length : Nat) ≤ ((9223372036854775807 : Nat))),
 (((floatF (sb { data := { toList := sb { data := { toList := l } } ++ sb { data := #[(46 : UInt8)] } } })).isSome : Bool)) = (false),
 (((0 : Int) : Int) ≤ ((0 : Int))),
 (((0 : Int) : Int) < ((↑l.length : Int))),
 (((↑(l.getD (Int.toNat (0 : Int)) (0 : UInt8)).toNat : Int) != (45 : Int) : Bool)) = (true),
 (((↑c.toNat : Int) != (45 : Int) : Bool)) = (true)]) := by kernel_rfl

theorem form_2 (l t : List UInt8) (a : Nat) (c : UInt8) (more twice : Bool) : lawOut (aBody Try.prog clT ⟨true, bs [(27, false), (40, false), (59, true), (62, true), (115, true), (123, false), (126, true)] ++ (bs [(133, true)] ++ [(24, ⟨.c (.bool true), none⟩), (49, ⟨.c (str [c]), none⟩), (54, ⟨.c (str t), none⟩), (57, ⟨.c (.bool more), none⟩), (90, ⟨.c (.bool twice), none⟩), (96, ⟨.c (.bool false), none⟩), (102, ⟨.c (.bool false), none⟩), (118, ⟨.c (.bool true), none⟩), (139, ⟨.c (.bool true), none⟩)])⟩ (lpBy ([])) 60 7 ([.c (str l), .c (.int .i64 a), .c (.int .u8 (c.toNat : Nat))]) ([])) = some ((AV.c ((Value.bool true))), [((l.length : Nat) ≤ ((9223372036854775807 : Nat))),
 (((floatF (sb { data := { toList := l } })).isSome : Bool)) = (true),
 ((decide ((↑l.length : Int) > (50 : Int)) : Bool)) = (false),
 ((decide ((↑a : Int) > (↑l.length : Int)) : Bool)) = (false),
 (((0 : Int) : Int) ≤ ((0 : Int))),
 (((0 : Int) : Int) ≤ ((↑a : Int))),
 (((↑a : Int) : Int) ≤ ((↑l.length : Int))),
 (((1 : Nat) : Nat)) = ((1 : Nat)),
 bytesOK ([(AV.c ((Value.int .u8 ((↑c.toNat : Int)))))]),
 (([UInt8.ofNat (Int.toNat ((↑c.toNat : Int)))] : List UInt8)) = ([c]),
 (((List.drop (Int.toNat (0 : Int)) (List.take a l)).length + (1 : Nat) : Nat) ≤ ((9223372036854775807 : Nat))),
 (((0 : Int) : Int) ≤ ((↑a : Int))),
 (((↑a : Int) : Int) ≤ ((↑l.length : Int))),
 (((↑l.length : Int) : Int) ≤ ((↑l.length : Int))),
 (((List.drop (Int.toNat (0 : Int)) (List.take a l) ++ [c]).length + (List.drop a (List.take l.length l)).length : Nat) ≤ ((9223372036854775807 : Nat))),
 ((List.drop (Int.toNat (0 : Int)) (List.take a l) ++ [c] ++ List.drop a (List.take l.length l) : List UInt8)) = (t),
 ((t.length : Nat) ≤ ((9223372036854775807 : Nat))),
 (((floatF (sb { data := { toList := t } })).isSome : Bool)) = (more),
 ((decide ((↑c.toNat : Int) ≥ (48 : Int)) : Bool)) = (true),
 ((decide ((↑c.toNat : Int) ≤ (57 : Int)) : Bool)) = (true),
 (((1 : Nat) + l.length : Nat) ≤ ((9223372036854775807 : Nat))),
 ((([(45 : UInt8)] ++ l).length : Nat) ≤ ((9223372036854775807 : Nat))),
 (((floatF (sb { data := { toList := sb { data := #[(45 : UInt8)] } ++ sb { data := { toList := l } } } })).isSome : Bool)) = (twice),
 (((1 : Nat) + l.length : Nat) ≤ ((9223372036854775807 : Nat))),
 ((([(43 : UInt8)] ++ l).length : Nat) ≤ ((9223372036854775807 : Nat))),
 ((false : Bool)) = (false),
 ((l.length + (1 : Nat) : Nat) ≤ ((9223372036854775807 : Nat))),
 (((l ++ [(46 : UInt8)]).length : Nat) ≤ ((9223372036854775807 : Nat))),
 (((floatF (sb { data := { toList := sb { data := { toList := l } } ++ sb { data := #[(46 : UInt8)] } } })).isSome : Bool)) = (false),
 (((0 : Int) : Int) ≤ ((0 : Int))),
 (((0 : Int) : Int) < ((↑l.length : Int))),
 (((↑(l.getD (Int.toNat (0 : Int)) (0 : UInt8)).toNat : Int) != (45 : Int) : Bool)) = (true),
 (((↑c.toNat : Int) != (45 : Int) : Bool)) = (false),
 ((decide ((↑a : Int) > (0 : Int)) : Bool)) = (true)]) := by kernel_rfl

theorem form_3 (l t : List UInt8) (a : Nat) (c : UInt8) (more twice : Bool) : lawOut (aBody Try.prog clT ⟨true, bs [(27, false), (40, false), (59, true), (62, true), (115, true), (123, false), (126, false)] ++ (bs [(133, true)] ++ [(24, ⟨.c (.bool true), none⟩), (49, ⟨.c (str [c]), none⟩), (54, ⟨.c (str t), none⟩), (57, ⟨.c (.bool more), none⟩), (90, ⟨.c (.bool twice), none⟩), (96, ⟨.c (.bool false), none⟩), (102, ⟨.c (.bool false), none⟩), (118, ⟨.c (.bool true), none⟩), (139, ⟨.c (.bool true), none⟩)])⟩ (lpBy ([])) 60 7 ([.c (str l), .c (.int .i64 a), .c (.int .u8 (c.toNat : Nat))]) ([])) = some ((AV.c ((Value.bool true))), [((l.length : Nat) ≤ ((9223372036854775807 : Nat))),
 (((floatF (sb { data := { toList := l } })).isSome : Bool)) = (true),
 ((decide ((↑l.length : Int) > (50 : Int)) : Bool)) = (false),
 ((decide ((↑a : Int) > (↑l.length : Int)) : Bool)) = (false),
 (((0 : Int) : Int) ≤ ((0 : Int))),
 (((0 : Int) : Int) ≤ ((↑a : Int))),
 (((↑a : Int) : Int) ≤ ((↑l.length : Int))),
 (((1 : Nat) : Nat)) = ((1 : Nat)),
 bytesOK ([(AV.c ((Value.int .u8 ((↑c.toNat : Int)))))]),
 (([UInt8.ofNat (Int.toNat ((↑c.toNat : Int)))] : List UInt8)) = ([c]),
 (((List.drop (Int.toNat (0 : Int)) (List.take a l)).length + (1 : Nat) : Nat) ≤ ((9223372036854775807 : Nat))),
 (((0 : Int) : Int) ≤ ((↑a : Int))),
 (((↑a : Int) : Int) ≤ ((↑l.length : Int))),
 (((↑l.length : Int) : Int) ≤ ((↑l.length : Int))),
 (((List.drop (Int.toNat (0 : Int)) (List.take a l) ++ [c]).length + (List.drop a (List.take l.length l)).length : Nat) ≤ ((9223372036854775807 : Nat))),
 ((List.drop (Int.toNat (0 : Int)) (List.take a l) ++ [c] ++ List.drop a (List.take l.length l) : List UInt8)) = (t),
 ((t.length : Nat) ≤ ((9223372036854775807 : Nat))),
 (((floatF (sb { data := { toList := t } })).isSome : Bool)) = (more),
 ((decide ((↑c.toNat : Int) ≥ (48 : Int)) : Bool)) = (true),
 ((decide ((↑c.toNat : Int) ≤ (57 : Int)) : Bool)) = (true),
 (((1 : Nat) + l.length : Nat) ≤ ((9223372036854775807 : Nat))),
 ((([(45 : UInt8)] ++ l).length : Nat) ≤ ((9223372036854775807 : Nat))),
 (((floatF (sb { data := { toList := sb { data := #[(45 : UInt8)] } ++ sb { data := { toList := l } } } })).isSome : Bool)) = (twice),
 (((1 : Nat) + l.length : Nat) ≤ ((9223372036854775807 : Nat))),
 ((([(43 : UInt8)] ++ l).length : Nat) ≤ ((9223372036854775807 : Nat))),
 ((false : Bool)) = (false),
 ((l.length + (1 : Nat) : Nat) ≤ ((9223372036854775807 : Nat))),
 (((l ++ [(46 : UInt8)]).length : Nat) ≤ ((9223372036854775807 : Nat))),
 (((floatF (sb { data := { toList := sb { data := { toList := l } } ++ sb { data := #[(46 : UInt8)] } } })).isSome : Bool)) = (false),
 (((0 : Int) : Int) ≤ ((0 : Int))),
 (((0 : Int) : Int) < ((↑l.length : Int))),
 (((↑(l.getD (Int.toNat (0 : Int)) (0 : UInt8)).toNat : Int) != (45 : Int) : Bool)) = (true),
 (((↑c.toNat : Int) != (45 : Int) : Bool)) = (false),
 ((decide ((↑a : Int) > (0 : Int)) : Bool)) = (false),
 (((0 : Int) : Int) ≤ ((0 : Int))),
 (((0 : Int) : Int) < ((↑l.length : Int))),
 ((more == ((↑(l.getD (Int.toNat (0 : Int)) (0 : UInt8)).toNat : Int) != (45 : Int)) : Bool)) = (true)]) := by kernel_rfl

theorem form_4 (l t : List UInt8) (a : Nat) (c : UInt8) (more twice : Bool) : lawOut (aBody Try.prog clT ⟨true, bs [(27, false), (40, false), (59, true), (62, true), (115, false), (123, true)] ++ (bs [(133, true)] ++ [(24, ⟨.c (.bool true), none⟩), (49, ⟨.c (str [c]), none⟩), (54, ⟨.c (str t), none⟩), (57, ⟨.c (.bool more), none⟩), (90, ⟨.c (.bool twice), none⟩), (96, ⟨.c (.bool false), none⟩), (102, ⟨.c (.bool false), none⟩), (118, ⟨.c (.bool true), none⟩), (139, ⟨.c (.bool true), none⟩)])⟩ (lpBy ([])) 60 7 ([.c (str l), .c (.int .i64 a), .c (.int .u8 (c.toNat : Nat))]) ([])) = some ((AV.c ((Value.bool true))), [((l.length : Nat) ≤ ((9223372036854775807 : Nat))),
 (((floatF (sb { data := { toList := l } })).isSome : Bool)) = (true),
 ((decide ((↑l.length : Int) > (50 : Int)) : Bool)) = (false),
 ((decide ((↑a : Int) > (↑l.length : Int)) : Bool)) = (false),
 (((0 : Int) : Int) ≤ ((0 : Int))),
 (((0 : Int) : Int) ≤ ((↑a : Int))),
 (((↑a : Int) : Int) ≤ ((↑l.length : Int))),
 (((1 : Nat) : Nat)) = ((1 : Nat)),
 bytesOK ([(AV.c ((Value.int .u8 ((↑c.toNat : Int)))))]),
 (([UInt8.ofNat (Int.toNat ((↑c.toNat : Int)))] : List UInt8)) = ([c]),
 (((List.drop (Int.toNat (0 : Int)) (List.take a l)).length + (1 : Nat) : Nat) ≤ ((9223372036854775807 : Nat))),
 (((0 : Int) : Int) ≤ ((↑a : Int))),
 (((↑a : Int) : Int) ≤ ((↑l.length : Int))),
 (((↑l.length : Int) : Int) ≤ ((↑l.length : Int))),
 (((List.drop (Int.toNat (0 : Int)) (List.take a l) ++ [c]).length + (List.drop a (List.take l.length l)).length : Nat) ≤ ((9223372036854775807 : Nat))),
 ((List.drop (Int.toNat (0 : Int)) (List.take a l) ++ [c] ++ List.drop a (List.take l.length l) : List UInt8)) = (t),
 ((t.length : Nat) ≤ ((9223372036854775807 : Nat))),
 (((floatF (sb { data := { toList := t } })).isSome : Bool)) = (more),
 ((decide ((↑c.toNat : Int) ≥ (48 : Int)) : Bool)) = (true),
 ((decide ((↑c.toNat : Int) ≤ (57 : Int)) : Bool)) = (true),
 (((1 : Nat) + l.length : Nat) ≤ ((9223372036854775807 : Nat))),
 ((([(45 : UInt8)] ++ l).length : Nat) ≤ ((9223372036854775807 : Nat))),
 (((floatF (sb { data := { toList := sb { data := #[(45 : UInt8)] } ++ sb { data := { toList := l } } } })).isSome : Bool)) = (twice),
 (((1 : Nat) + l.length : Nat) ≤ ((9223372036854775807 : Nat))),
 ((([(43 : UInt8)] ++ l).length : Nat) ≤ ((9223372036854775807 : Nat))),
 ((false : Bool)) = (false),
 ((l.length + (1 : Nat) : Nat) ≤ ((9223372036854775807 : Nat))),
 (((l ++ [(46 : UInt8)]).length : Nat) ≤ ((9223372036854775807 : Nat))),
 (((floatF (sb { data := { toList := sb { data := { toList := l } } ++ sb { data := #[(46 : UInt8)] } } })).isSome : Bool)) = (false),
 (((0 : Int) : Int) ≤ ((0 : Int))),
 (((0 : Int) : Int) < ((↑l.length : Int))),
 (((↑(l.getD (Int.toNat (0 : Int)) (0 : UInt8)).toNat : Int) != (45 : Int) : Bool)) = (false),
 ((!twice : Bool)) = (true),
 (((↑c.toNat : Int) != (45 : Int) : Bool)) = (true)]) := by kernel_rfl

theorem form_5 (l t : List UInt8) (a : Nat) (c : UInt8) (more twice : Bool) : lawOut (aBody Try.prog clT ⟨true, bs [(27, false), (40, false), (59, true), (62, true), (115, false), (123, false), (126, true)] ++ (bs [(133, true)] ++ [(24, ⟨.c (.bool true), none⟩), (49, ⟨.c (str [c]), none⟩), (54, ⟨.c (str t), none⟩), (57, ⟨.c (.bool more), none⟩), (90, ⟨.c (.bool twice), none⟩), (96, ⟨.c (.bool false), none⟩), (102, ⟨.c (.bool false), none⟩), (118, ⟨.c (.bool true), none⟩), (139, ⟨.c (.bool true), none⟩)])⟩ (lpBy ([])) 60 7 ([.c (str l), .c (.int .i64 a), .c (.int .u8 (c.toNat : Nat))]) ([])) = some ((AV.c ((Value.bool true))), [((l.length : Nat) ≤ ((9223372036854775807 : Nat))),
 (((floatF (sb { data := { toList := l } })).isSome : Bool)) = (true),
 ((decide ((↑l.length : Int) > (50 : Int)) : Bool)) = (false),
 ((decide ((↑a : Int) > (↑l.length : Int)) : Bool)) = (false),
 (((0 : Int) : Int) ≤ ((0 : Int))),
 (((0 : Int) : Int) ≤ ((↑a : Int))),
 (((↑a : Int) : Int) ≤ ((↑l.length : Int))),
 (((1 : Nat) : Nat)) = ((1 : Nat)),
 bytesOK ([(AV.c ((Value.int .u8 ((↑c.toNat : Int)))))]),
 (([UInt8.ofNat (Int.toNat ((↑c.toNat : Int)))] : List UInt8)) = ([c]),
 (((List.drop (Int.toNat (0 : Int)) (List.take a l)).length + (1 : Nat) : Nat) ≤ ((9223372036854775807 : Nat))),
 (((0 : Int) : Int) ≤ ((↑a : Int))),
 (((↑a : Int) : Int) ≤ ((↑l.length : Int))),
 (((↑l.length : Int) : Int) ≤ ((↑l.length : Int))),
 (((List.drop (Int.toNat (0 : Int)) (List.take a l) ++ [c]).length + (List.drop a (List.take l.length l)).length : Nat) ≤ ((9223372036854775807 : Nat))),
 ((List.drop (Int.toNat (0 : Int)) (List.take a l) ++ [c] ++ List.drop a (List.take l.length l) : List UInt8)) = (t),
 ((t.length : Nat) ≤ ((9223372036854775807 : Nat))),
 (((floatF (sb { data := { toList := t } })).isSome : Bool)) = (more),
 ((decide ((↑c.toNat : Int) ≥ (48 : Int)) : Bool)) = (true),
 ((decide ((↑c.toNat : Int) ≤ (57 : Int)) : Bool)) = (true),
 (((1 : Nat) + l.length : Nat) ≤ ((9223372036854775807 : Nat))),
 ((([(45 : UInt8)] ++ l).length : Nat) ≤ ((9223372036854775807 : Nat))),
 (((floatF (sb { data := { toList := sb { data := #[(45 : UInt8)] } ++ sb { data := { toList := l } } } })).isSome : Bool)) = (twice),
 (((1 : Nat) + l.length : Nat) ≤ ((9223372036854775807 : Nat))),
 ((([(43 : UInt8)] ++ l).length : Nat) ≤ ((9223372036854775807 : Nat))),
 ((false : Bool)) = (false),
 ((l.length + (1 : Nat) : Nat) ≤ ((9223372036854775807 : Nat))),
 (((l ++ [(46 : UInt8)]).length : Nat) ≤ ((9223372036854775807 : Nat))),
 (((floatF (sb { data := { toList := sb { data := { toList := l } } ++ sb { data := #[(46 : UInt8)] } } })).isSome : Bool)) = (false),
 (((0 : Int) : Int) ≤ ((0 : Int))),
 (((0 : Int) : Int) < ((↑l.length : Int))),
 (((↑(l.getD (Int.toNat (0 : Int)) (0 : UInt8)).toNat : Int) != (45 : Int) : Bool)) = (false),
 ((!twice : Bool)) = (true),
 (((↑c.toNat : Int) != (45 : Int) : Bool)) = (false),
 ((decide ((↑a : Int) > (0 : Int)) : Bool)) = (true)]) := by kernel_rfl

theorem form_6 (l t : List UInt8) (a : Nat) (c : UInt8) (more twice : Bool) : lawOut (aBody Try.prog clT ⟨true, bs [(27, false), (40, false), (59, true), (62, true), (115, false), (123, false), (126, false)] ++ (bs [(133, true)] ++ [(24, ⟨.c (.bool true), none⟩), (49, ⟨.c (str [c]), none⟩), (54, ⟨.c (str t), none⟩), (57, ⟨.c (.bool more), none⟩), (90, ⟨.c (.bool twice), none⟩), (96, ⟨.c (.bool false), none⟩), (102, ⟨.c (.bool false), none⟩), (118, ⟨.c (.bool true), none⟩), (139, ⟨.c (.bool true), none⟩)])⟩ (lpBy ([])) 60 7 ([.c (str l), .c (.int .i64 a), .c (.int .u8 (c.toNat : Nat))]) ([])) = some ((AV.c ((Value.bool true))), [((l.length : Nat) ≤ ((9223372036854775807 : Nat))),
 (((floatF (sb { data := { toList := l } })).isSome : Bool)) = (true),
 ((decide ((↑l.length : Int) > (50 : Int)) : Bool)) = (false),
 ((decide ((↑a : Int) > (↑l.length : Int)) : Bool)) = (false),
 (((0 : Int) : Int) ≤ ((0 : Int))),
 (((0 : Int) : Int) ≤ ((↑a : Int))),
 (((↑a : Int) : Int) ≤ ((↑l.length : Int))),
 (((1 : Nat) : Nat)) = ((1 : Nat)),
 bytesOK ([(AV.c ((Value.int .u8 ((↑c.toNat : Int)))))]),
 (([UInt8.ofNat (Int.toNat ((↑c.toNat : Int)))] : List UInt8)) = ([c]),
 (((List.drop (Int.toNat (0 : Int)) (List.take a l)).length + (1 : Nat) : Nat) ≤ ((9223372036854775807 : Nat))),
 (((0 : Int) : Int) ≤ ((↑a : Int))),
 (((↑a : Int) : Int) ≤ ((↑l.length : Int))),
 (((↑l.length : Int) : Int) ≤ ((↑l.length : Int))),
 (((List.drop (Int.toNat (0 : Int)) (List.take a l) ++ [c]).length + (List.drop a (List.take l.length l)).length : Nat) ≤ ((9223372036854775807 : Nat))),
 ((List.drop (Int.toNat (0 : Int)) (List.take a l) ++ [c] ++ List.drop a (List.take l.length l) : List UInt8)) = (t),
 ((t.length : Nat) ≤ ((9223372036854775807 : Nat))),
 (((floatF (sb { data := { toList := t } })).isSome : Bool)) = (more),
 ((decide ((↑c.toNat : Int) ≥ (48 : Int)) : Bool)) = (true),
 ((decide ((↑c.toNat : Int) ≤ (57 : Int)) : Bool)) = (true),
 (((1 : Nat) + l.length : Nat) ≤ ((9223372036854775807 : Nat))),
 ((([(45 : UInt8)] ++ l).length : Nat) ≤ ((9223372036854775807 : Nat))),
 (((floatF (sb { data := { toList := sb { data := #[(45 : UInt8)] } ++ sb { data := { toList := l } } } })).isSome : Bool)) = (twice),
 (((1 : Nat) + l.length : Nat) ≤ ((9223372036854775807 : Nat))),
 ((([(43 : UInt8)] ++ l).length : Nat) ≤ ((9223372036854775807 : Nat))),
 ((false : Bool)) = (false),
 ((l.length + (1 : Nat) : Nat) ≤ ((9223372036854775807 : Nat))),
 (((l ++ [(46 : UInt8)]).length : Nat) ≤ ((9223372036854775807 : Nat))),
 (((floatF (sb { data := { toList := sb { data := { toList := l } } ++ sb { data := #[(46 : UInt8)] } } })).isSome : Bool)) = (false),
 (((0 : Int) : Int) ≤ ((0 : Int))),
 (((0 : Int) : Int) < ((↑l.length : Int))),
 (((↑(l.getD (Int.toNat (0 : Int)) (0 : UInt8)).toNat : Int) != (45 : Int) : Bool)) = (false),
 ((!twice : Bool)) = (true),
 (((↑c.toNat : Int) != (45 : Int) : Bool)) = (false),
 ((decide ((↑a : Int) > (0 : Int)) : Bool)) = (false),
 (((0 : Int) : Int) ≤ ((0 : Int))),
 (((0 : Int) : Int) < ((↑l.length : Int))),
 ((more == ((↑(l.getD (Int.toNat (0 : Int)) (0 : UInt8)).toNat : Int) != (45 : Int)) : Bool)) = (true)]) := by kernel_rfl

theorem form_7 (l t : List UInt8) (a : Nat) (c : UInt8) (more twice : Bool) : lawOut (aBody Try.prog clT ⟨true, bs [(27, false), (40, false), (59, true), (62, false), (67, false), (71, false), (75, false), (79, true), (115, true), (123, true)] ++ (bs [(133, true)] ++ [(24, ⟨.c (.bool true), none⟩), (49, ⟨.c (str [c]), none⟩), (54, ⟨.c (str t), none⟩), (57, ⟨.c (.bool more), none⟩), (90, ⟨.c (.bool twice), none⟩), (96, ⟨.c (.bool false), none⟩), (102, ⟨.c (.bool false), none⟩), (118, ⟨.c (.bool true), none⟩), (139, ⟨.c (.bool true), none⟩)])⟩ (lpBy ([])) 60 7 ([.c (str l), .c (.int .i64 a), .c (.int .u8 (c.toNat : Nat))]) ([])) = some ((AV.c ((Value.bool true))), [((l.length : Nat) ≤ ((9223372036854775807 : Nat))),
 (((floatF (sb { data := { toList := l } })).isSome : Bool)) = (true),
 ((decide ((↑l.length : Int) > (50 : Int)) : Bool)) = (false),
 ((decide ((↑a : Int) > (↑l.length : Int)) : Bool)) = (false),
 (((0 : Int) : Int) ≤ ((0 : Int))),
 (((0 : Int) : Int) ≤ ((↑a : Int))),
 (((↑a : Int) : Int) ≤ ((↑l.length : Int))),
 (((1 : Nat) : Nat)) = ((1 : Nat)),
 bytesOK ([(AV.c ((Value.int .u8 ((↑c.toNat : Int)))))]),
 (([UInt8.ofNat (Int.toNat ((↑c.toNat : Int)))] : List UInt8)) = ([c]),
 (((List.drop (Int.toNat (0 : Int)) (List.take a l)).length + (1 : Nat) : Nat) ≤ ((9223372036854775807 : Nat))),
 (((0 : Int) : Int) ≤ ((↑a : Int))),
 (((↑a : Int) : Int) ≤ ((↑l.length : Int))),
 (((↑l.length : Int) : Int) ≤ ((↑l.length : Int))),
 (((List.drop (Int.toNat (0 : Int)) (List.take a l) ++ [c]).length + (List.drop a (List.take l.length l)).length : Nat) ≤ ((9223372036854775807 : Nat))),
 ((List.drop (Int.toNat (0 : Int)) (List.take a l) ++ [c] ++ List.drop a (List.take l.length l) : List UInt8)) = (t),
 ((t.length : Nat) ≤ ((9223372036854775807 : Nat))),
 (((floatF (sb { data := { toList := t } })).isSome : Bool)) = (more),
 ((decide ((↑c.toNat : Int) ≥ (48 : Int)) : Bool)) = (true),
 ((decide ((↑c.toNat : Int) ≤ (57 : Int)) : Bool)) = (false),
 (((↑c.toNat : Int) == (46 : Int) : Bool)) = (false),
 (((↑c.toNat : Int) == (45 : Int) : Bool)) = (false),
 (((↑c.toNat : Int) == (43 : Int) : Bool)) = (false),
 (((↑c.toNat : Int) == (101 : Int) : Bool)) = (true),
 (((1 : Nat) + l.length : Nat) ≤ ((9223372036854775807 : Nat))),
 ((([(45 : UInt8)] ++ l).length : Nat) ≤ ((9223372036854775807 : Nat))),
 (((floatF (sb { data := { toList := sb { data := #[(45 : UInt8)] } ++ sb { data := { toList := l } } } })).isSome : Bool)) = (twice),
 (((1 : Nat) + l.length : Nat) ≤ ((9223372036854775807 : Nat))),
 ((([(43 : UInt8)] ++ l).length : Nat) ≤ ((9223372036854775807 : Nat))),
 ((false : Bool)) = (false),
 ((l.length + (1 : Nat) : Nat) ≤ ((9223372036854775807 : Nat))),
 (((l ++ [(46 : UInt8)]).length : Nat) ≤ ((9223372036854775807 : Nat))),
 (((floatF (sb { data := { toList := sb { data := { toList := l } } ++ sb { data := #[(46 : UInt8)] } } })).isSome : Bool)) = (false),
 (((0 : Int) : Int) ≤ ((0 : Int))),
 (((0 : Int) : Int) < ((↑l.length : Int))),
 (((↑(l.getD (Int.toNat (0 : Int)) (0 : UInt8)).toNat : Int) != (45 : Int) : Bool)) = (true),
 (((↑c.toNat : Int) != (45 : Int) : Bool)) = (true)]) := by kernel_rfl

theorem form_8 (l t : List UInt8) (a : Nat) (c : UInt8) (more twice : Bool) : lawOut (aBody Try.prog clT ⟨true, bs [(27, false), (40, false), (59, true), (62, false), (67, false), (71, false), (75, false), (79, true), (115, true), (123, false), (126, true)] ++ (bs [(133, true)] ++ [(24, ⟨.c (.bool true), none⟩), (49, ⟨.c (str [c]), none⟩), (54, ⟨.c (str t), none⟩), (57, ⟨.c (.bool more), none⟩), (90, ⟨.c (.bool twice), none⟩), (96, ⟨.c (.bool false), none⟩), (102, ⟨.c (.bool false), none⟩), (118, ⟨.c (.bool true), none⟩), (139, ⟨.c (.bool true), none⟩)])⟩ (lpBy ([])) 60 7 ([.c (str l), .c (.int .i64 a), .c (.int .u8 (c.toNat : Nat))]) ([])) = some ((AV.c ((Value.bool true))), [((l.length : Nat) ≤ ((9223372036854775807 : Nat))),
 (((floatF (sb { data := { toList := l } })).isSome : Bool)) = (true),
 ((decide ((↑l.length : Int) > (50 : Int)) : Bool)) = (false),
 ((decide ((↑a : Int) > (↑l.length : Int)) : Bool)) = (false),
 (((0 : Int) : Int) ≤ ((0 : Int))),
 (((0 : Int) : Int) ≤ ((↑a : Int))),
 (((↑a : Int) : Int) ≤ ((↑l.length : Int))),
 (((1 : Nat) : Nat)) = ((1 : Nat)),
 bytesOK ([(AV.c ((Value.int .u8 ((↑c.toNat : Int)))))]),
 (([UInt8.ofNat (Int.toNat ((↑c.toNat : Int)))] : List UInt8)) = ([c]),
 (((List.drop (Int.toNat (0 : Int)) (List.take a l)).length + (1 : Nat) : Nat) ≤ ((9223372036854775807 : Nat))),
 (((0 : Int) : Int) ≤ ((↑a : Int))),
 (((↑a : Int) : Int) ≤ ((↑l.length : Int))),
 (((↑l.length : Int) : Int) ≤ ((↑l.length : Int))),
 (((List.drop (Int.toNat (0 : Int)) (List.take a l) ++ [c]).length + (List.drop a (List.take l.length l)).length : Nat) ≤ ((9223372036854775807 : Nat))),
 ((List.drop (Int.toNat (0 : Int)) (List.take a l) ++ [c] ++ List.drop a (List.take l.length l) : List UInt8)) = (t),
 ((t.length : Nat) ≤ ((9223372036854775807 : Nat))),
 (((floatF (sb { data := { toList := t } })).isSome : Bool)) = (more),
 ((decide ((↑c.toNat : Int) ≥ (48 : Int)) : Bool)) = (true),
 ((decide ((↑c.toNat : Int) ≤ (57 : Int)) : Bool)) = (false),
 (((↑c.toNat : Int) == (46 : Int) : Bool)) = (false),
 (((↑c.toNat : Int) == (45 : Int) : Bool)) = (false),
 (((↑c.toNat : Int) == (43 : Int) : Bool)) = (false),
 (((↑c.toNat : Int) == (101 : Int) : Bool)) = (true),
 (((1 : Nat) + l.length : Nat) ≤ ((9223372036854775807 : Nat))),
 ((([(45 : UInt8)] ++ l).length : Nat) ≤ ((9223372036854775807 : Nat))),
 (((floatF (sb { data := { toList := sb { data := #[(45 : UInt8)] } ++ sb { data := { toList := l } } } })).isSome : Bool)) = (twice),
 (((1 : Nat) + l.length : Nat) ≤ ((9223372036854775807 : Nat))),
 ((([(43 : UInt8)] ++ l).length : Nat) ≤ ((9223372036854775807 : Nat))),
 ((false : Bool)) = (false),
 ((l.length + (1 : Nat) : Nat) ≤ ((9223372036854775807 : Nat))),
 (((l ++ [(46 : UInt8)]).length : Nat) ≤ ((9223372036854775807 : Nat))),
 (((floatF (sb { data := { toList := sb { data := { toList := l } } ++ sb { data := #[(46 : UInt8)] } } })).isSome : Bool)) = (false),
 (((0 : Int) : Int) ≤ ((0 : Int))),
 (((0 : Int) : Int) < ((↑l.length : Int))),
 (((↑(l.getD (Int.toNat (0 : Int)) (0 : UInt8)).toNat : Int) != (45 : Int) : Bool)) = (true),
 (((↑c.toNat : Int) != (45 : Int) : Bool)) = (false),
 ((decide ((↑a : Int) > (0 : Int)) : Bool)) = (true)]) := by kernel_rfl

theorem form_9 (l t : List UInt8) (a : Nat) (c : UInt8) (more twice : Bool) : lawOut (aBody Try.prog clT ⟨true, bs [(27, false), (40, false), (59, true), (62, false), (67, false), (71, false), (75, false), (79, true), (115, true), (123, false), (126, false)] ++ (bs [(133, true)] ++ [(24, ⟨.c (.bool true), none⟩), (49, ⟨.c (str [c]), none⟩), (54, ⟨.c (str t), none⟩), (57, ⟨.c (.bool more), none⟩), (90, ⟨.c (.bool twice), none⟩), (96, ⟨.c (.bool false), none⟩), (102, ⟨.c (.bool false), none⟩), (118, ⟨.c (.bool true), none⟩), (139, ⟨.c (.bool true), none⟩)])⟩ (lpBy ([])) 60 7 ([.c (str l), .c (.int .i64 a), .c (.int .u8 (c.toNat : Nat))]) ([])) = some ((AV.c ((Value.bool true))), [((l.length : Nat) ≤ ((9223372036854775807 : Nat))),
 (((floatF (sb { data := { toList := l } })).isSome : Bool)) = (true),
 ((decide ((↑l.length : Int) > (50 : Int)) : Bool)) = (false),
 ((decide ((↑a : Int) > (↑l.length : Int)) : Bool)) = (false),
 (((0 : Int) : Int) ≤ ((0 : Int))),
 (((0 : Int) : Int) ≤ ((↑a : Int))),
 (((↑a : Int) : Int) ≤ ((↑l.length : Int))),
 (((1 : Nat) : Nat)) = ((1 : Nat)),
 bytesOK ([(AV.c ((Value.int .u8 ((↑c.toNat : Int)))))]),
 (([UInt8.ofNat (Int.toNat ((↑c.toNat : Int)))] : List UInt8)) = ([c]),
 (((List.drop (Int.toNat (0 : Int)) (List.take a l)).length + (1 : Nat) : Nat) ≤ ((9223372036854775807 : Nat))),
 (((0 : Int) : Int) ≤ ((↑a : Int))),
 (((↑a : Int) : Int) ≤ ((↑l.length : Int))),
 (((↑l.length : Int) : Int) ≤ ((↑l.length : Int))),
 (((List.drop (Int.toNat (0 : Int)) (List.take a l) ++ [c]).length + (List.drop a (List.take l.length l)).length : Nat) ≤ ((9223372036854775807 : Nat))),
 ((List.drop (Int.toNat (0 : Int)) (List.take a l) ++ [c] ++ List.drop a (List.take l.length l) : List UInt8)) = (t),
 ((t.length : Nat) ≤ ((9223372036854775807 : Nat))),
 (((floatF (sb { data := { toList := t } })).isSome : Bool)) = (more),
 ((decide ((↑c.toNat : Int) ≥ (48 : Int)) : Bool)) = (true),
 ((decide ((↑c.toNat : Int) ≤ (57 : Int)) : Bool)) = (false),
 (((↑c.toNat : Int) == (46 : Int) : Bool)) = (false),
 (((↑c.toNat : Int) == (45 : Int) : Bool)) = (false),
 (((↑c.toNat : Int) == (43 : Int) : Bool)) = (false),
 (((↑c.toNat : Int) == (101 : Int) : Bool)) = (true),
 (((1 : Nat) + l.length : Nat) ≤ ((9223372036854775807 : Nat))),
 ((([(45 : UInt8)] ++ l).length : Nat) ≤ ((9223372036854775807 : Nat))),
 (((floatF (sb { data := { toList := sb { data := #[(45 : UInt8)] } ++ sb { data := { toList := l } } } })).isSome : Bool)) = (twice),
 (((1 : Nat) + l.length : Nat) ≤ ((9223372036854775807 : Nat))),
 ((([(43 : UInt8)] ++ l).length : Nat) ≤ ((9223372036854775807 : Nat))),
 ((false : Bool)) = (false),
 ((l.length + (1 : Nat) : Nat) ≤ ((9223372036854775807 : Nat))),
 (((l ++ [(46 : UInt8)]).length : Nat) ≤ ((9223372036854775807 : Nat))),
 (((floatF (sb { data := { toList := sb { data := { toList := l } } ++ sb { data := #[(46 : UInt8)] } } })).isSome : Bool)) = (false),
 (((0 : Int) : Int) ≤ ((0 : Int))),
 (((0 : Int) : Int) < ((↑l.length : Int))),
 (((↑(l.getD (Int.toNat (0 : Int)) (0 : UInt8)).toNat : Int) != (45 : Int) : Bool)) = (true),
 (((↑c.toNat : Int) != (45 : Int) : Bool)) = (false),
 ((decide ((↑a : Int) > (0 : Int)) : Bool)) = (false),
 (((0 : Int) : Int) ≤ ((0 : Int))),
 (((0 : Int) : Int) < ((↑l.length : Int))),
 ((more == ((↑(l.getD (Int.toNat (0 : Int)) (0 : UInt8)).toNat : Int) != (45 : Int)) : Bool)) = (true)]) := by kernel_rfl

theorem form_10 (l t : List UInt8) (a : Nat) (c : UInt8) (more twice : Bool) : lawOut (aBody Try.prog clT ⟨true, bs [(27, false), (40, false), (59, true), (62, false), (67, false), (71, false), (75, false), (79, true), (115, false), (123, true)] ++ (bs [(133, true)] ++ [(24, ⟨.c (.bool true), none⟩), (49, ⟨.c (str [c]), none⟩), (54, ⟨.c (str t), none⟩), (57, ⟨.c (.bool more), none⟩), (90, ⟨.c (.bool twice), none⟩), (96, ⟨.c (.bool false), none⟩), (102, ⟨.c (.bool false), none⟩), (118, ⟨.c (.bool true), none⟩), (139, ⟨.c (.bool true), none⟩)])⟩ (lpBy ([])) 60 7 ([.c (str l), .c (.int .i64 a), .c (.int .u8 (c.toNat : Nat))]) ([])) = some ((AV.c ((Value.bool true))), [((l.length : Nat) ≤ ((9223372036854775807 : Nat))),
 (((floatF (sb { data := { toList := l } })).isSome : Bool)) = (true),
 ((decide ((↑l.length : Int) > (50 : Int)) : Bool)) = (false),
 ((decide ((↑a : Int) > (↑l.length : Int)) : Bool)) = (false),
 (((0 : Int) : Int) ≤ ((0 : Int))),
 (((0 : Int) : Int) ≤ ((↑a : Int))),
 (((↑a : Int) : Int) ≤ ((↑l.length : Int))),
 (((1 : Nat) : Nat)) = ((1 : Nat)),
 bytesOK ([(AV.c ((Value.int .u8 ((↑c.toNat : Int)))))]),
 (([UInt8.ofNat (Int.toNat ((↑c.toNat : Int)))] : List UInt8)) = ([c]),
 (((List.drop (Int.toNat (0 : Int)) (List.take a l)).length + (1 : Nat) : Nat) ≤ ((9223372036854775807 : Nat))),
 (((0 : Int) : Int) ≤ ((↑a : Int))),
 (((↑a : Int) : Int) ≤ ((↑l.length : Int))),
 (((↑l.length : Int) : Int) ≤ ((↑l.length : Int))),
 (((List.drop (Int.toNat (0 : Int)) (List.take a l) ++ [c]).length + (List.drop a (List.take l.length l)).length : Nat) ≤ ((9223372036854775807 : Nat))),
 ((List.drop (Int.toNat (0 : Int)) (List.take a l) ++ [c] ++ List.drop a (List.take l.length l) : List UInt8)) = (t),
 ((t.length : Nat) ≤ ((9223372036854775807 : Nat))),
 (((floatF (sb { data := { toList := t } })).isSome : Bool)) = (more),
 ((decide ((↑c.toNat : Int) ≥ (48 : Int)) : Bool)) = (true),
 ((decide ((↑c.toNat : Int) ≤ (57 : Int)) : Bool)) = (false),
 (((↑c.toNat : Int) == (46 : Int) : Bool)) = (false),
 (((↑c.toNat : Int) == (45 : Int) : Bool)) = (false),
 (((↑c.toNat : Int) == (43 : Int) : Bool)) = (false),
 (((↑c.toNat : Int) == (101 : Int) : Bool)) = (true),
 (((1 : Nat) + l.length : Nat) ≤ ((9223372036854775807 : Nat))),
 ((([(45 : UInt8)] ++ l).length : Nat) ≤ ((9223372036854775807 : Nat))),
 (((floatF (sb { data := { toList := sb { data := #[(45 : UInt8)] } ++ sb { data := { toList := l } } } })).isSome : Bool)) = (twice),
 (((1 : Nat) + l.length : Nat) ≤ ((9223372036854775807 : Nat))),
 ((([(43 : UInt8)] ++ l).length : Nat) ≤ ((9223372036854775807 : Nat))),
 ((false : Bool)) = (false),
 ((l.length + (1 : Nat) : Nat) ≤ ((9223372036854775807 : Nat))),
 (((l ++ [(46 : UInt8)]).length : Nat) ≤ ((9223372036854775807 : Nat))),
 (((floatF (sb { data := { toList := sb { data := { toList := l } } ++ sb { data := #[(46 : UInt8)] } } })).isSome : Bool)) = (false),
 (((0 : Int) : Int) ≤ ((0 : Int))),
 (((0 : Int) : Int) < ((↑l.length : Int))),
 (((↑(l.getD (Int.toNat (0 : Int)) (0 : UInt8)).toNat : Int) != (45 : Int) : Bool)) = (false),
 ((!twice : Bool)) = (true),
 (((↑c.toNat : Int) != (45 : Int) : Bool)) = (true)]) := by kernel_rfl

theorem form_11 (l t : List UInt8) (a : Nat) (c : UInt8) (more twice : Bool) : lawOut (aBody Try.prog clT ⟨true, bs [(27, false), (40, false), (59, true), (62, false), (67, false), (71, false), (75, false), (79, true), (115, false), (123, false), (126, true)] ++ (bs [(133, true)] ++ [(24, ⟨.c (.bool true), none⟩), (49, ⟨.c (str [c]), none⟩), (54, ⟨.c (str t), none⟩), (57, ⟨.c (.bool more), none⟩), (90, ⟨.c (.bool twice), none⟩), (96, ⟨.c (.bool false), none⟩), (102, ⟨.c (.bool false), none⟩), (118, ⟨.c (.bool true), none⟩), (139, ⟨.c (.bool true), none⟩)])⟩ (lpBy ([])) 60 7 ([.c (str l), .c (.int .i64 a), .c (.int .u8 (c.toNat : Nat))]) ([])) = some ((AV.c ((Value.bool true))), [((l.length : Nat) ≤ ((9223372036854775807 : Nat))),
 (((floatF (sb { data := { toList := l } })).isSome : Bool)) = (true),
 ((decide ((↑l.length : Int) > (50 : Int)) : Bool)) = (false),
 ((decide ((↑a : Int) > (↑l.length : Int)) : Bool)) = (false),
 (((0 : Int) : Int) ≤ ((0 : Int))),
 (((0 : Int) : Int) ≤ ((↑a : Int))),
 (((↑a : Int) : Int) ≤ ((↑l.length : Int))),
 (((1 : Nat) : Nat)) = ((1 : Nat)),
 bytesOK ([(AV.c ((Value.int .u8 ((↑c.toNat : Int)))))]),
 (([UInt8.ofNat (Int.toNat ((↑c.toNat : Int)))] : List UInt8)) = ([c]),
 (((List.drop (Int.toNat (0 : Int)) (List.take a l)).length + (1 : Nat) : Nat) ≤ ((9223372036854775807 : Nat))),
 (((0 : Int) : Int) ≤ ((↑a : Int))),
 (((↑a : Int) : Int) ≤ ((↑l.length : Int))),
 (((↑l.length : Int) : Int) ≤ ((↑l.length : Int))),
 (((List.drop (Int.toNat (0 : Int)) (List.take a l) ++ [c]).length + (List.drop a (List.take l.length l)).length : Nat) ≤ ((9223372036854775807 : Nat))),
 ((List.drop (Int.toNat (0 : Int)) (List.take a l) ++ [c] ++ List.drop a (List.take l.length l) : List UInt8)) = (t),
 ((t.length : Nat) ≤ ((9223372036854775807 : Nat))),
 (((floatF (sb { data := { toList := t } })).isSome : Bool)) = (more),
 ((decide ((↑c.toNat : Int) ≥ (48 : Int)) : Bool)) = (true),
 ((decide ((↑c.toNat : Int) ≤ (57 : Int)) : Bool)) = (false),
 (((↑c.toNat : Int) == (46 : Int) : Bool)) = (false),
 (((↑c.toNat : Int) == (45 : Int) : Bool)) = (false),
 (((↑c.toNat : Int) == (43 : Int) : Bool)) = (false),
 (((↑c.toNat : Int) == (101 : Int) : Bool)) = (true),
 (((1 : Nat) + l.length : Nat) ≤ ((9223372036854775807 : Nat))),
 ((([(45 : UInt8)] ++ l).length : Nat) ≤ ((9223372036854775807 : Nat))),
 (((floatF (sb { data := { toList := sb { data := #[(45 : UInt8)] } ++ sb { data := { toList := l } } } })).isSome : Bool)) = (twice),
 (((1 : Nat) + l.length : Nat) ≤ ((9223372036854775807 : Nat))),
 ((([(43 : UInt8)] ++ l).length : Nat) ≤ ((9223372036854775807 : Nat))),
 ((false : Bool)) = (false),
 ((l.length + (1 : Nat) : Nat) ≤ ((9223372036854775807 : Nat))),
 (((l ++ [(46 : UInt8)]).length : Nat) ≤ ((9223372036854775807 : Nat))),
 (((floatF (sb { data := { toList := sb { data := { toList := l } } ++ sb { data := #[(46 : UInt8)] } } })).isSome : Bool)) = (false),
 (((0 : Int) : Int) ≤ ((0 : Int))),
 (((0 : Int) : Int) < ((↑l.length : Int))),
 (((↑(l.getD (Int.toNat (0 : Int)) (0 : UInt8)).toNat : Int) != (45 : Int) : Bool)) = (false),
 ((!twice : Bool)) = (true),
 (((↑c.toNat : Int) != (45 : Int) : Bool)) = (false),
 ((decide ((↑a : Int) > (0 : Int)) : Bool)) = (true)]) := by kernel_rfl

theorem form_12 (l t : List UInt8) (a : Nat) (c : UInt8) (more twice : Bool) : lawOut (aBody Try.prog clT ⟨true, bs [(27, false), (40, false), (59, true), (62, false), (67, false), (71, false), (75, false), (79, true), (115, false), (123, false), (126, false)] ++ (bs [(133, true)] ++ [(24, ⟨.c (.bool true), none⟩), (49, ⟨.c (str [c]), none⟩), (54, ⟨.c (str t), none⟩), (57, ⟨.c (.bool more), none⟩), (90, ⟨.c (.bool twice), none⟩), (96, ⟨.c (.bool false), none⟩), (102, ⟨.c (.bool false), none⟩), (118, ⟨.c (.bool true), none⟩), (139, ⟨.c (.bool true), none⟩)])⟩ (lpBy ([])) 60 7 ([.c (str l), .c (.int .i64 a), .c (.int .u8 (c.toNat : Nat))]) ([])) = some ((AV.c ((Value.bool true))), [((l.length : Nat) ≤ ((9223372036854775807 : Nat))),
 (((floatF (sb { data := { toList := l } })).isSome : Bool)) = (true),
 ((decide ((↑l.length : Int) > (50 : Int)) : Bool)) = (false),
 ((decide ((↑a : Int) > (↑l.length : Int)) : Bool)) = (false),
 (((0 : Int) : Int) ≤ ((0 : Int))),
 (((0 : Int) : Int) ≤ ((↑a : Int))),
 (((↑a : Int) : Int) ≤ ((↑l.length : Int))),
 (((1 : Nat) : Nat)) = ((1 : Nat)),
 bytesOK ([(AV.c ((Value.int .u8 ((↑c.toNat : Int)))))]),
 (([UInt8.ofNat (Int.toNat ((↑c.toNat : Int)))] : List UInt8)) = ([c]),
 (((List.drop (Int.toNat (0 : Int)) (List.take a l)).length + (1 : Nat) : Nat) ≤ ((9223372036854775807 : Nat))),
 (((0 : Int) : Int) ≤ ((↑a : Int))),
 (((↑a : Int) : Int) ≤ ((↑l.length : Int))),
 (((↑l.length : Int) : Int) ≤ ((↑l.length : Int))),
 (((List.drop (Int.toNat (0 : Int)) (List.take a l) ++ [c]).length + (List.drop a (List.take l.length l)).length : Nat) ≤ ((9223372036854775807 : Nat))),
 ((List.drop (Int.toNat (0 : Int)) (List.take a l) ++ [c] ++ List.drop a (List.take l.length l) : List UInt8)) = (t),
 ((t.length : Nat) ≤ ((9223372036854775807 : Nat))),
 (((floatF (sb { data := { toList := t } })).isSome : Bool)) = (more),
 ((decide ((↑c.toNat : Int) ≥ (48 : Int)) : Bool)) = (true),
 ((decide ((↑c.toNat : Int) ≤ (57 : Int)) : Bool)) = (false),
 (((↑c.toNat : Int) == (46 : Int) : Bool)) = (false),
 (((↑c.toNat : Int) == (45 : Int) : Bool)) = (false),
 (((↑c.toNat : Int) == (43 : Int) : Bool)) = (false),
 (((↑c.toNat : Int) == (101 : Int) : Bool)) = (true),
 (((1 : Nat) + l.length : Nat) ≤ ((9223372036854775807 : Nat))),
 ((([(45 : UInt8)] ++ l).length : Nat) ≤ ((9223372036854775807 : Nat))),
 (((floatF (sb { data := { toList := sb { data := #[(45 : UInt8)] } ++ sb { data := { toList := l } } } })).isSome : Bool)) = (twice),
 (((1 : Nat) + l.length : Nat) ≤ ((9223372036854775807 : Nat))),
 ((([(43 : UInt8)] ++ l).length : Nat) ≤ ((9223372036854775807 : Nat))),
 ((false : Bool)) = (false),
 ((l.length + (1 : Nat) : Nat) ≤ ((9223372036854775807 : Nat))),
 (((l ++ [(46 : UInt8)]).length : Nat) ≤ ((9223372036854775807 : Nat))),
 (((floatF (sb { data := { toList := sb { data := { toList := l } } ++ sb { data := #[(46 : UInt8)] } } })).isSome : Bool)) = (false),
 (((0 : Int) : Int) ≤ ((0 : Int))),
 (((0 : Int) : Int) < ((↑l.length : Int))),
 (((↑(l.getD (Int.toNat (0 : Int)) (0 : UInt8)).toNat : Int) != (45 : Int) : Bool)) = (false),
 ((!twice : Bool)) = (true),
 (((↑c.toNat : Int) != (45 : Int) : Bool)) = (false),
 ((decide ((↑a : Int) > (0 : Int)) : Bool)) = (false),
 (((0 : Int) : Int) ≤ ((0 : Int))),
 (((0 : Int) : Int) < ((↑l.length : Int))),
 ((more == ((↑(l.getD (Int.toNat (0 : Int)) (0 : UInt8)).toNat : Int) != (45 : Int)) : Bool)) = (true)]) := by kernel_rfl

theorem form_13 (l t : List UInt8) (a : Nat) (c : UInt8) (more twice : Bool) : lawOut (aBody Try.prog clT ⟨true, bs [(27, false), (40, false), (59, true), (62, false), (67, false), (71, false), (75, false), (79, false), (83, true), (115, true), (123, true)] ++ (bs [(133, true)] ++ [(24, ⟨.c (.bool true), none⟩), (49, ⟨.c (str [c]), none⟩), (54, ⟨.c (str t), none⟩), (57, ⟨.c (.bool more), none⟩), (90, ⟨.c (.bool twice), none⟩), (96, ⟨.c (.bool false), none⟩), (102, ⟨.c (.bool false), none⟩), (118, ⟨.c (.bool true), none⟩), (139, ⟨.c (.bool true), none⟩)])⟩ (lpBy ([])) 60 7 ([.c (str l), .c (.int .i64 a), .c (.int .u8 (c.toNat : Nat))]) ([])) = some ((AV.c ((Value.bool true))), [((l.length : Nat) ≤ ((9223372036854775807 : Nat))),
 (((floatF (sb { data := { toList := l } })).isSome : Bool)) = (true),
 ((decide ((↑l.length : Int) > (50 : Int)) : Bool)) = (false),
 ((decide ((↑a : Int) > (↑l.length : Int)) : Bool)) = (false),
 (((0 : Int) : Int) ≤ ((0 : Int))),
 (((0 : Int) : Int) ≤ ((↑a : Int))),
 (((↑a : Int) : Int) ≤ ((↑l.length : Int))),
 (((1 : Nat) : Nat)) = ((1 : Nat)),
 bytesOK ([(AV.c ((Value.int .u8 ((↑c.toNat : Int)))))]),
 (([UInt8.ofNat (Int.toNat ((↑c.toNat : Int)))] : List UInt8)) = ([c]),
 (((List.drop (Int.toNat (0 : Int)) (List.take a l)).length + (1 : Nat) : Nat) ≤ ((9223372036854775807 : Nat))),
 (((0 : Int) : Int) ≤ ((↑a : Int))),
 (((↑a : Int) : Int) ≤ ((↑l.length : Int))),
 (((↑l.length : Int) : Int) ≤ ((↑l.length : Int))),
 (((List.drop (Int.toNat (0 : Int)) (List.take a l) ++ [c]).length + (List.drop a (List.take l.length l)).length : Nat) ≤ ((9223372036854775807 : Nat))),
 ((List.drop (Int.toNat (0 : Int)) (List.take a l) ++ [c] ++ List.drop a (List.take l.length l) : List UInt8)) = (t),
 ((t.length : Nat) ≤ ((9223372036854775807 : Nat))),
 (((floatF (sb { data := { toList := t } })).isSome : Bool)) = (more),
 ((decide ((↑c.toNat : Int) ≥ (48 : Int)) : Bool)) = (true),
 ((decide ((↑c.toNat : Int) ≤ (57 : Int)) : Bool)) = (false),
 (((↑c.toNat : Int) == (46 : Int) : Bool)) = (false),
 (((↑c.toNat : Int) == (45 : Int) : Bool)) = (false),
 (((↑c.toNat : Int) == (43 : Int) : Bool)) = (false),
 (((↑c.toNat : Int) == (101 : Int) : Bool)) = (false),
 (((↑c.toNat : Int) == (69 : Int) : Bool)) = (true),
 (((1 : Nat) + l.length : Nat) ≤ ((9223372036854775807 : Nat))),
 ((([(45 : UInt8)] ++ l).length : Nat) ≤ ((9223372036854775807 : Nat))),
 (((floatF (sb { data := { toList := sb { data := #[(45 : UInt8)] } ++ sb { data := { toList := l } } } })).isSome : Bool)) = (twice),
 (((1 : Nat) + l.length : Nat) ≤ ((9223372036854775807 : Nat))),
 ((([(43 : UInt8)] ++ l).length : Nat) ≤ ((9223372036854775807 : Nat))),
 ((false : Bool)) = (false),
 ((l.length + (1 : Nat) : Nat) ≤ ((9223372036854775807 : Nat))),
 (((l ++ [(46 : UInt8)]).length : Nat) ≤ ((9223372036854775807 : Nat))),
 (((floatF (sb { data := { toList := sb { data := { toList := l } } ++ sb { data := #[(46 : UInt8)] } } })).isSome : Bool)) = (false),
 (((0 : Int) : Int) ≤ ((0 : Int))),
 (((0 : Int) : Int) < ((↑l.length : Int))),
 (((↑(l.getD (Int.toNat (0 : Int)) (0 : UInt8)).toNat : Int) != (45 : Int) : Bool)) = (true),
 (((↑c.toNat : Int) != (45 : Int) : Bool)) = (true)]) := by kernel_rfl

theorem form_14 (l t : List UInt8) (a : Nat) (c : UInt8) (more twice : Bool) : lawOut (aBody Try.prog clT ⟨true, bs [(27, false), (40, false), (59, true), (62, false), (67, false), (71, false), (75, false), (79, false), (83, true), (115, true), (123, false), (126, true)] ++ (bs [(133, true)] ++ [(24, ⟨.c (.bool true), none⟩), (49, ⟨.c (str [c]), none⟩), (54, ⟨.c (str t), none⟩), (57, ⟨.c (.bool more), none⟩), (90, ⟨.c (.bool twice), none⟩), (96, ⟨.c (.bool false), none⟩), (102, ⟨.c (.bool false), none⟩), (118, ⟨.c (.bool true), none⟩), (139, ⟨.c (.bool true), none⟩)])⟩ (lpBy ([])) 60 7 ([.c (str l), .c (.int .i64 a), .c (.int .u8 (c.toNat : Nat))]) ([])) = some ((AV.c ((Value.bool true))), [((l.length : Nat) ≤ ((9223372036854775807 : Nat))),
 (((floatF (sb { data := { toList := l } })).isSome : Bool)) = (true),
 ((decide ((↑l.length : Int) > (50 : Int)) : Bool)) = (false),
 ((decide ((↑a : Int) > (↑l.length : Int)) : Bool)) = (false),
 (((0 : Int) : Int) ≤ ((0 : Int))),
 (((0 : Int) : Int) ≤ ((↑a : Int))),
 (((↑a : Int) : Int) ≤ ((↑l.length : Int))),
 (((1 : Nat) : Nat)) = ((1 : Nat)),
 bytesOK ([(AV.c ((Value.int .u8 ((↑c.toNat : Int)))))]),
 (([UInt8.ofNat (Int.toNat ((↑c.toNat : Int)))] : List UInt8)) = ([c]),
 (((List.drop (Int.toNat (0 : Int)) (List.take a l)).length + (1 : Nat) : Nat) ≤ ((9223372036854775807 : Nat))),
 (((0 : Int) : Int) ≤ ((↑a : Int))),
 (((↑a : Int) : Int) ≤ ((↑l.length : Int))),
 (((↑l.length : Int) : Int) ≤ ((↑l.length : Int))),
 (((List.drop (Int.toNat (0 : Int)) (List.take a l) ++ [c]).length + (List.drop a (List.take l.length l)).length : Nat) ≤ ((9223372036854775807 : Nat))),
 ((List.drop (Int.toNat (0 : Int)) (List.take a l) ++ [c] ++ List.drop a (List.take l.length l) : List UInt8)) = (t),
 ((t.length : Nat) ≤ ((9223372036854775807 : Nat))),
 (((floatF (sb { data := { toList := t } })).isSome : Bool)) = (more),
 ((decide ((↑c.toNat : Int) ≥ (48 : Int)) : Bool)) = (true),
 ((decide ((↑c.toNat : Int) ≤ (57 : Int)) : Bool)) = (false),
 (((↑c.toNat : Int) == (46 : Int) : Bool)) = (false),
 (((↑c.toNat : Int) == (45 : Int) : Bool)) = (false),
 (((↑c.toNat : Int) == (43 : Int) : Bool)) = (false),
 (((↑c.toNat : Int) == (101 : Int) : Bool)) = (false),
 (((↑c.toNat : Int) == (69 : Int) : Bool)) = (true),
 (((1 : Nat) + l.length : Nat) ≤ ((9223372036854775807 : Nat))),
 ((([(45 : UInt8)] ++ l).length : Nat) ≤ ((9223372036854775807 : Nat))),
 (((floatF (sb { data := { toList := sb { data := #[(45 : UInt8)] } ++ sb { data := { toList := l } } } })).isSome : Bool)) = (twice),
 (((1 : Nat) + l.length : Nat) ≤ ((9223372036854775807 : Nat))),
 ((([(43 : UInt8)] ++ l).length : Nat) ≤ ((9223372036854775807 : Nat))),
 ((false : Bool)) = (false),
 ((l.length + (1 : Nat) : Nat) ≤ ((9223372036854775807 : Nat))),
 (((l ++ [(46 : UInt8)]).length : Nat) ≤ ((9223372036854775807 : Nat))),
 (((floatF (sb { data := { toList := sb { data := { toList := l } } ++ sb { data := #[(46 : UInt8)] } } })).isSome : Bool)) = (false),
 (((0 : Int) : Int) ≤ ((0 : Int))),
 (((0 : Int) : Int) < ((↑l.length : Int))),
 (((↑(l.getD (Int.toNat (0 : Int)) (0 : UInt8)).toNat : Int) != (45 : Int) : Bool)) = (true),
 (((↑c.toNat : Int) != (45 : Int) : Bool)) = (false),
 ((decide ((↑a : Int) > (0 : Int)) : Bool)) = (true)]) := by kernel_rfl

theorem form_15 (l t : List UInt8) (a : Nat) (c : UInt8) (more twice : Bool) : lawOut (aBody Try.prog clT ⟨true, bs [(27, false), (40, false), (59, true), (62, false), (67, false), (71, false), (75, false), (79, false), (83, true), (115, true), (123, false), (126, false)] ++ (bs [(133, true)] ++ [(24, ⟨.c (.bool true), none⟩), (49, ⟨.c (str [c]), none⟩), (54, ⟨.c (str t), none⟩), (57, ⟨.c (.bool more), none⟩), (90, ⟨.c (.bool twice), none⟩), (96, ⟨.c (.bool false), none⟩), (102, ⟨.c (.bool false), none⟩), (118, ⟨.c (.bool true), none⟩), (139, ⟨.c (.bool true), none⟩)])⟩ (lpBy ([])) 60 7 ([.c (str l), .c (.int .i64 a), .c (.int .u8 (c.toNat : Nat))]) ([])) = some ((AV.c ((Value.bool true))), [((l.length : Nat) ≤ ((9223372036854775807 : Nat))),
 (((floatF (sb { data := { toList := l } })).isSome : Bool)) = (true),
 ((decide ((↑l.length : Int) > (50 : Int)) : Bool)) = (false),
 ((decide ((↑a : Int) > (↑l.length : Int)) : Bool)) = (false),
 (((0 : Int) : Int) ≤ ((0 : Int))),
 (((0 : Int) : Int) ≤ ((↑a : Int))),
 (((↑a : Int) : Int) ≤ ((↑l.length : Int))),
 (((1 : Nat) : Nat)) = ((1 : Nat)),
 bytesOK ([(AV.c ((Value.int .u8 ((↑c.toNat : Int)))))]),
 (([UInt8.ofNat (Int.toNat ((↑c.toNat : Int)))] : List UInt8)) = ([c]),
 (((List.drop (Int.toNat (0 : Int)) (List.take a l)).length + (1 : Nat) : Nat) ≤ ((9223372036854775807 : Nat))),
 (((0 : Int) : Int) ≤ ((↑a : Int))),
 (((↑a : Int) : Int) ≤ ((↑l.length : Int))),
 (((↑l.length : Int) : Int) ≤ ((↑l.length : Int))),
 (((List.drop (Int.toNat (0 : Int)) (List.take a l) ++ [c]).length + (List.drop a (List.take l.length l)).length : Nat) ≤ ((9223372036854775807 : Nat))),
 ((List.drop (Int.toNat (0 : Int)) (List.take a l) ++ [c] ++ List.drop a (List.take l.length l) : List UInt8)) = (t),
 ((t.length : Nat) ≤ ((9223372036854775807 : Nat))),
 (((floatF (sb { data := { toList := t } })).isSome : Bool)) = (more),
 ((decide ((↑c.toNat : Int) ≥ (48 : Int)) : Bool)) = (true),
 ((decide ((↑c.toNat : Int) ≤ (57 : Int)) : Bool)) = (false),
 (((↑c.toNat : Int) == (46 : Int) : Bool)) = (false),
 (((↑c.toNat : Int) == (45 : Int) : Bool)) = (false),
 (((↑c.toNat : Int) == (43 : Int) : Bool)) = (false),
 (((↑c.toNat : Int) == (101 : Int) : Bool)) = (false),
 (((↑c.toNat : Int) == (69 : Int) : Bool)) = (true),
 (((1 : Nat) + l.length : Nat) ≤ ((9223372036854775807 : Nat))),
 ((([(45 : UInt8)] ++ l).length : Nat) ≤ ((9223372036854775807 : Nat))),
 (((floatF (sb { data := { toList := sb { data := #[(45 : UInt8)] } ++ sb { data := { toList := l } } } })).isSome : Bool)) = (twice),
 (((1 : Nat) + l.length : Nat) ≤ ((9223372036854775807 : Nat))),
 ((([(43 : UInt8)] ++ l).length : Nat) ≤ ((9223372036854775807 : Nat))),
 ((false : Bool)) = (false),
 ((l.length + (1 : Nat) : Nat) ≤ ((9223372036854775807 : Nat))),
 (((l ++ [(46 : UInt8)]).length : Nat) ≤ ((9223372036854775807 : Nat))),
 (((floatF (sb { data := { toList := sb { data := { toList := l } } ++ sb { data := #[(46 : UInt8)] } } })).isSome : Bool)) = (false),
 (((0 : Int) : Int) ≤ ((0 : Int))),
 (((0 : Int) : Int) < ((↑l.length : Int))),
 (((↑(l.getD (Int.toNat (0 : Int)) (0 : UInt8)).toNat : Int) != (45 : Int) : Bool)) = (true),
 (((↑c.toNat : Int) != (45 : Int) : Bool)) = (false),
 ((decide ((↑a : Int) > (0 : Int)) : Bool)) = (false),
 (((0 : Int) : Int) ≤ ((0 : Int))),
 (((0 : Int) : Int) < ((↑l.length : Int))),
 ((more == ((↑(l.getD (Int.toNat (0 : Int)) (0 : UInt8)).toNat : Int) != (45 : Int)) : Bool)) = (true)]) := by kernel_rfl

theorem form_16 (l t : List UInt8) (a : Nat) (c : UInt8) (more twice : Bool) : lawOut (aBody Try.prog clT ⟨true, bs [(27, false), (40, false), (59, true), (62, false), (67, false), (71, false), (75, false), (79, false), (83, true), (115, false), (123, true)] ++ (bs [(133, true)] ++ [(24, ⟨.c (.bool true), none⟩), (49, ⟨.c (str [c]), none⟩), (54, ⟨.c (str t), none⟩), (57, ⟨.c (.bool more), none⟩), (90, ⟨.c (.bool twice), none⟩), (96, ⟨.c (.bool false), none⟩), (102, ⟨.c (.bool false), none⟩), (118, ⟨.c (.bool true), none⟩), (139, ⟨.c (.bool true), none⟩)])⟩ (lpBy ([])) 60 7 ([.c (str l), .c (.int .i64 a), .c (.int .u8 (c.toNat : Nat))]) ([])) = some ((AV.c ((Value.bool true))), [((l.length : Nat) ≤ ((9223372036854775807 : Nat))),
 (((floatF (sb { data := { toList := l } })).isSome : Bool)) = (true),
 ((decide ((↑l.length : Int) > (50 : Int)) : Bool)) = (false),
 ((decide ((↑a : Int) > (↑l.length : Int)) : Bool)) = (false),
 (((0 : Int) : Int) ≤ ((0 : Int))),
 (((0 : Int) : Int) ≤ ((↑a : Int))),
 (((↑a : Int) : Int) ≤ ((↑l.length : Int))),
 (((1 : Nat) : Nat)) = ((1 : Nat)),
 bytesOK ([(AV.c ((Value.int .u8 ((↑c.toNat : Int)))))]),
 (([UInt8.ofNat (Int.toNat ((↑c.toNat : Int)))] : List UInt8)) = ([c]),
 (((List.drop (Int.toNat (0 : Int)) (List.take a l)).length + (1 : Nat) : Nat) ≤ ((9223372036854775807 : Nat))),
 (((0 : Int) : Int) ≤ ((↑a : Int))),
 (((↑a : Int) : Int) ≤ ((↑l.length : Int))),
 (((↑l.length : Int) : Int) ≤ ((↑l.length : Int))),
 (((List.drop (Int.toNat (0 : Int)) (List.take a l) ++ [c]).length + (List.drop a (List.take l.length l)).length : Nat) ≤ ((9223372036854775807 : Nat))),
 ((List.drop (Int.toNat (0 : Int)) (List.take a l) ++ [c] ++ List.drop a (List.take l.length l) : List UInt8)) = (t),
 ((t.length : Nat) ≤ ((9223372036854775807 : Nat))),
 (((floatF (sb { data := { toList := t } })).isSome : Bool)) = (more),
 ((decide ((↑c.toNat : Int) ≥ (48 : Int)) : Bool)) = (true),
 ((decide ((↑c.toNat : Int) ≤ (57 : Int)) : Bool)) = (false),
 (((↑c.toNat : Int) == (46 : Int) : Bool)) = (false),
 (((↑c.toNat : Int) == (45 : Int) : Bool)) = (false),
 (((↑c.toNat : Int) == (43 : Int) : Bool)) = (false),
 (((↑c.toNat : Int) == (101 : Int) : Bool)) = (false),
 (((↑c.toNat : Int) == (69 : Int) : Bool)) = (true),
 (((1 : Nat) + l.length : Nat) ≤ ((9223372036854775807 : Nat))),
 ((([(45 : UInt8)] ++ l).length : Nat) ≤ ((9223372036854775807 : Nat))),
 (((floatF (sb { data := { toList := sb { data := #[(45 : UInt8)] } ++ sb { data := { toList := l } } } })).isSome : Bool)) = (twice),
 (((1 : Nat) + l.length : Nat) ≤ ((9223372036854775807 : Nat))),
 ((([(43 : UInt8)] ++ l).length : Nat) ≤ ((9223372036854775807 : Nat))),
 ((false : Bool)) = (false),
 ((l.length + (1 : Nat) : Nat) ≤ ((9223372036854775807 : Nat))),
 (((l ++ [(46 : UInt8)]).length : Nat) ≤ ((9223372036854775807 : Nat))),
 (((floatF (sb { data := { toList := sb { data := { toList := l } } ++ sb { data := #[(46 : UInt8)] } } })).isSome : Bool)) = (false),
 (((0 : Int) : Int) ≤ ((0 : Int))),
 (((0 : Int) : Int) < ((↑l.length : Int))),
 (((↑(l.getD (Int.toNat (0 : Int)) (0 : UInt8)).toNat : Int) != (45 : Int) : Bool)) = (false),
 ((!twice : Bool)) = (true),
 (((↑c.toNat : Int) != (45 : Int) : Bool)) = (true)]) := by kernel_rfl

theorem form_17 (l t : List UInt8) (a : Nat) (c : UInt8) (more twice : Bool) : lawOut (aBody Try.prog clT ⟨true, bs [(27, false), (40, false), (59, true), (62, false), (67, false), (71, false), (75, false), (79, false), (83, true), (115, false), (123, false), (126, true)] ++ (bs [(133, true)] ++ [(24, ⟨.c (.bool true), none⟩), (49, ⟨.c (str [c]), none⟩), (54, ⟨.c (str t), none⟩), (57, ⟨.c (.bool more), none⟩), (90, ⟨.c (.bool twice), none⟩), (96, ⟨.c (.bool false), none⟩), (102, ⟨.c (.bool false), none⟩), (118, ⟨.c (.bool true), none⟩), (139, ⟨.c (.bool true), none⟩)])⟩ (lpBy ([])) 60 7 ([.c (str l), .c (.int .i64 a), .c (.int .u8 (c.toNat : Nat))]) ([])) = some ((AV.c ((Value.bool true))), [((l.length : Nat) ≤ ((9223372036854775807 : Nat))),
 (((floatF (sb { data := { toList := l } })).isSome : Bool)) = (true),
 ((decide ((↑l.length : Int) > (50 : Int)) : Bool)) = (false),
 ((decide ((↑a : Int) > (↑l.length : Int)) : Bool)) = (false),
 (((0 : Int) : Int) ≤ ((0 : Int))),
 (((0 : Int) : Int) ≤ ((↑a : Int))),
 (((↑a : Int) : Int) ≤ ((↑l.length : Int))),
 (((1 : Nat) : Nat)) = ((1 : Nat)),
 bytesOK ([(AV.c ((Value.int .u8 ((↑c.toNat : Int)))))]),
 (([UInt8.ofNat (Int.toNat ((↑c.toNat : Int)))] : List UInt8)) = ([c]),
 (((List.drop (Int.toNat (0 : Int)) (List.take a l)).length + (1 : Nat) : Nat) ≤ ((9223372036854775807 : Nat))),
 (((0 : Int) : Int) ≤ ((↑a : Int))),
 (((↑a : Int) : Int) ≤ ((↑l.length : Int))),
 (((↑l.length : Int) : Int) ≤ ((↑l.length : Int))),
 (((List.drop (Int.toNat (0 : Int)) (List.take a l) ++ [c]).length + (List.drop a (List.take l.length l)).length : Nat) ≤ ((9223372036854775807 : Nat))),
 ((List.drop (Int.toNat (0 : Int)) (List.take a l) ++ [c] ++ List.drop a (List.take l.length l) : List UInt8)) = (t),
 ((t.length : Nat) ≤ ((9223372036854775807 : Nat))),
 (((floatF (sb { data := { toList := t } })).isSome : Bool)) = (more),
 ((decide ((↑c.toNat : Int) ≥ (48 : Int)) : Bool)) = (true),
 ((decide ((↑c.toNat : Int) ≤ (57 : Int)) : Bool)) = (false),
 (((↑c.toNat : Int) == (46 : Int) : Bool)) = (false),
 (((↑c.toNat : Int) == (45 : Int) : Bool)) = (false),
 (((↑c.toNat : Int) == (43 : Int) : Bool)) = (false),
 (((↑c.toNat : Int) == (101 : Int) : Bool)) = (false),
 (((↑c.toNat : Int) == (69 : Int) : Bool)) = (true),
 (((1 : Nat) + l.length : Nat) ≤ ((9223372036854775807 : Nat))),
 ((([(45 : UInt8)] ++ l).length : Nat) ≤ ((9223372036854775807 : Nat))),
 (((floatF (sb { data := { toList := sb { data := #[(45 : UInt8)] } ++ sb { data := { toList := l } } } })).isSome : Bool)) = (twice),
 (((1 : Nat) + l.length : Nat) ≤ ((9223372036854775807 : Nat))),
 ((([(43 : UInt8)] ++ l).length : Nat) ≤ ((9223372036854775807 : Nat))),
 ((false : Bool)) = (false),
 ((l.length + (1 : Nat) : Nat) ≤ ((9223372036854775807 : Nat))),
 (((l ++ [(46 : UInt8)]).length : Nat) ≤ ((9223372036854775807 : Nat))),
 (((floatF (sb { data := { toList := sb { data := { toList := l } } ++ sb { data := #[(46 : UInt8)] } } })).isSome : Bool)) = (false),
 (((0 : Int) : Int) ≤ ((0 : Int))),
 (((0 : Int) : Int) < ((↑l.length : Int))),
 (((↑(l.getD (Int.toNat (0 : Int)) (0 : UInt8)).toNat : Int) != (45 : Int) : Bool)) = (false),
 ((!twice : Bool)) = (true),
 (((↑c.toNat : Int) != (45 : Int) : Bool)) = (false),
 ((decide ((↑a : Int) > (0 : Int)) : Bool)) = (true)]) := by kernel_rfl

theorem form_18 (l t : List UInt8) (a : Nat) (c : UInt8) (more twice : Bool) : lawOut (aBody Try.prog clT ⟨true, bs [(27, false), (40, false), (59, true), (62, false), (67, false), (71, false), (75, false), (79, false), (83, true), (115, false), (123, false), (126, false)] ++ (bs [(133, true)] ++ [(24, ⟨.c (.bool true), none⟩), (49, ⟨.c (str [c]), none⟩), (54, ⟨.c (str t), none⟩), (57, ⟨.c (.bool more), none⟩), (90, ⟨.c (.bool twice), none⟩), (96, ⟨.c (.bool false), none⟩), (102, ⟨.c (.bool false), none⟩), (118, ⟨.c (.bool true), none⟩), (139, ⟨.c (.bool true), none⟩)])⟩ (lpBy ([])) 60 7 ([.c (str l), .c (.int .i64 a), .c (.int .u8 (c.toNat : Nat))]) ([])) = some ((AV.c ((Value.bool true))), [((l.length : Nat) ≤ ((9223372036854775807 : Nat))),
 (((floatF (sb { data := { toList := l } })).isSome : Bool)) = (true),
 ((decide ((↑l.length : Int) > (50 : Int)) : Bool)) = (false),
 ((decide ((↑a : Int) > (↑l.length : Int)) : Bool)) = (false),
 (((0 : Int) : Int) ≤ ((0 : Int))),
 (((0 : Int) : Int) ≤ ((↑a : Int))),
 (((↑a : Int) : Int) ≤ ((↑l.length : Int))),
 (((1 : Nat) : Nat)) = ((1 : Nat)),
 bytesOK ([(AV.c ((Value.int .u8 ((↑c.toNat : Int)))))]),
 (([UInt8.ofNat (Int.toNat ((↑c.toNat : Int)))] : List UInt8)) = ([c]),
 (((List.drop (Int.toNat (0 : Int)) (List.take a l)).length + (1 : Nat) : Nat) ≤ ((9223372036854775807 : Nat))),
 (((0 : Int) : Int) ≤ ((↑a : Int))),
 (((↑a : Int) : Int) ≤ ((↑l.length : Int))),
 (((↑l.length : Int) : Int) ≤ ((↑l.length : Int))),
 (((List.drop (Int.toNat (0 : Int)) (List.take a l) ++ [c]).length + (List.drop a (List.take l.length l)).length : Nat) ≤ ((9223372036854775807 : Nat))),
 ((List.drop (Int.toNat (0 : Int)) (List.take a l) ++ [c] ++ List.drop a (List.take l.length l) : List UInt8)) = (t),
 ((t.length : Nat) ≤ ((9223372036854775807 : Nat))),
 (((floatF (sb { data := { toList := t } })).isSome : Bool)) = (more),
 ((decide ((↑c.toNat : Int) ≥ (48 : Int)) : Bool)) = (true),
 ((decide ((↑c.toNat : Int) ≤ (57 : Int)) : Bool)) = (false),
 (((↑c.toNat : Int) == (46 : Int) : Bool)) = (false),
 (((↑c.toNat : Int) == (45 : Int) : Bool)) = (false),
 (((↑c.toNat : Int) == (43 : Int) : Bool)) = (false),
 (((↑c.toNat : Int) == (101 : Int) : Bool)) = (false),
 (((↑c.toNat : Int) == (69 : Int) : Bool)) = (true),
 (((1 : Nat) + l.length : Nat) ≤ ((9223372036854775807 : Nat))),
 ((([(45 : UInt8)] ++ l).length : Nat) ≤ ((9223372036854775807 : Nat))),
 (((floatF (sb { data := { toList := sb { data := #[(45 : UInt8)] } ++ sb { data := { toList := l } } } })).isSome : Bool)) = (twice),
 (((1 : Nat) + l.length : Nat) ≤ ((9223372036854775807 : Nat))),
 ((([(43 : UInt8)] ++ l).length : Nat) ≤ ((9223372036854775807 : Nat))),
 ((false : Bool)) = (false),
 ((l.length + (1 : Nat) : Nat) ≤ ((9223372036854775807 : Nat))),
 (((l ++ [(46 : UInt8)]).length : Nat) ≤ ((9223372036854775807 : Nat))),
 (((floatF (sb { data := { toList := sb { data := { toList := l } } ++ sb { data := #[(46 : UInt8)] } } })).isSome : Bool)) = (false),
 (((0 : Int) : Int) ≤ ((0 : Int))),
 (((0 : Int) : Int) < ((↑l.length : Int))),
 (((↑(l.getD (Int.toNat (0 : Int)) (0 : UInt8)).toNat : Int) != (45 : Int) : Bool)) = (false),
 ((!twice : Bool)) = (true),
 (((↑c.toNat : Int) != (45 : Int) : Bool)) = (false),
 ((decide ((↑a : Int) > (0 : Int)) : Bool)) = (false),
 (((0 : Int) : Int) ≤ ((0 : Int))),
 (((0 : Int) : Int) < ((↑l.length : Int))),
 ((more == ((↑(l.getD (Int.toNat (0 : Int)) (0 : UInt8)).toNat : Int) != (45 : Int)) : Bool)) = (true)]) := by kernel_rfl

theorem form_19 (l t : List UInt8) (a : Nat) (c : UInt8) (more twice : Bool) : lawOut (aBody Try.prog clT ⟨true, bs [(27, false), (40, false), (59, true), (62, false), (67, false), (71, false), (75, false), (79, false), (83, false)] ++ (bs [(133, true)] ++ [(24, ⟨.c (.bool true), none⟩), (49, ⟨.c (str [c]), none⟩), (54, ⟨.c (str t), none⟩), (57, ⟨.c (.bool more), none⟩), (90, ⟨.c (.bool twice), none⟩), (96, ⟨.c (.bool false), none⟩), (102, ⟨.c (.bool false), none⟩), (118, ⟨.c (.bool true), none⟩), (139, ⟨.c (.bool true), none⟩)])⟩ (lpBy ([])) 60 7 ([.c (str l), .c (.int .i64 a), .c (.int .u8 (c.toNat : Nat))]) ([])) = some ((AV.c ((Value.bool true))), [((l.length : Nat) ≤ ((9223372036854775807 : Nat))),
 (((floatF (sb { data := { toList := l } })).isSome : Bool)) = (true),
 ((decide ((↑l.length : Int) > (50 : Int)) : Bool)) = (false),
 ((decide ((↑a : Int) > (↑l.length : Int)) : Bool)) = (false),
 (((0 : Int) : Int) ≤ ((0 : Int))),
 (((0 : Int) : Int) ≤ ((↑a : Int))),
 (((↑a : Int) : Int) ≤ ((↑l.length : Int))),
 (((1 : Nat) : Nat)) = ((1 : Nat)),
 bytesOK ([(AV.c ((Value.int .u8 ((↑c.toNat : Int)))))]),
 (([UInt8.ofNat (Int.toNat ((↑c.toNat : Int)))] : List UInt8)) = ([c]),
 (((List.drop (Int.toNat (0 : Int)) (List.take a l)).length + (1 : Nat) : Nat) ≤ ((9223372036854775807 : Nat))),
 (((0 : Int) : Int) ≤ ((↑a : Int))),
 (((↑a : Int) : Int) ≤ ((↑l.length : Int))),
 (((↑l.length : Int) : Int) ≤ ((↑l.length : Int))),
 (((List.drop (Int.toNat (0 : Int)) (List.take a l) ++ [c]).length + (List.drop a (List.take l.length l)).length : Nat) ≤ ((9223372036854775807 : Nat))),
 ((List.drop (Int.toNat (0 : Int)) (List.take a l) ++ [c] ++ List.drop a (List.take l.length l) : List UInt8)) = (t),
 ((t.length : Nat) ≤ ((9223372036854775807 : Nat))),
 (((floatF (sb { data := { toList := t } })).isSome : Bool)) = (more),
 ((decide ((↑c.toNat : Int) ≥ (48 : Int)) : Bool)) = (true),
 ((decide ((↑c.toNat : Int) ≤ (57 : Int)) : Bool)) = (false),
 (((↑c.toNat : Int) == (46 : Int) : Bool)) = (false),
 (((↑c.toNat : Int) == (45 : Int) : Bool)) = (false),
 (((↑c.toNat : Int) == (43 : Int) : Bool)) = (false),
 (((↑c.toNat : Int) == (101 : Int) : Bool)) = (false),
 (((↑c.toNat : Int) == (69 : Int) : Bool)) = (false),
 ((!more : Bool)) = (true)]) := by kernel_rfl

theorem form_20 (l t : List UInt8) (a : Nat) (c : UInt8) (more twice : Bool) : lawOut (aBody Try.prog clT ⟨true, bs [(27, false), (40, false), (59, false), (67, true), (115, true), (123, true)] ++ (bs [(133, true)] ++ [(24, ⟨.c (.bool true), none⟩), (49, ⟨.c (str [c]), none⟩), (54, ⟨.c (str t), none⟩), (57, ⟨.c (.bool more), none⟩), (90, ⟨.c (.bool twice), none⟩), (96, ⟨.c (.bool false), none⟩), (102, ⟨.c (.bool false), none⟩), (118, ⟨.c (.bool true), none⟩), (139, ⟨.c (.bool true), none⟩)])⟩ (lpBy ([])) 60 7 ([.c (str l), .c (.int .i64 a), .c (.int .u8 (c.toNat : Nat))]) ([])) = some ((AV.c ((Value.bool true))), [((l.length : Nat) ≤ ((9223372036854775807 : Nat))),
 (((floatF (sb { data := { toList := l } })).isSome : Bool)) = (true),
 ((decide ((↑l.length : Int) > (50 : Int)) : Bool)) = (false),
 ((decide ((↑a : Int) > (↑l.length : Int)) : Bool)) = (false),
 (((0 : Int) : Int) ≤ ((0 : Int))),
 (((0 : Int) : Int) ≤ ((↑a : Int))),
 (((↑a : Int) : Int) ≤ ((↑l.length : Int))),
 (((1 : Nat) : Nat)) = ((1 : Nat)),
 bytesOK ([(AV.c ((Value.int .u8 ((↑c.toNat : Int)))))]),
 (([UInt8.ofNat (Int.toNat ((↑c.toNat : Int)))] : List UInt8)) = ([c]),
 (((List.drop (Int.toNat (0 : Int)) (List.take a l)).length + (1 : Nat) : Nat) ≤ ((9223372036854775807 : Nat))),
 (((0 : Int) : Int) ≤ ((↑a : Int))),
 (((↑a : Int) : Int) ≤ ((↑l.length : Int))),
 (((↑l.length : Int) : Int) ≤ ((↑l.length : Int))),
 (((List.drop (Int.toNat (0 : Int)) (List.take a l) ++ [c]).length + (List.drop a (List.take l.length l)).length : Nat) ≤ ((9223372036854775807 : Nat))),
 ((List.drop (Int.toNat (0 : Int)) (List.take a l) ++ [c] ++ List.drop a (List.take l.length l) : List UInt8)) = (t),
 ((t.length : Nat) ≤ ((9223372036854775807 : Nat))),
 (((floatF (sb { data := { toList := t } })).isSome : Bool)) = (more),
 ((decide ((↑c.toNat : Int) ≥ (48 : Int)) : Bool)) = (false),
 (((↑c.toNat : Int) == (46 : Int) : Bool)) = (true),
 (((1 : Nat) + l.length : Nat) ≤ ((9223372036854775807 : Nat))),
 ((([(45 : UInt8)] ++ l).length : Nat) ≤ ((9223372036854775807 : Nat))),
 (((floatF (sb { data := { toList := sb { data := #[(45 : UInt8)] } ++ sb { data := { toList := l } } } })).isSome : Bool)) = (twice),
 (((1 : Nat) + l.length : Nat) ≤ ((9223372036854775807 : Nat))),
 ((([(43 : UInt8)] ++ l).length : Nat) ≤ ((9223372036854775807 : Nat))),
 ((false : Bool)) = (false),
 ((l.length + (1 : Nat) : Nat) ≤ ((9223372036854775807 : Nat))),
 (((l ++ [(46 : UInt8)]).length : Nat) ≤ ((9223372036854775807 : Nat))),
 (((floatF (sb { data := { toList := sb { data := { toList := l } } ++ sb { data := #[(46 : UInt8)] } } })).isSome : Bool)) = (false),
 (((0 : Int) : Int) ≤ ((0 : Int))),
 (((0 : Int) : Int) < ((↑l.length : Int))),
 (((↑(l.getD (Int.toNat (0 : Int)) (0 : UInt8)).toNat : Int) != (45 : Int) : Bool)) = (true),
 (((↑c.toNat : Int) != (45 : Int) : Bool)) = (true)]) := by kernel_rfl

theorem form_21 (l t : List UInt8) (a : Nat) (c : UInt8) (more twice : Bool) : lawOut (aBody Try.prog clT ⟨true, bs [(27, false), (40, false), (59, false), (67, true), (115, true), (123, false), (126, true)] ++ (bs [(133, true)] ++ [(24, ⟨.c (.bool true), none⟩), (49, ⟨.c (str [c]), none⟩), (54, ⟨.c (str t), none⟩), (57, ⟨.c (.bool more), none⟩), (90, ⟨.c (.bool twice), none⟩), (96, ⟨.c (.bool false), none⟩), (102, ⟨.c (.bool false), none⟩), (118, ⟨.c (.bool true), none⟩), (139, ⟨.c (.bool true), none⟩)])⟩ (lpBy ([])) 60 7 ([.c (str l), .c (.int .i64 a), .c (.int .u8 (c.toNat : Nat))]) ([])) = some ((AV.c ((Value.bool true))), [((l.length : Nat) ≤ ((9223372036854775807 : Nat))),
 (((floatF (sb { data := { toList := l } })).isSome : Bool)) = (true),
 ((decide ((↑l.length : Int) > (50 : Int)) : Bool)) = (false),
 ((decide ((↑a : Int) > (↑l.length : Int)) : Bool)) = (false),
 (((0 : Int) : Int) ≤ ((0 : Int))),
 (((0 : Int) : Int) ≤ ((↑a : Int))),
 (((↑a : Int) : Int) ≤ ((↑l.length : Int))),
 (((1 : Nat) : Nat)) = ((1 : Nat)),
 bytesOK ([(AV.c ((Value.int .u8 ((↑c.toNat : Int)))))]),
 (([UInt8.ofNat (Int.toNat ((↑c.toNat : Int)))] : List UInt8)) = ([c]),
 (((List.drop (Int.toNat (0 : Int)) (List.take a l)).length + (1 : Nat) : Nat) ≤ ((9223372036854775807 : Nat))),
 (((0 : Int) : Int) ≤ ((↑a : Int))),
 (((↑a : Int) : Int) ≤ ((↑l.length : Int))),
 (((↑l.length : Int) : Int) ≤ ((↑l.length : Int))),
 (((List.drop (Int.toNat (0 : Int)) (List.take a l) ++ [c]).length + (List.drop a (List.take l.length l)).length : Nat) ≤ ((9223372036854775807 : Nat))),
 ((List.drop (Int.toNat (0 : Int)) (List.take a l) ++ [c] ++ List.drop a (List.take l.length l) : List UInt8)) = (t),
 ((t.length : Nat) ≤ ((9223372036854775807 : Nat))),
 (((floatF (sb { data := { toList := t } })).isSome : Bool)) = (more),
 ((decide ((↑c.toNat : Int) ≥ (48 : Int)) : Bool)) = (false),
 (((↑c.toNat : Int) == (46 : Int) : Bool)) = (true),
 (((1 : Nat) + l.length : Nat) ≤ ((9223372036854775807 : Nat))),
 ((([(45 : UInt8)] ++ l).length : Nat) ≤ ((9223372036854775807 : Nat))),
 (((floatF (sb { data := { toList := sb { data := #[(45 : UInt8)] } ++ sb { data := { toList := l } } } })).isSome : Bool)) = (twice),
 (((1 : Nat) + l.length : Nat) ≤ ((9223372036854775807 : Nat))),
 ((([(43 : UInt8)] ++ l).length : Nat) ≤ ((9223372036854775807 : Nat))),
 ((false : Bool)) = (false),
 ((l.length + (1 : Nat) : Nat) ≤ ((9223372036854775807 : Nat))),
 (((l ++ [(46 : UInt8)]).length : Nat) ≤ ((9223372036854775807 : Nat))),
 (((floatF (sb { data := { toList := sb { data := { toList := l } } ++ sb { data := #[(46 : UInt8)] } } })).isSome : Bool)) = (false),
 (((0 : Int) : Int) ≤ ((0 : Int))),
 (((0 : Int) : Int) < ((↑l.length : Int))),
 (((↑(l.getD (Int.toNat (0 : Int)) (0 : UInt8)).toNat : Int) != (45 : Int) : Bool)) = (true),
 (((↑c.toNat : Int) != (45 : Int) : Bool)) = (false),
 ((decide ((↑a : Int) > (0 : Int)) : Bool)) = (true)]) := by kernel_rfl

theorem form_22 (l t : List UInt8) (a : Nat) (c : UInt8) (more twice : Bool) : lawOut (aBody Try.prog clT ⟨true, bs [(27, false), (40, false), (59, false), (67, true), (115, true), (123, false), (126, false)] ++ (bs [(133, true)] ++ [(24, ⟨.c (.bool true), none⟩), (49, ⟨.c (str [c]), none⟩), (54, ⟨.c (str t), none⟩), (57, ⟨.c (.bool more), none⟩), (90, ⟨.c (.bool twice), none⟩), (96, ⟨.c (.bool false), none⟩), (102, ⟨.c (.bool false), none⟩), (118, ⟨.c (.bool true), none⟩), (139, ⟨.c (.bool true), none⟩)])⟩ (lpBy ([])) 60 7 ([.c (str l), .c (.int .i64 a), .c (.int .u8 (c.toNat : Nat))]) ([])) = some ((AV.c ((Value.bool true))), [((l.length : Nat) ≤ ((9223372036854775807 : Nat))),
 (((floatF (sb { data := { toList := l } })).isSome : Bool)) = (true),
 ((decide ((↑l.length : Int) > (50 : Int)) : Bool)) = (false),
 ((decide ((↑a : Int) > (↑l.length : Int)) : Bool)) = (false),
 (((0 : Int) : Int) ≤ ((0 : Int))),
 (((0 : Int) : Int) ≤ ((↑a : Int))),
 (((↑a : Int) : Int) ≤ ((↑l.length : Int))),
 (((1 : Nat) : Nat)) = ((1 : Nat)),
 bytesOK ([(AV.c ((Value.int .u8 ((↑c.toNat : Int)))))]),
 (([UInt8.ofNat (Int.toNat ((↑c.toNat : Int)))] : List UInt8)) = ([c]),
 (((List.drop (Int.toNat (0 : Int)) (List.take a l)).length + (1 : Nat) : Nat) ≤ ((9223372036854775807 : Nat))),
 (((0 : Int) : Int) ≤ ((↑a : Int))),
 (((↑a : Int) : Int) ≤ ((↑l.length : Int))),
 (((↑l.length : Int) : Int) ≤ ((↑l.length : Int))),
 (((List.drop (Int.toNat (0 : Int)) (List.take a l) ++ [c]).length + (List.drop a (List.take l.length l)).length : Nat) ≤ ((9223372036854775807 : Nat))),
 ((List.drop (Int.toNat (0 : Int)) (List.take a l) ++ [c] ++ List.drop a (List.take l.length l) : List UInt8)) = (t),
 ((t.length : Nat) ≤ ((9223372036854775807 : Nat))),
 (((floatF (sb { data := { toList := t } })).isSome : Bool)) = (more),
 ((decide ((↑c.toNat : Int) ≥ (48 : Int)) : Bool)) = (false),
 (((↑c.toNat : Int) == (46 : Int) : Bool)) = (true),
 (((1 : Nat) + l.length : Nat) ≤ ((9223372036854775807 : Nat))),
 ((([(45 : UInt8)] ++ l).length : Nat) ≤ ((9223372036854775807 : Nat))),
 (((floatF (sb { data := { toList := sb { data := #[(45 : UInt8)] } ++ sb { data := { toList := l } } } })).isSome : Bool)) = (twice),
 (((1 : Nat) + l.length : Nat) ≤ ((9223372036854775807 : Nat))),
 ((([(43 : UInt8)] ++ l).length : Nat) ≤ ((9223372036854775807 : Nat))),
 ((false : Bool)) = (false),
 ((l.length + (1 : Nat) : Nat) ≤ ((9223372036854775807 : Nat))),
 (((l ++ [(46 : UInt8)]).length : Nat) ≤ ((9223372036854775807 : Nat))),
 (((floatF (sb { data := { toList := sb { data := { toList := l } } ++ sb { data := #[(46 : UInt8)] } } })).isSome : Bool)) = (false),
 (((0 : Int) : Int) ≤ ((0 : Int))),
 (((0 : Int) : Int) < ((↑l.length : Int))),
 (((↑(l.getD (Int.toNat (0 : Int)) (0 : UInt8)).toNat : Int) != (45 : Int) : Bool)) = (true),
 (((↑c.toNat : Int) != (45 : Int) : Bool)) = (false),
 ((decide ((↑a : Int) > (0 : Int)) : Bool)) = (false),
 (((0 : Int) : Int) ≤ ((0 : Int))),
 (((0 : Int) : Int) < ((↑l.length : Int))),
 ((more == ((↑(l.getD (Int.toNat (0 : Int)) (0 : UInt8)).toNat : Int) != (45 : Int)) : Bool)) = (true)]) := by kernel_rfl

theorem form_23 (l t : List UInt8) (a : Nat) (c : UInt8) (more twice : Bool) : lawOut (aBody Try.prog clT ⟨true, bs [(27, false), (40, false), (59, false), (67, true), (115, false), (123, true)] ++ (bs [(133, true)] ++ [(24, ⟨.c (.bool true), none⟩), (49, ⟨.c (str [c]), none⟩), (54, ⟨.c (str t), none⟩), (57, ⟨.c (.bool more), none⟩), (90, ⟨.c (.bool twice), none⟩), (96, ⟨.c (.bool false), none⟩), (102, ⟨.c (.bool false), none⟩), (118, ⟨.c (.bool true), none⟩), (139, ⟨.c (.bool true), none⟩)])⟩ (lpBy ([])) 60 7 ([.c (str l), .c (.int .i64 a), .c (.int .u8 (c.toNat : Nat))]) ([])) = some ((AV.c ((Value.bool true))), [((l.length : Nat) ≤ ((9223372036854775807 : Nat))),
 (((floatF (sb { data := { toList := l } })).isSome : Bool)) = (true),
 ((decide ((↑l.length : Int) > (50 : Int)) : Bool)) = (false),
 ((decide ((↑a : Int) > (↑l.length : Int)) : Bool)) = (false),
 (((0 : Int) : Int) ≤ ((0 : Int))),
 (((0 : Int) : Int) ≤ ((↑a : Int))),
 (((↑a : Int) : Int) ≤ ((↑l.length : Int))),
 (((1 : Nat) : Nat)) = ((1 : Nat)),
 bytesOK ([(AV.c ((Value.int .u8 ((↑c.toNat : Int)))))]),
 (([UInt8.ofNat (Int.toNat ((↑c.toNat : Int)))] : List UInt8)) = ([c]),
 (((List.drop (Int.toNat (0 : Int)) (List.take a l)).length + (1 : Nat) : Nat) ≤ ((9223372036854775807 : Nat))),
 (((0 : Int) : Int) ≤ ((↑a : Int))),
 (((↑a : Int) : Int) ≤ ((↑l.length : Int))),
 (((↑l.length : Int) : Int) ≤ ((↑l.length : Int))),
 (((List.drop (Int.toNat (0 : Int)) (List.take a l) ++ [c]).length + (List.drop a (List.take l.length l)).length : Nat) ≤ ((9223372036854775807 : Nat))),
 ((List.drop (Int.toNat (0 : Int)) (List.take a l) ++ [c] ++ List.drop a (List.take l.length l) : List UInt8)) = (t),
 ((t.length : Nat) ≤ ((9223372036854775807 : Nat))),
 (((floatF (sb { data := { toList := t } })).isSome : Bool)) = (more),
 ((decide ((↑c.toNat : Int) ≥ (48 : Int)) : Bool)) = (false),
 (((↑c.toNat : Int) == (46 : Int) : Bool)) = (true),
 (((1 : Nat) + l.length : Nat) ≤ ((9223372036854775807 : Nat))),
 ((([(45 : UInt8)] ++ l).length : Nat) ≤ ((9223372036854775807 : Nat))),
 (((floatF (sb { data := { toList := sb { data := #[(45 : UInt8)] } ++ sb { data := { toList := l } } } })).isSome : Bool)) = (twice),
 (((1 : Nat) + l.length : Nat) ≤ ((9223372036854775807 : Nat))),
 ((([(43 : UInt8)] ++ l).length : Nat) ≤ ((9223372036854775807 : Nat))),
 ((false : Bool)) = (false),
 ((l.length + (1 : Nat) : Nat) ≤ ((9223372036854775807 : Nat))),
 (((l ++ [(46 : UInt8)]).length : Nat) ≤ ((9223372036854775807 : Nat))),
 (((floatF (sb { data := { toList := sb { data := { toList := l } } ++ sb { data := #[(46 : UInt8)] } } })).isSome : Bool)) = (false),
 (((0 : Int) : Int) ≤ ((0 : Int))),
 (((0 : Int) : Int) < ((↑l.length : Int))),
 (((↑(l.getD (Int.toNat (0 : Int)) (0 : UInt8)).toNat : Int) != (45 : Int) : Bool)) = (false),
 ((!twice : Bool)) = (true),
 (((↑c.toNat : Int) != (45 : Int) : Bool)) = (true)]) := by kernel_rfl

theorem form_24 (l t : List UInt8) (a : Nat) (c : UInt8) (more twice : Bool) : lawOut (aBody Try.prog clT ⟨true, bs [(27, false), (40, false), (59, false), (67, true), (115, false), (123, false), (126, true)] ++ (bs [(133, true)] ++ [(24, ⟨.c (.bool true), none⟩), (49, ⟨.c (str [c]), none⟩), (54, ⟨.c (str t), none⟩), (57, ⟨.c (.bool more), none⟩), (90, ⟨.c (.bool twice), none⟩), (96, ⟨.c (.bool false), none⟩), (102, ⟨.c (.bool false), none⟩), (118, ⟨.c (.bool true), none⟩), (139, ⟨.c (.bool true), none⟩)])⟩ (lpBy ([])) 60 7 ([.c (str l), .c (.int .i64 a), .c (.int .u8 (c.toNat : Nat))]) ([])) = some ((AV.c ((Value.bool true))), [((l.length : Nat) ≤ ((9223372036854775807 : Nat))),
 (((floatF (sb { data := { toList := l } })).isSome : Bool)) = (true),
 ((decide ((↑l.length : Int) > (50 : Int)) : Bool)) = (false),
 ((decide ((↑a : Int) > (↑l.length : Int)) : Bool)) = (false),
 (((0 : Int) : Int) ≤ ((0 : Int))),
 (((0 : Int) : Int) ≤ ((↑a : Int))),
 (((↑a : Int) : Int) ≤ ((↑l.length : Int))),
 (((1 : Nat) : Nat)) = ((1 : Nat)),
 bytesOK ([(AV.c ((Value.int .u8 ((↑c.toNat : Int)))))]),
 (([UInt8.ofNat (Int.toNat ((↑c.toNat : Int)))] : List UInt8)) = ([c]),
 (((List.drop (Int.toNat (0 : Int)) (List.take a l)).length + (1 : Nat) : Nat) ≤ ((9223372036854775807 : Nat))),
 (((0 : Int) : Int) ≤ ((↑a : Int))),
 (((↑a : Int) : Int) ≤ ((↑l.length : Int))),
 (((↑l.length : Int) : Int) ≤ ((↑l.length : Int))),
 (((List.drop (Int.toNat (0 : Int)) (List.take a l) ++ [c]).length + (List.drop a (List.take l.length l)).length : Nat) ≤ ((9223372036854775807 : Nat))),
 ((List.drop (Int.toNat (0 : Int)) (List.take a l) ++ [c] ++ List.drop a (List.take l.length l) : List UInt8)) = (t),
 ((t.length : Nat) ≤ ((9223372036854775807 : Nat))),
 (((floatF (sb { data := { toList := t } })).isSome : Bool)) = (more),
 ((decide ((↑c.toNat : Int) ≥ (48 : Int)) : Bool)) = (false),
 (((↑c.toNat : Int) == (46 : Int) : Bool)) = (true),
 (((1 : Nat) + l.length : Nat) ≤ ((9223372036854775807 : Nat))),
 ((([(45 : UInt8)] ++ l).length : Nat) ≤ ((9223372036854775807 : Nat))),
 (((floatF (sb { data := { toList := sb { data := #[(45 : UInt8)] } ++ sb { data := { toList := l } } } })).isSome : Bool)) = (twice),
 (((1 : Nat) + l.length : Nat) ≤ ((9223372036854775807 : Nat))),
 ((([(43 : UInt8)] ++ l).length : Nat) ≤ ((9223372036854775807 : Nat))),
 ((false : Bool)) = (false),
 ((l.length + (1 : Nat) : Nat) ≤ ((9223372036854775807 : Nat))),
 (((l ++ [(46 : UInt8)]).length : Nat) ≤ ((9223372036854775807 : Nat))),
 (((floatF (sb { data := { toList := sb { data := { toList := l } } ++ sb { data := #[(46 : UInt8)] } } })).isSome : Bool)) = (false),
 (((0 : Int) : Int) ≤ ((0 : Int))),
 (((0 : Int) : Int) < ((↑l.length : Int))),
 (((↑(l.getD (Int.toNat (0 : Int)) (0 : UInt8)).toNat : Int) != (45 : Int) : Bool)) = (false),
 ((!twice : Bool)) = (true),
 (((↑c.toNat : Int) != (45 : Int) : Bool)) = (false),
 ((decide ((↑a : Int) > (0 : Int)) : Bool)) = (true)]) := by kernel_rfl

theorem form_25 (l t : List UInt8) (a : Nat) (c : UInt8) (more twice : Bool) : lawOut (aBody Try.prog clT ⟨true, bs [(27, false), (40, false), (59, false), (67, true), (115, false), (123, false), (126, false)] ++ (bs [(133, true)] ++ [(24, ⟨.c (.bool true), none⟩), (49, ⟨.c (str [c]), none⟩), (54, ⟨.c (str t), none⟩), (57, ⟨.c (.bool more), none⟩), (90, ⟨.c (.bool twice), none⟩), (96, ⟨.c (.bool false), none⟩), (102, ⟨.c (.bool false), none⟩), (118, ⟨.c (.bool true), none⟩), (139, ⟨.c (.bool true), none⟩)])⟩ (lpBy ([])) 60 7 ([.c (str l), .c (.int .i64 a), .c (.int .u8 (c.toNat : Nat))]) ([])) = some ((AV.c ((Value.bool true))), [((l.length : Nat) ≤ ((9223372036854775807 : Nat))),
 (((floatF (sb { data := { toList := l } })).isSome : Bool)) = (true),
 ((decide ((↑l.length : Int) > (50 : Int)) : Bool)) = (false),
 ((decide ((↑a : Int) > (↑l.length : Int)) : Bool)) = (false),
 (((0 : Int) : Int) ≤ ((0 : Int))),
 (((0 : Int) : Int) ≤ ((↑a : Int))),
 (((↑a : Int) : Int) ≤ ((↑l.length : Int))),
 (((1 : Nat) : Nat)) = ((1 : Nat)),
 bytesOK ([(AV.c ((Value.int .u8 ((↑c.toNat : Int)))))]),
 (([UInt8.ofNat (Int.toNat ((↑c.toNat : Int)))] : List UInt8)) = ([c]),
 (((List.drop (Int.toNat (0 : Int)) (List.take a l)).length + (1 : Nat) : Nat) ≤ ((9223372036854775807 : Nat))),
 (((0 : Int) : Int) ≤ ((↑a : Int))),
 (((↑a : Int) : Int) ≤ ((↑l.length : Int))),
 (((↑l.length : Int) : Int) ≤ ((↑l.length : Int))),
 (((List.drop (Int.toNat (0 : Int)) (List.take a l) ++ [c]).length + (List.drop a (List.take l.length l)).length : Nat) ≤ ((9223372036854775807 : Nat))),
 ((List.drop (Int.toNat (0 : Int)) (List.take a l) ++ [c] ++ List.drop a (List.take l.length l) : List UInt8)) = (t),
 ((t.length : Nat) ≤ ((9223372036854775807 : Nat))),
 (((floatF (sb { data := { toList := t } })).isSome : Bool)) = (more),
 ((decide ((↑c.toNat : Int) ≥ (48 : Int)) : Bool)) = (false),
 (((↑c.toNat : Int) == (46 : Int) : Bool)) = (true),
 (((1 : Nat) + l.length : Nat) ≤ ((9223372036854775807 : Nat))),
 ((([(45 : UInt8)] ++ l).length : Nat) ≤ ((9223372036854775807 : Nat))),
 (((floatF (sb { data := { toList := sb { data := #[(45 : UInt8)] } ++ sb { data := { toList := l } } } })).isSome : Bool)) = (twice),
 (((1 : Nat) + l.length : Nat) ≤ ((9223372036854775807 : Nat))),
 ((([(43 : UInt8)] ++ l).length : Nat) ≤ ((9223372036854775807 : Nat))),
 ((false : Bool)) = (false),
 ((l.length + (1 : Nat) : Nat) ≤ ((9223372036854775807 : Nat))),
 (((l ++ [(46 : UInt8)]).length : Nat) ≤ ((9223372036854775807 : Nat))),
 (((floatF (sb { data := { toList := sb { data := { toList := l } } ++ sb { data := #[(46 : UInt8)] } } })).isSome : Bool)) = (false),
 (((0 : Int) : Int) ≤ ((0 : Int))),
 (((0 : Int) : Int) < ((↑l.length : Int))),
 (((↑(l.getD (Int.toNat (0 : Int)) (0 : UInt8)).toNat : Int) != (45 : Int) : Bool)) = (false),
 ((!twice : Bool)) = (true),
 (((↑c.toNat : Int) != (45 : Int) : Bool)) = (false),
 ((decide ((↑a : Int) > (0 : Int)) : Bool)) = (false),
 (((0 : Int) : Int) ≤ ((0 : Int))),
 (((0 : Int) : Int) < ((↑l.length : Int))),
 ((more == ((↑(l.getD (Int.toNat (0 : Int)) (0 : UInt8)).toNat : Int) != (45 : Int)) : Bool)) = (true)]) := by kernel_rfl

theorem form_26 (l t : List UInt8) (a : Nat) (c : UInt8) (more twice : Bool) : lawOut (aBody Try.prog clT ⟨true, bs [(27, false), (40, false), (59, false), (67, false), (71, true), (115, true), (123, true)] ++ (bs [(133, true)] ++ [(24, ⟨.c (.bool true), none⟩), (49, ⟨.c (str [c]), none⟩), (54, ⟨.c (str t), none⟩), (57, ⟨.c (.bool more), none⟩), (90, ⟨.c (.bool twice), none⟩), (96, ⟨.c (.bool false), none⟩), (102, ⟨.c (.bool false), none⟩), (118, ⟨.c (.bool true), none⟩), (139, ⟨.c (.bool true), none⟩)])⟩ (lpBy ([])) 60 7 ([.c (str l), .c (.int .i64 a), .c (.int .u8 (c.toNat : Nat))]) ([])) = some ((AV.c ((Value.bool true))), [((l.length : Nat) ≤ ((9223372036854775807 : Nat))),
 (((floatF (sb { data := { toList := l } })).isSome : Bool)) = (true),
 ((decide ((↑l.length : Int) > (50 : Int)) : Bool)) = (false),
 ((decide ((↑a : Int) > (↑l.length : Int)) : Bool)) = (false),
 (((0 : Int) : Int) ≤ ((0 : Int))),
 (((0 : Int) : Int) ≤ ((↑a : Int))),
 (((↑a : Int) : Int) ≤ ((↑l.length : Int))),
 (((1 : Nat) : Nat)) = ((1 : Nat)),
 bytesOK ([(AV.c ((Value.int .u8 ((↑c.toNat : Int)))))]),
 (([UInt8.ofNat (Int.toNat ((↑c.toNat : Int)))] : List UInt8)) = ([c]),
 (((List.drop (Int.toNat (0 : Int)) (List.take a l)).length + (1 : Nat) : Nat) ≤ ((9223372036854775807 : Nat))),
 (((0 : Int) : Int) ≤ ((↑a : Int))),
 (((↑a : Int) : Int) ≤ ((↑l.length : Int))),
 (((↑l.length : Int) : Int) ≤ ((↑l.length : Int))),
 (((List.drop (Int.toNat (0 : Int)) (List.take a l) ++ [c]).length + (List.drop a (List.take l.length l)).length : Nat) ≤ ((9223372036854775807 : Nat))),
 ((List.drop (Int.toNat (0 : Int)) (List.take a l) ++ [c] ++ List.drop a (List.take l.length l) : List UInt8)) = (t),
 ((t.length : Nat) ≤ ((9223372036854775807 : Nat))),
 (((floatF (sb { data := { toList := t } })).isSome : Bool)) = (more),
 ((decide ((↑c.toNat : Int) ≥ (48 : Int)) : Bool)) = (false),
 (((↑c.toNat : Int) == (46 : Int) : Bool)) = (false),
 (((↑c.toNat : Int) == (45 : Int) : Bool)) = (true),
 (((1 : Nat) + l.length : Nat) ≤ ((9223372036854775807 : Nat))),
 ((([(45 : UInt8)] ++ l).length : Nat) ≤ ((9223372036854775807 : Nat))),
 (((floatF (sb { data := { toList := sb { data := #[(45 : UInt8)] } ++ sb { data := { toList := l } } } })).isSome : Bool)) = (twice),
 (((1 : Nat) + l.length : Nat) ≤ ((9223372036854775807 : Nat))),
 ((([(43 : UInt8)] ++ l).length : Nat) ≤ ((9223372036854775807 : Nat))),
 ((false : Bool)) = (false),
 ((l.length + (1 : Nat) : Nat) ≤ ((9223372036854775807 : Nat))),
 (((l ++ [(46 : UInt8)]).length : Nat) ≤ ((9223372036854775807 : Nat))),
 (((floatF (sb { data := { toList := sb { data := { toList := l } } ++ sb { data := #[(46 : UInt8)] } } })).isSome : Bool)) = (false),
 (((0 : Int) : Int) ≤ ((0 : Int))),
 (((0 : Int) : Int) < ((↑l.length : Int))),
 (((↑(l.getD (Int.toNat (0 : Int)) (0 : UInt8)).toNat : Int) != (45 : Int) : Bool)) = (true),
 (((↑c.toNat : Int) != (45 : Int) : Bool)) = (true)]) := by kernel_rfl

theorem form_27 (l t : List UInt8) (a : Nat) (c : UInt8) (more twice : Bool) : lawOut (aBody Try.prog clT ⟨true, bs [(27, false), (40, false), (59, false), (67, false), (71, true), (115, true), (123, false), (126, true)] ++ (bs [(133, true)] ++ [(24, ⟨.c (.bool true), none⟩), (49, ⟨.c (str [c]), none⟩), (54, ⟨.c (str t), none⟩), (57, ⟨.c (.bool more), none⟩), (90, ⟨.c (.bool twice), none⟩), (96, ⟨.c (.bool false), none⟩), (102, ⟨.c (.bool false), none⟩), (118, ⟨.c (.bool true), none⟩), (139, ⟨.c (.bool true), none⟩)])⟩ (lpBy ([])) 60 7 ([.c (str l), .c (.int .i64 a), .c (.int .u8 (c.toNat : Nat))]) ([])) = some ((AV.c ((Value.bool true))), [((l.length : Nat) ≤ ((9223372036854775807 : Nat))),
 (((floatF (sb { data := { toList := l } })).isSome : Bool)) = (true),
 ((decide ((↑l.length : Int) > (50 : Int)) : Bool)) = (false),
 ((decide ((↑a : Int) > (↑l.length : Int)) : Bool)) = (false),
 (((0 : Int) : Int) ≤ ((0 : Int))),
 (((0 : Int) : Int) ≤ ((↑a : Int))),
 (((↑a : Int) : Int) ≤ ((↑l.length : Int))),
 (((1 : Nat) : Nat)) = ((1 : Nat)),
 bytesOK ([(AV.c ((Value.int .u8 ((↑c.toNat : Int)))))]),
 (([UInt8.ofNat (Int.toNat ((↑c.toNat : Int)))] : List UInt8)) = ([c]),
 (((List.drop (Int.toNat (0 : Int)) (List.take a l)).length + (1 : Nat) : Nat) ≤ ((9223372036854775807 : Nat))),
 (((0 : Int) : Int) ≤ ((↑a : Int))),
 (((↑a : Int) : Int) ≤ ((↑l.length : Int))),
 (((↑l.length : Int) : Int) ≤ ((↑l.length : Int))),
 (((List.drop (Int.toNat (0 : Int)) (List.take a l) ++ [c]).length + (List.drop a (List.take l.length l)).length : Nat) ≤ ((9223372036854775807 : Nat))),
 ((List.drop (Int.toNat (0 : Int)) (List.take a l) ++ [c] ++ List.drop a (List.take l.length l) : List UInt8)) = (t),
 ((t.length : Nat) ≤ ((9223372036854775807 : Nat))),
 (((floatF (sb { data := { toList := t } })).isSome : Bool)) = (more),
 ((decide ((↑c.toNat : Int) ≥ (48 : Int)) : Bool)) = (false),
 (((↑c.toNat : Int) == (46 : Int) : Bool)) = (false),
 (((↑c.toNat : Int) == (45 : Int) : Bool)) = (true),
 (((1 : Nat) + l.length : Nat) ≤ ((9223372036854775807 : Nat))),
 ((([(45 : UInt8)] ++ l).length : Nat) ≤ ((9223372036854775807 : Nat))),
 (((floatF (sb { data := { toList := sb { data := #[(45 : UInt8)] } ++ sb { data := { toList := l } } } })).isSome : Bool)) = (twice),
 (((1 : Nat) + l.length : Nat) ≤ ((9223372036854775807 : Nat))),
 ((([(43 : UInt8)] ++ l).length : Nat) ≤ ((9223372036854775807 : Nat))),
 ((false : Bool)) = (false),
 ((l.length + (1 : Nat) : Nat) ≤ ((9223372036854775807 : Nat))),
 (((l ++ [(46 : UInt8)]).length : Nat) ≤ ((9223372036854775807 : Nat))),
 (((floatF (sb { data := { toList := sb { data := { toList := l } } ++ sb { data := #[(46 : UInt8)] } } })).isSome : Bool)) = (false),
 (((0 : Int) : Int) ≤ ((0 : Int))),
 (((0 : Int) : Int) < ((↑l.length : Int))),
 (((↑(l.getD (Int.toNat (0 : Int)) (0 : UInt8)).toNat : Int) != (45 : Int) : Bool)) = (true),
 (((↑c.toNat : Int) != (45 : Int) : Bool)) = (false),
 ((decide ((↑a : Int) > (0 : Int)) : Bool)) = (true)]) := by kernel_rfl

theorem form_28 (l t : List UInt8) (a : Nat) (c : UInt8) (more twice : Bool) : lawOut (aBody Try.prog clT ⟨true, bs [(27, false), (40, false), (59, false), (67, false), (71, true), (115, true), (123, false), (126, false)] ++ (bs [(133, true)] ++ [(24, ⟨.c (.bool true), none⟩), (49, ⟨.c (str [c]), none⟩), (54, ⟨.c (str t), none⟩), (57, ⟨.c (.bool more), none⟩), (90, ⟨.c (.bool twice), none⟩), (96, ⟨.c (.bool false), none⟩), (102, ⟨.c (.bool false), none⟩), (118, ⟨.c (.bool true), none⟩), (139, ⟨.c (.bool true), none⟩)])⟩ (lpBy ([])) 60 7 ([.c (str l), .c (.int .i64 a), .c (.int .u8 (c.toNat : Nat))]) ([])) = some ((AV.c ((Value.bool true))), [((l.length : Nat) ≤ ((9223372036854775807 : Nat))),
 (((floatF (sb { data := { toList := l } })).isSome : Bool)) = (true),
 ((decide ((↑l.length : Int) > (50 : Int)) : Bool)) = (false),
 ((decide ((↑a : Int) > (↑l.length : Int)) : Bool)) = (false),
 (((0 : Int) : Int) ≤ ((0 : Int))),
 (((0 : Int) : Int) ≤ ((↑a : Int))),
 (((↑a : Int) : Int) ≤ ((↑l.length : Int))),
 (((1 : Nat) : Nat)) = ((1 : Nat)),
 bytesOK ([(AV.c ((Value.int .u8 ((↑c.toNat : Int)))))]),
 (([UInt8.ofNat (Int.toNat ((↑c.toNat : Int)))] : List UInt8)) = ([c]),
 (((List.drop (Int.toNat (0 : Int)) (List.take a l)).length + (1 : Nat) : Nat) ≤ ((9223372036854775807 : Nat))),
 (((0 : Int) : Int) ≤ ((↑a : Int))),
 (((↑a : Int) : Int) ≤ ((↑l.length : Int))),
 (((↑l.length : Int) : Int) ≤ ((↑l.length : Int))),
 (((List.drop (Int.toNat (0 : Int)) (List.take a l) ++ [c]).length + (List.drop a (List.take l.length l)).length : Nat) ≤ ((9223372036854775807 : Nat))),
 ((List.drop (Int.toNat (0 : Int)) (List.take a l) ++ [c] ++ List.drop a (List.take l.length l) : List UInt8)) = (t),
 ((t.length : Nat) ≤ ((9223372036854775807 : Nat))),
 (((floatF (sb { data := { toList := t } })).isSome : Bool)) = (more),
 ((decide ((↑c.toNat : Int) ≥ (48 : Int)) : Bool)) = (false),
 (((↑c.toNat : Int) == (46 : Int) : Bool)) = (false),
 (((↑c.toNat : Int) == (45 : Int) : Bool)) = (true),
 (((1 : Nat) + l.length : Nat) ≤ ((9223372036854775807 : Nat))),
 ((([(45 : UInt8)] ++ l).length : Nat) ≤ ((9223372036854775807 : Nat))),
 (((floatF (sb { data := { toList := sb { data := #[(45 : UInt8)] } ++ sb { data := { toList := l } } } })).isSome : Bool)) = (twice),
 (((1 : Nat) + l.length : Nat) ≤ ((9223372036854775807 : Nat))),
 ((([(43 : UInt8)] ++ l).length : Nat) ≤ ((9223372036854775807 : Nat))),
 ((false : Bool)) = (false),
 ((l.length + (1 : Nat) : Nat) ≤ ((9223372036854775807 : Nat))),
 (((l ++ [(46 : UInt8)]).length : Nat) ≤ ((9223372036854775807 : Nat))),
 (((floatF (sb { data := { toList := sb { data := { toList := l } } ++ sb { data := #[(46 : UInt8)] } } })).isSome : Bool)) = (false),
 (((0 : Int) : Int) ≤ ((0 : Int))),
 (((0 : Int) : Int) < ((↑l.length : Int))),
 (((↑(l.getD (Int.toNat (0 : Int)) (0 : UInt8)).toNat : Int) != (45 : Int) : Bool)) = (true),
 (((↑c.toNat : Int) != (45 : Int) : Bool)) = (false),
 ((decide ((↑a : Int) > (0 : Int)) : Bool)) = (false),
 (((0 : Int) : Int) ≤ ((0 : Int))),
 (((0 : Int) : Int) < ((↑l.length : Int))),
 ((more == ((↑(l.getD (Int.toNat (0 : Int)) (0 : UInt8)).toNat : Int) != (45 : Int)) : Bool)) = (true)]) := by kernel_rfl

theorem form_29 (l t : List UInt8) (a : Nat) (c : UInt8) (more twice : Bool) : lawOut (aBody Try.prog clT ⟨true, bs [(27, false), (40, false), (59, false), (67, false), (71, true), (115, false), (123, true)] ++ (bs [(133, true)] ++ [(24, ⟨.c (.bool true), none⟩), (49, ⟨.c (str [c]), none⟩), (54, ⟨.c (str t), none⟩), (57, ⟨.c (.bool more), none⟩), (90, ⟨.c (.bool twice), none⟩), (96, ⟨.c (.bool false), none⟩), (102, ⟨.c (.bool false), none⟩), (118, ⟨.c (.bool true), none⟩), (139, ⟨.c (.bool true), none⟩)])⟩ (lpBy ([])) 60 7 ([.c (str l), .c (.int .i64 a), .c (.int .u8 (c.toNat : Nat))]) ([])) = some ((AV.c ((Value.bool true))), [((l.length : Nat) ≤ ((9223372036854775807 : Nat))),
 (((floatF (sb { data := { toList := l } })).isSome : Bool)) = (true),
 ((decide ((↑l.length : Int) > (50 : Int)) : Bool)) = (false),
 ((decide ((↑a : Int) > (↑l.length : Int)) : Bool)) = (false),
 (((0 : Int) : Int) ≤ ((0 : Int))),
 (((0 : Int) : Int) ≤ ((↑a : Int))),
 (((↑a : Int) : Int) ≤ ((↑l.length : Int))),
 (((1 : Nat) : Nat)) = ((1 : Nat)),
 bytesOK ([(AV.c ((Value.int .u8 ((↑c.toNat : Int)))))]),
 (([UInt8.ofNat (Int.toNat ((↑c.toNat : Int)))] : List UInt8)) = ([c]),
 (((List.drop (Int.toNat (0 : Int)) (List.take a l)).length + (1 : Nat) : Nat) ≤ ((9223372036854775807 : Nat))),
 (((0 : Int) : Int) ≤ ((↑a : Int))),
 (((↑a : Int) : Int) ≤ ((↑l.length : Int))),
 (((↑l.length : Int) : Int) ≤ ((↑l.length : Int))),
 (((List.drop (Int.toNat (0 : Int)) (List.take a l) ++ [c]).length + (List.drop a (List.take l.length l)).length : Nat) ≤ ((9223372036854775807 : Nat))),
 ((List.drop (Int.toNat (0 : Int)) (List.take a l) ++ [c] ++ List.drop a (List.take l.length l) : List UInt8)) = (t),
 ((t.length : Nat) ≤ ((9223372036854775807 : Nat))),
 (((floatF (sb { data := { toList := t } })).isSome : Bool)) = (more),
 ((decide ((↑c.toNat : Int) ≥ (48 : Int)) : Bool)) = (false),
 (((↑c.toNat : Int) == (46 : Int) : Bool)) = (false),
 (((↑c.toNat : Int) == (45 : Int) : Bool)) = (true),
 (((1 : Nat) + l.length : Nat) ≤ ((9223372036854775807 : Nat))),
 ((([(45 : UInt8)] ++ l).length : Nat) ≤ ((9223372036854775807 : Nat))),
 (((floatF (sb { data := { toList := sb { data := #[(45 : UInt8)] } ++ sb { data := { toList := l } } } })).isSome : Bool)) = (twice),
 (((1 : Nat) + l.length : Nat) ≤ ((9223372036854775807 : Nat))),
 ((([(43 : UInt8)] ++ l).length : Nat) ≤ ((9223372036854775807 : Nat))),
 ((false : Bool)) = (false),
 ((l.length + (1 : Nat) : Nat) ≤ ((9223372036854775807 : Nat))),
 (((l ++ [(46 : UInt8)]).length : Nat) ≤ ((9223372036854775807 : Nat))),
 (((floatF (sb { data := { toList := sb { data := { toList := l } } ++ sb { data := #[(46 : UInt8)] } } })).isSome : Bool)) = (false),
 (((0 : Int) : Int) ≤ ((0 : Int))),
 (((0 : Int) : Int) < ((↑l.length : Int))),
 (((↑(l.getD (Int.toNat (0 : Int)) (0 : UInt8)).toNat : Int) != (45 : Int) : Bool)) = (false),
 ((!twice : Bool)) = (true),
 (((↑c.toNat : Int) != (45 : Int) : Bool)) = (true)]) := by kernel_rfl

theorem form_30 (l t : List UInt8) (a : Nat) (c : UInt8) (more twice : Bool) : lawOut (aBody Try.prog clT ⟨true, bs [(27, false), (40, false), (59, false), (67, false), (71, true), (115, false), (123, false), (126, true)] ++ (bs [(133, true)] ++ [(24, ⟨.c (.bool true), none⟩), (49, ⟨.c (str [c]), none⟩), (54, ⟨.c (str t), none⟩), (57, ⟨.c (.bool more), none⟩), (90, ⟨.c (.bool twice), none⟩), (96, ⟨.c (.bool false), none⟩), (102, ⟨.c (.bool false), none⟩), (118, ⟨.c (.bool true), none⟩), (139, ⟨.c (.bool true), none⟩)])⟩ (lpBy ([])) 60 7 ([.c (str l), .c (.int .i64 a), .c (.int .u8 (c.toNat : Nat))]) ([])) = some ((AV.c ((Value.bool true))), [((l.length : Nat) ≤ ((9223372036854775807 : Nat))),
 (((floatF (sb { data := { toList := l } })).isSome : Bool)) = (true),
 ((decide ((↑l.length : Int) > (50 : Int)) : Bool)) = (false),
 ((decide ((↑a : Int) > (↑l.length : Int)) : Bool)) = (false),
 (((0 : Int) : Int) ≤ ((0 : Int))),
 (((0 : Int) : Int) ≤ ((↑a : Int))),
 (((↑a : Int) : Int) ≤ ((↑l.length : Int))),
 (((1 : Nat) : Nat)) = ((1 : Nat)),
 bytesOK ([(AV.c ((Value.int .u8 ((↑c.toNat : Int)))))]),
 (([UInt8.ofNat (Int.toNat ((↑c.toNat : Int)))] : List UInt8)) = ([c]),
 (((List.drop (Int.toNat (0 : Int)) (List.take a l)).length + (1 : Nat) : Nat) ≤ ((9223372036854775807 : Nat))),
 (((0 : Int) : Int) ≤ ((↑a : Int))),
 (((↑a : Int) : Int) ≤ ((↑l.length : Int))),
 (((↑l.length : Int) : Int) ≤ ((↑l.length : Int))),
 (((List.drop (Int.toNat (0 : Int)) (List.take a l) ++ [c]).length + (List.drop a (List.take l.length l)).length : Nat) ≤ ((9223372036854775807 : Nat))),
 ((List.drop (Int.toNat (0 : Int)) (List.take a l) ++ [c] ++ List.drop a (List.take l.length l) : List UInt8)) = (t),
 ((t.length : Nat) ≤ ((9223372036854775807 : Nat))),
 (((floatF (sb { data := { toList := t } })).isSome : Bool)) = (more),
 ((decide ((↑c.toNat : Int) ≥ (48 : Int)) : Bool)) = (false),
 (((↑c.toNat : Int) == (46 : Int) : Bool)) = (false),
 (((↑c.toNat : Int) == (45 : Int) : Bool)) = (true),
 (((1 : Nat) + l.length : Nat) ≤ ((9223372036854775807 : Nat))),
 ((([(45 : UInt8)] ++ l).length : Nat) ≤ ((9223372036854775807 : Nat))),
 (((floatF (sb { data := { toList := sb { data := #[(45 : UInt8)] } ++ sb { data := { toList := l } } } })).isSome : Bool)) = (twice),
 (((1 : Nat) + l.length : Nat) ≤ ((9223372036854775807 : Nat))),
 ((([(43 : UInt8)] ++ l).length : Nat) ≤ ((9223372036854775807 : Nat))),
 ((false : Bool)) = (false),
 ((l.length + (1 : Nat) : Nat) ≤ ((9223372036854775807 : Nat))),
 (((l ++ [(46 : UInt8)]).length : Nat) ≤ ((9223372036854775807 : Nat))),
 (((floatF (sb { data := { toList := sb { data := { toList := l } } ++ sb { data := #[(46 : UInt8)] } } })).isSome : Bool)) = (false),
 (((0 : Int) : Int) ≤ ((0 : Int))),
 (((0 : Int) : Int) < ((↑l.length : Int))),
 (((↑(l.getD (Int.toNat (0 : Int)) (0 : UInt8)).toNat : Int) != (45 : Int) : Bool)) = (false),
 ((!twice : Bool)) = (true),
 (((↑c.toNat : Int) != (45 : Int) : Bool)) = (false),
 ((decide ((↑a : Int) > (0 : Int)) : Bool)) = (true)]) := by kernel_rfl

theorem form_31 (l t : List UInt8) (a : Nat) (c : UInt8) (more twice : Bool) : lawOut (aBody Try.prog clT ⟨true, bs [(27, false), (40, false), (59, false), (67, false), (71, true), (115, false), (123, false), (126, false)] ++ (bs [(133, true)] ++ [(24, ⟨.c (.bool true), none⟩), (49, ⟨.c (str [c]), none⟩), (54, ⟨.c (str t), none⟩), (57, ⟨.c (.bool more), none⟩), (90, ⟨.c (.bool twice), none⟩), (96, ⟨.c (.bool false), none⟩), (102, ⟨.c (.bool false), none⟩), (118, ⟨.c (.bool true), none⟩), (139, ⟨.c (.bool true), none⟩)])⟩ (lpBy ([])) 60 7 ([.c (str l), .c (.int .i64 a), .c (.int .u8 (c.toNat : Nat))]) ([])) = some ((AV.c ((Value.bool true))), [((l.length : Nat) ≤ ((9223372036854775807 : Nat))),
 (((floatF (sb { data := { toList := l } })).isSome : Bool)) = (true),
 ((decide ((↑l.length : Int) > (50 : Int)) : Bool)) = (false),
 ((decide ((↑a : Int) > (↑l.length : Int)) : Bool)) = (false),
 (((0 : Int) : Int) ≤ ((0 : Int))),
 (((0 : Int) : Int) ≤ ((↑a : Int))),
 (((↑a : Int) : Int) ≤ ((↑l.length : Int))),
 (((1 : Nat) : Nat)) = ((1 : Nat)),
 bytesOK ([(AV.c ((Value.int .u8 ((↑c.toNat : Int)))))]),
 (([UInt8.ofNat (Int.toNat ((↑c.toNat : Int)))] : List UInt8)) = ([c]),
 (((List.drop (Int.toNat (0 : Int)) (List.take a l)).length + (1 : Nat) : Nat) ≤ ((9223372036854775807 : Nat))),
 (((0 : Int) : Int) ≤ ((↑a : Int))),
 (((↑a : Int) : Int) ≤ ((↑l.length : Int))),
 (((↑l.length : Int) : Int) ≤ ((↑l.length : Int))),
 (((List.drop (Int.toNat (0 : Int)) (List.take a l) ++ [c]).length + (List.drop a (List.take l.length l)).length : Nat) ≤ ((9223372036854775807 : Nat))),
 ((List.drop (Int.toNat (0 : Int)) (List.take a l) ++ [c] ++ List.drop a (List.take l.length l) : List UInt8)) = (t),
 ((t.length : Nat) ≤ ((9223372036854775807 : Nat))),
 (((floatF (sb { data := { toList := t } })).isSome : Bool)) = (more),
 ((decide ((↑c.toNat : Int) ≥ (48 : Int)) : Bool)) = (false),
 (((↑c.toNat : Int) == (46 : Int) : Bool)) = (false),
 (((↑c.toNat : Int) == (45 : Int) : Bool)) = (true),
 (((1 : Nat) + l.length : Nat) ≤ ((9223372036854775807 : Nat))),
 ((([(45 : UInt8)] ++ l).length : Nat) ≤ ((9223372036854775807 : Nat))),
 (((floatF (sb { data := { toList := sb { data := #[(45 : UInt8)] } ++ sb { data := { toList := l } } } })).isSome : Bool)) = (twice),
 (((1 : Nat) + l.length : Nat) ≤ ((9223372036854775807 : Nat))),
 ((([(43 : UInt8)] ++ l).length : Nat) ≤ ((9223372036854775807 : Nat))),
 ((false : Bool)) = (false),
 ((l.length + (1 : Nat) : Nat) ≤ ((9223372036854775807 : Nat))),
 (((l ++ [(46 : UInt8)]).length : Nat) ≤ ((9223372036854775807 : Nat))),
 (((floatF (sb { data := { toList := sb { data := { toList := l } } ++ sb { data := #[(46 : UInt8)] } } })).isSome : Bool)) = (false),
 (((0 : Int) : Int) ≤ ((0 : Int))),
 (((0 : Int) : Int) < ((↑l.length : Int))),
 (((↑(l.getD (Int.toNat (0 : Int)) (0 : UInt8)).toNat : Int) != (45 : Int) : Bool)) = (false),
 ((!twice : Bool)) = (true),
 (((↑c.toNat : Int) != (45 : Int) : Bool)) = (false),
 ((decide ((↑a : Int) > (0 : Int)) : Bool)) = (false),
 (((0 : Int) : Int) ≤ ((0 : Int))),
 (((0 : Int) : Int) < ((↑l.length : Int))),
 ((more == ((↑(l.getD (Int.toNat (0 : Int)) (0 : UInt8)).toNat : Int) != (45 : Int)) : Bool)) = (true)]) := by kernel_rfl

theorem form_32 (l t : List UInt8) (a : Nat) (c : UInt8) (more twice : Bool) : lawOut (aBody Try.prog clT ⟨true, bs [(27, false), (40, false), (59, false), (67, false), (71, false), (75, true), (115, true), (123, true)] ++ (bs [(133, true)] ++ [(24, ⟨.c (.bool true), none⟩), (49, ⟨.c (str [c]), none⟩), (54, ⟨.c (str t), none⟩), (57, ⟨.c (.bool more), none⟩), (90, ⟨.c (.bool twice), none⟩), (96, ⟨.c (.bool false), none⟩), (102, ⟨.c (.bool false), none⟩), (118, ⟨.c (.bool true), none⟩), (139, ⟨.c (.bool true), none⟩)])⟩ (lpBy ([])) 60 7 ([.c (str l), .c (.int .i64 a), .c (.int .u8 (c.toNat : Nat))]) ([])) = some ((AV.c ((Value.bool true))), [((l.length : Nat) ≤ ((9223372036854775807 : Nat))),
 (((floatF (sb { data := { toList := l } })).isSome : Bool)) = (true),
 ((decide ((↑l.length : Int) > (50 : Int)) : Bool)) = (false),
 ((decide ((↑a : Int) > (↑l.length : Int)) : Bool)) = (false),
 (((0 : Int) : Int) ≤ ((0 : Int))),
 (((0 : Int) : Int) ≤ ((↑a : Int))),
 (((↑a : Int) : Int) ≤ ((↑l.length : Int))),
 (((1 : Nat) : Nat)) = ((1 : Nat)),
 bytesOK ([(AV.c ((Value.int .u8 ((↑c.toNat : Int)))))]),
 (([UInt8.ofNat (Int.toNat ((↑c.toNat : Int)))] : List UInt8)) = ([c]),
 (((List.drop (Int.toNat (0 : Int)) (List.take a l)).length + (1 : Nat) : Nat) ≤ ((9223372036854775807 : Nat))),
 (((0 : Int) : Int) ≤ ((↑a : Int))),
 (((↑a : Int) : Int) ≤ ((↑l.length : Int))),
 (((↑l.length : Int) : Int) ≤ ((↑l.length : Int))),
 (((List.drop (Int.toNat (0 : Int)) (List.take a l) ++ [c]).length + (List.drop a (List.take l.length l)).length : Nat) ≤ ((9223372036854775807 : Nat))),
 ((List.drop (Int.toNat (0 : Int)) (List.take a l) ++ [c] ++ List.drop a (List.take l.length l) : List UInt8)) = (t),
 ((t.length : Nat) ≤ ((9223372036854775807 : Nat))),
 (((floatF (sb { data := { toList := t } })).isSome : Bool)) = (more),
 ((decide ((↑c.toNat : Int) ≥ (48 : Int)) : Bool)) = (false),
 (((↑c.toNat : Int) == (46 : Int) : Bool)) = (false),
 (((↑c.toNat : Int) == (45 : Int) : Bool)) = (false),
 (((↑c.toNat : Int) == (43 : Int) : Bool)) = (true),
 (((1 : Nat) + l.length : Nat) ≤ ((9223372036854775807 : Nat))),
 ((([(45 : UInt8)] ++ l).length : Nat) ≤ ((9223372036854775807 : Nat))),
 (((floatF (sb { data := { toList := sb { data := #[(45 : UInt8)] } ++ sb { data := { toList := l } } } })).isSome : Bool)) = (twice),
 (((1 : Nat) + l.length : Nat) ≤ ((9223372036854775807 : Nat))),
 ((([(43 : UInt8)] ++ l).length : Nat) ≤ ((9223372036854775807 : Nat))),
 ((false : Bool)) = (false),
 ((l.length + (1 : Nat) : Nat) ≤ ((9223372036854775807 : Nat))),
 (((l ++ [(46 : UInt8)]).length : Nat) ≤ ((9223372036854775807 : Nat))),
 (((floatF (sb { data := { toList := sb { data := { toList := l } } ++ sb { data := #[(46 : UInt8)] } } })).isSome : Bool)) = (false),
 (((0 : Int) : Int) ≤ ((0 : Int))),
 (((0 : Int) : Int) < ((↑l.length : Int))),
 (((↑(l.getD (Int.toNat (0 : Int)) (0 : UInt8)).toNat : Int) != (45 : Int) : Bool)) = (true),
 (((↑c.toNat : Int) != (45 : Int) : Bool)) = (true)]) := by kernel_rfl

theorem form_33 (l t : List UInt8) (a : Nat) (c : UInt8) (more twice : Bool) : lawOut (aBody Try.prog clT ⟨true, bs [(27, false), (40, false), (59, false), (67, false), (71, false), (75, true), (115, true), (123, false), (126, true)] ++ (bs [(133, true)] ++ [(24, ⟨.c (.bool true), none⟩), (49, ⟨.c (str [c]), none⟩), (54, ⟨.c (str t), none⟩), (57, ⟨.c (.bool more), none⟩), (90, ⟨.c (.bool twice), none⟩), (96, ⟨.c (.bool false), none⟩), (102, ⟨.c (.bool false), none⟩), (118, ⟨.c (.bool true), none⟩), (139, ⟨.c (.bool true), none⟩)])⟩ (lpBy ([])) 60 7 ([.c (str l), .c (.int .i64 a), .c (.int .u8 (c.toNat : Nat))]) ([])) = some ((AV.c ((Value.bool true))), [((l.length : Nat) ≤ ((9223372036854775807 : Nat))),
 (((floatF (sb { data := { toList := l } })).isSome : Bool)) = (true),
 ((decide ((↑l.length : Int) > (50 : Int)) : Bool)) = (false),
 ((decide ((↑a : Int) > (↑l.length : Int)) : Bool)) = (false),
 (((0 : Int) : Int) ≤ ((0 : Int))),
 (((0 : Int) : Int) ≤ ((↑a : Int))),
 (((↑a : Int) : Int) ≤ ((↑l.length : Int))),
 (((1 : Nat) : Nat)) = ((1 : Nat)),
 bytesOK ([(AV.c ((Value.int .u8 ((↑c.toNat : Int)))))]),
 (([UInt8.ofNat (Int.toNat ((↑c.toNat : Int)))] : List UInt8)) = ([c]),
 (((List.drop (Int.toNat (0 : Int)) (List.take a l)).length + (1 : Nat) : Nat) ≤ ((9223372036854775807 : Nat))),
 (((0 : Int) : Int) ≤ ((↑a : Int))),
 (((↑a : Int) : Int) ≤ ((↑l.length : Int))),
 (((↑l.length : Int) : Int) ≤ ((↑l.length : Int))),
 (((List.drop (Int.toNat (0 : Int)) (List.take a l) ++ [c]).length + (List.drop a (List.take l.length l)).length : Nat) ≤ ((9223372036854775807 : Nat))),
 ((List.drop (Int.toNat (0 : Int)) (List.take a l) ++ [c] ++ List.drop a (List.take l.length l) : List UInt8)) = (t),
 ((t.length : Nat) ≤ ((9223372036854775807 : Nat))),
 (((floatF (sb { data := { toList := t } })).isSome : Bool)) = (more),
 ((decide ((↑c.toNat : Int) ≥ (48 : Int)) : Bool)) = (false),
 (((↑c.toNat : Int) == (46 : Int) : Bool)) = (false),
 (((↑c.toNat : Int) == (45 : Int) : Bool)) = (false),
 (((↑c.toNat : Int) == (43 : Int) : Bool)) = (true),
 (((1 : Nat) + l.length : Nat) ≤ ((9223372036854775807 : Nat))),
 ((([(45 : UInt8)] ++ l).length : Nat) ≤ ((9223372036854775807 : Nat))),
 (((floatF (sb { data := { toList := sb { data := #[(45 : UInt8)] } ++ sb { data := { toList := l } } } })).isSome : Bool)) = (twice),
 (((1 : Nat) + l.length : Nat) ≤ ((9223372036854775807 : Nat))),
 ((([(43 : UInt8)] ++ l).length : Nat) ≤ ((9223372036854775807 : Nat))),
 ((false : Bool)) = (false),
 ((l.length + (1 : Nat) : Nat) ≤ ((9223372036854775807 : Nat))),
 (((l ++ [(46 : UInt8)]).length : Nat) ≤ ((9223372036854775807 : Nat))),
 (((floatF (sb { data := { toList := sb { data := { toList := l } } ++ sb { data := #[(46 : UInt8)] } } })).isSome : Bool)) = (false),
 (((0 : Int) : Int) ≤ ((0 : Int))),
 (((0 : Int) : Int) < ((↑l.length : Int))),
 (((↑(l.getD (Int.toNat (0 : Int)) (0 : UInt8)).toNat : Int) != (45 : Int) : Bool)) = (true),
 (((↑c.toNat : Int) != (45 : Int) : Bool)) = (false),
 ((decide ((↑a : Int) > (0 : Int)) : Bool)) = (true)]) := by kernel_rfl

theorem form_34 (l t : List UInt8) (a : Nat) (c : UInt8) (more twice : Bool) : lawOut (aBody Try.prog clT ⟨true, bs [(27, false), (40, false), (59, false), (67, false), (71, false), (75, true), (115, true), (123, false), (126, false)] ++ (bs [(133, true)] ++ [(24, ⟨.c (.bool true), none⟩), (49, ⟨.c (str [c]), none⟩), (54, ⟨.c (str t), none⟩), (57, ⟨.c (.bool more), none⟩), (90, ⟨.c (.bool twice), none⟩), (96, ⟨.c (.bool false), none⟩), (102, ⟨.c (.bool false), none⟩), (118, ⟨.c (.bool true), none⟩), (139, ⟨.c (.bool true), none⟩)])⟩ (lpBy ([])) 60 7 ([.c (str l), .c (.int .i64 a), .c (.int .u8 (c.toNat : Nat))]) ([])) = some ((AV.c ((Value.bool true))), [((l.length : Nat) ≤ ((9223372036854775807 : Nat))),
 (((floatF (sb { data := { toList := l } })).isSome : Bool)) = (true),
 ((decide ((↑l.length : Int) > (50 : Int)) : Bool)) = (false),
 ((decide ((↑a : Int) > (↑l.length : Int)) : Bool)) = (false),
 (((0 : Int) : Int) ≤ ((0 : Int))),
 (((0 : Int) : Int) ≤ ((↑a : Int))),
 (((↑a : Int) : Int) ≤ ((↑l.length : Int))),
 (((1 : Nat) : Nat)) = ((1 : Nat)),
 bytesOK ([(AV.c ((Value.int .u8 ((↑c.toNat : Int)))))]),
 (([UInt8.ofNat (Int.toNat ((↑c.toNat : Int)))] : List UInt8)) = ([c]),
 (((List.drop (Int.toNat (0 : Int)) (List.take a l)).length + (1 : Nat) : Nat) ≤ ((9223372036854775807 : Nat))),
 (((0 : Int) : Int) ≤ ((↑a : Int))),
 (((↑a : Int) : Int) ≤ ((↑l.length : Int))),
 (((↑l.length : Int) : Int) ≤ ((↑l.length : Int))),
 (((List.drop (Int.toNat (0 : Int)) (List.take a l) ++ [c]).length + (List.drop a (List.take l.length l)).length : Nat) ≤ ((9223372036854775807 : Nat))),
 ((List.drop (Int.toNat (0 : Int)) (List.take a l) ++ [c] ++ List.drop a (List.take l.length l) : List UInt8)) = (t),
 ((t.length : Nat) ≤ ((9223372036854775807 : Nat))),
 (((floatF (sb { data := { toList := t } })).isSome : Bool)) = (more),
 ((decide ((↑c.toNat : Int) ≥ (48 : Int)) : Bool)) = (false),
 (((↑c.toNat : Int) == (46 : Int) : Bool)) = (false),
 (((↑c.toNat : Int) == (45 : Int) : Bool)) = (false),
 (((↑c.toNat : Int) == (43 : Int) : Bool)) = (true),
 (((1 : Nat) + l.length : Nat) ≤ ((9223372036854775807 : Nat))),
 ((([(45 : UInt8)] ++ l).length : Nat) ≤ ((9223372036854775807 : Nat))),
 (((floatF (sb { data := { toList := sb { data := #[(45 : UInt8)] } ++ sb { data := { toList := l } } } })).isSome : Bool)) = (twice),
 (((1 : Nat) + l.length : Nat) ≤ ((9223372036854775807 : Nat))),
 ((([(43 : UInt8)] ++ l).length : Nat) ≤ ((9223372036854775807 : Nat))),
 ((false : Bool)) = (false),
 ((l.length + (1 : Nat) : Nat) ≤ ((9223372036854775807 : Nat))),
 (((l ++ [(46 : UInt8)]).length : Nat) ≤ ((9223372036854775807 : Nat))),
 (((floatF (sb { data := { toList := sb { data := { toList := l } } ++ sb { data := #[(46 : UInt8)] } } })).isSome : Bool)) = (false),
 (((0 : Int) : Int) ≤ ((0 : Int))),
 (((0 : Int) : Int) < ((↑l.length : Int))),
 (((↑(l.getD (Int.toNat (0 : Int)) (0 : UInt8)).toNat : Int) != (45 : Int) : Bool)) = (true),
 (((↑c.toNat : Int) != (45 : Int) : Bool)) = (false),
 ((decide ((↑a : Int) > (0 : Int)) : Bool)) = (false),
 (((0 : Int) : Int) ≤ ((0 : Int))),
 (((0 : Int) : Int) < ((↑l.length : Int))),
 ((more == ((↑(l.getD (Int.toNat (0 : Int)) (0 : UInt8)).toNat : Int) != (45 : Int)) : Bool)) = (true)]) := by kernel_rfl

theorem form_35 (l t : List UInt8) (a : Nat) (c : UInt8) (more twice : Bool) : lawOut (aBody Try.prog clT ⟨true, bs [(27, false), (40, false), (59, false), (67, false), (71, false), (75, true), (115, false), (123, true)] ++ (bs [(133, true)] ++ [(24, ⟨.c (.bool true), none⟩), (49, ⟨.c (str [c]), none⟩), (54, ⟨.c (str t), none⟩), (57, ⟨.c (.bool more), none⟩), (90, ⟨.c (.bool twice), none⟩), (96, ⟨.c (.bool false), none⟩), (102, ⟨.c (.bool false), none⟩), (118, ⟨.c (.bool true), none⟩), (139, ⟨.c (.bool true), none⟩)])⟩ (lpBy ([])) 60 7 ([.c (str l), .c (.int .i64 a), .c (.int .u8 (c.toNat : Nat))]) ([])) = some ((AV.c ((Value.bool true))), [((l.length : Nat) ≤ ((9223372036854775807 : Nat))),
 (((floatF (sb { data := { toList := l } })).isSome : Bool)) = (true),
 ((decide ((↑l.length : Int) > (50 : Int)) : Bool)) = (false),
 ((decide ((↑a : Int) > (↑l.length : Int)) : Bool)) = (false),
 (((0 : Int) : Int) ≤ ((0 : Int))),
 (((0 : Int) : Int) ≤ ((↑a : Int))),
 (((↑a : Int) : Int) ≤ ((↑l.length : Int))),
 (((1 : Nat) : Nat)) = ((1 : Nat)),
 bytesOK ([(AV.c ((Value.int .u8 ((↑c.toNat : Int)))))]),
 (([UInt8.ofNat (Int.toNat ((↑c.toNat : Int)))] : List UInt8)) = ([c]),
 (((List.drop (Int.toNat (0 : Int)) (List.take a l)).length + (1 : Nat) : Nat) ≤ ((9223372036854775807 : Nat))),
 (((0 : Int) : Int) ≤ ((↑a : Int))),
 (((↑a : Int) : Int) ≤ ((↑l.length : Int))),
 (((↑l.length : Int) : Int) ≤ ((↑l.length : Int))),
 (((List.drop (Int.toNat (0 : Int)) (List.take a l) ++ [c]).length + (List.drop a (List.take l.length l)).length : Nat) ≤ ((9223372036854775807 : Nat))),
 ((List.drop (Int.toNat (0 : Int)) (List.take a l) ++ [c] ++ List.drop a (List.take l.length l) : List UInt8)) = (t),
 ((t.length : Nat) ≤ ((9223372036854775807 : Nat))),
 (((floatF (sb { data := { toList := t } })).isSome : Bool)) = (more),
 ((decide ((↑c.toNat : Int) ≥ (48 : Int)) : Bool)) = (false),
 (((↑c.toNat : Int) == (46 : Int) : Bool)) = (false),
 (((↑c.toNat : Int) == (45 : Int) : Bool)) = (false),
 (((↑c.toNat : Int) == (43 : Int) : Bool)) = (true),
 (((1 : Nat) + l.length : Nat) ≤ ((9223372036854775807 : Nat))),
 ((([(45 : UInt8)] ++ l).length : Nat) ≤ ((9223372036854775807 : Nat))),
 (((floatF (sb { data := { toList := sb { data := #[(45 : UInt8)] } ++ sb { data := { toList := l } } } })).isSome : Bool)) = (twice),
 (((1 : Nat) + l.length : Nat) ≤ ((9223372036854775807 : Nat))),
 ((([(43 : UInt8)] ++ l).length : Nat) ≤ ((9223372036854775807 : Nat))),
 ((false : Bool)) = (false),
 ((l.length + (1 : Nat) : Nat) ≤ ((9223372036854775807 : Nat))),
 (((l ++ [(46 : UInt8)]).length : Nat) ≤ ((9223372036854775807 : Nat))),
 (((floatF (sb { data := { toList := sb { data := { toList := l } } ++ sb { data := #[(46 : UInt8)] } } })).isSome : Bool)) = (false),
 (((0 : Int) : Int) ≤ ((0 : Int))),
 (((0 : Int) : Int) < ((↑l.length : Int))),
 (((↑(l.getD (Int.toNat (0 : Int)) (0 : UInt8)).toNat : Int) != (45 : Int) : Bool)) = (false),
 ((!twice : Bool)) = (true),
 (((↑c.toNat : Int) != (45 : Int) : Bool)) = (true)]) := by kernel_rfl

theorem form_36 (l t : List UInt8) (a : Nat) (c : UInt8) (more twice : Bool) : lawOut (aBody Try.prog clT ⟨true, bs [(27, false), (40, false), (59, false), (67, false), (71, false), (75, true), (115, false), (123, false), (126, true)] ++ (bs [(133, true)] ++ [(24, ⟨.c (.bool true), none⟩), (49, ⟨.c (str [c]), none⟩), (54, ⟨.c (str t), none⟩), (57, ⟨.c (.bool more), none⟩), (90, ⟨.c (.bool twice), none⟩), (96, ⟨.c (.bool false), none⟩), (102, ⟨.c (.bool false), none⟩), (118, ⟨.c (.bool true), none⟩), (139, ⟨.c (.bool true), none⟩)])⟩ (lpBy ([])) 60 7 ([.c (str l), .c (.int .i64 a), .c (.int .u8 (c.toNat : Nat))]) ([])) = some ((AV.c ((Value.bool true))), [((l.length : Nat) ≤ ((9223372036854775807 : Nat))),
 (((floatF (sb { data := { toList := l } })).isSome : Bool)) = (true),
 ((decide ((↑l.length : Int) > (50 : Int)) : Bool)) = (false),
 ((decide ((↑a : Int) > (↑l.length : Int)) : Bool)) = (false),
 (((0 : Int) : Int) ≤ ((0 : Int))),
 (((0 : Int) : Int) ≤ ((↑a : Int))),
 (((↑a : Int) : Int) ≤ ((↑l.length : Int))),
 (((1 : Nat) : Nat)) = ((1 : Nat)),
 bytesOK ([(AV.c ((Value.int .u8 ((↑c.toNat : Int)))))]),
 (([UInt8.ofNat (Int.toNat ((↑c.toNat : Int)))] : List UInt8)) = ([c]),
 (((List.drop (Int.toNat (0 : Int)) (List.take a l)).length + (1 : Nat) : Nat) ≤ ((9223372036854775807 : Nat))),
 (((0 : Int) : Int) ≤ ((↑a : Int))),
 (((↑a : Int) : Int) ≤ ((↑l.length : Int))),
 (((↑l.length : Int) : Int) ≤ ((↑l.length : Int))),
 (((List.drop (Int.toNat (0 : Int)) (List.take a l) ++ [c]).length + (List.drop a (List.take l.length l)).length : Nat) ≤ ((9223372036854775807 : Nat))),
 ((List.drop (Int.toNat (0 : Int)) (List.take a l) ++ [c] ++ List.drop a (List.take l.length l) : List UInt8)) = (t),
 ((t.length : Nat) ≤ ((9223372036854775807 : Nat))),
 (((floatF (sb { data := { toList := t } })).isSome : Bool)) = (more),
 ((decide ((↑c.toNat : Int) ≥ (48 : Int)) : Bool)) = (false),
 (((↑c.toNat : Int) == (46 : Int) : Bool)) = (false),
 (((↑c.toNat : Int) == (45 : Int) : Bool)) = (false),
 (((↑c.toNat : Int) == (43 : Int) : Bool)) = (true),
 (((1 : Nat) + l.length : Nat) ≤ ((9223372036854775807 : Nat))),
 ((([(45 : UInt8)] ++ l).length : Nat) ≤ ((9223372036854775807 : Nat))),
 (((floatF (sb { data := { toList := sb { data := #[(45 : UInt8)] } ++ sb { data := { toList := l } } } })).isSome : Bool)) = (twice),
 (((1 : Nat) + l.length : Nat) ≤ ((9223372036854775807 : Nat))),
 ((([(43 : UInt8)] ++ l).length : Nat) ≤ ((9223372036854775807 : Nat))),
 ((false : Bool)) = (false),
 ((l.length + (1 : Nat) : Nat) ≤ ((9223372036854775807 : Nat))),
 (((l ++ [(46 : UInt8)]).length : Nat) ≤ ((9223372036854775807 : Nat))),
 (((floatF (sb { data := { toList := sb { data := { toList := l } } ++ sb { data := #[(46 : UInt8)] } } })).isSome : Bool)) = (false),
 (((0 : Int) : Int) ≤ ((0 : Int))),
 (((0 : Int) : Int) < ((↑l.length : Int))),
 (((↑(l.getD (Int.toNat (0 : Int)) (0 : UInt8)).toNat : Int) != (45 : Int) : Bool)) = (false),
 ((!twice : Bool)) = (true),
 (((↑c.toNat : Int) != (45 : Int) : Bool)) = (false),
 ((decide ((↑a : Int) > (0 : Int)) : Bool)) = (true)]) := by kernel_rfl

theorem form_37 (l t : List UInt8) (a : Nat) (c : UInt8) (more twice : Bool) : lawOut (aBody Try.prog clT ⟨true, bs [(27, false), (40, false), (59, false), (67, false), (71, false), (75, true), (115, false), (123, false), (126, false)] ++ (bs [(133, true)] ++ [(24, ⟨.c (.bool true), none⟩), (49, ⟨.c (str [c]), none⟩), (54, ⟨.c (str t), none⟩), (57, ⟨.c (.bool more), none⟩), (90, ⟨.c (.bool twice), none⟩), (96, ⟨.c (.bool false), none⟩), (102, ⟨.c (.bool false), none⟩), (118, ⟨.c (.bool true), none⟩), (139, ⟨.c (.bool true), none⟩)])⟩ (lpBy ([])) 60 7 ([.c (str l), .c (.int .i64 a), .c (.int .u8 (c.toNat : Nat))]) ([])) = some ((AV.c ((Value.bool true))), [((l.length : Nat) ≤ ((9223372036854775807 : Nat))),
 (((floatF (sb { data := { toList := l } })).isSome : Bool)) = (true),
 ((decide ((↑l.length : Int) > (50 : Int)) : Bool)) = (false),
 ((decide ((↑a : Int) > (↑l.length : Int)) : Bool)) = (false),
 (((0 : Int) : Int) ≤ ((0 : Int))),
 (((0 : Int) : Int) ≤ ((↑a : Int))),
 (((↑a : Int) : Int) ≤ ((↑l.length : Int))),
 (((1 : Nat) : Nat)) = ((1 : Nat)),
 bytesOK ([(AV.c ((Value.int .u8 ((↑c.toNat : Int)))))]),
 (([UInt8.ofNat (Int.toNat ((↑c.toNat : Int)))] : List UInt8)) = ([c]),
 (((List.drop (Int.toNat (0 : Int)) (List.take a l)).length + (1 : Nat) : Nat) ≤ ((9223372036854775807 : Nat))),
 (((0 : Int) : Int) ≤ ((↑a : Int))),
 (((↑a : Int) : Int) ≤ ((↑l.length : Int))),
 (((↑l.length : Int) : Int) ≤ ((↑l.length : Int))),
 (((List.drop (Int.toNat (0 : Int)) (List.take a l) ++ [c]).length + (List.drop a (List.take l.length l)).length : Nat) ≤ ((9223372036854775807 : Nat))),
 ((List.drop (Int.toNat (0 : Int)) (List.take a l) ++ [c] ++ List.drop a (List.take l.length l) : List UInt8)) = (t),
 ((t.length : Nat) ≤ ((9223372036854775807 : Nat))),
 (((floatF (sb { data := { toList := t } })).isSome : Bool)) = (more),
 ((decide ((↑c.toNat : Int) ≥ (48 : Int)) : Bool)) = (false),
 (((↑c.toNat : Int) == (46 : Int) : Bool)) = (false),
 (((↑c.toNat : Int) == (45 : Int) : Bool)) = (false),
 (((↑c.toNat : Int) == (43 : Int) : Bool)) = (true),
 (((1 : Nat) + l.length : Nat) ≤ ((9223372036854775807 : Nat))),
 ((([(45 : UInt8)] ++ l).length : Nat) ≤ ((9223372036854775807 : Nat))),
 (((floatF (sb { data := { toList := sb { data := #[(45 : UInt8)] } ++ sb { data := { toList := l } } } })).isSome : Bool)) = (twice),
 (((1 : Nat) + l.length : Nat) ≤ ((9223372036854775807 : Nat))),
 ((([(43 : UInt8)] ++ l).length : Nat) ≤ ((9223372036854775807 : Nat))),
 ((false : Bool)) = (false),
 ((l.length + (1 : Nat) : Nat) ≤ ((9223372036854775807 : Nat))),
 (((l ++ [(46 : UInt8)]).length : Nat) ≤ ((9223372036854775807 : Nat))),
 (((floatF (sb { data := { toList := sb { data := { toList := l } } ++ sb { data := #[(46 : UInt8)] } } })).isSome : Bool)) = (false),
 (((0 : Int) : Int) ≤ ((0 : Int))),
 (((0 : Int) : Int) < ((↑l.length : Int))),
 (((↑(l.getD (Int.toNat (0 : Int)) (0 : UInt8)).toNat : Int) != (45 : Int) : Bool)) = (false),
 ((!twice : Bool)) = (true),
 (((↑c.toNat : Int) != (45 : Int) : Bool)) = (false),
 ((decide ((↑a : Int) > (0 : Int)) : Bool)) = (false),
 (((0 : Int) : Int) ≤ ((0 : Int))),
 (((0 : Int) : Int) < ((↑l.length : Int))),
 ((more == ((↑(l.getD (Int.toNat (0 : Int)) (0 : UInt8)).toNat : Int) != (45 : Int)) : Bool)) = (true)]) := by kernel_rfl

theorem form_38 (l t : List UInt8) (a : Nat) (c : UInt8) (more twice : Bool) : lawOut (aBody Try.prog clT ⟨true, bs [(27, false), (40, false), (59, false), (67, false), (71, false), (75, false), (79, false), (83, false)] ++ (bs [(133, true)] ++ [(24, ⟨.c (.bool true), none⟩), (49, ⟨.c (str [c]), none⟩), (54, ⟨.c (str t), none⟩), (57, ⟨.c (.bool more), none⟩), (90, ⟨.c (.bool twice), none⟩), (96, ⟨.c (.bool false), none⟩), (102, ⟨.c (.bool false), none⟩), (118, ⟨.c (.bool true), none⟩), (139, ⟨.c (.bool true), none⟩)])⟩ (lpBy ([])) 60 7 ([.c (str l), .c (.int .i64 a), .c (.int .u8 (c.toNat : Nat))]) ([])) = some ((AV.c ((Value.bool true))), [((l.length : Nat) ≤ ((9223372036854775807 : Nat))),
 (((floatF (sb { data := { toList := l } })).isSome : Bool)) = (true),
 ((decide ((↑l.length : Int) > (50 : Int)) : Bool)) = (false),
 ((decide ((↑a : Int) > (↑l.length : Int)) : Bool)) = (false),
 (((0 : Int) : Int) ≤ ((0 : Int))),
 (((0 : Int) : Int) ≤ ((↑a : Int))),
 (((↑a : Int) : Int) ≤ ((↑l.length : Int))),
 (((1 : Nat) : Nat)) = ((1 : Nat)),
 bytesOK ([(AV.c ((Value.int .u8 ((↑c.toNat : Int)))))]),
 (([UInt8.ofNat (Int.toNat ((↑c.toNat : Int)))] : List UInt8)) = ([c]),
 (((List.drop (Int.toNat (0 : Int)) (List.take a l)).length + (1 : Nat) : Nat) ≤ ((9223372036854775807 : Nat))),
 (((0 : Int) : Int) ≤ ((↑a : Int))),
 (((↑a : Int) : Int) ≤ ((↑l.length : Int))),
 (((↑l.length : Int) : Int) ≤ ((↑l.length : Int))),
 (((List.drop (Int.toNat (0 : Int)) (List.take a l) ++ [c]).length + (List.drop a (List.take l.length l)).length : Nat) ≤ ((9223372036854775807 : Nat))),
 ((List.drop (Int.toNat (0 : Int)) (List.take a l) ++ [c] ++ List.drop a (List.take l.length l) : List UInt8)) = (t),
 ((t.length : Nat) ≤ ((9223372036854775807 : Nat))),
 (((floatF (sb { data := { toList := t } })).isSome : Bool)) = (more),
 ((decide ((↑c.toNat : Int) ≥ (48 : Int)) : Bool)) = (false),
 (((↑c.toNat : Int) == (46 : Int) : Bool)) = (false),
 (((↑c.toNat : Int) == (45 : Int) : Bool)) = (false),
 (((↑c.toNat : Int) == (43 : Int) : Bool)) = (false),
 (((↑c.toNat : Int) == (101 : Int) : Bool)) = (false),
 (((↑c.toNat : Int) == (69 : Int) : Bool)) = (false),
 ((!more : Bool)) = (true)]) := by kernel_rfl

theorem form_all (l t : List UInt8) (a : Nat) (c : UInt8) (more twice : Bool) (h1 : (floatF l).isSome = true) (l0 : l.length ≤ 50) (l1 : a ≤ l.length) (l2 : 0 < l.length) (ht : List.take a l ++ [c] ++ List.drop a l = t) (lt : t.length ≤ 100) (h2 : (floatF t).isSome = more) (h3 : (floatF ([45] ++ l)).isSome = twice) (h4 : (floatF ([43] ++ l)).isSome = false) (h5 : (floatF (l ++ [46])).isSome = false) (h6 : ((l.getD 0 0).toNat : Int) = 45 → twice = false) (h7 : (c.toNat : Int) = 45 → ¬ (a : Int) > 0 → more = (((l.getD 0 0).toNat : Int) != 45)) (h8 : ((c.toNat : Int) < 48 ∨ 57 < (c.toNat : Int)) → ¬ (c.toNat : Int) = 46 → ¬ (c.toNat : Int) = 45 → ¬ (c.toNat : Int) = 43 → ¬ (c.toNat : Int) = 101 → ¬ (c.toNat : Int) = 69 → more = false) : ∃ (h : Hints) (p : List Prop), lawOut (aBody Try.prog clT h (lpBy ([])) 60 7 ([.c (str l), .c (.int .i64 a), .c (.int .u8 (c.toNat : Nat))]) ([])) = some (.c (.bool true), p) ∧ allP p := by
  cases hc59 : (decide ((↑c.toNat : Int) ≥ (48 : Int)) : Bool) with
  | true =>
    cases hc62 : (decide ((↑c.toNat : Int) ≤ (57 : Int)) : Bool) with
    | true =>
      cases hc115 : ((↑(l.getD (Int.toNat (0 : Int)) (0 : UInt8)).toNat : Int) != (45 : Int) : Bool) with
      | true =>
        cases hc123 : ((↑c.toNat : Int) != (45 : Int) : Bool) with
        | true =>
          have eR := form_1 l t a c more twice
          refine ⟨_, _, eR.trans (congrArg (fun r => some (r, _)) ?_), ?_⟩
          · try clear eR
            rfl
          · try clear eR
            try simp only [decide_eq_true_eq, decide_eq_false_iff_not, beq_iff_eq, beq_eq_false_iff_ne, bne_iff_ne, bne_eq_false_iff_eq, ne_eq] at hc59
            try simp only [toNat0, toNat1, toNat2, Int.toNat_natCast, sb_mk] at hc59
            try simp only [decide_eq_true_eq, decide_eq_false_iff_not, beq_iff_eq, beq_eq_false_iff_ne, bne_iff_ne, bne_eq_false_iff_eq, ne_eq] at hc62
            try simp only [toNat0, toNat1, toNat2, Int.toNat_natCast, sb_mk] at hc62
            try simp only [decide_eq_true_eq, decide_eq_false_iff_not, beq_iff_eq, beq_eq_false_iff_ne, bne_iff_ne, bne_eq_false_iff_eq, ne_eq] at hc115
            try simp only [toNat0, toNat1, toNat2, Int.toNat_natCast, sb_mk] at hc115
            try simp only [decide_eq_true_eq, decide_eq_false_iff_not, beq_iff_eq, beq_eq_false_iff_ne, bne_iff_ne, bne_eq_false_iff_eq, ne_eq] at hc123
            try simp only [toNat0, toNat1, toNat2, Int.toNat_natCast, sb_mk] at hc123
            simp (disch := omega) only [allP, sb_mk, sl1, toNat0, toNat1, toNat2, Int.toNat_natCast, List.take_length, List.take_succ_cons, List.drop_succ_cons, List.drop_zero, List.take_zero, List.length_cons, List.length_nil, List.getD_cons_zero, i64_wrap, i32_wrap, u8_wrap, u32_wrap, tdN, tmN, i64_min, i64_max, u8_min, u8_max, decide_eq_true_eq, decide_eq_false_iff_not, beq_iff_eq, beq_eq_false_iff_ne, bne_iff_ne, bne_eq_false_iff_eq, ne_eq, not_false_eq_true, and_true, true_and, Int.zero_sub, List.length_append, List.length_take, List.length_drop, UInt8.ofNat_toNat]
            repeat' apply And.intro
            all_goals first | exact True.intro | omega | with_reducible rfl | with_reducible assumption | with_reducible exact bytesOK1 c | (rw [h6 (by omega)]; rfl) | (with_reducible exact h7 (by omega) (by omega)) | (rw [h8 (by omega) (by omega) (by omega) (by omega) (by omega) (by omega)]; rfl) | exact h1 | exact ht | exact h2 | exact h3 | exact h4 | exact h5 | exact h6 | rfl
        | false =>
          cases hc126 : (decide ((↑a : Int) > (0 : Int)) : Bool) with
          | true =>
            have eR := form_2 l t a c more twice
            refine ⟨_, _, eR.trans (congrArg (fun r => some (r, _)) ?_), ?_⟩
            · try clear eR
              rfl
            · try clear eR
              try simp only [decide_eq_true_eq, decide_eq_false_iff_not, beq_iff_eq, beq_eq_false_iff_ne, bne_iff_ne, bne_eq_false_iff_eq, ne_eq] at hc59
              try simp only [toNat0, toNat1, toNat2, Int.toNat_natCast, sb_mk] at hc59
              try simp only [decide_eq_true_eq, decide_eq_false_iff_not, beq_iff_eq, beq_eq_false_iff_ne, bne_iff_ne, bne_eq_false_iff_eq, ne_eq] at hc62
              try simp only [toNat0, toNat1, toNat2, Int.toNat_natCast, sb_mk] at hc62
              try simp only [decide_eq_true_eq, decide_eq_false_iff_not, beq_iff_eq, beq_eq_false_iff_ne, bne_iff_ne, bne_eq_false_iff_eq, ne_eq] at hc115
              try simp only [toNat0, toNat1, toNat2, Int.toNat_natCast, sb_mk] at hc115
              try simp only [decide_eq_true_eq, decide_eq_false_iff_not, beq_iff_eq, beq_eq_false_iff_ne, bne_iff_ne, bne_eq_false_iff_eq, ne_eq] at hc123
              try simp only [toNat0, toNat1, toNat2, Int.toNat_natCast, sb_mk] at hc123
              try simp only [decide_eq_true_eq, decide_eq_false_iff_not, beq_iff_eq, beq_eq_false_iff_ne, bne_iff_ne, bne_eq_false_iff_eq, ne_eq] at hc126
              try simp only [toNat0, toNat1, toNat2, Int.toNat_natCast, sb_mk] at hc126
              simp (disch := omega) only [allP, sb_mk, sl1, toNat0, toNat1, toNat2, Int.toNat_natCast, List.take_length, List.take_succ_cons, List.drop_succ_cons, List.drop_zero, List.take_zero, List.length_cons, List.length_nil, List.getD_cons_zero, i64_wrap, i32_wrap, u8_wrap, u32_wrap, tdN, tmN, i64_min, i64_max, u8_min, u8_max, decide_eq_true_eq, decide_eq_false_iff_not, beq_iff_eq, beq_eq_false_iff_ne, bne_iff_ne, bne_eq_false_iff_eq, ne_eq, not_false_eq_true, and_true, true_and, Int.zero_sub, List.length_append, List.length_take, List.length_drop, UInt8.ofNat_toNat]
              repeat' apply And.intro
              all_goals first | exact True.intro | omega | with_reducible rfl | with_reducible assumption | with_reducible exact bytesOK1 c | (rw [h6 (by omega)]; rfl) | (with_reducible exact h7 (by omega) (by omega)) | (rw [h8 (by omega) (by omega) (by omega) (by omega) (by omega) (by omega)]; rfl) | exact h1 | exact ht | exact h2 | exact h3 | exact h4 | exact h5 | exact h6 | rfl
          | false =>
            have eR := form_3 l t a c more twice
            refine ⟨_, _, eR.trans (congrArg (fun r => some (r, _)) ?_), ?_⟩
            · try clear eR
              rfl
            · try clear eR
              try simp only [decide_eq_true_eq, decide_eq_false_iff_not, beq_iff_eq, beq_eq_false_iff_ne, bne_iff_ne, bne_eq_false_iff_eq, ne_eq] at hc59
              try simp only [toNat0, toNat1, toNat2, Int.toNat_natCast, sb_mk] at hc59
              try simp only [decide_eq_true_eq, decide_eq_false_iff_not, beq_iff_eq, beq_eq_false_iff_ne, bne_iff_ne, bne_eq_false_iff_eq, ne_eq] at hc62
              try simp only [toNat0, toNat1, toNat2, Int.toNat_natCast, sb_mk] at hc62
              try simp only [decide_eq_true_eq, decide_eq_false_iff_not, beq_iff_eq, beq_eq_false_iff_ne, bne_iff_ne, bne_eq_false_iff_eq, ne_eq] at hc115
              try simp only [toNat0, toNat1, toNat2, Int.toNat_natCast, sb_mk] at hc115
              try simp only [decide_eq_true_eq, decide_eq_false_iff_not, beq_iff_eq, beq_eq_false_iff_ne, bne_iff_ne, bne_eq_false_iff_eq, ne_eq] at hc123
              try simp only [toNat0, toNat1, toNat2, Int.toNat_natCast, sb_mk] at hc123
              try simp only [decide_eq_true_eq, decide_eq_false_iff_not, beq_iff_eq, beq_eq_false_iff_ne, bne_iff_ne, bne_eq_false_iff_eq, ne_eq] at hc126
              try simp only [toNat0, toNat1, toNat2, Int.toNat_natCast, sb_mk] at hc126
              simp (disch := omega) only [allP, sb_mk, sl1, toNat0, toNat1, toNat2, Int.toNat_natCast, List.take_length, List.take_succ_cons, List.drop_succ_cons, List.drop_zero, List.take_zero, List.length_cons, List.length_nil, List.getD_cons_zero, i64_wrap, i32_wrap, u8_wrap, u32_wrap, tdN, tmN, i64_min, i64_max, u8_min, u8_max, decide_eq_true_eq, decide_eq_false_iff_not, beq_iff_eq, beq_eq_false_iff_ne, bne_iff_ne, bne_eq_false_iff_eq, ne_eq, not_false_eq_true, and_true, true_and, Int.zero_sub, List.length_append, List.length_take, List.length_drop, UInt8.ofNat_toNat]
              repeat' apply And.intro
              all_goals first | exact True.intro | omega | with_reducible rfl | with_reducible assumption | with_reducible exact bytesOK1 c | (rw [h6 (by omega)]; rfl) | (with_reducible exact h7 (by omega) (by omega)) | (rw [h8 (by omega) (by omega) (by omega) (by omega) (by omega) (by omega)]; rfl) | exact h1 | exact ht | exact h2 | exact h3 | exact h4 | exact h5 | exact h6 | rfl
      | false =>
        cases hc123 : ((↑c.toNat : Int) != (45 : Int) : Bool) with
        | true =>
          have eR := form_4 l t a c more twice
          refine ⟨_, _, eR.trans (congrArg (fun r => some (r, _)) ?_), ?_⟩
          · try clear eR
            rfl
          · try clear eR
            try simp only [decide_eq_true_eq, decide_eq_false_iff_not, beq_iff_eq, beq_eq_false_iff_ne, bne_iff_ne, bne_eq_false_iff_eq, ne_eq] at hc59
            try simp only [toNat0, toNat1, toNat2, Int.toNat_natCast, sb_mk] at hc59
            try simp only [decide_eq_true_eq, decide_eq_false_iff_not, beq_iff_eq, beq_eq_false_iff_ne, bne_iff_ne, bne_eq_false_iff_eq, ne_eq] at hc62
            try simp only [toNat0, toNat1, toNat2, Int.toNat_natCast, sb_mk] at hc62
            try simp only [decide_eq_true_eq, decide_eq_false_iff_not, beq_iff_eq, beq_eq_false_iff_ne, bne_iff_ne, bne_eq_false_iff_eq, ne_eq] at hc115
            try simp only [toNat0, toNat1, toNat2, Int.toNat_natCast, sb_mk] at hc115
            try simp only [decide_eq_true_eq, decide_eq_false_iff_not, beq_iff_eq, beq_eq_false_iff_ne, bne_iff_ne, bne_eq_false_iff_eq, ne_eq] at hc123
            try simp only [toNat0, toNat1, toNat2, Int.toNat_natCast, sb_mk] at hc123
            simp (disch := omega) only [allP, sb_mk, sl1, toNat0, toNat1, toNat2, Int.toNat_natCast, List.take_length, List.take_succ_cons, List.drop_succ_cons, List.drop_zero, List.take_zero, List.length_cons, List.length_nil, List.getD_cons_zero, i64_wrap, i32_wrap, u8_wrap, u32_wrap, tdN, tmN, i64_min, i64_max, u8_min, u8_max, decide_eq_true_eq, decide_eq_false_iff_not, beq_iff_eq, beq_eq_false_iff_ne, bne_iff_ne, bne_eq_false_iff_eq, ne_eq, not_false_eq_true, and_true, true_and, Int.zero_sub, List.length_append, List.length_take, List.length_drop, UInt8.ofNat_toNat]
            repeat' apply And.intro
            all_goals first | exact True.intro | omega | with_reducible rfl | with_reducible assumption | with_reducible exact bytesOK1 c | (rw [h6 (by omega)]; rfl) | (with_reducible exact h7 (by omega) (by omega)) | (rw [h8 (by omega) (by omega) (by omega) (by omega) (by omega) (by omega)]; rfl) | exact h1 | exact ht | exact h2 | exact h3 | exact h4 | exact h5 | exact h6 | rfl
        | false =>
          cases hc126 : (decide ((↑a : Int) > (0 : Int)) : Bool) with
          | true =>
            have eR := form_5 l t a c more twice
            refine ⟨_, _, eR.trans (congrArg (fun r => some (r, _)) ?_), ?_⟩
            · try clear eR
              rfl
            · try clear eR
              try simp only [decide_eq_true_eq, decide_eq_false_iff_not, beq_iff_eq, beq_eq_false_iff_ne, bne_iff_ne, bne_eq_false_iff_eq, ne_eq] at hc59
              try simp only [toNat0, toNat1, toNat2, Int.toNat_natCast, sb_mk] at hc59
              try simp only [decide_eq_true_eq, decide_eq_false_iff_not, beq_iff_eq, beq_eq_false_iff_ne, bne_iff_ne, bne_eq_false_iff_eq, ne_eq] at hc62
              try simp only [toNat0, toNat1, toNat2, Int.toNat_natCast, sb_mk] at hc62
              try simp only [decide_eq_true_eq, decide_eq_false_iff_not, beq_iff_eq, beq_eq_false_iff_ne, bne_iff_ne, bne_eq_false_iff_eq, ne_eq] at hc115
              try simp only [toNat0, toNat1, toNat2, Int.toNat_natCast, sb_mk] at hc115
              try simp only [decide_eq_true_eq, decide_eq_false_iff_not, beq_iff_eq, beq_eq_false_iff_ne, bne_iff_ne, bne_eq_false_iff_eq, ne_eq] at hc123
              try simp only [toNat0, toNat1, toNat2, Int.toNat_natCast, sb_mk] at hc123
              try simp only [decide_eq_true_eq, decide_eq_false_iff_not, beq_iff_eq, beq_eq_false_iff_ne, bne_iff_ne, bne_eq_false_iff_eq, ne_eq] at hc126
              try simp only [toNat0, toNat1, toNat2, Int.toNat_natCast, sb_mk] at hc126
              simp (disch := omega) only [allP, sb_mk, sl1, toNat0, toNat1, toNat2, Int.toNat_natCast, List.take_length, List.take_succ_cons, List.drop_succ_cons, List.drop_zero, List.take_zero, List.length_cons, List.length_nil, List.getD_cons_zero, i64_wrap, i32_wrap, u8_wrap, u32_wrap, tdN, tmN, i64_min, i64_max, u8_min, u8_max, decide_eq_true_eq, decide_eq_false_iff_not, beq_iff_eq, beq_eq_false_iff_ne, bne_iff_ne, bne_eq_false_iff_eq, ne_eq, not_false_eq_true, and_true, true_and, Int.zero_sub, List.length_append, List.length_take, List.length_drop, UInt8.ofNat_toNat]
              repeat' apply And.intro
              all_goals first | exact True.intro | omega | with_reducible rfl | with_reducible assumption | with_reducible exact bytesOK1 c | (rw [h6 (by omega)]; rfl) | (with_reducible exact h7 (by omega) (by omega)) | (rw [h8 (by omega) (by omega) (by omega) (by omega) (by omega) (by omega)]; rfl) | exact h1 | exact ht | exact h2 | exact h3 | exact h4 | exact h5 | exact h6 | rfl
          | false =>
            have eR := form_6 l t a c more twice
            refine ⟨_, _, eR.trans (congrArg (fun r => some (r, _)) ?_), ?_⟩
            · try clear eR
              rfl
            · try clear eR
              try simp only [decide_eq_true_eq, decide_eq_false_iff_not, beq_iff_eq, beq_eq_false_iff_ne, bne_iff_ne, bne_eq_false_iff_eq, ne_eq] at hc59
              try simp only [toNat0, toNat1, toNat2, Int.toNat_natCast, sb_mk] at hc59
              try simp only [decide_eq_true_eq, decide_eq_false_iff_not, beq_iff_eq, beq_eq_false_iff_ne, bne_iff_ne, bne_eq_false_iff_eq, ne_eq] at hc62
              try simp only [toNat0, toNat1, toNat2, Int.toNat_natCast, sb_mk] at hc62
              try simp only [decide_eq_true_eq, decide_eq_false_iff_not, beq_iff_eq, beq_eq_false_iff_ne, bne_iff_ne, bne_eq_false_iff_eq, ne_eq] at hc115
              try simp only [toNat0, toNat1, toNat2, Int.toNat_natCast, sb_mk] at hc115
              try simp only [decide_eq_true_eq, decide_eq_false_iff_not, beq_iff_eq, beq_eq_false_iff_ne, bne_iff_ne, bne_eq_false_iff_eq, ne_eq] at hc123
              try simp only [toNat0, toNat1, toNat2, Int.toNat_natCast, sb_mk] at hc123
              try simp only [decide_eq_true_eq, decide_eq_false_iff_not, beq_iff_eq, beq_eq_false_iff_ne, bne_iff_ne, bne_eq_false_iff_eq, ne_eq] at hc126
              try simp only [toNat0, toNat1, toNat2, Int.toNat_natCast, sb_mk] at hc126
              simp (disch := omega) only [allP, sb_mk, sl1, toNat0, toNat1, toNat2, Int.toNat_natCast, List.take_length, List.take_succ_cons, List.drop_succ_cons, List.drop_zero, List.take_zero, List.length_cons, List.length_nil, List.getD_cons_zero, i64_wrap, i32_wrap, u8_wrap, u32_wrap, tdN, tmN, i64_min, i64_max, u8_min, u8_max, decide_eq_true_eq, decide_eq_false_iff_not, beq_iff_eq, beq_eq_false_iff_ne, bne_iff_ne, bne_eq_false_iff_eq, ne_eq, not_false_eq_true, and_true, true_and, Int.zero_sub, List.length_append, List.length_take, List.length_drop, UInt8.ofNat_toNat]
              repeat' apply And.intro
              all_goals first | exact True.intro | omega | with_reducible rfl | with_reducible assumption | with_reducible exact bytesOK1 c | (rw [h6 (by omega)]; rfl) | (with_reducible exact h7 (by omega) (by omega)) | (rw [h8 (by omega) (by omega) (by omega) (by omega) (by omega) (by omega)]; rfl) | exact h1 | exact ht | exact h2 | exact h3 | exact h4 | exact h5 | exact h6 | rfl
    | false =>
      cases hc79 : ((↑c.toNat : Int) == (101 : Int) : Bool) with
      | true =>
        cases hc115 : ((↑(l.getD (Int.toNat (0 : Int)) (0 : UInt8)).toNat : Int) != (45 : Int) : Bool) with
        | true =>
          cases hc123 : ((↑c.toNat : Int) != (45 : Int) : Bool) with
          | true =>
            have eR := form_7 l t a c more twice
            refine ⟨_, _, eR.trans (congrArg (fun r => some (r, _)) ?_), ?_⟩
            · try clear eR
              rfl
            · try clear eR
              try simp only [decide_eq_true_eq, decide_eq_false_iff_not, beq_iff_eq, beq_eq_false_iff_ne, bne_iff_ne, bne_eq_false_iff_eq, ne_eq] at hc59
              try simp only [toNat0, toNat1, toNat2, Int.toNat_natCast, sb_mk] at hc59
              try simp only [decide_eq_true_eq, decide_eq_false_iff_not, beq_iff_eq, beq_eq_false_iff_ne, bne_iff_ne, bne_eq_false_iff_eq, ne_eq] at hc62
              try simp only [toNat0, toNat1, toNat2, Int.toNat_natCast, sb_mk] at hc62
              try simp only [decide_eq_true_eq, decide_eq_false_iff_not, beq_iff_eq, beq_eq_false_iff_ne, bne_iff_ne, bne_eq_false_iff_eq, ne_eq] at hc79
              try simp only [toNat0, toNat1, toNat2, Int.toNat_natCast, sb_mk] at hc79
              try simp only [decide_eq_true_eq, decide_eq_false_iff_not, beq_iff_eq, beq_eq_false_iff_ne, bne_iff_ne, bne_eq_false_iff_eq, ne_eq] at hc115
              try simp only [toNat0, toNat1, toNat2, Int.toNat_natCast, sb_mk] at hc115
              try simp only [decide_eq_true_eq, decide_eq_false_iff_not, beq_iff_eq, beq_eq_false_iff_ne, bne_iff_ne, bne_eq_false_iff_eq, ne_eq] at hc123
              try simp only [toNat0, toNat1, toNat2, Int.toNat_natCast, sb_mk] at hc123
              simp (disch := omega) only [allP, sb_mk, sl1, toNat0, toNat1, toNat2, Int.toNat_natCast, List.take_length, List.take_succ_cons, List.drop_succ_cons, List.drop_zero, List.take_zero, List.length_cons, List.length_nil, List.getD_cons_zero, i64_wrap, i32_wrap, u8_wrap, u32_wrap, tdN, tmN, i64_min, i64_max, u8_min, u8_max, decide_eq_true_eq, decide_eq_false_iff_not, beq_iff_eq, beq_eq_false_iff_ne, bne_iff_ne, bne_eq_false_iff_eq, ne_eq, not_false_eq_true, and_true, true_and, Int.zero_sub, List.length_append, List.length_take, List.length_drop, UInt8.ofNat_toNat]
              repeat' apply And.intro
              all_goals first | exact True.intro | omega | with_reducible rfl | with_reducible assumption | with_reducible exact bytesOK1 c | (rw [h6 (by omega)]; rfl) | (with_reducible exact h7 (by omega) (by omega)) | (rw [h8 (by omega) (by omega) (by omega) (by omega) (by omega) (by omega)]; rfl) | exact h1 | exact ht | exact h2 | exact h3 | exact h4 | exact h5 | exact h6 | rfl
          | false =>
            cases hc126 : (decide ((↑a : Int) > (0 : Int)) : Bool) with
            | true =>
              have eR := form_8 l t a c more twice
              refine ⟨_, _, eR.trans (congrArg (fun r => some (r, _)) ?_), ?_⟩
              · try clear eR
                rfl
              · try clear eR
                try simp only [decide_eq_true_eq, decide_eq_false_iff_not, beq_iff_eq, beq_eq_false_iff_ne, bne_iff_ne, bne_eq_false_iff_eq, ne_eq] at hc59
                try simp only [toNat0, toNat1, toNat2, Int.toNat_natCast, sb_mk] at hc59
                try simp only [decide_eq_true_eq, decide_eq_false_iff_not, beq_iff_eq, beq_eq_false_iff_ne, bne_iff_ne, bne_eq_false_iff_eq, ne_eq] at hc62
                try simp only [toNat0, toNat1, toNat2, Int.toNat_natCast, sb_mk] at hc62
                try simp only [decide_eq_true_eq, decide_eq_false_iff_not, beq_iff_eq, beq_eq_false_iff_ne, bne_iff_ne, bne_eq_false_iff_eq, ne_eq] at hc79
                try simp only [toNat0, toNat1, toNat2, Int.toNat_natCast, sb_mk] at hc79
                try simp only [decide_eq_true_eq, decide_eq_false_iff_not, beq_iff_eq, beq_eq_false_iff_ne, bne_iff_ne, bne_eq_false_iff_eq, ne_eq] at hc115
                try simp only [toNat0, toNat1, toNat2, Int.toNat_natCast, sb_mk] at hc115
                try simp only [decide_eq_true_eq, decide_eq_false_iff_not, beq_iff_eq, beq_eq_false_iff_ne, bne_iff_ne, bne_eq_false_iff_eq, ne_eq] at hc123
                try simp only [toNat0, toNat1, toNat2, Int.toNat_natCast, sb_mk] at hc123
                try simp only [decide_eq_true_eq, decide_eq_false_iff_not, beq_iff_eq, beq_eq_false_iff_ne, bne_iff_ne, bne_eq_false_iff_eq, ne_eq] at hc126
                try simp only [toNat0, toNat1, toNat2, Int.toNat_natCast, sb_mk] at hc126
                simp (disch := omega) only [allP, sb_mk, sl1, toNat0, toNat1, toNat2, Int.toNat_natCast, List.take_length, List.take_succ_cons, List.drop_succ_cons, List.drop_zero, List.take_zero, List.length_cons, List.length_nil, List.getD_cons_zero, i64_wrap, i32_wrap, u8_wrap, u32_wrap, tdN, tmN, i64_min, i64_max, u8_min, u8_max, decide_eq_true_eq, decide_eq_false_iff_not, beq_iff_eq, beq_eq_false_iff_ne, bne_iff_ne, bne_eq_false_iff_eq, ne_eq, not_false_eq_true, and_true, true_and, Int.zero_sub, List.length_append, List.length_take, List.length_drop, UInt8.ofNat_toNat]
                repeat' apply And.intro
                all_goals first | exact True.intro | omega | with_reducible rfl | with_reducible assumption | with_reducible exact bytesOK1 c | (rw [h6 (by omega)]; rfl) | (with_reducible exact h7 (by omega) (by omega)) | (rw [h8 (by omega) (by omega) (by omega) (by omega) (by omega) (by omega)]; rfl) | exact h1 | exact ht | exact h2 | exact h3 | exact h4 | exact h5 | exact h6 | rfl
            | false =>
              have eR := form_9 l t a c more twice
              refine ⟨_, _, eR.trans (congrArg (fun r => some (r, _)) ?_), ?_⟩
              · try clear eR
                rfl
              · try clear eR
                try simp only [decide_eq_true_eq, decide_eq_false_iff_not, beq_iff_eq, beq_eq_false_iff_ne, bne_iff_ne, bne_eq_false_iff_eq, ne_eq] at hc59
                try simp only [toNat0, toNat1, toNat2, Int.toNat_natCast, sb_mk] at hc59
                try simp only [decide_eq_true_eq, decide_eq_false_iff_not, beq_iff_eq, beq_eq_false_iff_ne, bne_iff_ne, bne_eq_false_iff_eq, ne_eq] at hc62
                try simp only [toNat0, toNat1, toNat2, Int.toNat_natCast, sb_mk] at hc62
                try simp only [decide_eq_true_eq, decide_eq_false_iff_not, beq_iff_eq, beq_eq_false_iff_ne, bne_iff_ne, bne_eq_false_iff_eq, ne_eq] at hc79
                try simp only [toNat0, toNat1, toNat2, Int.toNat_natCast, sb_mk] at hc79
                try simp only [decide_eq_true_eq, decide_eq_false_iff_not, beq_iff_eq, beq_eq_false_iff_ne, bne_iff_ne, bne_eq_false_iff_eq, ne_eq] at hc115
                try simp only [toNat0, toNat1, toNat2, Int.toNat_natCast, sb_mk] at hc115
                try simp only [decide_eq_true_eq, decide_eq_false_iff_not, beq_iff_eq, beq_eq_false_iff_ne, bne_iff_ne, bne_eq_false_iff_eq, ne_eq] at hc123
                try simp only [toNat0, toNat1, toNat2, Int.toNat_natCast, sb_mk] at hc123
                try simp only [decide_eq_true_eq, decide_eq_false_iff_not, beq_iff_eq, beq_eq_false_iff_ne, bne_iff_ne, bne_eq_false_iff_eq, ne_eq] at hc126
                try simp only [toNat0, toNat1, toNat2, Int.toNat_natCast, sb_mk] at hc126
                simp (disch := omega) only [allP, sb_mk, sl1, toNat0, toNat1, toNat2, Int.toNat_natCast, List.take_length, List.take_succ_cons, List.drop_succ_cons, List.drop_zero, List.take_zero, List.length_cons, List.length_nil, List.getD_cons_zero, i64_wrap, i32_wrap, u8_wrap, u32_wrap, tdN, tmN, i64_min, i64_max, u8_min, u8_max, decide_eq_true_eq, decide_eq_false_iff_not, beq_iff_eq, beq_eq_false_iff_ne, bne_iff_ne, bne_eq_false_iff_eq, ne_eq, not_false_eq_true, and_true, true_and, Int.zero_sub, List.length_append, List.length_take, List.length_drop, UInt8.ofNat_toNat]
                repeat' apply And.intro
                all_goals first | exact True.intro | omega | with_reducible rfl | with_reducible assumption | with_reducible exact bytesOK1 c | (rw [h6 (by omega)]; rfl) | (with_reducible exact h7 (by omega) (by omega)) | (rw [h8 (by omega) (by omega) (by omega) (by omega) (by omega) (by omega)]; rfl) | exact h1 | exact ht | exact h2 | exact h3 | exact h4 | exact h5 | exact h6 | rfl
        | false =>
          cases hc123 : ((↑c.toNat : Int) != (45 : Int) : Bool) with
          | true =>
            have eR := form_10 l t a c more twice
            refine ⟨_, _, eR.trans (congrArg (fun r => some (r, _)) ?_), ?_⟩
            · try clear eR
              rfl
            · try clear eR
              try simp only [decide_eq_true_eq, decide_eq_false_iff_not, beq_iff_eq, beq_eq_false_iff_ne, bne_iff_ne, bne_eq_false_iff_eq, ne_eq] at hc59
              try simp only [toNat0, toNat1, toNat2, Int.toNat_natCast, sb_mk] at hc59
              try simp only [decide_eq_true_eq, decide_eq_false_iff_not, beq_iff_eq, beq_eq_false_iff_ne, bne_iff_ne, bne_eq_false_iff_eq, ne_eq] at hc62
              try simp only [toNat0, toNat1, toNat2, Int.toNat_natCast, sb_mk] at hc62
              try simp only [decide_eq_true_eq, decide_eq_false_iff_not, beq_iff_eq, beq_eq_false_iff_ne, bne_iff_ne, bne_eq_false_iff_eq, ne_eq] at hc79
              try simp only [toNat0, toNat1, toNat2, Int.toNat_natCast, sb_mk] at hc79
              try simp only [decide_eq_true_eq, decide_eq_false_iff_not, beq_iff_eq, beq_eq_false_iff_ne, bne_iff_ne, bne_eq_false_iff_eq, ne_eq] at hc115
              try simp only [toNat0, toNat1, toNat2, Int.toNat_natCast, sb_mk] at hc115
              try simp only [decide_eq_true_eq, decide_eq_false_iff_not, beq_iff_eq, beq_eq_false_iff_ne, bne_iff_ne, bne_eq_false_iff_eq, ne_eq] at hc123
              try simp only [toNat0, toNat1, toNat2, Int.toNat_natCast, sb_mk] at hc123
              simp (disch := omega) only [allP, sb_mk, sl1, toNat0, toNat1, toNat2, Int.toNat_natCast, List.take_length, List.take_succ_cons, List.drop_succ_cons, List.drop_zero, List.take_zero, List.length_cons, List.length_nil, List.getD_cons_zero, i64_wrap, i32_wrap, u8_wrap, u32_wrap, tdN, tmN, i64_min, i64_max, u8_min, u8_max, decide_eq_true_eq, decide_eq_false_iff_not, beq_iff_eq, beq_eq_false_iff_ne, bne_iff_ne, bne_eq_false_iff_eq, ne_eq, not_false_eq_true, and_true, true_and, Int.zero_sub, List.length_append, List.length_take, List.length_drop, UInt8.ofNat_toNat]
              repeat' apply And.intro
              all_goals first | exact True.intro | omega | with_reducible rfl | with_reducible assumption | with_reducible exact bytesOK1 c | (rw [h6 (by omega)]; rfl) | (with_reducible exact h7 (by omega) (by omega)) | (rw [h8 (by omega) (by omega) (by omega) (by omega) (by omega) (by omega)]; rfl) | exact h1 | exact ht | exact h2 | exact h3 | exact h4 | exact h5 | exact h6 | rfl
          | false =>
            cases hc126 : (decide ((↑a : Int) > (0 : Int)) : Bool) with
            | true =>
              have eR := form_11 l t a c more twice
              refine ⟨_, _, eR.trans (congrArg (fun r => some (r, _)) ?_), ?_⟩
              · try clear eR
                rfl
              · try clear eR
                try simp only [decide_eq_true_eq, decide_eq_false_iff_not, beq_iff_eq, beq_eq_false_iff_ne, bne_iff_ne, bne_eq_false_iff_eq, ne_eq] at hc59
                try simp only [toNat0, toNat1, toNat2, Int.toNat_natCast, sb_mk] at hc59
                try simp only [decide_eq_true_eq, decide_eq_false_iff_not, beq_iff_eq, beq_eq_false_iff_ne, bne_iff_ne, bne_eq_false_iff_eq, ne_eq] at hc62
                try simp only [toNat0, toNat1, toNat2, Int.toNat_natCast, sb_mk] at hc62
                try simp only [decide_eq_true_eq, decide_eq_false_iff_not, beq_iff_eq, beq_eq_false_iff_ne, bne_iff_ne, bne_eq_false_iff_eq, ne_eq] at hc79
                try simp only [toNat0, toNat1, toNat2, Int.toNat_natCast, sb_mk] at hc79
                try simp only [decide_eq_true_eq, decide_eq_false_iff_not, beq_iff_eq, beq_eq_false_iff_ne, bne_iff_ne, bne_eq_false_iff_eq, ne_eq] at hc115
                try simp only [toNat0, toNat1, toNat2, Int.toNat_natCast, sb_mk] at hc115
                try simp only [decide_eq_true_eq, decide_eq_false_iff_not, beq_iff_eq, beq_eq_false_iff_ne, bne_iff_ne, bne_eq_false_iff_eq, ne_eq] at hc123
                try simp only [toNat0, toNat1, toNat2, Int.toNat_natCast, sb_mk] at hc123
                try simp only [decide_eq_true_eq, decide_eq_false_iff_not, beq_iff_eq, beq_eq_false_iff_ne, bne_iff_ne, bne_eq_false_iff_eq, ne_eq] at hc126
                try simp only [toNat0, toNat1, toNat2, Int.toNat_natCast, sb_mk] at hc126
                simp (disch := omega) only [allP, sb_mk, sl1, toNat0, toNat1, toNat2, Int.toNat_natCast, List.take_length, List.take_succ_cons, List.drop_succ_cons, List.drop_zero, List.take_zero, List.length_cons, List.length_nil, List.getD_cons_zero, i64_wrap, i32_wrap, u8_wrap, u32_wrap, tdN, tmN, i64_min, i64_max, u8_min, u8_max, decide_eq_true_eq, decide_eq_false_iff_not, beq_iff_eq, beq_eq_false_iff_ne, bne_iff_ne, bne_eq_false_iff_eq, ne_eq, not_false_eq_true, and_true, true_and, Int.zero_sub, List.length_append, List.length_take, List.length_drop, UInt8.ofNat_toNat]
                repeat' apply And.intro
                all_goals first | exact True.intro | omega | with_reducible rfl | with_reducible assumption | with_reducible exact bytesOK1 c | (rw [h6 (by omega)]; rfl) | (with_reducible exact h7 (by omega) (by omega)) | (rw [h8 (by omega) (by omega) (by omega) (by omega) (by omega) (by omega)]; rfl) | exact h1 | exact ht | exact h2 | exact h3 | exact h4 | exact h5 | exact h6 | rfl
            | false =>
              have eR := form_12 l t a c more twice
              refine ⟨_, _, eR.trans (congrArg (fun r => some (r, _)) ?_), ?_⟩
              · try clear eR
                rfl
              · try clear eR
                try simp only [decide_eq_true_eq, decide_eq_false_iff_not, beq_iff_eq, beq_eq_false_iff_ne, bne_iff_ne, bne_eq_false_iff_eq, ne_eq] at hc59
                try simp only [toNat0, toNat1, toNat2, Int.toNat_natCast, sb_mk] at hc59
                try simp only [decide_eq_true_eq, decide_eq_false_iff_not, beq_iff_eq, beq_eq_false_iff_ne, bne_iff_ne, bne_eq_false_iff_eq, ne_eq] at hc62
                try simp only [toNat0, toNat1, toNat2, Int.toNat_natCast, sb_mk] at hc62
                try simp only [decide_eq_true_eq, decide_eq_false_iff_not, beq_iff_eq, beq_eq_false_iff_ne, bne_iff_ne, bne_eq_false_iff_eq, ne_eq] at hc79
                try simp only [toNat0, toNat1, toNat2, Int.toNat_natCast, sb_mk] at hc79
                try simp only [decide_eq_true_eq, decide_eq_false_iff_not, beq_iff_eq, beq_eq_false_iff_ne, bne_iff_ne, bne_eq_false_iff_eq, ne_eq] at hc115
                try simp only [toNat0, toNat1, toNat2, Int.toNat_natCast, sb_mk] at hc115
                try simp only [decide_eq_true_eq, decide_eq_false_iff_not, beq_iff_eq, beq_eq_false_iff_ne, bne_iff_ne, bne_eq_false_iff_eq, ne_eq] at hc123
                try simp only [toNat0, toNat1, toNat2, Int.toNat_natCast, sb_mk] at hc123
                try simp only [decide_eq_true_eq, decide_eq_false_iff_not, beq_iff_eq, beq_eq_false_iff_ne, bne_iff_ne, bne_eq_false_iff_eq, ne_eq] at hc126
                try simp only [toNat0, toNat1, toNat2, Int.toNat_natCast, sb_mk] at hc126
                simp (disch := omega) only [allP, sb_mk, sl1, toNat0, toNat1, toNat2, Int.toNat_natCast, List.take_length, List.take_succ_cons, List.drop_succ_cons, List.drop_zero, List.take_zero, List.length_cons, List.length_nil, List.getD_cons_zero, i64_wrap, i32_wrap, u8_wrap, u32_wrap, tdN, tmN, i64_min, i64_max, u8_min, u8_max, decide_eq_true_eq, decide_eq_false_iff_not, beq_iff_eq, beq_eq_false_iff_ne, bne_iff_ne, bne_eq_false_iff_eq, ne_eq, not_false_eq_true, and_true, true_and, Int.zero_sub, List.length_append, List.length_take, List.length_drop, UInt8.ofNat_toNat]
                repeat' apply And.intro
                all_goals first | exact True.intro | omega | with_reducible rfl | with_reducible assumption | with_reducible exact bytesOK1 c | (rw [h6 (by omega)]; rfl) | (with_reducible exact h7 (by omega) (by omega)) | (rw [h8 (by omega) (by omega) (by omega) (by omega) (by omega) (by omega)]; rfl) | exact h1 | exact ht | exact h2 | exact h3 | exact h4 | exact h5 | exact h6 | rfl
      | false =>
        cases hc83 : ((↑c.toNat : Int) == (69 : Int) : Bool) with
        | true =>
          cases hc115 : ((↑(l.getD (Int.toNat (0 : Int)) (0 : UInt8)).toNat : Int) != (45 : Int) : Bool) with
          | true =>
            cases hc123 : ((↑c.toNat : Int) != (45 : Int) : Bool) with
            | true =>
              have eR := form_13 l t a c more twice
              refine ⟨_, _, eR.trans (congrArg (fun r => some (r, _)) ?_), ?_⟩
              · try clear eR
                rfl
              · try clear eR
                try simp only [decide_eq_true_eq, decide_eq_false_iff_not, beq_iff_eq, beq_eq_false_iff_ne, bne_iff_ne, bne_eq_false_iff_eq, ne_eq] at hc59
                try simp only [toNat0, toNat1, toNat2, Int.toNat_natCast, sb_mk] at hc59
                try simp only [decide_eq_true_eq, decide_eq_false_iff_not, beq_iff_eq, beq_eq_false_iff_ne, bne_iff_ne, bne_eq_false_iff_eq, ne_eq] at hc62
                try simp only [toNat0, toNat1, toNat2, Int.toNat_natCast, sb_mk] at hc62
                try simp only [decide_eq_true_eq, decide_eq_false_iff_not, beq_iff_eq, beq_eq_false_iff_ne, bne_iff_ne, bne_eq_false_iff_eq, ne_eq] at hc79
                try simp only [toNat0, toNat1, toNat2, Int.toNat_natCast, sb_mk] at hc79
                try simp only [decide_eq_true_eq, decide_eq_false_iff_not, beq_iff_eq, beq_eq_false_iff_ne, bne_iff_ne, bne_eq_false_iff_eq, ne_eq] at hc83
                try simp only [toNat0, toNat1, toNat2, Int.toNat_natCast, sb_mk] at hc83
                try simp only [decide_eq_true_eq, decide_eq_false_iff_not, beq_iff_eq, beq_eq_false_iff_ne, bne_iff_ne, bne_eq_false_iff_eq, ne_eq] at hc115
                try simp only [toNat0, toNat1, toNat2, Int.toNat_natCast, sb_mk] at hc115
                try simp only [decide_eq_true_eq, decide_eq_false_iff_not, beq_iff_eq, beq_eq_false_iff_ne, bne_iff_ne, bne_eq_false_iff_eq, ne_eq] at hc123
                try simp only [toNat0, toNat1, toNat2, Int.toNat_natCast, sb_mk] at hc123
                simp (disch := omega) only [allP, sb_mk, sl1, toNat0, toNat1, toNat2, Int.toNat_natCast, List.take_length, List.take_succ_cons, List.drop_succ_cons, List.drop_zero, List.take_zero, List.length_cons, List.length_nil, List.getD_cons_zero, i64_wrap, i32_wrap, u8_wrap, u32_wrap, tdN, tmN, i64_min, i64_max, u8_min, u8_max, decide_eq_true_eq, decide_eq_false_iff_not, beq_iff_eq, beq_eq_false_iff_ne, bne_iff_ne, bne_eq_false_iff_eq, ne_eq, not_false_eq_true, and_true, true_and, Int.zero_sub, List.length_append, List.length_take, List.length_drop, UInt8.ofNat_toNat]
                repeat' apply And.intro
                all_goals first | exact True.intro | omega | with_reducible rfl | with_reducible assumption | with_reducible exact bytesOK1 c | (rw [h6 (by omega)]; rfl) | (with_reducible exact h7 (by omega) (by omega)) | (rw [h8 (by omega) (by omega) (by omega) (by omega) (by omega) (by omega)]; rfl) | exact h1 | exact ht | exact h2 | exact h3 | exact h4 | exact h5 | exact h6 | rfl
            | false =>
              cases hc126 : (decide ((↑a : Int) > (0 : Int)) : Bool) with
              | true =>
                have eR := form_14 l t a c more twice
                refine ⟨_, _, eR.trans (congrArg (fun r => some (r, _)) ?_), ?_⟩
                · try clear eR
                  rfl
                · try clear eR
                  try simp only [decide_eq_true_eq, decide_eq_false_iff_not, beq_iff_eq, beq_eq_false_iff_ne, bne_iff_ne, bne_eq_false_iff_eq, ne_eq] at hc59
                  try simp only [toNat0, toNat1, toNat2, Int.toNat_natCast, sb_mk] at hc59
                  try simp only [decide_eq_true_eq, decide_eq_false_iff_not, beq_iff_eq, beq_eq_false_iff_ne, bne_iff_ne, bne_eq_false_iff_eq, ne_eq] at hc62
                  try simp only [toNat0, toNat1, toNat2, Int.toNat_natCast, sb_mk] at hc62
                  try simp only [decide_eq_true_eq, decide_eq_false_iff_not, beq_iff_eq, beq_eq_false_iff_ne, bne_iff_ne, bne_eq_false_iff_eq, ne_eq] at hc79
                  try simp only [toNat0, toNat1, toNat2, Int.toNat_natCast, sb_mk] at hc79
                  try simp only [decide_eq_true_eq, decide_eq_false_iff_not, beq_iff_eq, beq_eq_false_iff_ne, bne_iff_ne, bne_eq_false_iff_eq, ne_eq] at hc83
                  try simp only [toNat0, toNat1, toNat2, Int.toNat_natCast, sb_mk] at hc83
                  try simp only [decide_eq_true_eq, decide_eq_false_iff_not, beq_iff_eq, beq_eq_false_iff_ne, bne_iff_ne, bne_eq_false_iff_eq, ne_eq] at hc115
                  try simp only [toNat0, toNat1, toNat2, Int.toNat_natCast, sb_mk] at hc115
                  try simp only [decide_eq_true_eq, decide_eq_false_iff_not, beq_iff_eq, beq_eq_false_iff_ne, bne_iff_ne, bne_eq_false_iff_eq, ne_eq] at hc123
                  try simp only [toNat0, toNat1, toNat2, Int.toNat_natCast, sb_mk] at hc123
                  try simp only [decide_eq_true_eq, decide_eq_false_iff_not, beq_iff_eq, beq_eq_false_iff_ne, bne_iff_ne, bne_eq_false_iff_eq, ne_eq] at hc126
                  try simp only [toNat0, toNat1, toNat2, Int.toNat_natCast, sb_mk] at hc126
                  simp (disch := omega) only [allP, sb_mk, sl1, toNat0, toNat1, toNat2, Int.toNat_natCast, List.take_length, List.take_succ_cons, List.drop_succ_cons, List.drop_zero, List.take_zero, List.length_cons, List.length_nil, List.getD_cons_zero, i64_wrap, i32_wrap, u8_wrap, u32_wrap, tdN, tmN, i64_min, i64_max, u8_min, u8_max, decide_eq_true_eq, decide_eq_false_iff_not, beq_iff_eq, beq_eq_false_iff_ne, bne_iff_ne, bne_eq_false_iff_eq, ne_eq, not_false_eq_true, and_true, true_and, Int.zero_sub, List.length_append, List.length_take, List.length_drop, UInt8.ofNat_toNat]
                  repeat' apply And.intro
                  all_goals first | exact True.intro | omega | with_reducible rfl | with_reducible assumption | with_reducible exact bytesOK1 c | (rw [h6 (by omega)]; rfl) | (with_reducible exact h7 (by omega) (by omega)) | (rw [h8 (by omega) (by omega) (by omega) (by omega) (by omega) (by omega)]; rfl) | exact h1 | exact ht | exact h2 | exact h3 | exact h4 | exact h5 | exact h6 | rfl
              | false =>
                have eR := form_15 l t a c more twice
                refine ⟨_, _, eR.trans (congrArg (fun r => some (r, _)) ?_), ?_⟩
                · try clear eR
                  rfl
                · try clear eR
                  try simp only [decide_eq_true_eq, decide_eq_false_iff_not, beq_iff_eq, beq_eq_false_iff_ne, bne_iff_ne, bne_eq_false_iff_eq, ne_eq] at hc59
                  try simp only [toNat0, toNat1, toNat2, Int.toNat_natCast, sb_mk] at hc59
                  try simp only [decide_eq_true_eq, decide_eq_false_iff_not, beq_iff_eq, beq_eq_false_iff_ne, bne_iff_ne, bne_eq_false_iff_eq, ne_eq] at hc62
                  try simp only [toNat0, toNat1, toNat2, Int.toNat_natCast, sb_mk] at hc62
                  try simp only [decide_eq_true_eq, decide_eq_false_iff_not, beq_iff_eq, beq_eq_false_iff_ne, bne_iff_ne, bne_eq_false_iff_eq, ne_eq] at hc79
                  try simp only [toNat0, toNat1, toNat2, Int.toNat_natCast, sb_mk] at hc79
                  try simp only [decide_eq_true_eq, decide_eq_false_iff_not, beq_iff_eq, beq_eq_false_iff_ne, bne_iff_ne, bne_eq_false_iff_eq, ne_eq] at hc83
                  try simp only [toNat0, toNat1, toNat2, Int.toNat_natCast, sb_mk] at hc83
                  try simp only [decide_eq_true_eq, decide_eq_false_iff_not, beq_iff_eq, beq_eq_false_iff_ne, bne_iff_ne, bne_eq_false_iff_eq, ne_eq] at hc115
                  try simp only [toNat0, toNat1, toNat2, Int.toNat_natCast, sb_mk] at hc115
                  try simp only [decide_eq_true_eq, decide_eq_false_iff_not, beq_iff_eq, beq_eq_false_iff_ne, bne_iff_ne, bne_eq_false_iff_eq, ne_eq] at hc123
                  try simp only [toNat0, toNat1, toNat2, Int.toNat_natCast, sb_mk] at hc123
                  try simp only [decide_eq_true_eq, decide_eq_false_iff_not, beq_iff_eq, beq_eq_false_iff_ne, bne_iff_ne, bne_eq_false_iff_eq, ne_eq] at hc126
                  try simp only [toNat0, toNat1, toNat2, Int.toNat_natCast, sb_mk] at hc126
                  simp (disch := omega) only [allP, sb_mk, sl1, toNat0, toNat1, toNat2, Int.toNat_natCast, List.take_length, List.take_succ_cons, List.drop_succ_cons, List.drop_zero, List.take_zero, List.length_cons, List.length_nil, List.getD_cons_zero, i64_wrap, i32_wrap, u8_wrap, u32_wrap, tdN, tmN, i64_min, i64_max, u8_min, u8_max, decide_eq_true_eq, decide_eq_false_iff_not, beq_iff_eq, beq_eq_false_iff_ne, bne_iff_ne, bne_eq_false_iff_eq, ne_eq, not_false_eq_true, and_true, true_and, Int.zero_sub, List.length_append, List.length_take, List.length_drop, UInt8.ofNat_toNat]
                  repeat' apply And.intro
                  all_goals first | exact True.intro | omega | with_reducible rfl | with_reducible assumption | with_reducible exact bytesOK1 c | (rw [h6 (by omega)]; rfl) | (with_reducible exact h7 (by omega) (by omega)) | (rw [h8 (by omega) (by omega) (by omega) (by omega) (by omega) (by omega)]; rfl) | exact h1 | exact ht | exact h2 | exact h3 | exact h4 | exact h5 | exact h6 | rfl
          | false =>
            cases hc123 : ((↑c.toNat : Int) != (45 : Int) : Bool) with
            | true =>
              have eR := form_16 l t a c more twice
              refine ⟨_, _, eR.trans (congrArg (fun r => some (r, _)) ?_), ?_⟩
              · try clear eR
                rfl
              · try clear eR
                try simp only [decide_eq_true_eq, decide_eq_false_iff_not, beq_iff_eq, beq_eq_false_iff_ne, bne_iff_ne, bne_eq_false_iff_eq, ne_eq] at hc59
                try simp only [toNat0, toNat1, toNat2, Int.toNat_natCast, sb_mk] at hc59
                try simp only [decide_eq_true_eq, decide_eq_false_iff_not, beq_iff_eq, beq_eq_false_iff_ne, bne_iff_ne, bne_eq_false_iff_eq, ne_eq] at hc62
                try simp only [toNat0, toNat1, toNat2, Int.toNat_natCast, sb_mk] at hc62
                try simp only [decide_eq_true_eq, decide_eq_false_iff_not, beq_iff_eq, beq_eq_false_iff_ne, bne_iff_ne, bne_eq_false_iff_eq, ne_eq] at hc79
                try simp only [toNat0, toNat1, toNat2, Int.toNat_natCast, sb_mk] at hc79
                try simp only [decide_eq_true_eq, decide_eq_false_iff_not, beq_iff_eq, beq_eq_false_iff_ne, bne_iff_ne, bne_eq_false_iff_eq, ne_eq] at hc83
                try simp only [toNat0, toNat1, toNat2, Int.toNat_natCast, sb_mk] at hc83
                try simp only [decide_eq_true_eq, decide_eq_false_iff_not, beq_iff_eq, beq_eq_false_iff_ne, bne_iff_ne, bne_eq_false_iff_eq, ne_eq] at hc115
                try simp only [toNat0, toNat1, toNat2, Int.toNat_natCast, sb_mk] at hc115
                try simp only [decide_eq_true_eq, decide_eq_false_iff_not, beq_iff_eq, beq_eq_false_iff_ne, bne_iff_ne, bne_eq_false_iff_eq, ne_eq] at hc123
                try simp only [toNat0, toNat1, toNat2, Int.toNat_natCast, sb_mk] at hc123
                simp (disch := omega) only [allP, sb_mk, sl1, toNat0, toNat1, toNat2, Int.toNat_natCast, List.take_length, List.take_succ_cons, List.drop_succ_cons, List.drop_zero, List.take_zero, List.length_cons, List.length_nil, List.getD_cons_zero, i64_wrap, i32_wrap, u8_wrap, u32_wrap, tdN, tmN, i64_min, i64_max, u8_min, u8_max, decide_eq_true_eq, decide_eq_false_iff_not, beq_iff_eq, beq_eq_false_iff_ne, bne_iff_ne, bne_eq_false_iff_eq, ne_eq, not_false_eq_true, and_true, true_and, Int.zero_sub, List.length_append, List.length_take, List.length_drop, UInt8.ofNat_toNat]
                repeat' apply And.intro
                all_goals first | exact True.intro | omega | with_reducible rfl | with_reducible assumption | with_reducible exact bytesOK1 c | (rw [h6 (by omega)]; rfl) | (with_reducible exact h7 (by omega) (by omega)) | (rw [h8 (by omega) (by omega) (by omega) (by omega) (by omega) (by omega)]; rfl) | exact h1 | exact ht | exact h2 | exact h3 | exact h4 | exact h5 | exact h6 | rfl
            | false =>
              cases hc126 : (decide ((↑a : Int) > (0 : Int)) : Bool) with
              | true =>
                have eR := form_17 l t a c more twice
                refine ⟨_, _, eR.trans (congrArg (fun r => some (r, _)) ?_), ?_⟩
                · try clear eR
                  rfl
                · try clear eR
                  try simp only [decide_eq_true_eq, decide_eq_false_iff_not, beq_iff_eq, beq_eq_false_iff_ne, bne_iff_ne, bne_eq_false_iff_eq, ne_eq] at hc59
                  try simp only [toNat0, toNat1, toNat2, Int.toNat_natCast, sb_mk] at hc59
                  try simp only [decide_eq_true_eq, decide_eq_false_iff_not, beq_iff_eq, beq_eq_false_iff_ne, bne_iff_ne, bne_eq_false_iff_eq, ne_eq] at hc62
                  try simp only [toNat0, toNat1, toNat2, Int.toNat_natCast, sb_mk] at hc62
                  try simp only [decide_eq_true_eq, decide_eq_false_iff_not, beq_iff_eq, beq_eq_false_iff_ne, bne_iff_ne, bne_eq_false_iff_eq, ne_eq] at hc79
                  try simp only [toNat0, toNat1, toNat2, Int.toNat_natCast, sb_mk] at hc79
                  try simp only [decide_eq_true_eq, decide_eq_false_iff_not, beq_iff_eq, beq_eq_false_iff_ne, bne_iff_ne, bne_eq_false_iff_eq, ne_eq] at hc83
                  try simp only [toNat0, toNat1, toNat2, Int.toNat_natCast, sb_mk] at hc83
                  try simp only [decide_eq_true_eq, decide_eq_false_iff_not, beq_iff_eq, beq_eq_false_iff_ne, bne_iff_ne, bne_eq_false_iff_eq, ne_eq] at hc115
                  try simp only [toNat0, toNat1, toNat2, Int.toNat_natCast, sb_mk] at hc115
                  try simp only [decide_eq_true_eq, decide_eq_false_iff_not, beq_iff_eq, beq_eq_false_iff_ne, bne_iff_ne, bne_eq_false_iff_eq, ne_eq] at hc123
                  try simp only [toNat0, toNat1, toNat2, Int.toNat_natCast, sb_mk] at hc123
                  try simp only [decide_eq_true_eq, decide_eq_false_iff_not, beq_iff_eq, beq_eq_false_iff_ne, bne_iff_ne, bne_eq_false_iff_eq, ne_eq] at hc126
                  try simp only [toNat0, toNat1, toNat2, Int.toNat_natCast, sb_mk] at hc126
                  simp (disch := omega) only [allP, sb_mk, sl1, toNat0, toNat1, toNat2, Int.toNat_natCast, List.take_length, List.take_succ_cons, List.drop_succ_cons, List.drop_zero, List.take_zero, List.length_cons, List.length_nil, List.getD_cons_zero, i64_wrap, i32_wrap, u8_wrap, u32_wrap, tdN, tmN, i64_min, i64_max, u8_min, u8_max, decide_eq_true_eq, decide_eq_false_iff_not, beq_iff_eq, beq_eq_false_iff_ne, bne_iff_ne, bne_eq_false_iff_eq, ne_eq, not_false_eq_true, and_true, true_and, Int.zero_sub, List.length_append, List.length_take, List.length_drop, UInt8.ofNat_toNat]
                  repeat' apply And.intro
                  all_goals first | exact True.intro | omega | with_reducible rfl | with_reducible assumption | with_reducible exact bytesOK1 c | (rw [h6 (by omega)]; rfl) | (with_reducible exact h7 (by omega) (by omega)) | (rw [h8 (by omega) (by omega) (by omega) (by omega) (by omega) (by omega)]; rfl) | exact h1 | exact ht | exact h2 | exact h3 | exact h4 | exact h5 | exact h6 | rfl
              | false =>
                have eR := form_18 l t a c more twice
                refine ⟨_, _, eR.trans (congrArg (fun r => some (r, _)) ?_), ?_⟩
                · try clear eR
                  rfl
                · try clear eR
                  try simp only [decide_eq_true_eq, decide_eq_false_iff_not, beq_iff_eq, beq_eq_false_iff_ne, bne_iff_ne, bne_eq_false_iff_eq, ne_eq] at hc59
                  try simp only [toNat0, toNat1, toNat2, Int.toNat_natCast, sb_mk] at hc59
                  try simp only [decide_eq_true_eq, decide_eq_false_iff_not, beq_iff_eq, beq_eq_false_iff_ne, bne_iff_ne, bne_eq_false_iff_eq, ne_eq] at hc62
                  try simp only [toNat0, toNat1, toNat2, Int.toNat_natCast, sb_mk] at hc62
                  try simp only [decide_eq_true_eq, decide_eq_false_iff_not, beq_iff_eq, beq_eq_false_iff_ne, bne_iff_ne, bne_eq_false_iff_eq, ne_eq] at hc79
                  try simp only [toNat0, toNat1, toNat2, Int.toNat_natCast, sb_mk] at hc79
                  try simp only [decide_eq_true_eq, decide_eq_false_iff_not, beq_iff_eq, beq_eq_false_iff_ne, bne_iff_ne, bne_eq_false_iff_eq, ne_eq] at hc83
                  try simp only [toNat0, toNat1, toNat2, Int.toNat_natCast, sb_mk] at hc83
                  try simp only [decide_eq_true_eq, decide_eq_false_iff_not, beq_iff_eq, beq_eq_false_iff_ne, bne_iff_ne, bne_eq_false_iff_eq, ne_eq] at hc115
                  try simp only [toNat0, toNat1, toNat2, Int.toNat_natCast, sb_mk] at hc115
                  try simp only [decide_eq_true_eq, decide_eq_false_iff_not, beq_iff_eq, beq_eq_false_iff_ne, bne_iff_ne, bne_eq_false_iff_eq, ne_eq] at hc123
                  try simp only [toNat0, toNat1, toNat2, Int.toNat_natCast, sb_mk] at hc123
                  try simp only [decide_eq_true_eq, decide_eq_false_iff_not, beq_iff_eq, beq_eq_false_iff_ne, bne_iff_ne, bne_eq_false_iff_eq, ne_eq] at hc126
                  try simp only [toNat0, toNat1, toNat2, Int.toNat_natCast, sb_mk] at hc126
                  simp (disch := omega) only [allP, sb_mk, sl1, toNat0, toNat1, toNat2, Int.toNat_natCast, List.take_length, List.take_succ_cons, List.drop_succ_cons, List.drop_zero, List.take_zero, List.length_cons, List.length_nil, List.getD_cons_zero, i64_wrap, i32_wrap, u8_wrap, u32_wrap, tdN, tmN, i64_min, i64_max, u8_min, u8_max, decide_eq_true_eq, decide_eq_false_iff_not, beq_iff_eq, beq_eq_false_iff_ne, bne_iff_ne, bne_eq_false_iff_eq, ne_eq, not_false_eq_true, and_true, true_and, Int.zero_sub, List.length_append, List.length_take, List.length_drop, UInt8.ofNat_toNat]
                  repeat' apply And.intro
                  all_goals first | exact True.intro | omega | with_reducible rfl | with_reducible assumption | with_reducible exact bytesOK1 c | (rw [h6 (by omega)]; rfl) | (with_reducible exact h7 (by omega) (by omega)) | (rw [h8 (by omega) (by omega) (by omega) (by omega) (by omega) (by omega)]; rfl) | exact h1 | exact ht | exact h2 | exact h3 | exact h4 | exact h5 | exact h6 | rfl
        | false =>
          have eR := form_19 l t a c more twice
          refine ⟨_, _, eR.trans (congrArg (fun r => some (r, _)) ?_), ?_⟩
          · try clear eR
            rfl
          · try clear eR
            try simp only [decide_eq_true_eq, decide_eq_false_iff_not, beq_iff_eq, beq_eq_false_iff_ne, bne_iff_ne, bne_eq_false_iff_eq, ne_eq] at hc59
            try simp only [toNat0, toNat1, toNat2, Int.toNat_natCast, sb_mk] at hc59
            try simp only [decide_eq_true_eq, decide_eq_false_iff_not, beq_iff_eq, beq_eq_false_iff_ne, bne_iff_ne, bne_eq_false_iff_eq, ne_eq] at hc62
            try simp only [toNat0, toNat1, toNat2, Int.toNat_natCast, sb_mk] at hc62
            try simp only [decide_eq_true_eq, decide_eq_false_iff_not, beq_iff_eq, beq_eq_false_iff_ne, bne_iff_ne, bne_eq_false_iff_eq, ne_eq] at hc79
            try simp only [toNat0, toNat1, toNat2, Int.toNat_natCast, sb_mk] at hc79
            try simp only [decide_eq_true_eq, decide_eq_false_iff_not, beq_iff_eq, beq_eq_false_iff_ne, bne_iff_ne, bne_eq_false_iff_eq, ne_eq] at hc83
            try simp only [toNat0, toNat1, toNat2, Int.toNat_natCast, sb_mk] at hc83
            simp (disch := omega) only [allP, sb_mk, sl1, toNat0, toNat1, toNat2, Int.toNat_natCast, List.take_length, List.take_succ_cons, List.drop_succ_cons, List.drop_zero, List.take_zero, List.length_cons, List.length_nil, List.getD_cons_zero, i64_wrap, i32_wrap, u8_wrap, u32_wrap, tdN, tmN, i64_min, i64_max, u8_min, u8_max, decide_eq_true_eq, decide_eq_false_iff_not, beq_iff_eq, beq_eq_false_iff_ne, bne_iff_ne, bne_eq_false_iff_eq, ne_eq, not_false_eq_true, and_true, true_and, Int.zero_sub, List.length_append, List.length_take, List.length_drop, UInt8.ofNat_toNat]
            repeat' apply And.intro
            all_goals first | exact True.intro | omega | with_reducible rfl | with_reducible assumption | with_reducible exact bytesOK1 c | (rw [h6 (by omega)]; rfl) | (with_reducible exact h7 (by omega) (by omega)) | (rw [h8 (by omega) (by omega) (by omega) (by omega) (by omega) (by omega)]; rfl) | exact h1 | exact ht | exact h2 | exact h3 | exact h4 | exact h5 | exact h6 | rfl
  | false =>
    cases hc67 : ((↑c.toNat : Int) == (46 : Int) : Bool) with
    | true =>
      cases hc115 : ((↑(l.getD (Int.toNat (0 : Int)) (0 : UInt8)).toNat : Int) != (45 : Int) : Bool) with
      | true =>
        cases hc123 : ((↑c.toNat : Int) != (45 : Int) : Bool) with
        | true =>
          have eR := form_20 l t a c more twice
          refine ⟨_, _, eR.trans (congrArg (fun r => some (r, _)) ?_), ?_⟩
          · try clear eR
            rfl
          · try clear eR
            try simp only [decide_eq_true_eq, decide_eq_false_iff_not, beq_iff_eq, beq_eq_false_iff_ne, bne_iff_ne, bne_eq_false_iff_eq, ne_eq] at hc59
            try simp only [toNat0, toNat1, toNat2, Int.toNat_natCast, sb_mk] at hc59
            try simp only [decide_eq_true_eq, decide_eq_false_iff_not, beq_iff_eq, beq_eq_false_iff_ne, bne_iff_ne, bne_eq_false_iff_eq, ne_eq] at hc67
            try simp only [toNat0, toNat1, toNat2, Int.toNat_natCast, sb_mk] at hc67
            try simp only [decide_eq_true_eq, decide_eq_false_iff_not, beq_iff_eq, beq_eq_false_iff_ne, bne_iff_ne, bne_eq_false_iff_eq, ne_eq] at hc115
            try simp only [toNat0, toNat1, toNat2, Int.toNat_natCast, sb_mk] at hc115
            try simp only [decide_eq_true_eq, decide_eq_false_iff_not, beq_iff_eq, beq_eq_false_iff_ne, bne_iff_ne, bne_eq_false_iff_eq, ne_eq] at hc123
            try simp only [toNat0, toNat1, toNat2, Int.toNat_natCast, sb_mk] at hc123
            simp (disch := omega) only [allP, sb_mk, sl1, toNat0, toNat1, toNat2, Int.toNat_natCast, List.take_length, List.take_succ_cons, List.drop_succ_cons, List.drop_zero, List.take_zero, List.length_cons, List.length_nil, List.getD_cons_zero, i64_wrap, i32_wrap, u8_wrap, u32_wrap, tdN, tmN, i64_min, i64_max, u8_min, u8_max, decide_eq_true_eq, decide_eq_false_iff_not, beq_iff_eq, beq_eq_false_iff_ne, bne_iff_ne, bne_eq_false_iff_eq, ne_eq, not_false_eq_true, and_true, true_and, Int.zero_sub, List.length_append, List.length_take, List.length_drop, UInt8.ofNat_toNat]
            repeat' apply And.intro
            all_goals first | exact True.intro | omega | with_reducible rfl | with_reducible assumption | with_reducible exact bytesOK1 c | (rw [h6 (by omega)]; rfl) | (with_reducible exact h7 (by omega) (by omega)) | (rw [h8 (by omega) (by omega) (by omega) (by omega) (by omega) (by omega)]; rfl) | exact h1 | exact ht | exact h2 | exact h3 | exact h4 | exact h5 | exact h6 | rfl
        | false =>
          cases hc126 : (decide ((↑a : Int) > (0 : Int)) : Bool) with
          | true =>
            have eR := form_21 l t a c more twice
            refine ⟨_, _, eR.trans (congrArg (fun r => some (r, _)) ?_), ?_⟩
            · try clear eR
              rfl
            · try clear eR
              try simp only [decide_eq_true_eq, decide_eq_false_iff_not, beq_iff_eq, beq_eq_false_iff_ne, bne_iff_ne, bne_eq_false_iff_eq, ne_eq] at hc59
              try simp only [toNat0, toNat1, toNat2, Int.toNat_natCast, sb_mk] at hc59
              try simp only [decide_eq_true_eq, decide_eq_false_iff_not, beq_iff_eq, beq_eq_false_iff_ne, bne_iff_ne, bne_eq_false_iff_eq, ne_eq] at hc67
              try simp only [toNat0, toNat1, toNat2, Int.toNat_natCast, sb_mk] at hc67
              try simp only [decide_eq_true_eq, decide_eq_false_iff_not, beq_iff_eq, beq_eq_false_iff_ne, bne_iff_ne, bne_eq_false_iff_eq, ne_eq] at hc115
              try simp only [toNat0, toNat1, toNat2, Int.toNat_natCast, sb_mk] at hc115
              try simp only [decide_eq_true_eq, decide_eq_false_iff_not, beq_iff_eq, beq_eq_false_iff_ne, bne_iff_ne, bne_eq_false_iff_eq, ne_eq] at hc123
              try simp only [toNat0, toNat1, toNat2, Int.toNat_natCast, sb_mk] at hc123
              try simp only [decide_eq_true_eq, decide_eq_false_iff_not, beq_iff_eq, beq_eq_false_iff_ne, bne_iff_ne, bne_eq_false_iff_eq, ne_eq] at hc126
              try simp only [toNat0, toNat1, toNat2, Int.toNat_natCast, sb_mk] at hc126
              simp (disch := omega) only [allP, sb_mk, sl1, toNat0, toNat1, toNat2, Int.toNat_natCast, List.take_length, List.take_succ_cons, List.drop_succ_cons, List.drop_zero, List.take_zero, List.length_cons, List.length_nil, List.getD_cons_zero, i64_wrap, i32_wrap, u8_wrap, u32_wrap, tdN, tmN, i64_min, i64_max, u8_min, u8_max, decide_eq_true_eq, decide_eq_false_iff_not, beq_iff_eq, beq_eq_false_iff_ne, bne_iff_ne, bne_eq_false_iff_eq, ne_eq, not_false_eq_true, and_true, true_and, Int.zero_sub, List.length_append, List.length_take, List.length_drop, UInt8.ofNat_toNat]
              repeat' apply And.intro
              all_goals first | exact True.intro | omega | with_reducible rfl | with_reducible assumption | with_reducible exact bytesOK1 c | (rw [h6 (by omega)]; rfl) | (with_reducible exact h7 (by omega) (by omega)) | (rw [h8 (by omega) (by omega) (by omega) (by omega) (by omega) (by omega)]; rfl) | exact h1 | exact ht | exact h2 | exact h3 | exact h4 | exact h5 | exact h6 | rfl
          | false =>
            have eR := form_22 l t a c more twice
            refine ⟨_, _, eR.trans (congrArg (fun r => some (r, _)) ?_), ?_⟩
            · try clear eR
              rfl
            · try clear eR
              try simp only [decide_eq_true_eq, decide_eq_false_iff_not, beq_iff_eq, beq_eq_false_iff_ne, bne_iff_ne, bne_eq_false_iff_eq, ne_eq] at hc59
              try simp only [toNat0, toNat1, toNat2, Int.toNat_natCast, sb_mk] at hc59
              try simp only [decide_eq_true_eq, decide_eq_false_iff_not, beq_iff_eq, beq_eq_false_iff_ne, bne_iff_ne, bne_eq_false_iff_eq, ne_eq] at hc67
              try simp only [toNat0, toNat1, toNat2, Int.toNat_natCast, sb_mk] at hc67
              try simp only [decide_eq_true_eq, decide_eq_false_iff_not, beq_iff_eq, beq_eq_false_iff_ne, bne_iff_ne, bne_eq_false_iff_eq, ne_eq] at hc115
              try simp only [toNat0, toNat1, toNat2, Int.toNat_natCast, sb_mk] at hc115
              try simp only [decide_eq_true_eq, decide_eq_false_iff_not, beq_iff_eq, beq_eq_false_iff_ne, bne_iff_ne, bne_eq_false_iff_eq, ne_eq] at hc123
              try simp only [toNat0, toNat1, toNat2, Int.toNat_natCast, sb_mk] at hc123
              try simp only [decide_eq_true_eq, decide_eq_false_iff_not, beq_iff_eq, beq_eq_false_iff_ne, bne_iff_ne, bne_eq_false_iff_eq, ne_eq] at hc126
              try simp only [toNat0, toNat1, toNat2, Int.toNat_natCast, sb_mk] at hc126
              simp (disch := omega) only [allP, sb_mk, sl1, toNat0, toNat1, toNat2, Int.toNat_natCast, List.take_length, List.take_succ_cons, List.drop_succ_cons, List.drop_zero, List.take_zero, List.length_cons, List.length_nil, List.getD_cons_zero, i64_wrap, i32_wrap, u8_wrap, u32_wrap, tdN, tmN, i64_min, i64_max, u8_min, u8_max, decide_eq_true_eq, decide_eq_false_iff_not, beq_iff_eq, beq_eq_false_iff_ne, bne_iff_ne, bne_eq_false_iff_eq, ne_eq, not_false_eq_true, and_true, true_and, Int.zero_sub, List.length_append, List.length_take, List.length_drop, UInt8.ofNat_toNat]
              repeat' apply And.intro
              all_goals first | exact True.intro | omega | with_reducible rfl | with_reducible assumption | with_reducible exact bytesOK1 c | (rw [h6 (by omega)]; rfl) | (with_reducible exact h7 (by omega) (by omega)) | (rw [h8 (by omega) (by omega) (by omega) (by omega) (by omega) (by omega)]; rfl) | exact h1 | exact ht | exact h2 | exact h3 | exact h4 | exact h5 | exact h6 | rfl
      | false =>
        cases hc123 : ((↑c.toNat : Int) != (45 : Int) : Bool) with
        | true =>
          have eR := form_23 l t a c more twice
          refine ⟨_, _, eR.trans (congrArg (fun r => some (r, _)) ?_), ?_⟩
          · try clear eR
            rfl
          · try clear eR
            try simp only [decide_eq_true_eq, decide_eq_false_iff_not, beq_iff_eq, beq_eq_false_iff_ne, bne_iff_ne, bne_eq_false_iff_eq, ne_eq] at hc59
            try simp only [toNat0, toNat1, toNat2, Int.toNat_natCast, sb_mk] at hc59
            try simp only [decide_eq_true_eq, decide_eq_false_iff_not, beq_iff_eq, beq_eq_false_iff_ne, bne_iff_ne, bne_eq_false_iff_eq, ne_eq] at hc67
            try simp only [toNat0, toNat1, toNat2, Int.toNat_natCast, sb_mk] at hc67
            try simp only [decide_eq_true_eq, decide_eq_false_iff_not, beq_iff_eq, beq_eq_false_iff_ne, bne_iff_ne, bne_eq_false_iff_eq, ne_eq] at hc115
            try simp only [toNat0, toNat1, toNat2, Int.toNat_natCast, sb_mk] at hc115
            try simp only [decide_eq_true_eq, decide_eq_false_iff_not, beq_iff_eq, beq_eq_false_iff_ne, bne_iff_ne, bne_eq_false_iff_eq, ne_eq] at hc123
            try simp only [toNat0, toNat1, toNat2, Int.toNat_natCast, sb_mk] at hc123
            simp (disch := omega) only [allP, sb_mk, sl1, toNat0, toNat1, toNat2, Int.toNat_natCast, List.take_length, List.take_succ_cons, List.drop_succ_cons, List.drop_zero, List.take_zero, List.length_cons, List.length_nil, List.getD_cons_zero, i64_wrap, i32_wrap, u8_wrap, u32_wrap, tdN, tmN, i64_min, i64_max, u8_min, u8_max, decide_eq_true_eq, decide_eq_false_iff_not, beq_iff_eq, beq_eq_false_iff_ne, bne_iff_ne, bne_eq_false_iff_eq, ne_eq, not_false_eq_true, and_true, true_and, Int.zero_sub, List.length_append, List.length_take, List.length_drop, UInt8.ofNat_toNat]
            repeat' apply And.intro
            all_goals first | exact True.intro | omega | with_reducible rfl | with_reducible assumption | with_reducible exact bytesOK1 c | (rw [h6 (by omega)]; rfl) | (with_reducible exact h7 (by omega) (by omega)) | (rw [h8 (by omega) (by omega) (by omega) (by omega) (by omega) (by omega)]; rfl) | exact h1 | exact ht | exact h2 | exact h3 | exact h4 | exact h5 | exact h6 | rfl
        | false =>
          cases hc126 : (decide ((↑a : Int) > (0 : Int)) : Bool) with
          | true =>
            have eR := form_24 l t a c more twice
            refine ⟨_, _, eR.trans (congrArg (fun r => some (r, _)) ?_), ?_⟩
            · try clear eR
              rfl
            · try clear eR
              try simp only [decide_eq_true_eq, decide_eq_false_iff_not, beq_iff_eq, beq_eq_false_iff_ne, bne_iff_ne, bne_eq_false_iff_eq, ne_eq] at hc59
              try simp only [toNat0, toNat1, toNat2, Int.toNat_natCast, sb_mk] at hc59
              try simp only [decide_eq_true_eq, decide_eq_false_iff_not, beq_iff_eq, beq_eq_false_iff_ne, bne_iff_ne, bne_eq_false_iff_eq, ne_eq] at hc67
              try simp only [toNat0, toNat1, toNat2, Int.toNat_natCast, sb_mk] at hc67
              try simp only [decide_eq_true_eq, decide_eq_false_iff_not, beq_iff_eq, beq_eq_false_iff_ne, bne_iff_ne, bne_eq_false_iff_eq, ne_eq] at hc115
              try simp only [toNat0, toNat1, toNat2, Int.toNat_natCast, sb_mk] at hc115
              try simp only [decide_eq_true_eq, decide_eq_false_iff_not, beq_iff_eq, beq_eq_false_iff_ne, bne_iff_ne, bne_eq_false_iff_eq, ne_eq] at hc123
              try simp only [toNat0, toNat1, toNat2, Int.toNat_natCast, sb_mk] at hc123
              try simp only [decide_eq_true_eq, decide_eq_false_iff_not, beq_iff_eq, beq_eq_false_iff_ne, bne_iff_ne, bne_eq_false_iff_eq, ne_eq] at hc126
              try simp only [toNat0, toNat1, toNat2, Int.toNat_natCast, sb_mk] at hc126
              simp (disch := omega) only [allP, sb_mk, sl1, toNat0, toNat1, toNat2, Int.toNat_natCast, List.take_length, List.take_succ_cons, List.drop_succ_cons, List.drop_zero, List.take_zero, List.length_cons, List.length_nil, List.getD_cons_zero, i64_wrap, i32_wrap, u8_wrap, u32_wrap, tdN, tmN, i64_min, i64_max, u8_min, u8_max, decide_eq_true_eq, decide_eq_false_iff_not, beq_iff_eq, beq_eq_false_iff_ne, bne_iff_ne, bne_eq_false_iff_eq, ne_eq, not_false_eq_true, and_true, true_and, Int.zero_sub, List.length_append, List.length_take, List.length_drop, UInt8.ofNat_toNat]
              repeat' apply And.intro
              all_goals first | exact True.intro | omega | with_reducible rfl | with_reducible assumption | with_reducible exact bytesOK1 c | (rw [h6 (by omega)]; rfl) | (with_reducible exact h7 (by omega) (by omega)) | (rw [h8 (by omega) (by omega) (by omega) (by omega) (by omega) (by omega)]; rfl) | exact h1 | exact ht | exact h2 | exact h3 | exact h4 | exact h5 | exact h6 | rfl
          | false =>
            have eR := form_25 l t a c more twice
            refine ⟨_, _, eR.trans (congrArg (fun r => some (r, _)) ?_), ?_⟩
            · try clear eR
              rfl
            · try clear eR
              try simp only [decide_eq_true_eq, decide_eq_false_iff_not, beq_iff_eq, beq_eq_false_iff_ne, bne_iff_ne, bne_eq_false_iff_eq, ne_eq] at hc59
              try simp only [toNat0, toNat1, toNat2, Int.toNat_natCast, sb_mk] at hc59
              try simp only [decide_eq_true_eq, decide_eq_false_iff_not, beq_iff_eq, beq_eq_false_iff_ne, bne_iff_ne, bne_eq_false_iff_eq, ne_eq] at hc67
              try simp only [toNat0, toNat1, toNat2, Int.toNat_natCast, sb_mk] at hc67
              try simp only [decide_eq_true_eq, decide_eq_false_iff_not, beq_iff_eq, beq_eq_false_iff_ne, bne_iff_ne, bne_eq_false_iff_eq, ne_eq] at hc115
              try simp only [toNat0, toNat1, toNat2, Int.toNat_natCast, sb_mk] at hc115
              try simp only [decide_eq_true_eq, decide_eq_false_iff_not, beq_iff_eq, beq_eq_false_iff_ne, bne_iff_ne, bne_eq_false_iff_eq, ne_eq] at hc123
              try simp only [toNat0, toNat1, toNat2, Int.toNat_natCast, sb_mk] at hc123
              try simp only [decide_eq_true_eq, decide_eq_false_iff_not, beq_iff_eq, beq_eq_false_iff_ne, bne_iff_ne, bne_eq_false_iff_eq, ne_eq] at hc126
              try simp only [toNat0, toNat1, toNat2, Int.toNat_natCast, sb_mk] at hc126
              simp (disch := omega) only [allP, sb_mk, sl1, toNat0, toNat1, toNat2, Int.toNat_natCast, List.take_length, List.take_succ_cons, List.drop_succ_cons, List.drop_zero, List.take_zero, List.length_cons, List.length_nil, List.getD_cons_zero, i64_wrap, i32_wrap, u8_wrap, u32_wrap, tdN, tmN, i64_min, i64_max, u8_min, u8_max, decide_eq_true_eq, decide_eq_false_iff_not, beq_iff_eq, beq_eq_false_iff_ne, bne_iff_ne, bne_eq_false_iff_eq, ne_eq, not_false_eq_true, and_true, true_and, Int.zero_sub, List.length_append, List.length_take, List.length_drop, UInt8.ofNat_toNat]
              repeat' apply And.intro
              all_goals first | exact True.intro | omega | with_reducible rfl | with_reducible assumption | with_reducible exact bytesOK1 c | (rw [h6 (by omega)]; rfl) | (with_reducible exact h7 (by omega) (by omega)) | (rw [h8 (by omega) (by omega) (by omega) (by omega) (by omega) (by omega)]; rfl) | exact h1 | exact ht | exact h2 | exact h3 | exact h4 | exact h5 | exact h6 | rfl
    | false =>
      cases hc71 : ((↑c.toNat : Int) == (45 : Int) : Bool) with
      | true =>
        cases hc115 : ((↑(l.getD (Int.toNat (0 : Int)) (0 : UInt8)).toNat : Int) != (45 : Int) : Bool) with
        | true =>
          cases hc123 : ((↑c.toNat : Int) != (45 : Int) : Bool) with
          | true =>
            have eR := form_26 l t a c more twice
            refine ⟨_, _, eR.trans (congrArg (fun r => some (r, _)) ?_), ?_⟩
            · try clear eR
              rfl
            · try clear eR
              try simp only [decide_eq_true_eq, decide_eq_false_iff_not, beq_iff_eq, beq_eq_false_iff_ne, bne_iff_ne, bne_eq_false_iff_eq, ne_eq] at hc59
              try simp only [toNat0, toNat1, toNat2, Int.toNat_natCast, sb_mk] at hc59
              try simp only [decide_eq_true_eq, decide_eq_false_iff_not, beq_iff_eq, beq_eq_false_iff_ne, bne_iff_ne, bne_eq_false_iff_eq, ne_eq] at hc67
              try simp only [toNat0, toNat1, toNat2, Int.toNat_natCast, sb_mk] at hc67
              try simp only [decide_eq_true_eq, decide_eq_false_iff_not, beq_iff_eq, beq_eq_false_iff_ne, bne_iff_ne, bne_eq_false_iff_eq, ne_eq] at hc71
              try simp only [toNat0, toNat1, toNat2, Int.toNat_natCast, sb_mk] at hc71
              try simp only [decide_eq_true_eq, decide_eq_false_iff_not, beq_iff_eq, beq_eq_false_iff_ne, bne_iff_ne, bne_eq_false_iff_eq, ne_eq] at hc115
              try simp only [toNat0, toNat1, toNat2, Int.toNat_natCast, sb_mk] at hc115
              try simp only [decide_eq_true_eq, decide_eq_false_iff_not, beq_iff_eq, beq_eq_false_iff_ne, bne_iff_ne, bne_eq_false_iff_eq, ne_eq] at hc123
              try simp only [toNat0, toNat1, toNat2, Int.toNat_natCast, sb_mk] at hc123
              simp (disch := omega) only [allP, sb_mk, sl1, toNat0, toNat1, toNat2, Int.toNat_natCast, List.take_length, List.take_succ_cons, List.drop_succ_cons, List.drop_zero, List.take_zero, List.length_cons, List.length_nil, List.getD_cons_zero, i64_wrap, i32_wrap, u8_wrap, u32_wrap, tdN, tmN, i64_min, i64_max, u8_min, u8_max, decide_eq_true_eq, decide_eq_false_iff_not, beq_iff_eq, beq_eq_false_iff_ne, bne_iff_ne, bne_eq_false_iff_eq, ne_eq, not_false_eq_true, and_true, true_and, Int.zero_sub, List.length_append, List.length_take, List.length_drop, UInt8.ofNat_toNat]
              repeat' apply And.intro
              all_goals first | exact True.intro | omega | with_reducible rfl | with_reducible assumption | with_reducible exact bytesOK1 c | (rw [h6 (by omega)]; rfl) | (with_reducible exact h7 (by omega) (by omega)) | (rw [h8 (by omega) (by omega) (by omega) (by omega) (by omega) (by omega)]; rfl) | exact h1 | exact ht | exact h2 | exact h3 | exact h4 | exact h5 | exact h6 | rfl
          | false =>
            cases hc126 : (decide ((↑a : Int) > (0 : Int)) : Bool) with
            | true =>
              have eR := form_27 l t a c more twice
              refine ⟨_, _, eR.trans (congrArg (fun r => some (r, _)) ?_), ?_⟩
              · try clear eR
                rfl
              · try clear eR
                try simp only [decide_eq_true_eq, decide_eq_false_iff_not, beq_iff_eq, beq_eq_false_iff_ne, bne_iff_ne, bne_eq_false_iff_eq, ne_eq] at hc59
                try simp only [toNat0, toNat1, toNat2, Int.toNat_natCast, sb_mk] at hc59
                try simp only [decide_eq_true_eq, decide_eq_false_iff_not, beq_iff_eq, beq_eq_false_iff_ne, bne_iff_ne, bne_eq_false_iff_eq, ne_eq] at hc67
                try simp only [toNat0, toNat1, toNat2, Int.toNat_natCast, sb_mk] at hc67
                try simp only [decide_eq_true_eq, decide_eq_false_iff_not, beq_iff_eq, beq_eq_false_iff_ne, bne_iff_ne, bne_eq_false_iff_eq, ne_eq] at hc71
                try simp only [toNat0, toNat1, toNat2, Int.toNat_natCast, sb_mk] at hc71
                try simp only [decide_eq_true_eq, decide_eq_false_iff_not, beq_iff_eq, beq_eq_false_iff_ne, bne_iff_ne, bne_eq_false_iff_eq, ne_eq] at hc115
                try simp only [toNat0, toNat1, toNat2, Int.toNat_natCast, sb_mk] at hc115
                try simp only [decide_eq_true_eq, decide_eq_false_iff_not, beq_iff_eq, beq_eq_false_iff_ne, bne_iff_ne, bne_eq_false_iff_eq, ne_eq] at hc123
                try simp only [toNat0, toNat1, toNat2, Int.toNat_natCast, sb_mk] at hc123
                try simp only [decide_eq_true_eq, decide_eq_false_iff_not, beq_iff_eq, beq_eq_false_iff_ne, bne_iff_ne, bne_eq_false_iff_eq, ne_eq] at hc126
                try simp only [toNat0, toNat1, toNat2, Int.toNat_natCast, sb_mk] at hc126
                simp (disch := omega) only [allP, sb_mk, sl1, toNat0, toNat1, toNat2, Int.toNat_natCast, List.take_length, List.take_succ_cons, List.drop_succ_cons, List.drop_zero, List.take_zero, List.length_cons, List.length_nil, List.getD_cons_zero, i64_wrap, i32_wrap, u8_wrap, u32_wrap, tdN, tmN, i64_min, i64_max, u8_min, u8_max, decide_eq_true_eq, decide_eq_false_iff_not, beq_iff_eq, beq_eq_false_iff_ne, bne_iff_ne, bne_eq_false_iff_eq, ne_eq, not_false_eq_true, and_true, true_and, Int.zero_sub, List.length_append, List.length_take, List.length_drop, UInt8.ofNat_toNat]
                repeat' apply And.intro
                all_goals first | exact True.intro | omega | with_reducible rfl | with_reducible assumption | with_reducible exact bytesOK1 c | (rw [h6 (by omega)]; rfl) | (with_reducible exact h7 (by omega) (by omega)) | (rw [h8 (by omega) (by omega) (by omega) (by omega) (by omega) (by omega)]; rfl) | exact h1 | exact ht | exact h2 | exact h3 | exact h4 | exact h5 | exact h6 | rfl
            | false =>
              have eR := form_28 l t a c more twice
              refine ⟨_, _, eR.trans (congrArg (fun r => some (r, _)) ?_), ?_⟩
              · try clear eR
                rfl
              · try clear eR
                try simp only [decide_eq_true_eq, decide_eq_false_iff_not, beq_iff_eq, beq_eq_false_iff_ne, bne_iff_ne, bne_eq_false_iff_eq, ne_eq] at hc59
                try simp only [toNat0, toNat1, toNat2, Int.toNat_natCast, sb_mk] at hc59
                try simp only [decide_eq_true_eq, decide_eq_false_iff_not, beq_iff_eq, beq_eq_false_iff_ne, bne_iff_ne, bne_eq_false_iff_eq, ne_eq] at hc67
                try simp only [toNat0, toNat1, toNat2, Int.toNat_natCast, sb_mk] at hc67
                try simp only [decide_eq_true_eq, decide_eq_false_iff_not, beq_iff_eq, beq_eq_false_iff_ne, bne_iff_ne, bne_eq_false_iff_eq, ne_eq] at hc71
                try simp only [toNat0, toNat1, toNat2, Int.toNat_natCast, sb_mk] at hc71
                try simp only [decide_eq_true_eq, decide_eq_false_iff_not, beq_iff_eq, beq_eq_false_iff_ne, bne_iff_ne, bne_eq_false_iff_eq, ne_eq] at hc115
                try simp only [toNat0, toNat1, toNat2, Int.toNat_natCast, sb_mk] at hc115
                try simp only [decide_eq_true_eq, decide_eq_false_iff_not, beq_iff_eq, beq_eq_false_iff_ne, bne_iff_ne, bne_eq_false_iff_eq, ne_eq] at hc123
                try simp only [toNat0, toNat1, toNat2, Int.toNat_natCast, sb_mk] at hc123
                try simp only [decide_eq_true_eq, decide_eq_false_iff_not, beq_iff_eq, beq_eq_false_iff_ne, bne_iff_ne, bne_eq_false_iff_eq, ne_eq] at hc126
                try simp only [toNat0, toNat1, toNat2, Int.toNat_natCast, sb_mk] at hc126
                simp (disch := omega) only [allP, sb_mk, sl1, toNat0, toNat1, toNat2, Int.toNat_natCast, List.take_length, List.take_succ_cons, List.drop_succ_cons, List.drop_zero, List.take_zero, List.length_cons, List.length_nil, List.getD_cons_zero, i64_wrap, i32_wrap, u8_wrap, u32_wrap, tdN, tmN, i64_min, i64_max, u8_min, u8_max, decide_eq_true_eq, decide_eq_false_iff_not, beq_iff_eq, beq_eq_false_iff_ne, bne_iff_ne, bne_eq_false_iff_eq, ne_eq, not_false_eq_true, and_true, true_and, Int.zero_sub, List.length_append, List.length_take, List.length_drop, UInt8.ofNat_toNat]
                repeat' apply And.intro
                all_goals first | exact True.intro | omega | with_reducible rfl | with_reducible assumption | with_reducible exact bytesOK1 c | (rw [h6 (by omega)]; rfl) | (with_reducible exact h7 (by omega) (by omega)) | (rw [h8 (by omega) (by omega) (by omega) (by omega) (by omega) (by omega)]; rfl) | exact h1 | exact ht | exact h2 | exact h3 | exact h4 | exact h5 | exact h6 | rfl
        | false =>
          cases hc123 : ((↑c.toNat : Int) != (45 : Int) : Bool) with
          | true =>
            have eR := form_29 l t a c more twice
            refine ⟨_, _, eR.trans (congrArg (fun r => some (r, _)) ?_), ?_⟩
            · try clear eR
              rfl
            · try clear eR
              try simp only [decide_eq_true_eq, decide_eq_false_iff_not, beq_iff_eq, beq_eq_false_iff_ne, bne_iff_ne, bne_eq_false_iff_eq, ne_eq] at hc59
              try simp only [toNat0, toNat1, toNat2, Int.toNat_natCast, sb_mk] at hc59
              try simp only [decide_eq_true_eq, decide_eq_false_iff_not, beq_iff_eq, beq_eq_false_iff_ne, bne_iff_ne, bne_eq_false_iff_eq, ne_eq] at hc67
              try simp only [toNat0, toNat1, toNat2, Int.toNat_natCast, sb_mk] at hc67
              try simp only [decide_eq_true_eq, decide_eq_false_iff_not, beq_iff_eq, beq_eq_false_iff_ne, bne_iff_ne, bne_eq_false_iff_eq, ne_eq] at hc71
              try simp only [toNat0, toNat1, toNat2, Int.toNat_natCast, sb_mk] at hc71
              try simp only [decide_eq_true_eq, decide_eq_false_iff_not, beq_iff_eq, beq_eq_false_iff_ne, bne_iff_ne, bne_eq_false_iff_eq, ne_eq] at hc115
              try simp only [toNat0, toNat1, toNat2, Int.toNat_natCast, sb_mk] at hc115
              try simp only [decide_eq_true_eq, decide_eq_false_iff_not, beq_iff_eq, beq_eq_false_iff_ne, bne_iff_ne, bne_eq_false_iff_eq, ne_eq] at hc123
              try simp only [toNat0, toNat1, toNat2, Int.toNat_natCast, sb_mk] at hc123
              simp (disch := omega) only [allP, sb_mk, sl1, toNat0, toNat1, toNat2, Int.toNat_natCast, List.take_length, List.take_succ_cons, List.drop_succ_cons, List.drop_zero, List.take_zero, List.length_cons, List.length_nil, List.getD_cons_zero, i64_wrap, i32_wrap, u8_wrap, u32_wrap, tdN, tmN, i64_min, i64_max, u8_min, u8_max, decide_eq_true_eq, decide_eq_false_iff_not, beq_iff_eq, beq_eq_false_iff_ne, bne_iff_ne, bne_eq_false_iff_eq, ne_eq, not_false_eq_true, and_true, true_and, Int.zero_sub, List.length_append, List.length_take, List.length_drop, UInt8.ofNat_toNat]
              repeat' apply And.intro
              all_goals first | exact True.intro | omega | with_reducible rfl | with_reducible assumption | with_reducible exact bytesOK1 c | (rw [h6 (by omega)]; rfl) | (with_reducible exact h7 (by omega) (by omega)) | (rw [h8 (by omega) (by omega) (by omega) (by omega) (by omega) (by omega)]; rfl) | exact h1 | exact ht | exact h2 | exact h3 | exact h4 | exact h5 | exact h6 | rfl
          | false =>
            cases hc126 : (decide ((↑a : Int) > (0 : Int)) : Bool) with
            | true =>
              have eR := form_30 l t a c more twice
              refine ⟨_, _, eR.trans (congrArg (fun r => some (r, _)) ?_), ?_⟩
              · try clear eR
                rfl
              · try clear eR
                try simp only [decide_eq_true_eq, decide_eq_false_iff_not, beq_iff_eq, beq_eq_false_iff_ne, bne_iff_ne, bne_eq_false_iff_eq, ne_eq] at hc59
                try simp only [toNat0, toNat1, toNat2, Int.toNat_natCast, sb_mk] at hc59
                try simp only [decide_eq_true_eq, decide_eq_false_iff_not, beq_iff_eq, beq_eq_false_iff_ne, bne_iff_ne, bne_eq_false_iff_eq, ne_eq] at hc67
                try simp only [toNat0, toNat1, toNat2, Int.toNat_natCast, sb_mk] at hc67
                try simp only [decide_eq_true_eq, decide_eq_false_iff_not, beq_iff_eq, beq_eq_false_iff_ne, bne_iff_ne, bne_eq_false_iff_eq, ne_eq] at hc71
                try simp only [toNat0, toNat1, toNat2, Int.toNat_natCast, sb_mk] at hc71
                try simp only [decide_eq_true_eq, decide_eq_false_iff_not, beq_iff_eq, beq_eq_false_iff_ne, bne_iff_ne, bne_eq_false_iff_eq, ne_eq] at hc115
                try simp only [toNat0, toNat1, toNat2, Int.toNat_natCast, sb_mk] at hc115
                try simp only [decide_eq_true_eq, decide_eq_false_iff_not, beq_iff_eq, beq_eq_false_iff_ne, bne_iff_ne, bne_eq_false_iff_eq, ne_eq] at hc123
                try simp only [toNat0, toNat1, toNat2, Int.toNat_natCast, sb_mk] at hc123
                try simp only [decide_eq_true_eq, decide_eq_false_iff_not, beq_iff_eq, beq_eq_false_iff_ne, bne_iff_ne, bne_eq_false_iff_eq, ne_eq] at hc126
                try simp only [toNat0, toNat1, toNat2, Int.toNat_natCast, sb_mk] at hc126
                simp (disch := omega) only [allP, sb_mk, sl1, toNat0, toNat1, toNat2, Int.toNat_natCast, List.take_length, List.take_succ_cons, List.drop_succ_cons, List.drop_zero, List.take_zero, List.length_cons, List.length_nil, List.getD_cons_zero, i64_wrap, i32_wrap, u8_wrap, u32_wrap, tdN, tmN, i64_min, i64_max, u8_min, u8_max, decide_eq_true_eq, decide_eq_false_iff_not, beq_iff_eq, beq_eq_false_iff_ne, bne_iff_ne, bne_eq_false_iff_eq, ne_eq, not_false_eq_true, and_true, true_and, Int.zero_sub, List.length_append, List.length_take, List.length_drop, UInt8.ofNat_toNat]
                repeat' apply And.intro
                all_goals first | exact True.intro | omega | with_reducible rfl | with_reducible assumption | with_reducible exact bytesOK1 c | (rw [h6 (by omega)]; rfl) | (with_reducible exact h7 (by omega) (by omega)) | (rw [h8 (by omega) (by omega) (by omega) (by omega) (by omega) (by omega)]; rfl) | exact h1 | exact ht | exact h2 | exact h3 | exact h4 | exact h5 | exact h6 | rfl
            | false =>
              have eR := form_31 l t a c more twice
              refine ⟨_, _, eR.trans (congrArg (fun r => some (r, _)) ?_), ?_⟩
              · try clear eR
                rfl
              · try clear eR
                try simp only [decide_eq_true_eq, decide_eq_false_iff_not, beq_iff_eq, beq_eq_false_iff_ne, bne_iff_ne, bne_eq_false_iff_eq, ne_eq] at hc59
                try simp only [toNat0, toNat1, toNat2, Int.toNat_natCast, sb_mk] at hc59
                try simp only [decide_eq_true_eq, decide_eq_false_iff_not, beq_iff_eq, beq_eq_false_iff_ne, bne_iff_ne, bne_eq_false_iff_eq, ne_eq] at hc67
                try simp only [toNat0, toNat1, toNat2, Int.toNat_natCast, sb_mk] at hc67
                try simp only [decide_eq_true_eq, decide_eq_false_iff_not, beq_iff_eq, beq_eq_false_iff_ne, bne_iff_ne, bne_eq_false_iff_eq, ne_eq] at hc71
                try simp only [toNat0, toNat1, toNat2, Int.toNat_natCast, sb_mk] at hc71
                try simp only [decide_eq_true_eq, decide_eq_false_iff_not, beq_iff_eq, beq_eq_false_iff_ne, bne_iff_ne, bne_eq_false_iff_eq, ne_eq] at hc115
                try simp only [toNat0, toNat1, toNat2, Int.toNat_natCast, sb_mk] at hc115
                try simp only [decide_eq_true_eq, decide_eq_false_iff_not, beq_iff_eq, beq_eq_false_iff_ne, bne_iff_ne, bne_eq_false_iff_eq, ne_eq] at hc123
                try simp only [toNat0, toNat1, toNat2, Int.toNat_natCast, sb_mk] at hc123
                try simp only [decide_eq_true_eq, decide_eq_false_iff_not, beq_iff_eq, beq_eq_false_iff_ne, bne_iff_ne, bne_eq_false_iff_eq, ne_eq] at hc126
                try simp only [toNat0, toNat1, toNat2, Int.toNat_natCast, sb_mk] at hc126
                simp (disch := omega) only [allP, sb_mk, sl1, toNat0, toNat1, toNat2, Int.toNat_natCast, List.take_length, List.take_succ_cons, List.drop_succ_cons, List.drop_zero, List.take_zero, List.length_cons, List.length_nil, List.getD_cons_zero, i64_wrap, i32_wrap, u8_wrap, u32_wrap, tdN, tmN, i64_min, i64_max, u8_min, u8_max, decide_eq_true_eq, decide_eq_false_iff_not, beq_iff_eq, beq_eq_false_iff_ne, bne_iff_ne, bne_eq_false_iff_eq, ne_eq, not_false_eq_true, and_true, true_and, Int.zero_sub, List.length_append, List.length_take, List.length_drop, UInt8.ofNat_toNat]
                repeat' apply And.intro
                all_goals first | exact True.intro | omega | with_reducible rfl | with_reducible assumption | with_reducible exact bytesOK1 c | (rw [h6 (by omega)]; rfl) | (with_reducible exact h7 (by omega) (by omega)) | (rw [h8 (by omega) (by omega) (by omega) (by omega) (by omega) (by omega)]; rfl) | exact h1 | exact ht | exact h2 | exact h3 | exact h4 | exact h5 | exact h6 | rfl
      | false =>
        cases hc75 : ((↑c.toNat : Int) == (43 : Int) : Bool) with
        | true =>
          cases hc115 : ((↑(l.getD (Int.toNat (0 : Int)) (0 : UInt8)).toNat : Int) != (45 : Int) : Bool) with
          | true =>
            cases hc123 : ((↑c.toNat : Int) != (45 : Int) : Bool) with
            | true =>
              have eR := form_32 l t a c more twice
              refine ⟨_, _, eR.trans (congrArg (fun r => some (r, _)) ?_), ?_⟩
              · try clear eR
                rfl
              · try clear eR
                try simp only [decide_eq_true_eq, decide_eq_false_iff_not, beq_iff_eq, beq_eq_false_iff_ne, bne_iff_ne, bne_eq_false_iff_eq, ne_eq] at hc59
                try simp only [toNat0, toNat1, toNat2, Int.toNat_natCast, sb_mk] at hc59
                try simp only [decide_eq_true_eq, decide_eq_false_iff_not, beq_iff_eq, beq_eq_false_iff_ne, bne_iff_ne, bne_eq_false_iff_eq, ne_eq] at hc67
                try simp only [toNat0, toNat1, toNat2, Int.toNat_natCast, sb_mk] at hc67
                try simp only [decide_eq_true_eq, decide_eq_false_iff_not, beq_iff_eq, beq_eq_false_iff_ne, bne_iff_ne, bne_eq_false_iff_eq, ne_eq] at hc71
                try simp only [toNat0, toNat1, toNat2, Int.toNat_natCast, sb_mk] at hc71
                try simp only [decide_eq_true_eq, decide_eq_false_iff_not, beq_iff_eq, beq_eq_false_iff_ne, bne_iff_ne, bne_eq_false_iff_eq, ne_eq] at hc75
                try simp only [toNat0, toNat1, toNat2, Int.toNat_natCast, sb_mk] at hc75
                try simp only [decide_eq_true_eq, decide_eq_false_iff_not, beq_iff_eq, beq_eq_false_iff_ne, bne_iff_ne, bne_eq_false_iff_eq, ne_eq] at hc115
                try simp only [toNat0, toNat1, toNat2, Int.toNat_natCast, sb_mk] at hc115
                try simp only [decide_eq_true_eq, decide_eq_false_iff_not, beq_iff_eq, beq_eq_false_iff_ne, bne_iff_ne, bne_eq_false_iff_eq, ne_eq] at hc123
                try simp only [toNat0, toNat1, toNat2, Int.toNat_natCast, sb_mk] at hc123
                simp (disch := omega) only [allP, sb_mk, sl1, toNat0, toNat1, toNat2, Int.toNat_natCast, List.take_length, List.take_succ_cons, List.drop_succ_cons, List.drop_zero, List.take_zero, List.length_cons, List.length_nil, List.getD_cons_zero, i64_wrap, i32_wrap, u8_wrap, u32_wrap, tdN, tmN, i64_min, i64_max, u8_min, u8_max, decide_eq_true_eq, decide_eq_false_iff_not, beq_iff_eq, beq_eq_false_iff_ne, bne_iff_ne, bne_eq_false_iff_eq, ne_eq, not_false_eq_true, and_true, true_and, Int.zero_sub, List.length_append, List.length_take, List.length_drop, UInt8.ofNat_toNat]
                repeat' apply And.intro
                all_goals first | exact True.intro | omega | with_reducible rfl | with_reducible assumption | with_reducible exact bytesOK1 c | (rw [h6 (by omega)]; rfl) | (with_reducible exact h7 (by omega) (by omega)) | (rw [h8 (by omega) (by omega) (by omega) (by omega) (by omega) (by omega)]; rfl) | exact h1 | exact ht | exact h2 | exact h3 | exact h4 | exact h5 | exact h6 | rfl
            | false =>
              cases hc126 : (decide ((↑a : Int) > (0 : Int)) : Bool) with
              | true =>
                have eR := form_33 l t a c more twice
                refine ⟨_, _, eR.trans (congrArg (fun r => some (r, _)) ?_), ?_⟩
                · try clear eR
                  rfl
                · try clear eR
                  try simp only [decide_eq_true_eq, decide_eq_false_iff_not, beq_iff_eq, beq_eq_false_iff_ne, bne_iff_ne, bne_eq_false_iff_eq, ne_eq] at hc59
                  try simp only [toNat0, toNat1, toNat2, Int.toNat_natCast, sb_mk] at hc59
                  try simp only [decide_eq_true_eq, decide_eq_false_iff_not, beq_iff_eq, beq_eq_false_iff_ne, bne_iff_ne, bne_eq_false_iff_eq, ne_eq] at hc67
                  try simp only [toNat0, toNat1, toNat2, Int.toNat_natCast, sb_mk] at hc67
                  try simp only [decide_eq_true_eq, decide_eq_false_iff_not, beq_iff_eq, beq_eq_false_iff_ne, bne_iff_ne, bne_eq_false_iff_eq, ne_eq] at hc71
                  try simp only [toNat0, toNat1, toNat2, Int.toNat_natCast, sb_mk] at hc71
                  try simp only [decide_eq_true_eq, decide_eq_false_iff_not, beq_iff_eq, beq_eq_false_iff_ne, bne_iff_ne, bne_eq_false_iff_eq, ne_eq] at hc75
                  try simp only [toNat0, toNat1, toNat2, Int.toNat_natCast, sb_mk] at hc75
                  try simp only [decide_eq_true_eq, decide_eq_false_iff_not, beq_iff_eq, beq_eq_false_iff_ne, bne_iff_ne, bne_eq_false_iff_eq, ne_eq] at hc115
                  try simp only [toNat0, toNat1, toNat2, Int.toNat_natCast, sb_mk] at hc115
                  try simp only [decide_eq_true_eq, decide_eq_false_iff_not, beq_iff_eq, beq_eq_false_iff_ne, bne_iff_ne, bne_eq_false_iff_eq, ne_eq] at hc123
                  try simp only [toNat0, toNat1, toNat2, Int.toNat_natCast, sb_mk] at hc123
                  try simp only [decide_eq_true_eq, decide_eq_false_iff_not, beq_iff_eq, beq_eq_false_iff_ne, bne_iff_ne, bne_eq_false_iff_eq, ne_eq] at hc126
                  try simp only [toNat0, toNat1, toNat2, Int.toNat_natCast, sb_mk] at hc126
                  simp (disch := omega) only [allP, sb_mk, sl1, toNat0, toNat1, toNat2, Int.toNat_natCast, List.take_length, List.take_succ_cons, List.drop_succ_cons, List.drop_zero, List.take_zero, List.length_cons, List.length_nil, List.getD_cons_zero, i64_wrap, i32_wrap, u8_wrap, u32_wrap, tdN, tmN, i64_min, i64_max, u8_min, u8_max, decide_eq_true_eq, decide_eq_false_iff_not, beq_iff_eq, beq_eq_false_iff_ne, bne_iff_ne, bne_eq_false_iff_eq, ne_eq, not_false_eq_true, and_true, true_and, Int.zero_sub, List.length_append, List.length_take, List.length_drop, UInt8.ofNat_toNat]
                  repeat' apply And.intro
                  all_goals first | exact True.intro | omega | with_reducible rfl | with_reducible assumption | with_reducible exact bytesOK1 c | (rw [h6 (by omega)]; rfl) | (with_reducible exact h7 (by omega) (by omega)) | (rw [h8 (by omega) (by omega) (by omega) (by omega) (by omega) (by omega)]; rfl) | exact h1 | exact ht | exact h2 | exact h3 | exact h4 | exact h5 | exact h6 | rfl
              | false =>
                have eR := form_34 l t a c more twice
                refine ⟨_, _, eR.trans (congrArg (fun r => some (r, _)) ?_), ?_⟩
                · try clear eR
                  rfl
                · try clear eR
                  try simp only [decide_eq_true_eq, decide_eq_false_iff_not, beq_iff_eq, beq_eq_false_iff_ne, bne_iff_ne, bne_eq_false_iff_eq, ne_eq] at hc59
                  try simp only [toNat0, toNat1, toNat2, Int.toNat_natCast, sb_mk] at hc59
                  try simp only [decide_eq_true_eq, decide_eq_false_iff_not, beq_iff_eq, beq_eq_false_iff_ne, bne_iff_ne, bne_eq_false_iff_eq, ne_eq] at hc67
                  try simp only [toNat0, toNat1, toNat2, Int.toNat_natCast, sb_mk] at hc67
                  try simp only [decide_eq_true_eq, decide_eq_false_iff_not, beq_iff_eq, beq_eq_false_iff_ne, bne_iff_ne, bne_eq_false_iff_eq, ne_eq] at hc71
                  try simp only [toNat0, toNat1, toNat2, Int.toNat_natCast, sb_mk] at hc71
                  try simp only [decide_eq_true_eq, decide_eq_false_iff_not, beq_iff_eq, beq_eq_false_iff_ne, bne_iff_ne, bne_eq_false_iff_eq, ne_eq] at hc75
                  try simp only [toNat0, toNat1, toNat2, Int.toNat_natCast, sb_mk] at hc75
                  try simp only [decide_eq_true_eq, decide_eq_false_iff_not, beq_iff_eq, beq_eq_false_iff_ne, bne_iff_ne, bne_eq_false_iff_eq, ne_eq] at hc115
                  try simp only [toNat0, toNat1, toNat2, Int.toNat_natCast, sb_mk] at hc115
                  try simp only [decide_eq_true_eq, decide_eq_false_iff_not, beq_iff_eq, beq_eq_false_iff_ne, bne_iff_ne, bne_eq_false_iff_eq, ne_eq] at hc123
                  try simp only [toNat0, toNat1, toNat2, Int.toNat_natCast, sb_mk] at hc123
                  try simp only [decide_eq_true_eq, decide_eq_false_iff_not, beq_iff_eq, beq_eq_false_iff_ne, bne_iff_ne, bne_eq_false_iff_eq, ne_eq] at hc126
                  try simp only [toNat0, toNat1, toNat2, Int.toNat_natCast, sb_mk] at hc126
                  simp (disch := omega) only [allP, sb_mk, sl1, toNat0, toNat1, toNat2, Int.toNat_natCast, List.take_length, List.take_succ_cons, List.drop_succ_cons, List.drop_zero, List.take_zero, List.length_cons, List.length_nil, List.getD_cons_zero, i64_wrap, i32_wrap, u8_wrap, u32_wrap, tdN, tmN, i64_min, i64_max, u8_min, u8_max, decide_eq_true_eq, decide_eq_false_iff_not, beq_iff_eq, beq_eq_false_iff_ne, bne_iff_ne, bne_eq_false_iff_eq, ne_eq, not_false_eq_true, and_true, true_and, Int.zero_sub, List.length_append, List.length_take, List.length_drop, UInt8.ofNat_toNat]
                  repeat' apply And.intro
                  all_goals first | exact True.intro | omega | with_reducible rfl | with_reducible assumption | with_reducible exact bytesOK1 c | (rw [h6 (by omega)]; rfl) | (with_reducible exact h7 (by omega) (by omega)) | (rw [h8 (by omega) (by omega) (by omega) (by omega) (by omega) (by omega)]; rfl) | exact h1 | exact ht | exact h2 | exact h3 | exact h4 | exact h5 | exact h6 | rfl
          | false =>
            cases hc123 : ((↑c.toNat : Int) != (45 : Int) : Bool) with
            | true =>
              have eR := form_35 l t a c more twice
              refine ⟨_, _, eR.trans (congrArg (fun r => some (r, _)) ?_), ?_⟩
              · try clear eR
                rfl
              · try clear eR
                try simp only [decide_eq_true_eq, decide_eq_false_iff_not, beq_iff_eq, beq_eq_false_iff_ne, bne_iff_ne, bne_eq_false_iff_eq, ne_eq] at hc59
                try simp only [toNat0, toNat1, toNat2, Int.toNat_natCast, sb_mk] at hc59
                try simp only [decide_eq_true_eq, decide_eq_false_iff_not, beq_iff_eq, beq_eq_false_iff_ne, bne_iff_ne, bne_eq_false_iff_eq, ne_eq] at hc67
                try simp only [toNat0, toNat1, toNat2, Int.toNat_natCast, sb_mk] at hc67
                try simp only [decide_eq_true_eq, decide_eq_false_iff_not, beq_iff_eq, beq_eq_false_iff_ne, bne_iff_ne, bne_eq_false_iff_eq, ne_eq] at hc71
                try simp only [toNat0, toNat1, toNat2, Int.toNat_natCast, sb_mk] at hc71
                try simp only [decide_eq_true_eq, decide_eq_false_iff_not, beq_iff_eq, beq_eq_false_iff_ne, bne_iff_ne, bne_eq_false_iff_eq, ne_eq] at hc75
                try simp only [toNat0, toNat1, toNat2, Int.toNat_natCast, sb_mk] at hc75
                try simp only [decide_eq_true_eq, decide_eq_false_iff_not, beq_iff_eq, beq_eq_false_iff_ne, bne_iff_ne, bne_eq_false_iff_eq, ne_eq] at hc115
                try simp only [toNat0, toNat1, toNat2, Int.toNat_natCast, sb_mk] at hc115
                try simp only [decide_eq_true_eq, decide_eq_false_iff_not, beq_iff_eq, beq_eq_false_iff_ne, bne_iff_ne, bne_eq_false_iff_eq, ne_eq] at hc123
                try simp only [toNat0, toNat1, toNat2, Int.toNat_natCast, sb_mk] at hc123
                simp (disch := omega) only [allP, sb_mk, sl1, toNat0, toNat1, toNat2, Int.toNat_natCast, List.take_length, List.take_succ_cons, List.drop_succ_cons, List.drop_zero, List.take_zero, List.length_cons, List.length_nil, List.getD_cons_zero, i64_wrap, i32_wrap, u8_wrap, u32_wrap, tdN, tmN, i64_min, i64_max, u8_min, u8_max, decide_eq_true_eq, decide_eq_false_iff_not, beq_iff_eq, beq_eq_false_iff_ne, bne_iff_ne, bne_eq_false_iff_eq, ne_eq, not_false_eq_true, and_true, true_and, Int.zero_sub, List.length_append, List.length_take, List.length_drop, UInt8.ofNat_toNat]
                repeat' apply And.intro
                all_goals first | exact True.intro | omega | with_reducible rfl | with_reducible assumption | with_reducible exact bytesOK1 c | (rw [h6 (by omega)]; rfl) | (with_reducible exact h7 (by omega) (by omega)) | (rw [h8 (by omega) (by omega) (by omega) (by omega) (by omega) (by omega)]; rfl) | exact h1 | exact ht | exact h2 | exact h3 | exact h4 | exact h5 | exact h6 | rfl
            | false =>
              cases hc126 : (decide ((↑a : Int) > (0 : Int)) : Bool) with
              | true =>
                have eR := form_36 l t a c more twice
                refine ⟨_, _, eR.trans (congrArg (fun r => some (r, _)) ?_), ?_⟩
                · try clear eR
                  rfl
                · try clear eR
                  try simp only [decide_eq_true_eq, decide_eq_false_iff_not, beq_iff_eq, beq_eq_false_iff_ne, bne_iff_ne, bne_eq_false_iff_eq, ne_eq] at hc59
                  try simp only [toNat0, toNat1, toNat2, Int.toNat_natCast, sb_mk] at hc59
                  try simp only [decide_eq_true_eq, decide_eq_false_iff_not, beq_iff_eq, beq_eq_false_iff_ne, bne_iff_ne, bne_eq_false_iff_eq, ne_eq] at hc67
                  try simp only [toNat0, toNat1, toNat2, Int.toNat_natCast, sb_mk] at hc67
                  try simp only [decide_eq_true_eq, decide_eq_false_iff_not, beq_iff_eq, beq_eq_false_iff_ne, bne_iff_ne, bne_eq_false_iff_eq, ne_eq] at hc71
                  try simp only [toNat0, toNat1, toNat2, Int.toNat_natCast, sb_mk] at hc71
                  try simp only [decide_eq_true_eq, decide_eq_false_iff_not, beq_iff_eq, beq_eq_false_iff_ne, bne_iff_ne, bne_eq_false_iff_eq, ne_eq] at hc75
                  try simp only [toNat0, toNat1, toNat2, Int.toNat_natCast, sb_mk] at hc75
                  try simp only [decide_eq_true_eq, decide_eq_false_iff_not, beq_iff_eq, beq_eq_false_iff_ne, bne_iff_ne, bne_eq_false_iff_eq, ne_eq] at hc115
                  try simp only [toNat0, toNat1, toNat2, Int.toNat_natCast, sb_mk] at hc115
                  try simp only [decide_eq_true_eq, decide_eq_false_iff_not, beq_iff_eq, beq_eq_false_iff_ne, bne_iff_ne, bne_eq_false_iff_eq, ne_eq] at hc123
                  try simp only [toNat0, toNat1, toNat2, Int.toNat_natCast, sb_mk] at hc123
                  try simp only [decide_eq_true_eq, decide_eq_false_iff_not, beq_iff_eq, beq_eq_false_iff_ne, bne_iff_ne, bne_eq_false_iff_eq, ne_eq] at hc126
                  try simp only [toNat0, toNat1, toNat2, Int.toNat_natCast, sb_mk] at hc126
                  simp (disch := omega) only [allP, sb_mk, sl1, toNat0, toNat1, toNat2, Int.toNat_natCast, List.take_length, List.take_succ_cons, List.drop_succ_cons, List.drop_zero, List.take_zero, List.length_cons, List.length_nil, List.getD_cons_zero, i64_wrap, i32_wrap, u8_wrap, u32_wrap, tdN, tmN, i64_min, i64_max, u8_min, u8_max, decide_eq_true_eq, decide_eq_false_iff_not, beq_iff_eq, beq_eq_false_iff_ne, bne_iff_ne, bne_eq_false_iff_eq, ne_eq, not_false_eq_true, and_true, true_and, Int.zero_sub, List.length_append, List.length_take, List.length_drop, UInt8.ofNat_toNat]
                  repeat' apply And.intro
                  all_goals first | exact True.intro | omega | with_reducible rfl | with_reducible assumption | with_reducible exact bytesOK1 c | (rw [h6 (by omega)]; rfl) | (with_reducible exact h7 (by omega) (by omega)) | (rw [h8 (by omega) (by omega) (by omega) (by omega) (by omega) (by omega)]; rfl) | exact h1 | exact ht | exact h2 | exact h3 | exact h4 | exact h5 | exact h6 | rfl
              | false =>
                have eR := form_37 l t a c more twice
                refine ⟨_, _, eR.trans (congrArg (fun r => some (r, _)) ?_), ?_⟩
                · try clear eR
                  rfl
                · try clear eR
                  try simp only [decide_eq_true_eq, decide_eq_false_iff_not, beq_iff_eq, beq_eq_false_iff_ne, bne_iff_ne, bne_eq_false_iff_eq, ne_eq] at hc59
                  try simp only [toNat0, toNat1, toNat2, Int.toNat_natCast, sb_mk] at hc59
                  try simp only [decide_eq_true_eq, decide_eq_false_iff_not, beq_iff_eq, beq_eq_false_iff_ne, bne_iff_ne, bne_eq_false_iff_eq, ne_eq] at hc67
                  try simp only [toNat0, toNat1, toNat2, Int.toNat_natCast, sb_mk] at hc67
                  try simp only [decide_eq_true_eq, decide_eq_false_iff_not, beq_iff_eq, beq_eq_false_iff_ne, bne_iff_ne, bne_eq_false_iff_eq, ne_eq] at hc71
                  try simp only [toNat0, toNat1, toNat2, Int.toNat_natCast, sb_mk] at hc71
                  try simp only [decide_eq_true_eq, decide_eq_false_iff_not, beq_iff_eq, beq_eq_false_iff_ne, bne_iff_ne, bne_eq_false_iff_eq, ne_eq] at hc75
                  try simp only [toNat0, toNat1, toNat2, Int.toNat_natCast, sb_mk] at hc75
                  try simp only [decide_eq_true_eq, decide_eq_false_iff_not, beq_iff_eq, beq_eq_false_iff_ne, bne_iff_ne, bne_eq_false_iff_eq, ne_eq] at hc115
                  try simp only [toNat0, toNat1, toNat2, Int.toNat_natCast, sb_mk] at hc115
                  try simp only [decide_eq_true_eq, decide_eq_false_iff_not, beq_iff_eq, beq_eq_false_iff_ne, bne_iff_ne, bne_eq_false_iff_eq, ne_eq] at hc123
                  try simp only [toNat0, toNat1, toNat2, Int.toNat_natCast, sb_mk] at hc123
                  try simp only [decide_eq_true_eq, decide_eq_false_iff_not, beq_iff_eq, beq_eq_false_iff_ne, bne_iff_ne, bne_eq_false_iff_eq, ne_eq] at hc126
                  try simp only [toNat0, toNat1, toNat2, Int.toNat_natCast, sb_mk] at hc126
                  simp (disch := omega) only [allP, sb_mk, sl1, toNat0, toNat1, toNat2, Int.toNat_natCast, List.take_length, List.take_succ_cons, List.drop_succ_cons, List.drop_zero, List.take_zero, List.length_cons, List.length_nil, List.getD_cons_zero, i64_wrap, i32_wrap, u8_wrap, u32_wrap, tdN, tmN, i64_min, i64_max, u8_min, u8_max, decide_eq_true_eq, decide_eq_false_iff_not, beq_iff_eq, beq_eq_false_iff_ne, bne_iff_ne, bne_eq_false_iff_eq, ne_eq, not_false_eq_true, and_true, true_and, Int.zero_sub, List.length_append, List.length_take, List.length_drop, UInt8.ofNat_toNat]
                  repeat' apply And.intro
                  all_goals first | exact True.intro | omega | with_reducible rfl | with_reducible assumption | with_reducible exact bytesOK1 c | (rw [h6 (by omega)]; rfl) | (with_reducible exact h7 (by omega) (by omega)) | (rw [h8 (by omega) (by omega) (by omega) (by omega) (by omega) (by omega)]; rfl) | exact h1 | exact ht | exact h2 | exact h3 | exact h4 | exact h5 | exact h6 | rfl
        | false =>
          have eR := form_38 l t a c more twice
          refine ⟨_, _, eR.trans (congrArg (fun r => some (r, _)) ?_), ?_⟩
          · try clear eR
            rfl
          · try clear eR
            try simp only [decide_eq_true_eq, decide_eq_false_iff_not, beq_iff_eq, beq_eq_false_iff_ne, bne_iff_ne, bne_eq_false_iff_eq, ne_eq] at hc59
            try simp only [toNat0, toNat1, toNat2, Int.toNat_natCast, sb_mk] at hc59
            try simp only [decide_eq_true_eq, decide_eq_false_iff_not, beq_iff_eq, beq_eq_false_iff_ne, bne_iff_ne, bne_eq_false_iff_eq, ne_eq] at hc67
            try simp only [toNat0, toNat1, toNat2, Int.toNat_natCast, sb_mk] at hc67
            try simp only [decide_eq_true_eq, decide_eq_false_iff_not, beq_iff_eq, beq_eq_false_iff_ne, bne_iff_ne, bne_eq_false_iff_eq, ne_eq] at hc71
            try simp only [toNat0, toNat1, toNat2, Int.toNat_natCast, sb_mk] at hc71
            try simp only [decide_eq_true_eq, decide_eq_false_iff_not, beq_iff_eq, beq_eq_false_iff_ne, bne_iff_ne, bne_eq_false_iff_eq, ne_eq] at hc75
            try simp only [toNat0, toNat1, toNat2, Int.toNat_natCast, sb_mk] at hc75
            simp (disch := omega) only [allP, sb_mk, sl1, toNat0, toNat1, toNat2, Int.toNat_natCast, List.take_length, List.take_succ_cons, List.drop_succ_cons, List.drop_zero, List.take_zero, List.length_cons, List.length_nil, List.getD_cons_zero, i64_wrap, i32_wrap, u8_wrap, u32_wrap, tdN, tmN, i64_min, i64_max, u8_min, u8_max, decide_eq_true_eq, decide_eq_false_iff_not, beq_iff_eq, beq_eq_false_iff_ne, bne_iff_ne, bne_eq_false_iff_eq, ne_eq, not_false_eq_true, and_true, true_and, Int.zero_sub, List.length_append, List.length_take, List.length_drop, UInt8.ofNat_toNat]
            repeat' apply And.intro
            all_goals first | exact True.intro | omega | with_reducible rfl | with_reducible assumption | with_reducible exact bytesOK1 c | (rw [h6 (by omega)]; rfl) | (with_reducible exact h7 (by omega) (by omega)) | (rw [h8 (by omega) (by omega) (by omega) (by omega) (by omega) (by omega)]; rfl) | exact h1 | exact ht | exact h2 | exact h3 | exact h4 | exact h5 | exact h6 | rfl

theorem getD_head {l : List UInt8} (h : 0 < l.length) (n : Nat) (hn : n < 256) : ((l.getD 0 0).toNat : Int) = n ↔ l.head? = some (UInt8.ofNat n) := by
  cases l with
  | nil => simp at h
  | cons c r =>
    simp only [List.getD_cons_zero, List.head?_cons, Option.some.injEq]
    constructor
    · exact fun h => u8_of hn h
    · rintro rfl; rw [UInt8.toNat_ofNat']; omega

theorem not_ch {c : UInt8} (h1 : (c.toNat : Int) < 48 ∨ 57 < (c.toNat : Int)) (h2 : ¬ (c.toNat : Int) = 46) (h3 : ¬ (c.toNat : Int) = 45) (h4 : ¬ (c.toNat : Int) = 43) (h5 : ¬ (c.toNat : Int) = 101) (h6 : ¬ (c.toNat : Int) = 69) : ¬ chF c := by
  unfold chF isD
  rintro (h | h | h | h | h | h)
  · simp only [decide_eq_true_eq] at h; omega
  all_goals subst h
  · exact h2 rfl
  · exact h3 rfl
  · exact h4 rfl
  · exact h5 rfl
  · exact h6 rfl

theorem form_law (l : List UInt8) (a : Int) (c : UInt8) (ll : l.length ≤ 9223372036854775807) : ∃ hs lp fuel p, LpOK Ext0 Try.prog lp ∧ lawOut (aBody Try.prog clT hs lp fuel 7 [.c (str l), .c (.int .i64 a), .c (.int .u8 (c.toNat : Nat))] []) = some (.c (.bool true), p) ∧ allP p := by
  by_cases h50 : (l.length : Int) > 50
  · obtain ⟨hh, p, e, hp⟩ := formE1_all l a c _ rfl ll h50
    exact ⟨_, _, _, _, lpBy_nil, e, hp⟩
  · cases hi : (floatF l).isSome with
    | false =>
      obtain ⟨hh, p, e, hp⟩ := formE2_all l a c false hi ll (by omega) hi
      exact ⟨_, _, _, _, lpBy_nil, e, hp⟩
    | true =>
      by_cases ha : a < 0 ∨ a > (l.length : Int)
      · obtain ⟨hh, p, e, hp⟩ := formE3_all l a c true hi ll (by omega) ha
        exact ⟨_, _, _, _, lpBy_nil, e, hp⟩
      · obtain ⟨a, rfl⟩ : ∃ k : Nat, a = (k : Int) := ⟨a.toNat, by omega⟩
        have hne : floatF l ≠ none := Option.isSome_iff_ne_none.1 hi
        have hpos : 0 < l.length := by
          obtain ⟨_, x, y, e, _⟩ := float_ok hne
          rw [e]; simp
        have hneg := float_neg_ok hne
        have h45 := getD_head hpos 45 (by omega)
        obtain ⟨hh, p, e, hp⟩ := form_all l _ a c _ _ hi (by omega) (by omega) hpos rfl (by simp only [List.length_append, List.length_take, List.length_drop, List.length_cons, List.length_nil]; omega) rfl rfl
          (by show (floatF (43 :: l)).isSome = false; rw [float_plus]; rfl) (by rw [float_end]; rfl)
          (fun h => by
            have hl := h45.1 h
            cases l with
            | nil => simp at hpos
            | cons x r =>
              simp only [List.head?_cons, Option.some.injEq] at hl
              subst hl
              show (floatF (45 :: 45 :: r)).isSome = false
              rw [float_twice]; rfl)
          (fun hc h0 => by
            obtain rfl : a = 0 := by omega
            obtain rfl := u8_of (n := 45) (by omega) hc
            show (floatF (45 :: l)).isSome = _
            by_cases hl : l.head? = some 45
            · have : floatF (45 :: l) = none := by
                by_cases h : floatF (45 :: l) = none
                · exact h
                · exact absurd hl (hneg.1 h)
              rw [this, h45.2 hl]; rfl
            · rw [Option.isSome_iff_ne_none.2 (hneg.2 hl)]
              exact (bne_iff_ne.2 fun h => hl (h45.1 h)).symm)
          (fun g1 g2 g3 g4 g5 g6 => by rw [float_strange (not_ch g1 g2 g3 g4 g5 g6)]; rfl)
        exact ⟨_, _, _, _, lpBy_nil, e, hp⟩

theorem form_walk (a0 : ByteArray) (a1 : Int) (a2 : Int) (w0 : a0.size ≤ maxLen) (w1 : (Lit.int .i64 a1).wf = true) (w2 : (Lit.int .u8 a2).wf = true) (w : World) :
    Calls Try.prog 7 #[.string a0, .int .i64 a1, .int .u8 a2] w fun e w' => e = .returned (.bool true) ∧ Below w.heap.size w w' := by
  obtain ⟨⟨l⟩⟩ := a0
  obtain ⟨h0, h1⟩ := u8_wf w2
  obtain ⟨c, rfl⟩ := u8_cast h0 h1
  exact law_conc mixed clT_ok [str l, .int .i64 a1, .int .u8 (c.toNat : Nat)] (glOK_none w) (form_law l a1 c (str_wf w0))

end Go.Proofs.Ytigglgobiofalaa
