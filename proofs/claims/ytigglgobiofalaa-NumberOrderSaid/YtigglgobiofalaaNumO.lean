/- The laws of numbers: the order. -/
import Derived.Test.YtigglgobiofalaaNumN
namespace Go.Proofs.Ytigglgobiofalaa
open Go.RowKit Num Ieee
set_option linter.unusedVariables false
set_option linter.unusedSimpArgs false

theorem ordE_1 (m n k : Int) : lawOut (aBody Try.prog clT ⟨true, bs [(17, true)] ++ ([])⟩ (lpBy ([])) 60 6 ([.c (.int .i64 m), .c (.int .i64 n), .c (.int .i64 k)]) ([])) = some ((AV.c ((Value.bool true))), [((decide (m < (0 : Int)) : Bool)) = (true)]) := by kernel_rfl

theorem ordE_2 (m n k : Int) : lawOut (aBody Try.prog clT ⟨true, bs [(17, false), (21, true)] ++ ([])⟩ (lpBy ([])) 60 6 ([.c (.int .i64 m), .c (.int .i64 n), .c (.int .i64 k)]) ([])) = some ((AV.c ((Value.bool true))), [((decide (m < (0 : Int)) : Bool)) = (false),
 ((decide (n < m) : Bool)) = (true)]) := by kernel_rfl

theorem ordE_3 (m n k : Int) : lawOut (aBody Try.prog clT ⟨true, bs [(17, false), (21, false), (25, true)] ++ ([])⟩ (lpBy ([])) 60 6 ([.c (.int .i64 m), .c (.int .i64 n), .c (.int .i64 k)]) ([])) = some ((AV.c ((Value.bool true))), [((decide (m < (0 : Int)) : Bool)) = (false),
 ((decide (n < m) : Bool)) = (false),
 ((decide (n ≥ (1000000000000000 : Int)) : Bool)) = (true)]) := by kernel_rfl

theorem ordE_4 (m n k : Int) : lawOut (aBody Try.prog clT ⟨true, bs [(17, false), (21, false), (25, false), (29, true)] ++ ([])⟩ (lpBy ([])) 60 6 ([.c (.int .i64 m), .c (.int .i64 n), .c (.int .i64 k)]) ([])) = some ((AV.c ((Value.bool true))), [((decide (m < (0 : Int)) : Bool)) = (false),
 ((decide (n < m) : Bool)) = (false),
 ((decide (n ≥ (1000000000000000 : Int)) : Bool)) = (false),
 ((decide (k < (-22 : Int)) : Bool)) = (true)]) := by kernel_rfl

theorem ordE_5 (m n k : Int) : lawOut (aBody Try.prog clT ⟨true, bs [(17, false), (21, false), (25, false), (29, false), (33, true)] ++ ([])⟩ (lpBy ([])) 60 6 ([.c (.int .i64 m), .c (.int .i64 n), .c (.int .i64 k)]) ([])) = some ((AV.c ((Value.bool true))), [((decide (m < (0 : Int)) : Bool)) = (false),
 ((decide (n < m) : Bool)) = (false),
 ((decide (n ≥ (1000000000000000 : Int)) : Bool)) = (false),
 ((decide (k < (-22 : Int)) : Bool)) = (false),
 ((decide (k > (22 : Int)) : Bool)) = (true)]) := by kernel_rfl

theorem ordE_all (m n k : Int) (h0 : m < 0 ∨ n < m ∨ n ≥ 1000000000000000 ∨ k < -22 ∨ k > 22) : ∃ (h : Hints) (p : List Prop), lawOut (aBody Try.prog clT h (lpBy ([])) 60 6 ([.c (.int .i64 m), .c (.int .i64 n), .c (.int .i64 k)]) ([])) = some (.c (.bool true), p) ∧ allP p := by
  cases hc17 : (decide (m < (0 : Int)) : Bool) with
  | true =>
    have eR := ordE_1 m n k
    refine ⟨_, _, eR.trans (congrArg (fun r => some (r, _)) ?_), ?_⟩
    · try clear eR
      rfl
    · try clear eR
      try simp only [decide_eq_true_eq, decide_eq_false_iff_not, beq_iff_eq, beq_eq_false_iff_ne, bne_iff_ne, bne_eq_false_iff_eq, ne_eq] at hc17
      try simp only [toNat0, toNat1, toNat2, Int.toNat_natCast, sb_mk] at hc17
      simp (disch := omega) only [allP, sb_mk, sl1, toNat0, toNat1, toNat2, Int.toNat_natCast, List.take_length, List.take_succ_cons, List.drop_succ_cons, List.drop_zero, List.take_zero, List.length_cons, List.length_nil, List.getD_cons_zero, i64_wrap, i32_wrap, u8_wrap, u32_wrap, tdN, tmN, i64_min, i64_max, u8_min, u8_max, decide_eq_true_eq, decide_eq_false_iff_not, beq_iff_eq, beq_eq_false_iff_ne, bne_iff_ne, bne_eq_false_iff_eq, ne_eq, not_false_eq_true, and_true, true_and, Int.zero_sub]
      repeat' apply And.intro
      all_goals first | exact True.intro | omega | with_reducible rfl | with_reducible assumption | rfl
  | false =>
    cases hc21 : (decide (n < m) : Bool) with
    | true =>
      have eR := ordE_2 m n k
      refine ⟨_, _, eR.trans (congrArg (fun r => some (r, _)) ?_), ?_⟩
      · try clear eR
        rfl
      · try clear eR
        try simp only [decide_eq_true_eq, decide_eq_false_iff_not, beq_iff_eq, beq_eq_false_iff_ne, bne_iff_ne, bne_eq_false_iff_eq, ne_eq] at hc17
        try simp only [toNat0, toNat1, toNat2, Int.toNat_natCast, sb_mk] at hc17
        try simp only [decide_eq_true_eq, decide_eq_false_iff_not, beq_iff_eq, beq_eq_false_iff_ne, bne_iff_ne, bne_eq_false_iff_eq, ne_eq] at hc21
        try simp only [toNat0, toNat1, toNat2, Int.toNat_natCast, sb_mk] at hc21
        simp (disch := omega) only [allP, sb_mk, sl1, toNat0, toNat1, toNat2, Int.toNat_natCast, List.take_length, List.take_succ_cons, List.drop_succ_cons, List.drop_zero, List.take_zero, List.length_cons, List.length_nil, List.getD_cons_zero, i64_wrap, i32_wrap, u8_wrap, u32_wrap, tdN, tmN, i64_min, i64_max, u8_min, u8_max, decide_eq_true_eq, decide_eq_false_iff_not, beq_iff_eq, beq_eq_false_iff_ne, bne_iff_ne, bne_eq_false_iff_eq, ne_eq, not_false_eq_true, and_true, true_and, Int.zero_sub]
        repeat' apply And.intro
        all_goals first | exact True.intro | omega | with_reducible rfl | with_reducible assumption | rfl
    | false =>
      cases hc25 : (decide (n ≥ (1000000000000000 : Int)) : Bool) with
      | true =>
        have eR := ordE_3 m n k
        refine ⟨_, _, eR.trans (congrArg (fun r => some (r, _)) ?_), ?_⟩
        · try clear eR
          rfl
        · try clear eR
          try simp only [decide_eq_true_eq, decide_eq_false_iff_not, beq_iff_eq, beq_eq_false_iff_ne, bne_iff_ne, bne_eq_false_iff_eq, ne_eq] at hc17
          try simp only [toNat0, toNat1, toNat2, Int.toNat_natCast, sb_mk] at hc17
          try simp only [decide_eq_true_eq, decide_eq_false_iff_not, beq_iff_eq, beq_eq_false_iff_ne, bne_iff_ne, bne_eq_false_iff_eq, ne_eq] at hc21
          try simp only [toNat0, toNat1, toNat2, Int.toNat_natCast, sb_mk] at hc21
          try simp only [decide_eq_true_eq, decide_eq_false_iff_not, beq_iff_eq, beq_eq_false_iff_ne, bne_iff_ne, bne_eq_false_iff_eq, ne_eq] at hc25
          try simp only [toNat0, toNat1, toNat2, Int.toNat_natCast, sb_mk] at hc25
          simp (disch := omega) only [allP, sb_mk, sl1, toNat0, toNat1, toNat2, Int.toNat_natCast, List.take_length, List.take_succ_cons, List.drop_succ_cons, List.drop_zero, List.take_zero, List.length_cons, List.length_nil, List.getD_cons_zero, i64_wrap, i32_wrap, u8_wrap, u32_wrap, tdN, tmN, i64_min, i64_max, u8_min, u8_max, decide_eq_true_eq, decide_eq_false_iff_not, beq_iff_eq, beq_eq_false_iff_ne, bne_iff_ne, bne_eq_false_iff_eq, ne_eq, not_false_eq_true, and_true, true_and, Int.zero_sub]
          repeat' apply And.intro
          all_goals first | exact True.intro | omega | with_reducible rfl | with_reducible assumption | rfl
      | false =>
        cases hc29 : (decide (k < (-22 : Int)) : Bool) with
        | true =>
          have eR := ordE_4 m n k
          refine ⟨_, _, eR.trans (congrArg (fun r => some (r, _)) ?_), ?_⟩
          · try clear eR
            rfl
          · try clear eR
            try simp only [decide_eq_true_eq, decide_eq_false_iff_not, beq_iff_eq, beq_eq_false_iff_ne, bne_iff_ne, bne_eq_false_iff_eq, ne_eq] at hc17
            try simp only [toNat0, toNat1, toNat2, Int.toNat_natCast, sb_mk] at hc17
            try simp only [decide_eq_true_eq, decide_eq_false_iff_not, beq_iff_eq, beq_eq_false_iff_ne, bne_iff_ne, bne_eq_false_iff_eq, ne_eq] at hc21
            try simp only [toNat0, toNat1, toNat2, Int.toNat_natCast, sb_mk] at hc21
            try simp only [decide_eq_true_eq, decide_eq_false_iff_not, beq_iff_eq, beq_eq_false_iff_ne, bne_iff_ne, bne_eq_false_iff_eq, ne_eq] at hc25
            try simp only [toNat0, toNat1, toNat2, Int.toNat_natCast, sb_mk] at hc25
            try simp only [decide_eq_true_eq, decide_eq_false_iff_not, beq_iff_eq, beq_eq_false_iff_ne, bne_iff_ne, bne_eq_false_iff_eq, ne_eq] at hc29
            try simp only [toNat0, toNat1, toNat2, Int.toNat_natCast, sb_mk] at hc29
            simp (disch := omega) only [allP, sb_mk, sl1, toNat0, toNat1, toNat2, Int.toNat_natCast, List.take_length, List.take_succ_cons, List.drop_succ_cons, List.drop_zero, List.take_zero, List.length_cons, List.length_nil, List.getD_cons_zero, i64_wrap, i32_wrap, u8_wrap, u32_wrap, tdN, tmN, i64_min, i64_max, u8_min, u8_max, decide_eq_true_eq, decide_eq_false_iff_not, beq_iff_eq, beq_eq_false_iff_ne, bne_iff_ne, bne_eq_false_iff_eq, ne_eq, not_false_eq_true, and_true, true_and, Int.zero_sub]
            repeat' apply And.intro
            all_goals first | exact True.intro | omega | with_reducible rfl | with_reducible assumption | rfl
        | false =>
          have eR := ordE_5 m n k
          refine ⟨_, _, eR.trans (congrArg (fun r => some (r, _)) ?_), ?_⟩
          · try clear eR
            rfl
          · try clear eR
            try simp only [decide_eq_true_eq, decide_eq_false_iff_not, beq_iff_eq, beq_eq_false_iff_ne, bne_iff_ne, bne_eq_false_iff_eq, ne_eq] at hc17
            try simp only [toNat0, toNat1, toNat2, Int.toNat_natCast, sb_mk] at hc17
            try simp only [decide_eq_true_eq, decide_eq_false_iff_not, beq_iff_eq, beq_eq_false_iff_ne, bne_iff_ne, bne_eq_false_iff_eq, ne_eq] at hc21
            try simp only [toNat0, toNat1, toNat2, Int.toNat_natCast, sb_mk] at hc21
            try simp only [decide_eq_true_eq, decide_eq_false_iff_not, beq_iff_eq, beq_eq_false_iff_ne, bne_iff_ne, bne_eq_false_iff_eq, ne_eq] at hc25
            try simp only [toNat0, toNat1, toNat2, Int.toNat_natCast, sb_mk] at hc25
            try simp only [decide_eq_true_eq, decide_eq_false_iff_not, beq_iff_eq, beq_eq_false_iff_ne, bne_iff_ne, bne_eq_false_iff_eq, ne_eq] at hc29
            try simp only [toNat0, toNat1, toNat2, Int.toNat_natCast, sb_mk] at hc29
            simp (disch := omega) only [allP, sb_mk, sl1, toNat0, toNat1, toNat2, Int.toNat_natCast, List.take_length, List.take_succ_cons, List.drop_succ_cons, List.drop_zero, List.take_zero, List.length_cons, List.length_nil, List.getD_cons_zero, i64_wrap, i32_wrap, u8_wrap, u32_wrap, tdN, tmN, i64_min, i64_max, u8_min, u8_max, decide_eq_true_eq, decide_eq_false_iff_not, beq_iff_eq, beq_eq_false_iff_ne, bne_iff_ne, bne_eq_false_iff_eq, ne_eq, not_false_eq_true, and_true, true_and, Int.zero_sub]
            repeat' apply And.intro
            all_goals first | exact True.intro | omega | with_reducible rfl | with_reducible assumption | rfl

theorem ordP_1 (m n k : Int) (d e d0 e0 sm sn t1 t2 t3 : List UInt8) (a c f : Nat) : lawOut (aBody Try.prog clT ⟨true, bs [(17, false), (21, false), (25, false), (29, false), (33, false), (41, false), (98, true), (107, true)] ++ (bs [(83, true), (88, true), (94, true), (101, true), (110, true)] ++ [(37, ⟨.c (.int .i64 k), none⟩), (38, ⟨.c (str d), none⟩), (39, ⟨.c (str e), none⟩), (48, ⟨.c (str sm), none⟩), (50, ⟨.c (str t1), none⟩), (52, ⟨.c (.float .f64 a), none⟩), (53, ⟨.c (.bool true), none⟩), (56, ⟨.c (str sn), none⟩), (58, ⟨.c (str t2), none⟩), (60, ⟨.c (.float .f64 c), none⟩), (61, ⟨.c (.bool true), none⟩), (64, ⟨.c (str sn), none⟩), (67, ⟨.c (str t3), none⟩), (69, ⟨.c (.float .f64 f), none⟩), (70, ⟨.c (.bool true), none⟩)])⟩ (lpBy ([])) 60 6 ([.c (.int .i64 m), .c (.int .i64 n), .c (.int .i64 k)]) ([])) = some ((AV.c ((Value.bool true))), [((decide (m < (0 : Int)) : Bool)) = (false),
 ((decide (n < m) : Bool)) = (false),
 ((decide (n ≥ (1000000000000000 : Int)) : Bool)) = (false),
 ((decide (k < (-22 : Int)) : Bool)) = (false),
 ((decide (k > (22 : Int)) : Bool)) = (false),
 ((if (0 : Int) > k then (0 : Int) else k : Int)) = (k),
 (0 : Int) ≤ k ∧ k ≤ (9223372036854775807 : Int),
 (0 : Int) ≤ (0 : Int) ∧ (0 : Int) ≤ (1000 : Int),
 ((digZ k.toNat (Int.toNat (0 : Int)) : List UInt8)) = (d),
 (((1 : Nat) + d.length : Nat) ≤ ((9223372036854775807 : Nat))),
 (([(101 : UInt8)] ++ d : List UInt8)) = (e),
 ((decide (k < (0 : Int)) : Bool)) = (false),
 (0 : Int) ≤ m ∧ m ≤ (9223372036854775807 : Int),
 (0 : Int) ≤ (0 : Int) ∧ (0 : Int) ≤ (1000 : Int),
 ((digZ m.toNat (Int.toNat (0 : Int)) : List UInt8)) = (sm),
 ((sm.length + e.length : Nat) ≤ ((9223372036854775807 : Nat))),
 ((sm ++ e : List UInt8)) = (t1),
 ((t1.length : Nat) ≤ ((9223372036854775807 : Nat))),
 avEq ((AV.c ((Value.float .f64 (fltW (floatF (sb { data := { toList := t1 } }))))))) ((AV.c ((Value.float .f64 a)))),
 (((floatF (sb { data := { toList := t1 } })).isSome : Bool)) = (true),
 (0 : Int) ≤ n ∧ n ≤ (9223372036854775807 : Int),
 (0 : Int) ≤ (0 : Int) ∧ (0 : Int) ≤ (1000 : Int),
 ((digZ n.toNat (Int.toNat (0 : Int)) : List UInt8)) = (sn),
 ((sn.length + e.length : Nat) ≤ ((9223372036854775807 : Nat))),
 ((sn ++ e : List UInt8)) = (t2),
 ((t2.length : Nat) ≤ ((9223372036854775807 : Nat))),
 avEq ((AV.c ((Value.float .f64 (fltW (floatF (sb { data := { toList := t2 } }))))))) ((AV.c ((Value.float .f64 c)))),
 (((floatF (sb { data := { toList := t2 } })).isSome : Bool)) = (true),
 (0 : Int) ≤ n ∧ n ≤ (9223372036854775807 : Int),
 (0 : Int) ≤ (0 : Int) ∧ (0 : Int) ≤ (1000 : Int),
 ((digZ n.toNat (Int.toNat (0 : Int)) : List UInt8)) = (sn),
 (((1 : Nat) + sn.length : Nat) ≤ ((9223372036854775807 : Nat))),
 ((([(45 : UInt8)] ++ sn).length + e.length : Nat) ≤ ((9223372036854775807 : Nat))),
 (([(45 : UInt8)] ++ sn ++ e : List UInt8)) = (t3),
 ((t3.length : Nat) ≤ ((9223372036854775807 : Nat))),
 avEq ((AV.c ((Value.float .f64 (fltW (floatF (sb { data := { toList := t3 } }))))))) ((AV.c ((Value.float .f64 f)))),
 (((floatF (sb { data := { toList := t3 } })).isSome : Bool)) = (true),
 ((FloatKind.f64.format.order a (0 : Nat) == some Ordering.gt || FloatKind.f64.format.order a (0 : Nat) == some Ordering.eq : Bool)) = (true),
 ((FloatKind.f64.format.order a c == some Ordering.lt || FloatKind.f64.format.order a c == some Ordering.eq : Bool)) = (true),
 ((FloatKind.f64.format.order f (Op.negFloat FloatKind.f64 c) == some Ordering.eq : Bool)) = (true),
 ((m == (0 : Int) : Bool)) = (true),
 ((m == n : Bool)) = (true)]) := by kernel_rfl

theorem ordP_2 (m n k : Int) (d e d0 e0 sm sn t1 t2 t3 : List UInt8) (a c f : Nat) : lawOut (aBody Try.prog clT ⟨true, bs [(17, false), (21, false), (25, false), (29, false), (33, false), (41, false), (98, true), (107, false)] ++ (bs [(83, true), (88, true), (94, true), (101, true), (110, true)] ++ [(37, ⟨.c (.int .i64 k), none⟩), (38, ⟨.c (str d), none⟩), (39, ⟨.c (str e), none⟩), (48, ⟨.c (str sm), none⟩), (50, ⟨.c (str t1), none⟩), (52, ⟨.c (.float .f64 a), none⟩), (53, ⟨.c (.bool true), none⟩), (56, ⟨.c (str sn), none⟩), (58, ⟨.c (str t2), none⟩), (60, ⟨.c (.float .f64 c), none⟩), (61, ⟨.c (.bool true), none⟩), (64, ⟨.c (str sn), none⟩), (67, ⟨.c (str t3), none⟩), (69, ⟨.c (.float .f64 f), none⟩), (70, ⟨.c (.bool true), none⟩)])⟩ (lpBy ([])) 60 6 ([.c (.int .i64 m), .c (.int .i64 n), .c (.int .i64 k)]) ([])) = some ((AV.c ((Value.bool true))), [((decide (m < (0 : Int)) : Bool)) = (false),
 ((decide (n < m) : Bool)) = (false),
 ((decide (n ≥ (1000000000000000 : Int)) : Bool)) = (false),
 ((decide (k < (-22 : Int)) : Bool)) = (false),
 ((decide (k > (22 : Int)) : Bool)) = (false),
 ((if (0 : Int) > k then (0 : Int) else k : Int)) = (k),
 (0 : Int) ≤ k ∧ k ≤ (9223372036854775807 : Int),
 (0 : Int) ≤ (0 : Int) ∧ (0 : Int) ≤ (1000 : Int),
 ((digZ k.toNat (Int.toNat (0 : Int)) : List UInt8)) = (d),
 (((1 : Nat) + d.length : Nat) ≤ ((9223372036854775807 : Nat))),
 (([(101 : UInt8)] ++ d : List UInt8)) = (e),
 ((decide (k < (0 : Int)) : Bool)) = (false),
 (0 : Int) ≤ m ∧ m ≤ (9223372036854775807 : Int),
 (0 : Int) ≤ (0 : Int) ∧ (0 : Int) ≤ (1000 : Int),
 ((digZ m.toNat (Int.toNat (0 : Int)) : List UInt8)) = (sm),
 ((sm.length + e.length : Nat) ≤ ((9223372036854775807 : Nat))),
 ((sm ++ e : List UInt8)) = (t1),
 ((t1.length : Nat) ≤ ((9223372036854775807 : Nat))),
 avEq ((AV.c ((Value.float .f64 (fltW (floatF (sb { data := { toList := t1 } }))))))) ((AV.c ((Value.float .f64 a)))),
 (((floatF (sb { data := { toList := t1 } })).isSome : Bool)) = (true),
 (0 : Int) ≤ n ∧ n ≤ (9223372036854775807 : Int),
 (0 : Int) ≤ (0 : Int) ∧ (0 : Int) ≤ (1000 : Int),
 ((digZ n.toNat (Int.toNat (0 : Int)) : List UInt8)) = (sn),
 ((sn.length + e.length : Nat) ≤ ((9223372036854775807 : Nat))),
 ((sn ++ e : List UInt8)) = (t2),
 ((t2.length : Nat) ≤ ((9223372036854775807 : Nat))),
 avEq ((AV.c ((Value.float .f64 (fltW (floatF (sb { data := { toList := t2 } }))))))) ((AV.c ((Value.float .f64 c)))),
 (((floatF (sb { data := { toList := t2 } })).isSome : Bool)) = (true),
 (0 : Int) ≤ n ∧ n ≤ (9223372036854775807 : Int),
 (0 : Int) ≤ (0 : Int) ∧ (0 : Int) ≤ (1000 : Int),
 ((digZ n.toNat (Int.toNat (0 : Int)) : List UInt8)) = (sn),
 (((1 : Nat) + sn.length : Nat) ≤ ((9223372036854775807 : Nat))),
 ((([(45 : UInt8)] ++ sn).length + e.length : Nat) ≤ ((9223372036854775807 : Nat))),
 (([(45 : UInt8)] ++ sn ++ e : List UInt8)) = (t3),
 ((t3.length : Nat) ≤ ((9223372036854775807 : Nat))),
 avEq ((AV.c ((Value.float .f64 (fltW (floatF (sb { data := { toList := t3 } }))))))) ((AV.c ((Value.float .f64 f)))),
 (((floatF (sb { data := { toList := t3 } })).isSome : Bool)) = (true),
 ((FloatKind.f64.format.order a (0 : Nat) == some Ordering.gt || FloatKind.f64.format.order a (0 : Nat) == some Ordering.eq : Bool)) = (true),
 ((FloatKind.f64.format.order a c == some Ordering.lt || FloatKind.f64.format.order a c == some Ordering.eq : Bool)) = (true),
 ((FloatKind.f64.format.order f (Op.negFloat FloatKind.f64 c) == some Ordering.eq : Bool)) = (true),
 ((m == (0 : Int) : Bool)) = (true),
 ((m == n : Bool)) = (false),
 ((FloatKind.f64.format.order c (0 : Nat) == some Ordering.gt : Bool)) = (true)]) := by kernel_rfl

theorem ordP_3 (m n k : Int) (d e d0 e0 sm sn t1 t2 t3 : List UInt8) (a c f : Nat) : lawOut (aBody Try.prog clT ⟨true, bs [(17, false), (21, false), (25, false), (29, false), (33, false), (41, false), (98, false), (107, true)] ++ (bs [(83, true), (88, true), (94, true), (101, true), (110, true)] ++ [(37, ⟨.c (.int .i64 k), none⟩), (38, ⟨.c (str d), none⟩), (39, ⟨.c (str e), none⟩), (48, ⟨.c (str sm), none⟩), (50, ⟨.c (str t1), none⟩), (52, ⟨.c (.float .f64 a), none⟩), (53, ⟨.c (.bool true), none⟩), (56, ⟨.c (str sn), none⟩), (58, ⟨.c (str t2), none⟩), (60, ⟨.c (.float .f64 c), none⟩), (61, ⟨.c (.bool true), none⟩), (64, ⟨.c (str sn), none⟩), (67, ⟨.c (str t3), none⟩), (69, ⟨.c (.float .f64 f), none⟩), (70, ⟨.c (.bool true), none⟩)])⟩ (lpBy ([])) 60 6 ([.c (.int .i64 m), .c (.int .i64 n), .c (.int .i64 k)]) ([])) = some ((AV.c ((Value.bool true))), [((decide (m < (0 : Int)) : Bool)) = (false),
 ((decide (n < m) : Bool)) = (false),
 ((decide (n ≥ (1000000000000000 : Int)) : Bool)) = (false),
 ((decide (k < (-22 : Int)) : Bool)) = (false),
 ((decide (k > (22 : Int)) : Bool)) = (false),
 ((if (0 : Int) > k then (0 : Int) else k : Int)) = (k),
 (0 : Int) ≤ k ∧ k ≤ (9223372036854775807 : Int),
 (0 : Int) ≤ (0 : Int) ∧ (0 : Int) ≤ (1000 : Int),
 ((digZ k.toNat (Int.toNat (0 : Int)) : List UInt8)) = (d),
 (((1 : Nat) + d.length : Nat) ≤ ((9223372036854775807 : Nat))),
 (([(101 : UInt8)] ++ d : List UInt8)) = (e),
 ((decide (k < (0 : Int)) : Bool)) = (false),
 (0 : Int) ≤ m ∧ m ≤ (9223372036854775807 : Int),
 (0 : Int) ≤ (0 : Int) ∧ (0 : Int) ≤ (1000 : Int),
 ((digZ m.toNat (Int.toNat (0 : Int)) : List UInt8)) = (sm),
 ((sm.length + e.length : Nat) ≤ ((9223372036854775807 : Nat))),
 ((sm ++ e : List UInt8)) = (t1),
 ((t1.length : Nat) ≤ ((9223372036854775807 : Nat))),
 avEq ((AV.c ((Value.float .f64 (fltW (floatF (sb { data := { toList := t1 } }))))))) ((AV.c ((Value.float .f64 a)))),
 (((floatF (sb { data := { toList := t1 } })).isSome : Bool)) = (true),
 (0 : Int) ≤ n ∧ n ≤ (9223372036854775807 : Int),
 (0 : Int) ≤ (0 : Int) ∧ (0 : Int) ≤ (1000 : Int),
 ((digZ n.toNat (Int.toNat (0 : Int)) : List UInt8)) = (sn),
 ((sn.length + e.length : Nat) ≤ ((9223372036854775807 : Nat))),
 ((sn ++ e : List UInt8)) = (t2),
 ((t2.length : Nat) ≤ ((9223372036854775807 : Nat))),
 avEq ((AV.c ((Value.float .f64 (fltW (floatF (sb { data := { toList := t2 } }))))))) ((AV.c ((Value.float .f64 c)))),
 (((floatF (sb { data := { toList := t2 } })).isSome : Bool)) = (true),
 (0 : Int) ≤ n ∧ n ≤ (9223372036854775807 : Int),
 (0 : Int) ≤ (0 : Int) ∧ (0 : Int) ≤ (1000 : Int),
 ((digZ n.toNat (Int.toNat (0 : Int)) : List UInt8)) = (sn),
 (((1 : Nat) + sn.length : Nat) ≤ ((9223372036854775807 : Nat))),
 ((([(45 : UInt8)] ++ sn).length + e.length : Nat) ≤ ((9223372036854775807 : Nat))),
 (([(45 : UInt8)] ++ sn ++ e : List UInt8)) = (t3),
 ((t3.length : Nat) ≤ ((9223372036854775807 : Nat))),
 avEq ((AV.c ((Value.float .f64 (fltW (floatF (sb { data := { toList := t3 } }))))))) ((AV.c ((Value.float .f64 f)))),
 (((floatF (sb { data := { toList := t3 } })).isSome : Bool)) = (true),
 ((FloatKind.f64.format.order a (0 : Nat) == some Ordering.gt || FloatKind.f64.format.order a (0 : Nat) == some Ordering.eq : Bool)) = (true),
 ((FloatKind.f64.format.order a c == some Ordering.lt || FloatKind.f64.format.order a c == some Ordering.eq : Bool)) = (true),
 ((FloatKind.f64.format.order f (Op.negFloat FloatKind.f64 c) == some Ordering.eq : Bool)) = (true),
 ((m == (0 : Int) : Bool)) = (false),
 ((FloatKind.f64.format.order a (0 : Nat) == some Ordering.gt : Bool)) = (true),
 ((m == n : Bool)) = (true)]) := by kernel_rfl

theorem ordP_4 (m n k : Int) (d e d0 e0 sm sn t1 t2 t3 : List UInt8) (a c f : Nat) : lawOut (aBody Try.prog clT ⟨true, bs [(17, false), (21, false), (25, false), (29, false), (33, false), (41, false), (98, false), (107, false)] ++ (bs [(83, true), (88, true), (94, true), (101, true), (110, true)] ++ [(37, ⟨.c (.int .i64 k), none⟩), (38, ⟨.c (str d), none⟩), (39, ⟨.c (str e), none⟩), (48, ⟨.c (str sm), none⟩), (50, ⟨.c (str t1), none⟩), (52, ⟨.c (.float .f64 a), none⟩), (53, ⟨.c (.bool true), none⟩), (56, ⟨.c (str sn), none⟩), (58, ⟨.c (str t2), none⟩), (60, ⟨.c (.float .f64 c), none⟩), (61, ⟨.c (.bool true), none⟩), (64, ⟨.c (str sn), none⟩), (67, ⟨.c (str t3), none⟩), (69, ⟨.c (.float .f64 f), none⟩), (70, ⟨.c (.bool true), none⟩)])⟩ (lpBy ([])) 60 6 ([.c (.int .i64 m), .c (.int .i64 n), .c (.int .i64 k)]) ([])) = some ((AV.c ((Value.bool true))), [((decide (m < (0 : Int)) : Bool)) = (false),
 ((decide (n < m) : Bool)) = (false),
 ((decide (n ≥ (1000000000000000 : Int)) : Bool)) = (false),
 ((decide (k < (-22 : Int)) : Bool)) = (false),
 ((decide (k > (22 : Int)) : Bool)) = (false),
 ((if (0 : Int) > k then (0 : Int) else k : Int)) = (k),
 (0 : Int) ≤ k ∧ k ≤ (9223372036854775807 : Int),
 (0 : Int) ≤ (0 : Int) ∧ (0 : Int) ≤ (1000 : Int),
 ((digZ k.toNat (Int.toNat (0 : Int)) : List UInt8)) = (d),
 (((1 : Nat) + d.length : Nat) ≤ ((9223372036854775807 : Nat))),
 (([(101 : UInt8)] ++ d : List UInt8)) = (e),
 ((decide (k < (0 : Int)) : Bool)) = (false),
 (0 : Int) ≤ m ∧ m ≤ (9223372036854775807 : Int),
 (0 : Int) ≤ (0 : Int) ∧ (0 : Int) ≤ (1000 : Int),
 ((digZ m.toNat (Int.toNat (0 : Int)) : List UInt8)) = (sm),
 ((sm.length + e.length : Nat) ≤ ((9223372036854775807 : Nat))),
 ((sm ++ e : List UInt8)) = (t1),
 ((t1.length : Nat) ≤ ((9223372036854775807 : Nat))),
 avEq ((AV.c ((Value.float .f64 (fltW (floatF (sb { data := { toList := t1 } }))))))) ((AV.c ((Value.float .f64 a)))),
 (((floatF (sb { data := { toList := t1 } })).isSome : Bool)) = (true),
 (0 : Int) ≤ n ∧ n ≤ (9223372036854775807 : Int),
 (0 : Int) ≤ (0 : Int) ∧ (0 : Int) ≤ (1000 : Int),
 ((digZ n.toNat (Int.toNat (0 : Int)) : List UInt8)) = (sn),
 ((sn.length + e.length : Nat) ≤ ((9223372036854775807 : Nat))),
 ((sn ++ e : List UInt8)) = (t2),
 ((t2.length : Nat) ≤ ((9223372036854775807 : Nat))),
 avEq ((AV.c ((Value.float .f64 (fltW (floatF (sb { data := { toList := t2 } }))))))) ((AV.c ((Value.float .f64 c)))),
 (((floatF (sb { data := { toList := t2 } })).isSome : Bool)) = (true),
 (0 : Int) ≤ n ∧ n ≤ (9223372036854775807 : Int),
 (0 : Int) ≤ (0 : Int) ∧ (0 : Int) ≤ (1000 : Int),
 ((digZ n.toNat (Int.toNat (0 : Int)) : List UInt8)) = (sn),
 (((1 : Nat) + sn.length : Nat) ≤ ((9223372036854775807 : Nat))),
 ((([(45 : UInt8)] ++ sn).length + e.length : Nat) ≤ ((9223372036854775807 : Nat))),
 (([(45 : UInt8)] ++ sn ++ e : List UInt8)) = (t3),
 ((t3.length : Nat) ≤ ((9223372036854775807 : Nat))),
 avEq ((AV.c ((Value.float .f64 (fltW (floatF (sb { data := { toList := t3 } }))))))) ((AV.c ((Value.float .f64 f)))),
 (((floatF (sb { data := { toList := t3 } })).isSome : Bool)) = (true),
 ((FloatKind.f64.format.order a (0 : Nat) == some Ordering.gt || FloatKind.f64.format.order a (0 : Nat) == some Ordering.eq : Bool)) = (true),
 ((FloatKind.f64.format.order a c == some Ordering.lt || FloatKind.f64.format.order a c == some Ordering.eq : Bool)) = (true),
 ((FloatKind.f64.format.order f (Op.negFloat FloatKind.f64 c) == some Ordering.eq : Bool)) = (true),
 ((m == (0 : Int) : Bool)) = (false),
 ((FloatKind.f64.format.order a (0 : Nat) == some Ordering.gt : Bool)) = (true),
 ((m == n : Bool)) = (false),
 ((FloatKind.f64.format.order c (0 : Nat) == some Ordering.gt : Bool)) = (true)]) := by kernel_rfl

theorem ordP_all (m n k : Int) (d e d0 e0 sm sn t1 t2 t3 : List UInt8) (a c f : Nat) (g0 : 0 ≤ m) (g1 : m ≤ n) (g2 : n < 1000000000000000) (g3 : -22 ≤ k) (g4 : k ≤ 22) (kk : 0 ≤ k) (hd : digZ k.toNat 0 = d) (he : [101] ++ d = e) (hm : digZ m.toNat 0 = sm) (hn : digZ n.toNat 0 = sn) (e1 : sm ++ e = t1) (e2 : sn ++ e = t2) (e3 : [45] ++ sn ++ e = t3) (l1 : t1.length ≤ 100) (l2 : t2.length ≤ 100) (l3 : t3.length ≤ 100) (l4 : sm.length ≤ 100) (l5 : sn.length ≤ 100) (l6 : d.length ≤ 100) (l7 : e.length ≤ 100) (f1 : fltW (floatF t1) = a) (f2 : (floatF t1).isSome = true) (f3 : fltW (floatF t2) = c) (f4 : (floatF t2).isSome = true) (f5 : fltW (floatF t3) = f) (f6 : (floatF t3).isSome = true) (o1 : (FloatKind.f64.format.order a 0 == some .gt || FloatKind.f64.format.order a 0 == some .eq) = true) (o2 : (FloatKind.f64.format.order a c == some .lt || FloatKind.f64.format.order a c == some .eq) = true) (o3 : (FloatKind.f64.format.order f (Op.negFloat .f64 c) == some .eq) = true) (o4 : ¬ m = 0 → FloatKind.f64.format.order a 0 = some .gt) (o5 : ¬ m = n → FloatKind.f64.format.order c 0 = some .gt) : ∃ (h : Hints) (p : List Prop), lawOut (aBody Try.prog clT h (lpBy ([])) 60 6 ([.c (.int .i64 m), .c (.int .i64 n), .c (.int .i64 k)]) ([])) = some (.c (.bool true), p) ∧ allP p := by
  cases hc98 : (m == (0 : Int) : Bool) with
  | true =>
    cases hc107 : (m == n : Bool) with
    | true =>
      have eR := ordP_1 m n k d e d0 e0 sm sn t1 t2 t3 a c f
      refine ⟨_, _, eR.trans (congrArg (fun r => some (r, _)) ?_), ?_⟩
      · try clear eR
        rfl
      · try clear eR
        try simp only [decide_eq_true_eq, decide_eq_false_iff_not, beq_iff_eq, beq_eq_false_iff_ne, bne_iff_ne, bne_eq_false_iff_eq, ne_eq] at hc98
        try simp only [toNat0, toNat1, toNat2, Int.toNat_natCast, sb_mk] at hc98
        try simp only [decide_eq_true_eq, decide_eq_false_iff_not, beq_iff_eq, beq_eq_false_iff_ne, bne_iff_ne, bne_eq_false_iff_eq, ne_eq] at hc107
        try simp only [toNat0, toNat1, toNat2, Int.toNat_natCast, sb_mk] at hc107
        simp (disch := omega) only [allP, sb_mk, sl1, toNat0, toNat1, toNat2, Int.toNat_natCast, List.take_length, List.take_succ_cons, List.drop_succ_cons, List.drop_zero, List.take_zero, List.length_cons, List.length_nil, List.getD_cons_zero, i64_wrap, i32_wrap, u8_wrap, u32_wrap, tdN, tmN, i64_min, i64_max, u8_min, u8_max, decide_eq_true_eq, decide_eq_false_iff_not, beq_iff_eq, beq_eq_false_iff_ne, bne_iff_ne, bne_eq_false_iff_eq, ne_eq, not_false_eq_true, and_true, true_and, Int.zero_sub, List.length_append]
        repeat' apply And.intro
        all_goals first | exact True.intro | omega | with_reducible rfl | with_reducible assumption | exact av_f f1 | exact av_f f3 | exact av_f f5 | exact o4 hc98 | exact o5 hc107 | (rw [beq_iff_eq] at o3; exact o3) | exact hd | exact he | exact hm | exact hn | exact e1 | exact e2 | exact e3 | exact f1 | exact f2 | exact f3 | exact f4 | exact f5 | exact f6 | exact o1 | exact o2 | exact o3 | exact o4 | exact o5 | rfl
    | false =>
      have eR := ordP_2 m n k d e d0 e0 sm sn t1 t2 t3 a c f
      refine ⟨_, _, eR.trans (congrArg (fun r => some (r, _)) ?_), ?_⟩
      · try clear eR
        rfl
      · try clear eR
        try simp only [decide_eq_true_eq, decide_eq_false_iff_not, beq_iff_eq, beq_eq_false_iff_ne, bne_iff_ne, bne_eq_false_iff_eq, ne_eq] at hc98
        try simp only [toNat0, toNat1, toNat2, Int.toNat_natCast, sb_mk] at hc98
        try simp only [decide_eq_true_eq, decide_eq_false_iff_not, beq_iff_eq, beq_eq_false_iff_ne, bne_iff_ne, bne_eq_false_iff_eq, ne_eq] at hc107
        try simp only [toNat0, toNat1, toNat2, Int.toNat_natCast, sb_mk] at hc107
        simp (disch := omega) only [allP, sb_mk, sl1, toNat0, toNat1, toNat2, Int.toNat_natCast, List.take_length, List.take_succ_cons, List.drop_succ_cons, List.drop_zero, List.take_zero, List.length_cons, List.length_nil, List.getD_cons_zero, i64_wrap, i32_wrap, u8_wrap, u32_wrap, tdN, tmN, i64_min, i64_max, u8_min, u8_max, decide_eq_true_eq, decide_eq_false_iff_not, beq_iff_eq, beq_eq_false_iff_ne, bne_iff_ne, bne_eq_false_iff_eq, ne_eq, not_false_eq_true, and_true, true_and, Int.zero_sub, List.length_append]
        repeat' apply And.intro
        all_goals first | exact True.intro | omega | with_reducible rfl | with_reducible assumption | exact av_f f1 | exact av_f f3 | exact av_f f5 | exact o4 hc98 | exact o5 hc107 | (rw [beq_iff_eq] at o3; exact o3) | exact hd | exact he | exact hm | exact hn | exact e1 | exact e2 | exact e3 | exact f1 | exact f2 | exact f3 | exact f4 | exact f5 | exact f6 | exact o1 | exact o2 | exact o3 | exact o4 | exact o5 | rfl
  | false =>
    cases hc107 : (m == n : Bool) with
    | true =>
      have eR := ordP_3 m n k d e d0 e0 sm sn t1 t2 t3 a c f
      refine ⟨_, _, eR.trans (congrArg (fun r => some (r, _)) ?_), ?_⟩
      · try clear eR
        rfl
      · try clear eR
        try simp only [decide_eq_true_eq, decide_eq_false_iff_not, beq_iff_eq, beq_eq_false_iff_ne, bne_iff_ne, bne_eq_false_iff_eq, ne_eq] at hc98
        try simp only [toNat0, toNat1, toNat2, Int.toNat_natCast, sb_mk] at hc98
        try simp only [decide_eq_true_eq, decide_eq_false_iff_not, beq_iff_eq, beq_eq_false_iff_ne, bne_iff_ne, bne_eq_false_iff_eq, ne_eq] at hc107
        try simp only [toNat0, toNat1, toNat2, Int.toNat_natCast, sb_mk] at hc107
        simp (disch := omega) only [allP, sb_mk, sl1, toNat0, toNat1, toNat2, Int.toNat_natCast, List.take_length, List.take_succ_cons, List.drop_succ_cons, List.drop_zero, List.take_zero, List.length_cons, List.length_nil, List.getD_cons_zero, i64_wrap, i32_wrap, u8_wrap, u32_wrap, tdN, tmN, i64_min, i64_max, u8_min, u8_max, decide_eq_true_eq, decide_eq_false_iff_not, beq_iff_eq, beq_eq_false_iff_ne, bne_iff_ne, bne_eq_false_iff_eq, ne_eq, not_false_eq_true, and_true, true_and, Int.zero_sub, List.length_append]
        repeat' apply And.intro
        all_goals first | exact True.intro | omega | with_reducible rfl | with_reducible assumption | exact av_f f1 | exact av_f f3 | exact av_f f5 | exact o4 hc98 | exact o5 hc107 | (rw [beq_iff_eq] at o3; exact o3) | exact hd | exact he | exact hm | exact hn | exact e1 | exact e2 | exact e3 | exact f1 | exact f2 | exact f3 | exact f4 | exact f5 | exact f6 | exact o1 | exact o2 | exact o3 | exact o4 | exact o5 | rfl
    | false =>
      have eR := ordP_4 m n k d e d0 e0 sm sn t1 t2 t3 a c f
      refine ⟨_, _, eR.trans (congrArg (fun r => some (r, _)) ?_), ?_⟩
      · try clear eR
        rfl
      · try clear eR
        try simp only [decide_eq_true_eq, decide_eq_false_iff_not, beq_iff_eq, beq_eq_false_iff_ne, bne_iff_ne, bne_eq_false_iff_eq, ne_eq] at hc98
        try simp only [toNat0, toNat1, toNat2, Int.toNat_natCast, sb_mk] at hc98
        try simp only [decide_eq_true_eq, decide_eq_false_iff_not, beq_iff_eq, beq_eq_false_iff_ne, bne_iff_ne, bne_eq_false_iff_eq, ne_eq] at hc107
        try simp only [toNat0, toNat1, toNat2, Int.toNat_natCast, sb_mk] at hc107
        simp (disch := omega) only [allP, sb_mk, sl1, toNat0, toNat1, toNat2, Int.toNat_natCast, List.take_length, List.take_succ_cons, List.drop_succ_cons, List.drop_zero, List.take_zero, List.length_cons, List.length_nil, List.getD_cons_zero, i64_wrap, i32_wrap, u8_wrap, u32_wrap, tdN, tmN, i64_min, i64_max, u8_min, u8_max, decide_eq_true_eq, decide_eq_false_iff_not, beq_iff_eq, beq_eq_false_iff_ne, bne_iff_ne, bne_eq_false_iff_eq, ne_eq, not_false_eq_true, and_true, true_and, Int.zero_sub, List.length_append]
        repeat' apply And.intro
        all_goals first | exact True.intro | omega | with_reducible rfl | with_reducible assumption | exact av_f f1 | exact av_f f3 | exact av_f f5 | exact o4 hc98 | exact o5 hc107 | (rw [beq_iff_eq] at o3; exact o3) | exact hd | exact he | exact hm | exact hn | exact e1 | exact e2 | exact e3 | exact f1 | exact f2 | exact f3 | exact f4 | exact f5 | exact f6 | exact o1 | exact o2 | exact o3 | exact o4 | exact o5 | rfl


theorem ordM_1 (m n k : Int) (d e d0 e0 sm sn t1 t2 t3 : List UInt8) (a c f : Nat) : lawOut (aBody Try.prog clT ⟨true, bs [(17, false), (21, false), (25, false), (29, false), (33, false), (41, true), (98, true), (107, true)] ++ (bs [(83, true), (88, true), (94, true), (101, true), (110, true)] ++ [(37, ⟨.c (.int .i64 0), none⟩), (38, ⟨.c (str d0), none⟩), (39, ⟨.c (str e0), none⟩), (44, ⟨.c (str d), none⟩), (45, ⟨.c (str e), none⟩), (48, ⟨.c (str sm), none⟩), (50, ⟨.c (str t1), none⟩), (52, ⟨.c (.float .f64 a), none⟩), (53, ⟨.c (.bool true), none⟩), (56, ⟨.c (str sn), none⟩), (58, ⟨.c (str t2), none⟩), (60, ⟨.c (.float .f64 c), none⟩), (61, ⟨.c (.bool true), none⟩), (64, ⟨.c (str sn), none⟩), (67, ⟨.c (str t3), none⟩), (69, ⟨.c (.float .f64 f), none⟩), (70, ⟨.c (.bool true), none⟩)])⟩ (lpBy ([])) 60 6 ([.c (.int .i64 m), .c (.int .i64 n), .c (.int .i64 k)]) ([])) = some ((AV.c ((Value.bool true))), [((decide (m < (0 : Int)) : Bool)) = (false),
 ((decide (n < m) : Bool)) = (false),
 ((decide (n ≥ (1000000000000000 : Int)) : Bool)) = (false),
 ((decide (k < (-22 : Int)) : Bool)) = (false),
 ((decide (k > (22 : Int)) : Bool)) = (false),
 ((if (0 : Int) > k then (0 : Int) else k : Int)) = (0),
 (0 : Int) ≤ (0 : Int) ∧ (0 : Int) ≤ (9223372036854775807 : Int),
 (0 : Int) ≤ (0 : Int) ∧ (0 : Int) ≤ (1000 : Int),
 (([UInt8.ofNat (48 : Nat)] : List UInt8)) = (d0),
 (((1 : Nat) + d0.length : Nat) ≤ ((9223372036854775807 : Nat))),
 (([(101 : UInt8)] ++ d0 : List UInt8)) = (e0),
 ((decide (k < (0 : Int)) : Bool)) = (true),
 (0 : Int) ≤ IntKind.i64.wrap ((0 : Int) - k) ∧ IntKind.i64.wrap ((0 : Int) - k) ≤ (9223372036854775807 : Int),
 (0 : Int) ≤ (0 : Int) ∧ (0 : Int) ≤ (1000 : Int),
 ((digZ (IntKind.i64.wrap ((0 : Int) - k)).toNat (Int.toNat (0 : Int)) : List UInt8)) = (d),
 (((2 : Nat) + d.length : Nat) ≤ ((9223372036854775807 : Nat))),
 (([(101 : UInt8), (45 : UInt8)] ++ d : List UInt8)) = (e),
 (0 : Int) ≤ m ∧ m ≤ (9223372036854775807 : Int),
 (0 : Int) ≤ (0 : Int) ∧ (0 : Int) ≤ (1000 : Int),
 ((digZ m.toNat (Int.toNat (0 : Int)) : List UInt8)) = (sm),
 ((sm.length + e.length : Nat) ≤ ((9223372036854775807 : Nat))),
 ((sm ++ e : List UInt8)) = (t1),
 ((t1.length : Nat) ≤ ((9223372036854775807 : Nat))),
 avEq ((AV.c ((Value.float .f64 (fltW (floatF (sb { data := { toList := t1 } }))))))) ((AV.c ((Value.float .f64 a)))),
 (((floatF (sb { data := { toList := t1 } })).isSome : Bool)) = (true),
 (0 : Int) ≤ n ∧ n ≤ (9223372036854775807 : Int),
 (0 : Int) ≤ (0 : Int) ∧ (0 : Int) ≤ (1000 : Int),
 ((digZ n.toNat (Int.toNat (0 : Int)) : List UInt8)) = (sn),
 ((sn.length + e.length : Nat) ≤ ((9223372036854775807 : Nat))),
 ((sn ++ e : List UInt8)) = (t2),
 ((t2.length : Nat) ≤ ((9223372036854775807 : Nat))),
 avEq ((AV.c ((Value.float .f64 (fltW (floatF (sb { data := { toList := t2 } }))))))) ((AV.c ((Value.float .f64 c)))),
 (((floatF (sb { data := { toList := t2 } })).isSome : Bool)) = (true),
 (0 : Int) ≤ n ∧ n ≤ (9223372036854775807 : Int),
 (0 : Int) ≤ (0 : Int) ∧ (0 : Int) ≤ (1000 : Int),
 ((digZ n.toNat (Int.toNat (0 : Int)) : List UInt8)) = (sn),
 (((1 : Nat) + sn.length : Nat) ≤ ((9223372036854775807 : Nat))),
 ((([(45 : UInt8)] ++ sn).length + e.length : Nat) ≤ ((9223372036854775807 : Nat))),
 (([(45 : UInt8)] ++ sn ++ e : List UInt8)) = (t3),
 ((t3.length : Nat) ≤ ((9223372036854775807 : Nat))),
 avEq ((AV.c ((Value.float .f64 (fltW (floatF (sb { data := { toList := t3 } }))))))) ((AV.c ((Value.float .f64 f)))),
 (((floatF (sb { data := { toList := t3 } })).isSome : Bool)) = (true),
 ((FloatKind.f64.format.order a (0 : Nat) == some Ordering.gt || FloatKind.f64.format.order a (0 : Nat) == some Ordering.eq : Bool)) = (true),
 ((FloatKind.f64.format.order a c == some Ordering.lt || FloatKind.f64.format.order a c == some Ordering.eq : Bool)) = (true),
 ((FloatKind.f64.format.order f (Op.negFloat FloatKind.f64 c) == some Ordering.eq : Bool)) = (true),
 ((m == (0 : Int) : Bool)) = (true),
 ((m == n : Bool)) = (true)]) := by kernel_rfl

theorem ordM_2 (m n k : Int) (d e d0 e0 sm sn t1 t2 t3 : List UInt8) (a c f : Nat) : lawOut (aBody Try.prog clT ⟨true, bs [(17, false), (21, false), (25, false), (29, false), (33, false), (41, true), (98, true), (107, false)] ++ (bs [(83, true), (88, true), (94, true), (101, true), (110, true)] ++ [(37, ⟨.c (.int .i64 0), none⟩), (38, ⟨.c (str d0), none⟩), (39, ⟨.c (str e0), none⟩), (44, ⟨.c (str d), none⟩), (45, ⟨.c (str e), none⟩), (48, ⟨.c (str sm), none⟩), (50, ⟨.c (str t1), none⟩), (52, ⟨.c (.float .f64 a), none⟩), (53, ⟨.c (.bool true), none⟩), (56, ⟨.c (str sn), none⟩), (58, ⟨.c (str t2), none⟩), (60, ⟨.c (.float .f64 c), none⟩), (61, ⟨.c (.bool true), none⟩), (64, ⟨.c (str sn), none⟩), (67, ⟨.c (str t3), none⟩), (69, ⟨.c (.float .f64 f), none⟩), (70, ⟨.c (.bool true), none⟩)])⟩ (lpBy ([])) 60 6 ([.c (.int .i64 m), .c (.int .i64 n), .c (.int .i64 k)]) ([])) = some ((AV.c ((Value.bool true))), [((decide (m < (0 : Int)) : Bool)) = (false),
 ((decide (n < m) : Bool)) = (false),
 ((decide (n ≥ (1000000000000000 : Int)) : Bool)) = (false),
 ((decide (k < (-22 : Int)) : Bool)) = (false),
 ((decide (k > (22 : Int)) : Bool)) = (false),
 ((if (0 : Int) > k then (0 : Int) else k : Int)) = (0),
 (0 : Int) ≤ (0 : Int) ∧ (0 : Int) ≤ (9223372036854775807 : Int),
 (0 : Int) ≤ (0 : Int) ∧ (0 : Int) ≤ (1000 : Int),
 (([UInt8.ofNat (48 : Nat)] : List UInt8)) = (d0),
 (((1 : Nat) + d0.length : Nat) ≤ ((9223372036854775807 : Nat))),
 (([(101 : UInt8)] ++ d0 : List UInt8)) = (e0),
 ((decide (k < (0 : Int)) : Bool)) = (true),
 (0 : Int) ≤ IntKind.i64.wrap ((0 : Int) - k) ∧ IntKind.i64.wrap ((0 : Int) - k) ≤ (9223372036854775807 : Int),
 (0 : Int) ≤ (0 : Int) ∧ (0 : Int) ≤ (1000 : Int),
 ((digZ (IntKind.i64.wrap ((0 : Int) - k)).toNat (Int.toNat (0 : Int)) : List UInt8)) = (d),
 (((2 : Nat) + d.length : Nat) ≤ ((9223372036854775807 : Nat))),
 (([(101 : UInt8), (45 : UInt8)] ++ d : List UInt8)) = (e),
 (0 : Int) ≤ m ∧ m ≤ (9223372036854775807 : Int),
 (0 : Int) ≤ (0 : Int) ∧ (0 : Int) ≤ (1000 : Int),
 ((digZ m.toNat (Int.toNat (0 : Int)) : List UInt8)) = (sm),
 ((sm.length + e.length : Nat) ≤ ((9223372036854775807 : Nat))),
 ((sm ++ e : List UInt8)) = (t1),
 ((t1.length : Nat) ≤ ((9223372036854775807 : Nat))),
 avEq ((AV.c ((Value.float .f64 (fltW (floatF (sb { data := { toList := t1 } }))))))) ((AV.c ((Value.float .f64 a)))),
 (((floatF (sb { data := { toList := t1 } })).isSome : Bool)) = (true),
 (0 : Int) ≤ n ∧ n ≤ (9223372036854775807 : Int),
 (0 : Int) ≤ (0 : Int) ∧ (0 : Int) ≤ (1000 : Int),
 ((digZ n.toNat (Int.toNat (0 : Int)) : List UInt8)) = (sn),
 ((sn.length + e.length : Nat) ≤ ((9223372036854775807 : Nat))),
 ((sn ++ e : List UInt8)) = (t2),
 ((t2.length : Nat) ≤ ((9223372036854775807 : Nat))),
 avEq ((AV.c ((Value.float .f64 (fltW (floatF (sb { data := { toList := t2 } }))))))) ((AV.c ((Value.float .f64 c)))),
 (((floatF (sb { data := { toList := t2 } })).isSome : Bool)) = (true),
 (0 : Int) ≤ n ∧ n ≤ (9223372036854775807 : Int),
 (0 : Int) ≤ (0 : Int) ∧ (0 : Int) ≤ (1000 : Int),
 ((digZ n.toNat (Int.toNat (0 : Int)) : List UInt8)) = (sn),
 (((1 : Nat) + sn.length : Nat) ≤ ((9223372036854775807 : Nat))),
 ((([(45 : UInt8)] ++ sn).length + e.length : Nat) ≤ ((9223372036854775807 : Nat))),
 (([(45 : UInt8)] ++ sn ++ e : List UInt8)) = (t3),
 ((t3.length : Nat) ≤ ((9223372036854775807 : Nat))),
 avEq ((AV.c ((Value.float .f64 (fltW (floatF (sb { data := { toList := t3 } }))))))) ((AV.c ((Value.float .f64 f)))),
 (((floatF (sb { data := { toList := t3 } })).isSome : Bool)) = (true),
 ((FloatKind.f64.format.order a (0 : Nat) == some Ordering.gt || FloatKind.f64.format.order a (0 : Nat) == some Ordering.eq : Bool)) = (true),
 ((FloatKind.f64.format.order a c == some Ordering.lt || FloatKind.f64.format.order a c == some Ordering.eq : Bool)) = (true),
 ((FloatKind.f64.format.order f (Op.negFloat FloatKind.f64 c) == some Ordering.eq : Bool)) = (true),
 ((m == (0 : Int) : Bool)) = (true),
 ((m == n : Bool)) = (false),
 ((FloatKind.f64.format.order c (0 : Nat) == some Ordering.gt : Bool)) = (true)]) := by kernel_rfl

theorem ordM_3 (m n k : Int) (d e d0 e0 sm sn t1 t2 t3 : List UInt8) (a c f : Nat) : lawOut (aBody Try.prog clT ⟨true, bs [(17, false), (21, false), (25, false), (29, false), (33, false), (41, true), (98, false), (107, true)] ++ (bs [(83, true), (88, true), (94, true), (101, true), (110, true)] ++ [(37, ⟨.c (.int .i64 0), none⟩), (38, ⟨.c (str d0), none⟩), (39, ⟨.c (str e0), none⟩), (44, ⟨.c (str d), none⟩), (45, ⟨.c (str e), none⟩), (48, ⟨.c (str sm), none⟩), (50, ⟨.c (str t1), none⟩), (52, ⟨.c (.float .f64 a), none⟩), (53, ⟨.c (.bool true), none⟩), (56, ⟨.c (str sn), none⟩), (58, ⟨.c (str t2), none⟩), (60, ⟨.c (.float .f64 c), none⟩), (61, ⟨.c (.bool true), none⟩), (64, ⟨.c (str sn), none⟩), (67, ⟨.c (str t3), none⟩), (69, ⟨.c (.float .f64 f), none⟩), (70, ⟨.c (.bool true), none⟩)])⟩ (lpBy ([])) 60 6 ([.c (.int .i64 m), .c (.int .i64 n), .c (.int .i64 k)]) ([])) = some ((AV.c ((Value.bool true))), [((decide (m < (0 : Int)) : Bool)) = (false),
 ((decide (n < m) : Bool)) = (false),
 ((decide (n ≥ (1000000000000000 : Int)) : Bool)) = (false),
 ((decide (k < (-22 : Int)) : Bool)) = (false),
 ((decide (k > (22 : Int)) : Bool)) = (false),
 ((if (0 : Int) > k then (0 : Int) else k : Int)) = (0),
 (0 : Int) ≤ (0 : Int) ∧ (0 : Int) ≤ (9223372036854775807 : Int),
 (0 : Int) ≤ (0 : Int) ∧ (0 : Int) ≤ (1000 : Int),
 (([UInt8.ofNat (48 : Nat)] : List UInt8)) = (d0),
 (((1 : Nat) + d0.length : Nat) ≤ ((9223372036854775807 : Nat))),
 (([(101 : UInt8)] ++ d0 : List UInt8)) = (e0),
 ((decide (k < (0 : Int)) : Bool)) = (true),
 (0 : Int) ≤ IntKind.i64.wrap ((0 : Int) - k) ∧ IntKind.i64.wrap ((0 : Int) - k) ≤ (9223372036854775807 : Int),
 (0 : Int) ≤ (0 : Int) ∧ (0 : Int) ≤ (1000 : Int),
 ((digZ (IntKind.i64.wrap ((0 : Int) - k)).toNat (Int.toNat (0 : Int)) : List UInt8)) = (d),
 (((2 : Nat) + d.length : Nat) ≤ ((9223372036854775807 : Nat))),
 (([(101 : UInt8), (45 : UInt8)] ++ d : List UInt8)) = (e),
 (0 : Int) ≤ m ∧ m ≤ (9223372036854775807 : Int),
 (0 : Int) ≤ (0 : Int) ∧ (0 : Int) ≤ (1000 : Int),
 ((digZ m.toNat (Int.toNat (0 : Int)) : List UInt8)) = (sm),
 ((sm.length + e.length : Nat) ≤ ((9223372036854775807 : Nat))),
 ((sm ++ e : List UInt8)) = (t1),
 ((t1.length : Nat) ≤ ((9223372036854775807 : Nat))),
 avEq ((AV.c ((Value.float .f64 (fltW (floatF (sb { data := { toList := t1 } }))))))) ((AV.c ((Value.float .f64 a)))),
 (((floatF (sb { data := { toList := t1 } })).isSome : Bool)) = (true),
 (0 : Int) ≤ n ∧ n ≤ (9223372036854775807 : Int),
 (0 : Int) ≤ (0 : Int) ∧ (0 : Int) ≤ (1000 : Int),
 ((digZ n.toNat (Int.toNat (0 : Int)) : List UInt8)) = (sn),
 ((sn.length + e.length : Nat) ≤ ((9223372036854775807 : Nat))),
 ((sn ++ e : List UInt8)) = (t2),
 ((t2.length : Nat) ≤ ((9223372036854775807 : Nat))),
 avEq ((AV.c ((Value.float .f64 (fltW (floatF (sb { data := { toList := t2 } }))))))) ((AV.c ((Value.float .f64 c)))),
 (((floatF (sb { data := { toList := t2 } })).isSome : Bool)) = (true),
 (0 : Int) ≤ n ∧ n ≤ (9223372036854775807 : Int),
 (0 : Int) ≤ (0 : Int) ∧ (0 : Int) ≤ (1000 : Int),
 ((digZ n.toNat (Int.toNat (0 : Int)) : List UInt8)) = (sn),
 (((1 : Nat) + sn.length : Nat) ≤ ((9223372036854775807 : Nat))),
 ((([(45 : UInt8)] ++ sn).length + e.length : Nat) ≤ ((9223372036854775807 : Nat))),
 (([(45 : UInt8)] ++ sn ++ e : List UInt8)) = (t3),
 ((t3.length : Nat) ≤ ((9223372036854775807 : Nat))),
 avEq ((AV.c ((Value.float .f64 (fltW (floatF (sb { data := { toList := t3 } }))))))) ((AV.c ((Value.float .f64 f)))),
 (((floatF (sb { data := { toList := t3 } })).isSome : Bool)) = (true),
 ((FloatKind.f64.format.order a (0 : Nat) == some Ordering.gt || FloatKind.f64.format.order a (0 : Nat) == some Ordering.eq : Bool)) = (true),
 ((FloatKind.f64.format.order a c == some Ordering.lt || FloatKind.f64.format.order a c == some Ordering.eq : Bool)) = (true),
 ((FloatKind.f64.format.order f (Op.negFloat FloatKind.f64 c) == some Ordering.eq : Bool)) = (true),
 ((m == (0 : Int) : Bool)) = (false),
 ((FloatKind.f64.format.order a (0 : Nat) == some Ordering.gt : Bool)) = (true),
 ((m == n : Bool)) = (true)]) := by kernel_rfl

theorem ordM_4 (m n k : Int) (d e d0 e0 sm sn t1 t2 t3 : List UInt8) (a c f : Nat) : lawOut (aBody Try.prog clT ⟨true, bs [(17, false), (21, false), (25, false), (29, false), (33, false), (41, true), (98, false), (107, false)] ++ (bs [(83, true), (88, true), (94, true), (101, true), (110, true)] ++ [(37, ⟨.c (.int .i64 0), none⟩), (38, ⟨.c (str d0), none⟩), (39, ⟨.c (str e0), none⟩), (44, ⟨.c (str d), none⟩), (45, ⟨.c (str e), none⟩), (48, ⟨.c (str sm), none⟩), (50, ⟨.c (str t1), none⟩), (52, ⟨.c (.float .f64 a), none⟩), (53, ⟨.c (.bool true), none⟩), (56, ⟨.c (str sn), none⟩), (58, ⟨.c (str t2), none⟩), (60, ⟨.c (.float .f64 c), none⟩), (61, ⟨.c (.bool true), none⟩), (64, ⟨.c (str sn), none⟩), (67, ⟨.c (str t3), none⟩), (69, ⟨.c (.float .f64 f), none⟩), (70, ⟨.c (.bool true), none⟩)])⟩ (lpBy ([])) 60 6 ([.c (.int .i64 m), .c (.int .i64 n), .c (.int .i64 k)]) ([])) = some ((AV.c ((Value.bool true))), [((decide (m < (0 : Int)) : Bool)) = (false),
 ((decide (n < m) : Bool)) = (false),
 ((decide (n ≥ (1000000000000000 : Int)) : Bool)) = (false),
 ((decide (k < (-22 : Int)) : Bool)) = (false),
 ((decide (k > (22 : Int)) : Bool)) = (false),
 ((if (0 : Int) > k then (0 : Int) else k : Int)) = (0),
 (0 : Int) ≤ (0 : Int) ∧ (0 : Int) ≤ (9223372036854775807 : Int),
 (0 : Int) ≤ (0 : Int) ∧ (0 : Int) ≤ (1000 : Int),
 (([UInt8.ofNat (48 : Nat)] : List UInt8)) = (d0),
 (((1 : Nat) + d0.length : Nat) ≤ ((9223372036854775807 : Nat))),
 (([(101 : UInt8)] ++ d0 : List UInt8)) = (e0),
 ((decide (k < (0 : Int)) : Bool)) = (true),
 (0 : Int) ≤ IntKind.i64.wrap ((0 : Int) - k) ∧ IntKind.i64.wrap ((0 : Int) - k) ≤ (9223372036854775807 : Int),
 (0 : Int) ≤ (0 : Int) ∧ (0 : Int) ≤ (1000 : Int),
 ((digZ (IntKind.i64.wrap ((0 : Int) - k)).toNat (Int.toNat (0 : Int)) : List UInt8)) = (d),
 (((2 : Nat) + d.length : Nat) ≤ ((9223372036854775807 : Nat))),
 (([(101 : UInt8), (45 : UInt8)] ++ d : List UInt8)) = (e),
 (0 : Int) ≤ m ∧ m ≤ (9223372036854775807 : Int),
 (0 : Int) ≤ (0 : Int) ∧ (0 : Int) ≤ (1000 : Int),
 ((digZ m.toNat (Int.toNat (0 : Int)) : List UInt8)) = (sm),
 ((sm.length + e.length : Nat) ≤ ((9223372036854775807 : Nat))),
 ((sm ++ e : List UInt8)) = (t1),
 ((t1.length : Nat) ≤ ((9223372036854775807 : Nat))),
 avEq ((AV.c ((Value.float .f64 (fltW (floatF (sb { data := { toList := t1 } }))))))) ((AV.c ((Value.float .f64 a)))),
 (((floatF (sb { data := { toList := t1 } })).isSome : Bool)) = (true),
 (0 : Int) ≤ n ∧ n ≤ (9223372036854775807 : Int),
 (0 : Int) ≤ (0 : Int) ∧ (0 : Int) ≤ (1000 : Int),
 ((digZ n.toNat (Int.toNat (0 : Int)) : List UInt8)) = (sn),
 ((sn.length + e.length : Nat) ≤ ((9223372036854775807 : Nat))),
 ((sn ++ e : List UInt8)) = (t2),
 ((t2.length : Nat) ≤ ((9223372036854775807 : Nat))),
 avEq ((AV.c ((Value.float .f64 (fltW (floatF (sb { data := { toList := t2 } }))))))) ((AV.c ((Value.float .f64 c)))),
 (((floatF (sb { data := { toList := t2 } })).isSome : Bool)) = (true),
 (0 : Int) ≤ n ∧ n ≤ (9223372036854775807 : Int),
 (0 : Int) ≤ (0 : Int) ∧ (0 : Int) ≤ (1000 : Int),
 ((digZ n.toNat (Int.toNat (0 : Int)) : List UInt8)) = (sn),
 (((1 : Nat) + sn.length : Nat) ≤ ((9223372036854775807 : Nat))),
 ((([(45 : UInt8)] ++ sn).length + e.length : Nat) ≤ ((9223372036854775807 : Nat))),
 (([(45 : UInt8)] ++ sn ++ e : List UInt8)) = (t3),
 ((t3.length : Nat) ≤ ((9223372036854775807 : Nat))),
 avEq ((AV.c ((Value.float .f64 (fltW (floatF (sb { data := { toList := t3 } }))))))) ((AV.c ((Value.float .f64 f)))),
 (((floatF (sb { data := { toList := t3 } })).isSome : Bool)) = (true),
 ((FloatKind.f64.format.order a (0 : Nat) == some Ordering.gt || FloatKind.f64.format.order a (0 : Nat) == some Ordering.eq : Bool)) = (true),
 ((FloatKind.f64.format.order a c == some Ordering.lt || FloatKind.f64.format.order a c == some Ordering.eq : Bool)) = (true),
 ((FloatKind.f64.format.order f (Op.negFloat FloatKind.f64 c) == some Ordering.eq : Bool)) = (true),
 ((m == (0 : Int) : Bool)) = (false),
 ((FloatKind.f64.format.order a (0 : Nat) == some Ordering.gt : Bool)) = (true),
 ((m == n : Bool)) = (false),
 ((FloatKind.f64.format.order c (0 : Nat) == some Ordering.gt : Bool)) = (true)]) := by kernel_rfl

theorem ordM_all (m n k : Int) (d e d0 e0 sm sn t1 t2 t3 : List UInt8) (a c f : Nat) (g0 : 0 ≤ m) (g1 : m ≤ n) (g2 : n < 1000000000000000) (g3 : -22 ≤ k) (g4 : k ≤ 22) (kk : k < 0) (hd : digZ (-k).toNat 0 = d) (he : [101, 45] ++ d = e) (hd0 : digZ 0 0 = d0) (he0 : [101] ++ d0 = e0) (l9 : d0.length ≤ 100) (hm : digZ m.toNat 0 = sm) (hn : digZ n.toNat 0 = sn) (e1 : sm ++ e = t1) (e2 : sn ++ e = t2) (e3 : [45] ++ sn ++ e = t3) (l1 : t1.length ≤ 100) (l2 : t2.length ≤ 100) (l3 : t3.length ≤ 100) (l4 : sm.length ≤ 100) (l5 : sn.length ≤ 100) (l6 : d.length ≤ 100) (l7 : e.length ≤ 100) (f1 : fltW (floatF t1) = a) (f2 : (floatF t1).isSome = true) (f3 : fltW (floatF t2) = c) (f4 : (floatF t2).isSome = true) (f5 : fltW (floatF t3) = f) (f6 : (floatF t3).isSome = true) (o1 : (FloatKind.f64.format.order a 0 == some .gt || FloatKind.f64.format.order a 0 == some .eq) = true) (o2 : (FloatKind.f64.format.order a c == some .lt || FloatKind.f64.format.order a c == some .eq) = true) (o3 : (FloatKind.f64.format.order f (Op.negFloat .f64 c) == some .eq) = true) (o4 : ¬ m = 0 → FloatKind.f64.format.order a 0 = some .gt) (o5 : ¬ m = n → FloatKind.f64.format.order c 0 = some .gt) : ∃ (h : Hints) (p : List Prop), lawOut (aBody Try.prog clT h (lpBy ([])) 60 6 ([.c (.int .i64 m), .c (.int .i64 n), .c (.int .i64 k)]) ([])) = some (.c (.bool true), p) ∧ allP p := by
  cases hc98 : (m == (0 : Int) : Bool) with
  | true =>
    cases hc107 : (m == n : Bool) with
    | true =>
      have eR := ordM_1 m n k d e d0 e0 sm sn t1 t2 t3 a c f
      refine ⟨_, _, eR.trans (congrArg (fun r => some (r, _)) ?_), ?_⟩
      · try clear eR
        rfl
      · try clear eR
        try simp only [decide_eq_true_eq, decide_eq_false_iff_not, beq_iff_eq, beq_eq_false_iff_ne, bne_iff_ne, bne_eq_false_iff_eq, ne_eq] at hc98
        try simp only [toNat0, toNat1, toNat2, Int.toNat_natCast, sb_mk] at hc98
        try simp only [decide_eq_true_eq, decide_eq_false_iff_not, beq_iff_eq, beq_eq_false_iff_ne, bne_iff_ne, bne_eq_false_iff_eq, ne_eq] at hc107
        try simp only [toNat0, toNat1, toNat2, Int.toNat_natCast, sb_mk] at hc107
        simp (disch := omega) only [allP, sb_mk, sl1, toNat0, toNat1, toNat2, Int.toNat_natCast, List.take_length, List.take_succ_cons, List.drop_succ_cons, List.drop_zero, List.take_zero, List.length_cons, List.length_nil, List.getD_cons_zero, i64_wrap, i32_wrap, u8_wrap, u32_wrap, tdN, tmN, i64_min, i64_max, u8_min, u8_max, decide_eq_true_eq, decide_eq_false_iff_not, beq_iff_eq, beq_eq_false_iff_ne, bne_iff_ne, bne_eq_false_iff_eq, ne_eq, not_false_eq_true, and_true, true_and, Int.zero_sub, List.length_append]
        repeat' apply And.intro
        all_goals first | exact True.intro | omega | with_reducible rfl | with_reducible assumption | exact av_f f1 | exact av_f f3 | exact av_f f5 | exact o4 hc98 | exact o5 hc107 | (rw [beq_iff_eq] at o3; exact o3) | exact hd | exact he | exact hd0 | exact he0 | exact hm | exact hn | exact e1 | exact e2 | exact e3 | exact f1 | exact f2 | exact f3 | exact f4 | exact f5 | exact f6 | exact o1 | exact o2 | exact o3 | exact o4 | exact o5 | rfl
    | false =>
      have eR := ordM_2 m n k d e d0 e0 sm sn t1 t2 t3 a c f
      refine ⟨_, _, eR.trans (congrArg (fun r => some (r, _)) ?_), ?_⟩
      · try clear eR
        rfl
      · try clear eR
        try simp only [decide_eq_true_eq, decide_eq_false_iff_not, beq_iff_eq, beq_eq_false_iff_ne, bne_iff_ne, bne_eq_false_iff_eq, ne_eq] at hc98
        try simp only [toNat0, toNat1, toNat2, Int.toNat_natCast, sb_mk] at hc98
        try simp only [decide_eq_true_eq, decide_eq_false_iff_not, beq_iff_eq, beq_eq_false_iff_ne, bne_iff_ne, bne_eq_false_iff_eq, ne_eq] at hc107
        try simp only [toNat0, toNat1, toNat2, Int.toNat_natCast, sb_mk] at hc107
        simp (disch := omega) only [allP, sb_mk, sl1, toNat0, toNat1, toNat2, Int.toNat_natCast, List.take_length, List.take_succ_cons, List.drop_succ_cons, List.drop_zero, List.take_zero, List.length_cons, List.length_nil, List.getD_cons_zero, i64_wrap, i32_wrap, u8_wrap, u32_wrap, tdN, tmN, i64_min, i64_max, u8_min, u8_max, decide_eq_true_eq, decide_eq_false_iff_not, beq_iff_eq, beq_eq_false_iff_ne, bne_iff_ne, bne_eq_false_iff_eq, ne_eq, not_false_eq_true, and_true, true_and, Int.zero_sub, List.length_append]
        repeat' apply And.intro
        all_goals first | exact True.intro | omega | with_reducible rfl | with_reducible assumption | exact av_f f1 | exact av_f f3 | exact av_f f5 | exact o4 hc98 | exact o5 hc107 | (rw [beq_iff_eq] at o3; exact o3) | exact hd | exact he | exact hd0 | exact he0 | exact hm | exact hn | exact e1 | exact e2 | exact e3 | exact f1 | exact f2 | exact f3 | exact f4 | exact f5 | exact f6 | exact o1 | exact o2 | exact o3 | exact o4 | exact o5 | rfl
  | false =>
    cases hc107 : (m == n : Bool) with
    | true =>
      have eR := ordM_3 m n k d e d0 e0 sm sn t1 t2 t3 a c f
      refine ⟨_, _, eR.trans (congrArg (fun r => some (r, _)) ?_), ?_⟩
      · try clear eR
        rfl
      · try clear eR
        try simp only [decide_eq_true_eq, decide_eq_false_iff_not, beq_iff_eq, beq_eq_false_iff_ne, bne_iff_ne, bne_eq_false_iff_eq, ne_eq] at hc98
        try simp only [toNat0, toNat1, toNat2, Int.toNat_natCast, sb_mk] at hc98
        try simp only [decide_eq_true_eq, decide_eq_false_iff_not, beq_iff_eq, beq_eq_false_iff_ne, bne_iff_ne, bne_eq_false_iff_eq, ne_eq] at hc107
        try simp only [toNat0, toNat1, toNat2, Int.toNat_natCast, sb_mk] at hc107
        simp (disch := omega) only [allP, sb_mk, sl1, toNat0, toNat1, toNat2, Int.toNat_natCast, List.take_length, List.take_succ_cons, List.drop_succ_cons, List.drop_zero, List.take_zero, List.length_cons, List.length_nil, List.getD_cons_zero, i64_wrap, i32_wrap, u8_wrap, u32_wrap, tdN, tmN, i64_min, i64_max, u8_min, u8_max, decide_eq_true_eq, decide_eq_false_iff_not, beq_iff_eq, beq_eq_false_iff_ne, bne_iff_ne, bne_eq_false_iff_eq, ne_eq, not_false_eq_true, and_true, true_and, Int.zero_sub, List.length_append]
        repeat' apply And.intro
        all_goals first | exact True.intro | omega | with_reducible rfl | with_reducible assumption | exact av_f f1 | exact av_f f3 | exact av_f f5 | exact o4 hc98 | exact o5 hc107 | (rw [beq_iff_eq] at o3; exact o3) | exact hd | exact he | exact hd0 | exact he0 | exact hm | exact hn | exact e1 | exact e2 | exact e3 | exact f1 | exact f2 | exact f3 | exact f4 | exact f5 | exact f6 | exact o1 | exact o2 | exact o3 | exact o4 | exact o5 | rfl
    | false =>
      have eR := ordM_4 m n k d e d0 e0 sm sn t1 t2 t3 a c f
      refine ⟨_, _, eR.trans (congrArg (fun r => some (r, _)) ?_), ?_⟩
      · try clear eR
        rfl
      · try clear eR
        try simp only [decide_eq_true_eq, decide_eq_false_iff_not, beq_iff_eq, beq_eq_false_iff_ne, bne_iff_ne, bne_eq_false_iff_eq, ne_eq] at hc98
        try simp only [toNat0, toNat1, toNat2, Int.toNat_natCast, sb_mk] at hc98
        try simp only [decide_eq_true_eq, decide_eq_false_iff_not, beq_iff_eq, beq_eq_false_iff_ne, bne_iff_ne, bne_eq_false_iff_eq, ne_eq] at hc107
        try simp only [toNat0, toNat1, toNat2, Int.toNat_natCast, sb_mk] at hc107
        simp (disch := omega) only [allP, sb_mk, sl1, toNat0, toNat1, toNat2, Int.toNat_natCast, List.take_length, List.take_succ_cons, List.drop_succ_cons, List.drop_zero, List.take_zero, List.length_cons, List.length_nil, List.getD_cons_zero, i64_wrap, i32_wrap, u8_wrap, u32_wrap, tdN, tmN, i64_min, i64_max, u8_min, u8_max, decide_eq_true_eq, decide_eq_false_iff_not, beq_iff_eq, beq_eq_false_iff_ne, bne_iff_ne, bne_eq_false_iff_eq, ne_eq, not_false_eq_true, and_true, true_and, Int.zero_sub, List.length_append]
        repeat' apply And.intro
        all_goals first | exact True.intro | omega | with_reducible rfl | with_reducible assumption | exact av_f f1 | exact av_f f3 | exact av_f f5 | exact o4 hc98 | exact o5 hc107 | (rw [beq_iff_eq] at o3; exact o3) | exact hd | exact he | exact hd0 | exact he0 | exact hm | exact hn | exact e1 | exact e2 | exact e3 | exact f1 | exact f2 | exact f3 | exact f4 | exact f5 | exact f6 | exact o1 | exact o2 | exact o3 | exact o4 | exact o5 | rfl

theorem WE_neg {n : Nat} {k : Int} (h : n ≤ 10 ^ 15) (h1 : -22 ≤ k) (h2 : k ≤ 22) : double.order (WE true n k) (Op.negFloat .f64 (WE false n k)) = some .eq := by
  by_cases h0 : n = 0
  · subst h0
    show double.order 0 (Op.negFloat .f64 0) = some .eq
    decide +kernel
  · have hf := RE_fin h0 h1 h2 h
    have e : ∀ s, WE s n k = double.word s (RE n k) := fun s => if_neg h0
    rw [e, e, neg_word hf.2]
    exact order_self hf.2
theorem WE_pos {n : Nat} {k : Int} (h0 : n ≠ 0) (h : n ≤ 10 ^ 15) (h1 : -22 ≤ k) (h2 : k ≤ 22) : double.order (WE false n k) 0 = some .gt := by
  have hf := RE_fin h0 h1 h2 h
  unfold WE
  rw [if_neg h0, order_zero (by omega) hf.2]
  rfl
theorem WE_zero (m : Bool) (k : Int) : WE m 0 k = 0 := rfl
theorem WE_le {m n : Nat} {k : Int} (hmn : m ≤ n) (h : n ≤ 10 ^ 15) (h1 : -22 ≤ k) (h2 : k ≤ 22) : (double.order (WE false m k) (WE false n k) == some .lt || double.order (WE false m k) (WE false n k) == some .eq) = true := by
  by_cases hm : m = 0
  · subst hm
    rw [WE_zero]
    by_cases hn : n = 0
    · subst hn; rw [WE_zero]; decide +kernel
    · have hf := RE_fin hn h1 h2 h
      have e : (0 : Nat) = double.word false 0 := rfl
      unfold WE
      rw [if_neg hn, e, Flt.order_word false false (show (0 : Nat) < 2047 * 2 ^ 52 by decide) hf.2]
      have hv := Flt.valR_pos (r := RE n k) (by omega)
      unfold Flt.sv
      rw [Flt.valR_zero]
      simp only [Bool.false_eq_true, if_false]
      rw [(Int.compare_eq_lt).2 (by omega)]
      rfl
  · have hn : n ≠ 0 := by omega
    have hf := RE_fin hn h1 h2 h
    have hg := RE_fin hm h1 h2 (by omega)
    have hle := Flt.valR_mono (RE_mono hm h1 h2 hmn)
    unfold WE
    rw [if_neg hn, if_neg hm, Flt.order_word false false hg.2 hf.2]
    unfold Flt.sv
    simp only [Bool.false_eq_true, if_false]
    by_cases he : Flt.valR (RE m k) = Flt.valR (RE n k)
    · rw [he, cmp_self]; rfl
    · rw [(Int.compare_eq_lt).2 (by omega)]; rfl

theorem order_law (m n k : Int) : ∃ hs lp fuel p, LpOK Ext0 Try.prog lp ∧ lawOut (aBody Try.prog clT hs lp fuel 6 [.c (.int .i64 m), .c (.int .i64 n), .c (.int .i64 k)] []) = some (.c (.bool true), p) ∧ allP p := by
  by_cases h : m < 0 ∨ n < m ∨ n ≥ 1000000000000000 ∨ k < -22 ∨ k > 22
  · obtain ⟨hh, p, e, hp⟩ := ordE_all m n k h
    exact ⟨_, _, _, _, lpBy_nil, e, hp⟩
  · obtain ⟨n, rfl⟩ : ∃ k : Nat, n = (k : Int) := ⟨n.toNat, by omega⟩
    obtain ⟨m, rfl⟩ : ∃ k : Nat, m = (k : Int) := ⟨m.toNat, by omega⟩
    have hn : n ≤ 9223372036854775807 := by omega
    have hm : m ≤ 9223372036854775807 := by omega
    have p15' : (10 : Nat) ^ 15 = 1000000000000000 := rfl
    obtain ⟨a1, a2, a3, _, _⟩ := digZ_w (z := 0) hn
    obtain ⟨b1, b2, b3, _, _⟩ := digZ_w (z := 0) hm
    have ln : (digZ n 0).length ≤ 15 := by
      obtain ⟨_, _, _, h4⟩ := digZ_ok (n := n) 0 (Nat.lt_of_le_of_lt hn (by decide))
      have := h4 14 (by have : (10 : Nat) ^ (14 + 1) = 1000000000000000 := rfl; omega); omega
    have lm : (digZ m 0).length ≤ 15 := by
      obtain ⟨_, _, _, h4⟩ := digZ_ok (n := m) 0 (Nat.lt_of_le_of_lt hm (by decide))
      have := h4 14 (by have : (10 : Nat) ^ (14 + 1) = 1000000000000000 := rfl; omega); omega
    have hd : ∀ y, y ≤ 22 → decV (digZ y 0) = y ∧ allD (digZ y 0) = true ∧ digZ y 0 ≠ [] ∧ (digZ y 0).length ≤ 2 := fun y hy => by
      obtain ⟨c1, c2, c3, c4⟩ := digZ_ok (n := y) 0 (Nat.lt_of_le_of_lt hy (by decide))
      refine ⟨c2, c1, c3, ?_⟩
      have := c4 1 (by have : (10 : Nat) ^ (1 + 1) = 100 := rfl; omega)
      omega
    have o2 := WE_le (m := m) (n := n) (k := k) (by omega) (by omega) (by omega) (by omega)
    have o3 := WE_neg (n := n) (k := k) (by omega) (by omega) (by omega)
    have o4 : ¬ (m : Int) = 0 → double.order (WE false m k) 0 = some .gt := fun h0 => WE_pos (by omega) (by omega) (by omega) (by omega)
    have o5 : ¬ (m : Int) = n → double.order (WE false n k) 0 = some .gt := fun h0 => WE_pos (by omega) (by omega) (by omega) (by omega)
    have o1 : (double.order (WE false m k) 0 == some .gt || double.order (WE false m k) 0 == some .eq) = true := by
      by_cases h0 : m = 0
      · subst h0; rw [WE_zero]; decide +kernel
      · rw [o4 (by omega)]; rfl
    have en : ∀ s, wordF s (n : Nat) k = WE s n k := fun s => wordF_eq s (by omega) (by omega) (by omega)
    have em : ∀ s, wordF s (m : Nat) k = WE s m k := fun s => wordF_eq s (by omega) (by omega) (by omega)
    by_cases hk : 0 ≤ k
    · obtain ⟨d1, d2, d3, d4⟩ := hd k.toNat (by omega)
      have ek : ((k.toNat : Nat) : Int) = k := by omega
      obtain ⟨w1, v1⟩ := fltW_some (float_expoP (m := false) (a := digZ m 0) b1 b3 lm d2 d3 (by omega) (by omega))
      obtain ⟨w2, v2⟩ := fltW_some (float_expoP (m := false) (a := digZ n 0) a1 a3 ln d2 d3 (by omega) (by omega))
      obtain ⟨w3, v3⟩ := fltW_some (float_expoP (m := true) (a := digZ n 0) a1 a3 ln d2 d3 (by omega) (by omega))
      rw [d1, ek] at w1 w2 w3
      rw [a2, en] at w2 w3
      rw [b2, em] at w1
      obtain ⟨hh, p, e, hp⟩ := ordP_all m n k _ _ [] [] _ _ _ _ _ (WE false m k) (WE false n k) (WE true n k) (by omega) (by omega) (by omega) (by omega) (by omega) hk rfl rfl rfl rfl rfl rfl rfl
        (by simp only [Int.toNat_natCast, List.length_append, List.length_cons, List.length_nil]; omega) (by simp only [Int.toNat_natCast, List.length_append, List.length_cons, List.length_nil]; omega) (by simp only [Int.toNat_natCast, List.length_append, List.length_cons, List.length_nil]; omega)
        (by simp only [Int.toNat_natCast]; omega) (by simp only [Int.toNat_natCast]; omega) (by omega) (by simp only [List.length_append, List.length_cons, List.length_nil]; omega)
        (by rw [← w1]; rfl) (by rw [← v1]; rfl) (by rw [← w2]; rfl) (by rw [← v2]; rfl) (by rw [← w3]; rfl) (by rw [← v3]; rfl) o1 o2 (by rw [show FloatKind.f64.format.order (WE true n k) (Op.negFloat .f64 (WE false n k)) = some .eq from o3]; rfl) o4 o5
      exact ⟨_, _, _, _, lpBy_nil, e, hp⟩
    · obtain ⟨d1, d2, d3, d4⟩ := hd (-k).toNat (by omega)
      have ek : -(((-k).toNat : Nat) : Int) = k := by omega
      obtain ⟨_, _, _, z4⟩ := hd 0 (by omega)
      obtain ⟨w1, v1⟩ := fltW_some (float_expo (m := false) (a := digZ m 0) b1 b3 lm d2 d3 (by omega) (by omega))
      obtain ⟨w2, v2⟩ := fltW_some (float_expo (m := false) (a := digZ n 0) a1 a3 ln d2 d3 (by omega) (by omega))
      obtain ⟨w3, v3⟩ := fltW_some (float_expo (m := true) (a := digZ n 0) a1 a3 ln d2 d3 (by omega) (by omega))
      rw [d1, ek] at w1 w2 w3
      rw [a2, en] at w2 w3
      rw [b2, em] at w1
      obtain ⟨hh, p, e, hp⟩ := ordM_all m n k _ _ _ _ _ _ _ _ _ (WE false m k) (WE false n k) (WE true n k) (by omega) (by omega) (by omega) (by omega) (by omega) (by omega) rfl rfl rfl rfl (by omega) rfl rfl rfl rfl rfl
        (by simp only [Int.toNat_natCast, List.length_append, List.length_cons, List.length_nil]; omega) (by simp only [Int.toNat_natCast, List.length_append, List.length_cons, List.length_nil]; omega) (by simp only [Int.toNat_natCast, List.length_append, List.length_cons, List.length_nil]; omega)
        (by simp only [Int.toNat_natCast]; omega) (by simp only [Int.toNat_natCast]; omega) (by omega) (by simp only [List.length_append, List.length_cons, List.length_nil]; omega)
        (by rw [← w1]; rfl) (by rw [← v1]; rfl) (by rw [← w2]; rfl) (by rw [← v2]; rfl) (by rw [← w3]; rfl) (by rw [← v3]; rfl) o1 o2 (by rw [show FloatKind.f64.format.order (WE true n k) (Op.negFloat .f64 (WE false n k)) = some .eq from o3]; rfl) o4 o5
      exact ⟨_, _, _, _, lpBy_nil, e, hp⟩

theorem order_walk (a0 : Int) (a1 : Int) (a2 : Int) (w0 : (Lit.int .i64 a0).wf = true) (w1 : (Lit.int .i64 a1).wf = true) (w2 : (Lit.int .i64 a2).wf = true) (w : World) :
    Calls Try.prog 6 #[.int .i64 a0, .int .i64 a1, .int .i64 a2] w fun e w' => e = .returned (.bool true) ∧ Below w.heap.size w w' :=
  law_conc mixed clT_ok [.int .i64 a0, .int .i64 a1, .int .i64 a2] (glOK_none w) (order_law a0 a1 a2)

end Go.Proofs.Ytigglgobiofalaa
