/- The laws of numbers: the point, the order. -/
import Derived.Test.YtigglgobiofalaaNumM
namespace Go.Proofs.Ytigglgobiofalaa
open Go.RowKit Num Ieee
set_option linter.unusedVariables false
set_option linter.unusedSimpArgs false

theorem pointEt_1 (n z a : Int) : lawOut (aBody Try.prog clT ⟨true, bs [(21, true)] ++ ([])⟩ (lpBy ([])) 60 5 ([.c (.int .i64 n), .c (.int .i64 z), .c (.int .i64 a), .c (.bool true)]) ([])) = some ((AV.c ((Value.bool true))), [((decide (n < (0 : Int)) : Bool)) = (true)]) := by kernel_rfl

theorem pointEt_2 (n z a : Int) : lawOut (aBody Try.prog clT ⟨true, bs [(21, false), (24, true)] ++ ([])⟩ (lpBy ([])) 60 5 ([.c (.int .i64 n), .c (.int .i64 z), .c (.int .i64 a), .c (.bool true)]) ([])) = some ((AV.c ((Value.bool true))), [((decide (n < (0 : Int)) : Bool)) = (false),
 ((decide (z < (0 : Int)) : Bool)) = (true)]) := by kernel_rfl

theorem pointEt_3 (n z a : Int) : lawOut (aBody Try.prog clT ⟨true, bs [(21, false), (24, false), (28, true)] ++ ([])⟩ (lpBy ([])) 60 5 ([.c (.int .i64 n), .c (.int .i64 z), .c (.int .i64 a), .c (.bool true)]) ([])) = some ((AV.c ((Value.bool true))), [((decide (n < (0 : Int)) : Bool)) = (false),
 ((decide (z < (0 : Int)) : Bool)) = (false),
 ((decide (z > (12 : Int)) : Bool)) = (true)]) := by kernel_rfl

theorem pointEt_all (n z a : Int) (h0 : n < 0 ∨ z < 0 ∨ z > 12) : ∃ (h : Hints) (p : List Prop), lawOut (aBody Try.prog clT h (lpBy ([])) 60 5 ([.c (.int .i64 n), .c (.int .i64 z), .c (.int .i64 a), .c (.bool true)]) ([])) = some (.c (.bool true), p) ∧ allP p := by
  cases hc21 : (decide (n < (0 : Int)) : Bool) with
  | true =>
    have eR := pointEt_1 n z a
    refine ⟨_, _, eR.trans (congrArg (fun r => some (r, _)) ?_), ?_⟩
    · try clear eR
      rfl
    · try clear eR
      try simp only [decide_eq_true_eq, decide_eq_false_iff_not, beq_iff_eq, beq_eq_false_iff_ne, bne_iff_ne, bne_eq_false_iff_eq, ne_eq] at hc21
      try simp only [toNat0, toNat1, toNat2, Int.toNat_natCast, sb_mk] at hc21
      simp (disch := omega) only [allP, sb_mk, sl1, toNat0, toNat1, toNat2, Int.toNat_natCast, List.take_length, List.take_succ_cons, List.drop_succ_cons, List.drop_zero, List.take_zero, List.length_cons, List.length_nil, List.getD_cons_zero, i64_wrap, i32_wrap, u8_wrap, u32_wrap, tdN, tmN, i64_min, i64_max, u8_min, u8_max, decide_eq_true_eq, decide_eq_false_iff_not, beq_iff_eq, beq_eq_false_iff_ne, bne_iff_ne, bne_eq_false_iff_eq, ne_eq, not_false_eq_true, and_true, true_and, Int.zero_sub]
      repeat' apply And.intro
      all_goals first | exact True.intro | omega | with_reducible rfl | with_reducible assumption | rfl
  | false =>
    cases hc24 : (decide (z < (0 : Int)) : Bool) with
    | true =>
      have eR := pointEt_2 n z a
      refine ⟨_, _, eR.trans (congrArg (fun r => some (r, _)) ?_), ?_⟩
      · try clear eR
        rfl
      · try clear eR
        try simp only [decide_eq_true_eq, decide_eq_false_iff_not, beq_iff_eq, beq_eq_false_iff_ne, bne_iff_ne, bne_eq_false_iff_eq, ne_eq] at hc21
        try simp only [toNat0, toNat1, toNat2, Int.toNat_natCast, sb_mk] at hc21
        try simp only [decide_eq_true_eq, decide_eq_false_iff_not, beq_iff_eq, beq_eq_false_iff_ne, bne_iff_ne, bne_eq_false_iff_eq, ne_eq] at hc24
        try simp only [toNat0, toNat1, toNat2, Int.toNat_natCast, sb_mk] at hc24
        simp (disch := omega) only [allP, sb_mk, sl1, toNat0, toNat1, toNat2, Int.toNat_natCast, List.take_length, List.take_succ_cons, List.drop_succ_cons, List.drop_zero, List.take_zero, List.length_cons, List.length_nil, List.getD_cons_zero, i64_wrap, i32_wrap, u8_wrap, u32_wrap, tdN, tmN, i64_min, i64_max, u8_min, u8_max, decide_eq_true_eq, decide_eq_false_iff_not, beq_iff_eq, beq_eq_false_iff_ne, bne_iff_ne, bne_eq_false_iff_eq, ne_eq, not_false_eq_true, and_true, true_and, Int.zero_sub]
        repeat' apply And.intro
        all_goals first | exact True.intro | omega | with_reducible rfl | with_reducible assumption | rfl
    | false =>
      have eR := pointEt_3 n z a
      refine ⟨_, _, eR.trans (congrArg (fun r => some (r, _)) ?_), ?_⟩
      · try clear eR
        rfl
      · try clear eR
        try simp only [decide_eq_true_eq, decide_eq_false_iff_not, beq_iff_eq, beq_eq_false_iff_ne, bne_iff_ne, bne_eq_false_iff_eq, ne_eq] at hc21
        try simp only [toNat0, toNat1, toNat2, Int.toNat_natCast, sb_mk] at hc21
        try simp only [decide_eq_true_eq, decide_eq_false_iff_not, beq_iff_eq, beq_eq_false_iff_ne, bne_iff_ne, bne_eq_false_iff_eq, ne_eq] at hc24
        try simp only [toNat0, toNat1, toNat2, Int.toNat_natCast, sb_mk] at hc24
        simp (disch := omega) only [allP, sb_mk, sl1, toNat0, toNat1, toNat2, Int.toNat_natCast, List.take_length, List.take_succ_cons, List.drop_succ_cons, List.drop_zero, List.take_zero, List.length_cons, List.length_nil, List.getD_cons_zero, i64_wrap, i32_wrap, u8_wrap, u32_wrap, tdN, tmN, i64_min, i64_max, u8_min, u8_max, decide_eq_true_eq, decide_eq_false_iff_not, beq_iff_eq, beq_eq_false_iff_ne, bne_iff_ne, bne_eq_false_iff_eq, ne_eq, not_false_eq_true, and_true, true_and, Int.zero_sub]
        repeat' apply And.intro
        all_goals first | exact True.intro | omega | with_reducible rfl | with_reducible assumption | rfl

theorem pointLt_1 (n z a : Int) (s : List UInt8) : lawOut (aBody Try.prog clT ⟨true, bs [(21, false), (24, false), (28, false), (36, true)] ++ ([(33, ⟨.c (str s), none⟩)])⟩ (lpBy ([])) 60 5 ([.c (.int .i64 n), .c (.int .i64 z), .c (.int .i64 a), .c (.bool true)]) ([])) = some ((AV.c ((Value.bool true))), [((decide (n < (0 : Int)) : Bool)) = (false),
 ((decide (z < (0 : Int)) : Bool)) = (false),
 ((decide (z > (12 : Int)) : Bool)) = (false),
 (0 : Int) ≤ n ∧ n ≤ (9223372036854775807 : Int),
 (0 : Int) ≤ z ∧ z ≤ (1000 : Int),
 ((digZ n.toNat z.toNat : List UInt8)) = (s),
 ((decide ((↑s.length : Int) > (15 : Int)) : Bool)) = (true)]) := by kernel_rfl

theorem pointLt_2 (n z a : Int) (s : List UInt8) : lawOut (aBody Try.prog clT ⟨true, bs [(21, false), (24, false), (28, false), (36, false), (39, true)] ++ ([(33, ⟨.c (str s), none⟩)])⟩ (lpBy ([])) 60 5 ([.c (.int .i64 n), .c (.int .i64 z), .c (.int .i64 a), .c (.bool true)]) ([])) = some ((AV.c ((Value.bool true))), [((decide (n < (0 : Int)) : Bool)) = (false),
 ((decide (z < (0 : Int)) : Bool)) = (false),
 ((decide (z > (12 : Int)) : Bool)) = (false),
 (0 : Int) ≤ n ∧ n ≤ (9223372036854775807 : Int),
 (0 : Int) ≤ z ∧ z ≤ (1000 : Int),
 ((digZ n.toNat z.toNat : List UInt8)) = (s),
 ((decide ((↑s.length : Int) > (15 : Int)) : Bool)) = (false),
 ((decide (a < (0 : Int)) : Bool)) = (true)]) := by kernel_rfl

theorem pointLt_3 (n z a : Int) (s : List UInt8) : lawOut (aBody Try.prog clT ⟨true, bs [(21, false), (24, false), (28, false), (36, false), (39, false), (45, true)] ++ ([(33, ⟨.c (str s), none⟩)])⟩ (lpBy ([])) 60 5 ([.c (.int .i64 n), .c (.int .i64 z), .c (.int .i64 a), .c (.bool true)]) ([])) = some ((AV.c ((Value.bool true))), [((decide (n < (0 : Int)) : Bool)) = (false),
 ((decide (z < (0 : Int)) : Bool)) = (false),
 ((decide (z > (12 : Int)) : Bool)) = (false),
 (0 : Int) ≤ n ∧ n ≤ (9223372036854775807 : Int),
 (0 : Int) ≤ z ∧ z ≤ (1000 : Int),
 ((digZ n.toNat z.toNat : List UInt8)) = (s),
 ((decide ((↑s.length : Int) > (15 : Int)) : Bool)) = (false),
 ((decide (a < (0 : Int)) : Bool)) = (false),
 ((decide (a ≥ (↑s.length : Int)) : Bool)) = (true)]) := by kernel_rfl

theorem pointLt_all (n z a : Int) (s : List UInt8) (g0 : 0 ≤ n) (g1 : n ≤ 9223372036854775807) (g2 : 0 ≤ z) (g3 : z ≤ 12) (hs : digZ n.toNat z.toNat = s) (h0 : (s.length : Int) > 15 ∨ a < 0 ∨ a ≥ (s.length : Int)) : ∃ (h : Hints) (p : List Prop), lawOut (aBody Try.prog clT h (lpBy ([])) 60 5 ([.c (.int .i64 n), .c (.int .i64 z), .c (.int .i64 a), .c (.bool true)]) ([])) = some (.c (.bool true), p) ∧ allP p := by
  cases hc36 : (decide ((↑s.length : Int) > (15 : Int)) : Bool) with
  | true =>
    have eR := pointLt_1 n z a s
    refine ⟨_, _, eR.trans (congrArg (fun r => some (r, _)) ?_), ?_⟩
    · try clear eR
      rfl
    · try clear eR
      try simp only [decide_eq_true_eq, decide_eq_false_iff_not, beq_iff_eq, beq_eq_false_iff_ne, bne_iff_ne, bne_eq_false_iff_eq, ne_eq] at hc36
      try simp only [toNat0, toNat1, toNat2, Int.toNat_natCast, sb_mk] at hc36
      simp (disch := omega) only [allP, sb_mk, sl1, toNat0, toNat1, toNat2, Int.toNat_natCast, List.take_length, List.take_succ_cons, List.drop_succ_cons, List.drop_zero, List.take_zero, List.length_cons, List.length_nil, List.getD_cons_zero, i64_wrap, i32_wrap, u8_wrap, u32_wrap, tdN, tmN, i64_min, i64_max, u8_min, u8_max, decide_eq_true_eq, decide_eq_false_iff_not, beq_iff_eq, beq_eq_false_iff_ne, bne_iff_ne, bne_eq_false_iff_eq, ne_eq, not_false_eq_true, and_true, true_and, Int.zero_sub]
      repeat' apply And.intro
      all_goals first | exact True.intro | omega | with_reducible rfl | with_reducible assumption | exact hs | rfl
  | false =>
    cases hc39 : (decide (a < (0 : Int)) : Bool) with
    | true =>
      have eR := pointLt_2 n z a s
      refine ⟨_, _, eR.trans (congrArg (fun r => some (r, _)) ?_), ?_⟩
      · try clear eR
        rfl
      · try clear eR
        try simp only [decide_eq_true_eq, decide_eq_false_iff_not, beq_iff_eq, beq_eq_false_iff_ne, bne_iff_ne, bne_eq_false_iff_eq, ne_eq] at hc36
        try simp only [toNat0, toNat1, toNat2, Int.toNat_natCast, sb_mk] at hc36
        try simp only [decide_eq_true_eq, decide_eq_false_iff_not, beq_iff_eq, beq_eq_false_iff_ne, bne_iff_ne, bne_eq_false_iff_eq, ne_eq] at hc39
        try simp only [toNat0, toNat1, toNat2, Int.toNat_natCast, sb_mk] at hc39
        simp (disch := omega) only [allP, sb_mk, sl1, toNat0, toNat1, toNat2, Int.toNat_natCast, List.take_length, List.take_succ_cons, List.drop_succ_cons, List.drop_zero, List.take_zero, List.length_cons, List.length_nil, List.getD_cons_zero, i64_wrap, i32_wrap, u8_wrap, u32_wrap, tdN, tmN, i64_min, i64_max, u8_min, u8_max, decide_eq_true_eq, decide_eq_false_iff_not, beq_iff_eq, beq_eq_false_iff_ne, bne_iff_ne, bne_eq_false_iff_eq, ne_eq, not_false_eq_true, and_true, true_and, Int.zero_sub]
        repeat' apply And.intro
        all_goals first | exact True.intro | omega | with_reducible rfl | with_reducible assumption | exact hs | rfl
    | false =>
      have eR := pointLt_3 n z a s
      refine ⟨_, _, eR.trans (congrArg (fun r => some (r, _)) ?_), ?_⟩
      · try clear eR
        rfl
      · try clear eR
        try simp only [decide_eq_true_eq, decide_eq_false_iff_not, beq_iff_eq, beq_eq_false_iff_ne, bne_iff_ne, bne_eq_false_iff_eq, ne_eq] at hc36
        try simp only [toNat0, toNat1, toNat2, Int.toNat_natCast, sb_mk] at hc36
        try simp only [decide_eq_true_eq, decide_eq_false_iff_not, beq_iff_eq, beq_eq_false_iff_ne, bne_iff_ne, bne_eq_false_iff_eq, ne_eq] at hc39
        try simp only [toNat0, toNat1, toNat2, Int.toNat_natCast, sb_mk] at hc39
        simp (disch := omega) only [allP, sb_mk, sl1, toNat0, toNat1, toNat2, Int.toNat_natCast, List.take_length, List.take_succ_cons, List.drop_succ_cons, List.drop_zero, List.take_zero, List.length_cons, List.length_nil, List.getD_cons_zero, i64_wrap, i32_wrap, u8_wrap, u32_wrap, tdN, tmN, i64_min, i64_max, u8_min, u8_max, decide_eq_true_eq, decide_eq_false_iff_not, beq_iff_eq, beq_eq_false_iff_ne, bne_iff_ne, bne_eq_false_iff_eq, ne_eq, not_false_eq_true, and_true, true_and, Int.zero_sub]
        repeat' apply And.intro
        all_goals first | exact True.intro | omega | with_reducible rfl | with_reducible assumption | exact hs | rfl


theorem pointEf_1 (n z a : Int) : lawOut (aBody Try.prog clT ⟨true, bs [(21, true)] ++ ([])⟩ (lpBy ([])) 60 5 ([.c (.int .i64 n), .c (.int .i64 z), .c (.int .i64 a), .c (.bool false)]) ([])) = some ((AV.c ((Value.bool true))), [((decide (n < (0 : Int)) : Bool)) = (true)]) := by kernel_rfl

theorem pointEf_2 (n z a : Int) : lawOut (aBody Try.prog clT ⟨true, bs [(21, false), (24, true)] ++ ([])⟩ (lpBy ([])) 60 5 ([.c (.int .i64 n), .c (.int .i64 z), .c (.int .i64 a), .c (.bool false)]) ([])) = some ((AV.c ((Value.bool true))), [((decide (n < (0 : Int)) : Bool)) = (false),
 ((decide (z < (0 : Int)) : Bool)) = (true)]) := by kernel_rfl

theorem pointEf_3 (n z a : Int) : lawOut (aBody Try.prog clT ⟨true, bs [(21, false), (24, false), (28, true)] ++ ([])⟩ (lpBy ([])) 60 5 ([.c (.int .i64 n), .c (.int .i64 z), .c (.int .i64 a), .c (.bool false)]) ([])) = some ((AV.c ((Value.bool true))), [((decide (n < (0 : Int)) : Bool)) = (false),
 ((decide (z < (0 : Int)) : Bool)) = (false),
 ((decide (z > (12 : Int)) : Bool)) = (true)]) := by kernel_rfl

theorem pointEf_all (n z a : Int) (h0 : n < 0 ∨ z < 0 ∨ z > 12) : ∃ (h : Hints) (p : List Prop), lawOut (aBody Try.prog clT h (lpBy ([])) 60 5 ([.c (.int .i64 n), .c (.int .i64 z), .c (.int .i64 a), .c (.bool false)]) ([])) = some (.c (.bool true), p) ∧ allP p := by
  cases hc21 : (decide (n < (0 : Int)) : Bool) with
  | true =>
    have eR := pointEf_1 n z a
    refine ⟨_, _, eR.trans (congrArg (fun r => some (r, _)) ?_), ?_⟩
    · try clear eR
      rfl
    · try clear eR
      try simp only [decide_eq_true_eq, decide_eq_false_iff_not, beq_iff_eq, beq_eq_false_iff_ne, bne_iff_ne, bne_eq_false_iff_eq, ne_eq] at hc21
      try simp only [toNat0, toNat1, toNat2, Int.toNat_natCast, sb_mk] at hc21
      simp (disch := omega) only [allP, sb_mk, sl1, toNat0, toNat1, toNat2, Int.toNat_natCast, List.take_length, List.take_succ_cons, List.drop_succ_cons, List.drop_zero, List.take_zero, List.length_cons, List.length_nil, List.getD_cons_zero, i64_wrap, i32_wrap, u8_wrap, u32_wrap, tdN, tmN, i64_min, i64_max, u8_min, u8_max, decide_eq_true_eq, decide_eq_false_iff_not, beq_iff_eq, beq_eq_false_iff_ne, bne_iff_ne, bne_eq_false_iff_eq, ne_eq, not_false_eq_true, and_true, true_and, Int.zero_sub]
      repeat' apply And.intro
      all_goals first | exact True.intro | omega | with_reducible rfl | with_reducible assumption | rfl
  | false =>
    cases hc24 : (decide (z < (0 : Int)) : Bool) with
    | true =>
      have eR := pointEf_2 n z a
      refine ⟨_, _, eR.trans (congrArg (fun r => some (r, _)) ?_), ?_⟩
      · try clear eR
        rfl
      · try clear eR
        try simp only [decide_eq_true_eq, decide_eq_false_iff_not, beq_iff_eq, beq_eq_false_iff_ne, bne_iff_ne, bne_eq_false_iff_eq, ne_eq] at hc21
        try simp only [toNat0, toNat1, toNat2, Int.toNat_natCast, sb_mk] at hc21
        try simp only [decide_eq_true_eq, decide_eq_false_iff_not, beq_iff_eq, beq_eq_false_iff_ne, bne_iff_ne, bne_eq_false_iff_eq, ne_eq] at hc24
        try simp only [toNat0, toNat1, toNat2, Int.toNat_natCast, sb_mk] at hc24
        simp (disch := omega) only [allP, sb_mk, sl1, toNat0, toNat1, toNat2, Int.toNat_natCast, List.take_length, List.take_succ_cons, List.drop_succ_cons, List.drop_zero, List.take_zero, List.length_cons, List.length_nil, List.getD_cons_zero, i64_wrap, i32_wrap, u8_wrap, u32_wrap, tdN, tmN, i64_min, i64_max, u8_min, u8_max, decide_eq_true_eq, decide_eq_false_iff_not, beq_iff_eq, beq_eq_false_iff_ne, bne_iff_ne, bne_eq_false_iff_eq, ne_eq, not_false_eq_true, and_true, true_and, Int.zero_sub]
        repeat' apply And.intro
        all_goals first | exact True.intro | omega | with_reducible rfl | with_reducible assumption | rfl
    | false =>
      have eR := pointEf_3 n z a
      refine ⟨_, _, eR.trans (congrArg (fun r => some (r, _)) ?_), ?_⟩
      · try clear eR
        rfl
      · try clear eR
        try simp only [decide_eq_true_eq, decide_eq_false_iff_not, beq_iff_eq, beq_eq_false_iff_ne, bne_iff_ne, bne_eq_false_iff_eq, ne_eq] at hc21
        try simp only [toNat0, toNat1, toNat2, Int.toNat_natCast, sb_mk] at hc21
        try simp only [decide_eq_true_eq, decide_eq_false_iff_not, beq_iff_eq, beq_eq_false_iff_ne, bne_iff_ne, bne_eq_false_iff_eq, ne_eq] at hc24
        try simp only [toNat0, toNat1, toNat2, Int.toNat_natCast, sb_mk] at hc24
        simp (disch := omega) only [allP, sb_mk, sl1, toNat0, toNat1, toNat2, Int.toNat_natCast, List.take_length, List.take_succ_cons, List.drop_succ_cons, List.drop_zero, List.take_zero, List.length_cons, List.length_nil, List.getD_cons_zero, i64_wrap, i32_wrap, u8_wrap, u32_wrap, tdN, tmN, i64_min, i64_max, u8_min, u8_max, decide_eq_true_eq, decide_eq_false_iff_not, beq_iff_eq, beq_eq_false_iff_ne, bne_iff_ne, bne_eq_false_iff_eq, ne_eq, not_false_eq_true, and_true, true_and, Int.zero_sub]
        repeat' apply And.intro
        all_goals first | exact True.intro | omega | with_reducible rfl | with_reducible assumption | rfl

theorem pointLf_1 (n z a : Int) (s : List UInt8) : lawOut (aBody Try.prog clT ⟨true, bs [(21, false), (24, false), (28, false), (36, true)] ++ ([(33, ⟨.c (str s), none⟩)])⟩ (lpBy ([])) 60 5 ([.c (.int .i64 n), .c (.int .i64 z), .c (.int .i64 a), .c (.bool false)]) ([])) = some ((AV.c ((Value.bool true))), [((decide (n < (0 : Int)) : Bool)) = (false),
 ((decide (z < (0 : Int)) : Bool)) = (false),
 ((decide (z > (12 : Int)) : Bool)) = (false),
 (0 : Int) ≤ n ∧ n ≤ (9223372036854775807 : Int),
 (0 : Int) ≤ z ∧ z ≤ (1000 : Int),
 ((digZ n.toNat z.toNat : List UInt8)) = (s),
 ((decide ((↑s.length : Int) > (15 : Int)) : Bool)) = (true)]) := by kernel_rfl

theorem pointLf_2 (n z a : Int) (s : List UInt8) : lawOut (aBody Try.prog clT ⟨true, bs [(21, false), (24, false), (28, false), (36, false), (39, true)] ++ ([(33, ⟨.c (str s), none⟩)])⟩ (lpBy ([])) 60 5 ([.c (.int .i64 n), .c (.int .i64 z), .c (.int .i64 a), .c (.bool false)]) ([])) = some ((AV.c ((Value.bool true))), [((decide (n < (0 : Int)) : Bool)) = (false),
 ((decide (z < (0 : Int)) : Bool)) = (false),
 ((decide (z > (12 : Int)) : Bool)) = (false),
 (0 : Int) ≤ n ∧ n ≤ (9223372036854775807 : Int),
 (0 : Int) ≤ z ∧ z ≤ (1000 : Int),
 ((digZ n.toNat z.toNat : List UInt8)) = (s),
 ((decide ((↑s.length : Int) > (15 : Int)) : Bool)) = (false),
 ((decide (a < (0 : Int)) : Bool)) = (true)]) := by kernel_rfl

theorem pointLf_3 (n z a : Int) (s : List UInt8) : lawOut (aBody Try.prog clT ⟨true, bs [(21, false), (24, false), (28, false), (36, false), (39, false), (45, true)] ++ ([(33, ⟨.c (str s), none⟩)])⟩ (lpBy ([])) 60 5 ([.c (.int .i64 n), .c (.int .i64 z), .c (.int .i64 a), .c (.bool false)]) ([])) = some ((AV.c ((Value.bool true))), [((decide (n < (0 : Int)) : Bool)) = (false),
 ((decide (z < (0 : Int)) : Bool)) = (false),
 ((decide (z > (12 : Int)) : Bool)) = (false),
 (0 : Int) ≤ n ∧ n ≤ (9223372036854775807 : Int),
 (0 : Int) ≤ z ∧ z ≤ (1000 : Int),
 ((digZ n.toNat z.toNat : List UInt8)) = (s),
 ((decide ((↑s.length : Int) > (15 : Int)) : Bool)) = (false),
 ((decide (a < (0 : Int)) : Bool)) = (false),
 ((decide (a ≥ (↑s.length : Int)) : Bool)) = (true)]) := by kernel_rfl

theorem pointLf_all (n z a : Int) (s : List UInt8) (g0 : 0 ≤ n) (g1 : n ≤ 9223372036854775807) (g2 : 0 ≤ z) (g3 : z ≤ 12) (hs : digZ n.toNat z.toNat = s) (h0 : (s.length : Int) > 15 ∨ a < 0 ∨ a ≥ (s.length : Int)) : ∃ (h : Hints) (p : List Prop), lawOut (aBody Try.prog clT h (lpBy ([])) 60 5 ([.c (.int .i64 n), .c (.int .i64 z), .c (.int .i64 a), .c (.bool false)]) ([])) = some (.c (.bool true), p) ∧ allP p := by
  cases hc36 : (decide ((↑s.length : Int) > (15 : Int)) : Bool) with
  | true =>
    have eR := pointLf_1 n z a s
    refine ⟨_, _, eR.trans (congrArg (fun r => some (r, _)) ?_), ?_⟩
    · try clear eR
      rfl
    · try clear eR
      try simp only [decide_eq_true_eq, decide_eq_false_iff_not, beq_iff_eq, beq_eq_false_iff_ne, bne_iff_ne, bne_eq_false_iff_eq, ne_eq] at hc36
      try simp only [toNat0, toNat1, toNat2, Int.toNat_natCast, sb_mk] at hc36
      simp (disch := omega) only [allP, sb_mk, sl1, toNat0, toNat1, toNat2, Int.toNat_natCast, List.take_length, List.take_succ_cons, List.drop_succ_cons, List.drop_zero, List.take_zero, List.length_cons, List.length_nil, List.getD_cons_zero, i64_wrap, i32_wrap, u8_wrap, u32_wrap, tdN, tmN, i64_min, i64_max, u8_min, u8_max, decide_eq_true_eq, decide_eq_false_iff_not, beq_iff_eq, beq_eq_false_iff_ne, bne_iff_ne, bne_eq_false_iff_eq, ne_eq, not_false_eq_true, and_true, true_and, Int.zero_sub]
      repeat' apply And.intro
      all_goals first | exact True.intro | omega | with_reducible rfl | with_reducible assumption | exact hs | rfl
  | false =>
    cases hc39 : (decide (a < (0 : Int)) : Bool) with
    | true =>
      have eR := pointLf_2 n z a s
      refine ⟨_, _, eR.trans (congrArg (fun r => some (r, _)) ?_), ?_⟩
      · try clear eR
        rfl
      · try clear eR
        try simp only [decide_eq_true_eq, decide_eq_false_iff_not, beq_iff_eq, beq_eq_false_iff_ne, bne_iff_ne, bne_eq_false_iff_eq, ne_eq] at hc36
        try simp only [toNat0, toNat1, toNat2, Int.toNat_natCast, sb_mk] at hc36
        try simp only [decide_eq_true_eq, decide_eq_false_iff_not, beq_iff_eq, beq_eq_false_iff_ne, bne_iff_ne, bne_eq_false_iff_eq, ne_eq] at hc39
        try simp only [toNat0, toNat1, toNat2, Int.toNat_natCast, sb_mk] at hc39
        simp (disch := omega) only [allP, sb_mk, sl1, toNat0, toNat1, toNat2, Int.toNat_natCast, List.take_length, List.take_succ_cons, List.drop_succ_cons, List.drop_zero, List.take_zero, List.length_cons, List.length_nil, List.getD_cons_zero, i64_wrap, i32_wrap, u8_wrap, u32_wrap, tdN, tmN, i64_min, i64_max, u8_min, u8_max, decide_eq_true_eq, decide_eq_false_iff_not, beq_iff_eq, beq_eq_false_iff_ne, bne_iff_ne, bne_eq_false_iff_eq, ne_eq, not_false_eq_true, and_true, true_and, Int.zero_sub]
        repeat' apply And.intro
        all_goals first | exact True.intro | omega | with_reducible rfl | with_reducible assumption | exact hs | rfl
    | false =>
      have eR := pointLf_3 n z a s
      refine ⟨_, _, eR.trans (congrArg (fun r => some (r, _)) ?_), ?_⟩
      · try clear eR
        rfl
      · try clear eR
        try simp only [decide_eq_true_eq, decide_eq_false_iff_not, beq_iff_eq, beq_eq_false_iff_ne, bne_iff_ne, bne_eq_false_iff_eq, ne_eq] at hc36
        try simp only [toNat0, toNat1, toNat2, Int.toNat_natCast, sb_mk] at hc36
        try simp only [decide_eq_true_eq, decide_eq_false_iff_not, beq_iff_eq, beq_eq_false_iff_ne, bne_iff_ne, bne_eq_false_iff_eq, ne_eq] at hc39
        try simp only [toNat0, toNat1, toNat2, Int.toNat_natCast, sb_mk] at hc39
        simp (disch := omega) only [allP, sb_mk, sl1, toNat0, toNat1, toNat2, Int.toNat_natCast, List.take_length, List.take_succ_cons, List.drop_succ_cons, List.drop_zero, List.take_zero, List.length_cons, List.length_nil, List.getD_cons_zero, i64_wrap, i32_wrap, u8_wrap, u32_wrap, tdN, tmN, i64_min, i64_max, u8_min, u8_max, decide_eq_true_eq, decide_eq_false_iff_not, beq_iff_eq, beq_eq_false_iff_ne, bne_iff_ne, bne_eq_false_iff_eq, ne_eq, not_false_eq_true, and_true, true_and, Int.zero_sub]
        repeat' apply And.intro
        all_goals first | exact True.intro | omega | with_reducible rfl | with_reducible assumption | exact hs | rfl

theorem pointt_1 (n z : Int) (k : Nat) (s t1 t2 t3 d1 d2 : List UInt8) (w1 w3 : Nat) : lawOut (aBody Try.prog clT ⟨true, bs [(21, false), (24, false), (28, false), (36, false), (45, false), (103, true)] ++ ([(33, ⟨.c (str s), none⟩), (59, ⟨.c (str t1), none⟩), (61, ⟨.c (.float .f64 w1), none⟩), (62, ⟨.c (.bool true), none⟩), (72, ⟨.c (str d1), none⟩), (73, ⟨.c (str t2), none⟩), (75, ⟨.c (.float .f64 w1), none⟩), (76, ⟨.c (.bool true), none⟩), (93, ⟨.c (str d2), none⟩), (94, ⟨.c (str t3), none⟩), (96, ⟨.c (.float .f64 w3), none⟩), (97, ⟨.c (.bool true), none⟩), (99, ⟨.c (.float .f64 (floatOfInt .f64 n)), none⟩)])⟩ (lpBy ([])) 60 5 ([.c (.int .i64 n), .c (.int .i64 z), .c (.int .i64 k), .c (.bool true)]) ([])) = some ((AV.c ((Value.bool true))), [((decide (n < (0 : Int)) : Bool)) = (false),
 ((decide (z < (0 : Int)) : Bool)) = (false),
 ((decide (z > (12 : Int)) : Bool)) = (false),
 (0 : Int) ≤ n ∧ n ≤ (9223372036854775807 : Int),
 (0 : Int) ≤ z ∧ z ≤ (1000 : Int),
 ((digZ n.toNat z.toNat : List UInt8)) = (s),
 ((decide ((↑s.length : Int) > (15 : Int)) : Bool)) = (false),
 ((decide ((↑k : Int) ≥ (↑s.length : Int)) : Bool)) = (false),
 (((0 : Int) : Int) ≤ ((0 : Int))),
 (((0 : Int) : Int) ≤ ((↑k : Int))),
 (((↑k : Int) : Int) ≤ ((↑s.length : Int))),
 (((1 : Nat) + (List.drop (Int.toNat (0 : Int)) (List.take k s)).length : Nat) ≤ ((9223372036854775807 : Nat))),
 ((([(45 : UInt8)] ++ List.drop (Int.toNat (0 : Int)) (List.take k s)).length + (1 : Nat) : Nat) ≤ ((9223372036854775807 : Nat))),
 (((0 : Int) : Int) ≤ ((↑k : Int))),
 (((↑k : Int) : Int) ≤ ((↑s.length : Int))),
 (((↑s.length : Int) : Int) ≤ ((↑s.length : Int))),
 ((([(45 : UInt8)] ++ List.drop (Int.toNat (0 : Int)) (List.take k s) ++ [(46 : UInt8)]).length +
  (List.drop k (List.take s.length s)).length : Nat) ≤ ((9223372036854775807 : Nat))),
 (([(45 : UInt8)] ++ List.drop (Int.toNat (0 : Int)) (List.take k s) ++ [(46 : UInt8)] ++
  List.drop k (List.take s.length s) : List UInt8)) = (t1),
 ((t1.length : Nat) ≤ ((9223372036854775807 : Nat))),
 avEq ((AV.c ((Value.float .f64 (fltW (floatF (sb { data := { toList := t1 } }))))))) ((AV.c ((Value.float .f64 w1)))),
 (((floatF (sb { data := { toList := t1 } })).isSome : Bool)) = (true),
 (((1 : Nat) + s.length : Nat) ≤ ((9223372036854775807 : Nat))),
 ((([(45 : UInt8)] ++ s).length + (2 : Nat) : Nat) ≤ ((9223372036854775807 : Nat))),
 ((IntKind.i64.min : Int) ≤ ((↑s.length : Int) - (↑k : Int))),
 (((↑s.length : Int) - (↑k : Int) : Int) ≤ (IntKind.i64.max)),
 (0 : Int) ≤ (↑(sb { data := { toList := s } }).length : Int) - (↑k : Int) ∧
  (↑(sb { data := { toList := s } }).length : Int) - (↑k : Int) ≤ (9223372036854775807 : Int),
 (0 : Int) ≤ (0 : Int) ∧ (0 : Int) ≤ (1000 : Int),
 ((digZ ((↑s.length : Int) - (↑k : Int)).toNat (Int.toNat (0 : Int)) : List UInt8)) = (d1),
 ((([(45 : UInt8)] ++ s ++ [(101 : UInt8), (45 : UInt8)]).length + d1.length : Nat) ≤ ((9223372036854775807 : Nat))),
 (([(45 : UInt8)] ++ s ++ [(101 : UInt8), (45 : UInt8)] ++ d1 : List UInt8)) = (t2),
 ((t2.length : Nat) ≤ ((9223372036854775807 : Nat))),
 avEq ((AV.c ((Value.float .f64 (fltW (floatF (sb { data := { toList := t2 } }))))))) ((AV.c ((Value.float .f64 w1)))),
 (((floatF (sb { data := { toList := t2 } })).isSome : Bool)) = (true),
 (((0 : Int) : Int) ≤ ((0 : Int))),
 (((0 : Int) : Int) ≤ ((↑k : Int))),
 (((↑k : Int) : Int) ≤ ((↑s.length : Int))),
 (((1 : Nat) + (List.drop (Int.toNat (0 : Int)) (List.take k s)).length : Nat) ≤ ((9223372036854775807 : Nat))),
 ((([(45 : UInt8)] ++ List.drop (Int.toNat (0 : Int)) (List.take k s)).length + (1 : Nat) : Nat) ≤ ((9223372036854775807 : Nat))),
 (((0 : Int) : Int) ≤ ((↑k : Int))),
 (((↑k : Int) : Int) ≤ ((↑s.length : Int))),
 (((↑s.length : Int) : Int) ≤ ((↑s.length : Int))),
 ((([(45 : UInt8)] ++ List.drop (Int.toNat (0 : Int)) (List.take k s) ++ [(46 : UInt8)]).length +
  (List.drop k (List.take s.length s)).length : Nat) ≤ ((9223372036854775807 : Nat))),
 ((([(45 : UInt8)] ++ List.drop (Int.toNat (0 : Int)) (List.take k s) ++ [(46 : UInt8)] ++
      List.drop k (List.take s.length s)).length +
  (2 : Nat) : Nat) ≤ ((9223372036854775807 : Nat))),
 ((IntKind.i64.min : Int) ≤ ((↑s.length : Int) - (↑k : Int))),
 (((↑s.length : Int) - (↑k : Int) : Int) ≤ (IntKind.i64.max)),
 (0 : Int) ≤ (↑(sb { data := { toList := s } }).length : Int) - (↑k : Int) ∧
  (↑(sb { data := { toList := s } }).length : Int) - (↑k : Int) ≤ (9223372036854775807 : Int),
 (0 : Int) ≤ (2 : Int) ∧ (2 : Int) ≤ (1000 : Int),
 ((digZ ((↑s.length : Int) - (↑k : Int)).toNat (Int.toNat (2 : Int)) : List UInt8)) = (d2),
 ((([(45 : UInt8)] ++ List.drop (Int.toNat (0 : Int)) (List.take k s) ++ [(46 : UInt8)] ++
        List.drop k (List.take s.length s) ++
      [(69 : UInt8), (43 : UInt8)]).length +
  d2.length : Nat) ≤ ((9223372036854775807 : Nat))),
 (([(45 : UInt8)] ++ List.drop (Int.toNat (0 : Int)) (List.take k s) ++ [(46 : UInt8)] ++
      List.drop k (List.take s.length s) ++
    [(69 : UInt8), (43 : UInt8)] ++
  d2 : List UInt8)) = (t3),
 ((t3.length : Nat) ≤ ((9223372036854775807 : Nat))),
 avEq ((AV.c ((Value.float .f64 (fltW (floatF (sb { data := { toList := t3 } }))))))) ((AV.c ((Value.float .f64 w3)))),
 (((floatF (sb { data := { toList := t3 } })).isSome : Bool)) = (true),
 avEq ((AV.c ((Value.float .f64 (floatOfInt FloatKind.f64 n))))) ((AV.c ((Value.float .f64 (floatOfInt FloatKind.f64 n))))),
 ((decide (n > (0 : Int)) : Bool)) = (true),
 ((w1 : Nat)) = (w1),
 NiceW w1,
 ((w3 : Nat)) = (Op.negFloat FloatKind.f64 (floatOfInt FloatKind.f64 n)),
 NiceW w3]) := by kernel_rfl

theorem pointt_2 (n z : Int) (k : Nat) (s t1 t2 t3 d1 d2 : List UInt8) (w1 w3 : Nat) : lawOut (aBody Try.prog clT ⟨true, bs [(21, false), (24, false), (28, false), (36, false), (45, false), (103, false)] ++ ([(33, ⟨.c (str s), none⟩), (59, ⟨.c (str t1), none⟩), (61, ⟨.c (.float .f64 w1), none⟩), (62, ⟨.c (.bool true), none⟩), (72, ⟨.c (str d1), none⟩), (73, ⟨.c (str t2), none⟩), (75, ⟨.c (.float .f64 w1), none⟩), (76, ⟨.c (.bool true), none⟩), (93, ⟨.c (str d2), none⟩), (94, ⟨.c (str t3), none⟩), (96, ⟨.c (.float .f64 w3), none⟩), (97, ⟨.c (.bool true), none⟩), (99, ⟨.c (.float .f64 (floatOfInt .f64 n)), none⟩)])⟩ (lpBy ([])) 60 5 ([.c (.int .i64 n), .c (.int .i64 z), .c (.int .i64 k), .c (.bool true)]) ([])) = some ((AV.c ((Value.bool true))), [((decide (n < (0 : Int)) : Bool)) = (false),
 ((decide (z < (0 : Int)) : Bool)) = (false),
 ((decide (z > (12 : Int)) : Bool)) = (false),
 (0 : Int) ≤ n ∧ n ≤ (9223372036854775807 : Int),
 (0 : Int) ≤ z ∧ z ≤ (1000 : Int),
 ((digZ n.toNat z.toNat : List UInt8)) = (s),
 ((decide ((↑s.length : Int) > (15 : Int)) : Bool)) = (false),
 ((decide ((↑k : Int) ≥ (↑s.length : Int)) : Bool)) = (false),
 (((0 : Int) : Int) ≤ ((0 : Int))),
 (((0 : Int) : Int) ≤ ((↑k : Int))),
 (((↑k : Int) : Int) ≤ ((↑s.length : Int))),
 (((1 : Nat) + (List.drop (Int.toNat (0 : Int)) (List.take k s)).length : Nat) ≤ ((9223372036854775807 : Nat))),
 ((([(45 : UInt8)] ++ List.drop (Int.toNat (0 : Int)) (List.take k s)).length + (1 : Nat) : Nat) ≤ ((9223372036854775807 : Nat))),
 (((0 : Int) : Int) ≤ ((↑k : Int))),
 (((↑k : Int) : Int) ≤ ((↑s.length : Int))),
 (((↑s.length : Int) : Int) ≤ ((↑s.length : Int))),
 ((([(45 : UInt8)] ++ List.drop (Int.toNat (0 : Int)) (List.take k s) ++ [(46 : UInt8)]).length +
  (List.drop k (List.take s.length s)).length : Nat) ≤ ((9223372036854775807 : Nat))),
 (([(45 : UInt8)] ++ List.drop (Int.toNat (0 : Int)) (List.take k s) ++ [(46 : UInt8)] ++
  List.drop k (List.take s.length s) : List UInt8)) = (t1),
 ((t1.length : Nat) ≤ ((9223372036854775807 : Nat))),
 avEq ((AV.c ((Value.float .f64 (fltW (floatF (sb { data := { toList := t1 } }))))))) ((AV.c ((Value.float .f64 w1)))),
 (((floatF (sb { data := { toList := t1 } })).isSome : Bool)) = (true),
 (((1 : Nat) + s.length : Nat) ≤ ((9223372036854775807 : Nat))),
 ((([(45 : UInt8)] ++ s).length + (2 : Nat) : Nat) ≤ ((9223372036854775807 : Nat))),
 ((IntKind.i64.min : Int) ≤ ((↑s.length : Int) - (↑k : Int))),
 (((↑s.length : Int) - (↑k : Int) : Int) ≤ (IntKind.i64.max)),
 (0 : Int) ≤ (↑(sb { data := { toList := s } }).length : Int) - (↑k : Int) ∧
  (↑(sb { data := { toList := s } }).length : Int) - (↑k : Int) ≤ (9223372036854775807 : Int),
 (0 : Int) ≤ (0 : Int) ∧ (0 : Int) ≤ (1000 : Int),
 ((digZ ((↑s.length : Int) - (↑k : Int)).toNat (Int.toNat (0 : Int)) : List UInt8)) = (d1),
 ((([(45 : UInt8)] ++ s ++ [(101 : UInt8), (45 : UInt8)]).length + d1.length : Nat) ≤ ((9223372036854775807 : Nat))),
 (([(45 : UInt8)] ++ s ++ [(101 : UInt8), (45 : UInt8)] ++ d1 : List UInt8)) = (t2),
 ((t2.length : Nat) ≤ ((9223372036854775807 : Nat))),
 avEq ((AV.c ((Value.float .f64 (fltW (floatF (sb { data := { toList := t2 } }))))))) ((AV.c ((Value.float .f64 w1)))),
 (((floatF (sb { data := { toList := t2 } })).isSome : Bool)) = (true),
 (((0 : Int) : Int) ≤ ((0 : Int))),
 (((0 : Int) : Int) ≤ ((↑k : Int))),
 (((↑k : Int) : Int) ≤ ((↑s.length : Int))),
 (((1 : Nat) + (List.drop (Int.toNat (0 : Int)) (List.take k s)).length : Nat) ≤ ((9223372036854775807 : Nat))),
 ((([(45 : UInt8)] ++ List.drop (Int.toNat (0 : Int)) (List.take k s)).length + (1 : Nat) : Nat) ≤ ((9223372036854775807 : Nat))),
 (((0 : Int) : Int) ≤ ((↑k : Int))),
 (((↑k : Int) : Int) ≤ ((↑s.length : Int))),
 (((↑s.length : Int) : Int) ≤ ((↑s.length : Int))),
 ((([(45 : UInt8)] ++ List.drop (Int.toNat (0 : Int)) (List.take k s) ++ [(46 : UInt8)]).length +
  (List.drop k (List.take s.length s)).length : Nat) ≤ ((9223372036854775807 : Nat))),
 ((([(45 : UInt8)] ++ List.drop (Int.toNat (0 : Int)) (List.take k s) ++ [(46 : UInt8)] ++
      List.drop k (List.take s.length s)).length +
  (2 : Nat) : Nat) ≤ ((9223372036854775807 : Nat))),
 ((IntKind.i64.min : Int) ≤ ((↑s.length : Int) - (↑k : Int))),
 (((↑s.length : Int) - (↑k : Int) : Int) ≤ (IntKind.i64.max)),
 (0 : Int) ≤ (↑(sb { data := { toList := s } }).length : Int) - (↑k : Int) ∧
  (↑(sb { data := { toList := s } }).length : Int) - (↑k : Int) ≤ (9223372036854775807 : Int),
 (0 : Int) ≤ (2 : Int) ∧ (2 : Int) ≤ (1000 : Int),
 ((digZ ((↑s.length : Int) - (↑k : Int)).toNat (Int.toNat (2 : Int)) : List UInt8)) = (d2),
 ((([(45 : UInt8)] ++ List.drop (Int.toNat (0 : Int)) (List.take k s) ++ [(46 : UInt8)] ++
        List.drop k (List.take s.length s) ++
      [(69 : UInt8), (43 : UInt8)]).length +
  d2.length : Nat) ≤ ((9223372036854775807 : Nat))),
 (([(45 : UInt8)] ++ List.drop (Int.toNat (0 : Int)) (List.take k s) ++ [(46 : UInt8)] ++
      List.drop k (List.take s.length s) ++
    [(69 : UInt8), (43 : UInt8)] ++
  d2 : List UInt8)) = (t3),
 ((t3.length : Nat) ≤ ((9223372036854775807 : Nat))),
 avEq ((AV.c ((Value.float .f64 (fltW (floatF (sb { data := { toList := t3 } }))))))) ((AV.c ((Value.float .f64 w3)))),
 (((floatF (sb { data := { toList := t3 } })).isSome : Bool)) = (true),
 avEq ((AV.c ((Value.float .f64 (floatOfInt FloatKind.f64 n))))) ((AV.c ((Value.float .f64 (floatOfInt FloatKind.f64 n))))),
 ((decide (n > (0 : Int)) : Bool)) = (false),
 ((w1 : Nat)) = (w1),
 NiceW w1,
 ((w3 : Nat)) = (floatOfInt FloatKind.f64 n),
 NiceW w3]) := by kernel_rfl

theorem pointt_all (n z : Int) (k : Nat) (s t1 t2 t3 d1 d2 : List UInt8) (w1 w3 : Nat) (g0 : 0 ≤ n) (g1 : n ≤ 9223372036854775807) (g2 : 0 ≤ z) (g3 : z ≤ 12) (hs : digZ n.toNat z.toNat = s) (l0 : (s.length : Int) ≤ 15) (l1 : (k : Int) < (s.length : Int)) (e1 : [45] ++ List.take k s ++ [46] ++ List.drop k s = t1) (e2 : [45] ++ s ++ [101, 45] ++ d1 = t2) (e3 : [45] ++ List.take k s ++ [46] ++ List.drop k s ++ [69, 43] ++ d2 = t3) (hd1 : digZ ((s.length : Int) - (k : Int)).toNat 0 = d1) (hd2 : digZ ((s.length : Int) - (k : Int)).toNat 2 = d2) (l2 : t1.length ≤ 1000) (l3 : t2.length ≤ 1000) (l4 : t3.length ≤ 1000) (l5 : d1.length ≤ 100) (l6 : d2.length ≤ 100) (f1 : fltW (floatF t1) = w1) (f2 : (floatF t1).isSome = true) (f3 : fltW (floatF t2) = w1) (f4 : (floatF t2).isSome = true) (f5 : fltW (floatF t3) = w3) (f6 : (floatF t3).isSome = true) (nw1 : NiceW w1) (nw3 : NiceW w3) (k1 : n > 0 → Op.negFloat .f64 (floatOfInt .f64 n) = w3) (k2 : ¬ n > 0 → floatOfInt .f64 n = w3) : ∃ (h : Hints) (p : List Prop), lawOut (aBody Try.prog clT h (lpBy ([])) 60 5 ([.c (.int .i64 n), .c (.int .i64 z), .c (.int .i64 k), .c (.bool true)]) ([])) = some (.c (.bool true), p) ∧ allP p := by
  cases hc103 : (decide (n > (0 : Int)) : Bool) with
  | true =>
    have eR := pointt_1 n z k s t1 t2 t3 d1 d2 w1 w3
    refine ⟨_, _, eR.trans (congrArg (fun r => some (r, _)) ?_), ?_⟩
    · try clear eR
      rfl
    · try clear eR
      try simp only [decide_eq_true_eq, decide_eq_false_iff_not, beq_iff_eq, beq_eq_false_iff_ne, bne_iff_ne, bne_eq_false_iff_eq, ne_eq] at hc103
      try simp only [toNat0, toNat1, toNat2, Int.toNat_natCast, sb_mk] at hc103
      simp (disch := omega) only [allP, sb_mk, sl1, toNat0, toNat1, toNat2, Int.toNat_natCast, List.take_length, List.take_succ_cons, List.drop_succ_cons, List.drop_zero, List.take_zero, List.length_cons, List.length_nil, List.getD_cons_zero, i64_wrap, i32_wrap, u8_wrap, u32_wrap, tdN, tmN, i64_min, i64_max, u8_min, u8_max, decide_eq_true_eq, decide_eq_false_iff_not, beq_iff_eq, beq_eq_false_iff_ne, bne_iff_ne, bne_eq_false_iff_eq, ne_eq, not_false_eq_true, and_true, true_and, Int.zero_sub, List.length_append, List.length_take, List.length_drop]
      repeat' apply And.intro
      all_goals first | exact True.intro | omega | with_reducible rfl | with_reducible assumption | exact av_f f1 | exact av_f f3 | exact av_f f5 | exact av_f rfl | exact hs | exact e1 | exact e2 | exact e3 | exact hd1 | exact hd2 | exact f1 | exact f2 | exact f3 | exact f4 | exact f5 | exact f6 | exact nw1 | exact nw3 | rfl
  | false =>
    have eR := pointt_2 n z k s t1 t2 t3 d1 d2 w1 w3
    refine ⟨_, _, eR.trans (congrArg (fun r => some (r, _)) ?_), ?_⟩
    · try clear eR
      rfl
    · try clear eR
      try simp only [decide_eq_true_eq, decide_eq_false_iff_not, beq_iff_eq, beq_eq_false_iff_ne, bne_iff_ne, bne_eq_false_iff_eq, ne_eq] at hc103
      try simp only [toNat0, toNat1, toNat2, Int.toNat_natCast, sb_mk] at hc103
      simp (disch := omega) only [allP, sb_mk, sl1, toNat0, toNat1, toNat2, Int.toNat_natCast, List.take_length, List.take_succ_cons, List.drop_succ_cons, List.drop_zero, List.take_zero, List.length_cons, List.length_nil, List.getD_cons_zero, i64_wrap, i32_wrap, u8_wrap, u32_wrap, tdN, tmN, i64_min, i64_max, u8_min, u8_max, decide_eq_true_eq, decide_eq_false_iff_not, beq_iff_eq, beq_eq_false_iff_ne, bne_iff_ne, bne_eq_false_iff_eq, ne_eq, not_false_eq_true, and_true, true_and, Int.zero_sub, List.length_append, List.length_take, List.length_drop]
      repeat' apply And.intro
      all_goals first | exact True.intro | omega | with_reducible rfl | with_reducible assumption | exact av_f f1 | exact av_f f3 | exact av_f f5 | exact av_f rfl | exact hs | exact e1 | exact e2 | exact e3 | exact hd1 | exact hd2 | exact f1 | exact f2 | exact f3 | exact f4 | exact f5 | exact f6 | exact nw1 | exact nw3 | rfl


theorem pointf_1 (n z : Int) (k : Nat) (s t1 t2 t3 d1 d2 : List UInt8) (w1 w3 : Nat) : lawOut (aBody Try.prog clT ⟨true, bs [(21, false), (24, false), (28, false), (36, false), (45, false)] ++ ([(33, ⟨.c (str s), none⟩), (59, ⟨.c (str t1), none⟩), (61, ⟨.c (.float .f64 w1), none⟩), (62, ⟨.c (.bool true), none⟩), (72, ⟨.c (str d1), none⟩), (73, ⟨.c (str t2), none⟩), (75, ⟨.c (.float .f64 w1), none⟩), (76, ⟨.c (.bool true), none⟩), (93, ⟨.c (str d2), none⟩), (94, ⟨.c (str t3), none⟩), (96, ⟨.c (.float .f64 w3), none⟩), (97, ⟨.c (.bool true), none⟩), (99, ⟨.c (.float .f64 (floatOfInt .f64 n)), none⟩)])⟩ (lpBy ([])) 60 5 ([.c (.int .i64 n), .c (.int .i64 z), .c (.int .i64 k), .c (.bool false)]) ([])) = some ((AV.c ((Value.bool true))), [((decide (n < (0 : Int)) : Bool)) = (false),
 ((decide (z < (0 : Int)) : Bool)) = (false),
 ((decide (z > (12 : Int)) : Bool)) = (false),
 (0 : Int) ≤ n ∧ n ≤ (9223372036854775807 : Int),
 (0 : Int) ≤ z ∧ z ≤ (1000 : Int),
 ((digZ n.toNat z.toNat : List UInt8)) = (s),
 ((decide ((↑s.length : Int) > (15 : Int)) : Bool)) = (false),
 ((decide ((↑k : Int) ≥ (↑s.length : Int)) : Bool)) = (false),
 (((0 : Int) : Int) ≤ ((0 : Int))),
 (((0 : Int) : Int) ≤ ((↑k : Int))),
 (((↑k : Int) : Int) ≤ ((↑s.length : Int))),
 (((0 : Nat) + (List.drop (Int.toNat (0 : Int)) (List.take k s)).length : Nat) ≤ ((9223372036854775807 : Nat))),
 ((([] ++ List.drop (Int.toNat (0 : Int)) (List.take k s)).length + (1 : Nat) : Nat) ≤ ((9223372036854775807 : Nat))),
 (((0 : Int) : Int) ≤ ((↑k : Int))),
 (((↑k : Int) : Int) ≤ ((↑s.length : Int))),
 (((↑s.length : Int) : Int) ≤ ((↑s.length : Int))),
 ((([] ++ List.drop (Int.toNat (0 : Int)) (List.take k s) ++ [(46 : UInt8)]).length +
  (List.drop k (List.take s.length s)).length : Nat) ≤ ((9223372036854775807 : Nat))),
 (([] ++ List.drop (Int.toNat (0 : Int)) (List.take k s) ++ [(46 : UInt8)] ++ List.drop k (List.take s.length s) : List UInt8)) = (t1),
 ((t1.length : Nat) ≤ ((9223372036854775807 : Nat))),
 avEq ((AV.c ((Value.float .f64 (fltW (floatF (sb { data := { toList := t1 } }))))))) ((AV.c ((Value.float .f64 w1)))),
 (((floatF (sb { data := { toList := t1 } })).isSome : Bool)) = (true),
 (((0 : Nat) + s.length : Nat) ≤ ((9223372036854775807 : Nat))),
 ((([] ++ s).length + (2 : Nat) : Nat) ≤ ((9223372036854775807 : Nat))),
 ((IntKind.i64.min : Int) ≤ ((↑s.length : Int) - (↑k : Int))),
 (((↑s.length : Int) - (↑k : Int) : Int) ≤ (IntKind.i64.max)),
 (0 : Int) ≤ (↑(sb { data := { toList := s } }).length : Int) - (↑k : Int) ∧
  (↑(sb { data := { toList := s } }).length : Int) - (↑k : Int) ≤ (9223372036854775807 : Int),
 (0 : Int) ≤ (0 : Int) ∧ (0 : Int) ≤ (1000 : Int),
 ((digZ ((↑s.length : Int) - (↑k : Int)).toNat (Int.toNat (0 : Int)) : List UInt8)) = (d1),
 ((([] ++ s ++ [(101 : UInt8), (45 : UInt8)]).length + d1.length : Nat) ≤ ((9223372036854775807 : Nat))),
 (([] ++ s ++ [(101 : UInt8), (45 : UInt8)] ++ d1 : List UInt8)) = (t2),
 ((t2.length : Nat) ≤ ((9223372036854775807 : Nat))),
 avEq ((AV.c ((Value.float .f64 (fltW (floatF (sb { data := { toList := t2 } }))))))) ((AV.c ((Value.float .f64 w1)))),
 (((floatF (sb { data := { toList := t2 } })).isSome : Bool)) = (true),
 (((0 : Int) : Int) ≤ ((0 : Int))),
 (((0 : Int) : Int) ≤ ((↑k : Int))),
 (((↑k : Int) : Int) ≤ ((↑s.length : Int))),
 (((0 : Nat) + (List.drop (Int.toNat (0 : Int)) (List.take k s)).length : Nat) ≤ ((9223372036854775807 : Nat))),
 ((([] ++ List.drop (Int.toNat (0 : Int)) (List.take k s)).length + (1 : Nat) : Nat) ≤ ((9223372036854775807 : Nat))),
 (((0 : Int) : Int) ≤ ((↑k : Int))),
 (((↑k : Int) : Int) ≤ ((↑s.length : Int))),
 (((↑s.length : Int) : Int) ≤ ((↑s.length : Int))),
 ((([] ++ List.drop (Int.toNat (0 : Int)) (List.take k s) ++ [(46 : UInt8)]).length +
  (List.drop k (List.take s.length s)).length : Nat) ≤ ((9223372036854775807 : Nat))),
 ((([] ++ List.drop (Int.toNat (0 : Int)) (List.take k s) ++ [(46 : UInt8)] ++ List.drop k (List.take s.length s)).length +
  (2 : Nat) : Nat) ≤ ((9223372036854775807 : Nat))),
 ((IntKind.i64.min : Int) ≤ ((↑s.length : Int) - (↑k : Int))),
 (((↑s.length : Int) - (↑k : Int) : Int) ≤ (IntKind.i64.max)),
 (0 : Int) ≤ (↑(sb { data := { toList := s } }).length : Int) - (↑k : Int) ∧
  (↑(sb { data := { toList := s } }).length : Int) - (↑k : Int) ≤ (9223372036854775807 : Int),
 (0 : Int) ≤ (2 : Int) ∧ (2 : Int) ≤ (1000 : Int),
 ((digZ ((↑s.length : Int) - (↑k : Int)).toNat (Int.toNat (2 : Int)) : List UInt8)) = (d2),
 ((([] ++ List.drop (Int.toNat (0 : Int)) (List.take k s) ++ [(46 : UInt8)] ++ List.drop k (List.take s.length s) ++
      [(69 : UInt8), (43 : UInt8)]).length +
  d2.length : Nat) ≤ ((9223372036854775807 : Nat))),
 (([] ++ List.drop (Int.toNat (0 : Int)) (List.take k s) ++ [(46 : UInt8)] ++ List.drop k (List.take s.length s) ++
    [(69 : UInt8), (43 : UInt8)] ++
  d2 : List UInt8)) = (t3),
 ((t3.length : Nat) ≤ ((9223372036854775807 : Nat))),
 avEq ((AV.c ((Value.float .f64 (fltW (floatF (sb { data := { toList := t3 } }))))))) ((AV.c ((Value.float .f64 w3)))),
 (((floatF (sb { data := { toList := t3 } })).isSome : Bool)) = (true),
 avEq ((AV.c ((Value.float .f64 (floatOfInt FloatKind.f64 n))))) ((AV.c ((Value.float .f64 (floatOfInt FloatKind.f64 n))))),
 ((w1 : Nat)) = (w1),
 NiceW w1,
 ((w3 : Nat)) = (floatOfInt FloatKind.f64 n),
 NiceW w3]) := by kernel_rfl

theorem pointf_all (n z : Int) (k : Nat) (s t1 t2 t3 d1 d2 : List UInt8) (w1 w3 : Nat) (g0 : 0 ≤ n) (g1 : n ≤ 9223372036854775807) (g2 : 0 ≤ z) (g3 : z ≤ 12) (hs : digZ n.toNat z.toNat = s) (l0 : (s.length : Int) ≤ 15) (l1 : (k : Int) < (s.length : Int)) (e1 : [] ++ List.take k s ++ [46] ++ List.drop k s = t1) (e2 : [] ++ s ++ [101, 45] ++ d1 = t2) (e3 : [] ++ List.take k s ++ [46] ++ List.drop k s ++ [69, 43] ++ d2 = t3) (hd1 : digZ ((s.length : Int) - (k : Int)).toNat 0 = d1) (hd2 : digZ ((s.length : Int) - (k : Int)).toNat 2 = d2) (l2 : t1.length ≤ 1000) (l3 : t2.length ≤ 1000) (l4 : t3.length ≤ 1000) (l5 : d1.length ≤ 100) (l6 : d2.length ≤ 100) (f1 : fltW (floatF t1) = w1) (f2 : (floatF t1).isSome = true) (f3 : fltW (floatF t2) = w1) (f4 : (floatF t2).isSome = true) (f5 : fltW (floatF t3) = w3) (f6 : (floatF t3).isSome = true) (nw1 : NiceW w1) (nw3 : NiceW w3) (k3 : floatOfInt .f64 n = w3) : ∃ (h : Hints) (p : List Prop), lawOut (aBody Try.prog clT h (lpBy ([])) 60 5 ([.c (.int .i64 n), .c (.int .i64 z), .c (.int .i64 k), .c (.bool false)]) ([])) = some (.c (.bool true), p) ∧ allP p := by
  have eR := pointf_1 n z k s t1 t2 t3 d1 d2 w1 w3
  refine ⟨_, _, eR.trans (congrArg (fun r => some (r, _)) ?_), ?_⟩
  · try clear eR
    rfl
  · try clear eR
    simp (disch := omega) only [allP, sb_mk, sl1, toNat0, toNat1, toNat2, Int.toNat_natCast, List.take_length, List.take_succ_cons, List.drop_succ_cons, List.drop_zero, List.take_zero, List.length_cons, List.length_nil, List.getD_cons_zero, i64_wrap, i32_wrap, u8_wrap, u32_wrap, tdN, tmN, i64_min, i64_max, u8_min, u8_max, decide_eq_true_eq, decide_eq_false_iff_not, beq_iff_eq, beq_eq_false_iff_ne, bne_iff_ne, bne_eq_false_iff_eq, ne_eq, not_false_eq_true, and_true, true_and, Int.zero_sub, List.length_append, List.length_take, List.length_drop]
    repeat' apply And.intro
    all_goals first | exact True.intro | omega | with_reducible rfl | with_reducible assumption | exact av_f f1 | exact av_f f3 | exact av_f f5 | exact av_f rfl | exact hs | exact e1 | exact e2 | exact e3 | exact hd1 | exact hd2 | exact f1 | exact f2 | exact f3 | exact f4 | exact f5 | exact f6 | exact nw1 | exact nw3 | exact k3 | rfl

theorem fltW_some {l a : List UInt8} {m : Bool} {e : Int} (h : floatF l = some (m, a, e)) : fltW (floatF l) = wordF m (decV a : Nat) e ∧ (floatF l).isSome = true := by
  rw [h]; exact ⟨rfl, rfl⟩

theorem point_law (n z a : Int) (m : Bool) (hn : n ≤ 9223372036854775807) : ∃ hs lp fuel p, LpOK Ext0 Try.prog lp ∧ lawOut (aBody Try.prog clT hs lp fuel 5 [.c (.int .i64 n), .c (.int .i64 z), .c (.int .i64 a), .c (.bool m)] []) = some (.c (.bool true), p) ∧ allP p := by
  by_cases h : n < 0 ∨ z < 0 ∨ z > 12
  · cases m with
    | true =>
      obtain ⟨hh, p, e, hp⟩ := pointEt_all n z a h
      exact ⟨_, _, _, _, lpBy_nil, e, hp⟩
    | false =>
      obtain ⟨hh, p, e, hp⟩ := pointEf_all n z a h
      exact ⟨_, _, _, _, lpBy_nil, e, hp⟩
  · by_cases h2 : ((digZ n.toNat z.toNat).length : Int) > 15 ∨ a < 0 ∨ a ≥ ((digZ n.toNat z.toNat).length : Int)
    · cases m with
      | true =>
        obtain ⟨hh, p, e, hp⟩ := pointLt_all n z a _ (by omega) hn (by omega) (by omega) rfl h2
        exact ⟨_, _, _, _, lpBy_nil, e, hp⟩
      | false =>
        obtain ⟨hh, p, e, hp⟩ := pointLf_all n z a _ (by omega) hn (by omega) (by omega) rfl h2
        exact ⟨_, _, _, _, lpBy_nil, e, hp⟩
    · obtain ⟨n, rfl⟩ : ∃ k : Nat, n = (k : Int) := ⟨n.toNat, by omega⟩
      obtain ⟨z, rfl⟩ : ∃ k : Nat, z = (k : Int) := ⟨z.toNat, by omega⟩
      obtain ⟨k, rfl⟩ : ∃ k : Nat, a = (k : Int) := ⟨a.toNat, by omega⟩
      have hn' : n ≤ 9223372036854775807 := by omega
      simp only [Int.toNat_natCast] at h2
      obtain ⟨a1, a2, a3, a4, a5⟩ := digZ_w (z := z) hn'
      have hsl : (digZ n z).length ≤ 15 := by omega
      have hkl : k < (digZ n z).length := by omega
      have hv := decV_len a1 15 hsl
      rw [a2] at hv
      have hsub : (((digZ n z).length : Int) - (k : Int)).toNat = (digZ n z).length - k := by omega
      have hla : ((digZ n z).take k).length = k := by rw [List.length_take]; omega
      have hlb : ((digZ n z).drop k).length = (digZ n z).length - k := List.length_drop ..
      have t1 : allD ((digZ n z).take k) = true := by
        have := a1; rw [← List.take_append_drop k (digZ n z), allD_app, Bool.and_eq_true] at this; exact this.1
      have t2 : allD ((digZ n z).drop k) = true := by
        have := a1; rw [← List.take_append_drop k (digZ n z), allD_app, Bool.and_eq_true] at this; exact this.2
      have t3 : (digZ n z).drop k ≠ [] := by intro e; rw [e] at hlb; simp at hlb; omega
      generalize hs : digZ n z = s at *
      have hd : ∀ y, decV (digZ (s.length - k) y) = s.length - k ∧ allD (digZ (s.length - k) y) = true ∧ digZ (s.length - k) y ≠ [] ∧ (digZ (s.length - k) y).length ≤ y + 2 := fun y => by
        obtain ⟨c1, c2, c3, c4⟩ := digZ_ok (n := s.length - k) y (Nat.lt_of_le_of_lt (show s.length - k ≤ 15 by omega) (by decide))
        refine ⟨c2, c1, c3, ?_⟩
        have := c4 1 (by have : (10 : Nat) ^ (1 + 1) = 100 := rfl; omega)
        omega
      obtain ⟨d1, d2, d3, d4⟩ := hd 0
      obtain ⟨q1, q2, q3, q4⟩ := hd 2
      have F1 := float_point (m := m) t1 t2 t3 (by omega)
      have F2 := float_expo (m := m) (d := digZ (s.length - k) 0) a1 a3 hsl d2 d3 (by omega) (by omega)
      have F3 := float_both (m := m) t1 t2 t3 (by omega) q2 q3 (by omega) (by omega)
      rw [List.take_append_drop] at F1 F3
      rw [d1] at F2
      rw [hlb] at F1
      obtain ⟨w1, w2⟩ := fltW_some F1
      obtain ⟨w3, w4⟩ := fltW_some F2
      obtain ⟨w5, w6⟩ := fltW_some F3
      have W0 := wordF_eq m (Nat.le_of_lt hv) (show -22 ≤ (0 : Int) by omega) (by omega)
      have WI := word_int m (Nat.le_of_lt hv)
      rw [← W0] at WI
      rw [a2] at w1 w3 w5
      have sg : ∀ (l : List UInt8), sgnT true l = [45] ++ l := fun l => rfl
      have sf : ∀ (l : List UInt8), sgnT false l = [] ++ l := fun l => rfl
      have N1 : NiceW (wordF m (n : Nat) (-((s.length - k : Nat) : Int))) := ⟨m, n, -((s.length - k : Nat) : Int), Nat.le_of_lt hv, by omega, by omega, wordF_eq m (Nat.le_of_lt hv) (by omega) (by omega)⟩
      have N3 : NiceW (wordF m (n : Nat) 0) := ⟨m, n, 0, Nat.le_of_lt hv, by omega, by omega, W0⟩
      cases m with
      | true =>
        rw [sg] at w1 w2 w3 w4 w5 w6
        obtain ⟨hh, p, e, hp⟩ := pointt_all n z k s _ _ _ _ _ (wordF true n (-((s.length - k : Nat) : Int))) (wordF true n 0) (by omega) (by omega) (by omega) (by omega) (by simpa using hs) (by omega) (by omega) rfl rfl rfl rfl rfl
          (by simp only [List.length_append, List.length_take, List.length_drop, List.length_cons, List.length_nil]; omega)
          (by rw [hsub]; simp only [List.length_append, List.length_cons, List.length_nil]; omega)
          (by rw [hsub]; simp only [List.length_append, List.length_take, List.length_drop, List.length_cons, List.length_nil]; omega)
          (by rw [hsub]; omega) (by rw [hsub]; omega)
          (by rw [← w1]; congr 1; simp) (by rw [← w2]; congr 2; simp) (by rw [hsub, ← w3]; congr 1; simp) (by rw [hsub, ← w4]; congr 2; simp) (by rw [hsub, ← w5]; congr 1; simp) (by rw [hsub, ← w6]; congr 2; simp)
          N1 N3 (fun h0 => by rw [WI, if_pos ⟨rfl, by omega⟩]) (fun h0 => by rw [WI, if_neg (by omega)])
        exact ⟨_, _, _, _, lpBy_nil, e, hp⟩
      | false =>
        rw [sf] at w1 w2 w3 w4 w5 w6
        obtain ⟨hh, p, e, hp⟩ := pointf_all n z k s _ _ _ _ _ (wordF false n (-((s.length - k : Nat) : Int))) (wordF false n 0) (by omega) (by omega) (by omega) (by omega) (by simpa using hs) (by omega) (by omega) rfl rfl rfl rfl rfl
          (by simp only [List.length_append, List.length_take, List.length_drop, List.length_cons, List.length_nil]; omega)
          (by rw [hsub]; simp only [List.length_append, List.length_cons, List.length_nil]; omega)
          (by rw [hsub]; simp only [List.length_append, List.length_take, List.length_drop, List.length_cons, List.length_nil]; omega)
          (by rw [hsub]; omega) (by rw [hsub]; omega)
          (by rw [← w1]; congr 1; simp) (by rw [← w2]; congr 2; simp) (by rw [hsub, ← w3]; congr 1; simp) (by rw [hsub, ← w4]; congr 2; simp) (by rw [hsub, ← w5]; congr 1; simp) (by rw [hsub, ← w6]; congr 2; simp)
          N1 N3 (by rw [WI, if_neg (by simp)])
        exact ⟨_, _, _, _, lpBy_nil, e, hp⟩

theorem point_walk (a0 : Int) (a1 : Int) (a2 : Int) (a3 : Bool) (w0 : (Lit.int .i64 a0).wf = true) (w1 : (Lit.int .i64 a1).wf = true) (w2 : (Lit.int .i64 a2).wf = true) (w : World) :
    Calls Try.prog 5 #[.int .i64 a0, .int .i64 a1, .int .i64 a2, .bool a3] w fun e w' => e = .returned (.bool true) ∧ Below w.heap.size w w' :=
  law_conc mixed clT_ok [.int .i64 a0, .int .i64 a1, .int .i64 a2, .bool a3] (glOK_none w) (point_law a0 a1 a2 a3 (i64_wf w0).2)

end Go.Proofs.Ytigglgobiofalaa
