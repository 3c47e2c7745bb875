/- The law of references by numbers: its walk. -/
import Derived.Test.YtoikhiijgdkciaaDoorEntJ
namespace Go.Proofs.YtoikhiijgdkciaaDoor
open Go.RowKit Ent
set_option linter.unusedVariables false
set_option linter.unusedSimpArgs false

noncomputable def clU : CallT := aCall Tryd.prog (sgBy [(8, smallSpec), (15, numeralSpec), (9, namedSpec), (11, numberSpec), (13, entSpec), (16, digitSpec), (17, byteSpec fun n => .bool (letterI n))]) 500 8

theorem clU_ok : CallOK Tryd.prog clU := aCall_ok mixed (sgBy_cons small_ok (sgBy_cons numeral_ok (sgBy_cons named_ok (sgBy_cons number_ok (sgBy_cons ent_ok (sgBy_cons digit_ok (sgBy_cons letter_ok sgBy_nil))))))) 500 8

theorem notne {x y : Int} (h : (!(x != y)) = false) : ¬ x = y := by simpa using h

theorem numbers0_1 (c z : Int) (a b : List UInt8) : lawOut (aBody Tryd.prog clU ⟨true, bs [(17, true)] ++ ([])⟩ (lpBy ([])) 60 5 ([.c (.int .i64 c), .c (.int .i64 z), .c (str a), .c (str b)]) ([])) = some ((AV.c ((Value.bool true))), [((decide (c < (0 : Int)) : Bool)) = (true)]) := by kernel_rfl

theorem numbers0_2 (c z : Int) (a b : List UInt8) : lawOut (aBody Tryd.prog clU ⟨true, bs [(17, false), (20, true)] ++ ([])⟩ (lpBy ([])) 60 5 ([.c (.int .i64 c), .c (.int .i64 z), .c (str a), .c (str b)]) ([])) = some ((AV.c ((Value.bool true))), [((decide (c < (0 : Int)) : Bool)) = (false),
 ((decide (c > (2097152 : Int)) : Bool)) = (true)]) := by kernel_rfl

theorem numbers0_3 (c z : Int) (a b : List UInt8) : lawOut (aBody Tryd.prog clU ⟨true, bs [(17, false), (20, false), (24, true)] ++ ([])⟩ (lpBy ([])) 60 5 ([.c (.int .i64 c), .c (.int .i64 z), .c (str a), .c (str b)]) ([])) = some ((AV.c ((Value.bool true))), [((decide (c < (0 : Int)) : Bool)) = (false),
 ((decide (c > (2097152 : Int)) : Bool)) = (false),
 ((decide (z < (0 : Int)) : Bool)) = (true)]) := by kernel_rfl

theorem numbers0_4 (c z : Int) (a b : List UInt8) : lawOut (aBody Tryd.prog clU ⟨true, bs [(17, false), (20, false), (24, false), (28, true)] ++ ([])⟩ (lpBy ([])) 60 5 ([.c (.int .i64 c), .c (.int .i64 z), .c (str a), .c (str b)]) ([])) = some ((AV.c ((Value.bool true))), [((decide (c < (0 : Int)) : Bool)) = (false),
 ((decide (c > (2097152 : Int)) : Bool)) = (false),
 ((decide (z < (0 : Int)) : Bool)) = (false),
 ((decide (z > (20 : Int)) : Bool)) = (true)]) := by kernel_rfl

theorem numbers0_5 (c z : Int) (a b : List UInt8) : lawOut (aBody Tryd.prog clU ⟨true, bs [(17, false), (20, false), (24, false), (28, false), (33, true)] ++ ([])⟩ (lpBy ([])) 60 5 ([.c (.int .i64 c), .c (.int .i64 z), .c (str a), .c (str b)]) ([])) = some ((AV.c ((Value.bool true))), [((decide (c < (0 : Int)) : Bool)) = (false),
 ((decide (c > (2097152 : Int)) : Bool)) = (false),
 ((decide (z < (0 : Int)) : Bool)) = (false),
 ((decide (z > (20 : Int)) : Bool)) = (false),
 ((decide ((↑a.length : Int) > (200 : Int)) : Bool)) = (true)]) := by kernel_rfl

theorem numbers0_6 (c z : Int) (a b : List UInt8) : lawOut (aBody Tryd.prog clU ⟨true, bs [(17, false), (20, false), (24, false), (28, false), (33, false), (38, true)] ++ ([])⟩ (lpBy ([])) 60 5 ([.c (.int .i64 c), .c (.int .i64 z), .c (str a), .c (str b)]) ([])) = some ((AV.c ((Value.bool true))), [((decide (c < (0 : Int)) : Bool)) = (false),
 ((decide (c > (2097152 : Int)) : Bool)) = (false),
 ((decide (z < (0 : Int)) : Bool)) = (false),
 ((decide (z > (20 : Int)) : Bool)) = (false),
 ((decide ((↑a.length : Int) > (200 : Int)) : Bool)) = (false),
 ((decide ((↑b.length : Int) > (200 : Int)) : Bool)) = (true)]) := by kernel_rfl

theorem numbers0_all (c z : Int) (a b : List UInt8) (h0 : c < 0 ∨ c > 2097152 ∨ z < 0 ∨ z > 20 ∨ (a.length : Int) > 200 ∨ (b.length : Int) > 200) : ∃ (h : Hints) (p : List Prop), lawOut (aBody Tryd.prog clU h (lpBy ([])) 60 5 ([.c (.int .i64 c), .c (.int .i64 z), .c (str a), .c (str b)]) ([])) = some (.c (.bool true), p) ∧ allP p := by
  cases hc17 : (decide (c < (0 : Int)) : Bool) with
  | true =>
    have eR := numbers0_1 c z a b
    refine ⟨_, _, eR.trans (congrArg (fun r => some (r, _)) ?_), ?_⟩
    · try clear eR
      rfl
    · try clear eR
      try simp only [decide_eq_true_eq, decide_eq_false_iff_not, beq_iff_eq, beq_eq_false_iff_ne, bne_iff_ne, bne_eq_false_iff_eq, ne_eq] at hc17
      try simp only [toNat0, toNat1, toNat2, Int.toNat_natCast, sb_mk] at hc17
      try simp (disch := omega) only [allP, sb_mk, sl1, toNat0, toNat1, toNat2, Int.toNat_natCast, List.take_length, List.take_succ_cons, List.drop_succ_cons, List.drop_zero, List.take_zero, List.length_cons, List.length_nil, List.getD_cons_zero, i64_wrap, i32_wrap, u8_wrap, u32_wrap, tdN, tmN, i64_min, i64_max, u8_min, u8_max, decide_eq_true_eq, decide_eq_false_iff_not, beq_iff_eq, beq_eq_false_iff_ne, bne_iff_ne, bne_eq_false_iff_eq, ne_eq, not_false_eq_true, and_true, true_and, Int.zero_sub]
      repeat' apply And.intro
      all_goals first | exact True.intro | omega | with_reducible rfl | with_reducible assumption | rfl
  | false =>
    cases hc20 : (decide (c > (2097152 : Int)) : Bool) with
    | true =>
      have eR := numbers0_2 c z a b
      refine ⟨_, _, eR.trans (congrArg (fun r => some (r, _)) ?_), ?_⟩
      · try clear eR
        rfl
      · try clear eR
        try simp only [decide_eq_true_eq, decide_eq_false_iff_not, beq_iff_eq, beq_eq_false_iff_ne, bne_iff_ne, bne_eq_false_iff_eq, ne_eq] at hc17
        try simp only [toNat0, toNat1, toNat2, Int.toNat_natCast, sb_mk] at hc17
        try simp only [decide_eq_true_eq, decide_eq_false_iff_not, beq_iff_eq, beq_eq_false_iff_ne, bne_iff_ne, bne_eq_false_iff_eq, ne_eq] at hc20
        try simp only [toNat0, toNat1, toNat2, Int.toNat_natCast, sb_mk] at hc20
        try simp (disch := omega) only [allP, sb_mk, sl1, toNat0, toNat1, toNat2, Int.toNat_natCast, List.take_length, List.take_succ_cons, List.drop_succ_cons, List.drop_zero, List.take_zero, List.length_cons, List.length_nil, List.getD_cons_zero, i64_wrap, i32_wrap, u8_wrap, u32_wrap, tdN, tmN, i64_min, i64_max, u8_min, u8_max, decide_eq_true_eq, decide_eq_false_iff_not, beq_iff_eq, beq_eq_false_iff_ne, bne_iff_ne, bne_eq_false_iff_eq, ne_eq, not_false_eq_true, and_true, true_and, Int.zero_sub]
        repeat' apply And.intro
        all_goals first | exact True.intro | omega | with_reducible rfl | with_reducible assumption | rfl
    | false =>
      cases hc24 : (decide (z < (0 : Int)) : Bool) with
      | true =>
        have eR := numbers0_3 c z a b
        refine ⟨_, _, eR.trans (congrArg (fun r => some (r, _)) ?_), ?_⟩
        · try clear eR
          rfl
        · try clear eR
          try simp only [decide_eq_true_eq, decide_eq_false_iff_not, beq_iff_eq, beq_eq_false_iff_ne, bne_iff_ne, bne_eq_false_iff_eq, ne_eq] at hc17
          try simp only [toNat0, toNat1, toNat2, Int.toNat_natCast, sb_mk] at hc17
          try simp only [decide_eq_true_eq, decide_eq_false_iff_not, beq_iff_eq, beq_eq_false_iff_ne, bne_iff_ne, bne_eq_false_iff_eq, ne_eq] at hc20
          try simp only [toNat0, toNat1, toNat2, Int.toNat_natCast, sb_mk] at hc20
          try simp only [decide_eq_true_eq, decide_eq_false_iff_not, beq_iff_eq, beq_eq_false_iff_ne, bne_iff_ne, bne_eq_false_iff_eq, ne_eq] at hc24
          try simp only [toNat0, toNat1, toNat2, Int.toNat_natCast, sb_mk] at hc24
          try simp (disch := omega) only [allP, sb_mk, sl1, toNat0, toNat1, toNat2, Int.toNat_natCast, List.take_length, List.take_succ_cons, List.drop_succ_cons, List.drop_zero, List.take_zero, List.length_cons, List.length_nil, List.getD_cons_zero, i64_wrap, i32_wrap, u8_wrap, u32_wrap, tdN, tmN, i64_min, i64_max, u8_min, u8_max, decide_eq_true_eq, decide_eq_false_iff_not, beq_iff_eq, beq_eq_false_iff_ne, bne_iff_ne, bne_eq_false_iff_eq, ne_eq, not_false_eq_true, and_true, true_and, Int.zero_sub]
          repeat' apply And.intro
          all_goals first | exact True.intro | omega | with_reducible rfl | with_reducible assumption | rfl
      | false =>
        cases hc28 : (decide (z > (20 : Int)) : Bool) with
        | true =>
          have eR := numbers0_4 c z a b
          refine ⟨_, _, eR.trans (congrArg (fun r => some (r, _)) ?_), ?_⟩
          · try clear eR
            rfl
          · try clear eR
            try simp only [decide_eq_true_eq, decide_eq_false_iff_not, beq_iff_eq, beq_eq_false_iff_ne, bne_iff_ne, bne_eq_false_iff_eq, ne_eq] at hc17
            try simp only [toNat0, toNat1, toNat2, Int.toNat_natCast, sb_mk] at hc17
            try simp only [decide_eq_true_eq, decide_eq_false_iff_not, beq_iff_eq, beq_eq_false_iff_ne, bne_iff_ne, bne_eq_false_iff_eq, ne_eq] at hc20
            try simp only [toNat0, toNat1, toNat2, Int.toNat_natCast, sb_mk] at hc20
            try simp only [decide_eq_true_eq, decide_eq_false_iff_not, beq_iff_eq, beq_eq_false_iff_ne, bne_iff_ne, bne_eq_false_iff_eq, ne_eq] at hc24
            try simp only [toNat0, toNat1, toNat2, Int.toNat_natCast, sb_mk] at hc24
            try simp only [decide_eq_true_eq, decide_eq_false_iff_not, beq_iff_eq, beq_eq_false_iff_ne, bne_iff_ne, bne_eq_false_iff_eq, ne_eq] at hc28
            try simp only [toNat0, toNat1, toNat2, Int.toNat_natCast, sb_mk] at hc28
            try simp (disch := omega) only [allP, sb_mk, sl1, toNat0, toNat1, toNat2, Int.toNat_natCast, List.take_length, List.take_succ_cons, List.drop_succ_cons, List.drop_zero, List.take_zero, List.length_cons, List.length_nil, List.getD_cons_zero, i64_wrap, i32_wrap, u8_wrap, u32_wrap, tdN, tmN, i64_min, i64_max, u8_min, u8_max, decide_eq_true_eq, decide_eq_false_iff_not, beq_iff_eq, beq_eq_false_iff_ne, bne_iff_ne, bne_eq_false_iff_eq, ne_eq, not_false_eq_true, and_true, true_and, Int.zero_sub]
            repeat' apply And.intro
            all_goals first | exact True.intro | omega | with_reducible rfl | with_reducible assumption | rfl
        | false =>
          cases hc33 : (decide ((↑a.length : Int) > (200 : Int)) : Bool) with
          | true =>
            have eR := numbers0_5 c z a b
            refine ⟨_, _, eR.trans (congrArg (fun r => some (r, _)) ?_), ?_⟩
            · try clear eR
              rfl
            · try clear eR
              try simp only [decide_eq_true_eq, decide_eq_false_iff_not, beq_iff_eq, beq_eq_false_iff_ne, bne_iff_ne, bne_eq_false_iff_eq, ne_eq] at hc17
              try simp only [toNat0, toNat1, toNat2, Int.toNat_natCast, sb_mk] at hc17
              try simp only [decide_eq_true_eq, decide_eq_false_iff_not, beq_iff_eq, beq_eq_false_iff_ne, bne_iff_ne, bne_eq_false_iff_eq, ne_eq] at hc20
              try simp only [toNat0, toNat1, toNat2, Int.toNat_natCast, sb_mk] at hc20
              try simp only [decide_eq_true_eq, decide_eq_false_iff_not, beq_iff_eq, beq_eq_false_iff_ne, bne_iff_ne, bne_eq_false_iff_eq, ne_eq] at hc24
              try simp only [toNat0, toNat1, toNat2, Int.toNat_natCast, sb_mk] at hc24
              try simp only [decide_eq_true_eq, decide_eq_false_iff_not, beq_iff_eq, beq_eq_false_iff_ne, bne_iff_ne, bne_eq_false_iff_eq, ne_eq] at hc28
              try simp only [toNat0, toNat1, toNat2, Int.toNat_natCast, sb_mk] at hc28
              try simp only [decide_eq_true_eq, decide_eq_false_iff_not, beq_iff_eq, beq_eq_false_iff_ne, bne_iff_ne, bne_eq_false_iff_eq, ne_eq] at hc33
              try simp only [toNat0, toNat1, toNat2, Int.toNat_natCast, sb_mk] at hc33
              try simp (disch := omega) only [allP, sb_mk, sl1, toNat0, toNat1, toNat2, Int.toNat_natCast, List.take_length, List.take_succ_cons, List.drop_succ_cons, List.drop_zero, List.take_zero, List.length_cons, List.length_nil, List.getD_cons_zero, i64_wrap, i32_wrap, u8_wrap, u32_wrap, tdN, tmN, i64_min, i64_max, u8_min, u8_max, decide_eq_true_eq, decide_eq_false_iff_not, beq_iff_eq, beq_eq_false_iff_ne, bne_iff_ne, bne_eq_false_iff_eq, ne_eq, not_false_eq_true, and_true, true_and, Int.zero_sub]
              repeat' apply And.intro
              all_goals first | exact True.intro | omega | with_reducible rfl | with_reducible assumption | rfl
          | false =>
            have eR := numbers0_6 c z a b
            refine ⟨_, _, eR.trans (congrArg (fun r => some (r, _)) ?_), ?_⟩
            · try clear eR
              rfl
            · try clear eR
              try simp only [decide_eq_true_eq, decide_eq_false_iff_not, beq_iff_eq, beq_eq_false_iff_ne, bne_iff_ne, bne_eq_false_iff_eq, ne_eq] at hc17
              try simp only [toNat0, toNat1, toNat2, Int.toNat_natCast, sb_mk] at hc17
              try simp only [decide_eq_true_eq, decide_eq_false_iff_not, beq_iff_eq, beq_eq_false_iff_ne, bne_iff_ne, bne_eq_false_iff_eq, ne_eq] at hc20
              try simp only [toNat0, toNat1, toNat2, Int.toNat_natCast, sb_mk] at hc20
              try simp only [decide_eq_true_eq, decide_eq_false_iff_not, beq_iff_eq, beq_eq_false_iff_ne, bne_iff_ne, bne_eq_false_iff_eq, ne_eq] at hc24
              try simp only [toNat0, toNat1, toNat2, Int.toNat_natCast, sb_mk] at hc24
              try simp only [decide_eq_true_eq, decide_eq_false_iff_not, beq_iff_eq, beq_eq_false_iff_ne, bne_iff_ne, bne_eq_false_iff_eq, ne_eq] at hc28
              try simp only [toNat0, toNat1, toNat2, Int.toNat_natCast, sb_mk] at hc28
              try simp only [decide_eq_true_eq, decide_eq_false_iff_not, beq_iff_eq, beq_eq_false_iff_ne, bne_iff_ne, bne_eq_false_iff_eq, ne_eq] at hc33
              try simp only [toNat0, toNat1, toNat2, Int.toNat_natCast, sb_mk] at hc33
              try simp (disch := omega) only [allP, sb_mk, sl1, toNat0, toNat1, toNat2, Int.toNat_natCast, List.take_length, List.take_succ_cons, List.drop_succ_cons, List.drop_zero, List.take_zero, List.length_cons, List.length_nil, List.getD_cons_zero, i64_wrap, i32_wrap, u8_wrap, u32_wrap, tdN, tmN, i64_min, i64_max, u8_min, u8_max, decide_eq_true_eq, decide_eq_false_iff_not, beq_iff_eq, beq_eq_false_iff_ne, bne_iff_ne, bne_eq_false_iff_eq, ne_eq, not_false_eq_true, and_true, true_and, Int.zero_sub]
              repeat' apply And.intro
              all_goals first | exact True.intro | omega | with_reducible rfl | with_reducible assumption | rfl

noncomputable def amLp1 (c z : Int) (a b : List UInt8) : List (Nat × Lp) := [(5, ⟨lbody Tryd.prog 5 5, ⟨[], [0, 1, 2, 3, 9, 10], []⟩, amS c z a b 0, .ret, amR⟩)]
noncomputable def amLp2 (c z : Int) (a b : List UInt8) : List (Nat × Lp) := [(5, ⟨lbody Tryd.prog 5 5, ⟨[], [0, 1, 2, 3, 9, 10], []⟩, amS c z a b 0, .exit 0, amS c z a b a.length⟩)]

theorem numbers1_1 (c z : Int) (a b : List UInt8) : lawOut (aBody Tryd.prog clU ⟨true, bs [] ++ (bs [(17, false), (20, false), (24, false), (28, false), (33, false), (38, false)])⟩ (lpBy (amLp1 c z a b)) 60 5 ([.c (.int .i64 c), .c (.int .i64 z), .c (str a), .c (str b)]) ([])) = some ((AV.c ((Value.bool true))), [((decide (c < (0 : Int)) : Bool)) = (false),
 ((decide (c > (2097152 : Int)) : Bool)) = (false),
 ((decide (z < (0 : Int)) : Bool)) = (false),
 ((decide (z > (20 : Int)) : Bool)) = (false),
 ((decide ((↑a.length : Int) > (200 : Int)) : Bool)) = (false),
 ((decide ((↑b.length : Int) > (200 : Int)) : Bool)) = (false),
 ((lbody Tryd.prog (5 : FuncId) (5 : Nat) : Go.Code)) = (lbody Tryd.prog (5 : FuncId) (5 : Nat)),
 ((amS c z a b (0 : Nat) : Go.Proofs.YtoikhiijgdkciaaDoor.St)) = (amS c z a b (0 : Nat))]) := by kernel_rfl

theorem numbers1_all (c z : Int) (a b : List UInt8) (g0 : 0 ≤ c) (g1 : c ≤ 2097152) (g2 : 0 ≤ z) (g3 : z ≤ 20) (g4 : a.length ≤ 200) (g5 : b.length ≤ 200) : ∃ (h : Hints) (p : List Prop), lawOut (aBody Tryd.prog clU h (lpBy (amLp1 c z a b)) 60 5 ([.c (.int .i64 c), .c (.int .i64 z), .c (str a), .c (str b)]) ([])) = some (.c (.bool true), p) ∧ allP p := by
  have eR := numbers1_1 c z a b
  refine ⟨_, _, eR.trans (congrArg (fun r => some (r, _)) ?_), ?_⟩
  · try clear eR
    rfl
  · try clear eR
    try simp (disch := omega) only [allP, sb_mk, sl1, toNat0, toNat1, toNat2, Int.toNat_natCast, List.take_length, List.take_succ_cons, List.drop_succ_cons, List.drop_zero, List.take_zero, List.length_cons, List.length_nil, List.getD_cons_zero, i64_wrap, i32_wrap, u8_wrap, u32_wrap, tdN, tmN, i64_min, i64_max, u8_min, u8_max, decide_eq_true_eq, decide_eq_false_iff_not, beq_iff_eq, beq_eq_false_iff_ne, bne_iff_ne, bne_eq_false_iff_eq, ne_eq, not_false_eq_true, and_true, true_and, Int.zero_sub]
    repeat' apply And.intro
    all_goals first | exact True.intro | omega | with_reducible rfl | with_reducible assumption | rfl

theorem numbers2_1 (c z : Nat) (a b p q w want ten six v e : List UInt8) (d : Int) : lawOut (aBody Tryd.prog clU ⟨true, bs [(91, true)] ++ (bs [(17, false), (20, false), (24, false), (28, false), (33, false), (38, false), (75, false), (88, false), (118, true), (130, true)] ++ [(54, ⟨.c (str p), none⟩), (55, ⟨.c (str ten), none⟩), (58, ⟨.c (str q), none⟩), (59, ⟨.c (str six), none⟩), (62, ⟨.c (str w), none⟩), (63, ⟨.c (str want), none⟩), (70, ⟨.c (str v), none⟩), (73, ⟨.c (str e), none⟩), (74, ⟨.c (str v), none⟩), (83, ⟨.c (str v), none⟩), (86, ⟨.c (str e), none⟩), (87, ⟨.c (str v), none⟩), (113, ⟨.c (str v), none⟩), (116, ⟨.c (str e), none⟩), (117, ⟨.c (str v), none⟩), (125, ⟨.c (str v), none⟩), (128, ⟨.c (str e), none⟩), (129, ⟨.c (str v), none⟩), (95, ⟨.c (.int .i64 d), none⟩)])⟩ (lpBy (amLp2 c z a b)) 60 5 ([.c (.int .i64 c), .c (.int .i64 z), .c (str a), .c (str b)]) ([])) = some ((AV.c ((Value.bool true))), [((false : Bool)) = (false),
 ((decide ((↑c : Int) > (2097152 : Int)) : Bool)) = (false),
 ((false : Bool)) = (false),
 ((decide ((↑z : Int) > (20 : Int)) : Bool)) = (false),
 ((decide ((↑a.length : Int) > (200 : Int)) : Bool)) = (false),
 ((decide ((↑b.length : Int) > (200 : Int)) : Bool)) = (false),
 ((lbody Tryd.prog (5 : FuncId) (5 : Nat) : Go.Code)) = (lbody Tryd.prog (5 : FuncId) (5 : Nat)),
 ((amS (↑c : Int) (↑z : Int) a b (0 : Nat) : Go.Proofs.YtoikhiijgdkciaaDoor.St)) = (amS (↑c : Int) (↑z : Int) a b (0 : Nat)),
 (0 : Int) ≤ (↑c : Int) ∧ (↑c : Int) ≤ (2097152 : Int),
 (10 : Int) = (10 : Int) ∨ (10 : Int) = (16 : Int),
 (0 : Int) ≤ (↑z : Int) ∧ (↑z : Int) ≤ (1000 : Int),
 ((digZ (Int.toNat (10 : Int)) c z : List UInt8)) = (p),
 (((2 : Nat) + p.length : Nat) ≤ ((9223372036854775807 : Nat))),
 (([(38 : UInt8), (35 : UInt8)] ++ p : List UInt8)) = (ten),
 (0 : Int) ≤ (↑c : Int) ∧ (↑c : Int) ≤ (2097152 : Int),
 (16 : Int) = (10 : Int) ∨ (16 : Int) = (16 : Int),
 (0 : Int) ≤ (↑z : Int) ∧ (↑z : Int) ≤ (1000 : Int),
 ((digZ (Int.toNat (16 : Int)) c z : List UInt8)) = (q),
 (((3 : Nat) + q.length : Nat) ≤ ((9223372036854775807 : Nat))),
 (([(38 : UInt8), (35 : UInt8), (120 : UInt8)] ++ q : List UInt8)) = (six),
 (((-9223372036854775808 : Int) : Int) ≤ ((↑c : Int))),
 (((↑c : Int) : Int) ≤ ((9223372036854775807 : Int))),
 ((numberF (↑c : Int) : List UInt8)) = (w),
 ((a.length + w.length : Nat) ≤ ((9223372036854775807 : Nat))),
 ((a ++ w : List UInt8)) = (want),
 ((a.length + ten.length : Nat) ≤ ((9223372036854775807 : Nat))),
 (((a ++ ten).length + (1 : Nat) : Nat) ≤ ((9223372036854775807 : Nat))),
 (((a ++ ten ++ [(59 : UInt8)]).length + b.length : Nat) ≤ ((9223372036854775807 : Nat))),
 (((a ++ ten ++ [(59 : UInt8)] ++ b).length : Nat) ≤ ((1000000000 : Nat))),
 ((entF (a ++ ten ++ [(59 : UInt8)] ++ b) : List UInt8)) = (v),
 ((b.length : Nat) ≤ ((1000000000 : Nat))),
 ((entF b : List UInt8)) = (e),
 ((want.length + e.length : Nat) ≤ ((9223372036854775807 : Nat))),
 ((want ++ e : List UInt8)) = (v),
 ((!v == v : Bool)) = (false),
 ((a.length + six.length : Nat) ≤ ((9223372036854775807 : Nat))),
 (((a ++ six).length + (1 : Nat) : Nat) ≤ ((9223372036854775807 : Nat))),
 (((a ++ six ++ [(59 : UInt8)]).length + b.length : Nat) ≤ ((9223372036854775807 : Nat))),
 (((a ++ six ++ [(59 : UInt8)] ++ b).length : Nat) ≤ ((1000000000 : Nat))),
 ((entF (a ++ six ++ [(59 : UInt8)] ++ b) : List UInt8)) = (v),
 ((b.length : Nat) ≤ ((1000000000 : Nat))),
 ((entF b : List UInt8)) = (e),
 ((want.length + e.length : Nat) ≤ ((9223372036854775807 : Nat))),
 ((want ++ e : List UInt8)) = (v),
 ((!v == v : Bool)) = (false),
 ((b == [] : Bool)) = (true),
 ((a.length + ten.length : Nat) ≤ ((9223372036854775807 : Nat))),
 (((a ++ ten).length + b.length : Nat) ≤ ((9223372036854775807 : Nat))),
 (((a ++ ten ++ b).length : Nat) ≤ ((1000000000 : Nat))),
 ((entF (a ++ ten ++ b) : List UInt8)) = (v),
 ((b.length : Nat) ≤ ((1000000000 : Nat))),
 ((entF b : List UInt8)) = (e),
 ((want.length + e.length : Nat) ≤ ((9223372036854775807 : Nat))),
 ((want ++ e : List UInt8)) = (v),
 ((v == v : Bool)) = (true),
 ((a.length + six.length : Nat) ≤ ((9223372036854775807 : Nat))),
 (((a ++ six).length + b.length : Nat) ≤ ((9223372036854775807 : Nat))),
 (((a ++ six ++ b).length : Nat) ≤ ((1000000000 : Nat))),
 ((entF (a ++ six ++ b) : List UInt8)) = (v),
 ((b.length : Nat) ≤ ((1000000000 : Nat))),
 ((entF b : List UInt8)) = (e),
 ((want.length + e.length : Nat) ≤ ((9223372036854775807 : Nat))),
 ((want ++ e : List UInt8)) = (v),
 ((v == v : Bool)) = (true)]) := by kernel_rfl

theorem numbers2_2 (c z : Nat) (a b p q w want ten six v e : List UInt8) (d : Int) : lawOut (aBody Tryd.prog clU ⟨true, bs [(91, false), (96, true), (106, true)] ++ (bs [(17, false), (20, false), (24, false), (28, false), (33, false), (38, false), (75, false), (88, false), (118, true), (130, true)] ++ [(54, ⟨.c (str p), none⟩), (55, ⟨.c (str ten), none⟩), (58, ⟨.c (str q), none⟩), (59, ⟨.c (str six), none⟩), (62, ⟨.c (str w), none⟩), (63, ⟨.c (str want), none⟩), (70, ⟨.c (str v), none⟩), (73, ⟨.c (str e), none⟩), (74, ⟨.c (str v), none⟩), (83, ⟨.c (str v), none⟩), (86, ⟨.c (str e), none⟩), (87, ⟨.c (str v), none⟩), (113, ⟨.c (str v), none⟩), (116, ⟨.c (str e), none⟩), (117, ⟨.c (str v), none⟩), (125, ⟨.c (str v), none⟩), (128, ⟨.c (str e), none⟩), (129, ⟨.c (str v), none⟩), (95, ⟨.c (.int .i64 d), none⟩)])⟩ (lpBy (amLp2 c z a b)) 60 5 ([.c (.int .i64 c), .c (.int .i64 z), .c (str a), .c (str b)]) ([])) = some ((AV.c ((Value.bool true))), [((false : Bool)) = (false),
 ((decide ((↑c : Int) > (2097152 : Int)) : Bool)) = (false),
 ((false : Bool)) = (false),
 ((decide ((↑z : Int) > (20 : Int)) : Bool)) = (false),
 ((decide ((↑a.length : Int) > (200 : Int)) : Bool)) = (false),
 ((decide ((↑b.length : Int) > (200 : Int)) : Bool)) = (false),
 ((lbody Tryd.prog (5 : FuncId) (5 : Nat) : Go.Code)) = (lbody Tryd.prog (5 : FuncId) (5 : Nat)),
 ((amS (↑c : Int) (↑z : Int) a b (0 : Nat) : Go.Proofs.YtoikhiijgdkciaaDoor.St)) = (amS (↑c : Int) (↑z : Int) a b (0 : Nat)),
 (0 : Int) ≤ (↑c : Int) ∧ (↑c : Int) ≤ (2097152 : Int),
 (10 : Int) = (10 : Int) ∨ (10 : Int) = (16 : Int),
 (0 : Int) ≤ (↑z : Int) ∧ (↑z : Int) ≤ (1000 : Int),
 ((digZ (Int.toNat (10 : Int)) c z : List UInt8)) = (p),
 (((2 : Nat) + p.length : Nat) ≤ ((9223372036854775807 : Nat))),
 (([(38 : UInt8), (35 : UInt8)] ++ p : List UInt8)) = (ten),
 (0 : Int) ≤ (↑c : Int) ∧ (↑c : Int) ≤ (2097152 : Int),
 (16 : Int) = (10 : Int) ∨ (16 : Int) = (16 : Int),
 (0 : Int) ≤ (↑z : Int) ∧ (↑z : Int) ≤ (1000 : Int),
 ((digZ (Int.toNat (16 : Int)) c z : List UInt8)) = (q),
 (((3 : Nat) + q.length : Nat) ≤ ((9223372036854775807 : Nat))),
 (([(38 : UInt8), (35 : UInt8), (120 : UInt8)] ++ q : List UInt8)) = (six),
 (((-9223372036854775808 : Int) : Int) ≤ ((↑c : Int))),
 (((↑c : Int) : Int) ≤ ((9223372036854775807 : Int))),
 ((numberF (↑c : Int) : List UInt8)) = (w),
 ((a.length + w.length : Nat) ≤ ((9223372036854775807 : Nat))),
 ((a ++ w : List UInt8)) = (want),
 ((a.length + ten.length : Nat) ≤ ((9223372036854775807 : Nat))),
 (((a ++ ten).length + (1 : Nat) : Nat) ≤ ((9223372036854775807 : Nat))),
 (((a ++ ten ++ [(59 : UInt8)]).length + b.length : Nat) ≤ ((9223372036854775807 : Nat))),
 (((a ++ ten ++ [(59 : UInt8)] ++ b).length : Nat) ≤ ((1000000000 : Nat))),
 ((entF (a ++ ten ++ [(59 : UInt8)] ++ b) : List UInt8)) = (v),
 ((b.length : Nat) ≤ ((1000000000 : Nat))),
 ((entF b : List UInt8)) = (e),
 ((want.length + e.length : Nat) ≤ ((9223372036854775807 : Nat))),
 ((want ++ e : List UInt8)) = (v),
 ((!v == v : Bool)) = (false),
 ((a.length + six.length : Nat) ≤ ((9223372036854775807 : Nat))),
 (((a ++ six).length + (1 : Nat) : Nat) ≤ ((9223372036854775807 : Nat))),
 (((a ++ six ++ [(59 : UInt8)]).length + b.length : Nat) ≤ ((9223372036854775807 : Nat))),
 (((a ++ six ++ [(59 : UInt8)] ++ b).length : Nat) ≤ ((1000000000 : Nat))),
 ((entF (a ++ six ++ [(59 : UInt8)] ++ b) : List UInt8)) = (v),
 ((b.length : Nat) ≤ ((1000000000 : Nat))),
 ((entF b : List UInt8)) = (e),
 ((want.length + e.length : Nat) ≤ ((9223372036854775807 : Nat))),
 ((want ++ e : List UInt8)) = (v),
 ((!v == v : Bool)) = (false),
 ((b == [] : Bool)) = (false),
 (((0 : Int) : Int) ≤ ((0 : Int))),
 (((0 : Int) : Int) < ((↑b.length : Int))),
 (((0 : Int) : Int) ≤ ((↑(b.getD (Int.toNat (0 : Int)) (0 : UInt8)).toNat : Int))),
 (((↑(b.getD (Int.toNat (0 : Int)) (0 : UInt8)).toNat : Int) : Int) < ((256 : Int))),
 ((digitI (↑(b.getD (Int.toNat (0 : Int)) (0 : UInt8)).toNat : Int) (16 : Int) : Int)) = (d),
 ((decide (d < (0 : Int)) : Bool)) = (true),
 (((0 : Int) : Int) ≤ ((0 : Int))),
 (((0 : Int) : Int) < ((↑b.length : Int))),
 ((!(↑(b.getD (Int.toNat (0 : Int)) (0 : UInt8)).toNat : Int) != (59 : Int) : Bool)) = (true)]) := by kernel_rfl

theorem numbers2_3 (c z : Nat) (a b p q w want ten six v e : List UInt8) (d : Int) : lawOut (aBody Tryd.prog clU ⟨true, bs [(91, false), (96, true), (106, false)] ++ (bs [(17, false), (20, false), (24, false), (28, false), (33, false), (38, false), (75, false), (88, false), (118, true), (130, true)] ++ [(54, ⟨.c (str p), none⟩), (55, ⟨.c (str ten), none⟩), (58, ⟨.c (str q), none⟩), (59, ⟨.c (str six), none⟩), (62, ⟨.c (str w), none⟩), (63, ⟨.c (str want), none⟩), (70, ⟨.c (str v), none⟩), (73, ⟨.c (str e), none⟩), (74, ⟨.c (str v), none⟩), (83, ⟨.c (str v), none⟩), (86, ⟨.c (str e), none⟩), (87, ⟨.c (str v), none⟩), (113, ⟨.c (str v), none⟩), (116, ⟨.c (str e), none⟩), (117, ⟨.c (str v), none⟩), (125, ⟨.c (str v), none⟩), (128, ⟨.c (str e), none⟩), (129, ⟨.c (str v), none⟩), (95, ⟨.c (.int .i64 d), none⟩)])⟩ (lpBy (amLp2 c z a b)) 60 5 ([.c (.int .i64 c), .c (.int .i64 z), .c (str a), .c (str b)]) ([])) = some ((AV.c ((Value.bool true))), [((false : Bool)) = (false),
 ((decide ((↑c : Int) > (2097152 : Int)) : Bool)) = (false),
 ((false : Bool)) = (false),
 ((decide ((↑z : Int) > (20 : Int)) : Bool)) = (false),
 ((decide ((↑a.length : Int) > (200 : Int)) : Bool)) = (false),
 ((decide ((↑b.length : Int) > (200 : Int)) : Bool)) = (false),
 ((lbody Tryd.prog (5 : FuncId) (5 : Nat) : Go.Code)) = (lbody Tryd.prog (5 : FuncId) (5 : Nat)),
 ((amS (↑c : Int) (↑z : Int) a b (0 : Nat) : Go.Proofs.YtoikhiijgdkciaaDoor.St)) = (amS (↑c : Int) (↑z : Int) a b (0 : Nat)),
 (0 : Int) ≤ (↑c : Int) ∧ (↑c : Int) ≤ (2097152 : Int),
 (10 : Int) = (10 : Int) ∨ (10 : Int) = (16 : Int),
 (0 : Int) ≤ (↑z : Int) ∧ (↑z : Int) ≤ (1000 : Int),
 ((digZ (Int.toNat (10 : Int)) c z : List UInt8)) = (p),
 (((2 : Nat) + p.length : Nat) ≤ ((9223372036854775807 : Nat))),
 (([(38 : UInt8), (35 : UInt8)] ++ p : List UInt8)) = (ten),
 (0 : Int) ≤ (↑c : Int) ∧ (↑c : Int) ≤ (2097152 : Int),
 (16 : Int) = (10 : Int) ∨ (16 : Int) = (16 : Int),
 (0 : Int) ≤ (↑z : Int) ∧ (↑z : Int) ≤ (1000 : Int),
 ((digZ (Int.toNat (16 : Int)) c z : List UInt8)) = (q),
 (((3 : Nat) + q.length : Nat) ≤ ((9223372036854775807 : Nat))),
 (([(38 : UInt8), (35 : UInt8), (120 : UInt8)] ++ q : List UInt8)) = (six),
 (((-9223372036854775808 : Int) : Int) ≤ ((↑c : Int))),
 (((↑c : Int) : Int) ≤ ((9223372036854775807 : Int))),
 ((numberF (↑c : Int) : List UInt8)) = (w),
 ((a.length + w.length : Nat) ≤ ((9223372036854775807 : Nat))),
 ((a ++ w : List UInt8)) = (want),
 ((a.length + ten.length : Nat) ≤ ((9223372036854775807 : Nat))),
 (((a ++ ten).length + (1 : Nat) : Nat) ≤ ((9223372036854775807 : Nat))),
 (((a ++ ten ++ [(59 : UInt8)]).length + b.length : Nat) ≤ ((9223372036854775807 : Nat))),
 (((a ++ ten ++ [(59 : UInt8)] ++ b).length : Nat) ≤ ((1000000000 : Nat))),
 ((entF (a ++ ten ++ [(59 : UInt8)] ++ b) : List UInt8)) = (v),
 ((b.length : Nat) ≤ ((1000000000 : Nat))),
 ((entF b : List UInt8)) = (e),
 ((want.length + e.length : Nat) ≤ ((9223372036854775807 : Nat))),
 ((want ++ e : List UInt8)) = (v),
 ((!v == v : Bool)) = (false),
 ((a.length + six.length : Nat) ≤ ((9223372036854775807 : Nat))),
 (((a ++ six).length + (1 : Nat) : Nat) ≤ ((9223372036854775807 : Nat))),
 (((a ++ six ++ [(59 : UInt8)]).length + b.length : Nat) ≤ ((9223372036854775807 : Nat))),
 (((a ++ six ++ [(59 : UInt8)] ++ b).length : Nat) ≤ ((1000000000 : Nat))),
 ((entF (a ++ six ++ [(59 : UInt8)] ++ b) : List UInt8)) = (v),
 ((b.length : Nat) ≤ ((1000000000 : Nat))),
 ((entF b : List UInt8)) = (e),
 ((want.length + e.length : Nat) ≤ ((9223372036854775807 : Nat))),
 ((want ++ e : List UInt8)) = (v),
 ((!v == v : Bool)) = (false),
 ((b == [] : Bool)) = (false),
 (((0 : Int) : Int) ≤ ((0 : Int))),
 (((0 : Int) : Int) < ((↑b.length : Int))),
 (((0 : Int) : Int) ≤ ((↑(b.getD (Int.toNat (0 : Int)) (0 : UInt8)).toNat : Int))),
 (((↑(b.getD (Int.toNat (0 : Int)) (0 : UInt8)).toNat : Int) : Int) < ((256 : Int))),
 ((digitI (↑(b.getD (Int.toNat (0 : Int)) (0 : UInt8)).toNat : Int) (16 : Int) : Int)) = (d),
 ((decide (d < (0 : Int)) : Bool)) = (true),
 (((0 : Int) : Int) ≤ ((0 : Int))),
 (((0 : Int) : Int) < ((↑b.length : Int))),
 ((!(↑(b.getD (Int.toNat (0 : Int)) (0 : UInt8)).toNat : Int) != (59 : Int) : Bool)) = (false),
 ((a.length + ten.length : Nat) ≤ ((9223372036854775807 : Nat))),
 (((a ++ ten).length + b.length : Nat) ≤ ((9223372036854775807 : Nat))),
 (((a ++ ten ++ b).length : Nat) ≤ ((1000000000 : Nat))),
 ((entF (a ++ ten ++ b) : List UInt8)) = (v),
 ((b.length : Nat) ≤ ((1000000000 : Nat))),
 ((entF b : List UInt8)) = (e),
 ((want.length + e.length : Nat) ≤ ((9223372036854775807 : Nat))),
 ((want ++ e : List UInt8)) = (v),
 ((v == v : Bool)) = (true),
 ((a.length + six.length : Nat) ≤ ((9223372036854775807 : Nat))),
 (((a ++ six).length + b.length : Nat) ≤ ((9223372036854775807 : Nat))),
 (((a ++ six ++ b).length : Nat) ≤ ((1000000000 : Nat))),
 ((entF (a ++ six ++ b) : List UInt8)) = (v),
 ((b.length : Nat) ≤ ((1000000000 : Nat))),
 ((entF b : List UInt8)) = (e),
 ((want.length + e.length : Nat) ≤ ((9223372036854775807 : Nat))),
 ((want ++ e : List UInt8)) = (v),
 ((v == v : Bool)) = (true)]) := by kernel_rfl

theorem numbers2_4 (c z : Nat) (a b p q w want ten six v e : List UInt8) (d : Int) : lawOut (aBody Tryd.prog clU ⟨true, bs [(91, false), (96, false)] ++ (bs [(17, false), (20, false), (24, false), (28, false), (33, false), (38, false), (75, false), (88, false), (118, true), (130, true)] ++ [(54, ⟨.c (str p), none⟩), (55, ⟨.c (str ten), none⟩), (58, ⟨.c (str q), none⟩), (59, ⟨.c (str six), none⟩), (62, ⟨.c (str w), none⟩), (63, ⟨.c (str want), none⟩), (70, ⟨.c (str v), none⟩), (73, ⟨.c (str e), none⟩), (74, ⟨.c (str v), none⟩), (83, ⟨.c (str v), none⟩), (86, ⟨.c (str e), none⟩), (87, ⟨.c (str v), none⟩), (113, ⟨.c (str v), none⟩), (116, ⟨.c (str e), none⟩), (117, ⟨.c (str v), none⟩), (125, ⟨.c (str v), none⟩), (128, ⟨.c (str e), none⟩), (129, ⟨.c (str v), none⟩), (95, ⟨.c (.int .i64 d), none⟩)])⟩ (lpBy (amLp2 c z a b)) 60 5 ([.c (.int .i64 c), .c (.int .i64 z), .c (str a), .c (str b)]) ([])) = some ((AV.c ((Value.bool true))), [((false : Bool)) = (false),
 ((decide ((↑c : Int) > (2097152 : Int)) : Bool)) = (false),
 ((false : Bool)) = (false),
 ((decide ((↑z : Int) > (20 : Int)) : Bool)) = (false),
 ((decide ((↑a.length : Int) > (200 : Int)) : Bool)) = (false),
 ((decide ((↑b.length : Int) > (200 : Int)) : Bool)) = (false),
 ((lbody Tryd.prog (5 : FuncId) (5 : Nat) : Go.Code)) = (lbody Tryd.prog (5 : FuncId) (5 : Nat)),
 ((amS (↑c : Int) (↑z : Int) a b (0 : Nat) : Go.Proofs.YtoikhiijgdkciaaDoor.St)) = (amS (↑c : Int) (↑z : Int) a b (0 : Nat)),
 (0 : Int) ≤ (↑c : Int) ∧ (↑c : Int) ≤ (2097152 : Int),
 (10 : Int) = (10 : Int) ∨ (10 : Int) = (16 : Int),
 (0 : Int) ≤ (↑z : Int) ∧ (↑z : Int) ≤ (1000 : Int),
 ((digZ (Int.toNat (10 : Int)) c z : List UInt8)) = (p),
 (((2 : Nat) + p.length : Nat) ≤ ((9223372036854775807 : Nat))),
 (([(38 : UInt8), (35 : UInt8)] ++ p : List UInt8)) = (ten),
 (0 : Int) ≤ (↑c : Int) ∧ (↑c : Int) ≤ (2097152 : Int),
 (16 : Int) = (10 : Int) ∨ (16 : Int) = (16 : Int),
 (0 : Int) ≤ (↑z : Int) ∧ (↑z : Int) ≤ (1000 : Int),
 ((digZ (Int.toNat (16 : Int)) c z : List UInt8)) = (q),
 (((3 : Nat) + q.length : Nat) ≤ ((9223372036854775807 : Nat))),
 (([(38 : UInt8), (35 : UInt8), (120 : UInt8)] ++ q : List UInt8)) = (six),
 (((-9223372036854775808 : Int) : Int) ≤ ((↑c : Int))),
 (((↑c : Int) : Int) ≤ ((9223372036854775807 : Int))),
 ((numberF (↑c : Int) : List UInt8)) = (w),
 ((a.length + w.length : Nat) ≤ ((9223372036854775807 : Nat))),
 ((a ++ w : List UInt8)) = (want),
 ((a.length + ten.length : Nat) ≤ ((9223372036854775807 : Nat))),
 (((a ++ ten).length + (1 : Nat) : Nat) ≤ ((9223372036854775807 : Nat))),
 (((a ++ ten ++ [(59 : UInt8)]).length + b.length : Nat) ≤ ((9223372036854775807 : Nat))),
 (((a ++ ten ++ [(59 : UInt8)] ++ b).length : Nat) ≤ ((1000000000 : Nat))),
 ((entF (a ++ ten ++ [(59 : UInt8)] ++ b) : List UInt8)) = (v),
 ((b.length : Nat) ≤ ((1000000000 : Nat))),
 ((entF b : List UInt8)) = (e),
 ((want.length + e.length : Nat) ≤ ((9223372036854775807 : Nat))),
 ((want ++ e : List UInt8)) = (v),
 ((!v == v : Bool)) = (false),
 ((a.length + six.length : Nat) ≤ ((9223372036854775807 : Nat))),
 (((a ++ six).length + (1 : Nat) : Nat) ≤ ((9223372036854775807 : Nat))),
 (((a ++ six ++ [(59 : UInt8)]).length + b.length : Nat) ≤ ((9223372036854775807 : Nat))),
 (((a ++ six ++ [(59 : UInt8)] ++ b).length : Nat) ≤ ((1000000000 : Nat))),
 ((entF (a ++ six ++ [(59 : UInt8)] ++ b) : List UInt8)) = (v),
 ((b.length : Nat) ≤ ((1000000000 : Nat))),
 ((entF b : List UInt8)) = (e),
 ((want.length + e.length : Nat) ≤ ((9223372036854775807 : Nat))),
 ((want ++ e : List UInt8)) = (v),
 ((!v == v : Bool)) = (false),
 ((b == [] : Bool)) = (false),
 (((0 : Int) : Int) ≤ ((0 : Int))),
 (((0 : Int) : Int) < ((↑b.length : Int))),
 (((0 : Int) : Int) ≤ ((↑(b.getD (Int.toNat (0 : Int)) (0 : UInt8)).toNat : Int))),
 (((↑(b.getD (Int.toNat (0 : Int)) (0 : UInt8)).toNat : Int) : Int) < ((256 : Int))),
 ((digitI (↑(b.getD (Int.toNat (0 : Int)) (0 : UInt8)).toNat : Int) (16 : Int) : Int)) = (d),
 ((decide (d < (0 : Int)) : Bool)) = (false)]) := by kernel_rfl

theorem numbers2_all (c z : Nat) (a b p q w want ten six v e : List UInt8) (d : Int) (g1 : c ≤ 2097152) (g3 : z ≤ 20) (g4 : a.length ≤ 200) (g5 : b.length ≤ 200) (hp : digZ 10 c z = p) (hq : digZ 16 c z = q) (hpl : p.length ≤ 100) (hql : q.length ≤ 100) (hten : [38, 35] ++ p = ten) (hsix : [38, 35, 120] ++ q = six) (htl : ten.length ≤ 200) (hsl : six.length ≤ 200) (hw : numberF c = w) (hwl : w.length ≤ 4) (hwant : a ++ w = want) (hwtl : want.length ≤ 204) (he : entF b = e) (hel : e.length ≤ 200) (ev : want ++ e = v) (e1 : entF (((a ++ ten) ++ [59]) ++ b) = v) (e2 : entF (((a ++ six) ++ [59]) ++ b) = v) (hd : dg 16 (b.getD 0 0) = d) (e3a : b = [] → entF ((a ++ ten) ++ b) = v) (e4a : b = [] → entF ((a ++ six) ++ b) = v) (e3b : ¬ b = [] → d < 0 → ¬ (((b.getD 0 0).toNat : Nat) : Int) = 59 → entF ((a ++ ten) ++ b) = v) (e4b : ¬ b = [] → d < 0 → ¬ (((b.getD 0 0).toNat : Nat) : Int) = 59 → entF ((a ++ six) ++ b) = v) (hbn : ¬ b = [] → 0 < b.length) (h5 : (b.getD 0 0).toNat < 256) : ∃ (h : Hints) (p : List Prop), lawOut (aBody Tryd.prog clU h (lpBy (amLp2 c z a b)) 60 5 ([.c (.int .i64 c), .c (.int .i64 z), .c (str a), .c (str b)]) ([])) = some (.c (.bool true), p) ∧ allP p := by
  cases hc91 : (b == [] : Bool) with
  | true =>
    have eR := numbers2_1 c z a b p q w want ten six v e d
    refine ⟨_, _, eR.trans (congrArg (fun r => some (r, _)) ?_), ?_⟩
    · try clear eR
      rfl
    · try clear eR
      try simp only [decide_eq_true_eq, decide_eq_false_iff_not, beq_iff_eq, beq_eq_false_iff_ne, bne_iff_ne, bne_eq_false_iff_eq, ne_eq] at hc91
      try simp only [toNat0, toNat1, toNat2, Int.toNat_natCast, sb_mk] at hc91
      try simp (disch := omega) only [allP, sb_mk, sl1, toNat0, toNat1, toNat2, Int.toNat_natCast, List.take_length, List.take_succ_cons, List.drop_succ_cons, List.drop_zero, List.take_zero, List.length_cons, List.length_nil, List.getD_cons_zero, i64_wrap, i32_wrap, u8_wrap, u32_wrap, tdN, tmN, i64_min, i64_max, u8_min, u8_max, decide_eq_true_eq, decide_eq_false_iff_not, beq_iff_eq, beq_eq_false_iff_ne, bne_iff_ne, bne_eq_false_iff_eq, ne_eq, not_false_eq_true, and_true, true_and, Int.zero_sub, beq_self_eq_true, Bool.not_true]
      repeat' apply And.intro
      all_goals first | exact True.intro | omega | with_reducible rfl | with_reducible assumption | (have := hbn hc91; omega) | exact Or.inl trivial | exact Or.inr trivial | exact e3a hc91 | exact e4a hc91 | exact e3b hc91 hc96 (notne hc106) | exact e4b hc91 hc96 (notne hc106) | (simp only [List.length_append, List.length_cons, List.length_nil]; omega) | (rw [bne_eq_false_iff_eq]) | exact hp | exact hq | exact hten | exact hsix | exact hw | exact hwant | exact he | exact ev | exact e1 | exact e2 | exact hd | exact e3a | exact e4a | rfl
  | false =>
    cases hc96 : (decide (d < (0 : Int)) : Bool) with
    | true =>
      cases hc106 : (!(↑(b.getD (Int.toNat (0 : Int)) (0 : UInt8)).toNat : Int) != (59 : Int) : Bool) with
      | true =>
        have eR := numbers2_2 c z a b p q w want ten six v e d
        refine ⟨_, _, eR.trans (congrArg (fun r => some (r, _)) ?_), ?_⟩
        · try clear eR
          rfl
        · try clear eR
          try simp only [decide_eq_true_eq, decide_eq_false_iff_not, beq_iff_eq, beq_eq_false_iff_ne, bne_iff_ne, bne_eq_false_iff_eq, ne_eq] at hc91
          try simp only [toNat0, toNat1, toNat2, Int.toNat_natCast, sb_mk] at hc91
          try simp only [decide_eq_true_eq, decide_eq_false_iff_not, beq_iff_eq, beq_eq_false_iff_ne, bne_iff_ne, bne_eq_false_iff_eq, ne_eq] at hc96
          try simp only [toNat0, toNat1, toNat2, Int.toNat_natCast, sb_mk] at hc96
          try simp only [decide_eq_true_eq, decide_eq_false_iff_not, beq_iff_eq, beq_eq_false_iff_ne, bne_iff_ne, bne_eq_false_iff_eq, ne_eq] at hc106
          try simp only [toNat0, toNat1, toNat2, Int.toNat_natCast, sb_mk] at hc106
          try simp (disch := omega) only [allP, sb_mk, sl1, toNat0, toNat1, toNat2, Int.toNat_natCast, List.take_length, List.take_succ_cons, List.drop_succ_cons, List.drop_zero, List.take_zero, List.length_cons, List.length_nil, List.getD_cons_zero, i64_wrap, i32_wrap, u8_wrap, u32_wrap, tdN, tmN, i64_min, i64_max, u8_min, u8_max, decide_eq_true_eq, decide_eq_false_iff_not, beq_iff_eq, beq_eq_false_iff_ne, bne_iff_ne, bne_eq_false_iff_eq, ne_eq, not_false_eq_true, and_true, true_and, Int.zero_sub, beq_self_eq_true, Bool.not_true]
          repeat' apply And.intro
          all_goals first | exact True.intro | omega | with_reducible rfl | with_reducible assumption | (have := hbn hc91; omega) | exact Or.inl trivial | exact Or.inr trivial | exact e3a hc91 | exact e4a hc91 | exact e3b hc91 hc96 (notne hc106) | exact e4b hc91 hc96 (notne hc106) | (simp only [List.length_append, List.length_cons, List.length_nil]; omega) | (rw [bne_eq_false_iff_eq]) | exact hp | exact hq | exact hten | exact hsix | exact hw | exact hwant | exact he | exact ev | exact e1 | exact e2 | exact hd | exact e3a | exact e4a | rfl
      | false =>
        have eR := numbers2_3 c z a b p q w want ten six v e d
        refine ⟨_, _, eR.trans (congrArg (fun r => some (r, _)) ?_), ?_⟩
        · try clear eR
          rfl
        · try clear eR
          try simp only [decide_eq_true_eq, decide_eq_false_iff_not, beq_iff_eq, beq_eq_false_iff_ne, bne_iff_ne, bne_eq_false_iff_eq, ne_eq] at hc91
          try simp only [toNat0, toNat1, toNat2, Int.toNat_natCast, sb_mk] at hc91
          try simp only [decide_eq_true_eq, decide_eq_false_iff_not, beq_iff_eq, beq_eq_false_iff_ne, bne_iff_ne, bne_eq_false_iff_eq, ne_eq] at hc96
          try simp only [toNat0, toNat1, toNat2, Int.toNat_natCast, sb_mk] at hc96
          try simp only [decide_eq_true_eq, decide_eq_false_iff_not, beq_iff_eq, beq_eq_false_iff_ne, bne_iff_ne, bne_eq_false_iff_eq, ne_eq] at hc106
          try simp only [toNat0, toNat1, toNat2, Int.toNat_natCast, sb_mk] at hc106
          try simp (disch := omega) only [allP, sb_mk, sl1, toNat0, toNat1, toNat2, Int.toNat_natCast, List.take_length, List.take_succ_cons, List.drop_succ_cons, List.drop_zero, List.take_zero, List.length_cons, List.length_nil, List.getD_cons_zero, i64_wrap, i32_wrap, u8_wrap, u32_wrap, tdN, tmN, i64_min, i64_max, u8_min, u8_max, decide_eq_true_eq, decide_eq_false_iff_not, beq_iff_eq, beq_eq_false_iff_ne, bne_iff_ne, bne_eq_false_iff_eq, ne_eq, not_false_eq_true, and_true, true_and, Int.zero_sub, beq_self_eq_true, Bool.not_true]
          repeat' apply And.intro
          all_goals first | exact True.intro | omega | with_reducible rfl | with_reducible assumption | (have := hbn hc91; omega) | exact Or.inl trivial | exact Or.inr trivial | exact e3a hc91 | exact e4a hc91 | exact e3b hc91 hc96 (notne hc106) | exact e4b hc91 hc96 (notne hc106) | (simp only [List.length_append, List.length_cons, List.length_nil]; omega) | (rw [bne_eq_false_iff_eq]) | exact hp | exact hq | exact hten | exact hsix | exact hw | exact hwant | exact he | exact ev | exact e1 | exact e2 | exact hd | exact e3a | exact e4a | rfl
    | false =>
      have eR := numbers2_4 c z a b p q w want ten six v e d
      refine ⟨_, _, eR.trans (congrArg (fun r => some (r, _)) ?_), ?_⟩
      · try clear eR
        rfl
      · try clear eR
        try simp only [decide_eq_true_eq, decide_eq_false_iff_not, beq_iff_eq, beq_eq_false_iff_ne, bne_iff_ne, bne_eq_false_iff_eq, ne_eq] at hc91
        try simp only [toNat0, toNat1, toNat2, Int.toNat_natCast, sb_mk] at hc91
        try simp only [decide_eq_true_eq, decide_eq_false_iff_not, beq_iff_eq, beq_eq_false_iff_ne, bne_iff_ne, bne_eq_false_iff_eq, ne_eq] at hc96
        try simp only [toNat0, toNat1, toNat2, Int.toNat_natCast, sb_mk] at hc96
        try simp (disch := omega) only [allP, sb_mk, sl1, toNat0, toNat1, toNat2, Int.toNat_natCast, List.take_length, List.take_succ_cons, List.drop_succ_cons, List.drop_zero, List.take_zero, List.length_cons, List.length_nil, List.getD_cons_zero, i64_wrap, i32_wrap, u8_wrap, u32_wrap, tdN, tmN, i64_min, i64_max, u8_min, u8_max, decide_eq_true_eq, decide_eq_false_iff_not, beq_iff_eq, beq_eq_false_iff_ne, bne_iff_ne, bne_eq_false_iff_eq, ne_eq, not_false_eq_true, and_true, true_and, Int.zero_sub, beq_self_eq_true, Bool.not_true]
        repeat' apply And.intro
        all_goals first | exact True.intro | omega | with_reducible rfl | with_reducible assumption | (have := hbn hc91; omega) | exact Or.inl trivial | exact Or.inr trivial | exact e3a hc91 | exact e4a hc91 | exact e3b hc91 hc96 (notne hc106) | exact e4b hc91 hc96 (notne hc106) | (simp only [List.length_append, List.length_cons, List.length_nil]; omega) | (rw [bne_eq_false_iff_eq]) | exact hp | exact hq | exact hten | exact hsix | exact hw | exact hwant | exact he | exact ev | exact e1 | exact e2 | exact hd | exact e3a | exact e4a | rfl

theorem noDig_cons {b : Int} {r : List UInt8} (h : r = [] ∨ dg b (r.getD 0 0) < 0) : noDig b r := by
  intro c q e
  subst e
  rcases h with h | h
  · simp at h
  · exact h

theorem dg_10_16 {c : UInt8} (h : dg 16 c < 0) : dg 10 c < 0 := by
  unfold dg digitI worthI at *
  repeat' split at h
  all_goals (repeat' split)
  all_goals omega

theorem numbers_law (c z : Int) (a b : List UInt8) : ∃ hs lp fuel p, LpOK Ext0 Tryd.prog lp ∧ lawOut (aBody Tryd.prog clU hs lp fuel 5 [.c (.int .i64 c), .c (.int .i64 z), .c (str a), .c (str b)] []) = some (.c (.bool true), p) ∧ allP p := by
  by_cases h : c < 0 ∨ c > 2097152 ∨ z < 0 ∨ z > 20 ∨ (a.length : Int) > 200 ∨ (b.length : Int) > 200
  · obtain ⟨hh, p, e, hp⟩ := numbers0_all c z a b h
    exact ⟨_, _, _, _, lpBy_nil, e, hp⟩
  · obtain ⟨c, rfl⟩ : ∃ k : Nat, c = (k : Int) := ⟨c.toNat, by omega⟩
    obtain ⟨z, rfl⟩ : ∃ k : Nat, z = (k : Int) := ⟨z.toNat, by omega⟩
    rcases amp_cases a with hn | ⟨i, h1, h2, h3⟩
    · have ha := amp_none hn
      have hc : c ≤ 2097152 := by omega
      have l10 := (digZ_len 10 c z).2
      have l16 := (digZ_len 16 c z).2
      have lw := number_le (c : Int)
      have le := ent_len b
      have s1 : ∀ r : List UInt8, (59 :: r).head? = some 59 := fun _ => rfl
      have hb0 : ∀ {k : Int}, (b = [] → noDig k b) := fun h => noDig_cons (.inl h)
      have nos : ∀ {r : List UInt8}, (r = [] ∨ ¬ (((r.getD 0 0).toNat : Nat) : Int) = 59) → ¬ r.head? = some 59 := by
        intro r hr e
        cases r with
        | nil => simp at e
        | cons d q =>
          simp only [List.head?_cons, Option.some.injEq] at e
          subst e
          rcases hr with hr | hr
          · simp at hr
          · exact hr rfl
      have t1 := ent_ten (z := z) hc (semi_no 10 (.inl rfl) b)
      have t2 := ent_six (z := z) hc (semi_no 16 (.inr rfl) b)
      rw [if_pos (s1 b), List.drop_succ_cons, List.drop_zero] at t1 t2
      have t3 : (b = [] ∨ (dg 16 (b.getD 0 0) < 0 ∧ ¬ (((b.getD 0 0).toNat : Nat) : Int) = 59)) → entF (38 :: 35 :: (digZ 10 c z ++ b)) = numberF c ++ entF b := by
        intro h
        have := ent_ten (z := z) hc (noDig_cons (b := 10) (r := b) (h.elim .inl fun h => .inr (dg_10_16 h.1)))
        rw [if_neg (nos (h.elim .inl fun h => .inr h.2)), List.drop_zero] at this
        exact this
      have t4 : (b = [] ∨ (dg 16 (b.getD 0 0) < 0 ∧ ¬ (((b.getD 0 0).toNat : Nat) : Int) = 59)) → entF (38 :: 35 :: 120 :: (digZ 16 c z ++ b)) = numberF c ++ entF b := by
        intro h
        have := ent_six (z := z) hc (noDig_cons (b := 16) (r := b) (h.elim .inl fun h => .inr h.1))
        rw [if_neg (nos (h.elim .inl fun h => .inr h.2)), List.drop_zero] at this
        exact this
      have key : ∀ x y : List UInt8, entF x = numberF c ++ entF b → entF (a ++ x) = (a ++ numberF c) ++ entF b := by
        intro x y hx
        rw [ent_app a x ha, hx, List.append_assoc]
      obtain ⟨hh, p, e, hp⟩ := numbers2_all c z a b _ _ _ _ _ _ _ _ _ hc (by omega) (by omega) (by omega) rfl rfl (by omega) (by omega) rfl rfl (by rw [List.length_append]; simp only [List.length_cons, List.length_nil]; omega) (by rw [List.length_append]; simp only [List.length_cons, List.length_nil]; omega) rfl lw rfl (by rw [List.length_append]; omega) rfl (by omega) rfl
        (by rw [← key _ [] t1]; simp) (by rw [← key _ [] t2]; simp) rfl
        (fun h => by rw [← key _ [] (t3 (.inl h))]; simp) (fun h => by rw [← key _ [] (t4 (.inl h))]; simp)
        (fun _ h1 h2 => by rw [← key _ [] (t3 (.inr ⟨h1, h2⟩))]; simp) (fun _ h1 h2 => by rw [← key _ [] (t4 (.inr ⟨h1, h2⟩))]; simp) (fun h => List.length_pos_iff.2 h) (UInt8.toNat_lt _)
      exact ⟨_, _, _, _, lpBy_cons lpBy_nil List.nodup_nil (am_none c z a b (by omega) hn), e, hp⟩
    · obtain ⟨hh, p, e, hp⟩ := numbers1_all c z a b (by omega) (by omega) (by omega) (by omega) (by omega) (by omega)
      exact ⟨_, _, _, _, lpBy_cons lpBy_nil List.nodup_nil (am_some c z a b (by omega) i h1 h2 h3), e, hp⟩

end Go.Proofs.YtoikhiijgdkciaaDoor
