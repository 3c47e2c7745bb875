/- The laws of references: the small case; names, numbers, what is decoded. -/
import Derived.Test.YtoikhiijgdkciaaDoorEntG
namespace Go.Proofs.YtoikhiijgdkciaaDoor
open Go.RowKit Ent
set_option linter.unusedVariables false
set_option linter.unusedSimpArgs false

noncomputable def clS : CallT := aCall Tryd.prog (sgBy [(9, namedSpec), (11, numberSpec), (13, entSpec)]) 500 8
theorem clS_ok : CallOK Tryd.prog clS := aCall_ok mixed (sgBy_cons named_ok (sgBy_cons number_ok (sgBy_cons ent_ok sgBy_nil))) 500 8

theorem lsm_1  : outcome Tryd.prog 8 (aBody Tryd.prog clS ⟨true, bs [] ++ ([])⟩ (lpBy ([])) 60 8 ([]) ([])) = some ((AV.c ((Value.bool true))), [(((3 : Nat) : Nat) ≤ ((9223372036854775800 : Nat))),
 (((5 : Nat) : Nat) ≤ ((9223372036854775800 : Nat))),
 (((4 : Nat) : Nat) ≤ ((9223372036854775800 : Nat))),
 (((5 : Nat) : Nat) ≤ ((9223372036854775800 : Nat))),
 (((-9223372036854775808 : Int) : Int) ≤ ((128 : Int))),
 (((128 : Int) : Int) ≤ ((9223372036854775807 : Int))),
 (((-9223372036854775808 : Int) : Int) ≤ ((57343 : Int))),
 (((57343 : Int) : Int) ≤ ((9223372036854775807 : Int))),
 (((-9223372036854775808 : Int) : Int) ≤ ((0 : Int))),
 (((0 : Int) : Int) ≤ ((9223372036854775807 : Int))),
 (((23 : Nat) : Nat) ≤ ((1000000000 : Nat))),
 (((43 : Nat) : Nat) ≤ ((1000000000 : Nat)))]) := by kernel_rfl

theorem lsm_all   : ∃ (h : Hints) (p : List Prop), outcome Tryd.prog 8 (aBody Tryd.prog clS h (lpBy ([])) 60 8 ([]) ([])) = some (.c (.bool true), p) ∧ allP p := by
  have eR := lsm_1 
  refine ⟨_, _, eR.trans (congrArg (fun r => some (r, _)) ?_), ?_⟩
  · rfl
  · simp only [allP]
    repeat' apply And.intro
    all_goals first | exact True.intro | decide +kernel

def smallSpec : Spec
  | [] => some (.c (.bool true), [])
  | _ => none

theorem small_ok : SpecOK Tryd.prog 8 smallSpec := by
  refine spec_of mixed clS_ok fun args r q hs hq => ?_
  unfold smallSpec at hs
  split at hs
  · simp only [Option.some.injEq, Prod.mk.injEq] at hs
    obtain ⟨rfl, rfl⟩ := hs
    obtain ⟨hh, p, e, hp⟩ := lsm_all
    exact ⟨_, _, _, _, lpBy_nil, e, hp⟩
  · simp at hs

noncomputable def clT : CallT := aCall Tryd.prog (sgBy [(8, smallSpec), (9, namedSpec), (10, namedSpec), (11, numberSpec), (12, numberSpec), (13, entSpec), (14, entSpec)]) 500 8

theorem clT_ok : CallOK Tryd.prog clT := aCall_ok mixed (sgBy_cons small_ok (sgBy_cons named_ok (sgBy_cons rnamed_ok (sgBy_cons number_ok (sgBy_cons rnumber_ok (sgBy_cons ent_ok (sgBy_cons rent_ok sgBy_nil))))))) 500 8

theorem tells_1 (l s : List UInt8) (n : Int) : lawOut (aBody Tryd.prog clT ⟨true, bs [(13, true)] ++ (bs [(29, true), (34, true), (41, true)])⟩ (lpBy ([])) 60 3 ([.c (str l), .c (.int .i64 n)]) ([])) = some ((AV.c ((Value.bool true))), [((decide ((↑l.length : Int) > (100 : Int)) : Bool)) = (true)]) := by kernel_rfl

theorem tells_2 (l s : List UInt8) (n : Int) : lawOut (aBody Tryd.prog clT ⟨true, bs [(13, false)] ++ (bs [(29, true), (34, true), (41, true)])⟩ (lpBy ([])) 60 3 ([.c (str l), .c (.int .i64 n)]) ([])) = some ((AV.c ((Value.bool true))), [((decide ((↑l.length : Int) > (100 : Int)) : Bool)) = (false),
 ((l.length : Nat) ≤ ((9223372036854775800 : Nat))),
 ((l.length : Nat) ≤ ((9223372036854775800 : Nat))),
 ((namedF l == namedF l : Bool)) = (true),
 (((!namedF l == []) == !namedF l == [] : Bool)) = (true),
 (((-9223372036854775808 : Int) : Int) ≤ (n)),
 ((n : Int) ≤ ((9223372036854775807 : Int))),
 (((-9223372036854775808 : Int) : Int) ≤ (n)),
 ((n : Int) ≤ ((9223372036854775807 : Int))),
 ((numberF n == numberF n : Bool)) = (true)]) := by kernel_rfl

theorem tells_all (l s : List UInt8) (n : Int) (g0 : -9223372036854775808 ≤ n) (g1 : n ≤ 9223372036854775807) : ∃ (h : Hints) (p : List Prop), lawOut (aBody Tryd.prog clT h (lpBy ([])) 60 3 ([.c (str l), .c (.int .i64 n)]) ([])) = some (.c (.bool true), p) ∧ allP p := by
  cases hc13 : (decide ((↑l.length : Int) > (100 : Int)) : Bool) with
  | true =>
    have eR := tells_1 l s n
    refine ⟨_, _, eR.trans (congrArg (fun r => some (r, _)) ?_), ?_⟩
    · try clear eR
      rfl
    · try clear eR
      try simp only [decide_eq_true_eq, decide_eq_false_iff_not, beq_iff_eq, beq_eq_false_iff_ne, bne_iff_ne, bne_eq_false_iff_eq, ne_eq] at hc13
      try simp only [toNat0, toNat1, toNat2, Int.toNat_natCast, sb_mk] at hc13
      try simp (disch := omega) only [allP, sb_mk, sl1, toNat0, toNat1, toNat2, Int.toNat_natCast, List.take_length, List.take_succ_cons, List.drop_succ_cons, List.drop_zero, List.take_zero, List.length_cons, List.length_nil, List.getD_cons_zero, i64_wrap, i32_wrap, u8_wrap, u32_wrap, tdN, tmN, i64_min, i64_max, u8_min, u8_max, decide_eq_true_eq, decide_eq_false_iff_not, beq_iff_eq, beq_eq_false_iff_ne, bne_iff_ne, bne_eq_false_iff_eq, ne_eq, not_false_eq_true, and_true, true_and, Int.zero_sub, beq_self_eq_true]
      repeat' apply And.intro
      all_goals first | exact True.intro | omega | with_reducible rfl | with_reducible assumption | rfl
  | false =>
    have eR := tells_2 l s n
    refine ⟨_, _, eR.trans (congrArg (fun r => some (r, _)) ?_), ?_⟩
    · try clear eR
      rfl
    · try clear eR
      try simp only [decide_eq_true_eq, decide_eq_false_iff_not, beq_iff_eq, beq_eq_false_iff_ne, bne_iff_ne, bne_eq_false_iff_eq, ne_eq] at hc13
      try simp only [toNat0, toNat1, toNat2, Int.toNat_natCast, sb_mk] at hc13
      try simp (disch := omega) only [allP, sb_mk, sl1, toNat0, toNat1, toNat2, Int.toNat_natCast, List.take_length, List.take_succ_cons, List.drop_succ_cons, List.drop_zero, List.take_zero, List.length_cons, List.length_nil, List.getD_cons_zero, i64_wrap, i32_wrap, u8_wrap, u32_wrap, tdN, tmN, i64_min, i64_max, u8_min, u8_max, decide_eq_true_eq, decide_eq_false_iff_not, beq_iff_eq, beq_eq_false_iff_ne, bne_iff_ne, bne_eq_false_iff_eq, ne_eq, not_false_eq_true, and_true, true_and, Int.zero_sub, beq_self_eq_true]
      repeat' apply And.intro
      all_goals first | exact True.intro | omega | with_reducible rfl | with_reducible assumption | rfl

theorem decodes_1 (l z : List UInt8) : lawOut (aBody Tryd.prog clT ⟨true, bs [(8, true)] ++ (bs [(17, true), (24, true)])⟩ (lpBy ([])) 60 4 ([.c (str l)]) ([])) = some ((AV.c ((Value.bool true))), [((decide ((↑l.length : Int) > (500 : Int)) : Bool)) = (true)]) := by kernel_rfl

theorem decodes_2 (l z : List UInt8) : lawOut (aBody Tryd.prog clT ⟨true, bs [(8, false)] ++ (bs [(17, true), (24, true)])⟩ (lpBy ([])) 60 4 ([.c (str l)]) ([])) = some ((AV.c ((Value.bool true))), [((decide ((↑l.length : Int) > (500 : Int)) : Bool)) = (false),
 ((l.length : Nat) ≤ ((1000000000 : Nat))),
 ((l.length : Nat) ≤ ((1000000000 : Nat))),
 ((entF l == entF l : Bool)) = (true),
 ((decide ((↑(entF l).length : Int) ≤ (↑l.length : Int)) : Bool)) = (true)]) := by kernel_rfl

theorem decodes_all (l z : List UInt8) (hl : (entF l).length ≤ l.length) : ∃ (h : Hints) (p : List Prop), lawOut (aBody Tryd.prog clT h (lpBy ([])) 60 4 ([.c (str l)]) ([])) = some (.c (.bool true), p) ∧ allP p := by
  cases hc8 : (decide ((↑l.length : Int) > (500 : Int)) : Bool) with
  | true =>
    have eR := decodes_1 l z
    refine ⟨_, _, eR.trans (congrArg (fun r => some (r, _)) ?_), ?_⟩
    · try clear eR
      rfl
    · try clear eR
      try simp only [decide_eq_true_eq, decide_eq_false_iff_not, beq_iff_eq, beq_eq_false_iff_ne, bne_iff_ne, bne_eq_false_iff_eq, ne_eq] at hc8
      try simp only [toNat0, toNat1, toNat2, Int.toNat_natCast, sb_mk] at hc8
      try simp (disch := omega) only [allP, sb_mk, sl1, toNat0, toNat1, toNat2, Int.toNat_natCast, List.take_length, List.take_succ_cons, List.drop_succ_cons, List.drop_zero, List.take_zero, List.length_cons, List.length_nil, List.getD_cons_zero, i64_wrap, i32_wrap, u8_wrap, u32_wrap, tdN, tmN, i64_min, i64_max, u8_min, u8_max, decide_eq_true_eq, decide_eq_false_iff_not, beq_iff_eq, beq_eq_false_iff_ne, bne_iff_ne, bne_eq_false_iff_eq, ne_eq, not_false_eq_true, and_true, true_and, Int.zero_sub, beq_self_eq_true]
      repeat' apply And.intro
      all_goals first | exact True.intro | omega | with_reducible rfl | with_reducible assumption | rfl
  | false =>
    have eR := decodes_2 l z
    refine ⟨_, _, eR.trans (congrArg (fun r => some (r, _)) ?_), ?_⟩
    · try clear eR
      rfl
    · try clear eR
      try simp only [decide_eq_true_eq, decide_eq_false_iff_not, beq_iff_eq, beq_eq_false_iff_ne, bne_iff_ne, bne_eq_false_iff_eq, ne_eq] at hc8
      try simp only [toNat0, toNat1, toNat2, Int.toNat_natCast, sb_mk] at hc8
      try simp (disch := omega) only [allP, sb_mk, sl1, toNat0, toNat1, toNat2, Int.toNat_natCast, List.take_length, List.take_succ_cons, List.drop_succ_cons, List.drop_zero, List.take_zero, List.length_cons, List.length_nil, List.getD_cons_zero, i64_wrap, i32_wrap, u8_wrap, u32_wrap, tdN, tmN, i64_min, i64_max, u8_min, u8_max, decide_eq_true_eq, decide_eq_false_iff_not, beq_iff_eq, beq_eq_false_iff_ne, bne_iff_ne, bne_eq_false_iff_eq, ne_eq, not_false_eq_true, and_true, true_and, Int.zero_sub, beq_self_eq_true]
      repeat' apply And.intro
      all_goals first | exact True.intro | omega | with_reducible rfl | with_reducible assumption | rfl

end Go.Proofs.YtoikhiijgdkciaaDoor
