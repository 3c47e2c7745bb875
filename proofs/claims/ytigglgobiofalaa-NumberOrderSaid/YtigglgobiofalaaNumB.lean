/- The exponent, and the float: the document's own. -/
import Derived.Test.YtigglgobiofalaaNumA
namespace Go.Proofs.Ytigglgobiofalaa
open Go.RowKit Num
set_option linter.unusedVariables false
set_option linter.unusedSimpArgs false

noncomputable def clE : CallT := aCall Try.prog (sgBy [(10, wholeSpec), (20, digitsSpec)]) 500 8
theorem clE_ok : CallOK Try.prog clE := aCall_ok mixed (sgBy_cons rwhole_ok (sgBy_cons rdigits_ok sgBy_nil)) 500 8

/-- What an exponent's digits tell. -/
def exG (s : Int) (q : List UInt8) : AV := if wOK q = true ∧ q.length ≤ 4 then .tu [.c (.int .i64 (s * (wV q : Nat))), .c (.bool true)] else .tu [.c (.int .i64 0), .c (.bool false)]

theorem wV_le (l : List UInt8) : wV l ≤ 9223372036854775807 := by
  unfold wV
  split
  · exact sat_max l
  · omega

theorem re0_1  : outcome Try.prog 21 (aBody Try.prog clE ⟨true, bs [] ++ ([])⟩ (lpBy ([])) 60 21 ([.c (str [])]) ([])) = some ((AV.tu [(AV.c ((Value.int .i64 0))),
 (AV.c ((Value.bool true)))]), []) := by kernel_rfl

theorem re0_all   : ∃ (h : Hints) (p : List Prop), outcome Try.prog 21 (aBody Try.prog clE h (lpBy ([])) 60 21 ([.c (str [])]) ([])) = some (.tu [.c (.int .i64 0), .c (.bool true)], p) ∧ allP p := by
  have eR := re0_1 
  refine ⟨_, _, eR.trans (congrArg (fun r => some (r, _)) ?_), ?_⟩
  · rfl
  · simp only [allP, List.getD_cons_zero, toNat0, bne_iff_ne, ne_eq, List.length_cons, and_true, true_and]
    repeat' apply And.intro
    all_goals first | exact True.intro | omega

theorem re1_1 (c : UInt8) (r : List UInt8) : outcome Try.prog 21 (aBody Try.prog clE ⟨true, bs [] ++ (bs [(11, true), (15, true)])⟩ (lpBy ([])) 60 21 ([.c (str (c :: r))]) ([])) = some ((AV.tu [(AV.c ((Value.int .i64 0))),
 (AV.c ((Value.bool false)))]), [(((0 : Int) : Int) ≤ ((0 : Int))),
 (((0 : Int) : Int) < ((↑(c :: r).length : Int))),
 (((↑((c :: r).getD (Int.toNat (0 : Int)) (0 : UInt8)).toNat : Int) != (101 : Int) : Bool)) = (true),
 (((0 : Int) : Int) ≤ ((0 : Int))),
 (((0 : Int) : Int) < ((↑(c :: r).length : Int))),
 (((↑((c :: r).getD (Int.toNat (0 : Int)) (0 : UInt8)).toNat : Int) != (69 : Int) : Bool)) = (true)]) := by kernel_rfl

theorem re1_all (c : UInt8) (r : List UInt8) (h1 : ¬ (c.toNat : Int) = 101) (h2 : ¬ (c.toNat : Int) = 69) : ∃ (h : Hints) (p : List Prop), outcome Try.prog 21 (aBody Try.prog clE h (lpBy ([])) 60 21 ([.c (str (c :: r))]) ([])) = some (.tu [.c (.int .i64 0), .c (.bool false)], p) ∧ allP p := by
  have eR := re1_1 c r
  refine ⟨_, _, eR.trans (congrArg (fun r => some (r, _)) ?_), ?_⟩
  · rfl
  · simp only [allP, List.getD_cons_zero, toNat0, bne_iff_ne, ne_eq, List.length_cons, and_true, true_and]
    repeat' apply And.intro
    all_goals first | exact True.intro | omega

theorem re2a_1  : outcome Try.prog 21 (aBody Try.prog clE ⟨true, bs [] ++ ([])⟩ (lpBy ([])) 60 21 ([.c (str [101])]) ([])) = some ((AV.tu [(AV.c ((Value.int .i64 0))),
 (AV.c ((Value.bool false)))]), [(((0 : Int) : Int) ≤ ((0 : Int))),
 (((0 : Int) : Int) < ((↑(1 : Nat) : Int))),
 (((0 : Int) : Int) ≤ ((1 : Int))),
 (((1 : Int) : Int) ≤ ((↑(1 : Nat) : Int))),
 (((↑(1 : Nat) : Int) : Int) ≤ ((↑(1 : Nat) : Int))),
 (((0 : Nat) : Nat) ≤ ((1000000000 : Nat)))]) := by kernel_rfl

theorem re2a_all   : ∃ (h : Hints) (p : List Prop), outcome Try.prog 21 (aBody Try.prog clE h (lpBy ([])) 60 21 ([.c (str [101])]) ([])) = some (.tu [.c (.int .i64 0), .c (.bool false)], p) ∧ allP p := by
  have eR := re2a_1 
  refine ⟨_, _, eR.trans (congrArg (fun r => some (r, _)) ?_), ?_⟩
  · rfl
  · simp only [allP, List.getD_cons_zero, toNat0, bne_iff_ne, ne_eq, List.length_cons, and_true, true_and]
    repeat' apply And.intro
    all_goals first | exact True.intro | omega

theorem re3a_1 (q : List UInt8) : outcome Try.prog 21 (aBody Try.prog clE ⟨true, bs [(42, true)] ++ ([(18, ⟨.c (str (43 :: q)), none⟩), (35, ⟨.c (str q), none⟩), (39, ⟨.c (.int .i64 (wV q : Nat)), none⟩), (40, ⟨.c (.bool (wOK q)), none⟩)])⟩ (lpBy ([])) 60 21 ([.c (str (101 :: 43 :: q))]) ([])) = some ((AV.tu [(AV.c ((Value.int .i64 0))),
 (AV.c ((Value.bool false)))]), [(((0 : Int) : Int) ≤ ((0 : Int))),
 (((0 : Int) : Int) < ((↑((101 : UInt8) :: (43 : UInt8) :: q).length : Int))),
 (((0 : Int) : Int) ≤ ((1 : Int))),
 (((1 : Int) : Int) ≤ ((↑((101 : UInt8) :: (43 : UInt8) :: q).length : Int))),
 (((↑((101 : UInt8) :: (43 : UInt8) :: q).length : Int) : Int) ≤ ((↑((101 : UInt8) :: (43 : UInt8) :: q).length : Int))),
 ((List.drop (Int.toNat (1 : Int))
  (List.take ((101 : UInt8) :: (43 : UInt8) :: q).length ((101 : UInt8) :: (43 : UInt8) :: q)) : List UInt8)) = ((43 : UInt8) :: q),
 (((0 : Int) : Int) ≤ ((0 : Int))),
 (((0 : Int) : Int) < ((↑((43 : UInt8) :: q).length : Int))),
 (((0 : Int) : Int) ≤ ((0 : Int))),
 (((0 : Int) : Int) < ((↑((43 : UInt8) :: q).length : Int))),
 (((0 : Int) : Int) ≤ ((1 : Int))),
 (((1 : Int) : Int) ≤ ((↑((43 : UInt8) :: q).length : Int))),
 (((↑((43 : UInt8) :: q).length : Int) : Int) ≤ ((↑((43 : UInt8) :: q).length : Int))),
 ((List.drop (Int.toNat (1 : Int)) (List.take ((43 : UInt8) :: q).length ((43 : UInt8) :: q)) : List UInt8)) = (q),
 ((q.length : Nat) ≤ ((1000000000 : Nat))),
 (((↑(wV q) : Int) : Int)) = ((↑(wV q) : Int)),
 ((wOK q : Bool)) = (wOK q),
 ((!wOK q : Bool)) = (true)]) := by kernel_rfl

theorem re3a_2 (q : List UInt8) : outcome Try.prog 21 (aBody Try.prog clE ⟨true, bs [(42, false), (46, true)] ++ ([(18, ⟨.c (str (43 :: q)), none⟩), (35, ⟨.c (str q), none⟩), (39, ⟨.c (.int .i64 (wV q : Nat)), none⟩), (40, ⟨.c (.bool (wOK q)), none⟩)])⟩ (lpBy ([])) 60 21 ([.c (str (101 :: 43 :: q))]) ([])) = some ((AV.tu [(AV.c ((Value.int .i64 0))),
 (AV.c ((Value.bool false)))]), [(((0 : Int) : Int) ≤ ((0 : Int))),
 (((0 : Int) : Int) < ((↑((101 : UInt8) :: (43 : UInt8) :: q).length : Int))),
 (((0 : Int) : Int) ≤ ((1 : Int))),
 (((1 : Int) : Int) ≤ ((↑((101 : UInt8) :: (43 : UInt8) :: q).length : Int))),
 (((↑((101 : UInt8) :: (43 : UInt8) :: q).length : Int) : Int) ≤ ((↑((101 : UInt8) :: (43 : UInt8) :: q).length : Int))),
 ((List.drop (Int.toNat (1 : Int))
  (List.take ((101 : UInt8) :: (43 : UInt8) :: q).length ((101 : UInt8) :: (43 : UInt8) :: q)) : List UInt8)) = ((43 : UInt8) :: q),
 (((0 : Int) : Int) ≤ ((0 : Int))),
 (((0 : Int) : Int) < ((↑((43 : UInt8) :: q).length : Int))),
 (((0 : Int) : Int) ≤ ((0 : Int))),
 (((0 : Int) : Int) < ((↑((43 : UInt8) :: q).length : Int))),
 (((0 : Int) : Int) ≤ ((1 : Int))),
 (((1 : Int) : Int) ≤ ((↑((43 : UInt8) :: q).length : Int))),
 (((↑((43 : UInt8) :: q).length : Int) : Int) ≤ ((↑((43 : UInt8) :: q).length : Int))),
 ((List.drop (Int.toNat (1 : Int)) (List.take ((43 : UInt8) :: q).length ((43 : UInt8) :: q)) : List UInt8)) = (q),
 ((q.length : Nat) ≤ ((1000000000 : Nat))),
 (((↑(wV q) : Int) : Int)) = ((↑(wV q) : Int)),
 ((wOK q : Bool)) = (wOK q),
 ((!wOK q : Bool)) = (false),
 ((decide ((↑q.length : Int) > (4 : Int)) : Bool)) = (true)]) := by kernel_rfl

theorem re3a_3 (q : List UInt8) : outcome Try.prog 21 (aBody Try.prog clE ⟨true, bs [(42, false), (46, false)] ++ ([(18, ⟨.c (str (43 :: q)), none⟩), (35, ⟨.c (str q), none⟩), (39, ⟨.c (.int .i64 (wV q : Nat)), none⟩), (40, ⟨.c (.bool (wOK q)), none⟩)])⟩ (lpBy ([])) 60 21 ([.c (str (101 :: 43 :: q))]) ([])) = some ((AV.tu [(AV.c ((Value.int .i64 ((1 : Int) * (↑(wV q) : Int))))),
 (AV.c ((Value.bool true)))]), [(((0 : Int) : Int) ≤ ((0 : Int))),
 (((0 : Int) : Int) < ((↑((101 : UInt8) :: (43 : UInt8) :: q).length : Int))),
 (((0 : Int) : Int) ≤ ((1 : Int))),
 (((1 : Int) : Int) ≤ ((↑((101 : UInt8) :: (43 : UInt8) :: q).length : Int))),
 (((↑((101 : UInt8) :: (43 : UInt8) :: q).length : Int) : Int) ≤ ((↑((101 : UInt8) :: (43 : UInt8) :: q).length : Int))),
 ((List.drop (Int.toNat (1 : Int))
  (List.take ((101 : UInt8) :: (43 : UInt8) :: q).length ((101 : UInt8) :: (43 : UInt8) :: q)) : List UInt8)) = ((43 : UInt8) :: q),
 (((0 : Int) : Int) ≤ ((0 : Int))),
 (((0 : Int) : Int) < ((↑((43 : UInt8) :: q).length : Int))),
 (((0 : Int) : Int) ≤ ((0 : Int))),
 (((0 : Int) : Int) < ((↑((43 : UInt8) :: q).length : Int))),
 (((0 : Int) : Int) ≤ ((1 : Int))),
 (((1 : Int) : Int) ≤ ((↑((43 : UInt8) :: q).length : Int))),
 (((↑((43 : UInt8) :: q).length : Int) : Int) ≤ ((↑((43 : UInt8) :: q).length : Int))),
 ((List.drop (Int.toNat (1 : Int)) (List.take ((43 : UInt8) :: q).length ((43 : UInt8) :: q)) : List UInt8)) = (q),
 ((q.length : Nat) ≤ ((1000000000 : Nat))),
 (((↑(wV q) : Int) : Int)) = ((↑(wV q) : Int)),
 ((wOK q : Bool)) = (wOK q),
 ((!wOK q : Bool)) = (false),
 ((decide ((↑q.length : Int) > (4 : Int)) : Bool)) = (false),
 ((IntKind.i64.min : Int) ≤ ((1 : Int) * (↑(wV q) : Int))),
 (((1 : Int) * (↑(wV q) : Int) : Int) ≤ (IntKind.i64.max))]) := by kernel_rfl

theorem re3a_all (q : List UInt8) (hl : q.length ≤ 999999990) (hv : wV q ≤ 9223372036854775807) : ∃ (h : Hints) (p : List Prop), outcome Try.prog 21 (aBody Try.prog clE h (lpBy ([])) 60 21 ([.c (str (101 :: 43 :: q))]) ([])) = some (exG 1 q, p) ∧ allP p := by
  cases hc42 : (!wOK q : Bool) with
  | true =>
    have eR := re3a_1 q
    refine ⟨_, _, eR.trans (congrArg (fun r => some (r, _)) ?_), ?_⟩
    · try clear eR
      unfold exG
      try simp only [decide_eq_true_eq, decide_eq_false_iff_not] at hc46
      first
        | rw [if_pos ⟨by simpa using hc42, by omega⟩]
        | rw [if_neg (by rintro ⟨a, b⟩; omega)]
        | rw [if_neg (by rintro ⟨a, b⟩; rw [a] at hc42; simp at hc42)]
    · try simp only [decide_eq_true_eq, decide_eq_false_iff_not] at *
      simp only [allP, List.take_length, toNat0, toNat1, List.drop_succ_cons, List.drop_zero, List.getD_cons_zero, beq_eq_false_iff_ne, ne_eq]
      simp only [List.length_cons, i64_min, i64_max, and_true, true_and, decide_eq_true_eq, decide_eq_false_iff_not]
      repeat' apply And.intro
      all_goals first | omega | exact hc42
  | false =>
    cases hc46 : (decide ((↑q.length : Int) > (4 : Int)) : Bool) with
    | true =>
      have eR := re3a_2 q
      refine ⟨_, _, eR.trans (congrArg (fun r => some (r, _)) ?_), ?_⟩
      · try clear eR
        unfold exG
        try simp only [decide_eq_true_eq, decide_eq_false_iff_not] at hc46
        first
          | rw [if_pos ⟨by simpa using hc42, by omega⟩]
          | rw [if_neg (by rintro ⟨a, b⟩; omega)]
          | rw [if_neg (by rintro ⟨a, b⟩; rw [a] at hc42; simp at hc42)]
      · try simp only [decide_eq_true_eq, decide_eq_false_iff_not] at *
        simp only [allP, List.take_length, toNat0, toNat1, List.drop_succ_cons, List.drop_zero, List.getD_cons_zero, beq_eq_false_iff_ne, ne_eq]
        simp only [List.length_cons, i64_min, i64_max, and_true, true_and, decide_eq_true_eq, decide_eq_false_iff_not]
        repeat' apply And.intro
        all_goals first | omega | exact hc42
    | false =>
      have eR := re3a_3 q
      refine ⟨_, _, eR.trans (congrArg (fun r => some (r, _)) ?_), ?_⟩
      · try clear eR
        unfold exG
        try simp only [decide_eq_true_eq, decide_eq_false_iff_not] at hc46
        first
          | rw [if_pos ⟨by simpa using hc42, by omega⟩]
          | rw [if_neg (by rintro ⟨a, b⟩; omega)]
          | rw [if_neg (by rintro ⟨a, b⟩; rw [a] at hc42; simp at hc42)]
      · try simp only [decide_eq_true_eq, decide_eq_false_iff_not] at *
        simp only [allP, List.take_length, toNat0, toNat1, List.drop_succ_cons, List.drop_zero, List.getD_cons_zero, beq_eq_false_iff_ne, ne_eq]
        simp only [List.length_cons, i64_min, i64_max, and_true, true_and, decide_eq_true_eq, decide_eq_false_iff_not]
        repeat' apply And.intro
        all_goals first | omega | exact hc42

theorem re4a_1 (q : List UInt8) : outcome Try.prog 21 (aBody Try.prog clE ⟨true, bs [(42, true)] ++ ([(18, ⟨.c (str (45 :: q)), none⟩), (35, ⟨.c (str q), none⟩), (39, ⟨.c (.int .i64 (wV q : Nat)), none⟩), (40, ⟨.c (.bool (wOK q)), none⟩)])⟩ (lpBy ([])) 60 21 ([.c (str (101 :: 45 :: q))]) ([])) = some ((AV.tu [(AV.c ((Value.int .i64 0))),
 (AV.c ((Value.bool false)))]), [(((0 : Int) : Int) ≤ ((0 : Int))),
 (((0 : Int) : Int) < ((↑((101 : UInt8) :: (45 : UInt8) :: q).length : Int))),
 (((0 : Int) : Int) ≤ ((1 : Int))),
 (((1 : Int) : Int) ≤ ((↑((101 : UInt8) :: (45 : UInt8) :: q).length : Int))),
 (((↑((101 : UInt8) :: (45 : UInt8) :: q).length : Int) : Int) ≤ ((↑((101 : UInt8) :: (45 : UInt8) :: q).length : Int))),
 ((List.drop (Int.toNat (1 : Int))
  (List.take ((101 : UInt8) :: (45 : UInt8) :: q).length ((101 : UInt8) :: (45 : UInt8) :: q)) : List UInt8)) = ((45 : UInt8) :: q),
 (((0 : Int) : Int) ≤ ((0 : Int))),
 (((0 : Int) : Int) < ((↑((45 : UInt8) :: q).length : Int))),
 (((0 : Int) : Int) ≤ ((0 : Int))),
 (((0 : Int) : Int) < ((↑((45 : UInt8) :: q).length : Int))),
 (((0 : Int) : Int) ≤ ((0 : Int))),
 (((0 : Int) : Int) < ((↑((45 : UInt8) :: q).length : Int))),
 (((0 : Int) : Int) ≤ ((1 : Int))),
 (((1 : Int) : Int) ≤ ((↑((45 : UInt8) :: q).length : Int))),
 (((↑((45 : UInt8) :: q).length : Int) : Int) ≤ ((↑((45 : UInt8) :: q).length : Int))),
 ((List.drop (Int.toNat (1 : Int)) (List.take ((45 : UInt8) :: q).length ((45 : UInt8) :: q)) : List UInt8)) = (q),
 ((q.length : Nat) ≤ ((1000000000 : Nat))),
 (((↑(wV q) : Int) : Int)) = ((↑(wV q) : Int)),
 ((wOK q : Bool)) = (wOK q),
 ((!wOK q : Bool)) = (true)]) := by kernel_rfl

theorem re4a_2 (q : List UInt8) : outcome Try.prog 21 (aBody Try.prog clE ⟨true, bs [(42, false), (46, true)] ++ ([(18, ⟨.c (str (45 :: q)), none⟩), (35, ⟨.c (str q), none⟩), (39, ⟨.c (.int .i64 (wV q : Nat)), none⟩), (40, ⟨.c (.bool (wOK q)), none⟩)])⟩ (lpBy ([])) 60 21 ([.c (str (101 :: 45 :: q))]) ([])) = some ((AV.tu [(AV.c ((Value.int .i64 0))),
 (AV.c ((Value.bool false)))]), [(((0 : Int) : Int) ≤ ((0 : Int))),
 (((0 : Int) : Int) < ((↑((101 : UInt8) :: (45 : UInt8) :: q).length : Int))),
 (((0 : Int) : Int) ≤ ((1 : Int))),
 (((1 : Int) : Int) ≤ ((↑((101 : UInt8) :: (45 : UInt8) :: q).length : Int))),
 (((↑((101 : UInt8) :: (45 : UInt8) :: q).length : Int) : Int) ≤ ((↑((101 : UInt8) :: (45 : UInt8) :: q).length : Int))),
 ((List.drop (Int.toNat (1 : Int))
  (List.take ((101 : UInt8) :: (45 : UInt8) :: q).length ((101 : UInt8) :: (45 : UInt8) :: q)) : List UInt8)) = ((45 : UInt8) :: q),
 (((0 : Int) : Int) ≤ ((0 : Int))),
 (((0 : Int) : Int) < ((↑((45 : UInt8) :: q).length : Int))),
 (((0 : Int) : Int) ≤ ((0 : Int))),
 (((0 : Int) : Int) < ((↑((45 : UInt8) :: q).length : Int))),
 (((0 : Int) : Int) ≤ ((0 : Int))),
 (((0 : Int) : Int) < ((↑((45 : UInt8) :: q).length : Int))),
 (((0 : Int) : Int) ≤ ((1 : Int))),
 (((1 : Int) : Int) ≤ ((↑((45 : UInt8) :: q).length : Int))),
 (((↑((45 : UInt8) :: q).length : Int) : Int) ≤ ((↑((45 : UInt8) :: q).length : Int))),
 ((List.drop (Int.toNat (1 : Int)) (List.take ((45 : UInt8) :: q).length ((45 : UInt8) :: q)) : List UInt8)) = (q),
 ((q.length : Nat) ≤ ((1000000000 : Nat))),
 (((↑(wV q) : Int) : Int)) = ((↑(wV q) : Int)),
 ((wOK q : Bool)) = (wOK q),
 ((!wOK q : Bool)) = (false),
 ((decide ((↑q.length : Int) > (4 : Int)) : Bool)) = (true)]) := by kernel_rfl

theorem re4a_3 (q : List UInt8) : outcome Try.prog 21 (aBody Try.prog clE ⟨true, bs [(42, false), (46, false)] ++ ([(18, ⟨.c (str (45 :: q)), none⟩), (35, ⟨.c (str q), none⟩), (39, ⟨.c (.int .i64 (wV q : Nat)), none⟩), (40, ⟨.c (.bool (wOK q)), none⟩)])⟩ (lpBy ([])) 60 21 ([.c (str (101 :: 45 :: q))]) ([])) = some ((AV.tu [(AV.c ((Value.int .i64 ((-1 : Int) * (↑(wV q) : Int))))),
 (AV.c ((Value.bool true)))]), [(((0 : Int) : Int) ≤ ((0 : Int))),
 (((0 : Int) : Int) < ((↑((101 : UInt8) :: (45 : UInt8) :: q).length : Int))),
 (((0 : Int) : Int) ≤ ((1 : Int))),
 (((1 : Int) : Int) ≤ ((↑((101 : UInt8) :: (45 : UInt8) :: q).length : Int))),
 (((↑((101 : UInt8) :: (45 : UInt8) :: q).length : Int) : Int) ≤ ((↑((101 : UInt8) :: (45 : UInt8) :: q).length : Int))),
 ((List.drop (Int.toNat (1 : Int))
  (List.take ((101 : UInt8) :: (45 : UInt8) :: q).length ((101 : UInt8) :: (45 : UInt8) :: q)) : List UInt8)) = ((45 : UInt8) :: q),
 (((0 : Int) : Int) ≤ ((0 : Int))),
 (((0 : Int) : Int) < ((↑((45 : UInt8) :: q).length : Int))),
 (((0 : Int) : Int) ≤ ((0 : Int))),
 (((0 : Int) : Int) < ((↑((45 : UInt8) :: q).length : Int))),
 (((0 : Int) : Int) ≤ ((0 : Int))),
 (((0 : Int) : Int) < ((↑((45 : UInt8) :: q).length : Int))),
 (((0 : Int) : Int) ≤ ((1 : Int))),
 (((1 : Int) : Int) ≤ ((↑((45 : UInt8) :: q).length : Int))),
 (((↑((45 : UInt8) :: q).length : Int) : Int) ≤ ((↑((45 : UInt8) :: q).length : Int))),
 ((List.drop (Int.toNat (1 : Int)) (List.take ((45 : UInt8) :: q).length ((45 : UInt8) :: q)) : List UInt8)) = (q),
 ((q.length : Nat) ≤ ((1000000000 : Nat))),
 (((↑(wV q) : Int) : Int)) = ((↑(wV q) : Int)),
 ((wOK q : Bool)) = (wOK q),
 ((!wOK q : Bool)) = (false),
 ((decide ((↑q.length : Int) > (4 : Int)) : Bool)) = (false),
 ((IntKind.i64.min : Int) ≤ ((-1 : Int) * (↑(wV q) : Int))),
 (((-1 : Int) * (↑(wV q) : Int) : Int) ≤ (IntKind.i64.max))]) := by kernel_rfl

theorem re4a_all (q : List UInt8) (hl : q.length ≤ 999999990) (hv : wV q ≤ 9223372036854775807) : ∃ (h : Hints) (p : List Prop), outcome Try.prog 21 (aBody Try.prog clE h (lpBy ([])) 60 21 ([.c (str (101 :: 45 :: q))]) ([])) = some (exG (-1) q, p) ∧ allP p := by
  cases hc42 : (!wOK q : Bool) with
  | true =>
    have eR := re4a_1 q
    refine ⟨_, _, eR.trans (congrArg (fun r => some (r, _)) ?_), ?_⟩
    · try clear eR
      unfold exG
      try simp only [decide_eq_true_eq, decide_eq_false_iff_not] at hc46
      first
        | rw [if_pos ⟨by simpa using hc42, by omega⟩]
        | rw [if_neg (by rintro ⟨a, b⟩; omega)]
        | rw [if_neg (by rintro ⟨a, b⟩; rw [a] at hc42; simp at hc42)]
    · try simp only [decide_eq_true_eq, decide_eq_false_iff_not] at *
      simp only [allP, List.take_length, toNat0, toNat1, List.drop_succ_cons, List.drop_zero, List.getD_cons_zero, beq_eq_false_iff_ne, ne_eq]
      simp only [List.length_cons, i64_min, i64_max, and_true, true_and, decide_eq_true_eq, decide_eq_false_iff_not]
      repeat' apply And.intro
      all_goals first | omega | exact hc42
  | false =>
    cases hc46 : (decide ((↑q.length : Int) > (4 : Int)) : Bool) with
    | true =>
      have eR := re4a_2 q
      refine ⟨_, _, eR.trans (congrArg (fun r => some (r, _)) ?_), ?_⟩
      · try clear eR
        unfold exG
        try simp only [decide_eq_true_eq, decide_eq_false_iff_not] at hc46
        first
          | rw [if_pos ⟨by simpa using hc42, by omega⟩]
          | rw [if_neg (by rintro ⟨a, b⟩; omega)]
          | rw [if_neg (by rintro ⟨a, b⟩; rw [a] at hc42; simp at hc42)]
      · try simp only [decide_eq_true_eq, decide_eq_false_iff_not] at *
        simp only [allP, List.take_length, toNat0, toNat1, List.drop_succ_cons, List.drop_zero, List.getD_cons_zero, beq_eq_false_iff_ne, ne_eq]
        simp only [List.length_cons, i64_min, i64_max, and_true, true_and, decide_eq_true_eq, decide_eq_false_iff_not]
        repeat' apply And.intro
        all_goals first | omega | exact hc42
    | false =>
      have eR := re4a_3 q
      refine ⟨_, _, eR.trans (congrArg (fun r => some (r, _)) ?_), ?_⟩
      · try clear eR
        unfold exG
        try simp only [decide_eq_true_eq, decide_eq_false_iff_not] at hc46
        first
          | rw [if_pos ⟨by simpa using hc42, by omega⟩]
          | rw [if_neg (by rintro ⟨a, b⟩; omega)]
          | rw [if_neg (by rintro ⟨a, b⟩; rw [a] at hc42; simp at hc42)]
      · try simp only [decide_eq_true_eq, decide_eq_false_iff_not] at *
        simp only [allP, List.take_length, toNat0, toNat1, List.drop_succ_cons, List.drop_zero, List.getD_cons_zero, beq_eq_false_iff_ne, ne_eq]
        simp only [List.length_cons, i64_min, i64_max, and_true, true_and, decide_eq_true_eq, decide_eq_false_iff_not]
        repeat' apply And.intro
        all_goals first | omega | exact hc42

theorem re5a_1 (d : UInt8) (q : List UInt8) : outcome Try.prog 21 (aBody Try.prog clE ⟨true, bs [(24, false), (28, false), (42, true)] ++ ([(18, ⟨.c (str (d :: q)), none⟩), (39, ⟨.c (.int .i64 (wV (d :: q) : Nat)), none⟩), (40, ⟨.c (.bool (wOK (d :: q))), none⟩)])⟩ (lpBy ([])) 60 21 ([.c (str (101 :: d :: q))]) ([])) = some ((AV.tu [(AV.c ((Value.int .i64 0))),
 (AV.c ((Value.bool false)))]), [(((0 : Int) : Int) ≤ ((0 : Int))),
 (((0 : Int) : Int) < ((↑((101 : UInt8) :: d :: q).length : Int))),
 (((0 : Int) : Int) ≤ ((1 : Int))),
 (((1 : Int) : Int) ≤ ((↑((101 : UInt8) :: d :: q).length : Int))),
 (((↑((101 : UInt8) :: d :: q).length : Int) : Int) ≤ ((↑((101 : UInt8) :: d :: q).length : Int))),
 ((List.drop (Int.toNat (1 : Int)) (List.take ((101 : UInt8) :: d :: q).length ((101 : UInt8) :: d :: q)) : List UInt8)) = (d :: q),
 (((0 : Int) : Int) ≤ ((0 : Int))),
 (((0 : Int) : Int) < ((↑(d :: q).length : Int))),
 (((↑((d :: q).getD (Int.toNat (0 : Int)) (0 : UInt8)).toNat : Int) == (43 : Int) : Bool)) = (false),
 (((0 : Int) : Int) ≤ ((0 : Int))),
 (((0 : Int) : Int) < ((↑(d :: q).length : Int))),
 (((↑((d :: q).getD (Int.toNat (0 : Int)) (0 : UInt8)).toNat : Int) == (45 : Int) : Bool)) = (false),
 (((d :: q).length : Nat) ≤ ((1000000000 : Nat))),
 (((↑(wV (d :: q)) : Int) : Int)) = ((↑(wV (d :: q)) : Int)),
 ((wOK (d :: q) : Bool)) = (wOK (d :: q)),
 ((!wOK (d :: q) : Bool)) = (true)]) := by kernel_rfl

theorem re5a_2 (d : UInt8) (q : List UInt8) : outcome Try.prog 21 (aBody Try.prog clE ⟨true, bs [(24, false), (28, false), (42, false), (46, true)] ++ ([(18, ⟨.c (str (d :: q)), none⟩), (39, ⟨.c (.int .i64 (wV (d :: q) : Nat)), none⟩), (40, ⟨.c (.bool (wOK (d :: q))), none⟩)])⟩ (lpBy ([])) 60 21 ([.c (str (101 :: d :: q))]) ([])) = some ((AV.tu [(AV.c ((Value.int .i64 0))),
 (AV.c ((Value.bool false)))]), [(((0 : Int) : Int) ≤ ((0 : Int))),
 (((0 : Int) : Int) < ((↑((101 : UInt8) :: d :: q).length : Int))),
 (((0 : Int) : Int) ≤ ((1 : Int))),
 (((1 : Int) : Int) ≤ ((↑((101 : UInt8) :: d :: q).length : Int))),
 (((↑((101 : UInt8) :: d :: q).length : Int) : Int) ≤ ((↑((101 : UInt8) :: d :: q).length : Int))),
 ((List.drop (Int.toNat (1 : Int)) (List.take ((101 : UInt8) :: d :: q).length ((101 : UInt8) :: d :: q)) : List UInt8)) = (d :: q),
 (((0 : Int) : Int) ≤ ((0 : Int))),
 (((0 : Int) : Int) < ((↑(d :: q).length : Int))),
 (((↑((d :: q).getD (Int.toNat (0 : Int)) (0 : UInt8)).toNat : Int) == (43 : Int) : Bool)) = (false),
 (((0 : Int) : Int) ≤ ((0 : Int))),
 (((0 : Int) : Int) < ((↑(d :: q).length : Int))),
 (((↑((d :: q).getD (Int.toNat (0 : Int)) (0 : UInt8)).toNat : Int) == (45 : Int) : Bool)) = (false),
 (((d :: q).length : Nat) ≤ ((1000000000 : Nat))),
 (((↑(wV (d :: q)) : Int) : Int)) = ((↑(wV (d :: q)) : Int)),
 ((wOK (d :: q) : Bool)) = (wOK (d :: q)),
 ((!wOK (d :: q) : Bool)) = (false),
 ((decide ((↑(d :: q).length : Int) > (4 : Int)) : Bool)) = (true)]) := by kernel_rfl

theorem re5a_3 (d : UInt8) (q : List UInt8) : outcome Try.prog 21 (aBody Try.prog clE ⟨true, bs [(24, false), (28, false), (42, false), (46, false)] ++ ([(18, ⟨.c (str (d :: q)), none⟩), (39, ⟨.c (.int .i64 (wV (d :: q) : Nat)), none⟩), (40, ⟨.c (.bool (wOK (d :: q))), none⟩)])⟩ (lpBy ([])) 60 21 ([.c (str (101 :: d :: q))]) ([])) = some ((AV.tu [(AV.c ((Value.int .i64 ((1 : Int) * (↑(wV (d :: q)) : Int))))),
 (AV.c ((Value.bool true)))]), [(((0 : Int) : Int) ≤ ((0 : Int))),
 (((0 : Int) : Int) < ((↑((101 : UInt8) :: d :: q).length : Int))),
 (((0 : Int) : Int) ≤ ((1 : Int))),
 (((1 : Int) : Int) ≤ ((↑((101 : UInt8) :: d :: q).length : Int))),
 (((↑((101 : UInt8) :: d :: q).length : Int) : Int) ≤ ((↑((101 : UInt8) :: d :: q).length : Int))),
 ((List.drop (Int.toNat (1 : Int)) (List.take ((101 : UInt8) :: d :: q).length ((101 : UInt8) :: d :: q)) : List UInt8)) = (d :: q),
 (((0 : Int) : Int) ≤ ((0 : Int))),
 (((0 : Int) : Int) < ((↑(d :: q).length : Int))),
 (((↑((d :: q).getD (Int.toNat (0 : Int)) (0 : UInt8)).toNat : Int) == (43 : Int) : Bool)) = (false),
 (((0 : Int) : Int) ≤ ((0 : Int))),
 (((0 : Int) : Int) < ((↑(d :: q).length : Int))),
 (((↑((d :: q).getD (Int.toNat (0 : Int)) (0 : UInt8)).toNat : Int) == (45 : Int) : Bool)) = (false),
 (((d :: q).length : Nat) ≤ ((1000000000 : Nat))),
 (((↑(wV (d :: q)) : Int) : Int)) = ((↑(wV (d :: q)) : Int)),
 ((wOK (d :: q) : Bool)) = (wOK (d :: q)),
 ((!wOK (d :: q) : Bool)) = (false),
 ((decide ((↑(d :: q).length : Int) > (4 : Int)) : Bool)) = (false),
 ((IntKind.i64.min : Int) ≤ ((1 : Int) * (↑(wV (d :: q)) : Int))),
 (((1 : Int) * (↑(wV (d :: q)) : Int) : Int) ≤ (IntKind.i64.max))]) := by kernel_rfl

theorem re5a_all (d : UInt8) (q : List UInt8) (h1 : ¬ (d.toNat : Int) = 43) (h2 : ¬ (d.toNat : Int) = 45) (hl : q.length ≤ 999999989) (hv : wV (d :: q) ≤ 9223372036854775807) : ∃ (h : Hints) (p : List Prop), outcome Try.prog 21 (aBody Try.prog clE h (lpBy ([])) 60 21 ([.c (str (101 :: d :: q))]) ([])) = some (exG 1 (d :: q), p) ∧ allP p := by
  cases hc42 : (!wOK (d :: q) : Bool) with
  | true =>
    have eR := re5a_1 d q
    refine ⟨_, _, eR.trans (congrArg (fun r => some (r, _)) ?_), ?_⟩
    · try clear eR
      unfold exG
      try simp only [decide_eq_true_eq, decide_eq_false_iff_not] at hc46
      first
        | rw [if_pos ⟨by simpa using hc42, by omega⟩]
        | rw [if_neg (by rintro ⟨a, b⟩; omega)]
        | rw [if_neg (by rintro ⟨a, b⟩; rw [a] at hc42; simp at hc42)]
    · try simp only [decide_eq_true_eq, decide_eq_false_iff_not] at *
      simp only [allP, List.take_length, toNat0, toNat1, List.drop_succ_cons, List.drop_zero, List.getD_cons_zero, beq_eq_false_iff_ne, ne_eq]
      simp only [List.length_cons, i64_min, i64_max, and_true, true_and, decide_eq_true_eq, decide_eq_false_iff_not]
      repeat' apply And.intro
      all_goals first | omega | exact hc42
  | false =>
    cases hc46 : (decide ((↑(d :: q).length : Int) > (4 : Int)) : Bool) with
    | true =>
      have eR := re5a_2 d q
      refine ⟨_, _, eR.trans (congrArg (fun r => some (r, _)) ?_), ?_⟩
      · try clear eR
        unfold exG
        try simp only [decide_eq_true_eq, decide_eq_false_iff_not] at hc46
        first
          | rw [if_pos ⟨by simpa using hc42, by omega⟩]
          | rw [if_neg (by rintro ⟨a, b⟩; omega)]
          | rw [if_neg (by rintro ⟨a, b⟩; rw [a] at hc42; simp at hc42)]
      · try simp only [decide_eq_true_eq, decide_eq_false_iff_not] at *
        simp only [allP, List.take_length, toNat0, toNat1, List.drop_succ_cons, List.drop_zero, List.getD_cons_zero, beq_eq_false_iff_ne, ne_eq]
        simp only [List.length_cons, i64_min, i64_max, and_true, true_and, decide_eq_true_eq, decide_eq_false_iff_not]
        repeat' apply And.intro
        all_goals first | omega | exact hc42
    | false =>
      have eR := re5a_3 d q
      refine ⟨_, _, eR.trans (congrArg (fun r => some (r, _)) ?_), ?_⟩
      · try clear eR
        unfold exG
        try simp only [decide_eq_true_eq, decide_eq_false_iff_not] at hc46
        first
          | rw [if_pos ⟨by simpa using hc42, by omega⟩]
          | rw [if_neg (by rintro ⟨a, b⟩; omega)]
          | rw [if_neg (by rintro ⟨a, b⟩; rw [a] at hc42; simp at hc42)]
      · try simp only [decide_eq_true_eq, decide_eq_false_iff_not] at *
        simp only [allP, List.take_length, toNat0, toNat1, List.drop_succ_cons, List.drop_zero, List.getD_cons_zero, beq_eq_false_iff_ne, ne_eq]
        simp only [List.length_cons, i64_min, i64_max, and_true, true_and, decide_eq_true_eq, decide_eq_false_iff_not]
        repeat' apply And.intro
        all_goals first | omega | exact hc42


theorem re2b_1  : outcome Try.prog 21 (aBody Try.prog clE ⟨true, bs [] ++ ([])⟩ (lpBy ([])) 60 21 ([.c (str [69])]) ([])) = some ((AV.tu [(AV.c ((Value.int .i64 0))),
 (AV.c ((Value.bool false)))]), [(((0 : Int) : Int) ≤ ((0 : Int))),
 (((0 : Int) : Int) < ((↑(1 : Nat) : Int))),
 (((0 : Int) : Int) ≤ ((0 : Int))),
 (((0 : Int) : Int) < ((↑(1 : Nat) : Int))),
 (((0 : Int) : Int) ≤ ((1 : Int))),
 (((1 : Int) : Int) ≤ ((↑(1 : Nat) : Int))),
 (((↑(1 : Nat) : Int) : Int) ≤ ((↑(1 : Nat) : Int))),
 (((0 : Nat) : Nat) ≤ ((1000000000 : Nat)))]) := by kernel_rfl

theorem re2b_all   : ∃ (h : Hints) (p : List Prop), outcome Try.prog 21 (aBody Try.prog clE h (lpBy ([])) 60 21 ([.c (str [69])]) ([])) = some (.tu [.c (.int .i64 0), .c (.bool false)], p) ∧ allP p := by
  have eR := re2b_1 
  refine ⟨_, _, eR.trans (congrArg (fun r => some (r, _)) ?_), ?_⟩
  · rfl
  · simp only [allP, List.getD_cons_zero, toNat0, bne_iff_ne, ne_eq, List.length_cons, and_true, true_and]
    repeat' apply And.intro
    all_goals first | exact True.intro | omega

theorem re3b_1 (q : List UInt8) : outcome Try.prog 21 (aBody Try.prog clE ⟨true, bs [(42, true)] ++ ([(18, ⟨.c (str (43 :: q)), none⟩), (35, ⟨.c (str q), none⟩), (39, ⟨.c (.int .i64 (wV q : Nat)), none⟩), (40, ⟨.c (.bool (wOK q)), none⟩)])⟩ (lpBy ([])) 60 21 ([.c (str (69 :: 43 :: q))]) ([])) = some ((AV.tu [(AV.c ((Value.int .i64 0))),
 (AV.c ((Value.bool false)))]), [(((0 : Int) : Int) ≤ ((0 : Int))),
 (((0 : Int) : Int) < ((↑((69 : UInt8) :: (43 : UInt8) :: q).length : Int))),
 (((0 : Int) : Int) ≤ ((0 : Int))),
 (((0 : Int) : Int) < ((↑((69 : UInt8) :: (43 : UInt8) :: q).length : Int))),
 (((0 : Int) : Int) ≤ ((1 : Int))),
 (((1 : Int) : Int) ≤ ((↑((69 : UInt8) :: (43 : UInt8) :: q).length : Int))),
 (((↑((69 : UInt8) :: (43 : UInt8) :: q).length : Int) : Int) ≤ ((↑((69 : UInt8) :: (43 : UInt8) :: q).length : Int))),
 ((List.drop (Int.toNat (1 : Int))
  (List.take ((69 : UInt8) :: (43 : UInt8) :: q).length ((69 : UInt8) :: (43 : UInt8) :: q)) : List UInt8)) = ((43 : UInt8) :: q),
 (((0 : Int) : Int) ≤ ((0 : Int))),
 (((0 : Int) : Int) < ((↑((43 : UInt8) :: q).length : Int))),
 (((0 : Int) : Int) ≤ ((0 : Int))),
 (((0 : Int) : Int) < ((↑((43 : UInt8) :: q).length : Int))),
 (((0 : Int) : Int) ≤ ((1 : Int))),
 (((1 : Int) : Int) ≤ ((↑((43 : UInt8) :: q).length : Int))),
 (((↑((43 : UInt8) :: q).length : Int) : Int) ≤ ((↑((43 : UInt8) :: q).length : Int))),
 ((List.drop (Int.toNat (1 : Int)) (List.take ((43 : UInt8) :: q).length ((43 : UInt8) :: q)) : List UInt8)) = (q),
 ((q.length : Nat) ≤ ((1000000000 : Nat))),
 (((↑(wV q) : Int) : Int)) = ((↑(wV q) : Int)),
 ((wOK q : Bool)) = (wOK q),
 ((!wOK q : Bool)) = (true)]) := by kernel_rfl

theorem re3b_2 (q : List UInt8) : outcome Try.prog 21 (aBody Try.prog clE ⟨true, bs [(42, false), (46, true)] ++ ([(18, ⟨.c (str (43 :: q)), none⟩), (35, ⟨.c (str q), none⟩), (39, ⟨.c (.int .i64 (wV q : Nat)), none⟩), (40, ⟨.c (.bool (wOK q)), none⟩)])⟩ (lpBy ([])) 60 21 ([.c (str (69 :: 43 :: q))]) ([])) = some ((AV.tu [(AV.c ((Value.int .i64 0))),
 (AV.c ((Value.bool false)))]), [(((0 : Int) : Int) ≤ ((0 : Int))),
 (((0 : Int) : Int) < ((↑((69 : UInt8) :: (43 : UInt8) :: q).length : Int))),
 (((0 : Int) : Int) ≤ ((0 : Int))),
 (((0 : Int) : Int) < ((↑((69 : UInt8) :: (43 : UInt8) :: q).length : Int))),
 (((0 : Int) : Int) ≤ ((1 : Int))),
 (((1 : Int) : Int) ≤ ((↑((69 : UInt8) :: (43 : UInt8) :: q).length : Int))),
 (((↑((69 : UInt8) :: (43 : UInt8) :: q).length : Int) : Int) ≤ ((↑((69 : UInt8) :: (43 : UInt8) :: q).length : Int))),
 ((List.drop (Int.toNat (1 : Int))
  (List.take ((69 : UInt8) :: (43 : UInt8) :: q).length ((69 : UInt8) :: (43 : UInt8) :: q)) : List UInt8)) = ((43 : UInt8) :: q),
 (((0 : Int) : Int) ≤ ((0 : Int))),
 (((0 : Int) : Int) < ((↑((43 : UInt8) :: q).length : Int))),
 (((0 : Int) : Int) ≤ ((0 : Int))),
 (((0 : Int) : Int) < ((↑((43 : UInt8) :: q).length : Int))),
 (((0 : Int) : Int) ≤ ((1 : Int))),
 (((1 : Int) : Int) ≤ ((↑((43 : UInt8) :: q).length : Int))),
 (((↑((43 : UInt8) :: q).length : Int) : Int) ≤ ((↑((43 : UInt8) :: q).length : Int))),
 ((List.drop (Int.toNat (1 : Int)) (List.take ((43 : UInt8) :: q).length ((43 : UInt8) :: q)) : List UInt8)) = (q),
 ((q.length : Nat) ≤ ((1000000000 : Nat))),
 (((↑(wV q) : Int) : Int)) = ((↑(wV q) : Int)),
 ((wOK q : Bool)) = (wOK q),
 ((!wOK q : Bool)) = (false),
 ((decide ((↑q.length : Int) > (4 : Int)) : Bool)) = (true)]) := by kernel_rfl

theorem re3b_3 (q : List UInt8) : outcome Try.prog 21 (aBody Try.prog clE ⟨true, bs [(42, false), (46, false)] ++ ([(18, ⟨.c (str (43 :: q)), none⟩), (35, ⟨.c (str q), none⟩), (39, ⟨.c (.int .i64 (wV q : Nat)), none⟩), (40, ⟨.c (.bool (wOK q)), none⟩)])⟩ (lpBy ([])) 60 21 ([.c (str (69 :: 43 :: q))]) ([])) = some ((AV.tu [(AV.c ((Value.int .i64 ((1 : Int) * (↑(wV q) : Int))))),
 (AV.c ((Value.bool true)))]), [(((0 : Int) : Int) ≤ ((0 : Int))),
 (((0 : Int) : Int) < ((↑((69 : UInt8) :: (43 : UInt8) :: q).length : Int))),
 (((0 : Int) : Int) ≤ ((0 : Int))),
 (((0 : Int) : Int) < ((↑((69 : UInt8) :: (43 : UInt8) :: q).length : Int))),
 (((0 : Int) : Int) ≤ ((1 : Int))),
 (((1 : Int) : Int) ≤ ((↑((69 : UInt8) :: (43 : UInt8) :: q).length : Int))),
 (((↑((69 : UInt8) :: (43 : UInt8) :: q).length : Int) : Int) ≤ ((↑((69 : UInt8) :: (43 : UInt8) :: q).length : Int))),
 ((List.drop (Int.toNat (1 : Int))
  (List.take ((69 : UInt8) :: (43 : UInt8) :: q).length ((69 : UInt8) :: (43 : UInt8) :: q)) : List UInt8)) = ((43 : UInt8) :: q),
 (((0 : Int) : Int) ≤ ((0 : Int))),
 (((0 : Int) : Int) < ((↑((43 : UInt8) :: q).length : Int))),
 (((0 : Int) : Int) ≤ ((0 : Int))),
 (((0 : Int) : Int) < ((↑((43 : UInt8) :: q).length : Int))),
 (((0 : Int) : Int) ≤ ((1 : Int))),
 (((1 : Int) : Int) ≤ ((↑((43 : UInt8) :: q).length : Int))),
 (((↑((43 : UInt8) :: q).length : Int) : Int) ≤ ((↑((43 : UInt8) :: q).length : Int))),
 ((List.drop (Int.toNat (1 : Int)) (List.take ((43 : UInt8) :: q).length ((43 : UInt8) :: q)) : List UInt8)) = (q),
 ((q.length : Nat) ≤ ((1000000000 : Nat))),
 (((↑(wV q) : Int) : Int)) = ((↑(wV q) : Int)),
 ((wOK q : Bool)) = (wOK q),
 ((!wOK q : Bool)) = (false),
 ((decide ((↑q.length : Int) > (4 : Int)) : Bool)) = (false),
 ((IntKind.i64.min : Int) ≤ ((1 : Int) * (↑(wV q) : Int))),
 (((1 : Int) * (↑(wV q) : Int) : Int) ≤ (IntKind.i64.max))]) := by kernel_rfl

theorem re3b_all (q : List UInt8) (hl : q.length ≤ 999999990) (hv : wV q ≤ 9223372036854775807) : ∃ (h : Hints) (p : List Prop), outcome Try.prog 21 (aBody Try.prog clE h (lpBy ([])) 60 21 ([.c (str (69 :: 43 :: q))]) ([])) = some (exG 1 q, p) ∧ allP p := by
  cases hc42 : (!wOK q : Bool) with
  | true =>
    have eR := re3b_1 q
    refine ⟨_, _, eR.trans (congrArg (fun r => some (r, _)) ?_), ?_⟩
    · try clear eR
      unfold exG
      try simp only [decide_eq_true_eq, decide_eq_false_iff_not] at hc46
      first
        | rw [if_pos ⟨by simpa using hc42, by omega⟩]
        | rw [if_neg (by rintro ⟨a, b⟩; omega)]
        | rw [if_neg (by rintro ⟨a, b⟩; rw [a] at hc42; simp at hc42)]
    · try simp only [decide_eq_true_eq, decide_eq_false_iff_not] at *
      simp only [allP, List.take_length, toNat0, toNat1, List.drop_succ_cons, List.drop_zero, List.getD_cons_zero, beq_eq_false_iff_ne, ne_eq]
      simp only [List.length_cons, i64_min, i64_max, and_true, true_and, decide_eq_true_eq, decide_eq_false_iff_not]
      repeat' apply And.intro
      all_goals first | omega | exact hc42
  | false =>
    cases hc46 : (decide ((↑q.length : Int) > (4 : Int)) : Bool) with
    | true =>
      have eR := re3b_2 q
      refine ⟨_, _, eR.trans (congrArg (fun r => some (r, _)) ?_), ?_⟩
      · try clear eR
        unfold exG
        try simp only [decide_eq_true_eq, decide_eq_false_iff_not] at hc46
        first
          | rw [if_pos ⟨by simpa using hc42, by omega⟩]
          | rw [if_neg (by rintro ⟨a, b⟩; omega)]
          | rw [if_neg (by rintro ⟨a, b⟩; rw [a] at hc42; simp at hc42)]
      · try simp only [decide_eq_true_eq, decide_eq_false_iff_not] at *
        simp only [allP, List.take_length, toNat0, toNat1, List.drop_succ_cons, List.drop_zero, List.getD_cons_zero, beq_eq_false_iff_ne, ne_eq]
        simp only [List.length_cons, i64_min, i64_max, and_true, true_and, decide_eq_true_eq, decide_eq_false_iff_not]
        repeat' apply And.intro
        all_goals first | omega | exact hc42
    | false =>
      have eR := re3b_3 q
      refine ⟨_, _, eR.trans (congrArg (fun r => some (r, _)) ?_), ?_⟩
      · try clear eR
        unfold exG
        try simp only [decide_eq_true_eq, decide_eq_false_iff_not] at hc46
        first
          | rw [if_pos ⟨by simpa using hc42, by omega⟩]
          | rw [if_neg (by rintro ⟨a, b⟩; omega)]
          | rw [if_neg (by rintro ⟨a, b⟩; rw [a] at hc42; simp at hc42)]
      · try simp only [decide_eq_true_eq, decide_eq_false_iff_not] at *
        simp only [allP, List.take_length, toNat0, toNat1, List.drop_succ_cons, List.drop_zero, List.getD_cons_zero, beq_eq_false_iff_ne, ne_eq]
        simp only [List.length_cons, i64_min, i64_max, and_true, true_and, decide_eq_true_eq, decide_eq_false_iff_not]
        repeat' apply And.intro
        all_goals first | omega | exact hc42

theorem re4b_1 (q : List UInt8) : outcome Try.prog 21 (aBody Try.prog clE ⟨true, bs [(42, true)] ++ ([(18, ⟨.c (str (45 :: q)), none⟩), (35, ⟨.c (str q), none⟩), (39, ⟨.c (.int .i64 (wV q : Nat)), none⟩), (40, ⟨.c (.bool (wOK q)), none⟩)])⟩ (lpBy ([])) 60 21 ([.c (str (69 :: 45 :: q))]) ([])) = some ((AV.tu [(AV.c ((Value.int .i64 0))),
 (AV.c ((Value.bool false)))]), [(((0 : Int) : Int) ≤ ((0 : Int))),
 (((0 : Int) : Int) < ((↑((69 : UInt8) :: (45 : UInt8) :: q).length : Int))),
 (((0 : Int) : Int) ≤ ((0 : Int))),
 (((0 : Int) : Int) < ((↑((69 : UInt8) :: (45 : UInt8) :: q).length : Int))),
 (((0 : Int) : Int) ≤ ((1 : Int))),
 (((1 : Int) : Int) ≤ ((↑((69 : UInt8) :: (45 : UInt8) :: q).length : Int))),
 (((↑((69 : UInt8) :: (45 : UInt8) :: q).length : Int) : Int) ≤ ((↑((69 : UInt8) :: (45 : UInt8) :: q).length : Int))),
 ((List.drop (Int.toNat (1 : Int))
  (List.take ((69 : UInt8) :: (45 : UInt8) :: q).length ((69 : UInt8) :: (45 : UInt8) :: q)) : List UInt8)) = ((45 : UInt8) :: q),
 (((0 : Int) : Int) ≤ ((0 : Int))),
 (((0 : Int) : Int) < ((↑((45 : UInt8) :: q).length : Int))),
 (((0 : Int) : Int) ≤ ((0 : Int))),
 (((0 : Int) : Int) < ((↑((45 : UInt8) :: q).length : Int))),
 (((0 : Int) : Int) ≤ ((0 : Int))),
 (((0 : Int) : Int) < ((↑((45 : UInt8) :: q).length : Int))),
 (((0 : Int) : Int) ≤ ((1 : Int))),
 (((1 : Int) : Int) ≤ ((↑((45 : UInt8) :: q).length : Int))),
 (((↑((45 : UInt8) :: q).length : Int) : Int) ≤ ((↑((45 : UInt8) :: q).length : Int))),
 ((List.drop (Int.toNat (1 : Int)) (List.take ((45 : UInt8) :: q).length ((45 : UInt8) :: q)) : List UInt8)) = (q),
 ((q.length : Nat) ≤ ((1000000000 : Nat))),
 (((↑(wV q) : Int) : Int)) = ((↑(wV q) : Int)),
 ((wOK q : Bool)) = (wOK q),
 ((!wOK q : Bool)) = (true)]) := by kernel_rfl

theorem re4b_2 (q : List UInt8) : outcome Try.prog 21 (aBody Try.prog clE ⟨true, bs [(42, false), (46, true)] ++ ([(18, ⟨.c (str (45 :: q)), none⟩), (35, ⟨.c (str q), none⟩), (39, ⟨.c (.int .i64 (wV q : Nat)), none⟩), (40, ⟨.c (.bool (wOK q)), none⟩)])⟩ (lpBy ([])) 60 21 ([.c (str (69 :: 45 :: q))]) ([])) = some ((AV.tu [(AV.c ((Value.int .i64 0))),
 (AV.c ((Value.bool false)))]), [(((0 : Int) : Int) ≤ ((0 : Int))),
 (((0 : Int) : Int) < ((↑((69 : UInt8) :: (45 : UInt8) :: q).length : Int))),
 (((0 : Int) : Int) ≤ ((0 : Int))),
 (((0 : Int) : Int) < ((↑((69 : UInt8) :: (45 : UInt8) :: q).length : Int))),
 (((0 : Int) : Int) ≤ ((1 : Int))),
 (((1 : Int) : Int) ≤ ((↑((69 : UInt8) :: (45 : UInt8) :: q).length : Int))),
 (((↑((69 : UInt8) :: (45 : UInt8) :: q).length : Int) : Int) ≤ ((↑((69 : UInt8) :: (45 : UInt8) :: q).length : Int))),
 ((List.drop (Int.toNat (1 : Int))
  (List.take ((69 : UInt8) :: (45 : UInt8) :: q).length ((69 : UInt8) :: (45 : UInt8) :: q)) : List UInt8)) = ((45 : UInt8) :: q),
 (((0 : Int) : Int) ≤ ((0 : Int))),
 (((0 : Int) : Int) < ((↑((45 : UInt8) :: q).length : Int))),
 (((0 : Int) : Int) ≤ ((0 : Int))),
 (((0 : Int) : Int) < ((↑((45 : UInt8) :: q).length : Int))),
 (((0 : Int) : Int) ≤ ((0 : Int))),
 (((0 : Int) : Int) < ((↑((45 : UInt8) :: q).length : Int))),
 (((0 : Int) : Int) ≤ ((1 : Int))),
 (((1 : Int) : Int) ≤ ((↑((45 : UInt8) :: q).length : Int))),
 (((↑((45 : UInt8) :: q).length : Int) : Int) ≤ ((↑((45 : UInt8) :: q).length : Int))),
 ((List.drop (Int.toNat (1 : Int)) (List.take ((45 : UInt8) :: q).length ((45 : UInt8) :: q)) : List UInt8)) = (q),
 ((q.length : Nat) ≤ ((1000000000 : Nat))),
 (((↑(wV q) : Int) : Int)) = ((↑(wV q) : Int)),
 ((wOK q : Bool)) = (wOK q),
 ((!wOK q : Bool)) = (false),
 ((decide ((↑q.length : Int) > (4 : Int)) : Bool)) = (true)]) := by kernel_rfl

theorem re4b_3 (q : List UInt8) : outcome Try.prog 21 (aBody Try.prog clE ⟨true, bs [(42, false), (46, false)] ++ ([(18, ⟨.c (str (45 :: q)), none⟩), (35, ⟨.c (str q), none⟩), (39, ⟨.c (.int .i64 (wV q : Nat)), none⟩), (40, ⟨.c (.bool (wOK q)), none⟩)])⟩ (lpBy ([])) 60 21 ([.c (str (69 :: 45 :: q))]) ([])) = some ((AV.tu [(AV.c ((Value.int .i64 ((-1 : Int) * (↑(wV q) : Int))))),
 (AV.c ((Value.bool true)))]), [(((0 : Int) : Int) ≤ ((0 : Int))),
 (((0 : Int) : Int) < ((↑((69 : UInt8) :: (45 : UInt8) :: q).length : Int))),
 (((0 : Int) : Int) ≤ ((0 : Int))),
 (((0 : Int) : Int) < ((↑((69 : UInt8) :: (45 : UInt8) :: q).length : Int))),
 (((0 : Int) : Int) ≤ ((1 : Int))),
 (((1 : Int) : Int) ≤ ((↑((69 : UInt8) :: (45 : UInt8) :: q).length : Int))),
 (((↑((69 : UInt8) :: (45 : UInt8) :: q).length : Int) : Int) ≤ ((↑((69 : UInt8) :: (45 : UInt8) :: q).length : Int))),
 ((List.drop (Int.toNat (1 : Int))
  (List.take ((69 : UInt8) :: (45 : UInt8) :: q).length ((69 : UInt8) :: (45 : UInt8) :: q)) : List UInt8)) = ((45 : UInt8) :: q),
 (((0 : Int) : Int) ≤ ((0 : Int))),
 (((0 : Int) : Int) < ((↑((45 : UInt8) :: q).length : Int))),
 (((0 : Int) : Int) ≤ ((0 : Int))),
 (((0 : Int) : Int) < ((↑((45 : UInt8) :: q).length : Int))),
 (((0 : Int) : Int) ≤ ((0 : Int))),
 (((0 : Int) : Int) < ((↑((45 : UInt8) :: q).length : Int))),
 (((0 : Int) : Int) ≤ ((1 : Int))),
 (((1 : Int) : Int) ≤ ((↑((45 : UInt8) :: q).length : Int))),
 (((↑((45 : UInt8) :: q).length : Int) : Int) ≤ ((↑((45 : UInt8) :: q).length : Int))),
 ((List.drop (Int.toNat (1 : Int)) (List.take ((45 : UInt8) :: q).length ((45 : UInt8) :: q)) : List UInt8)) = (q),
 ((q.length : Nat) ≤ ((1000000000 : Nat))),
 (((↑(wV q) : Int) : Int)) = ((↑(wV q) : Int)),
 ((wOK q : Bool)) = (wOK q),
 ((!wOK q : Bool)) = (false),
 ((decide ((↑q.length : Int) > (4 : Int)) : Bool)) = (false),
 ((IntKind.i64.min : Int) ≤ ((-1 : Int) * (↑(wV q) : Int))),
 (((-1 : Int) * (↑(wV q) : Int) : Int) ≤ (IntKind.i64.max))]) := by kernel_rfl

theorem re4b_all (q : List UInt8) (hl : q.length ≤ 999999990) (hv : wV q ≤ 9223372036854775807) : ∃ (h : Hints) (p : List Prop), outcome Try.prog 21 (aBody Try.prog clE h (lpBy ([])) 60 21 ([.c (str (69 :: 45 :: q))]) ([])) = some (exG (-1) q, p) ∧ allP p := by
  cases hc42 : (!wOK q : Bool) with
  | true =>
    have eR := re4b_1 q
    refine ⟨_, _, eR.trans (congrArg (fun r => some (r, _)) ?_), ?_⟩
    · try clear eR
      unfold exG
      try simp only [decide_eq_true_eq, decide_eq_false_iff_not] at hc46
      first
        | rw [if_pos ⟨by simpa using hc42, by omega⟩]
        | rw [if_neg (by rintro ⟨a, b⟩; omega)]
        | rw [if_neg (by rintro ⟨a, b⟩; rw [a] at hc42; simp at hc42)]
    · try simp only [decide_eq_true_eq, decide_eq_false_iff_not] at *
      simp only [allP, List.take_length, toNat0, toNat1, List.drop_succ_cons, List.drop_zero, List.getD_cons_zero, beq_eq_false_iff_ne, ne_eq]
      simp only [List.length_cons, i64_min, i64_max, and_true, true_and, decide_eq_true_eq, decide_eq_false_iff_not]
      repeat' apply And.intro
      all_goals first | omega | exact hc42
  | false =>
    cases hc46 : (decide ((↑q.length : Int) > (4 : Int)) : Bool) with
    | true =>
      have eR := re4b_2 q
      refine ⟨_, _, eR.trans (congrArg (fun r => some (r, _)) ?_), ?_⟩
      · try clear eR
        unfold exG
        try simp only [decide_eq_true_eq, decide_eq_false_iff_not] at hc46
        first
          | rw [if_pos ⟨by simpa using hc42, by omega⟩]
          | rw [if_neg (by rintro ⟨a, b⟩; omega)]
          | rw [if_neg (by rintro ⟨a, b⟩; rw [a] at hc42; simp at hc42)]
      · try simp only [decide_eq_true_eq, decide_eq_false_iff_not] at *
        simp only [allP, List.take_length, toNat0, toNat1, List.drop_succ_cons, List.drop_zero, List.getD_cons_zero, beq_eq_false_iff_ne, ne_eq]
        simp only [List.length_cons, i64_min, i64_max, and_true, true_and, decide_eq_true_eq, decide_eq_false_iff_not]
        repeat' apply And.intro
        all_goals first | omega | exact hc42
    | false =>
      have eR := re4b_3 q
      refine ⟨_, _, eR.trans (congrArg (fun r => some (r, _)) ?_), ?_⟩
      · try clear eR
        unfold exG
        try simp only [decide_eq_true_eq, decide_eq_false_iff_not] at hc46
        first
          | rw [if_pos ⟨by simpa using hc42, by omega⟩]
          | rw [if_neg (by rintro ⟨a, b⟩; omega)]
          | rw [if_neg (by rintro ⟨a, b⟩; rw [a] at hc42; simp at hc42)]
      · try simp only [decide_eq_true_eq, decide_eq_false_iff_not] at *
        simp only [allP, List.take_length, toNat0, toNat1, List.drop_succ_cons, List.drop_zero, List.getD_cons_zero, beq_eq_false_iff_ne, ne_eq]
        simp only [List.length_cons, i64_min, i64_max, and_true, true_and, decide_eq_true_eq, decide_eq_false_iff_not]
        repeat' apply And.intro
        all_goals first | omega | exact hc42

theorem re5b_1 (d : UInt8) (q : List UInt8) : outcome Try.prog 21 (aBody Try.prog clE ⟨true, bs [(24, false), (28, false), (42, true)] ++ ([(18, ⟨.c (str (d :: q)), none⟩), (39, ⟨.c (.int .i64 (wV (d :: q) : Nat)), none⟩), (40, ⟨.c (.bool (wOK (d :: q))), none⟩)])⟩ (lpBy ([])) 60 21 ([.c (str (69 :: d :: q))]) ([])) = some ((AV.tu [(AV.c ((Value.int .i64 0))),
 (AV.c ((Value.bool false)))]), [(((0 : Int) : Int) ≤ ((0 : Int))),
 (((0 : Int) : Int) < ((↑((69 : UInt8) :: d :: q).length : Int))),
 (((0 : Int) : Int) ≤ ((0 : Int))),
 (((0 : Int) : Int) < ((↑((69 : UInt8) :: d :: q).length : Int))),
 (((0 : Int) : Int) ≤ ((1 : Int))),
 (((1 : Int) : Int) ≤ ((↑((69 : UInt8) :: d :: q).length : Int))),
 (((↑((69 : UInt8) :: d :: q).length : Int) : Int) ≤ ((↑((69 : UInt8) :: d :: q).length : Int))),
 ((List.drop (Int.toNat (1 : Int)) (List.take ((69 : UInt8) :: d :: q).length ((69 : UInt8) :: d :: q)) : List UInt8)) = (d :: q),
 (((0 : Int) : Int) ≤ ((0 : Int))),
 (((0 : Int) : Int) < ((↑(d :: q).length : Int))),
 (((↑((d :: q).getD (Int.toNat (0 : Int)) (0 : UInt8)).toNat : Int) == (43 : Int) : Bool)) = (false),
 (((0 : Int) : Int) ≤ ((0 : Int))),
 (((0 : Int) : Int) < ((↑(d :: q).length : Int))),
 (((↑((d :: q).getD (Int.toNat (0 : Int)) (0 : UInt8)).toNat : Int) == (45 : Int) : Bool)) = (false),
 (((d :: q).length : Nat) ≤ ((1000000000 : Nat))),
 (((↑(wV (d :: q)) : Int) : Int)) = ((↑(wV (d :: q)) : Int)),
 ((wOK (d :: q) : Bool)) = (wOK (d :: q)),
 ((!wOK (d :: q) : Bool)) = (true)]) := by kernel_rfl

theorem re5b_2 (d : UInt8) (q : List UInt8) : outcome Try.prog 21 (aBody Try.prog clE ⟨true, bs [(24, false), (28, false), (42, false), (46, true)] ++ ([(18, ⟨.c (str (d :: q)), none⟩), (39, ⟨.c (.int .i64 (wV (d :: q) : Nat)), none⟩), (40, ⟨.c (.bool (wOK (d :: q))), none⟩)])⟩ (lpBy ([])) 60 21 ([.c (str (69 :: d :: q))]) ([])) = some ((AV.tu [(AV.c ((Value.int .i64 0))),
 (AV.c ((Value.bool false)))]), [(((0 : Int) : Int) ≤ ((0 : Int))),
 (((0 : Int) : Int) < ((↑((69 : UInt8) :: d :: q).length : Int))),
 (((0 : Int) : Int) ≤ ((0 : Int))),
 (((0 : Int) : Int) < ((↑((69 : UInt8) :: d :: q).length : Int))),
 (((0 : Int) : Int) ≤ ((1 : Int))),
 (((1 : Int) : Int) ≤ ((↑((69 : UInt8) :: d :: q).length : Int))),
 (((↑((69 : UInt8) :: d :: q).length : Int) : Int) ≤ ((↑((69 : UInt8) :: d :: q).length : Int))),
 ((List.drop (Int.toNat (1 : Int)) (List.take ((69 : UInt8) :: d :: q).length ((69 : UInt8) :: d :: q)) : List UInt8)) = (d :: q),
 (((0 : Int) : Int) ≤ ((0 : Int))),
 (((0 : Int) : Int) < ((↑(d :: q).length : Int))),
 (((↑((d :: q).getD (Int.toNat (0 : Int)) (0 : UInt8)).toNat : Int) == (43 : Int) : Bool)) = (false),
 (((0 : Int) : Int) ≤ ((0 : Int))),
 (((0 : Int) : Int) < ((↑(d :: q).length : Int))),
 (((↑((d :: q).getD (Int.toNat (0 : Int)) (0 : UInt8)).toNat : Int) == (45 : Int) : Bool)) = (false),
 (((d :: q).length : Nat) ≤ ((1000000000 : Nat))),
 (((↑(wV (d :: q)) : Int) : Int)) = ((↑(wV (d :: q)) : Int)),
 ((wOK (d :: q) : Bool)) = (wOK (d :: q)),
 ((!wOK (d :: q) : Bool)) = (false),
 ((decide ((↑(d :: q).length : Int) > (4 : Int)) : Bool)) = (true)]) := by kernel_rfl

theorem re5b_3 (d : UInt8) (q : List UInt8) : outcome Try.prog 21 (aBody Try.prog clE ⟨true, bs [(24, false), (28, false), (42, false), (46, false)] ++ ([(18, ⟨.c (str (d :: q)), none⟩), (39, ⟨.c (.int .i64 (wV (d :: q) : Nat)), none⟩), (40, ⟨.c (.bool (wOK (d :: q))), none⟩)])⟩ (lpBy ([])) 60 21 ([.c (str (69 :: d :: q))]) ([])) = some ((AV.tu [(AV.c ((Value.int .i64 ((1 : Int) * (↑(wV (d :: q)) : Int))))),
 (AV.c ((Value.bool true)))]), [(((0 : Int) : Int) ≤ ((0 : Int))),
 (((0 : Int) : Int) < ((↑((69 : UInt8) :: d :: q).length : Int))),
 (((0 : Int) : Int) ≤ ((0 : Int))),
 (((0 : Int) : Int) < ((↑((69 : UInt8) :: d :: q).length : Int))),
 (((0 : Int) : Int) ≤ ((1 : Int))),
 (((1 : Int) : Int) ≤ ((↑((69 : UInt8) :: d :: q).length : Int))),
 (((↑((69 : UInt8) :: d :: q).length : Int) : Int) ≤ ((↑((69 : UInt8) :: d :: q).length : Int))),
 ((List.drop (Int.toNat (1 : Int)) (List.take ((69 : UInt8) :: d :: q).length ((69 : UInt8) :: d :: q)) : List UInt8)) = (d :: q),
 (((0 : Int) : Int) ≤ ((0 : Int))),
 (((0 : Int) : Int) < ((↑(d :: q).length : Int))),
 (((↑((d :: q).getD (Int.toNat (0 : Int)) (0 : UInt8)).toNat : Int) == (43 : Int) : Bool)) = (false),
 (((0 : Int) : Int) ≤ ((0 : Int))),
 (((0 : Int) : Int) < ((↑(d :: q).length : Int))),
 (((↑((d :: q).getD (Int.toNat (0 : Int)) (0 : UInt8)).toNat : Int) == (45 : Int) : Bool)) = (false),
 (((d :: q).length : Nat) ≤ ((1000000000 : Nat))),
 (((↑(wV (d :: q)) : Int) : Int)) = ((↑(wV (d :: q)) : Int)),
 ((wOK (d :: q) : Bool)) = (wOK (d :: q)),
 ((!wOK (d :: q) : Bool)) = (false),
 ((decide ((↑(d :: q).length : Int) > (4 : Int)) : Bool)) = (false),
 ((IntKind.i64.min : Int) ≤ ((1 : Int) * (↑(wV (d :: q)) : Int))),
 (((1 : Int) * (↑(wV (d :: q)) : Int) : Int) ≤ (IntKind.i64.max))]) := by kernel_rfl

theorem re5b_all (d : UInt8) (q : List UInt8) (h1 : ¬ (d.toNat : Int) = 43) (h2 : ¬ (d.toNat : Int) = 45) (hl : q.length ≤ 999999989) (hv : wV (d :: q) ≤ 9223372036854775807) : ∃ (h : Hints) (p : List Prop), outcome Try.prog 21 (aBody Try.prog clE h (lpBy ([])) 60 21 ([.c (str (69 :: d :: q))]) ([])) = some (exG 1 (d :: q), p) ∧ allP p := by
  cases hc42 : (!wOK (d :: q) : Bool) with
  | true =>
    have eR := re5b_1 d q
    refine ⟨_, _, eR.trans (congrArg (fun r => some (r, _)) ?_), ?_⟩
    · try clear eR
      unfold exG
      try simp only [decide_eq_true_eq, decide_eq_false_iff_not] at hc46
      first
        | rw [if_pos ⟨by simpa using hc42, by omega⟩]
        | rw [if_neg (by rintro ⟨a, b⟩; omega)]
        | rw [if_neg (by rintro ⟨a, b⟩; rw [a] at hc42; simp at hc42)]
    · try simp only [decide_eq_true_eq, decide_eq_false_iff_not] at *
      simp only [allP, List.take_length, toNat0, toNat1, List.drop_succ_cons, List.drop_zero, List.getD_cons_zero, beq_eq_false_iff_ne, ne_eq]
      simp only [List.length_cons, i64_min, i64_max, and_true, true_and, decide_eq_true_eq, decide_eq_false_iff_not]
      repeat' apply And.intro
      all_goals first | omega | exact hc42
  | false =>
    cases hc46 : (decide ((↑(d :: q).length : Int) > (4 : Int)) : Bool) with
    | true =>
      have eR := re5b_2 d q
      refine ⟨_, _, eR.trans (congrArg (fun r => some (r, _)) ?_), ?_⟩
      · try clear eR
        unfold exG
        try simp only [decide_eq_true_eq, decide_eq_false_iff_not] at hc46
        first
          | rw [if_pos ⟨by simpa using hc42, by omega⟩]
          | rw [if_neg (by rintro ⟨a, b⟩; omega)]
          | rw [if_neg (by rintro ⟨a, b⟩; rw [a] at hc42; simp at hc42)]
      · try simp only [decide_eq_true_eq, decide_eq_false_iff_not] at *
        simp only [allP, List.take_length, toNat0, toNat1, List.drop_succ_cons, List.drop_zero, List.getD_cons_zero, beq_eq_false_iff_ne, ne_eq]
        simp only [List.length_cons, i64_min, i64_max, and_true, true_and, decide_eq_true_eq, decide_eq_false_iff_not]
        repeat' apply And.intro
        all_goals first | omega | exact hc42
    | false =>
      have eR := re5b_3 d q
      refine ⟨_, _, eR.trans (congrArg (fun r => some (r, _)) ?_), ?_⟩
      · try clear eR
        unfold exG
        try simp only [decide_eq_true_eq, decide_eq_false_iff_not] at hc46
        first
          | rw [if_pos ⟨by simpa using hc42, by omega⟩]
          | rw [if_neg (by rintro ⟨a, b⟩; omega)]
          | rw [if_neg (by rintro ⟨a, b⟩; rw [a] at hc42; simp at hc42)]
      · try simp only [decide_eq_true_eq, decide_eq_false_iff_not] at *
        simp only [allP, List.take_length, toNat0, toNat1, List.drop_succ_cons, List.drop_zero, List.getD_cons_zero, beq_eq_false_iff_ne, ne_eq]
        simp only [List.length_cons, i64_min, i64_max, and_true, true_and, decide_eq_true_eq, decide_eq_false_iff_not]
        repeat' apply And.intro
        all_goals first | omega | exact hc42

end Go.Proofs.Ytigglgobiofalaa
