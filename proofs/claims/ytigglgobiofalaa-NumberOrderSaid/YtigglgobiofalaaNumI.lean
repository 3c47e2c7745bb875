/- The program's own: a float's text cut into its parts, and the float. -/
import Derived.Test.YtigglgobiofalaaNumH
import Derived.Test.YtigglgobiofalaaNumW
namespace Go.Proofs.Ytigglgobiofalaa
open Go.RowKit Num
set_option linter.unusedVariables false
set_option linter.unusedSimpArgs false

def partsA (m : Bool) (a b : List UInt8) (e : Int) : AV := .ag [.c (.bool m), .c (str a), .c (str b), .c (.int .i64 e)]
def cutN : AV := .tu [partsA false [] [] 0, .c (.bool false)]
def cutR (m bad ok : Bool) (a b : List UInt8) (e : Int) : AV := if bad = false ∧ ok = true then .tu [partsA m a b e, .c (.bool true)] else cutN

noncomputable def clJ : CallT := aCall Try.prog (sgBy [(27, cutPreSpec), (24, cutDSpec), (25, pexpoSpec)]) 500 8
theorem clJ_ok : CallOK Try.prog clJ := aCall_ok mixed (sgBy_cons cutPre_ok (sgBy_cons pcutD_ok (sgBy_cons pexpo_ok sgBy_nil))) 500 8

theorem pcuD_1 (s s1 a s2 s3 b s4 : List UInt8) (m : Bool) (e : Int) (ok : Bool) : outcome Try.prog 18 (aBody Try.prog clJ ⟨true, bs [(36, true)] ++ ([(11, ⟨.c (str s1), none⟩), (12, ⟨.c (.bool m), none⟩), (17, ⟨.c (str a), none⟩), (18, ⟨.c (str s2), none⟩), (23, ⟨.c (str s3), none⟩), (24, ⟨.c (.bool true), none⟩), (29, ⟨.c (str b), none⟩), (30, ⟨.c (str s4), none⟩), (51, ⟨.c (.int .i64 e), none⟩), (52, ⟨.c (.bool ok), none⟩)])⟩ (lpBy ([])) 60 18 ([.c (str s)]) ([])) = some ((AV.tu [(AV.ag [(AV.c ((Value.bool false))),
 (AV.c ((str ([])))),
 (AV.c ((str ([])))),
 (AV.c ((Value.int .i64 0)))]),
 (AV.c ((Value.bool false)))]), [((s.length : Nat) ≤ ((9223372036854775807 : Nat))),
 ((cutPF [(45 : UInt8)] s : List UInt8)) = (s1),
 ((preB [(45 : UInt8)] s : Bool)) = (m),
 (((1 : Nat) : Nat) ≤ ((4 : Nat))),
 ((s1.length : Nat) ≤ ((9223372036854775807 : Nat))),
 ((List.take (ldD s1) s1 : List UInt8)) = (a),
 ((List.drop (ldD s1) s1 : List UInt8)) = (s2),
 (((2 : Nat) : Nat) ≤ ((4 : Nat))),
 ((s2.length : Nat) ≤ ((9223372036854775807 : Nat))),
 ((cutPF [(46 : UInt8)] s2 : List UInt8)) = (s3),
 ((preB [(46 : UInt8)] s2 : Bool)) = (true),
 ((s3.length : Nat) ≤ ((9223372036854775807 : Nat))),
 ((List.take (ldD s3) s3 : List UInt8)) = (b),
 ((List.drop (ldD s3) s3 : List UInt8)) = (s4),
 (((3 : Nat) : Nat) ≤ ((4 : Nat))),
 (((0 : Nat) : Nat) < ((2 : Nat))),
 ((b == [] : Bool)) = (true),
 (((4 : Nat) : Nat) ≤ ((4 : Nat)))]) := by kernel_rfl

theorem pcuD_2 (s s1 a s2 s3 b s4 : List UInt8) (m : Bool) (e : Int) (ok : Bool) : outcome Try.prog 18 (aBody Try.prog clJ ⟨true, bs [(36, false), (54, true)] ++ ([(11, ⟨.c (str s1), none⟩), (12, ⟨.c (.bool m), none⟩), (17, ⟨.c (str a), none⟩), (18, ⟨.c (str s2), none⟩), (23, ⟨.c (str s3), none⟩), (24, ⟨.c (.bool true), none⟩), (29, ⟨.c (str b), none⟩), (30, ⟨.c (str s4), none⟩), (51, ⟨.c (.int .i64 e), none⟩), (52, ⟨.c (.bool ok), none⟩)])⟩ (lpBy ([])) 60 18 ([.c (str s)]) ([])) = some ((AV.tu [(AV.ag [(AV.c ((Value.bool false))),
 (AV.c ((str ([])))),
 (AV.c ((str ([])))),
 (AV.c ((Value.int .i64 0)))]),
 (AV.c ((Value.bool false)))]), [((s.length : Nat) ≤ ((9223372036854775807 : Nat))),
 ((cutPF [(45 : UInt8)] s : List UInt8)) = (s1),
 ((preB [(45 : UInt8)] s : Bool)) = (m),
 (((1 : Nat) : Nat) ≤ ((4 : Nat))),
 ((s1.length : Nat) ≤ ((9223372036854775807 : Nat))),
 ((List.take (ldD s1) s1 : List UInt8)) = (a),
 ((List.drop (ldD s1) s1 : List UInt8)) = (s2),
 (((2 : Nat) : Nat) ≤ ((4 : Nat))),
 ((s2.length : Nat) ≤ ((9223372036854775807 : Nat))),
 ((cutPF [(46 : UInt8)] s2 : List UInt8)) = (s3),
 ((preB [(46 : UInt8)] s2 : Bool)) = (true),
 ((s3.length : Nat) ≤ ((9223372036854775807 : Nat))),
 ((List.take (ldD s3) s3 : List UInt8)) = (b),
 ((List.drop (ldD s3) s3 : List UInt8)) = (s4),
 (((3 : Nat) : Nat) ≤ ((4 : Nat))),
 (((0 : Nat) : Nat) < ((2 : Nat))),
 ((b == [] : Bool)) = (false),
 ((s4.length : Nat) ≤ ((9223372036854775807 : Nat))),
 (((expoF (sb { data := { toList := s4 } })).getD (0 : Int) : Int)) = (e),
 (((expoF (sb { data := { toList := s4 } })).isSome : Bool)) = (ok),
 ((!ok : Bool)) = (true),
 (((4 : Nat) : Nat) ≤ ((4 : Nat)))]) := by kernel_rfl

theorem pcuD_3 (s s1 a s2 s3 b s4 : List UInt8) (m : Bool) (e : Int) (ok : Bool) : outcome Try.prog 18 (aBody Try.prog clJ ⟨true, bs [(36, false), (54, false)] ++ ([(11, ⟨.c (str s1), none⟩), (12, ⟨.c (.bool m), none⟩), (17, ⟨.c (str a), none⟩), (18, ⟨.c (str s2), none⟩), (23, ⟨.c (str s3), none⟩), (24, ⟨.c (.bool true), none⟩), (29, ⟨.c (str b), none⟩), (30, ⟨.c (str s4), none⟩), (51, ⟨.c (.int .i64 e), none⟩), (52, ⟨.c (.bool ok), none⟩)])⟩ (lpBy ([])) 60 18 ([.c (str s)]) ([])) = some ((AV.tu [(AV.ag [(AV.c ((Value.bool m))),
 (AV.c ((str (a)))),
 (AV.c ((str (b)))),
 (AV.c ((Value.int .i64 e)))]),
 (AV.c ((Value.bool true)))]), [((s.length : Nat) ≤ ((9223372036854775807 : Nat))),
 ((cutPF [(45 : UInt8)] s : List UInt8)) = (s1),
 ((preB [(45 : UInt8)] s : Bool)) = (m),
 (((1 : Nat) : Nat) ≤ ((4 : Nat))),
 ((s1.length : Nat) ≤ ((9223372036854775807 : Nat))),
 ((List.take (ldD s1) s1 : List UInt8)) = (a),
 ((List.drop (ldD s1) s1 : List UInt8)) = (s2),
 (((2 : Nat) : Nat) ≤ ((4 : Nat))),
 ((s2.length : Nat) ≤ ((9223372036854775807 : Nat))),
 ((cutPF [(46 : UInt8)] s2 : List UInt8)) = (s3),
 ((preB [(46 : UInt8)] s2 : Bool)) = (true),
 ((s3.length : Nat) ≤ ((9223372036854775807 : Nat))),
 ((List.take (ldD s3) s3 : List UInt8)) = (b),
 ((List.drop (ldD s3) s3 : List UInt8)) = (s4),
 (((3 : Nat) : Nat) ≤ ((4 : Nat))),
 (((0 : Nat) : Nat) < ((2 : Nat))),
 ((b == [] : Bool)) = (false),
 ((s4.length : Nat) ≤ ((9223372036854775807 : Nat))),
 (((expoF (sb { data := { toList := s4 } })).getD (0 : Int) : Int)) = (e),
 (((expoF (sb { data := { toList := s4 } })).isSome : Bool)) = (ok),
 ((!ok : Bool)) = (false),
 (((4 : Nat) : Nat) ≤ ((4 : Nat))),
 (((4 : Nat) : Nat) ≤ ((4 : Nat))),
 (((4 : Nat) : Nat) ≤ ((4 : Nat)))]) := by kernel_rfl

theorem pcuD_all (s s1 a s2 s3 b s4 : List UInt8) (m : Bool) (e : Int) (ok : Bool) (h1 : cutPF [45] s = s1) (h2 : preB [45] s = m) (h3 : List.take (ldD s1) s1 = a) (h4 : List.drop (ldD s1) s1 = s2) (h5 : cutPF [46] s2 = s3) (h6 : preB [46] s2 = true) (h7 : List.take (ldD s3) s3 = b) (h8 : List.drop (ldD s3) s3 = s4) (h9 : (expoF s4).getD 0 = e) (h10 : (expoF s4).isSome = ok) (l0 : s.length ≤ 9223372036854775807) (l1 : s1.length ≤ 9223372036854775807) (l2 : s2.length ≤ 9223372036854775807) (l3 : s3.length ≤ 9223372036854775807) (l4 : s4.length ≤ 9223372036854775807) : ∃ (h : Hints) (p : List Prop), outcome Try.prog 18 (aBody Try.prog clJ h (lpBy ([])) 60 18 ([.c (str s)]) ([])) = some (cutR m (b == []) ok a b e, p) ∧ allP p := by
  cases hc36 : (b == [] : Bool) with
  | true =>
    have eR := pcuD_1 s s1 a s2 s3 b s4 m e ok
    refine ⟨_, _, eR.trans (congrArg (fun r => some (r, _)) ?_), ?_⟩
    · try clear eR
      try simp only [decide_eq_true_eq, decide_eq_false_iff_not, beq_iff_eq, beq_eq_false_iff_ne, bne_iff_ne, bne_eq_false_iff_eq, ne_eq] at hc36
      try simp only [toNat0, toNat1, toNat2, Int.toNat_natCast, sb_mk] at hc36
      unfold cutR
      first
        | rw [if_neg (by rintro ⟨x, y⟩; exact Bool.noConfusion x)]; rfl
        | rw [if_pos ⟨rfl, by simpa using hc54⟩]; rfl
        | rw [if_neg (by rintro ⟨x, y⟩; simp [y] at hc54)]; rfl
    · try clear eR
      try simp only [decide_eq_true_eq, decide_eq_false_iff_not, beq_iff_eq, beq_eq_false_iff_ne, bne_iff_ne, bne_eq_false_iff_eq, ne_eq] at hc36
      try simp only [toNat0, toNat1, toNat2, Int.toNat_natCast, sb_mk] at hc36
      simp (disch := omega) only [allP, sb_mk, sl1, toNat0, toNat1, toNat2, Int.toNat_natCast, List.take_length, List.take_succ_cons, List.drop_succ_cons, List.drop_zero, List.take_zero, List.length_cons, List.length_nil, List.getD_cons_zero, i64_wrap, i32_wrap, u8_wrap, u32_wrap, tdN, tmN, i64_min, i64_max, u8_min, u8_max, decide_eq_true_eq, decide_eq_false_iff_not, beq_iff_eq, beq_eq_false_iff_ne, bne_iff_ne, bne_eq_false_iff_eq, ne_eq, not_false_eq_true, and_true, true_and, Int.zero_sub]
      repeat' apply And.intro
      all_goals first | exact True.intro | omega | with_reducible rfl | with_reducible assumption | exact h1 | exact h2 | exact h3 | exact h4 | exact h5 | exact h6 | exact h7 | exact h8 | exact h9 | exact h10 | rfl
  | false =>
    cases hc54 : (!ok : Bool) with
    | true =>
      have eR := pcuD_2 s s1 a s2 s3 b s4 m e ok
      refine ⟨_, _, eR.trans (congrArg (fun r => some (r, _)) ?_), ?_⟩
      · try clear eR
        try simp only [decide_eq_true_eq, decide_eq_false_iff_not, beq_iff_eq, beq_eq_false_iff_ne, bne_iff_ne, bne_eq_false_iff_eq, ne_eq] at hc36
        try simp only [toNat0, toNat1, toNat2, Int.toNat_natCast, sb_mk] at hc36
        try simp only [decide_eq_true_eq, decide_eq_false_iff_not, beq_iff_eq, beq_eq_false_iff_ne, bne_iff_ne, bne_eq_false_iff_eq, ne_eq] at hc54
        try simp only [toNat0, toNat1, toNat2, Int.toNat_natCast, sb_mk] at hc54
        unfold cutR
        first
          | rw [if_neg (by rintro ⟨x, y⟩; exact Bool.noConfusion x)]; rfl
          | rw [if_pos ⟨rfl, by simpa using hc54⟩]; rfl
          | rw [if_neg (by rintro ⟨x, y⟩; simp [y] at hc54)]; rfl
      · try clear eR
        try simp only [decide_eq_true_eq, decide_eq_false_iff_not, beq_iff_eq, beq_eq_false_iff_ne, bne_iff_ne, bne_eq_false_iff_eq, ne_eq] at hc36
        try simp only [toNat0, toNat1, toNat2, Int.toNat_natCast, sb_mk] at hc36
        try simp only [decide_eq_true_eq, decide_eq_false_iff_not, beq_iff_eq, beq_eq_false_iff_ne, bne_iff_ne, bne_eq_false_iff_eq, ne_eq] at hc54
        try simp only [toNat0, toNat1, toNat2, Int.toNat_natCast, sb_mk] at hc54
        simp (disch := omega) only [allP, sb_mk, sl1, toNat0, toNat1, toNat2, Int.toNat_natCast, List.take_length, List.take_succ_cons, List.drop_succ_cons, List.drop_zero, List.take_zero, List.length_cons, List.length_nil, List.getD_cons_zero, i64_wrap, i32_wrap, u8_wrap, u32_wrap, tdN, tmN, i64_min, i64_max, u8_min, u8_max, decide_eq_true_eq, decide_eq_false_iff_not, beq_iff_eq, beq_eq_false_iff_ne, bne_iff_ne, bne_eq_false_iff_eq, ne_eq, not_false_eq_true, and_true, true_and, Int.zero_sub]
        repeat' apply And.intro
        all_goals first | exact True.intro | omega | with_reducible rfl | with_reducible assumption | exact h1 | exact h2 | exact h3 | exact h4 | exact h5 | exact h6 | exact h7 | exact h8 | exact h9 | exact h10 | rfl
    | false =>
      have eR := pcuD_3 s s1 a s2 s3 b s4 m e ok
      refine ⟨_, _, eR.trans (congrArg (fun r => some (r, _)) ?_), ?_⟩
      · try clear eR
        try simp only [decide_eq_true_eq, decide_eq_false_iff_not, beq_iff_eq, beq_eq_false_iff_ne, bne_iff_ne, bne_eq_false_iff_eq, ne_eq] at hc36
        try simp only [toNat0, toNat1, toNat2, Int.toNat_natCast, sb_mk] at hc36
        try simp only [decide_eq_true_eq, decide_eq_false_iff_not, beq_iff_eq, beq_eq_false_iff_ne, bne_iff_ne, bne_eq_false_iff_eq, ne_eq] at hc54
        try simp only [toNat0, toNat1, toNat2, Int.toNat_natCast, sb_mk] at hc54
        unfold cutR
        first
          | rw [if_neg (by rintro ⟨x, y⟩; exact Bool.noConfusion x)]; rfl
          | rw [if_pos ⟨rfl, by simpa using hc54⟩]; rfl
          | rw [if_neg (by rintro ⟨x, y⟩; simp [y] at hc54)]; rfl
      · try clear eR
        try simp only [decide_eq_true_eq, decide_eq_false_iff_not, beq_iff_eq, beq_eq_false_iff_ne, bne_iff_ne, bne_eq_false_iff_eq, ne_eq] at hc36
        try simp only [toNat0, toNat1, toNat2, Int.toNat_natCast, sb_mk] at hc36
        try simp only [decide_eq_true_eq, decide_eq_false_iff_not, beq_iff_eq, beq_eq_false_iff_ne, bne_iff_ne, bne_eq_false_iff_eq, ne_eq] at hc54
        try simp only [toNat0, toNat1, toNat2, Int.toNat_natCast, sb_mk] at hc54
        simp (disch := omega) only [allP, sb_mk, sl1, toNat0, toNat1, toNat2, Int.toNat_natCast, List.take_length, List.take_succ_cons, List.drop_succ_cons, List.drop_zero, List.take_zero, List.length_cons, List.length_nil, List.getD_cons_zero, i64_wrap, i32_wrap, u8_wrap, u32_wrap, tdN, tmN, i64_min, i64_max, u8_min, u8_max, decide_eq_true_eq, decide_eq_false_iff_not, beq_iff_eq, beq_eq_false_iff_ne, bne_iff_ne, bne_eq_false_iff_eq, ne_eq, not_false_eq_true, and_true, true_and, Int.zero_sub]
        repeat' apply And.intro
        all_goals first | exact True.intro | omega | with_reducible rfl | with_reducible assumption | exact h1 | exact h2 | exact h3 | exact h4 | exact h5 | exact h6 | exact h7 | exact h8 | exact h9 | exact h10 | rfl

theorem pcuN_1 (s s1 a s2 s3 : List UInt8) (m : Bool) (e : Int) (ok : Bool) : outcome Try.prog 18 (aBody Try.prog clJ ⟨true, bs [(44, true)] ++ ([(11, ⟨.c (str s1), none⟩), (12, ⟨.c (.bool m), none⟩), (17, ⟨.c (str a), none⟩), (18, ⟨.c (str s2), none⟩), (23, ⟨.c (str s3), none⟩), (24, ⟨.c (.bool false), none⟩), (51, ⟨.c (.int .i64 e), none⟩), (52, ⟨.c (.bool ok), none⟩)])⟩ (lpBy ([])) 60 18 ([.c (str s)]) ([])) = some ((AV.tu [(AV.ag [(AV.c ((Value.bool false))),
 (AV.c ((str ([])))),
 (AV.c ((str ([])))),
 (AV.c ((Value.int .i64 0)))]),
 (AV.c ((Value.bool false)))]), [((s.length : Nat) ≤ ((9223372036854775807 : Nat))),
 ((cutPF [(45 : UInt8)] s : List UInt8)) = (s1),
 ((preB [(45 : UInt8)] s : Bool)) = (m),
 (((1 : Nat) : Nat) ≤ ((4 : Nat))),
 ((s1.length : Nat) ≤ ((9223372036854775807 : Nat))),
 ((List.take (ldD s1) s1 : List UInt8)) = (a),
 ((List.drop (ldD s1) s1 : List UInt8)) = (s2),
 (((2 : Nat) : Nat) ≤ ((4 : Nat))),
 ((s2.length : Nat) ≤ ((9223372036854775807 : Nat))),
 ((cutPF [(46 : UInt8)] s2 : List UInt8)) = (s3),
 ((preB [(46 : UInt8)] s2 : Bool)) = (false),
 (((0 : Nat) : Nat) < ((3 : Nat))),
 ((a == [] : Bool)) = (true),
 (((4 : Nat) : Nat) ≤ ((4 : Nat)))]) := by kernel_rfl

theorem pcuN_2 (s s1 a s2 s3 : List UInt8) (m : Bool) (e : Int) (ok : Bool) : outcome Try.prog 18 (aBody Try.prog clJ ⟨true, bs [(44, false), (54, true)] ++ ([(11, ⟨.c (str s1), none⟩), (12, ⟨.c (.bool m), none⟩), (17, ⟨.c (str a), none⟩), (18, ⟨.c (str s2), none⟩), (23, ⟨.c (str s3), none⟩), (24, ⟨.c (.bool false), none⟩), (51, ⟨.c (.int .i64 e), none⟩), (52, ⟨.c (.bool ok), none⟩)])⟩ (lpBy ([])) 60 18 ([.c (str s)]) ([])) = some ((AV.tu [(AV.ag [(AV.c ((Value.bool false))),
 (AV.c ((str ([])))),
 (AV.c ((str ([])))),
 (AV.c ((Value.int .i64 0)))]),
 (AV.c ((Value.bool false)))]), [((s.length : Nat) ≤ ((9223372036854775807 : Nat))),
 ((cutPF [(45 : UInt8)] s : List UInt8)) = (s1),
 ((preB [(45 : UInt8)] s : Bool)) = (m),
 (((1 : Nat) : Nat) ≤ ((4 : Nat))),
 ((s1.length : Nat) ≤ ((9223372036854775807 : Nat))),
 ((List.take (ldD s1) s1 : List UInt8)) = (a),
 ((List.drop (ldD s1) s1 : List UInt8)) = (s2),
 (((2 : Nat) : Nat) ≤ ((4 : Nat))),
 ((s2.length : Nat) ≤ ((9223372036854775807 : Nat))),
 ((cutPF [(46 : UInt8)] s2 : List UInt8)) = (s3),
 ((preB [(46 : UInt8)] s2 : Bool)) = (false),
 (((0 : Nat) : Nat) < ((3 : Nat))),
 ((a == [] : Bool)) = (false),
 ((s3.length : Nat) ≤ ((9223372036854775807 : Nat))),
 (((expoF (sb { data := { toList := s3 } })).getD (0 : Int) : Int)) = (e),
 (((expoF (sb { data := { toList := s3 } })).isSome : Bool)) = (ok),
 ((!ok : Bool)) = (true),
 (((4 : Nat) : Nat) ≤ ((4 : Nat)))]) := by kernel_rfl

theorem pcuN_3 (s s1 a s2 s3 : List UInt8) (m : Bool) (e : Int) (ok : Bool) : outcome Try.prog 18 (aBody Try.prog clJ ⟨true, bs [(44, false), (54, false)] ++ ([(11, ⟨.c (str s1), none⟩), (12, ⟨.c (.bool m), none⟩), (17, ⟨.c (str a), none⟩), (18, ⟨.c (str s2), none⟩), (23, ⟨.c (str s3), none⟩), (24, ⟨.c (.bool false), none⟩), (51, ⟨.c (.int .i64 e), none⟩), (52, ⟨.c (.bool ok), none⟩)])⟩ (lpBy ([])) 60 18 ([.c (str s)]) ([])) = some ((AV.tu [(AV.ag [(AV.c ((Value.bool m))),
 (AV.c ((str (a)))),
 (AV.c ((str ([])))),
 (AV.c ((Value.int .i64 e)))]),
 (AV.c ((Value.bool true)))]), [((s.length : Nat) ≤ ((9223372036854775807 : Nat))),
 ((cutPF [(45 : UInt8)] s : List UInt8)) = (s1),
 ((preB [(45 : UInt8)] s : Bool)) = (m),
 (((1 : Nat) : Nat) ≤ ((4 : Nat))),
 ((s1.length : Nat) ≤ ((9223372036854775807 : Nat))),
 ((List.take (ldD s1) s1 : List UInt8)) = (a),
 ((List.drop (ldD s1) s1 : List UInt8)) = (s2),
 (((2 : Nat) : Nat) ≤ ((4 : Nat))),
 ((s2.length : Nat) ≤ ((9223372036854775807 : Nat))),
 ((cutPF [(46 : UInt8)] s2 : List UInt8)) = (s3),
 ((preB [(46 : UInt8)] s2 : Bool)) = (false),
 (((0 : Nat) : Nat) < ((3 : Nat))),
 ((a == [] : Bool)) = (false),
 ((s3.length : Nat) ≤ ((9223372036854775807 : Nat))),
 (((expoF (sb { data := { toList := s3 } })).getD (0 : Int) : Int)) = (e),
 (((expoF (sb { data := { toList := s3 } })).isSome : Bool)) = (ok),
 ((!ok : Bool)) = (false),
 (((4 : Nat) : Nat) ≤ ((4 : Nat))),
 (((4 : Nat) : Nat) ≤ ((4 : Nat))),
 (((4 : Nat) : Nat) ≤ ((4 : Nat)))]) := by kernel_rfl

theorem pcuN_all (s s1 a s2 s3 : List UInt8) (m : Bool) (e : Int) (ok : Bool) (h1 : cutPF [45] s = s1) (h2 : preB [45] s = m) (h3 : List.take (ldD s1) s1 = a) (h4 : List.drop (ldD s1) s1 = s2) (h5 : cutPF [46] s2 = s3) (h6 : preB [46] s2 = false) (h9 : (expoF s3).getD 0 = e) (h10 : (expoF s3).isSome = ok) (l0 : s.length ≤ 9223372036854775807) (l1 : s1.length ≤ 9223372036854775807) (l2 : s2.length ≤ 9223372036854775807) (l3 : s3.length ≤ 9223372036854775807) : ∃ (h : Hints) (p : List Prop), outcome Try.prog 18 (aBody Try.prog clJ h (lpBy ([])) 60 18 ([.c (str s)]) ([])) = some (cutR m (a == []) ok a [] e, p) ∧ allP p := by
  cases hc44 : (a == [] : Bool) with
  | true =>
    have eR := pcuN_1 s s1 a s2 s3 m e ok
    refine ⟨_, _, eR.trans (congrArg (fun r => some (r, _)) ?_), ?_⟩
    · try clear eR
      try simp only [decide_eq_true_eq, decide_eq_false_iff_not, beq_iff_eq, beq_eq_false_iff_ne, bne_iff_ne, bne_eq_false_iff_eq, ne_eq] at hc44
      try simp only [toNat0, toNat1, toNat2, Int.toNat_natCast, sb_mk] at hc44
      unfold cutR
      first
        | rw [if_neg (by rintro ⟨x, y⟩; exact Bool.noConfusion x)]; rfl
        | rw [if_pos ⟨rfl, by simpa using hc54⟩]; rfl
        | rw [if_neg (by rintro ⟨x, y⟩; simp [y] at hc54)]; rfl
    · try clear eR
      try simp only [decide_eq_true_eq, decide_eq_false_iff_not, beq_iff_eq, beq_eq_false_iff_ne, bne_iff_ne, bne_eq_false_iff_eq, ne_eq] at hc44
      try simp only [toNat0, toNat1, toNat2, Int.toNat_natCast, sb_mk] at hc44
      simp (disch := omega) only [allP, sb_mk, sl1, toNat0, toNat1, toNat2, Int.toNat_natCast, List.take_length, List.take_succ_cons, List.drop_succ_cons, List.drop_zero, List.take_zero, List.length_cons, List.length_nil, List.getD_cons_zero, i64_wrap, i32_wrap, u8_wrap, u32_wrap, tdN, tmN, i64_min, i64_max, u8_min, u8_max, decide_eq_true_eq, decide_eq_false_iff_not, beq_iff_eq, beq_eq_false_iff_ne, bne_iff_ne, bne_eq_false_iff_eq, ne_eq, not_false_eq_true, and_true, true_and, Int.zero_sub]
      repeat' apply And.intro
      all_goals first | exact True.intro | omega | with_reducible rfl | with_reducible assumption | exact h1 | exact h2 | exact h3 | exact h4 | exact h5 | exact h6 | exact h9 | exact h10 | rfl
  | false =>
    cases hc54 : (!ok : Bool) with
    | true =>
      have eR := pcuN_2 s s1 a s2 s3 m e ok
      refine ⟨_, _, eR.trans (congrArg (fun r => some (r, _)) ?_), ?_⟩
      · try clear eR
        try simp only [decide_eq_true_eq, decide_eq_false_iff_not, beq_iff_eq, beq_eq_false_iff_ne, bne_iff_ne, bne_eq_false_iff_eq, ne_eq] at hc44
        try simp only [toNat0, toNat1, toNat2, Int.toNat_natCast, sb_mk] at hc44
        try simp only [decide_eq_true_eq, decide_eq_false_iff_not, beq_iff_eq, beq_eq_false_iff_ne, bne_iff_ne, bne_eq_false_iff_eq, ne_eq] at hc54
        try simp only [toNat0, toNat1, toNat2, Int.toNat_natCast, sb_mk] at hc54
        unfold cutR
        first
          | rw [if_neg (by rintro ⟨x, y⟩; exact Bool.noConfusion x)]; rfl
          | rw [if_pos ⟨rfl, by simpa using hc54⟩]; rfl
          | rw [if_neg (by rintro ⟨x, y⟩; simp [y] at hc54)]; rfl
      · try clear eR
        try simp only [decide_eq_true_eq, decide_eq_false_iff_not, beq_iff_eq, beq_eq_false_iff_ne, bne_iff_ne, bne_eq_false_iff_eq, ne_eq] at hc44
        try simp only [toNat0, toNat1, toNat2, Int.toNat_natCast, sb_mk] at hc44
        try simp only [decide_eq_true_eq, decide_eq_false_iff_not, beq_iff_eq, beq_eq_false_iff_ne, bne_iff_ne, bne_eq_false_iff_eq, ne_eq] at hc54
        try simp only [toNat0, toNat1, toNat2, Int.toNat_natCast, sb_mk] at hc54
        simp (disch := omega) only [allP, sb_mk, sl1, toNat0, toNat1, toNat2, Int.toNat_natCast, List.take_length, List.take_succ_cons, List.drop_succ_cons, List.drop_zero, List.take_zero, List.length_cons, List.length_nil, List.getD_cons_zero, i64_wrap, i32_wrap, u8_wrap, u32_wrap, tdN, tmN, i64_min, i64_max, u8_min, u8_max, decide_eq_true_eq, decide_eq_false_iff_not, beq_iff_eq, beq_eq_false_iff_ne, bne_iff_ne, bne_eq_false_iff_eq, ne_eq, not_false_eq_true, and_true, true_and, Int.zero_sub]
        repeat' apply And.intro
        all_goals first | exact True.intro | omega | with_reducible rfl | with_reducible assumption | exact h1 | exact h2 | exact h3 | exact h4 | exact h5 | exact h6 | exact h9 | exact h10 | rfl
    | false =>
      have eR := pcuN_3 s s1 a s2 s3 m e ok
      refine ⟨_, _, eR.trans (congrArg (fun r => some (r, _)) ?_), ?_⟩
      · try clear eR
        try simp only [decide_eq_true_eq, decide_eq_false_iff_not, beq_iff_eq, beq_eq_false_iff_ne, bne_iff_ne, bne_eq_false_iff_eq, ne_eq] at hc44
        try simp only [toNat0, toNat1, toNat2, Int.toNat_natCast, sb_mk] at hc44
        try simp only [decide_eq_true_eq, decide_eq_false_iff_not, beq_iff_eq, beq_eq_false_iff_ne, bne_iff_ne, bne_eq_false_iff_eq, ne_eq] at hc54
        try simp only [toNat0, toNat1, toNat2, Int.toNat_natCast, sb_mk] at hc54
        unfold cutR
        first
          | rw [if_neg (by rintro ⟨x, y⟩; exact Bool.noConfusion x)]; rfl
          | rw [if_pos ⟨rfl, by simpa using hc54⟩]; rfl
          | rw [if_neg (by rintro ⟨x, y⟩; simp [y] at hc54)]; rfl
      · try clear eR
        try simp only [decide_eq_true_eq, decide_eq_false_iff_not, beq_iff_eq, beq_eq_false_iff_ne, bne_iff_ne, bne_eq_false_iff_eq, ne_eq] at hc44
        try simp only [toNat0, toNat1, toNat2, Int.toNat_natCast, sb_mk] at hc44
        try simp only [decide_eq_true_eq, decide_eq_false_iff_not, beq_iff_eq, beq_eq_false_iff_ne, bne_iff_ne, bne_eq_false_iff_eq, ne_eq] at hc54
        try simp only [toNat0, toNat1, toNat2, Int.toNat_natCast, sb_mk] at hc54
        simp (disch := omega) only [allP, sb_mk, sl1, toNat0, toNat1, toNat2, Int.toNat_natCast, List.take_length, List.take_succ_cons, List.drop_succ_cons, List.drop_zero, List.take_zero, List.length_cons, List.length_nil, List.getD_cons_zero, i64_wrap, i32_wrap, u8_wrap, u32_wrap, tdN, tmN, i64_min, i64_max, u8_min, u8_max, decide_eq_true_eq, decide_eq_false_iff_not, beq_iff_eq, beq_eq_false_iff_ne, bne_iff_ne, bne_eq_false_iff_eq, ne_eq, not_false_eq_true, and_true, true_and, Int.zero_sub]
        repeat' apply And.intro
        all_goals first | exact True.intro | omega | with_reducible rfl | with_reducible assumption | exact h1 | exact h2 | exact h3 | exact h4 | exact h5 | exact h6 | exact h9 | exact h10 | rfl

def cutF (s : List UInt8) : Option (Bool × List UInt8 × List UInt8 × Int) :=
  let s1 := cutPF [45] s
  let a := s1.take (ldD s1)
  let s2 := s1.drop (ldD s1)
  let s3 := cutPF [46] s2
  if preB [46] s2 = true then
    if s3.take (ldD s3) = [] then none else (expoF (s3.drop (ldD s3))).map fun e => (preB [45] s, a, s3.take (ldD s3), e)
  else if a = [] then none else (expoF s3).map fun e => (preB [45] s, a, [], e)
def cutD (o : Option (Bool × List UInt8 × List UInt8 × Int)) : Bool × List UInt8 × List UInt8 × Int := o.getD (false, [], [], 0)
def cutT (o : Option (Bool × List UInt8 × List UInt8 × Int)) : AV := .tu [partsA (cutD o).1 (cutD o).2.1 (cutD o).2.2.1 (cutD o).2.2.2, .c (.bool o.isSome)]

theorem cutR_eq (m : Bool) (a b x : List UInt8) (o : Option Int) : cutR m (x == []) o.isSome a b (o.getD 0) = cutT (if x = [] then none else o.map fun e => (m, a, b, e)) := by
  unfold cutR
  by_cases hx : x = []
  · rw [if_neg (by rintro ⟨y, _⟩; rw [hx] at y; exact Bool.noConfusion y), if_pos hx]; rfl
  · rw [if_neg hx]
    cases o with
    | none => rw [if_neg (by simp)]; rfl
    | some e => rw [if_pos ⟨by simpa using hx, rfl⟩]; rfl

def cutSpec : Spec
  | [.c (.string s)] => some (cutT (cutF (sb s)), [(sb s).length ≤ 9223372036854775807])
  | _ => none

theorem pcut_ok : SpecOK Try.prog 18 cutSpec := by
  refine spec_of mixed clJ_ok fun args r q hs hq => ?_
  unfold cutSpec at hs
  split at hs
  · rename_i l
    simp only [Option.some.injEq, Prod.mk.injEq] at hs
    obtain ⟨rfl, rfl⟩ := hs
    obtain ⟨⟨⟨l⟩⟩, rfl⟩ : ∃ b : ByteArray, b = l := ⟨l, rfl⟩
    simp only [sb_mk, allP, and_true] at hq ⊢
    have l1 := cutPF_le [45] l
    have l2 : ((cutPF [45] l).drop (ldD (cutPF [45] l))).length ≤ (cutPF [45] l).length := by rw [List.length_drop]; omega
    have l3 := cutPF_le [46] ((cutPF [45] l).drop (ldD (cutPF [45] l)))
    unfold cutF
    simp only
    cases hd : preB [46] ((cutPF [45] l).drop (ldD (cutPF [45] l))) with
    | true =>
      have l4 : ((cutPF [46] ((cutPF [45] l).drop (ldD (cutPF [45] l)))).drop (ldD (cutPF [46] ((cutPF [45] l).drop (ldD (cutPF [45] l)))))).length ≤ (cutPF [46] ((cutPF [45] l).drop (ldD (cutPF [45] l)))).length := by rw [List.length_drop]; omega
      obtain ⟨hh, p, e, hp⟩ := pcuD_all l _ _ _ _ _ _ _ _ _ rfl rfl rfl rfl rfl hd rfl rfl rfl rfl hq (by omega) (by omega) (by omega) (by omega)
      rw [if_pos rfl, ← cutR_eq]
      exact ⟨_, _, _, _, lpBy_nil, e, hp⟩
    | false =>
      obtain ⟨hh, p, e, hp⟩ := pcuN_all l _ _ _ _ _ _ _ rfl rfl rfl rfl rfl hd rfl rfl hq (by omega) (by omega) (by omega)
      rw [if_neg (by simp), ← cutR_eq]
      exact ⟨_, _, _, _, lpBy_nil, e, hp⟩
  · simp at hs

/-! The float. -/
noncomputable def clK : CallT := aCall Try.prog (sgBy [(18, cutSpec), (19, tenSpec), (9, pwholeSpec)]) 500 8
theorem clK_ok : CallOK Try.prog clK := aCall_ok mixed (sgBy_cons pcut_ok (sgBy_cons pten_ok (sgBy_cons pwhole_ok sgBy_nil))) 500 8

def fltP (m ok : Bool) (v : Int) (n : Nat) (e : Int) : AV := if ok = true ∧ n ≤ 15 ∧ -22 ≤ e ∧ e ≤ 22 then .tu [.c (.float .f64 (wordP m v e)), .c (.bool true)] else .tu [.c (.float .f64 0), .c (.bool false)]

/-- No step is a NaN. -/
def stepsP (n : Nat) (m : Bool) (v e : Int) : Prop := n ≤ 15 → -22 ≤ e → e ≤ 22 → (e < 0 → (floatBits .quo .f64 (floatOfInt .f64 (if m then -v else v)) (pwB (-e).toNat)).isSome = true) ∧ (¬ e < 0 → (floatBits .mul .f64 (floatOfInt .f64 (if m then -v else v)) (pwB e.toNat)).isSome = true)
theorem stepsP_ok {n : Nat} {m : Bool} {v : Nat} {e : Int} (h : n ≤ 15 → v ≤ 10 ^ 15) : stepsP n m v e := fun h0 h1 h2 => by
  obtain ⟨h3, h4⟩ := stepP_ok m (h h0) h1 h2
  refine ⟨fun he => ?_, fun he => ?_⟩
  · rw [show (-e).toNat = e.natAbs by omega]; exact h3
  · rw [show e.toNat = e.natAbs by omega]; exact h4

theorem pfl_1 (s a b : List UInt8) (m ok wk : Bool) (v e x : Int) : outcome Try.prog 11 (aBody Try.prog clK ⟨true, bs [(15, true)] ++ ([(11, ⟨.tu [partsA m a b x, .c (.bool ok)], none⟩), (31, ⟨.c (.int .i64 e), none⟩), (45, ⟨.c (.int .i64 v), none⟩), (46, ⟨.c (.bool wk), none⟩)])⟩ (lpBy ([])) 60 11 ([.c (str s)]) ([])) = some ((AV.tu [(AV.c ((Value.float .f64 0))),
 (AV.c ((Value.bool false)))]), [((s.length : Nat) ≤ ((9223372036854775807 : Nat))),
 avEq ((AV.tu [(AV.ag [(AV.c ((Value.bool ((cutD (cutF (sb { data := { toList := s } }))).fst)))),
 (AV.c ((str ((cutD (cutF (sb { data := { toList := s } }))).snd.fst)))),
 (AV.c ((str ((cutD (cutF (sb { data := { toList := s } }))).snd.snd.fst)))),
 (AV.c ((Value.int .i64 ((cutD (cutF (sb { data := { toList := s } }))).snd.snd.snd))))]),
 (AV.c ((Value.bool ((cutF (sb { data := { toList := s } })).isSome))))])) ((AV.tu [(AV.ag [(AV.c ((Value.bool m))),
 (AV.c ((str (a)))),
 (AV.c ((str (b)))),
 (AV.c ((Value.int .i64 x)))]),
 (AV.c ((Value.bool ok)))])),
 (((4 : Nat) : Nat) ≤ ((4 : Nat))),
 ((!ok : Bool)) = (true)]) := by kernel_rfl

theorem pfl_2 (s a b : List UInt8) (m ok wk : Bool) (v e x : Int) : outcome Try.prog 11 (aBody Try.prog clK ⟨true, bs [(15, false), (24, true)] ++ ([(11, ⟨.tu [partsA m a b x, .c (.bool ok)], none⟩), (31, ⟨.c (.int .i64 e), none⟩), (45, ⟨.c (.int .i64 v), none⟩), (46, ⟨.c (.bool wk), none⟩)])⟩ (lpBy ([])) 60 11 ([.c (str s)]) ([])) = some ((AV.tu [(AV.c ((Value.float .f64 0))),
 (AV.c ((Value.bool false)))]), [((s.length : Nat) ≤ ((9223372036854775807 : Nat))),
 avEq ((AV.tu [(AV.ag [(AV.c ((Value.bool ((cutD (cutF (sb { data := { toList := s } }))).fst)))),
 (AV.c ((str ((cutD (cutF (sb { data := { toList := s } }))).snd.fst)))),
 (AV.c ((str ((cutD (cutF (sb { data := { toList := s } }))).snd.snd.fst)))),
 (AV.c ((Value.int .i64 ((cutD (cutF (sb { data := { toList := s } }))).snd.snd.snd))))]),
 (AV.c ((Value.bool ((cutF (sb { data := { toList := s } })).isSome))))])) ((AV.tu [(AV.ag [(AV.c ((Value.bool m))),
 (AV.c ((str (a)))),
 (AV.c ((str (b)))),
 (AV.c ((Value.int .i64 x)))]),
 (AV.c ((Value.bool ok)))])),
 (((4 : Nat) : Nat) ≤ ((4 : Nat))),
 ((!ok : Bool)) = (false),
 (((0 : Nat) : Nat) < ((3 : Nat))),
 (((0 : Nat) : Nat) < ((2 : Nat))),
 ((IntKind.i64.min : Int) ≤ ((↑a.length : Int) + (↑b.length : Int))),
 (((↑a.length : Int) + (↑b.length : Int) : Int) ≤ (IntKind.i64.max)),
 ((decide ((↑a.length : Int) + (↑b.length : Int) > (15 : Int)) : Bool)) = (true)]) := by kernel_rfl

theorem pfl_3 (s a b : List UInt8) (m ok wk : Bool) (v e x : Int) : outcome Try.prog 11 (aBody Try.prog clK ⟨true, bs [(15, false), (24, false), (33, true)] ++ ([(11, ⟨.tu [partsA m a b x, .c (.bool ok)], none⟩), (31, ⟨.c (.int .i64 e), none⟩), (45, ⟨.c (.int .i64 v), none⟩), (46, ⟨.c (.bool wk), none⟩)])⟩ (lpBy ([])) 60 11 ([.c (str s)]) ([])) = some ((AV.tu [(AV.c ((Value.float .f64 0))),
 (AV.c ((Value.bool false)))]), [((s.length : Nat) ≤ ((9223372036854775807 : Nat))),
 avEq ((AV.tu [(AV.ag [(AV.c ((Value.bool ((cutD (cutF (sb { data := { toList := s } }))).fst)))),
 (AV.c ((str ((cutD (cutF (sb { data := { toList := s } }))).snd.fst)))),
 (AV.c ((str ((cutD (cutF (sb { data := { toList := s } }))).snd.snd.fst)))),
 (AV.c ((Value.int .i64 ((cutD (cutF (sb { data := { toList := s } }))).snd.snd.snd))))]),
 (AV.c ((Value.bool ((cutF (sb { data := { toList := s } })).isSome))))])) ((AV.tu [(AV.ag [(AV.c ((Value.bool m))),
 (AV.c ((str (a)))),
 (AV.c ((str (b)))),
 (AV.c ((Value.int .i64 x)))]),
 (AV.c ((Value.bool ok)))])),
 (((4 : Nat) : Nat) ≤ ((4 : Nat))),
 ((!ok : Bool)) = (false),
 (((0 : Nat) : Nat) < ((3 : Nat))),
 (((0 : Nat) : Nat) < ((2 : Nat))),
 ((IntKind.i64.min : Int) ≤ ((↑a.length : Int) + (↑b.length : Int))),
 (((↑a.length : Int) + (↑b.length : Int) : Int) ≤ (IntKind.i64.max)),
 ((decide ((↑a.length : Int) + (↑b.length : Int) > (15 : Int)) : Bool)) = (false),
 (((0 : Nat) : Nat) < ((1 : Nat))),
 (((0 : Nat) : Nat) < ((2 : Nat))),
 ((IntKind.i64.min : Int) ≤ (x - (↑b.length : Int))),
 ((x - (↑b.length : Int) : Int) ≤ (IntKind.i64.max)),
 ((x - (↑b.length : Int) : Int)) = (e),
 ((decide (e < (-22 : Int)) : Bool)) = (true)]) := by kernel_rfl

theorem pfl_4 (s a b : List UInt8) (m ok wk : Bool) (v e x : Int) : outcome Try.prog 11 (aBody Try.prog clK ⟨true, bs [(15, false), (24, false), (33, false), (36, true)] ++ ([(11, ⟨.tu [partsA m a b x, .c (.bool ok)], none⟩), (31, ⟨.c (.int .i64 e), none⟩), (45, ⟨.c (.int .i64 v), none⟩), (46, ⟨.c (.bool wk), none⟩)])⟩ (lpBy ([])) 60 11 ([.c (str s)]) ([])) = some ((AV.tu [(AV.c ((Value.float .f64 0))),
 (AV.c ((Value.bool false)))]), [((s.length : Nat) ≤ ((9223372036854775807 : Nat))),
 avEq ((AV.tu [(AV.ag [(AV.c ((Value.bool ((cutD (cutF (sb { data := { toList := s } }))).fst)))),
 (AV.c ((str ((cutD (cutF (sb { data := { toList := s } }))).snd.fst)))),
 (AV.c ((str ((cutD (cutF (sb { data := { toList := s } }))).snd.snd.fst)))),
 (AV.c ((Value.int .i64 ((cutD (cutF (sb { data := { toList := s } }))).snd.snd.snd))))]),
 (AV.c ((Value.bool ((cutF (sb { data := { toList := s } })).isSome))))])) ((AV.tu [(AV.ag [(AV.c ((Value.bool m))),
 (AV.c ((str (a)))),
 (AV.c ((str (b)))),
 (AV.c ((Value.int .i64 x)))]),
 (AV.c ((Value.bool ok)))])),
 (((4 : Nat) : Nat) ≤ ((4 : Nat))),
 ((!ok : Bool)) = (false),
 (((0 : Nat) : Nat) < ((3 : Nat))),
 (((0 : Nat) : Nat) < ((2 : Nat))),
 ((IntKind.i64.min : Int) ≤ ((↑a.length : Int) + (↑b.length : Int))),
 (((↑a.length : Int) + (↑b.length : Int) : Int) ≤ (IntKind.i64.max)),
 ((decide ((↑a.length : Int) + (↑b.length : Int) > (15 : Int)) : Bool)) = (false),
 (((0 : Nat) : Nat) < ((1 : Nat))),
 (((0 : Nat) : Nat) < ((2 : Nat))),
 ((IntKind.i64.min : Int) ≤ (x - (↑b.length : Int))),
 ((x - (↑b.length : Int) : Int) ≤ (IntKind.i64.max)),
 ((x - (↑b.length : Int) : Int)) = (e),
 ((decide (e < (-22 : Int)) : Bool)) = (false),
 ((decide (e > (22 : Int)) : Bool)) = (true)]) := by kernel_rfl

theorem pfl_5 (s a b : List UInt8) (m ok wk : Bool) (v e x : Int) : outcome Try.prog 11 (aBody Try.prog clK ⟨true, bs [(15, false), (24, false), (33, false), (36, false), (48, true), (52, true)] ++ ([(11, ⟨.tu [partsA m a b x, .c (.bool ok)], none⟩), (31, ⟨.c (.int .i64 e), none⟩), (45, ⟨.c (.int .i64 v), none⟩), (46, ⟨.c (.bool wk), none⟩)])⟩ (lpBy ([])) 60 11 ([.c (str s)]) ([])) = some ((AV.tu [(AV.c ((Value.float .f64 ((floatBits BinOp.quo FloatKind.f64 (floatOfInt FloatKind.f64 (IntKind.i64.wrap ((0 : Int) - v)))
      (pwB (IntKind.i64.wrap ((0 : Int) - e)).toNat)).getD
  (0 : Nat))))),
 (AV.c ((Value.bool true)))]), [((s.length : Nat) ≤ ((9223372036854775807 : Nat))),
 avEq ((AV.tu [(AV.ag [(AV.c ((Value.bool ((cutD (cutF (sb { data := { toList := s } }))).fst)))),
 (AV.c ((str ((cutD (cutF (sb { data := { toList := s } }))).snd.fst)))),
 (AV.c ((str ((cutD (cutF (sb { data := { toList := s } }))).snd.snd.fst)))),
 (AV.c ((Value.int .i64 ((cutD (cutF (sb { data := { toList := s } }))).snd.snd.snd))))]),
 (AV.c ((Value.bool ((cutF (sb { data := { toList := s } })).isSome))))])) ((AV.tu [(AV.ag [(AV.c ((Value.bool m))),
 (AV.c ((str (a)))),
 (AV.c ((str (b)))),
 (AV.c ((Value.int .i64 x)))]),
 (AV.c ((Value.bool ok)))])),
 (((4 : Nat) : Nat) ≤ ((4 : Nat))),
 ((!ok : Bool)) = (false),
 (((0 : Nat) : Nat) < ((3 : Nat))),
 (((0 : Nat) : Nat) < ((2 : Nat))),
 ((IntKind.i64.min : Int) ≤ ((↑a.length : Int) + (↑b.length : Int))),
 (((↑a.length : Int) + (↑b.length : Int) : Int) ≤ (IntKind.i64.max)),
 ((decide ((↑a.length : Int) + (↑b.length : Int) > (15 : Int)) : Bool)) = (false),
 (((0 : Nat) : Nat) < ((1 : Nat))),
 (((0 : Nat) : Nat) < ((2 : Nat))),
 ((IntKind.i64.min : Int) ≤ (x - (↑b.length : Int))),
 ((x - (↑b.length : Int) : Int) ≤ (IntKind.i64.max)),
 ((x - (↑b.length : Int) : Int)) = (e),
 ((decide (e < (-22 : Int)) : Bool)) = (false),
 ((decide (e > (22 : Int)) : Bool)) = (false),
 (((0 : Nat) : Nat) < ((3 : Nat))),
 (((0 : Nat) : Nat) < ((2 : Nat))),
 ((a.length + b.length : Nat) ≤ ((9223372036854775807 : Nat))),
 (((a ++ b).length : Nat) ≤ ((9223372036854775807 : Nat))),
 (((↑(wV (a ++ b)) : Int) : Int)) = (v),
 ((wOK (a ++ b) : Bool)) = (wk),
 (((0 : Nat) : Nat) < ((4 : Nat))),
 ((m : Bool)) = (true),
 ((decide (e < (0 : Int)) : Bool)) = (true),
 (0 : Int) ≤ IntKind.i64.wrap ((0 : Int) - e) ∧ IntKind.i64.wrap ((0 : Int) - e) ≤ (2000000000 : Int),
 (((floatBits BinOp.quo FloatKind.f64 (floatOfInt FloatKind.f64 (IntKind.i64.wrap ((0 : Int) - v)))
    (pwB (IntKind.i64.wrap ((0 : Int) - e)).toNat)).isSome : Bool)) = (true)]) := by kernel_rfl

theorem pfl_6 (s a b : List UInt8) (m ok wk : Bool) (v e x : Int) : outcome Try.prog 11 (aBody Try.prog clK ⟨true, bs [(15, false), (24, false), (33, false), (36, false), (48, true), (52, false)] ++ ([(11, ⟨.tu [partsA m a b x, .c (.bool ok)], none⟩), (31, ⟨.c (.int .i64 e), none⟩), (45, ⟨.c (.int .i64 v), none⟩), (46, ⟨.c (.bool wk), none⟩)])⟩ (lpBy ([])) 60 11 ([.c (str s)]) ([])) = some ((AV.tu [(AV.c ((Value.float .f64 ((floatBits BinOp.mul FloatKind.f64 (floatOfInt FloatKind.f64 (IntKind.i64.wrap ((0 : Int) - v))) (pwB e.toNat)).getD
  (0 : Nat))))),
 (AV.c ((Value.bool true)))]), [((s.length : Nat) ≤ ((9223372036854775807 : Nat))),
 avEq ((AV.tu [(AV.ag [(AV.c ((Value.bool ((cutD (cutF (sb { data := { toList := s } }))).fst)))),
 (AV.c ((str ((cutD (cutF (sb { data := { toList := s } }))).snd.fst)))),
 (AV.c ((str ((cutD (cutF (sb { data := { toList := s } }))).snd.snd.fst)))),
 (AV.c ((Value.int .i64 ((cutD (cutF (sb { data := { toList := s } }))).snd.snd.snd))))]),
 (AV.c ((Value.bool ((cutF (sb { data := { toList := s } })).isSome))))])) ((AV.tu [(AV.ag [(AV.c ((Value.bool m))),
 (AV.c ((str (a)))),
 (AV.c ((str (b)))),
 (AV.c ((Value.int .i64 x)))]),
 (AV.c ((Value.bool ok)))])),
 (((4 : Nat) : Nat) ≤ ((4 : Nat))),
 ((!ok : Bool)) = (false),
 (((0 : Nat) : Nat) < ((3 : Nat))),
 (((0 : Nat) : Nat) < ((2 : Nat))),
 ((IntKind.i64.min : Int) ≤ ((↑a.length : Int) + (↑b.length : Int))),
 (((↑a.length : Int) + (↑b.length : Int) : Int) ≤ (IntKind.i64.max)),
 ((decide ((↑a.length : Int) + (↑b.length : Int) > (15 : Int)) : Bool)) = (false),
 (((0 : Nat) : Nat) < ((1 : Nat))),
 (((0 : Nat) : Nat) < ((2 : Nat))),
 ((IntKind.i64.min : Int) ≤ (x - (↑b.length : Int))),
 ((x - (↑b.length : Int) : Int) ≤ (IntKind.i64.max)),
 ((x - (↑b.length : Int) : Int)) = (e),
 ((decide (e < (-22 : Int)) : Bool)) = (false),
 ((decide (e > (22 : Int)) : Bool)) = (false),
 (((0 : Nat) : Nat) < ((3 : Nat))),
 (((0 : Nat) : Nat) < ((2 : Nat))),
 ((a.length + b.length : Nat) ≤ ((9223372036854775807 : Nat))),
 (((a ++ b).length : Nat) ≤ ((9223372036854775807 : Nat))),
 (((↑(wV (a ++ b)) : Int) : Int)) = (v),
 ((wOK (a ++ b) : Bool)) = (wk),
 (((0 : Nat) : Nat) < ((4 : Nat))),
 ((m : Bool)) = (true),
 ((decide (e < (0 : Int)) : Bool)) = (false),
 (0 : Int) ≤ e ∧ e ≤ (2000000000 : Int),
 (((floatBits BinOp.mul FloatKind.f64 (floatOfInt FloatKind.f64 (IntKind.i64.wrap ((0 : Int) - v))) (pwB e.toNat)).isSome : Bool)) = (true)]) := by kernel_rfl

theorem pfl_7 (s a b : List UInt8) (m ok wk : Bool) (v e x : Int) : outcome Try.prog 11 (aBody Try.prog clK ⟨true, bs [(15, false), (24, false), (33, false), (36, false), (48, false), (52, true)] ++ ([(11, ⟨.tu [partsA m a b x, .c (.bool ok)], none⟩), (31, ⟨.c (.int .i64 e), none⟩), (45, ⟨.c (.int .i64 v), none⟩), (46, ⟨.c (.bool wk), none⟩)])⟩ (lpBy ([])) 60 11 ([.c (str s)]) ([])) = some ((AV.tu [(AV.c ((Value.float .f64 ((floatBits BinOp.quo FloatKind.f64 (floatOfInt FloatKind.f64 v) (pwB (IntKind.i64.wrap ((0 : Int) - e)).toNat)).getD
  (0 : Nat))))),
 (AV.c ((Value.bool true)))]), [((s.length : Nat) ≤ ((9223372036854775807 : Nat))),
 avEq ((AV.tu [(AV.ag [(AV.c ((Value.bool ((cutD (cutF (sb { data := { toList := s } }))).fst)))),
 (AV.c ((str ((cutD (cutF (sb { data := { toList := s } }))).snd.fst)))),
 (AV.c ((str ((cutD (cutF (sb { data := { toList := s } }))).snd.snd.fst)))),
 (AV.c ((Value.int .i64 ((cutD (cutF (sb { data := { toList := s } }))).snd.snd.snd))))]),
 (AV.c ((Value.bool ((cutF (sb { data := { toList := s } })).isSome))))])) ((AV.tu [(AV.ag [(AV.c ((Value.bool m))),
 (AV.c ((str (a)))),
 (AV.c ((str (b)))),
 (AV.c ((Value.int .i64 x)))]),
 (AV.c ((Value.bool ok)))])),
 (((4 : Nat) : Nat) ≤ ((4 : Nat))),
 ((!ok : Bool)) = (false),
 (((0 : Nat) : Nat) < ((3 : Nat))),
 (((0 : Nat) : Nat) < ((2 : Nat))),
 ((IntKind.i64.min : Int) ≤ ((↑a.length : Int) + (↑b.length : Int))),
 (((↑a.length : Int) + (↑b.length : Int) : Int) ≤ (IntKind.i64.max)),
 ((decide ((↑a.length : Int) + (↑b.length : Int) > (15 : Int)) : Bool)) = (false),
 (((0 : Nat) : Nat) < ((1 : Nat))),
 (((0 : Nat) : Nat) < ((2 : Nat))),
 ((IntKind.i64.min : Int) ≤ (x - (↑b.length : Int))),
 ((x - (↑b.length : Int) : Int) ≤ (IntKind.i64.max)),
 ((x - (↑b.length : Int) : Int)) = (e),
 ((decide (e < (-22 : Int)) : Bool)) = (false),
 ((decide (e > (22 : Int)) : Bool)) = (false),
 (((0 : Nat) : Nat) < ((3 : Nat))),
 (((0 : Nat) : Nat) < ((2 : Nat))),
 ((a.length + b.length : Nat) ≤ ((9223372036854775807 : Nat))),
 (((a ++ b).length : Nat) ≤ ((9223372036854775807 : Nat))),
 (((↑(wV (a ++ b)) : Int) : Int)) = (v),
 ((wOK (a ++ b) : Bool)) = (wk),
 (((0 : Nat) : Nat) < ((4 : Nat))),
 ((m : Bool)) = (false),
 ((decide (e < (0 : Int)) : Bool)) = (true),
 (0 : Int) ≤ IntKind.i64.wrap ((0 : Int) - e) ∧ IntKind.i64.wrap ((0 : Int) - e) ≤ (2000000000 : Int),
 (((floatBits BinOp.quo FloatKind.f64 (floatOfInt FloatKind.f64 v) (pwB (IntKind.i64.wrap ((0 : Int) - e)).toNat)).isSome : Bool)) = (true)]) := by kernel_rfl

theorem pfl_8 (s a b : List UInt8) (m ok wk : Bool) (v e x : Int) : outcome Try.prog 11 (aBody Try.prog clK ⟨true, bs [(15, false), (24, false), (33, false), (36, false), (48, false), (52, false)] ++ ([(11, ⟨.tu [partsA m a b x, .c (.bool ok)], none⟩), (31, ⟨.c (.int .i64 e), none⟩), (45, ⟨.c (.int .i64 v), none⟩), (46, ⟨.c (.bool wk), none⟩)])⟩ (lpBy ([])) 60 11 ([.c (str s)]) ([])) = some ((AV.tu [(AV.c ((Value.float .f64 ((floatBits BinOp.mul FloatKind.f64 (floatOfInt FloatKind.f64 v) (pwB e.toNat)).getD (0 : Nat))))),
 (AV.c ((Value.bool true)))]), [((s.length : Nat) ≤ ((9223372036854775807 : Nat))),
 avEq ((AV.tu [(AV.ag [(AV.c ((Value.bool ((cutD (cutF (sb { data := { toList := s } }))).fst)))),
 (AV.c ((str ((cutD (cutF (sb { data := { toList := s } }))).snd.fst)))),
 (AV.c ((str ((cutD (cutF (sb { data := { toList := s } }))).snd.snd.fst)))),
 (AV.c ((Value.int .i64 ((cutD (cutF (sb { data := { toList := s } }))).snd.snd.snd))))]),
 (AV.c ((Value.bool ((cutF (sb { data := { toList := s } })).isSome))))])) ((AV.tu [(AV.ag [(AV.c ((Value.bool m))),
 (AV.c ((str (a)))),
 (AV.c ((str (b)))),
 (AV.c ((Value.int .i64 x)))]),
 (AV.c ((Value.bool ok)))])),
 (((4 : Nat) : Nat) ≤ ((4 : Nat))),
 ((!ok : Bool)) = (false),
 (((0 : Nat) : Nat) < ((3 : Nat))),
 (((0 : Nat) : Nat) < ((2 : Nat))),
 ((IntKind.i64.min : Int) ≤ ((↑a.length : Int) + (↑b.length : Int))),
 (((↑a.length : Int) + (↑b.length : Int) : Int) ≤ (IntKind.i64.max)),
 ((decide ((↑a.length : Int) + (↑b.length : Int) > (15 : Int)) : Bool)) = (false),
 (((0 : Nat) : Nat) < ((1 : Nat))),
 (((0 : Nat) : Nat) < ((2 : Nat))),
 ((IntKind.i64.min : Int) ≤ (x - (↑b.length : Int))),
 ((x - (↑b.length : Int) : Int) ≤ (IntKind.i64.max)),
 ((x - (↑b.length : Int) : Int)) = (e),
 ((decide (e < (-22 : Int)) : Bool)) = (false),
 ((decide (e > (22 : Int)) : Bool)) = (false),
 (((0 : Nat) : Nat) < ((3 : Nat))),
 (((0 : Nat) : Nat) < ((2 : Nat))),
 ((a.length + b.length : Nat) ≤ ((9223372036854775807 : Nat))),
 (((a ++ b).length : Nat) ≤ ((9223372036854775807 : Nat))),
 (((↑(wV (a ++ b)) : Int) : Int)) = (v),
 ((wOK (a ++ b) : Bool)) = (wk),
 (((0 : Nat) : Nat) < ((4 : Nat))),
 ((m : Bool)) = (false),
 ((decide (e < (0 : Int)) : Bool)) = (false),
 (0 : Int) ≤ e ∧ e ≤ (2000000000 : Int),
 (((floatBits BinOp.mul FloatKind.f64 (floatOfInt FloatKind.f64 v) (pwB e.toNat)).isSome : Bool)) = (true)]) := by kernel_rfl

theorem pfl_all (s a b : List UInt8) (m ok wk : Bool) (v e x : Int) (h1 : cutT (cutF s) = .tu [partsA m a b x, .c (.bool ok)]) (h2 : x - (b.length : Int) = e) (h3 : (wV (a ++ b) : Int) = v) (h4 : wOK (a ++ b) = wk) (l0 : s.length ≤ 9223372036854775807) (l1 : a.length ≤ 9223372036854775807) (l2 : b.length ≤ 9223372036854775807) (l3 : (a ++ b).length = a.length + b.length) (l4 : a.length + b.length ≤ s.length) (lx1 : -9999 ≤ x) (lx2 : x ≤ 9999) (lv0 : 0 ≤ v) (lv1 : v ≤ 9223372036854775807) (hs : stepsP (a.length + b.length) m v e) : ∃ (h : Hints) (p : List Prop), outcome Try.prog 11 (aBody Try.prog clK h (lpBy ([])) 60 11 ([.c (str s)]) ([])) = some (fltP m ok v (a.length + b.length) e, p) ∧ allP p := by
  cases hc15 : (!ok : Bool) with
  | true =>
    have eR := pfl_1 s a b m ok wk v e x
    refine ⟨_, _, eR.trans (congrArg (fun r => some (r, _)) ?_), ?_⟩
    · try clear eR
      try simp only [decide_eq_true_eq, decide_eq_false_iff_not, beq_iff_eq, beq_eq_false_iff_ne, bne_iff_ne, bne_eq_false_iff_eq, ne_eq] at hc15
      try simp only [toNat0, toNat1, toNat2, Int.toNat_natCast, sb_mk] at hc15
      unfold fltP wordP
      first
        | rw [if_neg (by rintro ⟨a1, a2, a3, a4⟩; omega)]
        | rw [if_neg (by rintro ⟨a1, a2, a3, a4⟩; rw [a1] at hc15; exact absurd hc15 (by decide))]
        | (rw [if_pos ⟨by simpa using hc15, by omega, by omega, by omega⟩]
           first
             | rw [if_pos hc52, show e.natAbs = (-e).toNat by omega]
             | rw [if_neg hc52, show e.natAbs = e.toNat by omega]
           try clear eR
           simp (disch := omega) only [hc48, i64_wrap, if_true, if_false, Bool.false_eq_true, Int.zero_sub])
    · try clear eR
      try simp only [decide_eq_true_eq, decide_eq_false_iff_not, beq_iff_eq, beq_eq_false_iff_ne, bne_iff_ne, bne_eq_false_iff_eq, ne_eq] at hc15
      try simp only [toNat0, toNat1, toNat2, Int.toNat_natCast, sb_mk] at hc15
      simp (disch := omega) only [allP, sb_mk, sl1, toNat0, toNat1, toNat2, Int.toNat_natCast, List.take_length, List.take_succ_cons, List.drop_succ_cons, List.drop_zero, List.take_zero, List.length_cons, List.length_nil, List.getD_cons_zero, i64_wrap, i32_wrap, u8_wrap, u32_wrap, tdN, tmN, i64_min, i64_max, u8_min, u8_max, decide_eq_true_eq, decide_eq_false_iff_not, beq_iff_eq, beq_eq_false_iff_ne, bne_iff_ne, bne_eq_false_iff_eq, ne_eq, not_false_eq_true, and_true, true_and, Int.zero_sub]
      repeat' apply And.intro
      all_goals first | exact True.intro | omega | with_reducible rfl | with_reducible assumption | (simpa only [hc48, if_true, if_false, Bool.false_eq_true] using (hs (by omega) (by omega) (by omega)).1 hc52) | (simpa only [hc48, if_true, if_false, Bool.false_eq_true] using (hs (by omega) (by omega) (by omega)).2 hc52) | exact h1 | exact h2 | exact h3 | exact h4 | exact l3 | exact hs | rfl
  | false =>
    cases hc24 : (decide ((↑a.length : Int) + (↑b.length : Int) > (15 : Int)) : Bool) with
    | true =>
      have eR := pfl_2 s a b m ok wk v e x
      refine ⟨_, _, eR.trans (congrArg (fun r => some (r, _)) ?_), ?_⟩
      · try clear eR
        try simp only [decide_eq_true_eq, decide_eq_false_iff_not, beq_iff_eq, beq_eq_false_iff_ne, bne_iff_ne, bne_eq_false_iff_eq, ne_eq] at hc15
        try simp only [toNat0, toNat1, toNat2, Int.toNat_natCast, sb_mk] at hc15
        try simp only [decide_eq_true_eq, decide_eq_false_iff_not, beq_iff_eq, beq_eq_false_iff_ne, bne_iff_ne, bne_eq_false_iff_eq, ne_eq] at hc24
        try simp only [toNat0, toNat1, toNat2, Int.toNat_natCast, sb_mk] at hc24
        unfold fltP wordP
        first
          | rw [if_neg (by rintro ⟨a1, a2, a3, a4⟩; omega)]
          | rw [if_neg (by rintro ⟨a1, a2, a3, a4⟩; rw [a1] at hc15; exact absurd hc15 (by decide))]
          | (rw [if_pos ⟨by simpa using hc15, by omega, by omega, by omega⟩]
             first
               | rw [if_pos hc52, show e.natAbs = (-e).toNat by omega]
               | rw [if_neg hc52, show e.natAbs = e.toNat by omega]
             try clear eR
             simp (disch := omega) only [hc48, i64_wrap, if_true, if_false, Bool.false_eq_true, Int.zero_sub])
      · try clear eR
        try simp only [decide_eq_true_eq, decide_eq_false_iff_not, beq_iff_eq, beq_eq_false_iff_ne, bne_iff_ne, bne_eq_false_iff_eq, ne_eq] at hc15
        try simp only [toNat0, toNat1, toNat2, Int.toNat_natCast, sb_mk] at hc15
        try simp only [decide_eq_true_eq, decide_eq_false_iff_not, beq_iff_eq, beq_eq_false_iff_ne, bne_iff_ne, bne_eq_false_iff_eq, ne_eq] at hc24
        try simp only [toNat0, toNat1, toNat2, Int.toNat_natCast, sb_mk] at hc24
        simp (disch := omega) only [allP, sb_mk, sl1, toNat0, toNat1, toNat2, Int.toNat_natCast, List.take_length, List.take_succ_cons, List.drop_succ_cons, List.drop_zero, List.take_zero, List.length_cons, List.length_nil, List.getD_cons_zero, i64_wrap, i32_wrap, u8_wrap, u32_wrap, tdN, tmN, i64_min, i64_max, u8_min, u8_max, decide_eq_true_eq, decide_eq_false_iff_not, beq_iff_eq, beq_eq_false_iff_ne, bne_iff_ne, bne_eq_false_iff_eq, ne_eq, not_false_eq_true, and_true, true_and, Int.zero_sub]
        repeat' apply And.intro
        all_goals first | exact True.intro | omega | with_reducible rfl | with_reducible assumption | (simpa only [hc48, if_true, if_false, Bool.false_eq_true] using (hs (by omega) (by omega) (by omega)).1 hc52) | (simpa only [hc48, if_true, if_false, Bool.false_eq_true] using (hs (by omega) (by omega) (by omega)).2 hc52) | exact h1 | exact h2 | exact h3 | exact h4 | exact l3 | exact hs | rfl
    | false =>
      cases hc33 : (decide (e < (-22 : Int)) : Bool) with
      | true =>
        have eR := pfl_3 s a b m ok wk v e x
        refine ⟨_, _, eR.trans (congrArg (fun r => some (r, _)) ?_), ?_⟩
        · try clear eR
          try simp only [decide_eq_true_eq, decide_eq_false_iff_not, beq_iff_eq, beq_eq_false_iff_ne, bne_iff_ne, bne_eq_false_iff_eq, ne_eq] at hc15
          try simp only [toNat0, toNat1, toNat2, Int.toNat_natCast, sb_mk] at hc15
          try simp only [decide_eq_true_eq, decide_eq_false_iff_not, beq_iff_eq, beq_eq_false_iff_ne, bne_iff_ne, bne_eq_false_iff_eq, ne_eq] at hc24
          try simp only [toNat0, toNat1, toNat2, Int.toNat_natCast, sb_mk] at hc24
          try simp only [decide_eq_true_eq, decide_eq_false_iff_not, beq_iff_eq, beq_eq_false_iff_ne, bne_iff_ne, bne_eq_false_iff_eq, ne_eq] at hc33
          try simp only [toNat0, toNat1, toNat2, Int.toNat_natCast, sb_mk] at hc33
          unfold fltP wordP
          first
            | rw [if_neg (by rintro ⟨a1, a2, a3, a4⟩; omega)]
            | rw [if_neg (by rintro ⟨a1, a2, a3, a4⟩; rw [a1] at hc15; exact absurd hc15 (by decide))]
            | (rw [if_pos ⟨by simpa using hc15, by omega, by omega, by omega⟩]
               first
                 | rw [if_pos hc52, show e.natAbs = (-e).toNat by omega]
                 | rw [if_neg hc52, show e.natAbs = e.toNat by omega]
               try clear eR
               simp (disch := omega) only [hc48, i64_wrap, if_true, if_false, Bool.false_eq_true, Int.zero_sub])
        · try clear eR
          try simp only [decide_eq_true_eq, decide_eq_false_iff_not, beq_iff_eq, beq_eq_false_iff_ne, bne_iff_ne, bne_eq_false_iff_eq, ne_eq] at hc15
          try simp only [toNat0, toNat1, toNat2, Int.toNat_natCast, sb_mk] at hc15
          try simp only [decide_eq_true_eq, decide_eq_false_iff_not, beq_iff_eq, beq_eq_false_iff_ne, bne_iff_ne, bne_eq_false_iff_eq, ne_eq] at hc24
          try simp only [toNat0, toNat1, toNat2, Int.toNat_natCast, sb_mk] at hc24
          try simp only [decide_eq_true_eq, decide_eq_false_iff_not, beq_iff_eq, beq_eq_false_iff_ne, bne_iff_ne, bne_eq_false_iff_eq, ne_eq] at hc33
          try simp only [toNat0, toNat1, toNat2, Int.toNat_natCast, sb_mk] at hc33
          simp (disch := omega) only [allP, sb_mk, sl1, toNat0, toNat1, toNat2, Int.toNat_natCast, List.take_length, List.take_succ_cons, List.drop_succ_cons, List.drop_zero, List.take_zero, List.length_cons, List.length_nil, List.getD_cons_zero, i64_wrap, i32_wrap, u8_wrap, u32_wrap, tdN, tmN, i64_min, i64_max, u8_min, u8_max, decide_eq_true_eq, decide_eq_false_iff_not, beq_iff_eq, beq_eq_false_iff_ne, bne_iff_ne, bne_eq_false_iff_eq, ne_eq, not_false_eq_true, and_true, true_and, Int.zero_sub]
          repeat' apply And.intro
          all_goals first | exact True.intro | omega | with_reducible rfl | with_reducible assumption | (simpa only [hc48, if_true, if_false, Bool.false_eq_true] using (hs (by omega) (by omega) (by omega)).1 hc52) | (simpa only [hc48, if_true, if_false, Bool.false_eq_true] using (hs (by omega) (by omega) (by omega)).2 hc52) | exact h1 | exact h2 | exact h3 | exact h4 | exact l3 | exact hs | rfl
      | false =>
        cases hc36 : (decide (e > (22 : Int)) : Bool) with
        | true =>
          have eR := pfl_4 s a b m ok wk v e x
          refine ⟨_, _, eR.trans (congrArg (fun r => some (r, _)) ?_), ?_⟩
          · try clear eR
            try simp only [decide_eq_true_eq, decide_eq_false_iff_not, beq_iff_eq, beq_eq_false_iff_ne, bne_iff_ne, bne_eq_false_iff_eq, ne_eq] at hc15
            try simp only [toNat0, toNat1, toNat2, Int.toNat_natCast, sb_mk] at hc15
            try simp only [decide_eq_true_eq, decide_eq_false_iff_not, beq_iff_eq, beq_eq_false_iff_ne, bne_iff_ne, bne_eq_false_iff_eq, ne_eq] at hc24
            try simp only [toNat0, toNat1, toNat2, Int.toNat_natCast, sb_mk] at hc24
            try simp only [decide_eq_true_eq, decide_eq_false_iff_not, beq_iff_eq, beq_eq_false_iff_ne, bne_iff_ne, bne_eq_false_iff_eq, ne_eq] at hc33
            try simp only [toNat0, toNat1, toNat2, Int.toNat_natCast, sb_mk] at hc33
            try simp only [decide_eq_true_eq, decide_eq_false_iff_not, beq_iff_eq, beq_eq_false_iff_ne, bne_iff_ne, bne_eq_false_iff_eq, ne_eq] at hc36
            try simp only [toNat0, toNat1, toNat2, Int.toNat_natCast, sb_mk] at hc36
            unfold fltP wordP
            first
              | rw [if_neg (by rintro ⟨a1, a2, a3, a4⟩; omega)]
              | rw [if_neg (by rintro ⟨a1, a2, a3, a4⟩; rw [a1] at hc15; exact absurd hc15 (by decide))]
              | (rw [if_pos ⟨by simpa using hc15, by omega, by omega, by omega⟩]
                 first
                   | rw [if_pos hc52, show e.natAbs = (-e).toNat by omega]
                   | rw [if_neg hc52, show e.natAbs = e.toNat by omega]
                 try clear eR
                 simp (disch := omega) only [hc48, i64_wrap, if_true, if_false, Bool.false_eq_true, Int.zero_sub])
          · try clear eR
            try simp only [decide_eq_true_eq, decide_eq_false_iff_not, beq_iff_eq, beq_eq_false_iff_ne, bne_iff_ne, bne_eq_false_iff_eq, ne_eq] at hc15
            try simp only [toNat0, toNat1, toNat2, Int.toNat_natCast, sb_mk] at hc15
            try simp only [decide_eq_true_eq, decide_eq_false_iff_not, beq_iff_eq, beq_eq_false_iff_ne, bne_iff_ne, bne_eq_false_iff_eq, ne_eq] at hc24
            try simp only [toNat0, toNat1, toNat2, Int.toNat_natCast, sb_mk] at hc24
            try simp only [decide_eq_true_eq, decide_eq_false_iff_not, beq_iff_eq, beq_eq_false_iff_ne, bne_iff_ne, bne_eq_false_iff_eq, ne_eq] at hc33
            try simp only [toNat0, toNat1, toNat2, Int.toNat_natCast, sb_mk] at hc33
            try simp only [decide_eq_true_eq, decide_eq_false_iff_not, beq_iff_eq, beq_eq_false_iff_ne, bne_iff_ne, bne_eq_false_iff_eq, ne_eq] at hc36
            try simp only [toNat0, toNat1, toNat2, Int.toNat_natCast, sb_mk] at hc36
            simp (disch := omega) only [allP, sb_mk, sl1, toNat0, toNat1, toNat2, Int.toNat_natCast, List.take_length, List.take_succ_cons, List.drop_succ_cons, List.drop_zero, List.take_zero, List.length_cons, List.length_nil, List.getD_cons_zero, i64_wrap, i32_wrap, u8_wrap, u32_wrap, tdN, tmN, i64_min, i64_max, u8_min, u8_max, decide_eq_true_eq, decide_eq_false_iff_not, beq_iff_eq, beq_eq_false_iff_ne, bne_iff_ne, bne_eq_false_iff_eq, ne_eq, not_false_eq_true, and_true, true_and, Int.zero_sub]
            repeat' apply And.intro
            all_goals first | exact True.intro | omega | with_reducible rfl | with_reducible assumption | (simpa only [hc48, if_true, if_false, Bool.false_eq_true] using (hs (by omega) (by omega) (by omega)).1 hc52) | (simpa only [hc48, if_true, if_false, Bool.false_eq_true] using (hs (by omega) (by omega) (by omega)).2 hc52) | exact h1 | exact h2 | exact h3 | exact h4 | exact l3 | exact hs | rfl
        | false =>
          cases hc48 : (m : Bool) with
          | true =>
            cases hc52 : (decide (e < (0 : Int)) : Bool) with
            | true =>
              have eR := pfl_5 s a b m ok wk v e x
              refine ⟨_, _, eR.trans (congrArg (fun r => some (r, _)) ?_), ?_⟩
              · try clear eR
                try simp only [decide_eq_true_eq, decide_eq_false_iff_not, beq_iff_eq, beq_eq_false_iff_ne, bne_iff_ne, bne_eq_false_iff_eq, ne_eq] at hc15
                try simp only [toNat0, toNat1, toNat2, Int.toNat_natCast, sb_mk] at hc15
                try simp only [decide_eq_true_eq, decide_eq_false_iff_not, beq_iff_eq, beq_eq_false_iff_ne, bne_iff_ne, bne_eq_false_iff_eq, ne_eq] at hc24
                try simp only [toNat0, toNat1, toNat2, Int.toNat_natCast, sb_mk] at hc24
                try simp only [decide_eq_true_eq, decide_eq_false_iff_not, beq_iff_eq, beq_eq_false_iff_ne, bne_iff_ne, bne_eq_false_iff_eq, ne_eq] at hc33
                try simp only [toNat0, toNat1, toNat2, Int.toNat_natCast, sb_mk] at hc33
                try simp only [decide_eq_true_eq, decide_eq_false_iff_not, beq_iff_eq, beq_eq_false_iff_ne, bne_iff_ne, bne_eq_false_iff_eq, ne_eq] at hc36
                try simp only [toNat0, toNat1, toNat2, Int.toNat_natCast, sb_mk] at hc36
                try simp only [decide_eq_true_eq, decide_eq_false_iff_not, beq_iff_eq, beq_eq_false_iff_ne, bne_iff_ne, bne_eq_false_iff_eq, ne_eq] at hc48
                try simp only [toNat0, toNat1, toNat2, Int.toNat_natCast, sb_mk] at hc48
                try simp only [decide_eq_true_eq, decide_eq_false_iff_not, beq_iff_eq, beq_eq_false_iff_ne, bne_iff_ne, bne_eq_false_iff_eq, ne_eq] at hc52
                try simp only [toNat0, toNat1, toNat2, Int.toNat_natCast, sb_mk] at hc52
                unfold fltP wordP
                first
                  | rw [if_neg (by rintro ⟨a1, a2, a3, a4⟩; omega)]
                  | rw [if_neg (by rintro ⟨a1, a2, a3, a4⟩; rw [a1] at hc15; exact absurd hc15 (by decide))]
                  | (rw [if_pos ⟨by simpa using hc15, by omega, by omega, by omega⟩]
                     first
                       | rw [if_pos hc52, show e.natAbs = (-e).toNat by omega]
                       | rw [if_neg hc52, show e.natAbs = e.toNat by omega]
                     try clear eR
                     simp (disch := omega) only [hc48, i64_wrap, if_true, if_false, Bool.false_eq_true, Int.zero_sub])
              · try clear eR
                try simp only [decide_eq_true_eq, decide_eq_false_iff_not, beq_iff_eq, beq_eq_false_iff_ne, bne_iff_ne, bne_eq_false_iff_eq, ne_eq] at hc15
                try simp only [toNat0, toNat1, toNat2, Int.toNat_natCast, sb_mk] at hc15
                try simp only [decide_eq_true_eq, decide_eq_false_iff_not, beq_iff_eq, beq_eq_false_iff_ne, bne_iff_ne, bne_eq_false_iff_eq, ne_eq] at hc24
                try simp only [toNat0, toNat1, toNat2, Int.toNat_natCast, sb_mk] at hc24
                try simp only [decide_eq_true_eq, decide_eq_false_iff_not, beq_iff_eq, beq_eq_false_iff_ne, bne_iff_ne, bne_eq_false_iff_eq, ne_eq] at hc33
                try simp only [toNat0, toNat1, toNat2, Int.toNat_natCast, sb_mk] at hc33
                try simp only [decide_eq_true_eq, decide_eq_false_iff_not, beq_iff_eq, beq_eq_false_iff_ne, bne_iff_ne, bne_eq_false_iff_eq, ne_eq] at hc36
                try simp only [toNat0, toNat1, toNat2, Int.toNat_natCast, sb_mk] at hc36
                try simp only [decide_eq_true_eq, decide_eq_false_iff_not, beq_iff_eq, beq_eq_false_iff_ne, bne_iff_ne, bne_eq_false_iff_eq, ne_eq] at hc48
                try simp only [toNat0, toNat1, toNat2, Int.toNat_natCast, sb_mk] at hc48
                try simp only [decide_eq_true_eq, decide_eq_false_iff_not, beq_iff_eq, beq_eq_false_iff_ne, bne_iff_ne, bne_eq_false_iff_eq, ne_eq] at hc52
                try simp only [toNat0, toNat1, toNat2, Int.toNat_natCast, sb_mk] at hc52
                simp (disch := omega) only [allP, sb_mk, sl1, toNat0, toNat1, toNat2, Int.toNat_natCast, List.take_length, List.take_succ_cons, List.drop_succ_cons, List.drop_zero, List.take_zero, List.length_cons, List.length_nil, List.getD_cons_zero, i64_wrap, i32_wrap, u8_wrap, u32_wrap, tdN, tmN, i64_min, i64_max, u8_min, u8_max, decide_eq_true_eq, decide_eq_false_iff_not, beq_iff_eq, beq_eq_false_iff_ne, bne_iff_ne, bne_eq_false_iff_eq, ne_eq, not_false_eq_true, and_true, true_and, Int.zero_sub]
                repeat' apply And.intro
                all_goals first | exact True.intro | omega | with_reducible rfl | with_reducible assumption | (simpa only [hc48, if_true, if_false, Bool.false_eq_true] using (hs (by omega) (by omega) (by omega)).1 hc52) | (simpa only [hc48, if_true, if_false, Bool.false_eq_true] using (hs (by omega) (by omega) (by omega)).2 hc52) | exact h1 | exact h2 | exact h3 | exact h4 | exact l3 | exact hs | rfl
            | false =>
              have eR := pfl_6 s a b m ok wk v e x
              refine ⟨_, _, eR.trans (congrArg (fun r => some (r, _)) ?_), ?_⟩
              · try clear eR
                try simp only [decide_eq_true_eq, decide_eq_false_iff_not, beq_iff_eq, beq_eq_false_iff_ne, bne_iff_ne, bne_eq_false_iff_eq, ne_eq] at hc15
                try simp only [toNat0, toNat1, toNat2, Int.toNat_natCast, sb_mk] at hc15
                try simp only [decide_eq_true_eq, decide_eq_false_iff_not, beq_iff_eq, beq_eq_false_iff_ne, bne_iff_ne, bne_eq_false_iff_eq, ne_eq] at hc24
                try simp only [toNat0, toNat1, toNat2, Int.toNat_natCast, sb_mk] at hc24
                try simp only [decide_eq_true_eq, decide_eq_false_iff_not, beq_iff_eq, beq_eq_false_iff_ne, bne_iff_ne, bne_eq_false_iff_eq, ne_eq] at hc33
                try simp only [toNat0, toNat1, toNat2, Int.toNat_natCast, sb_mk] at hc33
                try simp only [decide_eq_true_eq, decide_eq_false_iff_not, beq_iff_eq, beq_eq_false_iff_ne, bne_iff_ne, bne_eq_false_iff_eq, ne_eq] at hc36
                try simp only [toNat0, toNat1, toNat2, Int.toNat_natCast, sb_mk] at hc36
                try simp only [decide_eq_true_eq, decide_eq_false_iff_not, beq_iff_eq, beq_eq_false_iff_ne, bne_iff_ne, bne_eq_false_iff_eq, ne_eq] at hc48
                try simp only [toNat0, toNat1, toNat2, Int.toNat_natCast, sb_mk] at hc48
                try simp only [decide_eq_true_eq, decide_eq_false_iff_not, beq_iff_eq, beq_eq_false_iff_ne, bne_iff_ne, bne_eq_false_iff_eq, ne_eq] at hc52
                try simp only [toNat0, toNat1, toNat2, Int.toNat_natCast, sb_mk] at hc52
                unfold fltP wordP
                first
                  | rw [if_neg (by rintro ⟨a1, a2, a3, a4⟩; omega)]
                  | rw [if_neg (by rintro ⟨a1, a2, a3, a4⟩; rw [a1] at hc15; exact absurd hc15 (by decide))]
                  | (rw [if_pos ⟨by simpa using hc15, by omega, by omega, by omega⟩]
                     first
                       | rw [if_pos hc52, show e.natAbs = (-e).toNat by omega]
                       | rw [if_neg hc52, show e.natAbs = e.toNat by omega]
                     try clear eR
                     simp (disch := omega) only [hc48, i64_wrap, if_true, if_false, Bool.false_eq_true, Int.zero_sub])
              · try clear eR
                try simp only [decide_eq_true_eq, decide_eq_false_iff_not, beq_iff_eq, beq_eq_false_iff_ne, bne_iff_ne, bne_eq_false_iff_eq, ne_eq] at hc15
                try simp only [toNat0, toNat1, toNat2, Int.toNat_natCast, sb_mk] at hc15
                try simp only [decide_eq_true_eq, decide_eq_false_iff_not, beq_iff_eq, beq_eq_false_iff_ne, bne_iff_ne, bne_eq_false_iff_eq, ne_eq] at hc24
                try simp only [toNat0, toNat1, toNat2, Int.toNat_natCast, sb_mk] at hc24
                try simp only [decide_eq_true_eq, decide_eq_false_iff_not, beq_iff_eq, beq_eq_false_iff_ne, bne_iff_ne, bne_eq_false_iff_eq, ne_eq] at hc33
                try simp only [toNat0, toNat1, toNat2, Int.toNat_natCast, sb_mk] at hc33
                try simp only [decide_eq_true_eq, decide_eq_false_iff_not, beq_iff_eq, beq_eq_false_iff_ne, bne_iff_ne, bne_eq_false_iff_eq, ne_eq] at hc36
                try simp only [toNat0, toNat1, toNat2, Int.toNat_natCast, sb_mk] at hc36
                try simp only [decide_eq_true_eq, decide_eq_false_iff_not, beq_iff_eq, beq_eq_false_iff_ne, bne_iff_ne, bne_eq_false_iff_eq, ne_eq] at hc48
                try simp only [toNat0, toNat1, toNat2, Int.toNat_natCast, sb_mk] at hc48
                try simp only [decide_eq_true_eq, decide_eq_false_iff_not, beq_iff_eq, beq_eq_false_iff_ne, bne_iff_ne, bne_eq_false_iff_eq, ne_eq] at hc52
                try simp only [toNat0, toNat1, toNat2, Int.toNat_natCast, sb_mk] at hc52
                simp (disch := omega) only [allP, sb_mk, sl1, toNat0, toNat1, toNat2, Int.toNat_natCast, List.take_length, List.take_succ_cons, List.drop_succ_cons, List.drop_zero, List.take_zero, List.length_cons, List.length_nil, List.getD_cons_zero, i64_wrap, i32_wrap, u8_wrap, u32_wrap, tdN, tmN, i64_min, i64_max, u8_min, u8_max, decide_eq_true_eq, decide_eq_false_iff_not, beq_iff_eq, beq_eq_false_iff_ne, bne_iff_ne, bne_eq_false_iff_eq, ne_eq, not_false_eq_true, and_true, true_and, Int.zero_sub]
                repeat' apply And.intro
                all_goals first | exact True.intro | omega | with_reducible rfl | with_reducible assumption | (simpa only [hc48, if_true, if_false, Bool.false_eq_true] using (hs (by omega) (by omega) (by omega)).1 hc52) | (simpa only [hc48, if_true, if_false, Bool.false_eq_true] using (hs (by omega) (by omega) (by omega)).2 hc52) | exact h1 | exact h2 | exact h3 | exact h4 | exact l3 | exact hs | rfl
          | false =>
            cases hc52 : (decide (e < (0 : Int)) : Bool) with
            | true =>
              have eR := pfl_7 s a b m ok wk v e x
              refine ⟨_, _, eR.trans (congrArg (fun r => some (r, _)) ?_), ?_⟩
              · try clear eR
                try simp only [decide_eq_true_eq, decide_eq_false_iff_not, beq_iff_eq, beq_eq_false_iff_ne, bne_iff_ne, bne_eq_false_iff_eq, ne_eq] at hc15
                try simp only [toNat0, toNat1, toNat2, Int.toNat_natCast, sb_mk] at hc15
                try simp only [decide_eq_true_eq, decide_eq_false_iff_not, beq_iff_eq, beq_eq_false_iff_ne, bne_iff_ne, bne_eq_false_iff_eq, ne_eq] at hc24
                try simp only [toNat0, toNat1, toNat2, Int.toNat_natCast, sb_mk] at hc24
                try simp only [decide_eq_true_eq, decide_eq_false_iff_not, beq_iff_eq, beq_eq_false_iff_ne, bne_iff_ne, bne_eq_false_iff_eq, ne_eq] at hc33
                try simp only [toNat0, toNat1, toNat2, Int.toNat_natCast, sb_mk] at hc33
                try simp only [decide_eq_true_eq, decide_eq_false_iff_not, beq_iff_eq, beq_eq_false_iff_ne, bne_iff_ne, bne_eq_false_iff_eq, ne_eq] at hc36
                try simp only [toNat0, toNat1, toNat2, Int.toNat_natCast, sb_mk] at hc36
                try simp only [decide_eq_true_eq, decide_eq_false_iff_not, beq_iff_eq, beq_eq_false_iff_ne, bne_iff_ne, bne_eq_false_iff_eq, ne_eq] at hc48
                try simp only [toNat0, toNat1, toNat2, Int.toNat_natCast, sb_mk] at hc48
                try simp only [decide_eq_true_eq, decide_eq_false_iff_not, beq_iff_eq, beq_eq_false_iff_ne, bne_iff_ne, bne_eq_false_iff_eq, ne_eq] at hc52
                try simp only [toNat0, toNat1, toNat2, Int.toNat_natCast, sb_mk] at hc52
                unfold fltP wordP
                first
                  | rw [if_neg (by rintro ⟨a1, a2, a3, a4⟩; omega)]
                  | rw [if_neg (by rintro ⟨a1, a2, a3, a4⟩; rw [a1] at hc15; exact absurd hc15 (by decide))]
                  | (rw [if_pos ⟨by simpa using hc15, by omega, by omega, by omega⟩]
                     first
                       | rw [if_pos hc52, show e.natAbs = (-e).toNat by omega]
                       | rw [if_neg hc52, show e.natAbs = e.toNat by omega]
                     try clear eR
                     simp (disch := omega) only [hc48, i64_wrap, if_true, if_false, Bool.false_eq_true, Int.zero_sub])
              · try clear eR
                try simp only [decide_eq_true_eq, decide_eq_false_iff_not, beq_iff_eq, beq_eq_false_iff_ne, bne_iff_ne, bne_eq_false_iff_eq, ne_eq] at hc15
                try simp only [toNat0, toNat1, toNat2, Int.toNat_natCast, sb_mk] at hc15
                try simp only [decide_eq_true_eq, decide_eq_false_iff_not, beq_iff_eq, beq_eq_false_iff_ne, bne_iff_ne, bne_eq_false_iff_eq, ne_eq] at hc24
                try simp only [toNat0, toNat1, toNat2, Int.toNat_natCast, sb_mk] at hc24
                try simp only [decide_eq_true_eq, decide_eq_false_iff_not, beq_iff_eq, beq_eq_false_iff_ne, bne_iff_ne, bne_eq_false_iff_eq, ne_eq] at hc33
                try simp only [toNat0, toNat1, toNat2, Int.toNat_natCast, sb_mk] at hc33
                try simp only [decide_eq_true_eq, decide_eq_false_iff_not, beq_iff_eq, beq_eq_false_iff_ne, bne_iff_ne, bne_eq_false_iff_eq, ne_eq] at hc36
                try simp only [toNat0, toNat1, toNat2, Int.toNat_natCast, sb_mk] at hc36
                try simp only [decide_eq_true_eq, decide_eq_false_iff_not, beq_iff_eq, beq_eq_false_iff_ne, bne_iff_ne, bne_eq_false_iff_eq, ne_eq] at hc48
                try simp only [toNat0, toNat1, toNat2, Int.toNat_natCast, sb_mk] at hc48
                try simp only [decide_eq_true_eq, decide_eq_false_iff_not, beq_iff_eq, beq_eq_false_iff_ne, bne_iff_ne, bne_eq_false_iff_eq, ne_eq] at hc52
                try simp only [toNat0, toNat1, toNat2, Int.toNat_natCast, sb_mk] at hc52
                simp (disch := omega) only [allP, sb_mk, sl1, toNat0, toNat1, toNat2, Int.toNat_natCast, List.take_length, List.take_succ_cons, List.drop_succ_cons, List.drop_zero, List.take_zero, List.length_cons, List.length_nil, List.getD_cons_zero, i64_wrap, i32_wrap, u8_wrap, u32_wrap, tdN, tmN, i64_min, i64_max, u8_min, u8_max, decide_eq_true_eq, decide_eq_false_iff_not, beq_iff_eq, beq_eq_false_iff_ne, bne_iff_ne, bne_eq_false_iff_eq, ne_eq, not_false_eq_true, and_true, true_and, Int.zero_sub]
                repeat' apply And.intro
                all_goals first | exact True.intro | omega | with_reducible rfl | with_reducible assumption | (simpa only [hc48, if_true, if_false, Bool.false_eq_true] using (hs (by omega) (by omega) (by omega)).1 hc52) | (simpa only [hc48, if_true, if_false, Bool.false_eq_true] using (hs (by omega) (by omega) (by omega)).2 hc52) | exact h1 | exact h2 | exact h3 | exact h4 | exact l3 | exact hs | rfl
            | false =>
              have eR := pfl_8 s a b m ok wk v e x
              refine ⟨_, _, eR.trans (congrArg (fun r => some (r, _)) ?_), ?_⟩
              · try clear eR
                try simp only [decide_eq_true_eq, decide_eq_false_iff_not, beq_iff_eq, beq_eq_false_iff_ne, bne_iff_ne, bne_eq_false_iff_eq, ne_eq] at hc15
                try simp only [toNat0, toNat1, toNat2, Int.toNat_natCast, sb_mk] at hc15
                try simp only [decide_eq_true_eq, decide_eq_false_iff_not, beq_iff_eq, beq_eq_false_iff_ne, bne_iff_ne, bne_eq_false_iff_eq, ne_eq] at hc24
                try simp only [toNat0, toNat1, toNat2, Int.toNat_natCast, sb_mk] at hc24
                try simp only [decide_eq_true_eq, decide_eq_false_iff_not, beq_iff_eq, beq_eq_false_iff_ne, bne_iff_ne, bne_eq_false_iff_eq, ne_eq] at hc33
                try simp only [toNat0, toNat1, toNat2, Int.toNat_natCast, sb_mk] at hc33
                try simp only [decide_eq_true_eq, decide_eq_false_iff_not, beq_iff_eq, beq_eq_false_iff_ne, bne_iff_ne, bne_eq_false_iff_eq, ne_eq] at hc36
                try simp only [toNat0, toNat1, toNat2, Int.toNat_natCast, sb_mk] at hc36
                try simp only [decide_eq_true_eq, decide_eq_false_iff_not, beq_iff_eq, beq_eq_false_iff_ne, bne_iff_ne, bne_eq_false_iff_eq, ne_eq] at hc48
                try simp only [toNat0, toNat1, toNat2, Int.toNat_natCast, sb_mk] at hc48
                try simp only [decide_eq_true_eq, decide_eq_false_iff_not, beq_iff_eq, beq_eq_false_iff_ne, bne_iff_ne, bne_eq_false_iff_eq, ne_eq] at hc52
                try simp only [toNat0, toNat1, toNat2, Int.toNat_natCast, sb_mk] at hc52
                unfold fltP wordP
                first
                  | rw [if_neg (by rintro ⟨a1, a2, a3, a4⟩; omega)]
                  | rw [if_neg (by rintro ⟨a1, a2, a3, a4⟩; rw [a1] at hc15; exact absurd hc15 (by decide))]
                  | (rw [if_pos ⟨by simpa using hc15, by omega, by omega, by omega⟩]
                     first
                       | rw [if_pos hc52, show e.natAbs = (-e).toNat by omega]
                       | rw [if_neg hc52, show e.natAbs = e.toNat by omega]
                     try clear eR
                     simp (disch := omega) only [hc48, i64_wrap, if_true, if_false, Bool.false_eq_true, Int.zero_sub])
              · try clear eR
                try simp only [decide_eq_true_eq, decide_eq_false_iff_not, beq_iff_eq, beq_eq_false_iff_ne, bne_iff_ne, bne_eq_false_iff_eq, ne_eq] at hc15
                try simp only [toNat0, toNat1, toNat2, Int.toNat_natCast, sb_mk] at hc15
                try simp only [decide_eq_true_eq, decide_eq_false_iff_not, beq_iff_eq, beq_eq_false_iff_ne, bne_iff_ne, bne_eq_false_iff_eq, ne_eq] at hc24
                try simp only [toNat0, toNat1, toNat2, Int.toNat_natCast, sb_mk] at hc24
                try simp only [decide_eq_true_eq, decide_eq_false_iff_not, beq_iff_eq, beq_eq_false_iff_ne, bne_iff_ne, bne_eq_false_iff_eq, ne_eq] at hc33
                try simp only [toNat0, toNat1, toNat2, Int.toNat_natCast, sb_mk] at hc33
                try simp only [decide_eq_true_eq, decide_eq_false_iff_not, beq_iff_eq, beq_eq_false_iff_ne, bne_iff_ne, bne_eq_false_iff_eq, ne_eq] at hc36
                try simp only [toNat0, toNat1, toNat2, Int.toNat_natCast, sb_mk] at hc36
                try simp only [decide_eq_true_eq, decide_eq_false_iff_not, beq_iff_eq, beq_eq_false_iff_ne, bne_iff_ne, bne_eq_false_iff_eq, ne_eq] at hc48
                try simp only [toNat0, toNat1, toNat2, Int.toNat_natCast, sb_mk] at hc48
                try simp only [decide_eq_true_eq, decide_eq_false_iff_not, beq_iff_eq, beq_eq_false_iff_ne, bne_iff_ne, bne_eq_false_iff_eq, ne_eq] at hc52
                try simp only [toNat0, toNat1, toNat2, Int.toNat_natCast, sb_mk] at hc52
                simp (disch := omega) only [allP, sb_mk, sl1, toNat0, toNat1, toNat2, Int.toNat_natCast, List.take_length, List.take_succ_cons, List.drop_succ_cons, List.drop_zero, List.take_zero, List.length_cons, List.length_nil, List.getD_cons_zero, i64_wrap, i32_wrap, u8_wrap, u32_wrap, tdN, tmN, i64_min, i64_max, u8_min, u8_max, decide_eq_true_eq, decide_eq_false_iff_not, beq_iff_eq, beq_eq_false_iff_ne, bne_iff_ne, bne_eq_false_iff_eq, ne_eq, not_false_eq_true, and_true, true_and, Int.zero_sub]
                repeat' apply And.intro
                all_goals first | exact True.intro | omega | with_reducible rfl | with_reducible assumption | (simpa only [hc48, if_true, if_false, Bool.false_eq_true] using (hs (by omega) (by omega) (by omega)).1 hc52) | (simpa only [hc48, if_true, if_false, Bool.false_eq_true] using (hs (by omega) (by omega) (by omega)).2 hc52) | exact h1 | exact h2 | exact h3 | exact h4 | exact l3 | exact hs | rfl

/-- What is short, of the parts. -/
def shortF (o : Option (Bool × List UInt8 × List UInt8 × Int)) : Option (Bool × List UInt8 × Int) :=
  o.bind fun q => if q.2.1.length + q.2.2.1.length ≤ 15 ∧ -22 ≤ q.2.2.2 - q.2.2.1.length ∧ q.2.2.2 - q.2.2.1.length ≤ 22 then some (q.1, q.2.1 ++ q.2.2.1, q.2.2.2 - q.2.2.1.length) else none

theorem pre_cons (c : UInt8) (l : List UInt8) : (∃ r, l = c :: r ∧ preB [c] l = true ∧ cutPF [c] l = r) ∨ (l.head? ≠ some c ∧ preB [c] l = false ∧ cutPF [c] l = l) := by
  rcases l with _ | ⟨d, r⟩
  · refine .inr ⟨by simp, preB_nil, ?_⟩
    unfold cutPF; rw [preB_nil, if_neg (by simp)]
  · by_cases h : d = c
    · subst h
      have hp : preB [d] (d :: r) = true := by rw [preB_one]; exact decide_eq_true rfl
      refine .inl ⟨r, rfl, hp, ?_⟩
      unfold cutPF; rw [hp, if_pos rfl]; rfl
    · have hp : preB [c] (d :: r) = false := by rw [preB_one]; exact decide_eq_false h
      refine .inr ⟨by simpa using h, hp, ?_⟩
      unfold cutPF; rw [hp, if_neg (by simp)]

theorem bodyF_no (m : Bool) {l : List UInt8} (h : (l.dropWhile isD).head? ≠ some 46) : bodyF m l = finF m (l.takeWhile isD) 0 (l.dropWhile isD) := by
  unfold bodyF
  split
  · rename_i r e; rw [e] at h; simp at h
  · rfl
theorem bodyF_yes (m : Bool) {l r : List UInt8} (h : l.dropWhile isD = 46 :: r) : bodyF m l = if r.takeWhile isD = [] then none else finF m (l.takeWhile isD ++ r.takeWhile isD) (r.takeWhile isD).length (r.dropWhile isD) := by
  unfold bodyF
  rw [h]
  simp only
theorem floatF_no {l : List UInt8} (h : l.head? ≠ some 45) : floatF l = bodyF false l := by
  unfold floatF
  split
  · simp at h
  · rfl
theorem split_len (l : List UInt8) : (l.takeWhile isD).length + (l.dropWhile isD).length = l.length := by
  have := congrArg List.length (split_D l)
  rw [List.length_append] at this
  omega

theorem cut_body (m : Bool) (l : List UInt8) : shortF (let a := l.take (ldD l)
    let s2 := l.drop (ldD l)
    let s3 := cutPF [46] s2
    if preB [46] s2 = true then
      if s3.take (ldD s3) = [] then none else (expoF (s3.drop (ldD s3))).map fun e => (m, a, s3.take (ldD s3), e)
    else if a = [] then none else (expoF s3).map fun e => (m, a, [], e)) = bodyF m l := by
  simp only [take_ld, drop_ld]
  have fin : ∀ (a b : List UInt8) (r : List UInt8), (b = [] → a = [] → False) → shortF ((expoF r).map fun e => (m, a, b, e)) = finF m (a ++ b) b.length r := fun a b r hab => by
    unfold finF
    cases he : expoF r with
    | none => rfl
    | some e =>
      simp only [Option.map_some, shortF, Option.bind_some]
      have hne : a ++ b ≠ [] := fun e => by
        rw [List.append_eq_nil_iff] at e
        exact hab e.2 e.1
      by_cases hc : a.length + b.length ≤ 15 ∧ -22 ≤ e - (b.length : Int) ∧ e - (b.length : Int) ≤ 22
      · rw [if_pos hc, if_pos ⟨hne, by rw [List.length_append]; exact hc.1, hc.2⟩]
      · rw [if_neg hc, if_neg (fun h => hc ⟨by have := h.2.1; rw [List.length_append] at this; exact this, h.2.2⟩)]
  rcases pre_cons 46 (l.dropWhile isD) with ⟨r, e1, e2, e3⟩ | ⟨e1, e2, e3⟩
  · rw [e2, e3, if_pos rfl, bodyF_yes m e1]
    by_cases hb : r.takeWhile isD = []
    · rw [if_pos hb, if_pos hb]; rfl
    · rw [if_neg hb, if_neg hb]
      exact fin _ _ _ (fun h => absurd h hb)
  · rw [e2, e3, if_neg (by simp)]
    refine Eq.trans ?_ (bodyF_no m e1).symm
    by_cases ha : l.takeWhile isD = []
    · rw [if_pos ha, ha]
      unfold finF
      split
      · rw [if_neg (by simp)]; rfl
      · rfl
    · rw [if_neg ha]
      have := fin (l.takeWhile isD) [] (l.dropWhile isD) (fun _ h => ha h)
      rwa [List.append_nil] at this

theorem cut_float (l : List UInt8) : shortF (cutF l) = floatF l := by
  unfold cutF
  rcases pre_cons 45 l with ⟨r, e1, e2, e3⟩ | ⟨e1, e2, e3⟩
  · rw [e2, e3, e1]
    exact cut_body true r
  · rw [e2, e3]
    exact (cut_body false l).trans (floatF_no e1).symm

theorem cutF_small (l : List UInt8) : (cutD (cutF l)).2.1.length + (cutD (cutF l)).2.2.1.length ≤ l.length ∧ (cutD (cutF l)).2.1.length ≤ l.length ∧ (cutD (cutF l)).2.2.1.length ≤ l.length ∧ -9999 ≤ (cutD (cutF l)).2.2.2 ∧ (cutD (cutF l)).2.2.2 ≤ 9999 ∧ allD (cutD (cutF l)).2.1 = true ∧ allD (cutD (cutF l)).2.2.1 = true := by
  have l1 := cutPF_le [45] l
  have l2 := split_len (cutPF [45] l)
  have l3 := cutPF_le [46] ((cutPF [45] l).dropWhile isD)
  have l4 := split_len (cutPF [46] ((cutPF [45] l).dropWhile isD))
  have t1 := tw_all (cutPF [45] l)
  have t2 := tw_all (cutPF [46] ((cutPF [45] l).dropWhile isD))
  unfold cutF
  simp only [take_ld, drop_ld]
  have none_ok : (cutD none).2.1.length + (cutD none).2.2.1.length ≤ l.length ∧ (cutD none).2.1.length ≤ l.length ∧ (cutD none).2.2.1.length ≤ l.length ∧ -9999 ≤ (cutD none).2.2.2 ∧ (cutD none).2.2.2 ≤ 9999 ∧ allD (cutD none).2.1 = true ∧ allD (cutD none).2.2.1 = true := by
    refine ⟨Nat.zero_le _, Nat.zero_le _, Nat.zero_le _, ?_, ?_, rfl, rfl⟩ <;> decide
  have some_ok : ∀ (m : Bool) (a b r : List UInt8), a.length + b.length ≤ l.length → a.length ≤ l.length → b.length ≤ l.length → allD a = true → allD b = true → (cutD ((expoF r).map fun e => (m, a, b, e))).2.1.length + (cutD ((expoF r).map fun e => (m, a, b, e))).2.2.1.length ≤ l.length ∧ (cutD ((expoF r).map fun e => (m, a, b, e))).2.1.length ≤ l.length ∧ (cutD ((expoF r).map fun e => (m, a, b, e))).2.2.1.length ≤ l.length ∧ -9999 ≤ (cutD ((expoF r).map fun e => (m, a, b, e))).2.2.2 ∧ (cutD ((expoF r).map fun e => (m, a, b, e))).2.2.2 ≤ 9999 ∧ allD (cutD ((expoF r).map fun e => (m, a, b, e))).2.1 = true ∧ allD (cutD ((expoF r).map fun e => (m, a, b, e))).2.2.1 = true := fun m a b r hab ha hb h1 h2 => by
    have hx := expo_small (l := r)
    cases he : expoF r with
    | none => exact none_ok
    | some e =>
      rw [he] at hx
      exact ⟨hab, ha, hb, hx.1, hx.2, h1, h2⟩
  split
  · split
    · exact none_ok
    · exact some_ok _ _ _ _ (by omega) (by omega) (by omega) t1 t2
  · split
    · exact none_ok
    · exact some_ok _ _ _ _ (by simp only [List.length_nil]; omega) (by omega) (Nat.zero_le _) t1 rfl

theorem fltP_eq (l : List UInt8) : fltP (cutD (cutF l)).1 (cutF l).isSome (wV ((cutD (cutF l)).2.1 ++ (cutD (cutF l)).2.2.1) : Nat) ((cutD (cutF l)).2.1.length + (cutD (cutF l)).2.2.1.length) ((cutD (cutF l)).2.2.2 - ((cutD (cutF l)).2.2.1.length : Nat)) = fltT (floatF l) := by
  obtain ⟨hab, h1, h2, h3, h4, h5, h6⟩ := cutF_small l
  rw [← cut_float l]
  unfold fltP shortF
  cases hc : cutF l with
  | none => rfl
  | some q =>
    rw [hc] at h5 h6
    simp only [cutD, Option.getD_some, Option.isSome_some, Option.bind_some, true_and] at h5 h6 ⊢
    by_cases hh : q.2.1.length + q.2.2.1.length ≤ 15 ∧ -22 ≤ q.2.2.2 - (q.2.2.1.length : Int) ∧ q.2.2.2 - (q.2.2.1.length : Int) ≤ 22
    · rw [if_pos hh, if_pos hh]
      have ha : allD (q.2.1 ++ q.2.2.1) = true := by rw [allD_app, h5, h6]; rfl
      have hl : (q.2.1 ++ q.2.2.1).length ≤ 15 := by rw [List.length_append]; exact hh.1
      have hv := decV_len ha 15 hl
      rw [wV_short ha (by omega)]
      rw [wordP_eq _ (Nat.le_of_lt hv) hh.2.1 hh.2.2, ← wordF_eq _ (Nat.le_of_lt hv) hh.2.1 hh.2.2]
      rfl
    · rw [if_neg hh, if_neg hh]; rfl

def pfloatSpec : Spec
  | [.c (.string s)] => some (fltT (floatF (sb s)), [(sb s).length ≤ 9223372036854775807])
  | _ => none

theorem pfloat_ok : SpecOK Try.prog 11 pfloatSpec := by
  refine spec_of mixed clK_ok fun args r q hs hq => ?_
  unfold pfloatSpec at hs
  split at hs
  · rename_i l
    simp only [Option.some.injEq, Prod.mk.injEq] at hs
    obtain ⟨rfl, rfl⟩ := hs
    obtain ⟨⟨⟨l⟩⟩, rfl⟩ : ∃ b : ByteArray, b = l := ⟨l, rfl⟩
    simp only [sb_mk, allP, and_true] at hq ⊢
    obtain ⟨hab, h1, h2, h3, h4, h5, h6⟩ := cutF_small l
    have ha : allD ((cutD (cutF l)).2.1 ++ (cutD (cutF l)).2.2.1) = true := by rw [allD_app, h5, h6]; rfl
    have hv := wV_le ((cutD (cutF l)).2.1 ++ (cutD (cutF l)).2.2.1)
    obtain ⟨hh, p, e, hp⟩ := pfl_all l (cutD (cutF l)).2.1 (cutD (cutF l)).2.2.1 (cutD (cutF l)).1 (cutF l).isSome _ _ _ (cutD (cutF l)).2.2.2 rfl rfl rfl rfl (by omega) (by omega) (by omega) (List.length_append ..) hab h3 h4 (by omega) (by omega)
      (stepsP_ok fun hn => by
        rw [wV_short ha (by rw [List.length_append]; omega)]
        exact Nat.le_of_lt (decV_len ha 15 (by rw [List.length_append]; exact hn)))
    exact ⟨_, _, _, _, lpBy_nil, e.trans (congrArg (fun r => some (r, p)) (fltP_eq l)), hp⟩
  · simp at hs

end Go.Proofs.Ytigglgobiofalaa
