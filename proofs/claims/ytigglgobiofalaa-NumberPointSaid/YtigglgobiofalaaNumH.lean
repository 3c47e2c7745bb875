/- The program's own: digits cut off, the exponent, powers of ten. -/
import Derived.Test.YtigglgobiofalaaNumG
import Derived.Test.YtigglgobiofalaaStr
namespace Go.Proofs.Ytigglgobiofalaa
open Go.RowKit Num
set_option linter.unusedVariables false
set_option linter.unusedSimpArgs false

def cutDSpec : Spec
  | [.c (.string s)] => some (.tu [.c (str ((sb s).take (ldD (sb s)))), .c (str ((sb s).drop (ldD (sb s))))], [(sb s).length ≤ 9223372036854775807])
  | _ => none

theorem pcd_1 (l : List UInt8) (n : Nat) : outcome Try.prog 24 (aBody Try.prog clH ⟨true, bs [] ++ ([(6, ⟨.c (.int .i64 n), none⟩)])⟩ (lpBy ([])) 60 24 ([.c (str l)]) ([])) = some ((AV.tu [(AV.c ((str (List.drop (Int.toNat (0 : Int)) (List.take n l))))),
 (AV.c ((str (List.drop n (List.take l.length l)))))]), [((l.length : Nat) ≤ ((9223372036854775807 : Nat))),
 (((↑(ldD l) : Int) : Int)) = ((↑n : Int)),
 (((0 : Int) : Int) ≤ ((0 : Int))),
 (((0 : Int) : Int) ≤ ((↑n : Int))),
 (((↑n : Int) : Int) ≤ ((↑l.length : Int))),
 (((0 : Int) : Int) ≤ ((↑n : Int))),
 (((↑n : Int) : Int) ≤ ((↑l.length : Int))),
 (((↑l.length : Int) : Int) ≤ ((↑l.length : Int)))]) := by kernel_rfl

theorem pcd_all (l : List UInt8) (n : Nat) (hn : ldD l = n) (hl : l.length ≤ 9223372036854775807) (hnl : n ≤ l.length) : ∃ (h : Hints) (p : List Prop), outcome Try.prog 24 (aBody Try.prog clH h (lpBy ([])) 60 24 ([.c (str l)]) ([])) = some (.tu [.c (str (l.take n)), .c (str (l.drop n))], p) ∧ allP p := by
  have eR := pcd_1 l n
  refine ⟨_, _, eR.trans (congrArg (fun r => some (r, _)) ?_), ?_⟩
  · try clear eR
    simp only [sb_mk, List.take_length, Int.toNat_natCast, toNat0, List.drop_zero]
  · try clear eR
    simp (disch := omega) only [allP, sb_mk, sl1, toNat0, toNat1, toNat2, Int.toNat_natCast, List.take_length, List.take_succ_cons, List.drop_succ_cons, List.drop_zero, List.take_zero, List.length_cons, List.length_nil, List.getD_cons_zero, i64_wrap, i32_wrap, u8_wrap, u32_wrap, tdN, tmN, i64_min, i64_max, u8_min, u8_max, decide_eq_true_eq, decide_eq_false_iff_not, beq_iff_eq, beq_eq_false_iff_ne, bne_iff_ne, bne_eq_false_iff_eq, ne_eq, not_false_eq_true, and_true, true_and, Int.zero_sub]
    repeat' apply And.intro
    all_goals first | exact True.intro | omega | with_reducible rfl | with_reducible assumption | exact hn | rfl

theorem pcutD_ok : SpecOK Try.prog 24 cutDSpec := by
  refine spec_of mixed clH_ok fun args r q hs hq => ?_
  unfold cutDSpec at hs
  split at hs
  · rename_i l
    simp only [Option.some.injEq, Prod.mk.injEq] at hs
    obtain ⟨rfl, rfl⟩ := hs
    obtain ⟨⟨⟨l⟩⟩, rfl⟩ : ∃ b : ByteArray, b = l := ⟨l, rfl⟩
    simp only [sb_mk, allP, and_true] at hq ⊢
    have := ldD_le l
    obtain ⟨hh, p, e, hp⟩ := pcd_all l _ rfl hq this
    exact ⟨_, _, _, _, lpBy_nil, e, hp⟩
  · simp at hs

/-! Powers of ten. -/
def ptS (n : Int) (x i : Nat) : St := ⟨frame 11 [(3, .c (.float .f64 x)), (4, .c (.int .i64 n)), (5, .c (.int .i64 i))], []⟩

theorem pt_1 (n : Int) (x i : Nat) : roundOut (⟨[], [3, 4, 5], []⟩) (aCode Try.prog cl0 ⟨true, bs [(6, true)] ++ ([])⟩ (lpBy ([])) 60 (lbody Try.prog 19 3) (ptS n x i)) = some (.normal, ptS n ((floatBits .mul .f64 x 4621819117588971520).getD 0) (i + 1), [((decide ((↑i : Int) < n) : Bool)) = (true),
 (((floatBits BinOp.mul FloatKind.f64 x (4621819117588971520 : Nat)).isSome : Bool)) = (true),
 ((IntKind.i64.min : Int) ≤ ((↑i : Int) + (1 : Int))),
 (((↑i : Int) + (1 : Int) : Int) ≤ (IntKind.i64.max))]) := by kernel_rfl

theorem pt_2 (n : Int) (x i : Nat) : roundOut (⟨[], [3, 4, 5], []⟩) (aCode Try.prog cl0 ⟨true, bs [(6, false)] ++ ([])⟩ (lpBy ([])) 60 (lbody Try.prog 19 3) (ptS n x i)) = some (.exit 0, ptS n x i, [((decide ((↑i : Int) < n) : Bool)) = (false)]) := by kernel_rfl

theorem pt_walk (n : Nat) (h : n ≤ 2000000000) : Tri Ext0 Try.prog (.loop (lbody Try.prog 19 3)) (ptS n (pwB 0) 0) (.exit 0) (ptS n (pwB n) n) := by
  refine loop_up mixed cl0_ok (fun i => ptS n (pwB i) i) n (by simp) (fun i hi => ?_) ?_ 0 (Nat.zero_le _)
  · have h1 := pw_some i
    refine ⟨_, _, _, _, _, lpBy_nil, List.nodup_nil, pt_1 n (pwB i) i, ?_⟩
    simp only [allP, and_true, decide_eq_true_eq, decide_eq_false_iff_not, i64_min, i64_max]
    repeat' apply And.intro
    all_goals first | exact h1 | omega
  · refine ⟨_, _, _, _, _, lpBy_nil, List.nodup_nil, pt_2 n (pwB n) n, ?_⟩
    simp only [allP, and_true, decide_eq_true_eq, decide_eq_false_iff_not, i64_min, i64_max]
    omega

noncomputable def ptLp (n : Nat) : List (Nat × Lp) := [(3, ⟨lbody Try.prog 19 3, ⟨[], [3, 4, 5], []⟩, ptS n (pwB 0) 0, .exit 0, ptS n (pwB n) n⟩)]

theorem pth_1 (n : Nat) : outcome Try.prog 19 (aBody Try.prog cl0 ⟨true, bs [] ++ ([])⟩ (lpBy (ptLp n)) 60 19 ([.c (.int .i64 (n : Nat))]) ([])) = some ((AV.c ((Value.float .f64 (pwB n)))), [((lbody Try.prog (19 : FuncId) (3 : Nat) : Go.Code)) = (lbody Try.prog (19 : FuncId) (3 : Nat)),
 ((ptS (↑n : Int) (4607182418800017408 : Nat) (0 : Nat) : Go.Proofs.Ytigglgobiofalaa.St)) = (ptS (↑n : Int) (4607182418800017408 : Nat) (0 : Nat))]) := by kernel_rfl

theorem pth_all (n : Nat)  : ∃ (h : Hints) (p : List Prop), outcome Try.prog 19 (aBody Try.prog cl0 h (lpBy (ptLp n)) 60 19 ([.c (.int .i64 (n : Nat))]) ([])) = some (.c (.float .f64 (pwB n)), p) ∧ allP p := by
  have eR := pth_1 n
  refine ⟨_, _, eR.trans (congrArg (fun r => some (r, _)) ?_), ?_⟩
  · rfl
  · simp only [decide_eq_true_eq, decide_eq_false_iff_not, beq_iff_eq, beq_eq_false_iff_ne, ne_eq] at *
    simp (disch := omega) only [allP, tdN, tmN, i64_wrap, i32_wrap, u8_wrap, u32_wrap, bytesOK_cons, bytesOK_nil, decide_eq_true_eq, decide_eq_false_iff_not, beq_iff_eq, beq_eq_false_iff_ne, ne_eq, not_false_eq_true, and_true, true_and, i64_min, i64_max, u8_min, u8_max]
    repeat' apply And.intro
    all_goals first | omega | assumption | rfl | exact avEq_refl _

def tenSpec : Spec
  | [.c (.int .i64 n)] => some (.c (.float .f64 (pwB n.toNat)), [0 ≤ n ∧ n ≤ 2000000000])
  | _ => none

theorem pten_ok : SpecOK Try.prog 19 tenSpec := by
  refine spec_of mixed cl0_ok fun args r q hs hq => ?_
  unfold tenSpec at hs
  split at hs
  · rename_i n
    simp only [Option.some.injEq, Prod.mk.injEq] at hs
    obtain ⟨rfl, rfl⟩ := hs
    simp only [allP, and_true] at hq ⊢
    obtain ⟨k, rfl⟩ : ∃ k : Nat, n = (k : Int) := ⟨n.toNat, by omega⟩
    obtain ⟨hh, p, e, hp⟩ := pth_all k
    exact ⟨_, _, _, _, lpBy_cons lpBy_nil List.nodup_nil (pt_walk k (by omega)), e, hp⟩
  · simp at hs

/-! The exponent. -/
def pexpoSpec : Spec
  | [.c (.string s)] => some (exT (expoF (sb s)), [(sb s).length ≤ 9223372036854775807])
  | _ => none

noncomputable def clI : CallT := aCall Try.prog (sgBy [(27, cutPreSpec), (30, trimPreSpec), (9, pwholeSpec), (24, cutDSpec), (15, pdigitsSpec)]) 500 8
theorem clI_ok : CallOK Try.prog clI := aCall_ok mixed (sgBy_cons cutPre_ok (sgBy_cons trimPre_ok (sgBy_cons pwhole_ok (sgBy_cons pcutD_ok (sgBy_cons prun_ok sgBy_nil))))) 500 8

theorem px0_1  : outcome Try.prog 25 (aBody Try.prog clI ⟨true, bs [] ++ ([])⟩ (lpBy ([])) 60 25 ([.c (str [])]) ([])) = some ((AV.tu [(AV.c ((Value.int .i64 0))),
 (AV.c ((Value.bool true)))]), []) := by kernel_rfl

theorem px0_all   : ∃ (h : Hints) (p : List Prop), outcome Try.prog 25 (aBody Try.prog clI h (lpBy ([])) 60 25 ([.c (str [])]) ([])) = some (.tu [.c (.int .i64 0), .c (.bool true)], p) ∧ allP p := by
  have eR := px0_1 
  refine ⟨_, _, eR.trans (congrArg (fun r => some (r, _)) ?_), ?_⟩
  · rfl
  · simp only [allP]
    repeat' apply And.intro
    all_goals first | exact True.intro | decide

theorem px1_1 (c : UInt8) (r : List UInt8) : outcome Try.prog 25 (aBody Try.prog clI ⟨true, bs [] ++ (bs [(11, true), (15, true)])⟩ (lpBy ([])) 60 25 ([.c (str (c :: r))]) ([])) = some ((AV.tu [(AV.c ((Value.int .i64 0))),
 (AV.c ((Value.bool false)))]), [(((0 : Int) : Int) ≤ ((0 : Int))),
 (((0 : Int) : Int) < ((↑(c :: r).length : Int))),
 (((↑((c :: r).getD (Int.toNat (0 : Int)) (0 : UInt8)).toNat : Int) != (101 : Int) : Bool)) = (true),
 (((0 : Int) : Int) ≤ ((0 : Int))),
 (((0 : Int) : Int) < ((↑(c :: r).length : Int))),
 (((↑((c :: r).getD (Int.toNat (0 : Int)) (0 : UInt8)).toNat : Int) != (69 : Int) : Bool)) = (true)]) := by kernel_rfl

theorem px1_all (c : UInt8) (r : List UInt8) (h1 : ¬ (c.toNat : Int) = 101) (h2 : ¬ (c.toNat : Int) = 69) : ∃ (h : Hints) (p : List Prop), outcome Try.prog 25 (aBody Try.prog clI h (lpBy ([])) 60 25 ([.c (str (c :: r))]) ([])) = some (.tu [.c (.int .i64 0), .c (.bool false)], p) ∧ allP p := by
  have eR := px1_1 c r
  refine ⟨_, _, eR.trans (congrArg (fun r => some (r, _)) ?_), ?_⟩
  · try clear eR
    first | rfl | (simp (disch := omega) only [sb_mk, sl1, toNat0, toNat1, toNat2, Int.toNat_natCast, List.take_length, List.take_succ_cons, List.drop_succ_cons, List.drop_zero, List.take_zero, List.length_cons, List.length_nil, List.getD_cons_zero, i64_wrap, i32_wrap, u8_wrap, u32_wrap, tdN, tmN, i64_min, i64_max, u8_min, u8_max, decide_eq_true_eq, decide_eq_false_iff_not, beq_iff_eq, beq_eq_false_iff_ne, bne_iff_ne, bne_eq_false_iff_eq, ne_eq, not_false_eq_true, and_true, true_and, Int.zero_sub]; done)
  · try clear eR
    simp (disch := omega) only [allP, sb_mk, sl1, toNat0, toNat1, toNat2, Int.toNat_natCast, List.take_length, List.take_succ_cons, List.drop_succ_cons, List.drop_zero, List.take_zero, List.length_cons, List.length_nil, List.getD_cons_zero, i64_wrap, i32_wrap, u8_wrap, u32_wrap, tdN, tmN, i64_min, i64_max, u8_min, u8_max, decide_eq_true_eq, decide_eq_false_iff_not, beq_iff_eq, beq_eq_false_iff_ne, bne_iff_ne, bne_eq_false_iff_eq, ne_eq, not_false_eq_true, and_true, true_and, Int.zero_sub]
    repeat' apply And.intro
    all_goals first | exact True.intro | omega | with_reducible rfl | with_reducible assumption | exact h1 | exact h2 | rfl

theorem pxTa_1 (r q : List UInt8) : outcome Try.prog 25 (aBody Try.prog clI ⟨true, bs [(33, true)] ++ ([(19, ⟨.c (str r), none⟩), (21, ⟨.c (str q), none⟩), (22, ⟨.c (.bool true), none⟩), (30, ⟨.c (.int .i64 (wV q : Nat)), none⟩), (31, ⟨.c (.bool (wOK q)), none⟩)])⟩ (lpBy ([])) 60 25 ([.c (str (101 :: r))]) ([])) = some ((AV.tu [(AV.c ((Value.int .i64 0))),
 (AV.c ((Value.bool false)))]), [(((0 : Int) : Int) ≤ ((0 : Int))),
 (((0 : Int) : Int) < ((↑((101 : UInt8) :: r).length : Int))),
 (((0 : Int) : Int) ≤ ((1 : Int))),
 (((1 : Int) : Int) ≤ ((↑((101 : UInt8) :: r).length : Int))),
 (((↑((101 : UInt8) :: r).length : Int) : Int) ≤ ((↑((101 : UInt8) :: r).length : Int))),
 ((List.drop (Int.toNat (1 : Int)) (List.take ((101 : UInt8) :: r).length ((101 : UInt8) :: r)) : List UInt8)) = (r),
 ((r.length : Nat) ≤ ((9223372036854775807 : Nat))),
 ((cutPF [(45 : UInt8)] r : List UInt8)) = (q),
 ((preB [(45 : UInt8)] r : Bool)) = (true),
 ((q.length : Nat) ≤ ((9223372036854775807 : Nat))),
 (((↑(wV q) : Int) : Int)) = ((↑(wV q) : Int)),
 ((wOK q : Bool)) = (wOK q),
 ((!wOK q : Bool)) = (true)]) := by kernel_rfl

theorem pxTa_2 (r q : List UInt8) : outcome Try.prog 25 (aBody Try.prog clI ⟨true, bs [(33, false), (37, true)] ++ ([(19, ⟨.c (str r), none⟩), (21, ⟨.c (str q), none⟩), (22, ⟨.c (.bool true), none⟩), (30, ⟨.c (.int .i64 (wV q : Nat)), none⟩), (31, ⟨.c (.bool (wOK q)), none⟩)])⟩ (lpBy ([])) 60 25 ([.c (str (101 :: r))]) ([])) = some ((AV.tu [(AV.c ((Value.int .i64 0))),
 (AV.c ((Value.bool false)))]), [(((0 : Int) : Int) ≤ ((0 : Int))),
 (((0 : Int) : Int) < ((↑((101 : UInt8) :: r).length : Int))),
 (((0 : Int) : Int) ≤ ((1 : Int))),
 (((1 : Int) : Int) ≤ ((↑((101 : UInt8) :: r).length : Int))),
 (((↑((101 : UInt8) :: r).length : Int) : Int) ≤ ((↑((101 : UInt8) :: r).length : Int))),
 ((List.drop (Int.toNat (1 : Int)) (List.take ((101 : UInt8) :: r).length ((101 : UInt8) :: r)) : List UInt8)) = (r),
 ((r.length : Nat) ≤ ((9223372036854775807 : Nat))),
 ((cutPF [(45 : UInt8)] r : List UInt8)) = (q),
 ((preB [(45 : UInt8)] r : Bool)) = (true),
 ((q.length : Nat) ≤ ((9223372036854775807 : Nat))),
 (((↑(wV q) : Int) : Int)) = ((↑(wV q) : Int)),
 ((wOK q : Bool)) = (wOK q),
 ((!wOK q : Bool)) = (false),
 ((decide ((↑q.length : Int) > (4 : Int)) : Bool)) = (true)]) := by kernel_rfl

theorem pxTa_3 (r q : List UInt8) : outcome Try.prog 25 (aBody Try.prog clI ⟨true, bs [(33, false), (37, false)] ++ ([(19, ⟨.c (str r), none⟩), (21, ⟨.c (str q), none⟩), (22, ⟨.c (.bool true), none⟩), (30, ⟨.c (.int .i64 (wV q : Nat)), none⟩), (31, ⟨.c (.bool (wOK q)), none⟩)])⟩ (lpBy ([])) 60 25 ([.c (str (101 :: r))]) ([])) = some ((AV.tu [(AV.c ((Value.int .i64 (IntKind.i64.wrap ((0 : Int) - (↑(wV q) : Int)))))),
 (AV.c ((Value.bool true)))]), [(((0 : Int) : Int) ≤ ((0 : Int))),
 (((0 : Int) : Int) < ((↑((101 : UInt8) :: r).length : Int))),
 (((0 : Int) : Int) ≤ ((1 : Int))),
 (((1 : Int) : Int) ≤ ((↑((101 : UInt8) :: r).length : Int))),
 (((↑((101 : UInt8) :: r).length : Int) : Int) ≤ ((↑((101 : UInt8) :: r).length : Int))),
 ((List.drop (Int.toNat (1 : Int)) (List.take ((101 : UInt8) :: r).length ((101 : UInt8) :: r)) : List UInt8)) = (r),
 ((r.length : Nat) ≤ ((9223372036854775807 : Nat))),
 ((cutPF [(45 : UInt8)] r : List UInt8)) = (q),
 ((preB [(45 : UInt8)] r : Bool)) = (true),
 ((q.length : Nat) ≤ ((9223372036854775807 : Nat))),
 (((↑(wV q) : Int) : Int)) = ((↑(wV q) : Int)),
 ((wOK q : Bool)) = (wOK q),
 ((!wOK q : Bool)) = (false),
 ((decide ((↑q.length : Int) > (4 : Int)) : Bool)) = (false)]) := by kernel_rfl

theorem pxTa_all (r q : List UInt8) (hb : preB [45] r = true) (hr : cutPF [45] r = q) (hl : r.length ≤ 9223372036854775807) (hql : q.length ≤ r.length) (hv : wV q ≤ 9223372036854775807) : ∃ (h : Hints) (p : List Prop), outcome Try.prog 25 (aBody Try.prog clI h (lpBy ([])) 60 25 ([.c (str (101 :: r))]) ([])) = some (exG (-1) q, p) ∧ allP p := by
  cases hc33 : (!wOK q : Bool) with
  | true =>
    have eR := pxTa_1 r q
    refine ⟨_, _, eR.trans (congrArg (fun r => some (r, _)) ?_), ?_⟩
    · try clear eR
      try simp only [decide_eq_true_eq, decide_eq_false_iff_not, beq_iff_eq, beq_eq_false_iff_ne, bne_iff_ne, bne_eq_false_iff_eq, ne_eq] at hc33
      try simp only [toNat0, toNat1, toNat2, Int.toNat_natCast, sb_mk] at hc33
      try clear eR
      unfold exG
      first
        | (rw [if_pos ⟨by simpa using hc33, by omega⟩, i64_wrap (by omega) (by omega), Int.zero_sub, Int.neg_mul, Int.one_mul])
        | rw [if_neg (by rintro ⟨a, b⟩; omega)]
        | rw [if_neg (by rintro ⟨a, b⟩; rw [a] at hc33; simp at hc33)]
    · try clear eR
      try simp only [decide_eq_true_eq, decide_eq_false_iff_not, beq_iff_eq, beq_eq_false_iff_ne, bne_iff_ne, bne_eq_false_iff_eq, ne_eq] at hc33
      try simp only [toNat0, toNat1, toNat2, Int.toNat_natCast, sb_mk] at hc33
      simp (disch := omega) only [allP, sb_mk, sl1, toNat0, toNat1, toNat2, Int.toNat_natCast, List.take_length, List.take_succ_cons, List.drop_succ_cons, List.drop_zero, List.take_zero, List.length_cons, List.length_nil, List.getD_cons_zero, i64_wrap, i32_wrap, u8_wrap, u32_wrap, tdN, tmN, i64_min, i64_max, u8_min, u8_max, decide_eq_true_eq, decide_eq_false_iff_not, beq_iff_eq, beq_eq_false_iff_ne, bne_iff_ne, bne_eq_false_iff_eq, ne_eq, not_false_eq_true, and_true, true_and, Int.zero_sub]
      repeat' apply And.intro
      all_goals first | exact True.intro | omega | with_reducible rfl | with_reducible assumption | exact hb | exact hr | rfl
  | false =>
    cases hc37 : (decide ((↑q.length : Int) > (4 : Int)) : Bool) with
    | true =>
      have eR := pxTa_2 r q
      refine ⟨_, _, eR.trans (congrArg (fun r => some (r, _)) ?_), ?_⟩
      · try clear eR
        try simp only [decide_eq_true_eq, decide_eq_false_iff_not, beq_iff_eq, beq_eq_false_iff_ne, bne_iff_ne, bne_eq_false_iff_eq, ne_eq] at hc33
        try simp only [toNat0, toNat1, toNat2, Int.toNat_natCast, sb_mk] at hc33
        try simp only [decide_eq_true_eq, decide_eq_false_iff_not, beq_iff_eq, beq_eq_false_iff_ne, bne_iff_ne, bne_eq_false_iff_eq, ne_eq] at hc37
        try simp only [toNat0, toNat1, toNat2, Int.toNat_natCast, sb_mk] at hc37
        try clear eR
        unfold exG
        first
          | (rw [if_pos ⟨by simpa using hc33, by omega⟩, i64_wrap (by omega) (by omega), Int.zero_sub, Int.neg_mul, Int.one_mul])
          | rw [if_neg (by rintro ⟨a, b⟩; omega)]
          | rw [if_neg (by rintro ⟨a, b⟩; rw [a] at hc33; simp at hc33)]
      · try clear eR
        try simp only [decide_eq_true_eq, decide_eq_false_iff_not, beq_iff_eq, beq_eq_false_iff_ne, bne_iff_ne, bne_eq_false_iff_eq, ne_eq] at hc33
        try simp only [toNat0, toNat1, toNat2, Int.toNat_natCast, sb_mk] at hc33
        try simp only [decide_eq_true_eq, decide_eq_false_iff_not, beq_iff_eq, beq_eq_false_iff_ne, bne_iff_ne, bne_eq_false_iff_eq, ne_eq] at hc37
        try simp only [toNat0, toNat1, toNat2, Int.toNat_natCast, sb_mk] at hc37
        simp (disch := omega) only [allP, sb_mk, sl1, toNat0, toNat1, toNat2, Int.toNat_natCast, List.take_length, List.take_succ_cons, List.drop_succ_cons, List.drop_zero, List.take_zero, List.length_cons, List.length_nil, List.getD_cons_zero, i64_wrap, i32_wrap, u8_wrap, u32_wrap, tdN, tmN, i64_min, i64_max, u8_min, u8_max, decide_eq_true_eq, decide_eq_false_iff_not, beq_iff_eq, beq_eq_false_iff_ne, bne_iff_ne, bne_eq_false_iff_eq, ne_eq, not_false_eq_true, and_true, true_and, Int.zero_sub]
        repeat' apply And.intro
        all_goals first | exact True.intro | omega | with_reducible rfl | with_reducible assumption | exact hb | exact hr | rfl
    | false =>
      have eR := pxTa_3 r q
      refine ⟨_, _, eR.trans (congrArg (fun r => some (r, _)) ?_), ?_⟩
      · try clear eR
        try simp only [decide_eq_true_eq, decide_eq_false_iff_not, beq_iff_eq, beq_eq_false_iff_ne, bne_iff_ne, bne_eq_false_iff_eq, ne_eq] at hc33
        try simp only [toNat0, toNat1, toNat2, Int.toNat_natCast, sb_mk] at hc33
        try simp only [decide_eq_true_eq, decide_eq_false_iff_not, beq_iff_eq, beq_eq_false_iff_ne, bne_iff_ne, bne_eq_false_iff_eq, ne_eq] at hc37
        try simp only [toNat0, toNat1, toNat2, Int.toNat_natCast, sb_mk] at hc37
        try clear eR
        unfold exG
        first
          | (rw [if_pos ⟨by simpa using hc33, by omega⟩, i64_wrap (by omega) (by omega), Int.zero_sub, Int.neg_mul, Int.one_mul])
          | rw [if_neg (by rintro ⟨a, b⟩; omega)]
          | rw [if_neg (by rintro ⟨a, b⟩; rw [a] at hc33; simp at hc33)]
      · try clear eR
        try simp only [decide_eq_true_eq, decide_eq_false_iff_not, beq_iff_eq, beq_eq_false_iff_ne, bne_iff_ne, bne_eq_false_iff_eq, ne_eq] at hc33
        try simp only [toNat0, toNat1, toNat2, Int.toNat_natCast, sb_mk] at hc33
        try simp only [decide_eq_true_eq, decide_eq_false_iff_not, beq_iff_eq, beq_eq_false_iff_ne, bne_iff_ne, bne_eq_false_iff_eq, ne_eq] at hc37
        try simp only [toNat0, toNat1, toNat2, Int.toNat_natCast, sb_mk] at hc37
        simp (disch := omega) only [allP, sb_mk, sl1, toNat0, toNat1, toNat2, Int.toNat_natCast, List.take_length, List.take_succ_cons, List.drop_succ_cons, List.drop_zero, List.take_zero, List.length_cons, List.length_nil, List.getD_cons_zero, i64_wrap, i32_wrap, u8_wrap, u32_wrap, tdN, tmN, i64_min, i64_max, u8_min, u8_max, decide_eq_true_eq, decide_eq_false_iff_not, beq_iff_eq, beq_eq_false_iff_ne, bne_iff_ne, bne_eq_false_iff_eq, ne_eq, not_false_eq_true, and_true, true_and, Int.zero_sub]
        repeat' apply And.intro
        all_goals first | exact True.intro | omega | with_reducible rfl | with_reducible assumption | exact hb | exact hr | rfl

theorem pxFa_1 (r q1 q : List UInt8) : outcome Try.prog 25 (aBody Try.prog clI ⟨true, bs [(33, true)] ++ ([(19, ⟨.c (str r), none⟩), (21, ⟨.c (str q1), none⟩), (22, ⟨.c (.bool false), none⟩), (26, ⟨.c (str q), none⟩), (30, ⟨.c (.int .i64 (wV q : Nat)), none⟩), (31, ⟨.c (.bool (wOK q)), none⟩)])⟩ (lpBy ([])) 60 25 ([.c (str (101 :: r))]) ([])) = some ((AV.tu [(AV.c ((Value.int .i64 0))),
 (AV.c ((Value.bool false)))]), [(((0 : Int) : Int) ≤ ((0 : Int))),
 (((0 : Int) : Int) < ((↑((101 : UInt8) :: r).length : Int))),
 (((0 : Int) : Int) ≤ ((1 : Int))),
 (((1 : Int) : Int) ≤ ((↑((101 : UInt8) :: r).length : Int))),
 (((↑((101 : UInt8) :: r).length : Int) : Int) ≤ ((↑((101 : UInt8) :: r).length : Int))),
 ((List.drop (Int.toNat (1 : Int)) (List.take ((101 : UInt8) :: r).length ((101 : UInt8) :: r)) : List UInt8)) = (r),
 ((r.length : Nat) ≤ ((9223372036854775807 : Nat))),
 ((cutPF [(45 : UInt8)] r : List UInt8)) = (q1),
 ((preB [(45 : UInt8)] r : Bool)) = (false),
 ((q1.length : Nat) ≤ ((9223372036854775807 : Nat))),
 ((trimPF [(43 : UInt8)] q1 : List UInt8)) = (q),
 ((q.length : Nat) ≤ ((9223372036854775807 : Nat))),
 (((↑(wV q) : Int) : Int)) = ((↑(wV q) : Int)),
 ((wOK q : Bool)) = (wOK q),
 ((!wOK q : Bool)) = (true)]) := by kernel_rfl

theorem pxFa_2 (r q1 q : List UInt8) : outcome Try.prog 25 (aBody Try.prog clI ⟨true, bs [(33, false), (37, true)] ++ ([(19, ⟨.c (str r), none⟩), (21, ⟨.c (str q1), none⟩), (22, ⟨.c (.bool false), none⟩), (26, ⟨.c (str q), none⟩), (30, ⟨.c (.int .i64 (wV q : Nat)), none⟩), (31, ⟨.c (.bool (wOK q)), none⟩)])⟩ (lpBy ([])) 60 25 ([.c (str (101 :: r))]) ([])) = some ((AV.tu [(AV.c ((Value.int .i64 0))),
 (AV.c ((Value.bool false)))]), [(((0 : Int) : Int) ≤ ((0 : Int))),
 (((0 : Int) : Int) < ((↑((101 : UInt8) :: r).length : Int))),
 (((0 : Int) : Int) ≤ ((1 : Int))),
 (((1 : Int) : Int) ≤ ((↑((101 : UInt8) :: r).length : Int))),
 (((↑((101 : UInt8) :: r).length : Int) : Int) ≤ ((↑((101 : UInt8) :: r).length : Int))),
 ((List.drop (Int.toNat (1 : Int)) (List.take ((101 : UInt8) :: r).length ((101 : UInt8) :: r)) : List UInt8)) = (r),
 ((r.length : Nat) ≤ ((9223372036854775807 : Nat))),
 ((cutPF [(45 : UInt8)] r : List UInt8)) = (q1),
 ((preB [(45 : UInt8)] r : Bool)) = (false),
 ((q1.length : Nat) ≤ ((9223372036854775807 : Nat))),
 ((trimPF [(43 : UInt8)] q1 : List UInt8)) = (q),
 ((q.length : Nat) ≤ ((9223372036854775807 : Nat))),
 (((↑(wV q) : Int) : Int)) = ((↑(wV q) : Int)),
 ((wOK q : Bool)) = (wOK q),
 ((!wOK q : Bool)) = (false),
 ((decide ((↑q.length : Int) > (4 : Int)) : Bool)) = (true)]) := by kernel_rfl

theorem pxFa_3 (r q1 q : List UInt8) : outcome Try.prog 25 (aBody Try.prog clI ⟨true, bs [(33, false), (37, false)] ++ ([(19, ⟨.c (str r), none⟩), (21, ⟨.c (str q1), none⟩), (22, ⟨.c (.bool false), none⟩), (26, ⟨.c (str q), none⟩), (30, ⟨.c (.int .i64 (wV q : Nat)), none⟩), (31, ⟨.c (.bool (wOK q)), none⟩)])⟩ (lpBy ([])) 60 25 ([.c (str (101 :: r))]) ([])) = some ((AV.tu [(AV.c ((Value.int .i64 ((↑(wV q) : Int))))),
 (AV.c ((Value.bool true)))]), [(((0 : Int) : Int) ≤ ((0 : Int))),
 (((0 : Int) : Int) < ((↑((101 : UInt8) :: r).length : Int))),
 (((0 : Int) : Int) ≤ ((1 : Int))),
 (((1 : Int) : Int) ≤ ((↑((101 : UInt8) :: r).length : Int))),
 (((↑((101 : UInt8) :: r).length : Int) : Int) ≤ ((↑((101 : UInt8) :: r).length : Int))),
 ((List.drop (Int.toNat (1 : Int)) (List.take ((101 : UInt8) :: r).length ((101 : UInt8) :: r)) : List UInt8)) = (r),
 ((r.length : Nat) ≤ ((9223372036854775807 : Nat))),
 ((cutPF [(45 : UInt8)] r : List UInt8)) = (q1),
 ((preB [(45 : UInt8)] r : Bool)) = (false),
 ((q1.length : Nat) ≤ ((9223372036854775807 : Nat))),
 ((trimPF [(43 : UInt8)] q1 : List UInt8)) = (q),
 ((q.length : Nat) ≤ ((9223372036854775807 : Nat))),
 (((↑(wV q) : Int) : Int)) = ((↑(wV q) : Int)),
 ((wOK q : Bool)) = (wOK q),
 ((!wOK q : Bool)) = (false),
 ((decide ((↑q.length : Int) > (4 : Int)) : Bool)) = (false)]) := by kernel_rfl

theorem pxFa_all (r q1 q : List UInt8) (hb : preB [45] r = false) (hr : cutPF [45] r = q1) (hr2 : trimPF [43] q1 = q) (hl : r.length ≤ 9223372036854775807) (hq1 : q1.length ≤ r.length) (hql : q.length ≤ r.length) (hv : wV q ≤ 9223372036854775807) : ∃ (h : Hints) (p : List Prop), outcome Try.prog 25 (aBody Try.prog clI h (lpBy ([])) 60 25 ([.c (str (101 :: r))]) ([])) = some (exG 1 q, p) ∧ allP p := by
  cases hc33 : (!wOK q : Bool) with
  | true =>
    have eR := pxFa_1 r q1 q
    refine ⟨_, _, eR.trans (congrArg (fun r => some (r, _)) ?_), ?_⟩
    · try clear eR
      try simp only [decide_eq_true_eq, decide_eq_false_iff_not, beq_iff_eq, beq_eq_false_iff_ne, bne_iff_ne, bne_eq_false_iff_eq, ne_eq] at hc33
      try simp only [toNat0, toNat1, toNat2, Int.toNat_natCast, sb_mk] at hc33
      try clear eR
      unfold exG
      first
        | (rw [if_pos ⟨by simpa using hc33, by omega⟩, Int.one_mul])
        | rw [if_neg (by rintro ⟨a, b⟩; omega)]
        | rw [if_neg (by rintro ⟨a, b⟩; rw [a] at hc33; simp at hc33)]
    · try clear eR
      try simp only [decide_eq_true_eq, decide_eq_false_iff_not, beq_iff_eq, beq_eq_false_iff_ne, bne_iff_ne, bne_eq_false_iff_eq, ne_eq] at hc33
      try simp only [toNat0, toNat1, toNat2, Int.toNat_natCast, sb_mk] at hc33
      simp (disch := omega) only [allP, sb_mk, sl1, toNat0, toNat1, toNat2, Int.toNat_natCast, List.take_length, List.take_succ_cons, List.drop_succ_cons, List.drop_zero, List.take_zero, List.length_cons, List.length_nil, List.getD_cons_zero, i64_wrap, i32_wrap, u8_wrap, u32_wrap, tdN, tmN, i64_min, i64_max, u8_min, u8_max, decide_eq_true_eq, decide_eq_false_iff_not, beq_iff_eq, beq_eq_false_iff_ne, bne_iff_ne, bne_eq_false_iff_eq, ne_eq, not_false_eq_true, and_true, true_and, Int.zero_sub]
      repeat' apply And.intro
      all_goals first | exact True.intro | omega | with_reducible rfl | with_reducible assumption | exact hb | exact hr | exact hr2 | rfl
  | false =>
    cases hc37 : (decide ((↑q.length : Int) > (4 : Int)) : Bool) with
    | true =>
      have eR := pxFa_2 r q1 q
      refine ⟨_, _, eR.trans (congrArg (fun r => some (r, _)) ?_), ?_⟩
      · try clear eR
        try simp only [decide_eq_true_eq, decide_eq_false_iff_not, beq_iff_eq, beq_eq_false_iff_ne, bne_iff_ne, bne_eq_false_iff_eq, ne_eq] at hc33
        try simp only [toNat0, toNat1, toNat2, Int.toNat_natCast, sb_mk] at hc33
        try simp only [decide_eq_true_eq, decide_eq_false_iff_not, beq_iff_eq, beq_eq_false_iff_ne, bne_iff_ne, bne_eq_false_iff_eq, ne_eq] at hc37
        try simp only [toNat0, toNat1, toNat2, Int.toNat_natCast, sb_mk] at hc37
        try clear eR
        unfold exG
        first
          | (rw [if_pos ⟨by simpa using hc33, by omega⟩, Int.one_mul])
          | rw [if_neg (by rintro ⟨a, b⟩; omega)]
          | rw [if_neg (by rintro ⟨a, b⟩; rw [a] at hc33; simp at hc33)]
      · try clear eR
        try simp only [decide_eq_true_eq, decide_eq_false_iff_not, beq_iff_eq, beq_eq_false_iff_ne, bne_iff_ne, bne_eq_false_iff_eq, ne_eq] at hc33
        try simp only [toNat0, toNat1, toNat2, Int.toNat_natCast, sb_mk] at hc33
        try simp only [decide_eq_true_eq, decide_eq_false_iff_not, beq_iff_eq, beq_eq_false_iff_ne, bne_iff_ne, bne_eq_false_iff_eq, ne_eq] at hc37
        try simp only [toNat0, toNat1, toNat2, Int.toNat_natCast, sb_mk] at hc37
        simp (disch := omega) only [allP, sb_mk, sl1, toNat0, toNat1, toNat2, Int.toNat_natCast, List.take_length, List.take_succ_cons, List.drop_succ_cons, List.drop_zero, List.take_zero, List.length_cons, List.length_nil, List.getD_cons_zero, i64_wrap, i32_wrap, u8_wrap, u32_wrap, tdN, tmN, i64_min, i64_max, u8_min, u8_max, decide_eq_true_eq, decide_eq_false_iff_not, beq_iff_eq, beq_eq_false_iff_ne, bne_iff_ne, bne_eq_false_iff_eq, ne_eq, not_false_eq_true, and_true, true_and, Int.zero_sub]
        repeat' apply And.intro
        all_goals first | exact True.intro | omega | with_reducible rfl | with_reducible assumption | exact hb | exact hr | exact hr2 | rfl
    | false =>
      have eR := pxFa_3 r q1 q
      refine ⟨_, _, eR.trans (congrArg (fun r => some (r, _)) ?_), ?_⟩
      · try clear eR
        try simp only [decide_eq_true_eq, decide_eq_false_iff_not, beq_iff_eq, beq_eq_false_iff_ne, bne_iff_ne, bne_eq_false_iff_eq, ne_eq] at hc33
        try simp only [toNat0, toNat1, toNat2, Int.toNat_natCast, sb_mk] at hc33
        try simp only [decide_eq_true_eq, decide_eq_false_iff_not, beq_iff_eq, beq_eq_false_iff_ne, bne_iff_ne, bne_eq_false_iff_eq, ne_eq] at hc37
        try simp only [toNat0, toNat1, toNat2, Int.toNat_natCast, sb_mk] at hc37
        try clear eR
        unfold exG
        first
          | (rw [if_pos ⟨by simpa using hc33, by omega⟩, Int.one_mul])
          | rw [if_neg (by rintro ⟨a, b⟩; omega)]
          | rw [if_neg (by rintro ⟨a, b⟩; rw [a] at hc33; simp at hc33)]
      · try clear eR
        try simp only [decide_eq_true_eq, decide_eq_false_iff_not, beq_iff_eq, beq_eq_false_iff_ne, bne_iff_ne, bne_eq_false_iff_eq, ne_eq] at hc33
        try simp only [toNat0, toNat1, toNat2, Int.toNat_natCast, sb_mk] at hc33
        try simp only [decide_eq_true_eq, decide_eq_false_iff_not, beq_iff_eq, beq_eq_false_iff_ne, bne_iff_ne, bne_eq_false_iff_eq, ne_eq] at hc37
        try simp only [toNat0, toNat1, toNat2, Int.toNat_natCast, sb_mk] at hc37
        simp (disch := omega) only [allP, sb_mk, sl1, toNat0, toNat1, toNat2, Int.toNat_natCast, List.take_length, List.take_succ_cons, List.drop_succ_cons, List.drop_zero, List.take_zero, List.length_cons, List.length_nil, List.getD_cons_zero, i64_wrap, i32_wrap, u8_wrap, u32_wrap, tdN, tmN, i64_min, i64_max, u8_min, u8_max, decide_eq_true_eq, decide_eq_false_iff_not, beq_iff_eq, beq_eq_false_iff_ne, bne_iff_ne, bne_eq_false_iff_eq, ne_eq, not_false_eq_true, and_true, true_and, Int.zero_sub]
        repeat' apply And.intro
        all_goals first | exact True.intro | omega | with_reducible rfl | with_reducible assumption | exact hb | exact hr | exact hr2 | rfl


theorem pxTb_1 (r q : List UInt8) : outcome Try.prog 25 (aBody Try.prog clI ⟨true, bs [(33, true)] ++ ([(19, ⟨.c (str r), none⟩), (21, ⟨.c (str q), none⟩), (22, ⟨.c (.bool true), none⟩), (30, ⟨.c (.int .i64 (wV q : Nat)), none⟩), (31, ⟨.c (.bool (wOK q)), none⟩)])⟩ (lpBy ([])) 60 25 ([.c (str (69 :: r))]) ([])) = some ((AV.tu [(AV.c ((Value.int .i64 0))),
 (AV.c ((Value.bool false)))]), [(((0 : Int) : Int) ≤ ((0 : Int))),
 (((0 : Int) : Int) < ((↑((69 : UInt8) :: r).length : Int))),
 (((0 : Int) : Int) ≤ ((0 : Int))),
 (((0 : Int) : Int) < ((↑((69 : UInt8) :: r).length : Int))),
 (((0 : Int) : Int) ≤ ((1 : Int))),
 (((1 : Int) : Int) ≤ ((↑((69 : UInt8) :: r).length : Int))),
 (((↑((69 : UInt8) :: r).length : Int) : Int) ≤ ((↑((69 : UInt8) :: r).length : Int))),
 ((List.drop (Int.toNat (1 : Int)) (List.take ((69 : UInt8) :: r).length ((69 : UInt8) :: r)) : List UInt8)) = (r),
 ((r.length : Nat) ≤ ((9223372036854775807 : Nat))),
 ((cutPF [(45 : UInt8)] r : List UInt8)) = (q),
 ((preB [(45 : UInt8)] r : Bool)) = (true),
 ((q.length : Nat) ≤ ((9223372036854775807 : Nat))),
 (((↑(wV q) : Int) : Int)) = ((↑(wV q) : Int)),
 ((wOK q : Bool)) = (wOK q),
 ((!wOK q : Bool)) = (true)]) := by kernel_rfl

theorem pxTb_2 (r q : List UInt8) : outcome Try.prog 25 (aBody Try.prog clI ⟨true, bs [(33, false), (37, true)] ++ ([(19, ⟨.c (str r), none⟩), (21, ⟨.c (str q), none⟩), (22, ⟨.c (.bool true), none⟩), (30, ⟨.c (.int .i64 (wV q : Nat)), none⟩), (31, ⟨.c (.bool (wOK q)), none⟩)])⟩ (lpBy ([])) 60 25 ([.c (str (69 :: r))]) ([])) = some ((AV.tu [(AV.c ((Value.int .i64 0))),
 (AV.c ((Value.bool false)))]), [(((0 : Int) : Int) ≤ ((0 : Int))),
 (((0 : Int) : Int) < ((↑((69 : UInt8) :: r).length : Int))),
 (((0 : Int) : Int) ≤ ((0 : Int))),
 (((0 : Int) : Int) < ((↑((69 : UInt8) :: r).length : Int))),
 (((0 : Int) : Int) ≤ ((1 : Int))),
 (((1 : Int) : Int) ≤ ((↑((69 : UInt8) :: r).length : Int))),
 (((↑((69 : UInt8) :: r).length : Int) : Int) ≤ ((↑((69 : UInt8) :: r).length : Int))),
 ((List.drop (Int.toNat (1 : Int)) (List.take ((69 : UInt8) :: r).length ((69 : UInt8) :: r)) : List UInt8)) = (r),
 ((r.length : Nat) ≤ ((9223372036854775807 : Nat))),
 ((cutPF [(45 : UInt8)] r : List UInt8)) = (q),
 ((preB [(45 : UInt8)] r : Bool)) = (true),
 ((q.length : Nat) ≤ ((9223372036854775807 : Nat))),
 (((↑(wV q) : Int) : Int)) = ((↑(wV q) : Int)),
 ((wOK q : Bool)) = (wOK q),
 ((!wOK q : Bool)) = (false),
 ((decide ((↑q.length : Int) > (4 : Int)) : Bool)) = (true)]) := by kernel_rfl

theorem pxTb_3 (r q : List UInt8) : outcome Try.prog 25 (aBody Try.prog clI ⟨true, bs [(33, false), (37, false)] ++ ([(19, ⟨.c (str r), none⟩), (21, ⟨.c (str q), none⟩), (22, ⟨.c (.bool true), none⟩), (30, ⟨.c (.int .i64 (wV q : Nat)), none⟩), (31, ⟨.c (.bool (wOK q)), none⟩)])⟩ (lpBy ([])) 60 25 ([.c (str (69 :: r))]) ([])) = some ((AV.tu [(AV.c ((Value.int .i64 (IntKind.i64.wrap ((0 : Int) - (↑(wV q) : Int)))))),
 (AV.c ((Value.bool true)))]), [(((0 : Int) : Int) ≤ ((0 : Int))),
 (((0 : Int) : Int) < ((↑((69 : UInt8) :: r).length : Int))),
 (((0 : Int) : Int) ≤ ((0 : Int))),
 (((0 : Int) : Int) < ((↑((69 : UInt8) :: r).length : Int))),
 (((0 : Int) : Int) ≤ ((1 : Int))),
 (((1 : Int) : Int) ≤ ((↑((69 : UInt8) :: r).length : Int))),
 (((↑((69 : UInt8) :: r).length : Int) : Int) ≤ ((↑((69 : UInt8) :: r).length : Int))),
 ((List.drop (Int.toNat (1 : Int)) (List.take ((69 : UInt8) :: r).length ((69 : UInt8) :: r)) : List UInt8)) = (r),
 ((r.length : Nat) ≤ ((9223372036854775807 : Nat))),
 ((cutPF [(45 : UInt8)] r : List UInt8)) = (q),
 ((preB [(45 : UInt8)] r : Bool)) = (true),
 ((q.length : Nat) ≤ ((9223372036854775807 : Nat))),
 (((↑(wV q) : Int) : Int)) = ((↑(wV q) : Int)),
 ((wOK q : Bool)) = (wOK q),
 ((!wOK q : Bool)) = (false),
 ((decide ((↑q.length : Int) > (4 : Int)) : Bool)) = (false)]) := by kernel_rfl

theorem pxTb_all (r q : List UInt8) (hb : preB [45] r = true) (hr : cutPF [45] r = q) (hl : r.length ≤ 9223372036854775807) (hql : q.length ≤ r.length) (hv : wV q ≤ 9223372036854775807) : ∃ (h : Hints) (p : List Prop), outcome Try.prog 25 (aBody Try.prog clI h (lpBy ([])) 60 25 ([.c (str (69 :: r))]) ([])) = some (exG (-1) q, p) ∧ allP p := by
  cases hc33 : (!wOK q : Bool) with
  | true =>
    have eR := pxTb_1 r q
    refine ⟨_, _, eR.trans (congrArg (fun r => some (r, _)) ?_), ?_⟩
    · try clear eR
      try simp only [decide_eq_true_eq, decide_eq_false_iff_not, beq_iff_eq, beq_eq_false_iff_ne, bne_iff_ne, bne_eq_false_iff_eq, ne_eq] at hc33
      try simp only [toNat0, toNat1, toNat2, Int.toNat_natCast, sb_mk] at hc33
      try clear eR
      unfold exG
      first
        | (rw [if_pos ⟨by simpa using hc33, by omega⟩, i64_wrap (by omega) (by omega), Int.zero_sub, Int.neg_mul, Int.one_mul])
        | rw [if_neg (by rintro ⟨a, b⟩; omega)]
        | rw [if_neg (by rintro ⟨a, b⟩; rw [a] at hc33; simp at hc33)]
    · try clear eR
      try simp only [decide_eq_true_eq, decide_eq_false_iff_not, beq_iff_eq, beq_eq_false_iff_ne, bne_iff_ne, bne_eq_false_iff_eq, ne_eq] at hc33
      try simp only [toNat0, toNat1, toNat2, Int.toNat_natCast, sb_mk] at hc33
      simp (disch := omega) only [allP, sb_mk, sl1, toNat0, toNat1, toNat2, Int.toNat_natCast, List.take_length, List.take_succ_cons, List.drop_succ_cons, List.drop_zero, List.take_zero, List.length_cons, List.length_nil, List.getD_cons_zero, i64_wrap, i32_wrap, u8_wrap, u32_wrap, tdN, tmN, i64_min, i64_max, u8_min, u8_max, decide_eq_true_eq, decide_eq_false_iff_not, beq_iff_eq, beq_eq_false_iff_ne, bne_iff_ne, bne_eq_false_iff_eq, ne_eq, not_false_eq_true, and_true, true_and, Int.zero_sub]
      repeat' apply And.intro
      all_goals first | exact True.intro | omega | with_reducible rfl | with_reducible assumption | exact hb | exact hr | rfl
  | false =>
    cases hc37 : (decide ((↑q.length : Int) > (4 : Int)) : Bool) with
    | true =>
      have eR := pxTb_2 r q
      refine ⟨_, _, eR.trans (congrArg (fun r => some (r, _)) ?_), ?_⟩
      · try clear eR
        try simp only [decide_eq_true_eq, decide_eq_false_iff_not, beq_iff_eq, beq_eq_false_iff_ne, bne_iff_ne, bne_eq_false_iff_eq, ne_eq] at hc33
        try simp only [toNat0, toNat1, toNat2, Int.toNat_natCast, sb_mk] at hc33
        try simp only [decide_eq_true_eq, decide_eq_false_iff_not, beq_iff_eq, beq_eq_false_iff_ne, bne_iff_ne, bne_eq_false_iff_eq, ne_eq] at hc37
        try simp only [toNat0, toNat1, toNat2, Int.toNat_natCast, sb_mk] at hc37
        try clear eR
        unfold exG
        first
          | (rw [if_pos ⟨by simpa using hc33, by omega⟩, i64_wrap (by omega) (by omega), Int.zero_sub, Int.neg_mul, Int.one_mul])
          | rw [if_neg (by rintro ⟨a, b⟩; omega)]
          | rw [if_neg (by rintro ⟨a, b⟩; rw [a] at hc33; simp at hc33)]
      · try clear eR
        try simp only [decide_eq_true_eq, decide_eq_false_iff_not, beq_iff_eq, beq_eq_false_iff_ne, bne_iff_ne, bne_eq_false_iff_eq, ne_eq] at hc33
        try simp only [toNat0, toNat1, toNat2, Int.toNat_natCast, sb_mk] at hc33
        try simp only [decide_eq_true_eq, decide_eq_false_iff_not, beq_iff_eq, beq_eq_false_iff_ne, bne_iff_ne, bne_eq_false_iff_eq, ne_eq] at hc37
        try simp only [toNat0, toNat1, toNat2, Int.toNat_natCast, sb_mk] at hc37
        simp (disch := omega) only [allP, sb_mk, sl1, toNat0, toNat1, toNat2, Int.toNat_natCast, List.take_length, List.take_succ_cons, List.drop_succ_cons, List.drop_zero, List.take_zero, List.length_cons, List.length_nil, List.getD_cons_zero, i64_wrap, i32_wrap, u8_wrap, u32_wrap, tdN, tmN, i64_min, i64_max, u8_min, u8_max, decide_eq_true_eq, decide_eq_false_iff_not, beq_iff_eq, beq_eq_false_iff_ne, bne_iff_ne, bne_eq_false_iff_eq, ne_eq, not_false_eq_true, and_true, true_and, Int.zero_sub]
        repeat' apply And.intro
        all_goals first | exact True.intro | omega | with_reducible rfl | with_reducible assumption | exact hb | exact hr | rfl
    | false =>
      have eR := pxTb_3 r q
      refine ⟨_, _, eR.trans (congrArg (fun r => some (r, _)) ?_), ?_⟩
      · try clear eR
        try simp only [decide_eq_true_eq, decide_eq_false_iff_not, beq_iff_eq, beq_eq_false_iff_ne, bne_iff_ne, bne_eq_false_iff_eq, ne_eq] at hc33
        try simp only [toNat0, toNat1, toNat2, Int.toNat_natCast, sb_mk] at hc33
        try simp only [decide_eq_true_eq, decide_eq_false_iff_not, beq_iff_eq, beq_eq_false_iff_ne, bne_iff_ne, bne_eq_false_iff_eq, ne_eq] at hc37
        try simp only [toNat0, toNat1, toNat2, Int.toNat_natCast, sb_mk] at hc37
        try clear eR
        unfold exG
        first
          | (rw [if_pos ⟨by simpa using hc33, by omega⟩, i64_wrap (by omega) (by omega), Int.zero_sub, Int.neg_mul, Int.one_mul])
          | rw [if_neg (by rintro ⟨a, b⟩; omega)]
          | rw [if_neg (by rintro ⟨a, b⟩; rw [a] at hc33; simp at hc33)]
      · try clear eR
        try simp only [decide_eq_true_eq, decide_eq_false_iff_not, beq_iff_eq, beq_eq_false_iff_ne, bne_iff_ne, bne_eq_false_iff_eq, ne_eq] at hc33
        try simp only [toNat0, toNat1, toNat2, Int.toNat_natCast, sb_mk] at hc33
        try simp only [decide_eq_true_eq, decide_eq_false_iff_not, beq_iff_eq, beq_eq_false_iff_ne, bne_iff_ne, bne_eq_false_iff_eq, ne_eq] at hc37
        try simp only [toNat0, toNat1, toNat2, Int.toNat_natCast, sb_mk] at hc37
        simp (disch := omega) only [allP, sb_mk, sl1, toNat0, toNat1, toNat2, Int.toNat_natCast, List.take_length, List.take_succ_cons, List.drop_succ_cons, List.drop_zero, List.take_zero, List.length_cons, List.length_nil, List.getD_cons_zero, i64_wrap, i32_wrap, u8_wrap, u32_wrap, tdN, tmN, i64_min, i64_max, u8_min, u8_max, decide_eq_true_eq, decide_eq_false_iff_not, beq_iff_eq, beq_eq_false_iff_ne, bne_iff_ne, bne_eq_false_iff_eq, ne_eq, not_false_eq_true, and_true, true_and, Int.zero_sub]
        repeat' apply And.intro
        all_goals first | exact True.intro | omega | with_reducible rfl | with_reducible assumption | exact hb | exact hr | rfl

theorem pxFb_1 (r q1 q : List UInt8) : outcome Try.prog 25 (aBody Try.prog clI ⟨true, bs [(33, true)] ++ ([(19, ⟨.c (str r), none⟩), (21, ⟨.c (str q1), none⟩), (22, ⟨.c (.bool false), none⟩), (26, ⟨.c (str q), none⟩), (30, ⟨.c (.int .i64 (wV q : Nat)), none⟩), (31, ⟨.c (.bool (wOK q)), none⟩)])⟩ (lpBy ([])) 60 25 ([.c (str (69 :: r))]) ([])) = some ((AV.tu [(AV.c ((Value.int .i64 0))),
 (AV.c ((Value.bool false)))]), [(((0 : Int) : Int) ≤ ((0 : Int))),
 (((0 : Int) : Int) < ((↑((69 : UInt8) :: r).length : Int))),
 (((0 : Int) : Int) ≤ ((0 : Int))),
 (((0 : Int) : Int) < ((↑((69 : UInt8) :: r).length : Int))),
 (((0 : Int) : Int) ≤ ((1 : Int))),
 (((1 : Int) : Int) ≤ ((↑((69 : UInt8) :: r).length : Int))),
 (((↑((69 : UInt8) :: r).length : Int) : Int) ≤ ((↑((69 : UInt8) :: r).length : Int))),
 ((List.drop (Int.toNat (1 : Int)) (List.take ((69 : UInt8) :: r).length ((69 : UInt8) :: r)) : List UInt8)) = (r),
 ((r.length : Nat) ≤ ((9223372036854775807 : Nat))),
 ((cutPF [(45 : UInt8)] r : List UInt8)) = (q1),
 ((preB [(45 : UInt8)] r : Bool)) = (false),
 ((q1.length : Nat) ≤ ((9223372036854775807 : Nat))),
 ((trimPF [(43 : UInt8)] q1 : List UInt8)) = (q),
 ((q.length : Nat) ≤ ((9223372036854775807 : Nat))),
 (((↑(wV q) : Int) : Int)) = ((↑(wV q) : Int)),
 ((wOK q : Bool)) = (wOK q),
 ((!wOK q : Bool)) = (true)]) := by kernel_rfl

theorem pxFb_2 (r q1 q : List UInt8) : outcome Try.prog 25 (aBody Try.prog clI ⟨true, bs [(33, false), (37, true)] ++ ([(19, ⟨.c (str r), none⟩), (21, ⟨.c (str q1), none⟩), (22, ⟨.c (.bool false), none⟩), (26, ⟨.c (str q), none⟩), (30, ⟨.c (.int .i64 (wV q : Nat)), none⟩), (31, ⟨.c (.bool (wOK q)), none⟩)])⟩ (lpBy ([])) 60 25 ([.c (str (69 :: r))]) ([])) = some ((AV.tu [(AV.c ((Value.int .i64 0))),
 (AV.c ((Value.bool false)))]), [(((0 : Int) : Int) ≤ ((0 : Int))),
 (((0 : Int) : Int) < ((↑((69 : UInt8) :: r).length : Int))),
 (((0 : Int) : Int) ≤ ((0 : Int))),
 (((0 : Int) : Int) < ((↑((69 : UInt8) :: r).length : Int))),
 (((0 : Int) : Int) ≤ ((1 : Int))),
 (((1 : Int) : Int) ≤ ((↑((69 : UInt8) :: r).length : Int))),
 (((↑((69 : UInt8) :: r).length : Int) : Int) ≤ ((↑((69 : UInt8) :: r).length : Int))),
 ((List.drop (Int.toNat (1 : Int)) (List.take ((69 : UInt8) :: r).length ((69 : UInt8) :: r)) : List UInt8)) = (r),
 ((r.length : Nat) ≤ ((9223372036854775807 : Nat))),
 ((cutPF [(45 : UInt8)] r : List UInt8)) = (q1),
 ((preB [(45 : UInt8)] r : Bool)) = (false),
 ((q1.length : Nat) ≤ ((9223372036854775807 : Nat))),
 ((trimPF [(43 : UInt8)] q1 : List UInt8)) = (q),
 ((q.length : Nat) ≤ ((9223372036854775807 : Nat))),
 (((↑(wV q) : Int) : Int)) = ((↑(wV q) : Int)),
 ((wOK q : Bool)) = (wOK q),
 ((!wOK q : Bool)) = (false),
 ((decide ((↑q.length : Int) > (4 : Int)) : Bool)) = (true)]) := by kernel_rfl

theorem pxFb_3 (r q1 q : List UInt8) : outcome Try.prog 25 (aBody Try.prog clI ⟨true, bs [(33, false), (37, false)] ++ ([(19, ⟨.c (str r), none⟩), (21, ⟨.c (str q1), none⟩), (22, ⟨.c (.bool false), none⟩), (26, ⟨.c (str q), none⟩), (30, ⟨.c (.int .i64 (wV q : Nat)), none⟩), (31, ⟨.c (.bool (wOK q)), none⟩)])⟩ (lpBy ([])) 60 25 ([.c (str (69 :: r))]) ([])) = some ((AV.tu [(AV.c ((Value.int .i64 ((↑(wV q) : Int))))),
 (AV.c ((Value.bool true)))]), [(((0 : Int) : Int) ≤ ((0 : Int))),
 (((0 : Int) : Int) < ((↑((69 : UInt8) :: r).length : Int))),
 (((0 : Int) : Int) ≤ ((0 : Int))),
 (((0 : Int) : Int) < ((↑((69 : UInt8) :: r).length : Int))),
 (((0 : Int) : Int) ≤ ((1 : Int))),
 (((1 : Int) : Int) ≤ ((↑((69 : UInt8) :: r).length : Int))),
 (((↑((69 : UInt8) :: r).length : Int) : Int) ≤ ((↑((69 : UInt8) :: r).length : Int))),
 ((List.drop (Int.toNat (1 : Int)) (List.take ((69 : UInt8) :: r).length ((69 : UInt8) :: r)) : List UInt8)) = (r),
 ((r.length : Nat) ≤ ((9223372036854775807 : Nat))),
 ((cutPF [(45 : UInt8)] r : List UInt8)) = (q1),
 ((preB [(45 : UInt8)] r : Bool)) = (false),
 ((q1.length : Nat) ≤ ((9223372036854775807 : Nat))),
 ((trimPF [(43 : UInt8)] q1 : List UInt8)) = (q),
 ((q.length : Nat) ≤ ((9223372036854775807 : Nat))),
 (((↑(wV q) : Int) : Int)) = ((↑(wV q) : Int)),
 ((wOK q : Bool)) = (wOK q),
 ((!wOK q : Bool)) = (false),
 ((decide ((↑q.length : Int) > (4 : Int)) : Bool)) = (false)]) := by kernel_rfl

theorem pxFb_all (r q1 q : List UInt8) (hb : preB [45] r = false) (hr : cutPF [45] r = q1) (hr2 : trimPF [43] q1 = q) (hl : r.length ≤ 9223372036854775807) (hq1 : q1.length ≤ r.length) (hql : q.length ≤ r.length) (hv : wV q ≤ 9223372036854775807) : ∃ (h : Hints) (p : List Prop), outcome Try.prog 25 (aBody Try.prog clI h (lpBy ([])) 60 25 ([.c (str (69 :: r))]) ([])) = some (exG 1 q, p) ∧ allP p := by
  cases hc33 : (!wOK q : Bool) with
  | true =>
    have eR := pxFb_1 r q1 q
    refine ⟨_, _, eR.trans (congrArg (fun r => some (r, _)) ?_), ?_⟩
    · try clear eR
      try simp only [decide_eq_true_eq, decide_eq_false_iff_not, beq_iff_eq, beq_eq_false_iff_ne, bne_iff_ne, bne_eq_false_iff_eq, ne_eq] at hc33
      try simp only [toNat0, toNat1, toNat2, Int.toNat_natCast, sb_mk] at hc33
      try clear eR
      unfold exG
      first
        | (rw [if_pos ⟨by simpa using hc33, by omega⟩, Int.one_mul])
        | rw [if_neg (by rintro ⟨a, b⟩; omega)]
        | rw [if_neg (by rintro ⟨a, b⟩; rw [a] at hc33; simp at hc33)]
    · try clear eR
      try simp only [decide_eq_true_eq, decide_eq_false_iff_not, beq_iff_eq, beq_eq_false_iff_ne, bne_iff_ne, bne_eq_false_iff_eq, ne_eq] at hc33
      try simp only [toNat0, toNat1, toNat2, Int.toNat_natCast, sb_mk] at hc33
      simp (disch := omega) only [allP, sb_mk, sl1, toNat0, toNat1, toNat2, Int.toNat_natCast, List.take_length, List.take_succ_cons, List.drop_succ_cons, List.drop_zero, List.take_zero, List.length_cons, List.length_nil, List.getD_cons_zero, i64_wrap, i32_wrap, u8_wrap, u32_wrap, tdN, tmN, i64_min, i64_max, u8_min, u8_max, decide_eq_true_eq, decide_eq_false_iff_not, beq_iff_eq, beq_eq_false_iff_ne, bne_iff_ne, bne_eq_false_iff_eq, ne_eq, not_false_eq_true, and_true, true_and, Int.zero_sub]
      repeat' apply And.intro
      all_goals first | exact True.intro | omega | with_reducible rfl | with_reducible assumption | exact hb | exact hr | exact hr2 | rfl
  | false =>
    cases hc37 : (decide ((↑q.length : Int) > (4 : Int)) : Bool) with
    | true =>
      have eR := pxFb_2 r q1 q
      refine ⟨_, _, eR.trans (congrArg (fun r => some (r, _)) ?_), ?_⟩
      · try clear eR
        try simp only [decide_eq_true_eq, decide_eq_false_iff_not, beq_iff_eq, beq_eq_false_iff_ne, bne_iff_ne, bne_eq_false_iff_eq, ne_eq] at hc33
        try simp only [toNat0, toNat1, toNat2, Int.toNat_natCast, sb_mk] at hc33
        try simp only [decide_eq_true_eq, decide_eq_false_iff_not, beq_iff_eq, beq_eq_false_iff_ne, bne_iff_ne, bne_eq_false_iff_eq, ne_eq] at hc37
        try simp only [toNat0, toNat1, toNat2, Int.toNat_natCast, sb_mk] at hc37
        try clear eR
        unfold exG
        first
          | (rw [if_pos ⟨by simpa using hc33, by omega⟩, Int.one_mul])
          | rw [if_neg (by rintro ⟨a, b⟩; omega)]
          | rw [if_neg (by rintro ⟨a, b⟩; rw [a] at hc33; simp at hc33)]
      · try clear eR
        try simp only [decide_eq_true_eq, decide_eq_false_iff_not, beq_iff_eq, beq_eq_false_iff_ne, bne_iff_ne, bne_eq_false_iff_eq, ne_eq] at hc33
        try simp only [toNat0, toNat1, toNat2, Int.toNat_natCast, sb_mk] at hc33
        try simp only [decide_eq_true_eq, decide_eq_false_iff_not, beq_iff_eq, beq_eq_false_iff_ne, bne_iff_ne, bne_eq_false_iff_eq, ne_eq] at hc37
        try simp only [toNat0, toNat1, toNat2, Int.toNat_natCast, sb_mk] at hc37
        simp (disch := omega) only [allP, sb_mk, sl1, toNat0, toNat1, toNat2, Int.toNat_natCast, List.take_length, List.take_succ_cons, List.drop_succ_cons, List.drop_zero, List.take_zero, List.length_cons, List.length_nil, List.getD_cons_zero, i64_wrap, i32_wrap, u8_wrap, u32_wrap, tdN, tmN, i64_min, i64_max, u8_min, u8_max, decide_eq_true_eq, decide_eq_false_iff_not, beq_iff_eq, beq_eq_false_iff_ne, bne_iff_ne, bne_eq_false_iff_eq, ne_eq, not_false_eq_true, and_true, true_and, Int.zero_sub]
        repeat' apply And.intro
        all_goals first | exact True.intro | omega | with_reducible rfl | with_reducible assumption | exact hb | exact hr | exact hr2 | rfl
    | false =>
      have eR := pxFb_3 r q1 q
      refine ⟨_, _, eR.trans (congrArg (fun r => some (r, _)) ?_), ?_⟩
      · try clear eR
        try simp only [decide_eq_true_eq, decide_eq_false_iff_not, beq_iff_eq, beq_eq_false_iff_ne, bne_iff_ne, bne_eq_false_iff_eq, ne_eq] at hc33
        try simp only [toNat0, toNat1, toNat2, Int.toNat_natCast, sb_mk] at hc33
        try simp only [decide_eq_true_eq, decide_eq_false_iff_not, beq_iff_eq, beq_eq_false_iff_ne, bne_iff_ne, bne_eq_false_iff_eq, ne_eq] at hc37
        try simp only [toNat0, toNat1, toNat2, Int.toNat_natCast, sb_mk] at hc37
        try clear eR
        unfold exG
        first
          | (rw [if_pos ⟨by simpa using hc33, by omega⟩, Int.one_mul])
          | rw [if_neg (by rintro ⟨a, b⟩; omega)]
          | rw [if_neg (by rintro ⟨a, b⟩; rw [a] at hc33; simp at hc33)]
      · try clear eR
        try simp only [decide_eq_true_eq, decide_eq_false_iff_not, beq_iff_eq, beq_eq_false_iff_ne, bne_iff_ne, bne_eq_false_iff_eq, ne_eq] at hc33
        try simp only [toNat0, toNat1, toNat2, Int.toNat_natCast, sb_mk] at hc33
        try simp only [decide_eq_true_eq, decide_eq_false_iff_not, beq_iff_eq, beq_eq_false_iff_ne, bne_iff_ne, bne_eq_false_iff_eq, ne_eq] at hc37
        try simp only [toNat0, toNat1, toNat2, Int.toNat_natCast, sb_mk] at hc37
        simp (disch := omega) only [allP, sb_mk, sl1, toNat0, toNat1, toNat2, Int.toNat_natCast, List.take_length, List.take_succ_cons, List.drop_succ_cons, List.drop_zero, List.take_zero, List.length_cons, List.length_nil, List.getD_cons_zero, i64_wrap, i32_wrap, u8_wrap, u32_wrap, tdN, tmN, i64_min, i64_max, u8_min, u8_max, decide_eq_true_eq, decide_eq_false_iff_not, beq_iff_eq, beq_eq_false_iff_ne, bne_iff_ne, bne_eq_false_iff_eq, ne_eq, not_false_eq_true, and_true, true_and, Int.zero_sub]
        repeat' apply And.intro
        all_goals first | exact True.intro | omega | with_reducible rfl | with_reducible assumption | exact hb | exact hr | exact hr2 | rfl


/-- What comes of the signs ahead of an exponent's digits. -/
theorem px_sign {c : UInt8} (hc : c = 101 ∨ c = 69) (r : List UInt8) :
    (preB [45] r = true ∧ exG (-1) (cutPF [45] r) = exT (expoF (c :: r))) ∨ (preB [45] r = false ∧ exG 1 (trimPF [43] (cutPF [45] r)) = exT (expoF (c :: r))) := by
  rcases r with _ | ⟨d, q⟩
  · refine .inr ⟨preB_nil, ?_⟩
    have e : cutPF [45] [] = [] := by unfold cutPF; rw [preB_nil, if_neg (by simp)]
    have e2 : trimPF [43] [] = [] := by unfold trimPF; rw [preB_nil, if_neg (by simp)]
    rw [e, e2, ← exE hc, exG_eq, if_neg (by simp)]
    rfl
  · by_cases h2 : d = 45
    · subst h2
      have h : preB [45] (45 :: q) = true := by rw [preB_one]; rfl
      refine .inl ⟨h, ?_⟩
      unfold cutPF
      rw [h, if_pos rfl]
      exact exB hc q
    · have h : preB [45] (d :: q) = false := by rw [preB_one]; exact decide_eq_false h2
      refine .inr ⟨h, ?_⟩
      have e : cutPF [45] (d :: q) = d :: q := by unfold cutPF; rw [h, if_neg (by simp)]
      rw [e]
      by_cases h1 : d = 43
      · subst h1
        have h3 : preB [43] (43 :: q) = true := by rw [preB_one]; rfl
        unfold trimPF
        rw [h3, if_pos rfl]
        exact exA hc q
      · have h3 : preB [43] (d :: q) = false := by rw [preB_one]; exact decide_eq_false h1
        unfold trimPF
        rw [h3, if_neg (by simp)]
        exact exC hc h1 h2 q

theorem trimPF_le (p l : List UInt8) : (trimPF p l).length ≤ l.length := by
  unfold trimPF
  split
  · rw [List.length_drop]; omega
  · exact Nat.le_refl _

theorem pexpo_ok : SpecOK Try.prog 25 pexpoSpec := by
  refine spec_of mixed clI_ok fun args r q hs hq => ?_
  unfold pexpoSpec at hs
  split at hs
  · rename_i l
    simp only [Option.some.injEq, Prod.mk.injEq] at hs
    obtain ⟨rfl, rfl⟩ := hs
    obtain ⟨⟨⟨l⟩⟩, rfl⟩ : ∃ b : ByteArray, b = l := ⟨l, rfl⟩
    simp only [sb_mk, allP, and_true] at hq ⊢
    rcases l with _ | ⟨c, r⟩
    · obtain ⟨hh, p, e, hp⟩ := px0_all
      exact ⟨_, _, _, _, lpBy_nil, e, hp⟩
    · simp only [List.length_cons] at hq
      by_cases hc : (c.toNat : Int) = 101 ∨ (c.toNat : Int) = 69
      · have h1 := cutPF_le [45] r
        have h2 := trimPF_le [43] (cutPF [45] r)
        rcases hc with hc | hc
        · obtain rfl := u8_of (n := 101) (by omega) hc
          rcases px_sign (.inl rfl) r with ⟨hb, hx⟩ | ⟨hb, hx⟩
          · obtain ⟨hh, p, e, hp⟩ := pxTa_all r _ hb rfl (by omega) h1 (wV_le _)
            exact ⟨_, _, _, _, lpBy_nil, e.trans (congrArg (fun r => some (r, p)) hx), hp⟩
          · obtain ⟨hh, p, e, hp⟩ := pxFa_all r _ _ hb rfl rfl (by omega) h1 (by omega) (wV_le _)
            exact ⟨_, _, _, _, lpBy_nil, e.trans (congrArg (fun r => some (r, p)) hx), hp⟩

        · obtain rfl := u8_of (n := 69) (by omega) hc
          rcases px_sign (.inr rfl) r with ⟨hb, hx⟩ | ⟨hb, hx⟩
          · obtain ⟨hh, p, e, hp⟩ := pxTb_all r _ hb rfl (by omega) h1 (wV_le _)
            exact ⟨_, _, _, _, lpBy_nil, e.trans (congrArg (fun r => some (r, p)) hx), hp⟩
          · obtain ⟨hh, p, e, hp⟩ := pxFb_all r _ _ hb rfl rfl (by omega) h1 (by omega) (wV_le _)
            exact ⟨_, _, _, _, lpBy_nil, e.trans (congrArg (fun r => some (r, p)) hx), hp⟩
      · obtain ⟨hh, p, e, hp⟩ := px1_all c r (fun h => hc (.inl h)) (fun h => hc (.inr h))
        exact ⟨_, _, _, _, lpBy_nil, e.trans (congrArg (fun r => some (r, p)) (exD (by rintro (rfl | rfl) <;> simp at hc) r)), hp⟩
  · simp at hs

end Go.Proofs.Ytigglgobiofalaa
