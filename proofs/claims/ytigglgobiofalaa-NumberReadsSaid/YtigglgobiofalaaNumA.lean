/- Whole numbers that are read, and digits that stand first: the document's own. -/
import Derived.Test.YtigglgobiofalaaDig
import Derived.Test.YtigglgobiofalaaNum
import Derived.Test.YtigglgobiofalaaFlt
namespace Go.Proofs.Ytigglgobiofalaa
open Go.RowKit Num
set_option linter.unusedVariables false
set_option linter.unusedSimpArgs false

theorem letter_small (n : Int) : digitI n 10 = if 48 ≤ n ∧ n ≤ 57 then n - 48 else -1 := by
  unfold digitI worthI
  repeat' split
  all_goals omega
theorem dig_yes {c : UInt8} (h : isD c = true) : digitI (c.toNat : Nat) 10 = (dV c : Nat) := by
  unfold isD at h; unfold dV
  simp only [decide_eq_true_eq] at h
  rw [letter_small, if_pos (by omega)]
  omega
theorem dig_no {c : UInt8} (h : isD c = false) : digitI (c.toNat : Nat) 10 = -1 := by
  unfold isD at h
  simp only [decide_eq_false_iff_not] at h
  rw [letter_small, if_neg (by omega)]

/-- How many digits stand first. -/
def ldD (l : List UInt8) : Nat := (l.takeWhile isD).length
theorem ldD_le (l : List UInt8) : ldD l ≤ l.length := tw_le _ l
theorem ldD_lt {l : List UInt8} {i : Nat} (h : i < ldD l) : isD (l.getD i 0) = true := tw_lt isD 0 l i h
theorem ldD_stop {l : List UInt8} (h : ldD l < l.length) : isD (l.getD (ldD l) 0) = false := tw_stop isD 0 l h
theorem ldD_all {l : List UInt8} : allD l = true ↔ ldD l = l.length := by
  constructor
  · intro h
    have := tw_app (b := []) h
    rw [List.append_nil] at this
    unfold ldD
    rw [this]; simp
  · intro h
    have hs := split_D l
    have hl := congrArg List.length hs
    rw [List.length_append] at hl
    unfold ldD at h
    have : l.dropWhile isD = [] := List.eq_nil_of_length_eq_zero (by omega)
    rw [this, List.append_nil] at hs
    rw [hs]; exact tw_all l

def wOK (l : List UInt8) : Bool := allD l && decide (0 < l.length)
def wV (l : List UInt8) : Nat := if allD l then satV l else 0

noncomputable def clD : CallT := aCall Try.prog (sgBy [(16, digitSpec), (17, digitSpec)]) 500 8
theorem clD_ok : CallOK Try.prog clD := aCall_ok mixed (sgBy_cons digit_ok (sgBy_cons rdigit_ok sgBy_nil)) 500 8

theorem sat_next (l : List UInt8) (i : Nat) (h : i < l.length) (hd : isD (l.getD i 0) = true) : satV (l.take (i + 1)) = if satV (l.take i) > (maxN - dV (l.getD i 0)) / 10 then maxN else 10 * satV (l.take i) + dV (l.getD i 0) := by
  unfold satV
  rw [take_succ_getD l i 0 h, decV_snoc]
  exact sat_step (dV_le hd)
theorem sat_max (l : List UInt8) : satV l ≤ maxN := Nat.min_le_left _ _

/-! Whole. -/
def rwS (l : List UInt8) (n : Int) (i : Nat) : St := ⟨frame 34 [(0, .c (str l)), (4, .c (.int .i64 n)), (5, .c (.int .i64 i))], []⟩
def rwT : St := ⟨frame 34 [(2, .c (.int .i64 0)), (3, .c (.bool false))], []⟩

theorem rw_1 (l : List UInt8) (n : Int) (i : Nat) (d e q : Int) : roundOut (⟨[], [2, 3], []⟩) (aCode Try.prog clD ⟨true, bs [(10, true), (18, true)] ++ ([(16, ⟨.c (.int .i64 d), none⟩), (21, ⟨.c (.int .i64 e), none⟩), (22, ⟨.c (.int .i64 q), none⟩)])⟩ (lpBy ([])) 60 (lbody Try.prog 10 3) (rwS l n i)) = some (.ret, rwT, [((decide ((↑i : Int) < (↑l.length : Int)) : Bool)) = (true),
 (((0 : Int) : Int) ≤ ((↑i : Int))),
 (((↑i : Int) : Int) < ((↑l.length : Int))),
 (((0 : Int) : Int) ≤ ((↑(l.getD i (0 : UInt8)).toNat : Int))),
 (((↑(l.getD i (0 : UInt8)).toNat : Int) : Int) < ((256 : Int))),
 ((digitI (↑(l.getD i (0 : UInt8)).toNat : Int) (10 : Int) : Int)) = (d),
 ((decide (d < (0 : Int)) : Bool)) = (true)]) := by kernel_rfl

theorem rw_2 (l : List UInt8) (n : Int) (i : Nat) (d e q : Int) : roundOut (⟨[], [0, 4, 5], []⟩) (aCode Try.prog clD ⟨true, bs [(10, true), (18, false), (23, true)] ++ ([(16, ⟨.c (.int .i64 d), none⟩), (21, ⟨.c (.int .i64 e), none⟩), (22, ⟨.c (.int .i64 q), none⟩)])⟩ (lpBy ([])) 60 (lbody Try.prog 10 3) (rwS l n i)) = some (.normal, rwS l 9223372036854775807 (i + 1), [((decide ((↑i : Int) < (↑l.length : Int)) : Bool)) = (true),
 (((0 : Int) : Int) ≤ ((↑i : Int))),
 (((↑i : Int) : Int) < ((↑l.length : Int))),
 (((0 : Int) : Int) ≤ ((↑(l.getD i (0 : UInt8)).toNat : Int))),
 (((↑(l.getD i (0 : UInt8)).toNat : Int) : Int) < ((256 : Int))),
 ((digitI (↑(l.getD i (0 : UInt8)).toNat : Int) (10 : Int) : Int)) = (d),
 ((decide (d < (0 : Int)) : Bool)) = (false),
 ((IntKind.i64.min : Int) ≤ ((9223372036854775807 : Int) - d)),
 (((9223372036854775807 : Int) - d : Int) ≤ (IntKind.i64.max)),
 (((9223372036854775807 : Int) - d : Int)) = (e),
 ((IntKind.i64.wrap (e.tdiv (10 : Int)) : Int)) = (q),
 ((decide (n > q) : Bool)) = (true),
 ((IntKind.i64.min : Int) ≤ ((↑i : Int) + (1 : Int))),
 (((↑i : Int) + (1 : Int) : Int) ≤ (IntKind.i64.max))]) := by kernel_rfl

theorem rw_3 (l : List UInt8) (n : Int) (i : Nat) (d e q : Int) : roundOut (⟨[], [0, 4, 5], []⟩) (aCode Try.prog clD ⟨true, bs [(10, true), (18, false), (23, false), (25, true)] ++ ([(16, ⟨.c (.int .i64 d), none⟩), (21, ⟨.c (.int .i64 e), none⟩), (22, ⟨.c (.int .i64 q), none⟩)])⟩ (lpBy ([])) 60 (lbody Try.prog 10 3) (rwS l n i)) = some (.normal, rwS l (10 * n + d) (i + 1), [((decide ((↑i : Int) < (↑l.length : Int)) : Bool)) = (true),
 (((0 : Int) : Int) ≤ ((↑i : Int))),
 (((↑i : Int) : Int) < ((↑l.length : Int))),
 (((0 : Int) : Int) ≤ ((↑(l.getD i (0 : UInt8)).toNat : Int))),
 (((↑(l.getD i (0 : UInt8)).toNat : Int) : Int) < ((256 : Int))),
 ((digitI (↑(l.getD i (0 : UInt8)).toNat : Int) (10 : Int) : Int)) = (d),
 ((decide (d < (0 : Int)) : Bool)) = (false),
 ((IntKind.i64.min : Int) ≤ ((9223372036854775807 : Int) - d)),
 (((9223372036854775807 : Int) - d : Int) ≤ (IntKind.i64.max)),
 (((9223372036854775807 : Int) - d : Int)) = (e),
 ((IntKind.i64.wrap (e.tdiv (10 : Int)) : Int)) = (q),
 ((decide (n > q) : Bool)) = (false),
 ((decide (n < (9223372036854775807 : Int)) : Bool)) = (true),
 ((IntKind.i64.min : Int) ≤ ((10 : Int) * n)),
 (((10 : Int) * n : Int) ≤ (IntKind.i64.max)),
 ((IntKind.i64.min : Int) ≤ ((10 : Int) * n + d)),
 (((10 : Int) * n + d : Int) ≤ (IntKind.i64.max)),
 ((IntKind.i64.min : Int) ≤ ((↑i : Int) + (1 : Int))),
 (((↑i : Int) + (1 : Int) : Int) ≤ (IntKind.i64.max))]) := by kernel_rfl

theorem rw_4 (l : List UInt8) (n : Int) (i : Nat) (d e q : Int) : roundOut (⟨[], [0, 4, 5], []⟩) (aCode Try.prog clD ⟨true, bs [(10, true), (18, false), (23, false), (25, false)] ++ ([(16, ⟨.c (.int .i64 d), none⟩), (21, ⟨.c (.int .i64 e), none⟩), (22, ⟨.c (.int .i64 q), none⟩)])⟩ (lpBy ([])) 60 (lbody Try.prog 10 3) (rwS l n i)) = some (.normal, rwS l n (i + 1), [((decide ((↑i : Int) < (↑l.length : Int)) : Bool)) = (true),
 (((0 : Int) : Int) ≤ ((↑i : Int))),
 (((↑i : Int) : Int) < ((↑l.length : Int))),
 (((0 : Int) : Int) ≤ ((↑(l.getD i (0 : UInt8)).toNat : Int))),
 (((↑(l.getD i (0 : UInt8)).toNat : Int) : Int) < ((256 : Int))),
 ((digitI (↑(l.getD i (0 : UInt8)).toNat : Int) (10 : Int) : Int)) = (d),
 ((decide (d < (0 : Int)) : Bool)) = (false),
 ((IntKind.i64.min : Int) ≤ ((9223372036854775807 : Int) - d)),
 (((9223372036854775807 : Int) - d : Int) ≤ (IntKind.i64.max)),
 (((9223372036854775807 : Int) - d : Int)) = (e),
 ((IntKind.i64.wrap (e.tdiv (10 : Int)) : Int)) = (q),
 ((decide (n > q) : Bool)) = (false),
 ((decide (n < (9223372036854775807 : Int)) : Bool)) = (false),
 ((IntKind.i64.min : Int) ≤ ((↑i : Int) + (1 : Int))),
 (((↑i : Int) + (1 : Int) : Int) ≤ (IntKind.i64.max))]) := by kernel_rfl

theorem rw_5 (l : List UInt8) (n : Int) (i : Nat) (d e q : Int) : roundOut (⟨[], [0, 4, 5], []⟩) (aCode Try.prog clD ⟨true, bs [(10, false)] ++ ([(16, ⟨.c (.int .i64 d), none⟩), (21, ⟨.c (.int .i64 e), none⟩), (22, ⟨.c (.int .i64 q), none⟩)])⟩ (lpBy ([])) 60 (lbody Try.prog 10 3) (rwS l n i)) = some (.exit 0, rwS l n i, [((decide ((↑i : Int) < (↑l.length : Int)) : Bool)) = (false)]) := by kernel_rfl

theorem rw_go (l : List UInt8) (hl : l.length ≤ 1000000000) (i : Nat) (h : i < ldD l) : Round Ext0 Try.prog clD (lbody Try.prog 10 3) (rwS l (satV (l.take i) : Nat) i) .normal (rwS l (satV (l.take (i + 1)) : Nat) (i + 1)) := by
  have h0 := ldD_le l
  have hd := ldD_lt h
  have h1 := dig_yes hd
  have h2 := dV_le hd
  have h3 := sat_max (l.take i)
  have h4 := sat_next l i (by omega) hd
  have h5 := (l.getD i 0).toNat_lt
  generalize ev : satV (l.take i) = v at *
  generalize ed : dV (l.getD i 0) = d at *
  have hq : IntKind.i64.wrap (Int.tdiv ((9223372036854775807 : Int) - (d : Nat)) 10) = (((9223372036854775807 - d) / 10 : Nat) : Int) := by
    have e : (9223372036854775807 : Int) - (d : Nat) = ((9223372036854775807 - d : Nat) : Int) := by omega
    have e2 : Int.tdiv ((9223372036854775807 - d : Nat) : Int) 10 = (((9223372036854775807 - d) / 10 : Nat) : Int) := by
      rw [Int.tdiv_eq_ediv_of_nonneg (by omega)]; omega
    rw [e, e2]
    exact i64_wrap (by omega) (by omega)
  unfold maxN at h3 h4
  by_cases hg : v > (9223372036854775807 - d) / 10
  · rw [if_pos hg] at h4
    have e : ((9223372036854775807 : Nat) : Int) = 9223372036854775807 := rfl
    rw [h4, e]
    refine ⟨_, _, _, _, _, lpBy_nil, List.nodup_nil, rw_2 l v i d ((9223372036854775807 : Int) - (d : Nat)) (((9223372036854775807 - d) / 10 : Nat) : Int), ?_⟩
    simp only [allP, and_true, decide_eq_true_eq, decide_eq_false_iff_not, i64_min, i64_max]
    rw [hq, h1]
    repeat' apply And.intro
    all_goals first | exact True.intro | omega
  · rw [if_neg hg] at h4
    rw [h4]
    have e : ((10 * v + d : Nat) : Int) = 10 * (v : Nat) + (d : Nat) := by omega
    rw [e]
    refine ⟨_, _, _, _, _, lpBy_nil, List.nodup_nil, rw_3 l v i d ((9223372036854775807 : Int) - (d : Nat)) (((9223372036854775807 - d) / 10 : Nat) : Int), ?_⟩
    simp only [allP, and_true, decide_eq_true_eq, decide_eq_false_iff_not, i64_min, i64_max]
    rw [hq, h1]
    repeat' apply And.intro
    all_goals first | exact True.intro | omega

theorem rw_no (l : List UInt8) (hl : l.length ≤ 1000000000) (h : ldD l < l.length) : Tri Ext0 Try.prog (.loop (lbody Try.prog 10 3)) (rwS l (satV (l.take 0) : Nat) 0) .ret rwT := by
  refine loop_up mixed clD_ok (fun i => rwS l (satV (l.take i) : Nat) i) (ldD l) (by simp) (rw_go l hl) ?_ 0 (Nat.zero_le _)
  have h1 := dig_no (ldD_stop h)
  have h5 := (l.getD (ldD l) 0).toNat_lt
  refine ⟨_, _, _, _, _, lpBy_nil, List.nodup_nil, rw_1 l _ (ldD l) (-1) 0 0, ?_⟩
  simp only [allP, and_true, decide_eq_true_eq, decide_eq_false_iff_not]
  rw [h1]
  omega
theorem rw_yes (l : List UInt8) (hl : l.length ≤ 1000000000) (h : ldD l = l.length) : Tri Ext0 Try.prog (.loop (lbody Try.prog 10 3)) (rwS l (satV (l.take 0) : Nat) 0) (.exit 0) (rwS l (satV l : Nat) l.length) := by
  have key := loop_up mixed clD_ok (fun i => rwS l (satV (l.take i) : Nat) i) (ldD l) (e := .exit 0) (R := rwS l (satV l : Nat) l.length) (b := lbody Try.prog 10 3) (by simp) (rw_go l hl) ?_ 0 (Nat.zero_le _)
  · exact key
  · rw [h, List.take_length]
    refine ⟨_, _, _, _, _, lpBy_nil, List.nodup_nil, rw_5 l _ l.length 0 0 0, ?_⟩
    simp only [allP, and_true, decide_eq_false_iff_not]
    omega

noncomputable def rwLp1 (l : List UInt8) : List (Nat × Lp) := [(3, ⟨lbody Try.prog 10 3, ⟨[], [0, 4, 5], []⟩, rwS l (satV (l.take 0) : Nat) 0, .ret, rwT⟩)]
noncomputable def rwLp2 (l : List UInt8) : List (Nat × Lp) := [(3, ⟨lbody Try.prog 10 3, ⟨[], [0, 4, 5], []⟩, rwS l (satV (l.take 0) : Nat) 0, .exit 0, rwS l (satV l : Nat) l.length⟩)]

theorem rwh1_1 (l : List UInt8) : outcome Try.prog 10 (aBody Try.prog clD ⟨true, bs [] ++ ([])⟩ (lpBy (rwLp1 l)) 60 10 ([.c (str l)]) ([])) = some ((AV.tu [(AV.c ((Value.int .i64 0))),
 (AV.c ((Value.bool false)))]), [((lbody Try.prog (10 : FuncId) (3 : Nat) : Go.Code)) = (lbody Try.prog (10 : FuncId) (3 : Nat)),
 ((rwS l (↑(satV (List.take (0 : Nat) l)) : Int) (0 : Nat) : Go.Proofs.Ytigglgobiofalaa.St)) = (rwS l (↑(satV (List.take (0 : Nat) l)) : Int) (0 : Nat))]) := by kernel_rfl

theorem rwh1_all (l : List UInt8)  : ∃ (h : Hints) (p : List Prop), outcome Try.prog 10 (aBody Try.prog clD h (lpBy (rwLp1 l)) 60 10 ([.c (str l)]) ([])) = some (.tu [.c (.int .i64 0), .c (.bool false)], p) ∧ allP p := by
  have eR := rwh1_1 l
  refine ⟨_, _, eR.trans (congrArg (fun r => some (r, _)) ?_), ?_⟩
  · rfl
  · simp only [decide_eq_true_eq, decide_eq_false_iff_not, beq_iff_eq, beq_eq_false_iff_ne, ne_eq] at *
    simp (disch := omega) only [allP, tdN, tmN, i64_wrap, i32_wrap, u8_wrap, u32_wrap, bytesOK_cons, bytesOK_nil, decide_eq_true_eq, decide_eq_false_iff_not, beq_iff_eq, beq_eq_false_iff_ne, ne_eq, not_false_eq_true, and_true, true_and, i64_min, i64_max, u8_min, u8_max]
    repeat' apply And.intro
    all_goals first | omega | assumption | rfl | exact avEq_refl _


theorem rwh2_1 (l : List UInt8) : outcome Try.prog 10 (aBody Try.prog clD ⟨true, bs [] ++ ([])⟩ (lpBy (rwLp2 l)) 60 10 ([.c (str l)]) ([])) = some ((AV.tu [(AV.c ((Value.int .i64 ((↑(satV l) : Int))))),
 (AV.c ((Value.bool (decide ((↑l.length : Int) > (0 : Int))))))]), [((lbody Try.prog (10 : FuncId) (3 : Nat) : Go.Code)) = (lbody Try.prog (10 : FuncId) (3 : Nat)),
 ((rwS l (↑(satV (List.take (0 : Nat) l)) : Int) (0 : Nat) : Go.Proofs.Ytigglgobiofalaa.St)) = (rwS l (↑(satV (List.take (0 : Nat) l)) : Int) (0 : Nat))]) := by kernel_rfl

theorem rwh2_all (l : List UInt8)  : ∃ (h : Hints) (p : List Prop), outcome Try.prog 10 (aBody Try.prog clD h (lpBy (rwLp2 l)) 60 10 ([.c (str l)]) ([])) = some (.tu [.c (.int .i64 (satV l : Nat)), .c (.bool (decide ((l.length : Int) > 0)))], p) ∧ allP p := by
  have eR := rwh2_1 l
  refine ⟨_, _, eR.trans (congrArg (fun r => some (r, _)) ?_), ?_⟩
  · rfl
  · simp only [decide_eq_true_eq, decide_eq_false_iff_not, beq_iff_eq, beq_eq_false_iff_ne, ne_eq] at *
    simp (disch := omega) only [allP, tdN, tmN, i64_wrap, i32_wrap, u8_wrap, u32_wrap, bytesOK_cons, bytesOK_nil, decide_eq_true_eq, decide_eq_false_iff_not, beq_iff_eq, beq_eq_false_iff_ne, ne_eq, not_false_eq_true, and_true, true_and, i64_min, i64_max, u8_min, u8_max]
    repeat' apply And.intro
    all_goals first | omega | assumption | rfl | exact avEq_refl _

def wholeSpec : Spec
  | [.c (.string s)] => some (.tu [.c (.int .i64 (wV (sb s) : Nat)), .c (.bool (wOK (sb s)))], [(sb s).length ≤ 1000000000])
  | _ => none
theorem w_yes {l : List UInt8} (h : ldD l = l.length) : wV l = satV l ∧ wOK l = decide ((l.length : Int) > 0) := by
  have ha := ldD_all.2 h
  refine ⟨by unfold wV; rw [if_pos ha], ?_⟩
  unfold wOK
  rw [ha, Bool.true_and]
  congr 1
  apply propext
  omega
theorem w_no {l : List UInt8} (h : ldD l < l.length) : wV l = 0 ∧ wOK l = false := by
  have ha : allD l = false := by
    rw [← Bool.not_eq_true, ldD_all]; omega
  refine ⟨by unfold wV; rw [if_neg (by rw [ha]; simp)], ?_⟩
  unfold wOK
  rw [ha, Bool.false_and]

theorem rwhole_ok : SpecOK Try.prog 10 wholeSpec := by
  refine spec_of mixed clD_ok fun args r q hs hq => ?_
  unfold wholeSpec at hs
  split at hs
  · rename_i s
    simp only [Option.some.injEq, Prod.mk.injEq] at hs
    obtain ⟨rfl, rfl⟩ := hs
    obtain ⟨⟨⟨l⟩⟩, rfl⟩ : ∃ b : ByteArray, b = s := ⟨s, rfl⟩
    have hl : l.length ≤ 1000000000 := hq.1
    rw [show sb ⟨⟨l⟩⟩ = l from rfl]
    by_cases h : ldD l < l.length
    · obtain ⟨hh, p, e, hp⟩ := rwh1_all l
      obtain ⟨e1, e2⟩ := w_no h
      rw [e1, e2]
      exact ⟨_, _, _, _, lpBy_cons lpBy_nil List.nodup_nil (rw_no l hl h), e, hp⟩
    · have h' : ldD l = l.length := by have := ldD_le l; omega
      obtain ⟨hh, p, e, hp⟩ := rwh2_all l
      obtain ⟨e1, e2⟩ := w_yes h'
      rw [e1, e2]
      exact ⟨_, _, _, _, lpBy_cons lpBy_nil List.nodup_nil (rw_yes l hl h'), e, hp⟩
  · simp at hs

/-! Digits that stand first. -/
def rdS (l : List UInt8) (i : Nat) : St := ⟨frame 18 [(0, .c (str l)), (3, .c (.int .i64 i))], []⟩

theorem rd_1 (l : List UInt8) (i : Nat) (d : Int) : roundOut (⟨[], [0, 3], []⟩) (aCode Try.prog clD ⟨true, bs [(7, true), (13, true)] ++ ([(12, ⟨.c (.int .i64 d), none⟩)])⟩ (lpBy ([])) 60 (lbody Try.prog 20 2) (rdS l i)) = some (.normal, rdS l (i + 1), [((decide ((↑i : Int) < (↑l.length : Int)) : Bool)) = (true),
 (((0 : Int) : Int) ≤ ((↑i : Int))),
 (((↑i : Int) : Int) < ((↑l.length : Int))),
 (((0 : Int) : Int) ≤ ((↑(l.getD i (0 : UInt8)).toNat : Int))),
 (((↑(l.getD i (0 : UInt8)).toNat : Int) : Int) < ((256 : Int))),
 ((digitI (↑(l.getD i (0 : UInt8)).toNat : Int) (10 : Int) : Int)) = (d),
 ((decide (d ≥ (0 : Int)) : Bool)) = (true),
 ((IntKind.i64.min : Int) ≤ ((↑i : Int) + (1 : Int))),
 (((↑i : Int) + (1 : Int) : Int) ≤ (IntKind.i64.max))]) := by kernel_rfl

theorem rd_2 (l : List UInt8) (i : Nat) (d : Int) : roundOut (⟨[], [0, 3], []⟩) (aCode Try.prog clD ⟨true, bs [(7, true), (13, false)] ++ ([(12, ⟨.c (.int .i64 d), none⟩)])⟩ (lpBy ([])) 60 (lbody Try.prog 20 2) (rdS l i)) = some (.exit 0, rdS l i, [((decide ((↑i : Int) < (↑l.length : Int)) : Bool)) = (true),
 (((0 : Int) : Int) ≤ ((↑i : Int))),
 (((↑i : Int) : Int) < ((↑l.length : Int))),
 (((0 : Int) : Int) ≤ ((↑(l.getD i (0 : UInt8)).toNat : Int))),
 (((↑(l.getD i (0 : UInt8)).toNat : Int) : Int) < ((256 : Int))),
 ((digitI (↑(l.getD i (0 : UInt8)).toNat : Int) (10 : Int) : Int)) = (d),
 ((decide (d ≥ (0 : Int)) : Bool)) = (false)]) := by kernel_rfl

theorem rd_3 (l : List UInt8) (i : Nat) (d : Int) : roundOut (⟨[], [0, 3], []⟩) (aCode Try.prog clD ⟨true, bs [(7, false)] ++ ([(12, ⟨.c (.int .i64 d), none⟩)])⟩ (lpBy ([])) 60 (lbody Try.prog 20 2) (rdS l i)) = some (.exit 0, rdS l i, [((decide ((↑i : Int) < (↑l.length : Int)) : Bool)) = (false)]) := by kernel_rfl

theorem rd_walk (l : List UInt8) (hl : l.length ≤ 1000000000) : Tri Ext0 Try.prog (.loop (lbody Try.prog 20 2)) (rdS l 0) (.exit 0) (rdS l (ldD l)) := by
  have h0 := ldD_le l
  refine loop_up mixed clD_ok (rdS l) (ldD l) (by simp) (fun i h => ?_) ?_ 0 (Nat.zero_le _)
  · have h1 := dig_yes (ldD_lt h)
    have h5 := (l.getD i 0).toNat_lt
    refine ⟨_, _, _, _, _, lpBy_nil, List.nodup_nil, rd_1 l i (dV (l.getD i 0) : Nat), ?_⟩
    simp only [allP, and_true, decide_eq_true_eq, decide_eq_false_iff_not, i64_min, i64_max]
    rw [h1]
    repeat' apply And.intro
    all_goals first | exact True.intro | omega
  · by_cases h : ldD l < l.length
    · have h1 := dig_no (ldD_stop h)
      have h5 := (l.getD (ldD l) 0).toNat_lt
      refine ⟨_, _, _, _, _, lpBy_nil, List.nodup_nil, rd_2 l (ldD l) (-1), ?_⟩
      simp only [allP, and_true, decide_eq_true_eq, decide_eq_false_iff_not, i64_min, i64_max]
      rw [h1]
      repeat' apply And.intro
      all_goals first | exact True.intro | omega
    · refine ⟨_, _, _, _, _, lpBy_nil, List.nodup_nil, rd_3 l (ldD l) 0, ?_⟩
      simp only [allP, and_true, decide_eq_true_eq, decide_eq_false_iff_not, i64_min, i64_max]
      repeat' apply And.intro
      all_goals first | exact True.intro | omega

noncomputable def rdLp (l : List UInt8) : List (Nat × Lp) := [(2, ⟨lbody Try.prog 20 2, ⟨[], [0, 3], []⟩, rdS l 0, .exit 0, rdS l (ldD l)⟩)]

theorem rdh_1 (l : List UInt8) : outcome Try.prog 20 (aBody Try.prog clD ⟨true, bs [] ++ ([])⟩ (lpBy (rdLp l)) 60 20 ([.c (str l)]) ([])) = some ((AV.c ((Value.int .i64 ((↑(ldD l) : Int))))), [((lbody Try.prog (20 : FuncId) (2 : Nat) : Go.Code)) = (lbody Try.prog (20 : FuncId) (2 : Nat)),
 ((rdS l (0 : Nat) : Go.Proofs.Ytigglgobiofalaa.St)) = (rdS l (0 : Nat))]) := by kernel_rfl

theorem rdh_all (l : List UInt8)  : ∃ (h : Hints) (p : List Prop), outcome Try.prog 20 (aBody Try.prog clD h (lpBy (rdLp l)) 60 20 ([.c (str l)]) ([])) = some (.c (.int .i64 (ldD l)), p) ∧ allP p := by
  have eR := rdh_1 l
  refine ⟨_, _, eR.trans (congrArg (fun r => some (r, _)) ?_), ?_⟩
  · rfl
  · simp only [decide_eq_true_eq, decide_eq_false_iff_not, beq_iff_eq, beq_eq_false_iff_ne, ne_eq] at *
    simp (disch := omega) only [allP, tdN, tmN, i64_wrap, i32_wrap, u8_wrap, u32_wrap, bytesOK_cons, bytesOK_nil, decide_eq_true_eq, decide_eq_false_iff_not, beq_iff_eq, beq_eq_false_iff_ne, ne_eq, not_false_eq_true, and_true, true_and, i64_min, i64_max, u8_min, u8_max]
    repeat' apply And.intro
    all_goals first | omega | assumption | rfl | exact avEq_refl _

def digitsSpec : Spec
  | [.c (.string s)] => some (.c (.int .i64 (ldD (sb s) : Nat)), [(sb s).length ≤ 1000000000])
  | _ => none

theorem rdigits_ok : SpecOK Try.prog 20 digitsSpec := by
  refine spec_of mixed clD_ok fun args r q hs hq => ?_
  unfold digitsSpec at hs
  split at hs
  · rename_i s
    simp only [Option.some.injEq, Prod.mk.injEq] at hs
    obtain ⟨rfl, rfl⟩ := hs
    obtain ⟨⟨⟨l⟩⟩, rfl⟩ : ∃ b : ByteArray, b = s := ⟨s, rfl⟩
    have hl : l.length ≤ 1000000000 := hq.1
    rw [show sb ⟨⟨l⟩⟩ = l from rfl]
    obtain ⟨hh, p, e, hp⟩ := rdh_all l
    exact ⟨_, _, _, _, lpBy_cons lpBy_nil List.nodup_nil (rd_walk l hl), e, hp⟩
  · simp at hs

end Go.Proofs.Ytigglgobiofalaa
