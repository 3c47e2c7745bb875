/- The program's own: digits that stand first, whole numbers. -/
import Derived.Test.YtigglgobiofalaaNumF
namespace Go.Proofs.Ytigglgobiofalaa
open Go.RowKit Num
set_option linter.unusedVariables false
set_option linter.unusedSimpArgs false

noncomputable def clG : CallT := aCall Try.prog (sgBy [(16, digitSpec)]) 500 8
theorem clG_ok : CallOK Try.prog clG := aCall_ok mixed (sgBy_cons digit_ok sgBy_nil) 500 8

def pdigitsSpec : Spec
  | [.c (.string s)] => some (.c (.int .i64 (ldD (sb s) : Nat)), [(sb s).length ≤ 9223372036854775807])
  | _ => none
def pwholeSpec : Spec
  | [.c (.string s)] => some (.tu [.c (.int .i64 (wV (sb s) : Nat)), .c (.bool (wOK (sb s)))], [(sb s).length ≤ 9223372036854775807])
  | _ => none

/-! Digits that stand first. -/
def pdS (l : List UInt8) (i : Nat) : St := ⟨frame 18 [(0, .c (str l)), (3, .c (.int .i64 i))], []⟩

theorem pd_1 (l : List UInt8) (i : Nat) (d : Int) : roundOut (⟨[], [0, 3], []⟩) (aCode Try.prog clG ⟨true, bs [(7, true), (13, true)] ++ ([(12, ⟨.c (.int .i64 d), none⟩)])⟩ (lpBy ([])) 60 (lbody Try.prog 15 2) (pdS l i)) = some (.normal, pdS l (i + 1), [((decide ((↑i : Int) < (↑l.length : Int)) : Bool)) = (true),
 (((0 : Int) : Int) ≤ ((↑i : Int))),
 (((↑i : Int) : Int) < ((↑l.length : Int))),
 (((0 : Int) : Int) ≤ ((↑(l.getD i (0 : UInt8)).toNat : Int))),
 (((↑(l.getD i (0 : UInt8)).toNat : Int) : Int) < ((256 : Int))),
 ((digitI (↑(l.getD i (0 : UInt8)).toNat : Int) (10 : Int) : Int)) = (d),
 ((decide (d ≥ (0 : Int)) : Bool)) = (true),
 ((IntKind.i64.min : Int) ≤ ((↑i : Int) + (1 : Int))),
 (((↑i : Int) + (1 : Int) : Int) ≤ (IntKind.i64.max))]) := by kernel_rfl

theorem pd_2 (l : List UInt8) (i : Nat) (d : Int) : roundOut (⟨[], [0, 3], []⟩) (aCode Try.prog clG ⟨true, bs [(7, true), (13, false)] ++ ([(12, ⟨.c (.int .i64 d), none⟩)])⟩ (lpBy ([])) 60 (lbody Try.prog 15 2) (pdS l i)) = some (.exit 0, pdS l i, [((decide ((↑i : Int) < (↑l.length : Int)) : Bool)) = (true),
 (((0 : Int) : Int) ≤ ((↑i : Int))),
 (((↑i : Int) : Int) < ((↑l.length : Int))),
 (((0 : Int) : Int) ≤ ((↑(l.getD i (0 : UInt8)).toNat : Int))),
 (((↑(l.getD i (0 : UInt8)).toNat : Int) : Int) < ((256 : Int))),
 ((digitI (↑(l.getD i (0 : UInt8)).toNat : Int) (10 : Int) : Int)) = (d),
 ((decide (d ≥ (0 : Int)) : Bool)) = (false)]) := by kernel_rfl

theorem pd_3 (l : List UInt8) (i : Nat) (d : Int) : roundOut (⟨[], [0, 3], []⟩) (aCode Try.prog clG ⟨true, bs [(7, false)] ++ ([(12, ⟨.c (.int .i64 d), none⟩)])⟩ (lpBy ([])) 60 (lbody Try.prog 15 2) (pdS l i)) = some (.exit 0, pdS l i, [((decide ((↑i : Int) < (↑l.length : Int)) : Bool)) = (false)]) := by kernel_rfl

theorem pd_walk (l : List UInt8) (hl : l.length ≤ 9223372036854775807) : Tri Ext0 Try.prog (.loop (lbody Try.prog 15 2)) (pdS l 0) (.exit 0) (pdS l (ldD l)) := by
  have h0 := ldD_le l
  refine loop_up mixed clG_ok (pdS l) (ldD l) (by simp) (fun i h => ?_) ?_ 0 (Nat.zero_le _)
  · have h1 := dig_yes (ldD_lt h)
    have h5 := (l.getD i 0).toNat_lt
    refine ⟨_, _, _, _, _, lpBy_nil, List.nodup_nil, pd_1 l i (dV (l.getD i 0) : Nat), ?_⟩
    simp only [allP, and_true, decide_eq_true_eq, decide_eq_false_iff_not, i64_min, i64_max]
    rw [h1]
    repeat' apply And.intro
    all_goals first | exact True.intro | omega
  · by_cases h : ldD l < l.length
    · have h1 := dig_no (ldD_stop h)
      have h5 := (l.getD (ldD l) 0).toNat_lt
      refine ⟨_, _, _, _, _, lpBy_nil, List.nodup_nil, pd_2 l (ldD l) (-1), ?_⟩
      simp only [allP, and_true, decide_eq_true_eq, decide_eq_false_iff_not, i64_min, i64_max]
      rw [h1]
      repeat' apply And.intro
      all_goals first | exact True.intro | omega
    · refine ⟨_, _, _, _, _, lpBy_nil, List.nodup_nil, pd_3 l (ldD l) 0, ?_⟩
      simp only [allP, and_true, decide_eq_true_eq, decide_eq_false_iff_not, i64_min, i64_max]
      repeat' apply And.intro
      all_goals first | exact True.intro | omega

noncomputable def pdLp (l : List UInt8) : List (Nat × Lp) := [(2, ⟨lbody Try.prog 15 2, ⟨[], [0, 3], []⟩, pdS l 0, .exit 0, pdS l (ldD l)⟩)]

theorem pdh_1 (l : List UInt8) : outcome Try.prog 15 (aBody Try.prog clG ⟨true, bs [] ++ ([])⟩ (lpBy (pdLp l)) 60 15 ([.c (str l)]) ([])) = some ((AV.c ((Value.int .i64 ((↑(ldD l) : Int))))), [((lbody Try.prog (15 : FuncId) (2 : Nat) : Go.Code)) = (lbody Try.prog (15 : FuncId) (2 : Nat)),
 ((pdS l (0 : Nat) : Go.Proofs.Ytigglgobiofalaa.St)) = (pdS l (0 : Nat))]) := by kernel_rfl

theorem pdh_all (l : List UInt8)  : ∃ (h : Hints) (p : List Prop), outcome Try.prog 15 (aBody Try.prog clG h (lpBy (pdLp l)) 60 15 ([.c (str l)]) ([])) = some (.c (.int .i64 (ldD l)), p) ∧ allP p := by
  have eR := pdh_1 l
  refine ⟨_, _, eR.trans (congrArg (fun r => some (r, _)) ?_), ?_⟩
  · rfl
  · simp only [decide_eq_true_eq, decide_eq_false_iff_not, beq_iff_eq, beq_eq_false_iff_ne, ne_eq] at *
    simp (disch := omega) only [allP, tdN, tmN, i64_wrap, i32_wrap, u8_wrap, u32_wrap, bytesOK_cons, bytesOK_nil, decide_eq_true_eq, decide_eq_false_iff_not, beq_iff_eq, beq_eq_false_iff_ne, ne_eq, not_false_eq_true, and_true, true_and, i64_min, i64_max, u8_min, u8_max]
    repeat' apply And.intro
    all_goals first | omega | assumption | rfl | exact avEq_refl _

theorem prun_ok : SpecOK Try.prog 15 pdigitsSpec := by
  refine spec_of mixed clG_ok fun args r q hs hq => ?_
  unfold pdigitsSpec at hs
  split at hs
  · rename_i s
    simp only [Option.some.injEq, Prod.mk.injEq] at hs
    obtain ⟨rfl, rfl⟩ := hs
    obtain ⟨⟨⟨l⟩⟩, rfl⟩ : ∃ b : ByteArray, b = s := ⟨s, rfl⟩
    have hl : l.length ≤ 9223372036854775807 := hq.1
    rw [show sb ⟨⟨l⟩⟩ = l from rfl]
    obtain ⟨hh, p, e, hp⟩ := pdh_all l
    exact ⟨_, _, _, _, lpBy_cons lpBy_nil List.nodup_nil (pd_walk l hl), e, hp⟩
  · simp at hs

noncomputable def clH : CallT := aCall Try.prog (sgBy [(16, digitSpec), (15, pdigitsSpec)]) 500 8
theorem clH_ok : CallOK Try.prog clH := aCall_ok mixed (sgBy_cons digit_ok (sgBy_cons prun_ok sgBy_nil)) 500 8

/-! Whole. -/
def pwhS (l : List UInt8) (n : Int) (i : Nat) : St := ⟨frame 36 [(0, .c (str l)), (4, .c (.int .i64 n)), (17, .c (.int .i64 l.length)), (18, .c (.int .i64 i))], []⟩
def pwhT : St := ⟨frame 36 [(2, .c (.int .i64 9223372036854775807)), (3, .c (.bool true))], []⟩

theorem pwh_1 (l : List UInt8) (n : Int) (i : Nat) (d e q : Int) : roundOut (⟨[], [2, 3], []⟩) (aCode Try.prog clH ⟨true, bs [(19, true), (29, true)] ++ ([(24, ⟨.c (.int .i64 d), none⟩), (27, ⟨.c (.int .i64 e), none⟩), (28, ⟨.c (.int .i64 q), none⟩)])⟩ (lpBy ([])) 60 (lbody Try.prog 9 5) (pwhS l n i)) = some (.ret, pwhT, [((decide ((↑i : Int) < (↑l.length : Int)) : Bool)) = (true),
 (((0 : Int) : Int) ≤ ((↑i : Int))),
 (((↑i : Int) : Int) < ((↑l.length : Int))),
 (((0 : Int) : Int) ≤ ((↑(l.getD i (0 : UInt8)).toNat : Int))),
 (((↑(l.getD i (0 : UInt8)).toNat : Int) : Int) < ((256 : Int))),
 ((digitI (↑(l.getD i (0 : UInt8)).toNat : Int) (10 : Int) : Int)) = (d),
 ((IntKind.i64.min : Int) ≤ ((9223372036854775807 : Int) - d)),
 (((9223372036854775807 : Int) - d : Int) ≤ (IntKind.i64.max)),
 (((9223372036854775807 : Int) - d : Int)) = (e),
 ((IntKind.i64.wrap (e.tdiv (10 : Int)) : Int)) = (q),
 ((decide (n > q) : Bool)) = (true)]) := by kernel_rfl

theorem pwh_2 (l : List UInt8) (n : Int) (i : Nat) (d e q : Int) : roundOut (⟨[], [0, 4, 17, 18], []⟩) (aCode Try.prog clH ⟨true, bs [(19, true), (29, false)] ++ ([(24, ⟨.c (.int .i64 d), none⟩), (27, ⟨.c (.int .i64 e), none⟩), (28, ⟨.c (.int .i64 q), none⟩)])⟩ (lpBy ([])) 60 (lbody Try.prog 9 5) (pwhS l n i)) = some (.normal, pwhS l (10 * n + d) (i + 1), [((decide ((↑i : Int) < (↑l.length : Int)) : Bool)) = (true),
 (((0 : Int) : Int) ≤ ((↑i : Int))),
 (((↑i : Int) : Int) < ((↑l.length : Int))),
 (((0 : Int) : Int) ≤ ((↑(l.getD i (0 : UInt8)).toNat : Int))),
 (((↑(l.getD i (0 : UInt8)).toNat : Int) : Int) < ((256 : Int))),
 ((digitI (↑(l.getD i (0 : UInt8)).toNat : Int) (10 : Int) : Int)) = (d),
 ((IntKind.i64.min : Int) ≤ ((9223372036854775807 : Int) - d)),
 (((9223372036854775807 : Int) - d : Int) ≤ (IntKind.i64.max)),
 (((9223372036854775807 : Int) - d : Int)) = (e),
 ((IntKind.i64.wrap (e.tdiv (10 : Int)) : Int)) = (q),
 ((decide (n > q) : Bool)) = (false),
 ((IntKind.i64.min : Int) ≤ ((10 : Int) * n)),
 (((10 : Int) * n : Int) ≤ (IntKind.i64.max)),
 ((IntKind.i64.min : Int) ≤ ((10 : Int) * n + d)),
 (((10 : Int) * n + d : Int) ≤ (IntKind.i64.max)),
 ((IntKind.i64.min : Int) ≤ ((↑i : Int) + (1 : Int))),
 (((↑i : Int) + (1 : Int) : Int) ≤ (IntKind.i64.max))]) := by kernel_rfl

theorem pwh_3 (l : List UInt8) (n : Int) (i : Nat) (d e q : Int) : roundOut (⟨[], [0, 4, 17, 18], []⟩) (aCode Try.prog clH ⟨true, bs [(19, false)] ++ ([(24, ⟨.c (.int .i64 d), none⟩), (27, ⟨.c (.int .i64 e), none⟩), (28, ⟨.c (.int .i64 q), none⟩)])⟩ (lpBy ([])) 60 (lbody Try.prog 9 5) (pwhS l n i)) = some (.exit 0, pwhS l n i, [((decide ((↑i : Int) < (↑l.length : Int)) : Bool)) = (false)]) := by kernel_rfl

/-- Is it too much behind i digits? -/
def tooM (l : List UInt8) (i : Nat) : Prop := satV (l.take i) > (maxN - dV (l.getD i 0)) / 10

theorem pwh_q (d : Nat) (h : d ≤ 9) : IntKind.i64.wrap (Int.tdiv ((9223372036854775807 : Int) - (d : Nat)) 10) = (((9223372036854775807 - d) / 10 : Nat) : Int) := by
  have e : (9223372036854775807 : Int) - (d : Nat) = ((9223372036854775807 - d : Nat) : Int) := by omega
  have e2 : Int.tdiv ((9223372036854775807 - d : Nat) : Int) 10 = (((9223372036854775807 - d) / 10 : Nat) : Int) := by
    rw [Int.tdiv_eq_ediv_of_nonneg (by omega)]; omega
  rw [e, e2]
  exact i64_wrap (by omega) (by omega)

theorem pwh_go (l : List UInt8) (hl : l.length ≤ 9223372036854775807) (ha : ldD l = l.length) (i : Nat) (h : i < l.length) (hg : ¬ tooM l i) : Round Ext0 Try.prog clH (lbody Try.prog 9 5) (pwhS l (satV (l.take i) : Nat) i) .normal (pwhS l (satV (l.take (i + 1)) : Nat) (i + 1)) := by
  have hd := ldD_lt (l := l) (i := i) (by omega)
  have h1 := dig_yes hd
  have h2 := dV_le hd
  have h3 := sat_max (l.take i)
  have h4 := sat_next l i (by omega) hd
  have h5 := (l.getD i 0).toNat_lt
  unfold tooM at hg
  generalize ev : satV (l.take i) = v at *
  generalize ed : dV (l.getD i 0) = d at *
  have hq := pwh_q d h2
  unfold maxN at h3 h4 hg
  rw [if_neg hg] at h4
  rw [h4]
  have e : ((10 * v + d : Nat) : Int) = 10 * (v : Nat) + (d : Nat) := by omega
  rw [e]
  refine ⟨_, _, _, _, _, lpBy_nil, List.nodup_nil, pwh_2 l v i d ((9223372036854775807 : Int) - (d : Nat)) (((9223372036854775807 - d) / 10 : Nat) : Int), ?_⟩
  simp only [allP, and_true, decide_eq_true_eq, decide_eq_false_iff_not, i64_min, i64_max]
  rw [hq, h1]
  repeat' apply And.intro
  all_goals first | exact True.intro | omega

theorem pwh_stop (l : List UInt8) (hl : l.length ≤ 9223372036854775807) (ha : ldD l = l.length) (i : Nat) (h : i < l.length) (hg : tooM l i) : Round Ext0 Try.prog clH (lbody Try.prog 9 5) (pwhS l (satV (l.take i) : Nat) i) .ret pwhT := by
  have hd := ldD_lt (l := l) (i := i) (by omega)
  have h1 := dig_yes hd
  have h2 := dV_le hd
  have h3 := sat_max (l.take i)
  have h5 := (l.getD i 0).toNat_lt
  unfold tooM at hg
  generalize ev : satV (l.take i) = v at *
  generalize ed : dV (l.getD i 0) = d at *
  have hq := pwh_q d h2
  unfold maxN at h3 hg
  refine ⟨_, _, _, _, _, lpBy_nil, List.nodup_nil, pwh_1 l v i d ((9223372036854775807 : Int) - (d : Nat)) (((9223372036854775807 - d) / 10 : Nat) : Int), ?_⟩
  simp only [allP, and_true, decide_eq_true_eq, decide_eq_false_iff_not, i64_min, i64_max]
  rw [hq, h1]
  repeat' apply And.intro
  all_goals first | exact True.intro | omega

theorem sat_mono (l : List UInt8) (ha : ldD l = l.length) (i : Nat) (h : satV (l.take i) = maxN) : ∀ k, i + k ≤ l.length → satV (l.take (i + k)) = maxN
  | 0, _ => h
  | k + 1, hk => by
    have ih := sat_mono l ha i h k (by omega)
    have hd := ldD_lt (l := l) (i := i + k) (by omega)
    have h4 := sat_next l (i + k) (by omega) hd
    have h2 := dV_le hd
    rw [ih] at h4
    rw [show i + (k + 1) = i + k + 1 by omega, h4, if_pos]
    unfold maxN
    omega

theorem first_of {p : Nat → Prop} : ∀ n, (∀ i, i < n → ¬ p i) ∨ ∃ i, i < n ∧ p i ∧ ∀ j, j < i → ¬ p j
  | 0 => .inl fun i h => by omega
  | n + 1 => by
    rcases first_of (p := p) n with h | ⟨i, h1, h2, h3⟩
    · by_cases hp : p n
      · exact .inr ⟨n, by omega, hp, h⟩
      · refine .inl fun i hi => ?_
        by_cases he : i = n
        · subst he; exact hp
        · exact h i (by omega)
    · exact .inr ⟨i, by omega, h2, h3⟩

theorem pwh_all (l : List UInt8) (hl : l.length ≤ 9223372036854775807) (ha : ldD l = l.length) :
    (Tri Ext0 Try.prog (.loop (lbody Try.prog 9 5)) (pwhS l (satV (l.take 0) : Nat) 0) (.exit 0) (pwhS l (satV l : Nat) l.length)) ∨
    (satV l = 9223372036854775807 ∧ Tri Ext0 Try.prog (.loop (lbody Try.prog 9 5)) (pwhS l (satV (l.take 0) : Nat) 0) .ret pwhT) := by
  rcases first_of (p := tooM l) l.length with h | ⟨i, h1, h2, h3⟩
  · refine .inl (loop_up mixed clH_ok (fun i => pwhS l (satV (l.take i) : Nat) i) l.length (by simp) (fun i hi => pwh_go l hl ha i hi (h i hi)) ?_ 0 (Nat.zero_le _))
    rw [List.take_length]
    refine ⟨_, _, _, _, _, lpBy_nil, List.nodup_nil, pwh_3 l _ l.length 0 0 0, ?_⟩
    simp only [allP, and_true, decide_eq_false_iff_not]
    omega
  · refine .inr ⟨?_, loop_up mixed clH_ok (fun i => pwhS l (satV (l.take i) : Nat) i) i (by simp) (fun j hj => pwh_go l hl ha j (by omega) (h3 j hj)) (pwh_stop l hl ha i h1 h2) 0 (Nat.zero_le _)⟩
    have hd := ldD_lt (l := l) (i := i) (by omega)
    have h4 := sat_next l i (by omega) hd
    rw [if_pos (show satV (l.take i) > (maxN - dV (l.getD i 0)) / 10 from h2)] at h4
    have := sat_mono l ha (i + 1) h4 (l.length - (i + 1)) (by omega)
    rw [show i + 1 + (l.length - (i + 1)) = l.length by omega, List.take_length] at this
    exact this

noncomputable def pwhLp1 (l : List UInt8) : List (Nat × Lp) := [(5, ⟨lbody Try.prog 9 5, ⟨[], [0, 4, 17, 18], []⟩, pwhS l (satV (l.take 0) : Nat) 0, .exit 0, pwhS l (satV l : Nat) l.length⟩)]
noncomputable def pwhLp2 (l : List UInt8) : List (Nat × Lp) := [(5, ⟨lbody Try.prog 9 5, ⟨[], [0, 4, 17, 18], []⟩, pwhS l (satV (l.take 0) : Nat) 0, .ret, pwhT⟩)]

theorem pw0_1  : outcome Try.prog 9 (aBody Try.prog clH ⟨true, bs [] ++ ([])⟩ (lpBy ([])) 60 9 ([.c (str [])]) ([])) = some ((AV.tu [(AV.c ((Value.int .i64 0))),
 (AV.c ((Value.bool false)))]), []) := by kernel_rfl

theorem pw0_all   : ∃ (h : Hints) (p : List Prop), outcome Try.prog 9 (aBody Try.prog clH h (lpBy ([])) 60 9 ([.c (str [])]) ([])) = some (.tu [.c (.int .i64 0), .c (.bool false)], p) ∧ allP p := by
  have eR := pw0_1 
  refine ⟨_, _, eR.trans (congrArg (fun r => some (r, _)) ?_), ?_⟩
  · rfl
  · simp only [allP]
    repeat' apply And.intro
    all_goals first | exact True.intro | decide

theorem pw1_1 (l : List UInt8) (n : Nat) : outcome Try.prog 9 (aBody Try.prog clH ⟨true, bs [] ++ (bs [(8, false), (14, true)] ++ [(11, ⟨.c (.int .i64 n), none⟩)])⟩ (lpBy ([])) 60 9 ([.c (str l)]) ([])) = some ((AV.tu [(AV.c ((Value.int .i64 0))),
 (AV.c ((Value.bool false)))]), [((l == [] : Bool)) = (false),
 ((l.length : Nat) ≤ ((9223372036854775807 : Nat))),
 (((↑(ldD l) : Int) : Int)) = ((↑n : Int)),
 ((decide ((↑n : Int) < (↑l.length : Int)) : Bool)) = (true)]) := by kernel_rfl

theorem pw1_all (l : List UInt8) (n : Nat) (hn : ldD l = n) (hl : l.length ≤ 9223372036854775807) (h : n < l.length) (h0 : l ≠ []) : ∃ (h : Hints) (p : List Prop), outcome Try.prog 9 (aBody Try.prog clH h (lpBy ([])) 60 9 ([.c (str l)]) ([])) = some (.tu [.c (.int .i64 0), .c (.bool false)], p) ∧ allP p := by
  have eR := pw1_1 l n
  refine ⟨_, _, eR.trans (congrArg (fun r => some (r, _)) ?_), ?_⟩
  · rfl
  · simp only [allP, sb_mk, beq_eq_false_iff_ne, decide_eq_true_eq, ne_eq]
    repeat' apply And.intro
    all_goals first | exact True.intro | omega | (simpa using h0)

theorem pww1_1 (l : List UInt8) (n : Nat) : outcome Try.prog 9 (aBody Try.prog clH ⟨true, bs [] ++ (bs [(8, false), (14, false)] ++ [(11, ⟨.c (.int .i64 n), none⟩)])⟩ (lpBy (pwhLp1 l)) 60 9 ([.c (str l)]) ([])) = some ((AV.tu [(AV.c ((Value.int .i64 ((↑(satV l) : Int))))),
 (AV.c ((Value.bool true)))]), [((l == [] : Bool)) = (false),
 ((l.length : Nat) ≤ ((9223372036854775807 : Nat))),
 (((↑(ldD l) : Int) : Int)) = ((↑n : Int)),
 ((decide ((↑n : Int) < (↑l.length : Int)) : Bool)) = (false),
 ((lbody Try.prog (9 : FuncId) (5 : Nat) : Go.Code)) = (lbody Try.prog (9 : FuncId) (5 : Nat)),
 ((pwhS l (↑(satV (List.take (0 : Nat) l)) : Int) (0 : Nat) : Go.Proofs.Ytigglgobiofalaa.St)) = (pwhS l (↑(satV (List.take (0 : Nat) l)) : Int) (0 : Nat))]) := by kernel_rfl

theorem pww1_all (l : List UInt8) (n : Nat) (hn : ldD l = n) (hl : l.length ≤ 9223372036854775807) (h : n = l.length) (h0 : l ≠ []) : ∃ (h : Hints) (p : List Prop), outcome Try.prog 9 (aBody Try.prog clH h (lpBy (pwhLp1 l)) 60 9 ([.c (str l)]) ([])) = some (.tu [.c (.int .i64 (satV l : Nat)), .c (.bool true)], p) ∧ allP p := by
  have eR := pww1_1 l n
  refine ⟨_, _, eR.trans (congrArg (fun r => some (r, _)) ?_), ?_⟩
  · rfl
  · simp only [allP, sb_mk, beq_eq_false_iff_ne, decide_eq_false_iff_not, ne_eq]
    repeat' apply And.intro
    all_goals first | exact True.intro | omega | (simpa using h0) | rfl


theorem pww2_1 (l : List UInt8) (n : Nat) : outcome Try.prog 9 (aBody Try.prog clH ⟨true, bs [] ++ (bs [(8, false), (14, false)] ++ [(11, ⟨.c (.int .i64 n), none⟩)])⟩ (lpBy (pwhLp2 l)) 60 9 ([.c (str l)]) ([])) = some ((AV.tu [(AV.c ((Value.int .i64 9223372036854775807))),
 (AV.c ((Value.bool true)))]), [((l == [] : Bool)) = (false),
 ((l.length : Nat) ≤ ((9223372036854775807 : Nat))),
 (((↑(ldD l) : Int) : Int)) = ((↑n : Int)),
 ((decide ((↑n : Int) < (↑l.length : Int)) : Bool)) = (false),
 ((lbody Try.prog (9 : FuncId) (5 : Nat) : Go.Code)) = (lbody Try.prog (9 : FuncId) (5 : Nat)),
 ((pwhS l (↑(satV (List.take (0 : Nat) l)) : Int) (0 : Nat) : Go.Proofs.Ytigglgobiofalaa.St)) = (pwhS l (↑(satV (List.take (0 : Nat) l)) : Int) (0 : Nat))]) := by kernel_rfl

theorem pww2_all (l : List UInt8) (n : Nat) (hn : ldD l = n) (hl : l.length ≤ 9223372036854775807) (h : n = l.length) (h0 : l ≠ []) : ∃ (h : Hints) (p : List Prop), outcome Try.prog 9 (aBody Try.prog clH h (lpBy (pwhLp2 l)) 60 9 ([.c (str l)]) ([])) = some (.tu [.c (.int .i64 9223372036854775807), .c (.bool true)], p) ∧ allP p := by
  have eR := pww2_1 l n
  refine ⟨_, _, eR.trans (congrArg (fun r => some (r, _)) ?_), ?_⟩
  · rfl
  · simp only [allP, sb_mk, beq_eq_false_iff_ne, decide_eq_false_iff_not, ne_eq]
    repeat' apply And.intro
    all_goals first | exact True.intro | omega | (simpa using h0) | rfl


theorem pwhole_ok : SpecOK Try.prog 9 pwholeSpec := by
  refine spec_of mixed clH_ok fun args r q hs hq => ?_
  unfold pwholeSpec at hs
  split at hs
  · rename_i s
    simp only [Option.some.injEq, Prod.mk.injEq] at hs
    obtain ⟨rfl, rfl⟩ := hs
    obtain ⟨⟨⟨l⟩⟩, rfl⟩ : ∃ b : ByteArray, b = s := ⟨s, rfl⟩
    have hl : l.length ≤ 9223372036854775807 := hq.1
    rw [show sb ⟨⟨l⟩⟩ = l from rfl]
    clear hq
    by_cases h0 : l = []
    · subst h0
      obtain ⟨hh, p, e, hp⟩ := pw0_all
      exact ⟨_, _, _, _, lpBy_nil, e, hp⟩
    · by_cases h : ldD l < l.length
      · obtain ⟨hh, p, e, hp⟩ := pw1_all l _ rfl hl h h0
        obtain ⟨e1, e2⟩ := w_no h
        rw [e1, e2]
        exact ⟨_, _, _, _, lpBy_nil, e, hp⟩
      · have h' : ldD l = l.length := by have := ldD_le l; omega
        obtain ⟨e1, e2⟩ := w_yes h'
        have hpos := List.length_pos_iff.2 h0
        rw [e1, e2, decide_eq_true (show (l.length : Int) > 0 by omega)]
        rcases pwh_all l hl h' with ht | ⟨hs, ht⟩
        · obtain ⟨hh, p, e, hp⟩ := pww1_all l _ rfl hl h' h0
          exact ⟨_, _, _, _, lpBy_cons lpBy_nil List.nodup_nil ht, e, hp⟩
        · obtain ⟨hh, p, e, hp⟩ := pww2_all l _ rfl hl h' h0
          rw [hs]
          exact ⟨_, _, _, _, lpBy_cons lpBy_nil List.nodup_nil ht, e, hp⟩
  · simp at hs

end Go.Proofs.Ytigglgobiofalaa
