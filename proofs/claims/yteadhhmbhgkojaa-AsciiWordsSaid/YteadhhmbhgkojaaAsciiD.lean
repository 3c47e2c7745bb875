/- Both ends of a text, as the document has it; Trim and Strip. -/
import Derived.Test.YteadhhmbhgkojaaAsciiC
namespace Go.Proofs.Yteadhhmbhgkojaa
open Go.RowKit
set_option linter.unusedVariables false

def stripSpec (p : Int → Bool) : Spec
  | [.c (.string s)] => some (.c (str (stripF p (sb s))), [(sb s).length ≤ 1000000])
  | _ => none

noncomputable def cl4 : CallT := aCall Try.prog (sgBy [(29, cutSpec)]) 500 8
theorem cl4_ok : CallOK Try.prog cl4 := aCall_ok mixed (sgBy_cons cut_ok sgBy_nil) 500 8

theorem trim_ok : SpecOK Try.prog 18 (stripSpec lowI) := by
  refine spec_of mixed cl4_ok fun args r q hs hq => ?_
  unfold stripSpec at hs
  split at hs
  · rename_i s
    simp only [Option.some.injEq, Prod.mk.injEq] at hs
    obtain ⟨rfl, rfl⟩ := hs
    exact ⟨⟨true, []⟩, lpBy [], 60, [(sb s).length ≤ 1000000], lpBy_nil, by kernel_rfl, hq⟩
  · simp at hs

theorem strip_ok : SpecOK Try.prog 20 (stripSpec blankI) := by
  refine spec_of mixed cl4_ok fun args r q hs hq => ?_
  unfold stripSpec at hs
  split at hs
  · rename_i s
    simp only [Option.some.injEq, Prod.mk.injEq] at hs
    obtain ⟨rfl, rfl⟩ := hs
    exact ⟨⟨true, []⟩, lpBy [], 60, [(sb s).length ≤ 1000000], lpBy_nil, by kernel_rfl, hq⟩
  · simp at hs

def rcutI (l : List UInt8) (a b : Int) : St := ⟨frame 34 [(0, .c (str l)), (3, .c (.int .i64 a)), (4, .c (.int .i64 b))], []⟩
def rcutFi : Fi := ⟨[], [0, 3, 4], []⟩

noncomputable def rcutBlankRun (k : Nat) (h : List (Nat × Hint)) (S : St) : Option (Exit × St × List Prop) := roundOut rcutFi (aCode Try.prog cl3 ⟨true, h⟩ (lpBy []) 60 (lbody Try.prog 21 k) S)

theorem rcutBlank1a (l : List UInt8) (i : Nat) : rcutBlankRun 3 (bs [(9, true), (14, true)]) (rcutI l i l.length) = some (.normal, rcutI l (i + 1 : Nat) l.length, [((decide ((↑i : Int) < (↑l.length : Int)) : Bool)) = (true),
 (((0 : Int) : Int) ≤ ((↑i : Int))),
 (((↑i : Int) : Int) < ((↑l.length : Int))),
 (((0 : Int) : Int) ≤ ((↑(l.getD i (0 : UInt8)).toNat : Int))),
 (((↑(l.getD i (0 : UInt8)).toNat : Int) : Int) < ((256 : Int))),
 ((blankI (↑(l.getD i (0 : UInt8)).toNat : Int) : Bool)) = (true),
 ((IntKind.i64.min : Int) ≤ ((↑i : Int) + (1 : Int))),
 (((↑i : Int) + (1 : Int) : Int) ≤ (IntKind.i64.max))]) := by kernel_rfl

theorem rcutBlank1b (l : List UInt8) (i : Nat) : rcutBlankRun 3 (bs [(9, false)]) (rcutI l i l.length) = some (.exit 0, rcutI l i l.length, [((decide ((↑i : Int) < (↑l.length : Int)) : Bool)) = (false)]) := by kernel_rfl

theorem rcutBlank1c (l : List UInt8) (i : Nat) : rcutBlankRun 3 (bs [(9, true), (14, false)]) (rcutI l i l.length) = some (.exit 0, rcutI l i l.length, [((decide ((↑i : Int) < (↑l.length : Int)) : Bool)) = (true),
 (((0 : Int) : Int) ≤ ((↑i : Int))),
 (((↑i : Int) : Int) < ((↑l.length : Int))),
 (((0 : Int) : Int) ≤ ((↑(l.getD i (0 : UInt8)).toNat : Int))),
 (((↑(l.getD i (0 : UInt8)).toNat : Int) : Int) < ((256 : Int))),
 ((blankI (↑(l.getD i (0 : UInt8)).toNat : Int) : Bool)) = (false)]) := by kernel_rfl

theorem rcutBlank2a (l : List UInt8) (i j : Nat) : rcutBlankRun 5 (bs [(20, true), (26, true)] ++ [(29, ⟨.c (.int .i64 ((l.length : Int) - ((j + 1 : Nat) : Int))), none⟩)]) (rcutI l i ((l.length : Int) - (j : Int))) = some (.normal, rcutI l i ((l.length : Int) - ((j + 1 : Nat) : Int)), [((decide ((↑l.length : Int) - (↑j : Int) > (↑i : Int)) : Bool)) = (true),
 ((IntKind.i64.min : Int) ≤ ((↑l.length : Int) - (↑j : Int) - (1 : Int))),
 (((↑l.length : Int) - (↑j : Int) - (1 : Int) : Int) ≤ (IntKind.i64.max)),
 (((0 : Int) : Int) ≤ ((↑l.length : Int) - (↑j : Int) - (1 : Int))),
 (((↑l.length : Int) - (↑j : Int) - (1 : Int) : Int) < ((↑l.length : Int))),
 (((0 : Int) : Int) ≤ ((↑(l.getD ((↑l.length : Int) - (↑j : Int) - (1 : Int)).toNat (0 : UInt8)).toNat : Int))),
 (((↑(l.getD ((↑l.length : Int) - (↑j : Int) - (1 : Int)).toNat (0 : UInt8)).toNat : Int) : Int) < ((256 : Int))),
 ((blankI (↑(l.getD ((↑l.length : Int) - (↑j : Int) - (1 : Int)).toNat (0 : UInt8)).toNat : Int) : Bool)) = (true),
 ((IntKind.i64.min : Int) ≤ ((↑l.length : Int) - (↑j : Int) - (1 : Int))),
 (((↑l.length : Int) - (↑j : Int) - (1 : Int) : Int) ≤ (IntKind.i64.max)),
 (((↑l.length : Int) - (↑j : Int) - (1 : Int) : Int)) = ((↑l.length : Int) - (↑(j + (1 : Nat)) : Int))]) := by kernel_rfl

theorem rcutBlank2b (l : List UInt8) (i j : Nat) : rcutBlankRun 5 (bs [(20, false)]) (rcutI l i ((l.length : Int) - (j : Int))) = some (.exit 2, rcutI l i ((l.length : Int) - (j : Int)), [((decide ((↑l.length : Int) - (↑j : Int) > (↑i : Int)) : Bool)) = (false)]) := by kernel_rfl

theorem rcutBlank2c (l : List UInt8) (i j : Nat) : rcutBlankRun 5 (bs [(20, true), (26, false)]) (rcutI l i ((l.length : Int) - (j : Int))) = some (.exit 2, rcutI l i ((l.length : Int) - (j : Int)), [((decide ((↑l.length : Int) - (↑j : Int) > (↑i : Int)) : Bool)) = (true),
 ((IntKind.i64.min : Int) ≤ ((↑l.length : Int) - (↑j : Int) - (1 : Int))),
 (((↑l.length : Int) - (↑j : Int) - (1 : Int) : Int) ≤ (IntKind.i64.max)),
 (((0 : Int) : Int) ≤ ((↑l.length : Int) - (↑j : Int) - (1 : Int))),
 (((↑l.length : Int) - (↑j : Int) - (1 : Int) : Int) < ((↑l.length : Int))),
 (((0 : Int) : Int) ≤ ((↑(l.getD ((↑l.length : Int) - (↑j : Int) - (1 : Int)).toNat (0 : UInt8)).toNat : Int))),
 (((↑(l.getD ((↑l.length : Int) - (↑j : Int) - (1 : Int)).toNat (0 : UInt8)).toNat : Int) : Int) < ((256 : Int))),
 ((blankI (↑(l.getD ((↑l.length : Int) - (↑j : Int) - (1 : Int)).toNat (0 : UInt8)).toNat : Int) : Bool)) = (false)]) := by kernel_rfl

theorem rcutBlank1 (l : List UInt8) (hl : l.length ≤ 1000000) : Tri Ext0 Try.prog (.loop (lbody Try.prog 21 3)) (rcutI l (0 : Nat) l.length) (.exit 0) (rcutI l (leadN blankI l : Nat) l.length) := by
  refine loop_ok mixed cl3_ok (α := {i : Nat // i ≤ leadN blankI l}) (fun x => rcutI l (x.val : Nat) l.length) (fun x => leadN blankI l - x.val) ?_ ⟨0, Nat.zero_le _⟩
  rintro ⟨i, hi⟩
  have hle := lead_le blankI l
  by_cases hk : i < leadN blankI l
  · have hp := lead_lt hk
    refine .inl ⟨⟨i + 1, hk⟩, by simp only; omega, _, _, _, _, _, lpBy_nil, List.nodup_nil, rcutBlank1a l i, ?_⟩
    simp only [lowI, allP, and_true, true_and, decide_eq_true_eq, decide_eq_false_iff_not, i64_min, i64_max] at hp ⊢
    repeat' apply And.intro
    all_goals first | omega | exact hp | exact (u8_lt _).2
  · obtain rfl : i = leadN blankI l := by omega
    refine .inr ⟨by simp, ?_⟩
    by_cases hlen : leadN blankI l < l.length
    · have hp := lead_stop hlen
      refine ⟨_, _, _, _, _, lpBy_nil, List.nodup_nil, rcutBlank1c l (leadN blankI l), ?_⟩
      generalize hi2 : leadN blankI l = i at *
      simp only [lowI, allP, and_true, true_and, decide_eq_true_eq, decide_eq_false_iff_not, i64_min, i64_max] at hp ⊢
      repeat' apply And.intro
      all_goals first | omega | exact hp | exact (u8_lt _).2
    · refine ⟨_, _, _, _, _, lpBy_nil, List.nodup_nil, rcutBlank1b l (leadN blankI l), ?_⟩
      simp only [allP, and_true, true_and, decide_eq_true_eq, decide_eq_false_iff_not]
      omega

theorem rcutBlank2 (l : List UInt8) (hl : l.length ≤ 1000000) : Tri Ext0 Try.prog (.loop (lbody Try.prog 21 5)) (rcutI l (leadN blankI l : Nat) ((l.length : Int) - ((0 : Nat) : Int))) (.exit 2) (rcutI l (leadN blankI l : Nat) ((l.length : Int) - (trailN blankI l : Nat))) := by
  refine loop_ok mixed cl3_ok (α := {j : Nat // j ≤ trailN blankI l}) (fun x => rcutI l (leadN blankI l : Nat) ((l.length : Int) - (x.val : Nat))) (fun x => trailN blankI l - x.val) ?_ ⟨0, Nat.zero_le _⟩
  rintro ⟨j, hj⟩
  have hle := lead_le blankI l
  have hte := trail_le blankI l
  have hto : ((l.length : Int) - (j : Int) - 1).toNat = l.length - j - 1 := by omega
  by_cases hk : j < trailN blankI l
  · have hp := trail_lt hk
    refine .inl ⟨⟨j + 1, hk⟩, by simp only; omega, _, _, _, _, _, lpBy_nil, List.nodup_nil, rcutBlank2a l (leadN blankI l) j, ?_⟩
    generalize leadN blankI l = i at *
    generalize trailN blankI l = t at *
    simp only [lowI, allP, and_true, true_and, decide_eq_true_eq, decide_eq_false_iff_not, i64_min, i64_max, hto] at hp ⊢
    repeat' apply And.intro
    all_goals first | omega | exact hp | exact (u8_lt _).2
  · obtain rfl : j = trailN blankI l := by omega
    refine .inr ⟨by simp, ?_⟩
    by_cases hlen : leadN blankI l + trailN blankI l < l.length
    · have hp := trail_stop hlen
      refine ⟨_, _, _, _, _, lpBy_nil, List.nodup_nil, rcutBlank2c l (leadN blankI l) (trailN blankI l), ?_⟩
      generalize leadN blankI l = i at *
      generalize trailN blankI l = t at *
      simp only [lowI, allP, and_true, true_and, decide_eq_true_eq, decide_eq_false_iff_not, i64_min, i64_max, hto] at hp ⊢
      repeat' apply And.intro
      all_goals first | omega | exact hp | exact (u8_lt _).2
    · refine ⟨_, _, _, _, _, lpBy_nil, List.nodup_nil, rcutBlank2b l (leadN blankI l) (trailN blankI l), ?_⟩
      simp only [allP, and_true, true_and, decide_eq_true_eq, decide_eq_false_iff_not]
      omega

noncomputable def rcutBlankLp (l : List UInt8) : List (Nat × Lp) := [(3, ⟨lbody Try.prog 21 3, rcutFi, rcutI l (0 : Nat) l.length, .exit 0, rcutI l (leadN blankI l : Nat) l.length⟩), (5, ⟨lbody Try.prog 21 5, rcutFi, rcutI l (leadN blankI l : Nat) ((l.length : Int) - ((0 : Nat) : Int)), .exit 2, rcutI l (leadN blankI l : Nat) ((l.length : Int) - (trailN blankI l : Nat))⟩)]

theorem rcutBlankLp_ok (l : List UInt8) (hl : l.length ≤ 1000000) : LpOK Ext0 Try.prog (lpBy (rcutBlankLp l)) := lpBy_cons (lpBy_cons lpBy_nil List.nodup_nil (rcutBlank2 l hl)) List.nodup_nil (rcutBlank1 l hl)

noncomputable def rcutBlankAll (l : List UInt8) : Option (AV × List Prop) := outcome Try.prog 21 (aBody Try.prog cl3 ⟨true, [(33, ⟨.c (str (stripF blankI l)), none⟩)]⟩ (lpBy (rcutBlankLp l)) 60 21 [.c (str l)] [])

theorem rcutBlankAll_eq (l : List UInt8) : rcutBlankAll l = some (.c (str (stripF blankI l)), [((lbody Try.prog (21 : FuncId) (3 : Nat) : Go.Code)) = (lbody Try.prog (21 : FuncId) (3 : Nat)),
 ((rcutI l (↑(0 : Nat) : Int) (↑l.length : Int) : Go.Proofs.Yteadhhmbhgkojaa.St)) = (rcutI l (↑(0 : Nat) : Int) (↑l.length : Int)),
 ((lbody Try.prog (21 : FuncId) (5 : Nat) : Go.Code)) = (lbody Try.prog (21 : FuncId) (5 : Nat)),
 ((rcutI l (↑(leadN blankI l) : Int) ((↑l.length : Int) - (↑(0 : Nat) : Int)) : Go.Proofs.Yteadhhmbhgkojaa.St)) = (rcutI l (↑(leadN blankI l) : Int) ((↑l.length : Int) - (↑(0 : Nat) : Int))),
 (((0 : Int) : Int) ≤ ((↑(leadN blankI l) : Int))),
 (((↑(leadN blankI l) : Int) : Int) ≤ ((↑l.length : Int) - (↑(trailN blankI l) : Int))),
 (((↑l.length : Int) - (↑(trailN blankI l) : Int) : Int) ≤ ((↑l.length : Int))),
 ((List.drop (leadN blankI l) (List.take ((↑l.length : Int) - (↑(trailN blankI l) : Int)).toNat l) : List UInt8)) = (stripF blankI l)]) := by kernel_rfl

theorem rcutBlank_ok : SpecOK Try.prog 21 (stripSpec blankI) := by
  refine spec_of mixed cl3_ok fun args r q hs hq => ?_
  unfold stripSpec at hs
  split at hs
  · rename_i s
    simp only [Option.some.injEq, Prod.mk.injEq] at hs
    obtain ⟨rfl, rfl⟩ := hs
    obtain ⟨⟨⟨l⟩⟩, rfl⟩ : ∃ b : ByteArray, b = s := ⟨s, rfl⟩
    have hl : l.length ≤ 1000000 := hq.1
    have h1 := lead_le blankI l
    have h2 := trail_le blankI l
    have h4 : ((l.length : Int) - (trailN blankI l : Nat)).toNat = l.length - trailN blankI l := by omega
    refine ⟨_, _, _, _, rcutBlankLp_ok l hl, rcutBlankAll_eq l, ?_⟩
    simp only [allP, and_true, true_and, h4]
    refine ⟨by omega, by omega, by omega, rfl⟩
  · simp at hs


noncomputable def rcutLowRun (k : Nat) (h : List (Nat × Hint)) (S : St) : Option (Exit × St × List Prop) := roundOut rcutFi (aCode Try.prog cl3 ⟨true, h⟩ (lpBy []) 60 (lbody Try.prog 19 k) S)

theorem rcutLow1a (l : List UInt8) (i : Nat) : rcutLowRun 3 (bs [(9, true), (14, true)]) (rcutI l i l.length) = some (.normal, rcutI l (i + 1 : Nat) l.length, [((decide ((↑i : Int) < (↑l.length : Int)) : Bool)) = (true),
 (((0 : Int) : Int) ≤ ((↑i : Int))),
 (((↑i : Int) : Int) < ((↑l.length : Int))),
 ((decide ((↑(l.getD i (0 : UInt8)).toNat : Int) ≤ (32 : Int)) : Bool)) = (true),
 ((IntKind.i64.min : Int) ≤ ((↑i : Int) + (1 : Int))),
 (((↑i : Int) + (1 : Int) : Int) ≤ (IntKind.i64.max))]) := by kernel_rfl

theorem rcutLow1b (l : List UInt8) (i : Nat) : rcutLowRun 3 (bs [(9, false)]) (rcutI l i l.length) = some (.exit 0, rcutI l i l.length, [((decide ((↑i : Int) < (↑l.length : Int)) : Bool)) = (false)]) := by kernel_rfl

theorem rcutLow1c (l : List UInt8) (i : Nat) : rcutLowRun 3 (bs [(9, true), (14, false)]) (rcutI l i l.length) = some (.exit 0, rcutI l i l.length, [((decide ((↑i : Int) < (↑l.length : Int)) : Bool)) = (true),
 (((0 : Int) : Int) ≤ ((↑i : Int))),
 (((↑i : Int) : Int) < ((↑l.length : Int))),
 ((decide ((↑(l.getD i (0 : UInt8)).toNat : Int) ≤ (32 : Int)) : Bool)) = (false)]) := by kernel_rfl

theorem rcutLow2a (l : List UInt8) (i j : Nat) : rcutLowRun 5 (bs [(20, true), (26, true)] ++ [(29, ⟨.c (.int .i64 ((l.length : Int) - ((j + 1 : Nat) : Int))), none⟩)]) (rcutI l i ((l.length : Int) - (j : Int))) = some (.normal, rcutI l i ((l.length : Int) - ((j + 1 : Nat) : Int)), [((decide ((↑l.length : Int) - (↑j : Int) > (↑i : Int)) : Bool)) = (true),
 ((IntKind.i64.min : Int) ≤ ((↑l.length : Int) - (↑j : Int) - (1 : Int))),
 (((↑l.length : Int) - (↑j : Int) - (1 : Int) : Int) ≤ (IntKind.i64.max)),
 (((0 : Int) : Int) ≤ ((↑l.length : Int) - (↑j : Int) - (1 : Int))),
 (((↑l.length : Int) - (↑j : Int) - (1 : Int) : Int) < ((↑l.length : Int))),
 ((decide ((↑(l.getD ((↑l.length : Int) - (↑j : Int) - (1 : Int)).toNat (0 : UInt8)).toNat : Int) ≤ (32 : Int)) : Bool)) = (true),
 ((IntKind.i64.min : Int) ≤ ((↑l.length : Int) - (↑j : Int) - (1 : Int))),
 (((↑l.length : Int) - (↑j : Int) - (1 : Int) : Int) ≤ (IntKind.i64.max)),
 (((↑l.length : Int) - (↑j : Int) - (1 : Int) : Int)) = ((↑l.length : Int) - (↑(j + (1 : Nat)) : Int))]) := by kernel_rfl

theorem rcutLow2b (l : List UInt8) (i j : Nat) : rcutLowRun 5 (bs [(20, false)]) (rcutI l i ((l.length : Int) - (j : Int))) = some (.exit 2, rcutI l i ((l.length : Int) - (j : Int)), [((decide ((↑l.length : Int) - (↑j : Int) > (↑i : Int)) : Bool)) = (false)]) := by kernel_rfl

theorem rcutLow2c (l : List UInt8) (i j : Nat) : rcutLowRun 5 (bs [(20, true), (26, false)]) (rcutI l i ((l.length : Int) - (j : Int))) = some (.exit 2, rcutI l i ((l.length : Int) - (j : Int)), [((decide ((↑l.length : Int) - (↑j : Int) > (↑i : Int)) : Bool)) = (true),
 ((IntKind.i64.min : Int) ≤ ((↑l.length : Int) - (↑j : Int) - (1 : Int))),
 (((↑l.length : Int) - (↑j : Int) - (1 : Int) : Int) ≤ (IntKind.i64.max)),
 (((0 : Int) : Int) ≤ ((↑l.length : Int) - (↑j : Int) - (1 : Int))),
 (((↑l.length : Int) - (↑j : Int) - (1 : Int) : Int) < ((↑l.length : Int))),
 ((decide ((↑(l.getD ((↑l.length : Int) - (↑j : Int) - (1 : Int)).toNat (0 : UInt8)).toNat : Int) ≤ (32 : Int)) : Bool)) = (false)]) := by kernel_rfl

theorem rcutLow1 (l : List UInt8) (hl : l.length ≤ 1000000) : Tri Ext0 Try.prog (.loop (lbody Try.prog 19 3)) (rcutI l (0 : Nat) l.length) (.exit 0) (rcutI l (leadN lowI l : Nat) l.length) := by
  refine loop_ok mixed cl3_ok (α := {i : Nat // i ≤ leadN lowI l}) (fun x => rcutI l (x.val : Nat) l.length) (fun x => leadN lowI l - x.val) ?_ ⟨0, Nat.zero_le _⟩
  rintro ⟨i, hi⟩
  have hle := lead_le lowI l
  by_cases hk : i < leadN lowI l
  · have hp := lead_lt hk
    refine .inl ⟨⟨i + 1, hk⟩, by simp only; omega, _, _, _, _, _, lpBy_nil, List.nodup_nil, rcutLow1a l i, ?_⟩
    simp only [lowI, allP, and_true, true_and, decide_eq_true_eq, decide_eq_false_iff_not, i64_min, i64_max] at hp ⊢
    repeat' apply And.intro
    all_goals first | omega | exact hp | exact (u8_lt _).2
  · obtain rfl : i = leadN lowI l := by omega
    refine .inr ⟨by simp, ?_⟩
    by_cases hlen : leadN lowI l < l.length
    · have hp := lead_stop hlen
      refine ⟨_, _, _, _, _, lpBy_nil, List.nodup_nil, rcutLow1c l (leadN lowI l), ?_⟩
      generalize hi2 : leadN lowI l = i at *
      simp only [lowI, allP, and_true, true_and, decide_eq_true_eq, decide_eq_false_iff_not, i64_min, i64_max] at hp ⊢
      repeat' apply And.intro
      all_goals first | omega | exact hp | exact (u8_lt _).2
    · refine ⟨_, _, _, _, _, lpBy_nil, List.nodup_nil, rcutLow1b l (leadN lowI l), ?_⟩
      simp only [allP, and_true, true_and, decide_eq_true_eq, decide_eq_false_iff_not]
      omega

theorem rcutLow2 (l : List UInt8) (hl : l.length ≤ 1000000) : Tri Ext0 Try.prog (.loop (lbody Try.prog 19 5)) (rcutI l (leadN lowI l : Nat) ((l.length : Int) - ((0 : Nat) : Int))) (.exit 2) (rcutI l (leadN lowI l : Nat) ((l.length : Int) - (trailN lowI l : Nat))) := by
  refine loop_ok mixed cl3_ok (α := {j : Nat // j ≤ trailN lowI l}) (fun x => rcutI l (leadN lowI l : Nat) ((l.length : Int) - (x.val : Nat))) (fun x => trailN lowI l - x.val) ?_ ⟨0, Nat.zero_le _⟩
  rintro ⟨j, hj⟩
  have hle := lead_le lowI l
  have hte := trail_le lowI l
  have hto : ((l.length : Int) - (j : Int) - 1).toNat = l.length - j - 1 := by omega
  by_cases hk : j < trailN lowI l
  · have hp := trail_lt hk
    refine .inl ⟨⟨j + 1, hk⟩, by simp only; omega, _, _, _, _, _, lpBy_nil, List.nodup_nil, rcutLow2a l (leadN lowI l) j, ?_⟩
    generalize leadN lowI l = i at *
    generalize trailN lowI l = t at *
    simp only [lowI, allP, and_true, true_and, decide_eq_true_eq, decide_eq_false_iff_not, i64_min, i64_max, hto] at hp ⊢
    repeat' apply And.intro
    all_goals first | omega | exact hp | exact (u8_lt _).2
  · obtain rfl : j = trailN lowI l := by omega
    refine .inr ⟨by simp, ?_⟩
    by_cases hlen : leadN lowI l + trailN lowI l < l.length
    · have hp := trail_stop hlen
      refine ⟨_, _, _, _, _, lpBy_nil, List.nodup_nil, rcutLow2c l (leadN lowI l) (trailN lowI l), ?_⟩
      generalize leadN lowI l = i at *
      generalize trailN lowI l = t at *
      simp only [lowI, allP, and_true, true_and, decide_eq_true_eq, decide_eq_false_iff_not, i64_min, i64_max, hto] at hp ⊢
      repeat' apply And.intro
      all_goals first | omega | exact hp | exact (u8_lt _).2
    · refine ⟨_, _, _, _, _, lpBy_nil, List.nodup_nil, rcutLow2b l (leadN lowI l) (trailN lowI l), ?_⟩
      simp only [allP, and_true, true_and, decide_eq_true_eq, decide_eq_false_iff_not]
      omega

noncomputable def rcutLowLp (l : List UInt8) : List (Nat × Lp) := [(3, ⟨lbody Try.prog 19 3, rcutFi, rcutI l (0 : Nat) l.length, .exit 0, rcutI l (leadN lowI l : Nat) l.length⟩), (5, ⟨lbody Try.prog 19 5, rcutFi, rcutI l (leadN lowI l : Nat) ((l.length : Int) - ((0 : Nat) : Int)), .exit 2, rcutI l (leadN lowI l : Nat) ((l.length : Int) - (trailN lowI l : Nat))⟩)]

theorem rcutLowLp_ok (l : List UInt8) (hl : l.length ≤ 1000000) : LpOK Ext0 Try.prog (lpBy (rcutLowLp l)) := lpBy_cons (lpBy_cons lpBy_nil List.nodup_nil (rcutLow2 l hl)) List.nodup_nil (rcutLow1 l hl)

noncomputable def rcutLowAll (l : List UInt8) : Option (AV × List Prop) := outcome Try.prog 19 (aBody Try.prog cl3 ⟨true, [(33, ⟨.c (str (stripF lowI l)), none⟩)]⟩ (lpBy (rcutLowLp l)) 60 19 [.c (str l)] [])

theorem rcutLowAll_eq (l : List UInt8) : rcutLowAll l = some (.c (str (stripF lowI l)), [((lbody Try.prog (19 : FuncId) (3 : Nat) : Go.Code)) = (lbody Try.prog (19 : FuncId) (3 : Nat)),
 ((rcutI l (↑(0 : Nat) : Int) (↑l.length : Int) : Go.Proofs.Yteadhhmbhgkojaa.St)) = (rcutI l (↑(0 : Nat) : Int) (↑l.length : Int)),
 ((lbody Try.prog (19 : FuncId) (5 : Nat) : Go.Code)) = (lbody Try.prog (19 : FuncId) (5 : Nat)),
 ((rcutI l (↑(leadN lowI l) : Int) ((↑l.length : Int) - (↑(0 : Nat) : Int)) : Go.Proofs.Yteadhhmbhgkojaa.St)) = (rcutI l (↑(leadN lowI l) : Int) ((↑l.length : Int) - (↑(0 : Nat) : Int))),
 (((0 : Int) : Int) ≤ ((↑(leadN lowI l) : Int))),
 (((↑(leadN lowI l) : Int) : Int) ≤ ((↑l.length : Int) - (↑(trailN lowI l) : Int))),
 (((↑l.length : Int) - (↑(trailN lowI l) : Int) : Int) ≤ ((↑l.length : Int))),
 ((List.drop (leadN lowI l) (List.take ((↑l.length : Int) - (↑(trailN lowI l) : Int)).toNat l) : List UInt8)) = (stripF lowI l)]) := by kernel_rfl

theorem rcutLow_ok : SpecOK Try.prog 19 (stripSpec lowI) := by
  refine spec_of mixed cl3_ok fun args r q hs hq => ?_
  unfold stripSpec at hs
  split at hs
  · rename_i s
    simp only [Option.some.injEq, Prod.mk.injEq] at hs
    obtain ⟨rfl, rfl⟩ := hs
    obtain ⟨⟨⟨l⟩⟩, rfl⟩ : ∃ b : ByteArray, b = s := ⟨s, rfl⟩
    have hl : l.length ≤ 1000000 := hq.1
    have h1 := lead_le lowI l
    have h2 := trail_le lowI l
    have h4 : ((l.length : Int) - (trailN lowI l : Nat)).toNat = l.length - trailN lowI l := by omega
    refine ⟨_, _, _, _, rcutLowLp_ok l hl, rcutLowAll_eq l, ?_⟩
    simp only [allP, and_true, true_and, h4]
    refine ⟨by omega, by omega, by omega, rfl⟩
  · simp at hs

end Go.Proofs.Yteadhhmbhgkojaa
