/- Both ends of a text. -/
import Derived.Test.YteadhhmbhgkojaaAsciiA
namespace Go.Proofs.Yteadhhmbhgkojaa
open Go.RowKit
set_option linter.unusedVariables false

theorem array_nil {α : Type} {a : Array α} (h : a.size = 0) : a = #[] := Array.eq_empty_of_size_eq_zero h

/-! A copy of a text. -/

def cloneSpec : Spec
  | [.c (.string s)] => some (.c (.string s), [(sb s).length ≤ 1000000])
  | _ => none

noncomputable def clRun (h : List (Nat × Hint)) (l : List UInt8) : Option (AV × List Prop) :=
  outcome Try.prog 32 (aBody Try.prog cl0 ⟨true, h⟩ (lpBy []) 60 32 [.c (str l)] [])

theorem clone1 : clRun (bs [(6, true)]) [] = some (.c (str []), [((true : Bool)) = (true)]) := by kernel_rfl

theorem clone2 (l : List UInt8) : clRun (bs [(6, false)] ++ [(12, ⟨.c (.int .i64 l.length), some (byts l)⟩), (17, ⟨.c (str l), none⟩)]) l = some (.c (str l), [(((↑l.length : Int) == (0 : Int) : Bool)) = (false),
 (((0 : Int) : Int) ≤ ((↑l.length : Int))),
 (((↑l.length : Int) : Int) ≤ ((↑l.length : Int))),
 (((↑l.length : Int) * (↑(1 : Nat) : Int) : Int) ≤ ((140737488355328 : Int))),
 (((↑l.length : Int) : Int) ≤ ((4611686018427387904 : Int))),
 ((l.length + (0 : Nat) : Nat) ≤ ((List.replicate l.length (AV.c (Value.int IntKind.u8 (0 : Int)))).length)),
 (((↑(min l.length l.length) : Int) : Int)) = ((↑l.length : Int)),
 ((List.take (0 : Nat) (List.replicate l.length (AV.c (Value.int IntKind.u8 (0 : Int)))) ++
    List.take (min l.length l.length) (byts l) ++
  List.drop ((0 : Nat) + min l.length l.length) (List.replicate l.length (AV.c (Value.int IntKind.u8 (0 : Int)))) : List AV)) = (byts l),
 (((0 : Int) : Int) ≤ ((0 : Int))),
 (((0 : Int) : Int) < ((↑l.length : Int))),
 (((0 : Int) : Int) < ((↑l.length : Int))),
 (((↑l.length : Int) : Int) ≤ ((↑(byts l).length : Int))),
 bytesOK (List.take l.length (byts l)),
 (((↑l.length : Int) : Int) ≤ ((4611686018427387904 : Int))),
 ((unbyts (List.take l.length (byts l)) : List UInt8)) = (l)]) := by kernel_rfl

theorem clone_ok : SpecOK Try.prog 32 cloneSpec := by
  refine spec_of mixed cl0_ok fun args r q hs hq => ?_
  unfold cloneSpec at hs
  split at hs
  · rename_i s
    simp only [Option.some.injEq, Prod.mk.injEq] at hs
    obtain ⟨rfl, rfl⟩ := hs
    obtain ⟨⟨⟨l⟩⟩, rfl⟩ : ∃ b : ByteArray, b = s := ⟨s, rfl⟩
    have hb : l.length ≤ 1000000 := hq.1
    by_cases h : l = []
    · subst h
      exact ⟨_, _, _, _, lpBy_nil, clone1, by simp [allP]⟩
    · have h1 : 0 < l.length := List.length_pos_iff.2 h
      refine ⟨_, _, _, _, lpBy_nil, clone2 l, ?_⟩
      simp only [allP, and_true, true_and]
      repeat' apply And.intro
      all_goals first | omega | exact bytesOK_byts _ | (simp [byts_length, unbyts_byts, byts_take, bytesOK_byts]; done) | (simp [byts_length, unbyts_byts, byts_take, bytesOK_byts]; omega)
  · simp at hs

theorem sclone_ok : SpecOK Try.prog 31 cloneSpec := by
  refine spec_of mixed (aCall_ok mixed (sgBy_cons clone_ok sgBy_nil) 60 3) fun args r q hs hq => ?_
  unfold cloneSpec at hs
  split at hs
  · rename_i s
    simp only [Option.some.injEq, Prod.mk.injEq] at hs
    obtain ⟨rfl, rfl⟩ := hs
    exact ⟨⟨true, []⟩, lpBy [], 60, [(sb s).length ≤ 1000000], lpBy_nil, by kernel_rfl, hq⟩
  · simp at hs

/-! What both ends of a text lose. -/

def predOf (g : FuncId) : Option (Int → Bool) := if g = 10 then some blankI else if g = 30 then some lowI else none

def cutSpec : Spec
  | [.c (.string s), .c (.func (.func g) a b)] => if a.size = 0 ∧ b.size = 0 then (match predOf g with
    | some p => some (.c (str (stripF p (sb s))), [(sb s).length ≤ 1000000])
    | none => none) else none
  | _ => none

noncomputable def sg3 : Specs := sgBy [(10, byteSpec fun n => .bool (blankI n)), (11, byteSpec fun n => .bool (blankI n)), (30, byteSpec fun n => .bool (lowI n)), (31, cloneSpec), (27, byteSpec fun n => .bool (largeI n))]
noncomputable def cl3 : CallT := aCall Try.prog sg3 500 8
theorem sg3_ok : ∀ f spec, sg3 f = some spec → SpecOK Try.prog f spec := sgBy_cons blank_ok (sgBy_cons rblank_ok (sgBy_cons low_ok (sgBy_cons sclone_ok (sgBy_cons large_ok sgBy_nil))))
theorem cl3_ok : CallOK Try.prog cl3 := aCall_ok mixed sg3_ok 500 8

def cutI (g : FuncId) (l : List UInt8) (a b : Int) : St := ⟨frame 39 [(0, .c (str l)), (1, .c (.func (.func g) #[] #[])), (5, .c (.int .i64 a)), (6, .c (.int .i64 b))], []⟩
def cutFi : Fi := ⟨[], [0, 1, 5, 6], []⟩

noncomputable def cutBlankRun (k : Nat) (h : List (Nat × Hint)) (S : St) : Option (Exit × St × List Prop) := roundOut cutFi (aCode Try.prog cl3 ⟨true, h⟩ (lpBy []) 60 (lbody Try.prog 29 k) S)

theorem cutBlank1a (l : List UInt8) (i : Nat) : cutBlankRun 2 (bs [(11, true), (17, true)]) (cutI 10 l i l.length) = some (.normal, cutI 10 l (i + 1 : Nat) l.length, [((decide ((↑i : Int) < (↑l.length : Int)) : Bool)) = (true),
 (((0 : Int) : Int) ≤ ((↑i : Int))),
 (((↑i : Int) : Int) < ((↑l.length : Int))),
 (((0 : Int) : Int) ≤ ((↑(l.getD i (0 : UInt8)).toNat : Int))),
 (((↑(l.getD i (0 : UInt8)).toNat : Int) : Int) < ((256 : Int))),
 ((blankI (↑(l.getD i (0 : UInt8)).toNat : Int) : Bool)) = (true),
 ((IntKind.i64.min : Int) ≤ ((↑i : Int) + (1 : Int))),
 (((↑i : Int) + (1 : Int) : Int) ≤ (IntKind.i64.max))]) := by kernel_rfl

theorem cutBlank1b (l : List UInt8) (i : Nat) : cutBlankRun 2 (bs [(11, false)]) (cutI 10 l i l.length) = some (.exit 0, cutI 10 l i l.length, [((decide ((↑i : Int) < (↑l.length : Int)) : Bool)) = (false)]) := by kernel_rfl

theorem cutBlank1c (l : List UInt8) (i : Nat) : cutBlankRun 2 (bs [(11, true), (17, false)]) (cutI 10 l i l.length) = some (.exit 0, cutI 10 l i l.length, [((decide ((↑i : Int) < (↑l.length : Int)) : Bool)) = (true),
 (((0 : Int) : Int) ≤ ((↑i : Int))),
 (((↑i : Int) : Int) < ((↑l.length : Int))),
 (((0 : Int) : Int) ≤ ((↑(l.getD i (0 : UInt8)).toNat : Int))),
 (((↑(l.getD i (0 : UInt8)).toNat : Int) : Int) < ((256 : Int))),
 ((blankI (↑(l.getD i (0 : UInt8)).toNat : Int) : Bool)) = (false)]) := by kernel_rfl

theorem cutBlank2a (l : List UInt8) (i j : Nat) : cutBlankRun 4 (bs [(23, true), (30, true)] ++ [(33, ⟨.c (.int .i64 ((l.length : Int) - ((j + 1 : Nat) : Int))), none⟩)]) (cutI 10 l i ((l.length : Int) - (j : Int))) = some (.normal, cutI 10 l i ((l.length : Int) - ((j + 1 : Nat) : Int)), [((decide ((↑i : Int) < (↑l.length : Int) - (↑j : Int)) : Bool)) = (true),
 ((IntKind.i64.min : Int) ≤ ((↑l.length : Int) - (↑j : Int) - (1 : Int))),
 (((↑l.length : Int) - (↑j : Int) - (1 : Int) : Int) ≤ (IntKind.i64.max)),
 (((0 : Int) : Int) ≤ ((↑l.length : Int) - (↑j : Int) - (1 : Int))),
 (((↑l.length : Int) - (↑j : Int) - (1 : Int) : Int) < ((↑l.length : Int))),
 (((0 : Int) : Int) ≤ ((↑(l.getD ((↑l.length : Int) - (↑j : Int) - (1 : Int)).toNat (0 : UInt8)).toNat : Int))),
 (((↑(l.getD ((↑l.length : Int) - (↑j : Int) - (1 : Int)).toNat (0 : UInt8)).toNat : Int) : Int) < ((256 : Int))),
 ((blankI (↑(l.getD ((↑l.length : Int) - (↑j : Int) - (1 : Int)).toNat (0 : UInt8)).toNat : Int) : Bool)) = (true),
 ((IntKind.i64.min : Int) ≤ ((↑l.length : Int) - (↑j : Int) - (1 : Int))),
 (((↑l.length : Int) - (↑j : Int) - (1 : Int) : Int) ≤ (IntKind.i64.max)),
 (((↑l.length : Int) - (↑j : Int) - (1 : Int) : Int)) = ((↑l.length : Int) - (↑(j + (1 : Nat)) : Int))]) := by kernel_rfl

theorem cutBlank2b (l : List UInt8) (i j : Nat) : cutBlankRun 4 (bs [(23, false)]) (cutI 10 l i ((l.length : Int) - (j : Int))) = some (.exit 2, cutI 10 l i ((l.length : Int) - (j : Int)), [((decide ((↑i : Int) < (↑l.length : Int) - (↑j : Int)) : Bool)) = (false)]) := by kernel_rfl

theorem cutBlank2c (l : List UInt8) (i j : Nat) : cutBlankRun 4 (bs [(23, true), (30, false)]) (cutI 10 l i ((l.length : Int) - (j : Int))) = some (.exit 2, cutI 10 l i ((l.length : Int) - (j : Int)), [((decide ((↑i : Int) < (↑l.length : Int) - (↑j : Int)) : Bool)) = (true),
 ((IntKind.i64.min : Int) ≤ ((↑l.length : Int) - (↑j : Int) - (1 : Int))),
 (((↑l.length : Int) - (↑j : Int) - (1 : Int) : Int) ≤ (IntKind.i64.max)),
 (((0 : Int) : Int) ≤ ((↑l.length : Int) - (↑j : Int) - (1 : Int))),
 (((↑l.length : Int) - (↑j : Int) - (1 : Int) : Int) < ((↑l.length : Int))),
 (((0 : Int) : Int) ≤ ((↑(l.getD ((↑l.length : Int) - (↑j : Int) - (1 : Int)).toNat (0 : UInt8)).toNat : Int))),
 (((↑(l.getD ((↑l.length : Int) - (↑j : Int) - (1 : Int)).toNat (0 : UInt8)).toNat : Int) : Int) < ((256 : Int))),
 ((blankI (↑(l.getD ((↑l.length : Int) - (↑j : Int) - (1 : Int)).toNat (0 : UInt8)).toNat : Int) : Bool)) = (false)]) := by kernel_rfl

theorem cutBlank1 (l : List UInt8) (hl : l.length ≤ 1000000) : Tri Ext0 Try.prog (.loop (lbody Try.prog 29 2)) (cutI 10 l (0 : Nat) l.length) (.exit 0) (cutI 10 l (leadN blankI l : Nat) l.length) := by
  refine loop_ok mixed cl3_ok (α := {i : Nat // i ≤ leadN blankI l}) (fun x => cutI 10 l (x.val : Nat) l.length) (fun x => leadN blankI l - x.val) ?_ ⟨0, Nat.zero_le _⟩
  rintro ⟨i, hi⟩
  have hle := lead_le blankI l
  by_cases hk : i < leadN blankI l
  · have hp := lead_lt hk
    refine .inl ⟨⟨i + 1, hk⟩, by simp only; omega, _, _, _, _, _, lpBy_nil, List.nodup_nil, cutBlank1a l i, ?_⟩
    simp only [allP, and_true, true_and, decide_eq_true_eq, decide_eq_false_iff_not, i64_min, i64_max]
    repeat' apply And.intro
    all_goals first | omega | exact hp | exact (u8_lt _).2
  · obtain rfl : i = leadN blankI l := by omega
    refine .inr ⟨by simp, ?_⟩
    by_cases hlen : leadN blankI l < l.length
    · have hp := lead_stop hlen
      refine ⟨_, _, _, _, _, lpBy_nil, List.nodup_nil, cutBlank1c l (leadN blankI l), ?_⟩
      simp only [allP, and_true, true_and, decide_eq_true_eq, decide_eq_false_iff_not, i64_min, i64_max]
      repeat' apply And.intro
      all_goals first | omega | exact hp | exact (u8_lt _).2
    · refine ⟨_, _, _, _, _, lpBy_nil, List.nodup_nil, cutBlank1b l (leadN blankI l), ?_⟩
      simp only [allP, and_true, true_and, decide_eq_true_eq, decide_eq_false_iff_not]
      omega

theorem cutBlank2 (l : List UInt8) (hl : l.length ≤ 1000000) : Tri Ext0 Try.prog (.loop (lbody Try.prog 29 4)) (cutI 10 l (leadN blankI l : Nat) ((l.length : Int) - ((0 : Nat) : Int))) (.exit 2) (cutI 10 l (leadN blankI l : Nat) ((l.length : Int) - (trailN blankI l : Nat))) := by
  refine loop_ok mixed cl3_ok (α := {j : Nat // j ≤ trailN blankI l}) (fun x => cutI 10 l (leadN blankI l : Nat) ((l.length : Int) - (x.val : Nat))) (fun x => trailN blankI l - x.val) ?_ ⟨0, Nat.zero_le _⟩
  rintro ⟨j, hj⟩
  have hle := lead_le blankI l
  have hte := trail_le blankI l
  have hto : ((l.length : Int) - (j : Int) - 1).toNat = l.length - j - 1 := by omega
  by_cases hk : j < trailN blankI l
  · have hp := trail_lt hk
    refine .inl ⟨⟨j + 1, hk⟩, by simp only; omega, _, _, _, _, _, lpBy_nil, List.nodup_nil, cutBlank2a l (leadN blankI l) j, ?_⟩
    simp only [allP, and_true, true_and, decide_eq_true_eq, decide_eq_false_iff_not, i64_min, i64_max, hto]
    repeat' apply And.intro
    all_goals first | omega | exact hp | exact (u8_lt _).2
  · obtain rfl : j = trailN blankI l := by omega
    refine .inr ⟨by simp, ?_⟩
    by_cases hlen : leadN blankI l + trailN blankI l < l.length
    · have hp := trail_stop hlen
      refine ⟨_, _, _, _, _, lpBy_nil, List.nodup_nil, cutBlank2c l (leadN blankI l) (trailN blankI l), ?_⟩
      simp only [allP, and_true, true_and, decide_eq_true_eq, decide_eq_false_iff_not, i64_min, i64_max, hto]
      repeat' apply And.intro
      all_goals first | omega | exact hp | exact (u8_lt _).2
    · refine ⟨_, _, _, _, _, lpBy_nil, List.nodup_nil, cutBlank2b l (leadN blankI l) (trailN blankI l), ?_⟩
      simp only [allP, and_true, true_and, decide_eq_true_eq, decide_eq_false_iff_not]
      omega

noncomputable def cutBlankLp (l : List UInt8) : List (Nat × Lp) := [(2, ⟨lbody Try.prog 29 2, cutFi, cutI 10 l (0 : Nat) l.length, .exit 0, cutI 10 l (leadN blankI l : Nat) l.length⟩), (4, ⟨lbody Try.prog 29 4, cutFi, cutI 10 l (leadN blankI l : Nat) ((l.length : Int) - ((0 : Nat) : Int)), .exit 2, cutI 10 l (leadN blankI l : Nat) ((l.length : Int) - (trailN blankI l : Nat))⟩)]

theorem cutBlankLp_ok (l : List UInt8) (hl : l.length ≤ 1000000) : LpOK Ext0 Try.prog (lpBy (cutBlankLp l)) := lpBy_cons (lpBy_cons lpBy_nil List.nodup_nil (cutBlank2 l hl)) List.nodup_nil (cutBlank1 l hl)

noncomputable def cutBlankAll (l : List UInt8) : Option (AV × List Prop) := outcome Try.prog 29 (aBody Try.prog cl3 ⟨true, [(37, ⟨.c (str (stripF blankI l)), none⟩)]⟩ (lpBy (cutBlankLp l)) 60 29 [.c (str l), .c (.func (.func 10) #[] #[])] [])

theorem cutBlankAll_eq (l : List UInt8) : cutBlankAll l = some (.c (str (stripF blankI l)), [((lbody Try.prog (29 : FuncId) (2 : Nat) : Go.Code)) = (lbody Try.prog (29 : FuncId) (2 : Nat)),
 ((cutI (10 : FuncId) l (↑(0 : Nat) : Int) (↑l.length : Int) : Go.Proofs.Yteadhhmbhgkojaa.St)) = (cutI (10 : FuncId) l (↑(0 : Nat) : Int) (↑l.length : Int)),
 ((lbody Try.prog (29 : FuncId) (4 : Nat) : Go.Code)) = (lbody Try.prog (29 : FuncId) (4 : Nat)),
 ((cutI (10 : FuncId) l (↑(leadN blankI l) : Int) ((↑l.length : Int) - (↑(0 : Nat) : Int)) : Go.Proofs.Yteadhhmbhgkojaa.St)) = (cutI (10 : FuncId) l (↑(leadN blankI l) : Int) ((↑l.length : Int) - (↑(0 : Nat) : Int))),
 (((0 : Int) : Int) ≤ ((↑(leadN blankI l) : Int))),
 (((↑(leadN blankI l) : Int) : Int) ≤ ((↑l.length : Int) - (↑(trailN blankI l) : Int))),
 (((↑l.length : Int) - (↑(trailN blankI l) : Int) : Int) ≤ ((↑l.length : Int))),
 ((List.drop (leadN blankI l) (List.take ((↑l.length : Int) - (↑(trailN blankI l) : Int)).toNat l) : List UInt8)) = (stripF blankI l),
 (((stripF blankI l).length : Nat) ≤ ((1000000 : Nat)))]) := by kernel_rfl


noncomputable def cutLowRun (k : Nat) (h : List (Nat × Hint)) (S : St) : Option (Exit × St × List Prop) := roundOut cutFi (aCode Try.prog cl3 ⟨true, h⟩ (lpBy []) 60 (lbody Try.prog 29 k) S)

theorem cutLow1a (l : List UInt8) (i : Nat) : cutLowRun 2 (bs [(11, true), (17, true)]) (cutI 30 l i l.length) = some (.normal, cutI 30 l (i + 1 : Nat) l.length, [((decide ((↑i : Int) < (↑l.length : Int)) : Bool)) = (true),
 (((0 : Int) : Int) ≤ ((↑i : Int))),
 (((↑i : Int) : Int) < ((↑l.length : Int))),
 (((0 : Int) : Int) ≤ ((↑(l.getD i (0 : UInt8)).toNat : Int))),
 (((↑(l.getD i (0 : UInt8)).toNat : Int) : Int) < ((256 : Int))),
 ((lowI (↑(l.getD i (0 : UInt8)).toNat : Int) : Bool)) = (true),
 ((IntKind.i64.min : Int) ≤ ((↑i : Int) + (1 : Int))),
 (((↑i : Int) + (1 : Int) : Int) ≤ (IntKind.i64.max))]) := by kernel_rfl

theorem cutLow1b (l : List UInt8) (i : Nat) : cutLowRun 2 (bs [(11, false)]) (cutI 30 l i l.length) = some (.exit 0, cutI 30 l i l.length, [((decide ((↑i : Int) < (↑l.length : Int)) : Bool)) = (false)]) := by kernel_rfl

theorem cutLow1c (l : List UInt8) (i : Nat) : cutLowRun 2 (bs [(11, true), (17, false)]) (cutI 30 l i l.length) = some (.exit 0, cutI 30 l i l.length, [((decide ((↑i : Int) < (↑l.length : Int)) : Bool)) = (true),
 (((0 : Int) : Int) ≤ ((↑i : Int))),
 (((↑i : Int) : Int) < ((↑l.length : Int))),
 (((0 : Int) : Int) ≤ ((↑(l.getD i (0 : UInt8)).toNat : Int))),
 (((↑(l.getD i (0 : UInt8)).toNat : Int) : Int) < ((256 : Int))),
 ((lowI (↑(l.getD i (0 : UInt8)).toNat : Int) : Bool)) = (false)]) := by kernel_rfl

theorem cutLow2a (l : List UInt8) (i j : Nat) : cutLowRun 4 (bs [(23, true), (30, true)] ++ [(33, ⟨.c (.int .i64 ((l.length : Int) - ((j + 1 : Nat) : Int))), none⟩)]) (cutI 30 l i ((l.length : Int) - (j : Int))) = some (.normal, cutI 30 l i ((l.length : Int) - ((j + 1 : Nat) : Int)), [((decide ((↑i : Int) < (↑l.length : Int) - (↑j : Int)) : Bool)) = (true),
 ((IntKind.i64.min : Int) ≤ ((↑l.length : Int) - (↑j : Int) - (1 : Int))),
 (((↑l.length : Int) - (↑j : Int) - (1 : Int) : Int) ≤ (IntKind.i64.max)),
 (((0 : Int) : Int) ≤ ((↑l.length : Int) - (↑j : Int) - (1 : Int))),
 (((↑l.length : Int) - (↑j : Int) - (1 : Int) : Int) < ((↑l.length : Int))),
 (((0 : Int) : Int) ≤ ((↑(l.getD ((↑l.length : Int) - (↑j : Int) - (1 : Int)).toNat (0 : UInt8)).toNat : Int))),
 (((↑(l.getD ((↑l.length : Int) - (↑j : Int) - (1 : Int)).toNat (0 : UInt8)).toNat : Int) : Int) < ((256 : Int))),
 ((lowI (↑(l.getD ((↑l.length : Int) - (↑j : Int) - (1 : Int)).toNat (0 : UInt8)).toNat : Int) : Bool)) = (true),
 ((IntKind.i64.min : Int) ≤ ((↑l.length : Int) - (↑j : Int) - (1 : Int))),
 (((↑l.length : Int) - (↑j : Int) - (1 : Int) : Int) ≤ (IntKind.i64.max)),
 (((↑l.length : Int) - (↑j : Int) - (1 : Int) : Int)) = ((↑l.length : Int) - (↑(j + (1 : Nat)) : Int))]) := by kernel_rfl

theorem cutLow2b (l : List UInt8) (i j : Nat) : cutLowRun 4 (bs [(23, false)]) (cutI 30 l i ((l.length : Int) - (j : Int))) = some (.exit 2, cutI 30 l i ((l.length : Int) - (j : Int)), [((decide ((↑i : Int) < (↑l.length : Int) - (↑j : Int)) : Bool)) = (false)]) := by kernel_rfl

theorem cutLow2c (l : List UInt8) (i j : Nat) : cutLowRun 4 (bs [(23, true), (30, false)]) (cutI 30 l i ((l.length : Int) - (j : Int))) = some (.exit 2, cutI 30 l i ((l.length : Int) - (j : Int)), [((decide ((↑i : Int) < (↑l.length : Int) - (↑j : Int)) : Bool)) = (true),
 ((IntKind.i64.min : Int) ≤ ((↑l.length : Int) - (↑j : Int) - (1 : Int))),
 (((↑l.length : Int) - (↑j : Int) - (1 : Int) : Int) ≤ (IntKind.i64.max)),
 (((0 : Int) : Int) ≤ ((↑l.length : Int) - (↑j : Int) - (1 : Int))),
 (((↑l.length : Int) - (↑j : Int) - (1 : Int) : Int) < ((↑l.length : Int))),
 (((0 : Int) : Int) ≤ ((↑(l.getD ((↑l.length : Int) - (↑j : Int) - (1 : Int)).toNat (0 : UInt8)).toNat : Int))),
 (((↑(l.getD ((↑l.length : Int) - (↑j : Int) - (1 : Int)).toNat (0 : UInt8)).toNat : Int) : Int) < ((256 : Int))),
 ((lowI (↑(l.getD ((↑l.length : Int) - (↑j : Int) - (1 : Int)).toNat (0 : UInt8)).toNat : Int) : Bool)) = (false)]) := by kernel_rfl

theorem cutLow1 (l : List UInt8) (hl : l.length ≤ 1000000) : Tri Ext0 Try.prog (.loop (lbody Try.prog 29 2)) (cutI 30 l (0 : Nat) l.length) (.exit 0) (cutI 30 l (leadN lowI l : Nat) l.length) := by
  refine loop_ok mixed cl3_ok (α := {i : Nat // i ≤ leadN lowI l}) (fun x => cutI 30 l (x.val : Nat) l.length) (fun x => leadN lowI l - x.val) ?_ ⟨0, Nat.zero_le _⟩
  rintro ⟨i, hi⟩
  have hle := lead_le lowI l
  by_cases hk : i < leadN lowI l
  · have hp := lead_lt hk
    refine .inl ⟨⟨i + 1, hk⟩, by simp only; omega, _, _, _, _, _, lpBy_nil, List.nodup_nil, cutLow1a l i, ?_⟩
    simp only [allP, and_true, true_and, decide_eq_true_eq, decide_eq_false_iff_not, i64_min, i64_max]
    repeat' apply And.intro
    all_goals first | omega | exact hp | exact (u8_lt _).2
  · obtain rfl : i = leadN lowI l := by omega
    refine .inr ⟨by simp, ?_⟩
    by_cases hlen : leadN lowI l < l.length
    · have hp := lead_stop hlen
      refine ⟨_, _, _, _, _, lpBy_nil, List.nodup_nil, cutLow1c l (leadN lowI l), ?_⟩
      simp only [allP, and_true, true_and, decide_eq_true_eq, decide_eq_false_iff_not, i64_min, i64_max]
      repeat' apply And.intro
      all_goals first | omega | exact hp | exact (u8_lt _).2
    · refine ⟨_, _, _, _, _, lpBy_nil, List.nodup_nil, cutLow1b l (leadN lowI l), ?_⟩
      simp only [allP, and_true, true_and, decide_eq_true_eq, decide_eq_false_iff_not]
      omega

theorem cutLow2 (l : List UInt8) (hl : l.length ≤ 1000000) : Tri Ext0 Try.prog (.loop (lbody Try.prog 29 4)) (cutI 30 l (leadN lowI l : Nat) ((l.length : Int) - ((0 : Nat) : Int))) (.exit 2) (cutI 30 l (leadN lowI l : Nat) ((l.length : Int) - (trailN lowI l : Nat))) := by
  refine loop_ok mixed cl3_ok (α := {j : Nat // j ≤ trailN lowI l}) (fun x => cutI 30 l (leadN lowI l : Nat) ((l.length : Int) - (x.val : Nat))) (fun x => trailN lowI l - x.val) ?_ ⟨0, Nat.zero_le _⟩
  rintro ⟨j, hj⟩
  have hle := lead_le lowI l
  have hte := trail_le lowI l
  have hto : ((l.length : Int) - (j : Int) - 1).toNat = l.length - j - 1 := by omega
  by_cases hk : j < trailN lowI l
  · have hp := trail_lt hk
    refine .inl ⟨⟨j + 1, hk⟩, by simp only; omega, _, _, _, _, _, lpBy_nil, List.nodup_nil, cutLow2a l (leadN lowI l) j, ?_⟩
    simp only [allP, and_true, true_and, decide_eq_true_eq, decide_eq_false_iff_not, i64_min, i64_max, hto]
    repeat' apply And.intro
    all_goals first | omega | exact hp | exact (u8_lt _).2
  · obtain rfl : j = trailN lowI l := by omega
    refine .inr ⟨by simp, ?_⟩
    by_cases hlen : leadN lowI l + trailN lowI l < l.length
    · have hp := trail_stop hlen
      refine ⟨_, _, _, _, _, lpBy_nil, List.nodup_nil, cutLow2c l (leadN lowI l) (trailN lowI l), ?_⟩
      simp only [allP, and_true, true_and, decide_eq_true_eq, decide_eq_false_iff_not, i64_min, i64_max, hto]
      repeat' apply And.intro
      all_goals first | omega | exact hp | exact (u8_lt _).2
    · refine ⟨_, _, _, _, _, lpBy_nil, List.nodup_nil, cutLow2b l (leadN lowI l) (trailN lowI l), ?_⟩
      simp only [allP, and_true, true_and, decide_eq_true_eq, decide_eq_false_iff_not]
      omega

noncomputable def cutLowLp (l : List UInt8) : List (Nat × Lp) := [(2, ⟨lbody Try.prog 29 2, cutFi, cutI 30 l (0 : Nat) l.length, .exit 0, cutI 30 l (leadN lowI l : Nat) l.length⟩), (4, ⟨lbody Try.prog 29 4, cutFi, cutI 30 l (leadN lowI l : Nat) ((l.length : Int) - ((0 : Nat) : Int)), .exit 2, cutI 30 l (leadN lowI l : Nat) ((l.length : Int) - (trailN lowI l : Nat))⟩)]

theorem cutLowLp_ok (l : List UInt8) (hl : l.length ≤ 1000000) : LpOK Ext0 Try.prog (lpBy (cutLowLp l)) := lpBy_cons (lpBy_cons lpBy_nil List.nodup_nil (cutLow2 l hl)) List.nodup_nil (cutLow1 l hl)

noncomputable def cutLowAll (l : List UInt8) : Option (AV × List Prop) := outcome Try.prog 29 (aBody Try.prog cl3 ⟨true, [(37, ⟨.c (str (stripF lowI l)), none⟩)]⟩ (lpBy (cutLowLp l)) 60 29 [.c (str l), .c (.func (.func 30) #[] #[])] [])

theorem cutLowAll_eq (l : List UInt8) : cutLowAll l = some (.c (str (stripF lowI l)), [((lbody Try.prog (29 : FuncId) (2 : Nat) : Go.Code)) = (lbody Try.prog (29 : FuncId) (2 : Nat)),
 ((cutI (30 : FuncId) l (↑(0 : Nat) : Int) (↑l.length : Int) : Go.Proofs.Yteadhhmbhgkojaa.St)) = (cutI (30 : FuncId) l (↑(0 : Nat) : Int) (↑l.length : Int)),
 ((lbody Try.prog (29 : FuncId) (4 : Nat) : Go.Code)) = (lbody Try.prog (29 : FuncId) (4 : Nat)),
 ((cutI (30 : FuncId) l (↑(leadN lowI l) : Int) ((↑l.length : Int) - (↑(0 : Nat) : Int)) : Go.Proofs.Yteadhhmbhgkojaa.St)) = (cutI (30 : FuncId) l (↑(leadN lowI l) : Int) ((↑l.length : Int) - (↑(0 : Nat) : Int))),
 (((0 : Int) : Int) ≤ ((↑(leadN lowI l) : Int))),
 (((↑(leadN lowI l) : Int) : Int) ≤ ((↑l.length : Int) - (↑(trailN lowI l) : Int))),
 (((↑l.length : Int) - (↑(trailN lowI l) : Int) : Int) ≤ ((↑l.length : Int))),
 ((List.drop (leadN lowI l) (List.take ((↑l.length : Int) - (↑(trailN lowI l) : Int)).toNat l) : List UInt8)) = (stripF lowI l),
 (((stripF lowI l).length : Nat) ≤ ((1000000 : Nat)))]) := by kernel_rfl

theorem strip_len (p : Int → Bool) (l : List UInt8) : (stripF p l).length ≤ l.length := by
  unfold stripF; simp; omega

theorem cut_ok : SpecOK Try.prog 29 cutSpec := by
  refine spec_of mixed cl3_ok fun args r q hs hq => ?_
  unfold cutSpec at hs
  split at hs
  · rename_i s g a b
    split at hs
    · rename_i hab
      obtain rfl := array_nil hab.1
      obtain rfl := array_nil hab.2
      obtain ⟨⟨⟨l⟩⟩, rfl⟩ : ∃ b : ByteArray, b = s := ⟨s, rfl⟩
      split at hs
      · rename_i p hp
        simp only [Option.some.injEq, Prod.mk.injEq] at hs
        obtain ⟨rfl, rfl⟩ := hs
        have hl : l.length ≤ 1000000 := hq.1
        have h1 := lead_le p l
        have h2 := trail_le p l
        have h3 := strip_len p l
        have h4 : ((l.length : Int) - (trailN p l : Nat)).toNat = l.length - trailN p l := by omega
        unfold predOf at hp
        split at hp
        · rename_i hg
          subst hg
          cases hp
          refine ⟨_, _, _, _, cutBlankLp_ok l hl, cutBlankAll_eq l, ?_⟩
          simp only [allP, and_true, true_and, h4]
          refine ⟨by omega, by omega, by omega, rfl, by omega⟩
        · split at hp
          · rename_i hg
            subst hg
            cases hp
            refine ⟨_, _, _, _, cutLowLp_ok l hl, cutLowAll_eq l, ?_⟩
            simp only [allP, and_true, true_and, h4]
            refine ⟨by omega, by omega, by omega, rfl, by omega⟩
          · cases hp
      · simp at hs
    · simp at hs
  · simp at hs

end Go.Proofs.Yteadhhmbhgkojaa
