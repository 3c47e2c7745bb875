/- How long a sign's beginning is: begun. -/
import Derived.Test.YtfaffnemfndkfaaDoorTextE
namespace Go.Proofs.YtfaffnemfndkfaaDoor
open Go.RowKit
set_option linter.unusedVariables false
set_option linter.unusedSimpArgs false

def fullSpec : Spec
  | [.c (.string s)] => some (.c (.bool (fullF (sb s))), [0 < (sb s).length])
  | _ => none

theorem full_ok : SpecOK Tryd.prog 29 fullSpec := by
  refine spec_of mixed cl0_ok fun args r q hs hq => ?_
  unfold fullSpec at hs
  split at hs
  · rename_i s
    simp only [Option.some.injEq, Prod.mk.injEq] at hs
    obtain ⟨rfl, rfl⟩ := hs
    obtain ⟨⟨⟨l⟩⟩, rfl⟩ : ∃ b : ByteArray, b = s := ⟨s, rfl⟩
    obtain ⟨h, p, e, hp⟩ := full_all l _ rfl hq.1
    exact ⟨_, _, _, _, lpBy_nil, e, hp⟩
  · simp at hs

noncomputable def sg5 : Specs := sgBy [(29, fullSpec)]
noncomputable def cl5 : CallT := aCall Tryd.prog sg5 500 8
theorem cl5_ok : CallOK Tryd.prog cl5 := aCall_ok mixed (sgBy_cons full_ok sgBy_nil) 500 8

def begS (l : List UInt8) (n : Nat) : St := ⟨frame 19 [(0, .c (str l)), (3, .c (.int .i64 n))], []⟩
def begFi : Fi := ⟨[], [0, 3], []⟩

theorem begr_1 (l : List UInt8) (n : Nat) : roundOut (begFi) (aCode Tryd.prog cl5 ⟨true, bs [(7, true), (14, true)] ++ ([])⟩ (lpBy ([])) 60 (lbody Tryd.prog 21 2) (begS l n)) = some (.normal, begS l (n + 1), [((decide ((↑n : Int) < (↑l.length : Int)) : Bool)) = (true),
 ((IntKind.i64.min : Int) ≤ ((↑n : Int) + (1 : Int))),
 (((↑n : Int) + (1 : Int) : Int) ≤ (IntKind.i64.max)),
 (((0 : Int) : Int) ≤ ((0 : Int))),
 (((0 : Int) : Int) ≤ ((↑n : Int) + (1 : Int))),
 (((↑n : Int) + (1 : Int) : Int) ≤ ((↑l.length : Int))),
 (((0 : Nat) : Nat) < ((List.drop (Int.toNat (0 : Int)) (List.take ((↑n : Int) + (1 : Int)).toNat l)).length)),
 ((!fullF (List.drop (Int.toNat (0 : Int)) (List.take ((↑n : Int) + (1 : Int)).toNat l)) : Bool)) = (true),
 ((IntKind.i64.min : Int) ≤ ((↑n : Int) + (1 : Int))),
 (((↑n : Int) + (1 : Int) : Int) ≤ (IntKind.i64.max))]) := by kernel_rfl

theorem begr_2 (l : List UInt8) (n : Nat) : roundOut (begFi) (aCode Tryd.prog cl5 ⟨true, bs [(7, true), (14, false)] ++ ([])⟩ (lpBy ([])) 60 (lbody Tryd.prog 21 2) (begS l n)) = some (.exit 0, begS l n, [((decide ((↑n : Int) < (↑l.length : Int)) : Bool)) = (true),
 ((IntKind.i64.min : Int) ≤ ((↑n : Int) + (1 : Int))),
 (((↑n : Int) + (1 : Int) : Int) ≤ (IntKind.i64.max)),
 (((0 : Int) : Int) ≤ ((0 : Int))),
 (((0 : Int) : Int) ≤ ((↑n : Int) + (1 : Int))),
 (((↑n : Int) + (1 : Int) : Int) ≤ ((↑l.length : Int))),
 (((0 : Nat) : Nat) < ((List.drop (Int.toNat (0 : Int)) (List.take ((↑n : Int) + (1 : Int)).toNat l)).length)),
 ((!fullF (List.drop (Int.toNat (0 : Int)) (List.take ((↑n : Int) + (1 : Int)).toNat l)) : Bool)) = (false)]) := by kernel_rfl

theorem begr_3 (l : List UInt8) (n : Nat) : roundOut (begFi) (aCode Tryd.prog cl5 ⟨true, bs [(7, false)] ++ ([])⟩ (lpBy ([])) 60 (lbody Tryd.prog 21 2) (begS l n)) = some (.exit 0, begS l n, [((decide ((↑n : Int) < (↑l.length : Int)) : Bool)) = (false)]) := by kernel_rfl

/-- How far a beginning goes, from n on. -/
def bgo (l : List UInt8) : Nat → Nat → Nat
  | 0, n => n
  | f + 1, n => if n < l.length ∧ fullF (l.take (n + 1)) = false then bgo l f (n + 1) else n

def begunF (l : List UInt8) : Nat := bgo l (l.length - 1) 1

theorem bgo_le (l : List UInt8) : ∀ f n, n ≤ l.length → n ≤ bgo l f n ∧ bgo l f n ≤ l.length
  | 0, n, h => ⟨Nat.le_refl _, h⟩
  | f + 1, n, h => by
    unfold bgo
    split
    · rename_i hc
      have := bgo_le l f (n + 1) hc.1
      omega
    · exact ⟨Nat.le_refl _, h⟩

theorem beg_take (l : List UInt8) (n : Nat) : List.drop (Int.toNat (0 : Int)) (List.take ((n : Int) + (1 : Int)).toNat l) = l.take (n + 1) := by
  have : ((n : Int) + 1).toNat = n + 1 := by omega
  rw [this]
  rfl

theorem beg_loop (l : List UInt8) (h0 : 0 < l.length) (hl : l.length ≤ 1000000000) : Tri Ext0 Tryd.prog (.loop (lbody Tryd.prog 21 2)) (begS l 1) (.exit 0) (begS l (begunF l)) := by
  refine loop_ok mixed cl5_ok (α := {n : Nat // n ≤ l.length ∧ bgo l (l.length - n) n = begunF l}) (fun x => begS l x.val) (fun x => l.length - x.val) ?_ ⟨1, h0, rfl⟩
  rintro ⟨n, hn, hb⟩
  by_cases hlt : n < l.length
  · by_cases hf : fullF (l.take (n + 1)) = false
    · have hb2 : bgo l (l.length - (n + 1)) (n + 1) = begunF l := by
        rw [← hb]
        have : l.length - n = (l.length - (n + 1)) + 1 := by omega
        rw [this]
        conv => rhs; unfold bgo
        rw [if_pos ⟨hlt, hf⟩]
      refine .inl ⟨⟨n + 1, hlt, hb2⟩, by simp only; omega, _, _, _, _, _, lpBy_nil, List.nodup_nil, begr_1 l n, ?_⟩
      simp only [allP, beg_take, hf, List.length_take, Bool.not_false, and_true, true_and, decide_eq_true_eq, decide_eq_false_iff_not, i64_min, i64_max]
      omega
    · have hn2 : n = begunF l := by
        rw [← hb]
        have : l.length - n = (l.length - (n + 1)) + 1 := by omega
        rw [this]
        unfold bgo
        rw [if_neg (fun h => hf h.2)]
      refine .inr ⟨by simp, ?_⟩
      show Round Ext0 Tryd.prog cl5 _ (begS l n) _ _
      rw [← hn2]
      refine ⟨_, _, _, _, _, lpBy_nil, List.nodup_nil, begr_2 l n, ?_⟩
      simp only [allP, beg_take, hf, List.length_take, Bool.not_true, and_true, true_and, decide_eq_true_eq, decide_eq_false_iff_not, i64_min, i64_max]
      omega
  · have hn2 : n = begunF l := by
      rw [← hb]
      have : l.length - n = 0 := by omega
      rw [this]
      rfl
    refine .inr ⟨by simp, ?_⟩
    show Round Ext0 Tryd.prog cl5 _ (begS l n) _ _
    rw [← hn2]
    refine ⟨_, _, _, _, _, lpBy_nil, List.nodup_nil, begr_3 l n, ?_⟩
    simp only [allP, and_true, true_and, decide_eq_true_eq, decide_eq_false_iff_not]
    omega

noncomputable def begLp (l : List UInt8) : List (Nat × Lp) := [(2, ⟨lbody Tryd.prog 21 2, begFi, begS l 1, .exit 0, begS l (begunF l)⟩)]
theorem begLp_ok (l : List UInt8) (h0 : 0 < l.length) (hl : l.length ≤ 1000000000) : LpOK Ext0 Tryd.prog (lpBy (begLp l)) := lpBy_cons lpBy_nil List.nodup_nil (beg_loop l h0 hl)

theorem begun_1 (l : List UInt8) : outcome Tryd.prog 21 (aBody Tryd.prog cl5 ⟨true, bs [] ++ ([])⟩ (lpBy (begLp l)) 60 21 ([.c (str l)]) ([])) = some ((AV.c ((Value.int .i64 ((↑(begunF l) : Int))))), [((lbody Tryd.prog (21 : FuncId) (2 : Nat) : Go.Code)) = (lbody Tryd.prog (21 : FuncId) (2 : Nat)),
 ((begS l (1 : Nat) : Go.Proofs.YtfaffnemfndkfaaDoor.St)) = (begS l (1 : Nat))]) := by kernel_rfl

theorem begun_all (l : List UInt8) (h0 : 0 < l.length) (h1 : l.length ≤ 1000000000) : ∃ (h : Hints) (p : List Prop), outcome Tryd.prog 21 (aBody Tryd.prog cl5 h (lpBy (begLp l)) 60 21 ([.c (str l)]) ([])) = some (.c (.int .i64 (begunF l)), p) ∧ allP p := by
  have eR := begun_1 l
  refine ⟨_, _, eR.trans (congrArg (fun r => some (r, _)) ?_), ?_⟩
  · rfl
  · simp only [decide_eq_true_eq, decide_eq_false_iff_not, beq_iff_eq, beq_eq_false_iff_ne, ne_eq] at *
    simp (disch := omega) only [allP, tdN, tmN, i64_wrap, i32_wrap, u8_wrap, u32_wrap, bytesOK_cons, bytesOK_nil, decide_eq_true_eq, decide_eq_false_iff_not, beq_iff_eq, beq_eq_false_iff_ne, ne_eq, not_false_eq_true, and_true, true_and, i64_min, i64_max, u8_min, u8_max]
    repeat' apply And.intro
    all_goals first | omega | assumption | rfl | exact avEq_refl _

def begunSpec : Spec
  | [.c (.string s)] => some (.c (.int .i64 (begunF (sb s))), [0 < (sb s).length, (sb s).length ≤ 1000000000])
  | _ => none

theorem begun_ok : SpecOK Tryd.prog 21 begunSpec := by
  refine spec_of mixed cl5_ok fun args r q hs hq => ?_
  unfold begunSpec at hs
  split at hs
  · rename_i s
    simp only [Option.some.injEq, Prod.mk.injEq] at hs
    obtain ⟨rfl, rfl⟩ := hs
    obtain ⟨⟨⟨l⟩⟩, rfl⟩ : ∃ b : ByteArray, b = s := ⟨s, rfl⟩
    obtain ⟨h, p, e, hp⟩ := begun_all l hq.1 hq.2.1
    exact ⟨_, _, _, _, begLp_ok l hq.1 hq.2.1, e, hp⟩
  · simp at hs

end Go.Proofs.YtfaffnemfndkfaaDoor
