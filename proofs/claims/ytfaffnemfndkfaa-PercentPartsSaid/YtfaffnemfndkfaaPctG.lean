/- The law of what is encoded once. -/
import Derived.Test.YtfaffnemfndkfaaPctF
namespace Go.Proofs.Ytfaffnemfndkfaa
open Go.RowKit
set_option linter.unusedVariables false
set_option linter.unusedSimpArgs false

def on1S (l x : List UInt8) (s : Int) (n i : Nat) : St := ⟨frame 68 [(0, .c (str l)), (1, .c (.int .i64 s)), (5, .c (.bool true)), (6, .c (str x)), (7, .c (.int .i64 n)), (8, .c (.int .i64 i))], []⟩
def on2S (l x : List UInt8) (s : Int) (n i : Nat) : St := ⟨frame 68 [(0, .c (str l)), (1, .c (.int .i64 s)), (5, .c (.bool true)), (6, .c (str x)), (7, .c (.int .i64 n)), (9, .c (.int .i64 i))], []⟩

theorem on1_1 (l x : List UInt8) (s : Int) (n i : Nat) : roundOut (⟨[], [0, 1, 5, 6, 7, 8], []⟩) (aCode Try.prog clL ⟨true, bs [(23, true), (30, true)] ++ ([])⟩ (lpBy ([])) 60 (lbody Try.prog 5 7) (on1S l x s n i)) = some (.normal, on1S l x s (n + 2) (i + 1), [((decide ((↑i : Int) < (↑l.length : Int)) : Bool)) = (true),
 (((0 : Int) : Int) ≤ ((↑i : Int))),
 (((↑i : Int) : Int) < ((↑l.length : Int))),
 (((0 : Int) : Int) ≤ ((↑(l.getD i (0 : UInt8)).toNat : Int))),
 (((↑(l.getD i (0 : UInt8)).toNat : Int) : Int) < ((256 : Int))),
 ((inI s (↑(l.getD i (0 : UInt8)).toNat : Int) : Bool)) = (true),
 ((IntKind.i64.min : Int) ≤ ((↑n : Int) + (2 : Int))),
 (((↑n : Int) + (2 : Int) : Int) ≤ (IntKind.i64.max)),
 ((IntKind.i64.min : Int) ≤ ((↑i : Int) + (1 : Int))),
 (((↑i : Int) + (1 : Int) : Int) ≤ (IntKind.i64.max))]) := by kernel_rfl

theorem on1_2 (l x : List UInt8) (s : Int) (n i : Nat) : roundOut (⟨[], [0, 1, 5, 6, 7, 8], []⟩) (aCode Try.prog clL ⟨true, bs [(23, true), (30, false)] ++ ([])⟩ (lpBy ([])) 60 (lbody Try.prog 5 7) (on1S l x s n i)) = some (.normal, on1S l x s n (i + 1), [((decide ((↑i : Int) < (↑l.length : Int)) : Bool)) = (true),
 (((0 : Int) : Int) ≤ ((↑i : Int))),
 (((↑i : Int) : Int) < ((↑l.length : Int))),
 (((0 : Int) : Int) ≤ ((↑(l.getD i (0 : UInt8)).toNat : Int))),
 (((↑(l.getD i (0 : UInt8)).toNat : Int) : Int) < ((256 : Int))),
 ((inI s (↑(l.getD i (0 : UInt8)).toNat : Int) : Bool)) = (false),
 ((IntKind.i64.min : Int) ≤ ((↑i : Int) + (1 : Int))),
 (((↑i : Int) + (1 : Int) : Int) ≤ (IntKind.i64.max))]) := by kernel_rfl

theorem on1_3 (l x : List UInt8) (s : Int) (n i : Nat) : roundOut (⟨[], [0, 1, 5, 6, 7, 8], []⟩) (aCode Try.prog clL ⟨true, bs [(23, false)] ++ ([])⟩ (lpBy ([])) 60 (lbody Try.prog 5 7) (on1S l x s n i)) = some (.exit 0, on1S l x s n i, [((decide ((↑i : Int) < (↑l.length : Int)) : Bool)) = (false)]) := by kernel_rfl

theorem on2_1 (l x : List UInt8) (s : Int) (n i : Nat) : roundOut (⟨[], [0, 1, 5, 6, 7, 9], []⟩) (aCode Try.prog clL ⟨true, bs [(36, true), (42, true), (48, true)] ++ ([])⟩ (lpBy ([])) 60 (lbody Try.prog 5 12) (on2S l x s n i)) = some (.ret, on2S l x s n i, [((decide ((↑i : Int) < (↑x.length : Int)) : Bool)) = (true),
 (((0 : Int) : Int) ≤ ((↑i : Int))),
 (((↑i : Int) : Int) < ((↑x.length : Int))),
 (((↑(x.getD i (0 : UInt8)).toNat : Int) != (37 : Int) : Bool)) = (true),
 (((0 : Int) : Int) ≤ ((↑i : Int))),
 (((↑i : Int) : Int) < ((↑x.length : Int))),
 (((0 : Int) : Int) ≤ ((↑(x.getD i (0 : UInt8)).toNat : Int))),
 (((↑(x.getD i (0 : UInt8)).toNat : Int) : Int) < ((256 : Int))),
 ((inI s (↑(x.getD i (0 : UInt8)).toNat : Int) : Bool)) = (true)]) := by kernel_rfl

theorem on2_2 (l x : List UInt8) (s : Int) (n i : Nat) : roundOut (⟨[], [0, 1, 5, 6, 7, 9], []⟩) (aCode Try.prog clL ⟨true, bs [(36, true), (42, true), (48, false)] ++ ([])⟩ (lpBy ([])) 60 (lbody Try.prog 5 12) (on2S l x s n i)) = some (.normal, on2S l x s n (i + 1), [((decide ((↑i : Int) < (↑x.length : Int)) : Bool)) = (true),
 (((0 : Int) : Int) ≤ ((↑i : Int))),
 (((↑i : Int) : Int) < ((↑x.length : Int))),
 (((↑(x.getD i (0 : UInt8)).toNat : Int) != (37 : Int) : Bool)) = (true),
 (((0 : Int) : Int) ≤ ((↑i : Int))),
 (((↑i : Int) : Int) < ((↑x.length : Int))),
 (((0 : Int) : Int) ≤ ((↑(x.getD i (0 : UInt8)).toNat : Int))),
 (((↑(x.getD i (0 : UInt8)).toNat : Int) : Int) < ((256 : Int))),
 ((inI s (↑(x.getD i (0 : UInt8)).toNat : Int) : Bool)) = (false),
 ((IntKind.i64.min : Int) ≤ ((↑i : Int) + (1 : Int))),
 (((↑i : Int) + (1 : Int) : Int) ≤ (IntKind.i64.max))]) := by kernel_rfl

theorem on2_3 (l x : List UInt8) (s : Int) (n i : Nat) : roundOut (⟨[], [0, 1, 5, 6, 7, 9], []⟩) (aCode Try.prog clL ⟨true, bs [(36, true), (42, false)] ++ ([])⟩ (lpBy ([])) 60 (lbody Try.prog 5 12) (on2S l x s n i)) = some (.normal, on2S l x s n (i + 1), [((decide ((↑i : Int) < (↑x.length : Int)) : Bool)) = (true),
 (((0 : Int) : Int) ≤ ((↑i : Int))),
 (((↑i : Int) : Int) < ((↑x.length : Int))),
 (((↑(x.getD i (0 : UInt8)).toNat : Int) != (37 : Int) : Bool)) = (false),
 ((IntKind.i64.min : Int) ≤ ((↑i : Int) + (1 : Int))),
 (((↑i : Int) + (1 : Int) : Int) ≤ (IntKind.i64.max))]) := by kernel_rfl

theorem on2_4 (l x : List UInt8) (s : Int) (n i : Nat) : roundOut (⟨[], [0, 1, 5, 6, 7, 9], []⟩) (aCode Try.prog clL ⟨true, bs [(36, false)] ++ ([])⟩ (lpBy ([])) 60 (lbody Try.prog 5 12) (on2S l x s n i)) = some (.exit 2, on2S l x s n i, [((decide ((↑i : Int) < (↑x.length : Int)) : Bool)) = (false)]) := by kernel_rfl

theorem cnt_next (s : Int) (l : List UInt8) (i : Nat) (h : i < l.length) : cntF s (l.take (i + 1)) = cntF s (l.take i) + if inB s (l.getD i 0) then 1 else 0 := by
  rw [take_succ_getD l i 0 h]
  simp [cntF]
theorem cnt_le (s : Int) (l : List UInt8) : cntF s l ≤ l.length := List.countP_le_length

theorem on1_loop (l x : List UInt8) (s : Int) (hl : l.length ≤ 1000000000) : Tri Ext0 Try.prog (.loop (lbody Try.prog 5 7)) (on1S l x s l.length 0) (.exit 0) (on1S l x s (l.length + 2 * cntF s l) l.length) := by
  have key := loop_up mixed clL_ok (fun i => on1S l x s (l.length + 2 * cntF s (l.take i)) i) l.length (e := .exit 0) (R := on1S l x s (l.length + 2 * cntF s l) l.length) (b := lbody Try.prog 5 7) (by simp) ?_ ?_ 0 (Nat.zero_le _)
  · exact key
  · intro i hi
    try simp only
    have hc := cnt_le s (l.take i)
    rw [List.length_take] at hc
    have hx := (l.getD i 0).toNat_lt
    rw [cnt_next s l i hi]
    cases hb : inB s (l.getD i 0) with
    | true =>
      simp only [if_true]
      rw [Nat.mul_add, ← Nat.add_assoc]
      refine ⟨_, _, _, _, _, lpBy_nil, by decide, on1_1 l x s _ i, ?_⟩
      unfold inB at hb
      simp only [allP, hb, and_true, true_and, decide_eq_true_eq, i64_min, i64_max]
      omega
    | false =>
      refine ⟨_, _, _, _, _, lpBy_nil, by decide, on1_2 l x s _ i, ?_⟩
      unfold inB at hb
      simp only [allP, hb, and_true, true_and, decide_eq_true_eq, i64_min, i64_max]
      omega
  · simp only [List.take_length]
    exact ⟨_, _, _, _, _, lpBy_nil, by decide, on1_3 l x s _ l.length, by simp [allP]⟩

theorem on2_loop (l x : List UInt8) (s : Int) (n : Nat) (hl : x.length ≤ 1000000000) (hx : ∀ c ∈ x, c ≠ 37 → inB s c = false) : Tri Ext0 Try.prog (.loop (lbody Try.prog 5 12)) (on2S l x s n 0) (.exit 2) (on2S l x s n x.length) := by
  refine loop_up mixed clL_ok (on2S l x s n) x.length (by simp) ?_ ?_ 0 (Nat.zero_le _)
  · intro i hi
    have hb := (x.getD i 0).toNat_lt
    have hm : x.getD i 0 ∈ x := by simp [List.getD, hi]
    have hn := ne_37 (x.getD i 0)
    by_cases h : x.getD i 0 = 37
    · refine ⟨_, _, _, _, _, lpBy_nil, by decide, on2_3 l x s n i, ?_⟩
      rw [decide_eq_false (by simpa using h)] at hn
      simp only [allP, hn, and_true, true_and, decide_eq_true_eq, i64_min, i64_max]
      omega
    · refine ⟨_, _, _, _, _, lpBy_nil, by decide, on2_2 l x s n i, ?_⟩
      rw [decide_eq_true (by simpa using h)] at hn
      have h2 := hx _ hm h
      unfold inB at h2
      simp only [allP, hn, h2, and_true, true_and, decide_eq_true_eq, i64_min, i64_max]
      omega
  · exact ⟨_, _, _, _, _, lpBy_nil, by decide, on2_4 l x s n x.length, by simp [allP]⟩

noncomputable def onLp (l : List UInt8) (s : Int) : List (Nat × Lp) := [(7, ⟨lbody Try.prog 5 7, ⟨[], [0, 1, 5, 6, 7, 8], []⟩, on1S l (encF s l) s l.length 0, .exit 0, on1S l (encF s l) s (l.length + 2 * cntF s l) l.length⟩), (12, ⟨lbody Try.prog 5 12, ⟨[], [0, 1, 5, 6, 7, 9], []⟩, on2S l (encF s l) s (l.length + 2 * cntF s l) 0, .exit 2, on2S l (encF s l) s (l.length + 2 * cntF s l) (encF s l).length⟩)]

theorem onLp_ok (l : List UInt8) (s : Int) (hl : l.length ≤ 100000000) : LpOK Ext0 Try.prog (lpBy (onLp l s)) := by
  have := encF_len s l
  exact lpBy_cons (lpBy_cons lpBy_nil (by simp) (on2_loop l (encF s l) s _ (by omega) (enc_left s l))) (by simp) (on1_loop l (encF s l) s (by omega))

theorem once_1 (l : List UInt8) (s : Int) : lawOut (aBody Try.prog clL ⟨true, bs [(13, true)] ++ (bs [(55, true), (65, true)])⟩ (lpBy (onLp l s)) 60 5 ([.c (str l), .c (.int .i64 s)]) ([])) = some ((AV.c ((Value.bool true))), [((decide ((↑l.length : Int) > (1000 : Int)) : Bool)) = (true)]) := by kernel_rfl

theorem once_2 (l : List UInt8) (s : Int) : lawOut (aBody Try.prog clL ⟨true, bs [(13, false), (59, true)] ++ (bs [(55, true), (65, true)])⟩ (lpBy (onLp l s)) 60 5 ([.c (str l), .c (.int .i64 s)]) ([])) = some ((AV.c ((Value.bool true))), [((decide ((↑l.length : Int) > (1000 : Int)) : Bool)) = (false),
 ((l.length : Nat) ≤ ((1000000000 : Nat))),
 ((lbody Try.prog (5 : FuncId) (7 : Nat) : Go.Code)) = (lbody Try.prog (5 : FuncId) (7 : Nat)),
 ((on1S l (encF s l) s l.length (0 : Nat) : Go.Proofs.Ytfaffnemfndkfaa.St)) = (on1S l (encF s l) s l.length (0 : Nat)),
 ((lbody Try.prog (5 : FuncId) (12 : Nat) : Go.Code)) = (lbody Try.prog (5 : FuncId) (12 : Nat)),
 ((on2S l (encF s l) s (l.length + (2 : Nat) * cntF s l) (0 : Nat) : Go.Proofs.Ytfaffnemfndkfaa.St)) = (on2S l (encF s l) s (l.length + (2 : Nat) * cntF s l) (0 : Nat)),
 (((↑(encF s l).length : Int) == (↑(l.length + (2 : Nat) * cntF s l) : Int) : Bool)) = (true),
 ((s == (6 : Int) : Bool)) = (true)]) := by kernel_rfl

theorem once_3 (l : List UInt8) (s : Int) : lawOut (aBody Try.prog clL ⟨true, bs [(13, false), (59, false)] ++ (bs [(55, true), (65, true)])⟩ (lpBy (onLp l s)) 60 5 ([.c (str l), .c (.int .i64 s)]) ([])) = some ((AV.c ((Value.bool true))), [((decide ((↑l.length : Int) > (1000 : Int)) : Bool)) = (false),
 ((l.length : Nat) ≤ ((1000000000 : Nat))),
 ((lbody Try.prog (5 : FuncId) (7 : Nat) : Go.Code)) = (lbody Try.prog (5 : FuncId) (7 : Nat)),
 ((on1S l (encF s l) s l.length (0 : Nat) : Go.Proofs.Ytfaffnemfndkfaa.St)) = (on1S l (encF s l) s l.length (0 : Nat)),
 ((lbody Try.prog (5 : FuncId) (12 : Nat) : Go.Code)) = (lbody Try.prog (5 : FuncId) (12 : Nat)),
 ((on2S l (encF s l) s (l.length + (2 : Nat) * cntF s l) (0 : Nat) : Go.Proofs.Ytfaffnemfndkfaa.St)) = (on2S l (encF s l) s (l.length + (2 : Nat) * cntF s l) (0 : Nat)),
 (((↑(encF s l).length : Int) == (↑(l.length + (2 : Nat) * cntF s l) : Int) : Bool)) = (true),
 ((s == (6 : Int) : Bool)) = (false),
 (((encF s l).length : Nat) ≤ ((1000000000 : Nat))),
 ((encF s (encF s l) == encF s l : Bool)) = (true)]) := by kernel_rfl

theorem once_all (l : List UInt8) (s : Int)  : ∃ (h : Hints) (p : List Prop), lawOut (aBody Try.prog clL h (lpBy (onLp l s)) 60 5 ([.c (str l), .c (.int .i64 s)]) ([])) = some (.c (.bool true), p) ∧ allP p := by
  cases hc13 : (decide ((↑l.length : Int) > (1000 : Int)) : Bool) with
  | true =>
    have eR := once_1 l s
    refine ⟨_, _, eR.trans (congrArg (fun r => some (r, _)) ?_), ?_⟩
    · rfl
    · clear eR
      have k1 := enc_length s l
      have k2 := encF_len s l
      simp only [allP, and_true, true_and]
      try simp only [decide_eq_true_eq, decide_eq_false_iff_not] at *
      repeat' apply And.intro
      all_goals first | omega | rfl | exact beq_iff_eq.2 (by omega) | exact hc59 | exact beq_iff_eq.2 (enc_enc (by simpa using hc59) l)
  | false =>
    cases hc59 : (s == (6 : Int) : Bool) with
    | true =>
      have eR := once_2 l s
      refine ⟨_, _, eR.trans (congrArg (fun r => some (r, _)) ?_), ?_⟩
      · rfl
      · clear eR
        have k1 := enc_length s l
        have k2 := encF_len s l
        simp only [allP, and_true, true_and]
        try simp only [decide_eq_true_eq, decide_eq_false_iff_not] at *
        repeat' apply And.intro
        all_goals first | omega | rfl | exact beq_iff_eq.2 (by omega) | exact hc59 | exact beq_iff_eq.2 (enc_enc (by simpa using hc59) l)
    | false =>
      have eR := once_3 l s
      refine ⟨_, _, eR.trans (congrArg (fun r => some (r, _)) ?_), ?_⟩
      · rfl
      · clear eR
        have k1 := enc_length s l
        have k2 := encF_len s l
        simp only [allP, and_true, true_and]
        try simp only [decide_eq_true_eq, decide_eq_false_iff_not] at *
        repeat' apply And.intro
        all_goals first | omega | rfl | exact beq_iff_eq.2 (by omega) | exact hc59 | exact beq_iff_eq.2 (enc_enc (by simpa using hc59) l)

end Go.Proofs.Ytfaffnemfndkfaa
