/- The laws of what is told, and of what comes back. -/
import Derived.Test.YtfaffnemfndkfaaPctE
namespace Go.Proofs.Ytfaffnemfndkfaa
open Go.RowKit
set_option linter.unusedVariables false
set_option linter.unusedSimpArgs false

noncomputable def clT : CallT := aCall Try.prog (sgBy [(8, smallSpec), (9, inSpec), (10, inSpec), (11, encSpec), (12, encSpec), (13, decSpec), (14, decSpec)]) 500 8
theorem clT_ok : CallOK Try.prog clT := aCall_ok mixed (sgBy_cons small_ok (sgBy_cons in_ok (sgBy_cons rin_ok (sgBy_cons enc_ok (sgBy_cons renc_ok (sgBy_cons dec_ok (sgBy_cons rdec_ok sgBy_nil))))))) 500 8

theorem byts_all (l : List UInt8) : List.take l.length (List.drop 0 (byts l)) = byts l := by
  rw [List.drop_zero, List.take_of_length_le (by rw [byts_length]; exact Nat.le_refl _)]

theorem tells_1 (s n : Int) (l : List UInt8) : lawOut (aBody Try.prog clT ⟨true, bs [(11, true)] ++ (bs [(21, true), (30, true), (39, true)])⟩ (lpBy ([])) 60 3 ([.c (.int .i64 s), .c (.int .u8 n), .c (str l)]) ([])) = some ((AV.c ((Value.bool true))), [((decide ((↑l.length : Int) > (1000 : Int)) : Bool)) = (true)]) := by kernel_rfl

theorem tells_2 (s n : Int) (l : List UInt8) : lawOut (aBody Try.prog clT ⟨true, bs [(11, false)] ++ (bs [(21, true), (30, true), (39, true)])⟩ (lpBy ([])) 60 3 ([.c (.int .i64 s), .c (.int .u8 n), .c (str l)]) ([])) = some ((AV.c ((Value.bool true))), [((decide ((↑l.length : Int) > (1000 : Int)) : Bool)) = (false),
 (((0 : Int) : Int) ≤ (n)),
 ((n : Int) < ((256 : Int))),
 (((0 : Int) : Int) ≤ (n)),
 ((n : Int) < ((256 : Int))),
 ((inI s n == inI s n : Bool)) = (true),
 ((l.length : Nat) ≤ ((1000000000 : Nat))),
 ((l.length : Nat) ≤ ((1000000000 : Nat))),
 ((encF s l == encF s l : Bool)) = (true),
 ((l.length : Nat) ≤ ((1000000000 : Nat))),
 (((List.take (unescF l).length (List.drop (0 : Nat) (byts (unescF l)))).length : Nat)) = ((unescF l).length),
 bytesOK (List.take (unescF l).length (List.drop (0 : Nat) (byts (unescF l)))),
 ((l.length : Nat) ≤ ((1000000000 : Nat))),
 (((List.take (unescF l).length (List.drop (0 : Nat) (byts (unescF l)))).length : Nat)) = ((unescF l).length),
 bytesOK (List.take (unescF l).length (List.drop (0 : Nat) (byts (unescF l)))),
 ((unbyts (List.take (unescF l).length (List.drop (0 : Nat) (byts (unescF l)))) ==
  unbyts (List.take (unescF l).length (List.drop (0 : Nat) (byts (unescF l)))) : Bool)) = (true)]) := by kernel_rfl

theorem tells_all (s n : Int) (l : List UInt8) (h0 : 0 ≤ n) (h1 : n < 256) : ∃ (h : Hints) (p : List Prop), lawOut (aBody Try.prog clT h (lpBy ([])) 60 3 ([.c (.int .i64 s), .c (.int .u8 n), .c (str l)]) ([])) = some (.c (.bool true), p) ∧ allP p := by
  cases hc11 : (decide ((↑l.length : Int) > (1000 : Int)) : Bool) with
  | true =>
    have eR := tells_1 s n l
    refine ⟨_, _, eR.trans (congrArg (fun r => some (r, _)) ?_), ?_⟩
    · rfl
    · clear eR
      simp only [allP, *, byts_all, and_true, true_and, byts_length, beq_self_eq_true, avEq_refl]
      all_goals try simp only [decide_eq_true_eq, decide_eq_false_iff_not] at *
      all_goals repeat' apply And.intro
      all_goals first | omega | exact bytesOK_byts _
  | false =>
    have eR := tells_2 s n l
    refine ⟨_, _, eR.trans (congrArg (fun r => some (r, _)) ?_), ?_⟩
    · rfl
    · clear eR
      simp only [allP, *, byts_all, and_true, true_and, byts_length, beq_self_eq_true, avEq_refl]
      all_goals try simp only [decide_eq_true_eq, decide_eq_false_iff_not] at *
      all_goals repeat' apply And.intro
      all_goals first | omega | exact bytesOK_byts _

/-! What comes back. -/

def noneB (l : List UInt8) : Bool := l.all fun c => decide (c ≠ 37)

def backS (l : List UInt8) (s : Int) (b : Bool) (i : Nat) : St := ⟨frame 55 [(0, .c (str l)), (1, .c (.int .i64 s)), (5, .c (.bool true)), (6, .c (.bool b)), (7, .c (.int .i64 i))], []⟩

theorem backr1_1 (l : List UInt8) (s : Int) (i : Nat) (b : Bool) : roundOut (⟨[], [0, 1, 5, 6, 7], []⟩) (aCode Try.prog clL ⟨true, bs [(16, true)] ++ ([(24, ⟨.c (.bool b), none⟩)])⟩ (lpBy ([])) 60 (lbody Try.prog 4 6) (backS l s true i)) = some (.normal, backS l s b (i + 1), [((decide ((↑i : Int) < (↑l.length : Int)) : Bool)) = (true),
 (((0 : Int) : Int) ≤ ((↑i : Int))),
 (((↑i : Int) : Int) < ((↑l.length : Int))),
 (((↑(l.getD i (0 : UInt8)).toNat : Int) != (37 : Int) : Bool)) = (b),
 ((IntKind.i64.min : Int) ≤ ((↑i : Int) + (1 : Int))),
 (((↑i : Int) + (1 : Int) : Int) ≤ (IntKind.i64.max))]) := by kernel_rfl

theorem backr1_2 (l : List UInt8) (s : Int) (i : Nat) (b : Bool) : roundOut (⟨[], [0, 1, 5, 6, 7], []⟩) (aCode Try.prog clL ⟨true, bs [(16, false)] ++ ([(24, ⟨.c (.bool b), none⟩)])⟩ (lpBy ([])) 60 (lbody Try.prog 4 6) (backS l s true i)) = some (.exit 0, backS l s true i, [((decide ((↑i : Int) < (↑l.length : Int)) : Bool)) = (false)]) := by kernel_rfl


theorem backr2_1 (l : List UInt8) (s : Int) (i : Nat) (b : Bool) : roundOut (⟨[], [0, 1, 5, 6, 7], []⟩) (aCode Try.prog clL ⟨true, bs [(16, true)] ++ ([(24, ⟨.c (.bool b), none⟩)])⟩ (lpBy ([])) 60 (lbody Try.prog 4 6) (backS l s false i)) = some (.normal, backS l s false (i + 1), [((decide ((↑i : Int) < (↑l.length : Int)) : Bool)) = (true),
 ((IntKind.i64.min : Int) ≤ ((↑i : Int) + (1 : Int))),
 (((↑i : Int) + (1 : Int) : Int) ≤ (IntKind.i64.max))]) := by kernel_rfl

theorem backr2_2 (l : List UInt8) (s : Int) (i : Nat) (b : Bool) : roundOut (⟨[], [0, 1, 5, 6, 7], []⟩) (aCode Try.prog clL ⟨true, bs [(16, false)] ++ ([(24, ⟨.c (.bool b), none⟩)])⟩ (lpBy ([])) 60 (lbody Try.prog 4 6) (backS l s false i)) = some (.exit 0, backS l s false i, [((decide ((↑i : Int) < (↑l.length : Int)) : Bool)) = (false)]) := by kernel_rfl

theorem none_next (l : List UInt8) (i : Nat) (h : i < l.length) : noneB (l.take (i + 1)) = (noneB (l.take i) && decide (l.getD i 0 ≠ 37)) := by
  rw [take_succ_getD l i 0 h]
  simp [noneB]

theorem ne_37 (x : UInt8) : (((x.toNat : Nat) : Int) != 37) = decide (x ≠ 37) := by
  rw [Bool.eq_iff_iff, decide_eq_true_eq, bne_iff_ne]
  exact not_congr (u8_37 x).symm

theorem back_loop (l : List UInt8) (s : Int) (hl : l.length ≤ 1000000000) : Tri Ext0 Try.prog (.loop (lbody Try.prog 4 6)) (backS l s true 0) (.exit 0) (backS l s (noneB l) l.length) := by
  have key := loop_up mixed clL_ok (fun i => backS l s (noneB (l.take i)) i) l.length (e := .exit 0) (R := backS l s (noneB l) l.length) (b := lbody Try.prog 4 6) (by simp) ?_ ?_ 0 (Nat.zero_le _)
  · exact key
  · intro i hi
    try simp only
    rw [none_next l i hi]
    have hn := ne_37 (l.getD i 0)
    cases noneB (l.take i) with
    | true =>
      refine ⟨_, _, _, _, _, lpBy_nil, by decide, backr1_1 l s i _, ?_⟩
      simp only [allP, hn, Bool.true_and, and_true, true_and, decide_eq_true_eq, i64_min, i64_max]
      omega
    | false =>
      refine ⟨_, _, _, _, _, lpBy_nil, by decide, backr2_1 l s i true, ?_⟩
      simp only [allP, and_true, decide_eq_true_eq, i64_min, i64_max]
      omega
  · simp only [List.take_length]
    cases noneB l with
    | true => exact ⟨_, _, _, _, _, lpBy_nil, by decide, backr1_2 l s l.length true, by simp [allP]⟩
    | false => exact ⟨_, _, _, _, _, lpBy_nil, by decide, backr2_2 l s l.length true, by simp [allP]⟩

noncomputable def backLp (l : List UInt8) (s : Int) : List (Nat × Lp) := [(6, ⟨lbody Try.prog 4 6, ⟨[], [0, 1, 5, 6, 7], []⟩, backS l s true 0, .exit 0, backS l s (noneB l) l.length⟩)]

theorem none_ne {l : List UInt8} (h : noneB l = true) : ∀ c ∈ l, c ≠ 37 := by
  intro c hc
  simpa using List.all_eq_true.1 h c hc

theorem back_1 (l : List UInt8) (s : Int) : lawOut (aBody Try.prog clL ⟨true, bs [(11, true)] ++ (bs [(33, true), (45, true), (51, true)])⟩ (lpBy (backLp l s)) 60 4 ([.c (str l), .c (.int .i64 s)]) ([])) = some ((AV.c ((Value.bool true))), [((decide ((↑l.length : Int) > (1000 : Int)) : Bool)) = (true)]) := by kernel_rfl

theorem back_2 (l : List UInt8) (s : Int) : lawOut (aBody Try.prog clL ⟨true, bs [(11, false), (37, true)] ++ (bs [(33, true), (45, true), (51, true)])⟩ (lpBy (backLp l s)) 60 4 ([.c (str l), .c (.int .i64 s)]) ([])) = some ((AV.c ((Value.bool true))), [((decide ((↑l.length : Int) > (1000 : Int)) : Bool)) = (false),
 ((lbody Try.prog (4 : FuncId) (6 : Nat) : Go.Code)) = (lbody Try.prog (4 : FuncId) (6 : Nat)),
 ((backS l s true (0 : Nat) : Go.Proofs.Ytfaffnemfndkfaa.St)) = (backS l s true (0 : Nat)),
 ((l.length : Nat) ≤ ((1000000000 : Nat))),
 (((encF (6 : Int) l).length : Nat) ≤ ((1000000000 : Nat))),
 (((unescF (encF (6 : Int) l)).length + (0 : Nat) : Nat) ≤ ((byts (unescF (encF (6 : Int) l))).length)),
 bytesOK (List.take (unescF (encF (6 : Int) l)).length (List.drop (0 : Nat) (byts (unescF (encF (6 : Int) l))))),
 ((unbyts (List.take (unescF (encF (6 : Int) l)).length (List.drop (0 : Nat) (byts (unescF (encF (6 : Int) l))))) == l : Bool)) = (true),
 ((!noneB l : Bool)) = (true)]) := by kernel_rfl

theorem back_3 (l : List UInt8) (s : Int) : lawOut (aBody Try.prog clL ⟨true, bs [(11, false), (37, false)] ++ (bs [(33, true), (45, true), (51, true)])⟩ (lpBy (backLp l s)) 60 4 ([.c (str l), .c (.int .i64 s)]) ([])) = some ((AV.c ((Value.bool true))), [((decide ((↑l.length : Int) > (1000 : Int)) : Bool)) = (false),
 ((lbody Try.prog (4 : FuncId) (6 : Nat) : Go.Code)) = (lbody Try.prog (4 : FuncId) (6 : Nat)),
 ((backS l s true (0 : Nat) : Go.Proofs.Ytfaffnemfndkfaa.St)) = (backS l s true (0 : Nat)),
 ((l.length : Nat) ≤ ((1000000000 : Nat))),
 (((encF (6 : Int) l).length : Nat) ≤ ((1000000000 : Nat))),
 (((unescF (encF (6 : Int) l)).length + (0 : Nat) : Nat) ≤ ((byts (unescF (encF (6 : Int) l))).length)),
 bytesOK (List.take (unescF (encF (6 : Int) l)).length (List.drop (0 : Nat) (byts (unescF (encF (6 : Int) l))))),
 ((unbyts (List.take (unescF (encF (6 : Int) l)).length (List.drop (0 : Nat) (byts (unescF (encF (6 : Int) l))))) == l : Bool)) = (true),
 ((!noneB l : Bool)) = (false),
 ((l.length : Nat) ≤ ((1000000000 : Nat))),
 (((encF s l).length : Nat) ≤ ((1000000000 : Nat))),
 (((unescF (encF s l)).length + (0 : Nat) : Nat) ≤ ((byts (unescF (encF s l))).length)),
 bytesOK (List.take (unescF (encF s l)).length (List.drop (0 : Nat) (byts (unescF (encF s l))))),
 ((unbyts (List.take (unescF (encF s l)).length (List.drop (0 : Nat) (byts (unescF (encF s l))))) == l : Bool)) = (true),
 ((l.length : Nat) ≤ ((1000000000 : Nat))),
 (((unescF l).length + (0 : Nat) : Nat) ≤ ((byts (unescF l)).length)),
 bytesOK (List.take (unescF l).length (List.drop (0 : Nat) (byts (unescF l)))),
 ((unbyts (List.take (unescF l).length (List.drop (0 : Nat) (byts (unescF l)))) == l : Bool)) = (true)]) := by kernel_rfl

theorem back_all (l : List UInt8) (s : Int)  : ∃ (h : Hints) (p : List Prop), lawOut (aBody Try.prog clL h (lpBy (backLp l s)) 60 4 ([.c (str l), .c (.int .i64 s)]) ([])) = some (.c (.bool true), p) ∧ allP p := by
  cases hc11 : (decide ((↑l.length : Int) > (1000 : Int)) : Bool) with
  | true =>
    have eR := back_1 l s
    refine ⟨_, _, eR.trans (congrArg (fun r => some (r, _)) ?_), ?_⟩
    · rfl
    · clear eR
      have k1 : unescF (encF 6 l) = l := unesc_enc 6 l fun c _ e => by subst e; exact in6_37
      have k2 := encF_len 6 l
      have k3 := encF_len s l
      have k4 := fun h => unesc_enc s l fun c hc e => absurd e (none_ne h c hc)
      have k5 := fun h => unesc_plain l (none_ne h)
      simp only [allP, byts_all, and_true, true_and, byts_length, unbyts_byts]
      try simp only [decide_eq_true_eq, decide_eq_false_iff_not] at *
      repeat' apply And.intro
      all_goals first | omega | exact bytesOK_byts _ | exact beq_iff_eq.2 k1 | exact beq_iff_eq.2 (k4 (by simpa using hc37)) | exact beq_iff_eq.2 (k5 (by simpa using hc37)) | exact hc37
  | false =>
    cases hc37 : (!noneB l : Bool) with
    | true =>
      have eR := back_2 l s
      refine ⟨_, _, eR.trans (congrArg (fun r => some (r, _)) ?_), ?_⟩
      · rfl
      · clear eR
        have k1 : unescF (encF 6 l) = l := unesc_enc 6 l fun c _ e => by subst e; exact in6_37
        have k2 := encF_len 6 l
        have k3 := encF_len s l
        have k4 := fun h => unesc_enc s l fun c hc e => absurd e (none_ne h c hc)
        have k5 := fun h => unesc_plain l (none_ne h)
        simp only [allP, byts_all, and_true, true_and, byts_length, unbyts_byts]
        try simp only [decide_eq_true_eq, decide_eq_false_iff_not] at *
        repeat' apply And.intro
        all_goals first | omega | exact bytesOK_byts _ | exact beq_iff_eq.2 k1 | exact beq_iff_eq.2 (k4 (by simpa using hc37)) | exact beq_iff_eq.2 (k5 (by simpa using hc37)) | exact hc37
    | false =>
      have eR := back_3 l s
      refine ⟨_, _, eR.trans (congrArg (fun r => some (r, _)) ?_), ?_⟩
      · rfl
      · clear eR
        have k1 : unescF (encF 6 l) = l := unesc_enc 6 l fun c _ e => by subst e; exact in6_37
        have k2 := encF_len 6 l
        have k3 := encF_len s l
        have k4 := fun h => unesc_enc s l fun c hc e => absurd e (none_ne h c hc)
        have k5 := fun h => unesc_plain l (none_ne h)
        simp only [allP, byts_all, and_true, true_and, byts_length, unbyts_byts]
        try simp only [decide_eq_true_eq, decide_eq_false_iff_not] at *
        repeat' apply And.intro
        all_goals first | omega | exact bytesOK_byts _ | exact beq_iff_eq.2 k1 | exact beq_iff_eq.2 (k4 (by simpa using hc37)) | exact beq_iff_eq.2 (k5 (by simpa using hc37)) | exact hc37

end Go.Proofs.Ytfaffnemfndkfaa
