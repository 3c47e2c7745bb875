/- Words: the contracts; the law of texts. -/
import Derived.Test.YteadhhmbhgkojaaAsciiG
namespace Go.Proofs.Yteadhhmbhgkojaa
open Go.RowKit
set_option linter.unusedVariables false
set_option linter.unusedSimpArgs false

theorem words_loop (l : List UInt8) (hl : l.length ≤ 1000000) : Tri Ext0 Try.prog (.loop (lbody Try.prog 25 4)) (wordsS l 0 0 []) (.exit 0) (wordsS l (l.length + 1) (wAt l (l.length + 1)).1 (wordsF l)) := by
  refine loop_ok mixed cl3_ok (α := {i : Nat // i ≤ l.length + 1}) (fun x => wordsS l x.val (wAt l x.val).1 (wAt l x.val).2) (fun x => l.length + 1 - x.val) ?_ ⟨0, Nat.zero_le _⟩
  rintro ⟨i, hi⟩
  by_cases hk : i < l.length + 1
  · obtain ⟨h1, h2⟩ := wAt_le l i
    refine .inl ⟨⟨i + 1, hk⟩, by simp only; omega, ?_⟩
    simp only
    rw [show wAt l (i + 1) = wStep l i (wAt l i) from rfl]
    generalize wAt l i = x at *
    obtain ⟨a, W⟩ := x
    simp only at h1 h2
    have hsz : ((l.take i).drop a).length ≤ 1000000 := by simp only [List.length_drop, List.length_take]; omega
    have hbd := u8_lt (l.getD i 0)
    by_cases hn : i < l.length
    · cases hb : blankI (l.getD i 0).toNat with
      | false =>
        rw [show wStep l i (a, W) = (a, W) from if_pos ⟨hn, hb⟩]
        refine ⟨_, _, _, ⟨[], [0, 3, 4, 5], [0]⟩, _, lpBy_nil, nd1 0, wordsA l i a W, ?_⟩
        simp only [hb, allP, and_true, true_and, decide_eq_true_eq, decide_eq_false_iff_not, beq_iff_eq, beq_eq_false_iff_ne, ne_eq, i64_min, i64_max]
        repeat' apply And.intro
        all_goals omega
      | true =>
        have e : wStep l i (a, W) = (i + 1, if a < i then W ++ [(l.take i).drop a] else W) := if_neg (fun h => by rw [hb] at h; exact absurd h.2 (by decide))
        rw [e]
        by_cases hai : a < i
        · rw [if_pos hai]
          refine ⟨_, _, _, ⟨[], [0, 3, 4, 5], [2]⟩, _, lpBy_nil, nd1 2, wordsB l i a W ((l.take i).drop a), ?_⟩
          simp only [hb, allP, and_true, true_and, decide_eq_true_eq, decide_eq_false_iff_not, beq_iff_eq, beq_eq_false_iff_ne, ne_eq, i64_min, i64_max, strs_length, Nat.add_zero, List.take_zero, List.drop_zero, List.nil_append, List.length_append, List.length_cons, List.length_nil, List.length_drop, List.length_replicate, List.length_take]
          repeat' apply And.intro
          all_goals first | omega | exact avEq_refl _ | exact strs_snoc W _
        · rw [if_neg hai]
          refine ⟨_, _, _, ⟨[], [0, 3, 4, 5], [0]⟩, _, lpBy_nil, nd1 0, wordsC l i a W, ?_⟩
          simp only [hb, allP, and_true, true_and, decide_eq_true_eq, decide_eq_false_iff_not, beq_iff_eq, beq_eq_false_iff_ne, ne_eq, i64_min, i64_max]
          repeat' apply And.intro
          all_goals omega
    · have e : wStep l i (a, W) = (i + 1, if a < i then W ++ [(l.take i).drop a] else W) := if_neg (fun h => hn h.1)
      rw [e]
      by_cases hai : a < i
      · rw [if_pos hai]
        refine ⟨_, _, _, ⟨[], [0, 3, 4, 5], [2]⟩, _, lpBy_nil, nd1 2, wordsD l i a W ((l.take i).drop a), ?_⟩
        simp only [allP, and_true, true_and, decide_eq_true_eq, decide_eq_false_iff_not, beq_iff_eq, beq_eq_false_iff_ne, ne_eq, i64_min, i64_max, strs_length, Nat.add_zero, List.take_zero, List.drop_zero, List.nil_append, List.length_append, List.length_cons, List.length_nil, List.length_drop, List.length_replicate, List.length_take]
        repeat' apply And.intro
        all_goals first | omega | exact avEq_refl _ | exact strs_snoc W _
      · rw [if_neg hai]
        refine ⟨_, _, _, ⟨[], [0, 3, 4, 5], [0]⟩, _, lpBy_nil, nd1 0, wordsE l i a W, ?_⟩
        simp only [allP, and_true, true_and, decide_eq_true_eq, decide_eq_false_iff_not, beq_iff_eq, beq_eq_false_iff_ne, ne_eq, i64_min, i64_max]
        repeat' apply And.intro
        all_goals omega
  · obtain rfl : i = l.length + 1 := by omega
    refine .inr ⟨by simp, _, _, _, ⟨[], [0, 3, 4, 5], [0]⟩, _, lpBy_nil, nd1 0, wordsZ l (l.length + 1) (wAt l (l.length + 1)).1 (wAt l (l.length + 1)).2, ?_⟩
    simp only [allP, and_true, true_and, decide_eq_true_eq, decide_eq_false_iff_not]
    omega

noncomputable def wordsLp (l : List UInt8) : List (Nat × Lp) := [(4, ⟨lbody Try.prog 25 4, ⟨[(3, 9)], [0, 3, 4, 5], [0]⟩, wordsS l 0 0 [], .exit 0, wordsS l (l.length + 1) (wAt l (l.length + 1)).1 (wordsF l)⟩)]

noncomputable def wordsAll (l : List UInt8) : Option (AV × List Prop) := outcome Try.prog 25 (aBody Try.prog cl3 ⟨true, []⟩ (lpBy (wordsLp l)) 60 25 [.c (str l)] [])

theorem wordsAll_eq (l : List UInt8) : wordsAll l = some (.fs 1 (wordsF l).length (strs (wordsF l)), [((lbody Try.prog (25 : FuncId) (4 : Nat) : Go.Code)) = (lbody Try.prog (25 : FuncId) (4 : Nat)),
 ((wordsS l (0 : Nat) (0 : Nat) [] : Go.Proofs.Yteadhhmbhgkojaa.St)) = (wordsS l (0 : Nat) (0 : Nat) [])]) := by kernel_rfl

theorem words_ok : SpecOK Try.prog 25 wordsSpec := by
  refine spec_of mixed cl3_ok fun args r q hs hq => ?_
  unfold wordsSpec at hs
  split at hs
  · rename_i s
    simp only [Option.some.injEq, Prod.mk.injEq] at hs
    obtain ⟨rfl, rfl⟩ := hs
    obtain ⟨⟨⟨l⟩⟩, rfl⟩ : ∃ b : ByteArray, b = s := ⟨s, rfl⟩
    have hl : l.length ≤ 1000000 := hq.1
    refine ⟨_, _, _, _, lpBy_cons lpBy_nil (nd1 0) (words_loop l hl), wordsAll_eq l, ?_⟩
    simp [allP]
  · simp at hs


theorem rwords_loop (l : List UInt8) (hl : l.length ≤ 1000000) : Tri Ext0 Try.prog (.loop (lbody Try.prog 26 4)) (rwordsS l 0 0 []) (.exit 0) (rwordsS l (l.length + 1) (wAt l (l.length + 1)).1 (wordsF l)) := by
  refine loop_ok mixed cl3_ok (α := {i : Nat // i ≤ l.length + 1}) (fun x => rwordsS l x.val (wAt l x.val).1 (wAt l x.val).2) (fun x => l.length + 1 - x.val) ?_ ⟨0, Nat.zero_le _⟩
  rintro ⟨i, hi⟩
  by_cases hk : i < l.length + 1
  · obtain ⟨h1, h2⟩ := wAt_le l i
    refine .inl ⟨⟨i + 1, hk⟩, by simp only; omega, ?_⟩
    simp only
    rw [show wAt l (i + 1) = wStep l i (wAt l i) from rfl]
    generalize wAt l i = x at *
    obtain ⟨a, W⟩ := x
    simp only at h1 h2
    have hsz : ((l.take i).drop a).length ≤ 1000000 := by simp only [List.length_drop, List.length_take]; omega
    have hbd := u8_lt (l.getD i 0)
    by_cases hn : i < l.length
    · cases hb : blankI (l.getD i 0).toNat with
      | false =>
        rw [show wStep l i (a, W) = (a, W) from if_pos ⟨hn, hb⟩]
        refine ⟨_, _, _, ⟨[], [0, 3, 4, 5], [0]⟩, _, lpBy_nil, nd1 0, rwordsA l i a W, ?_⟩
        simp only [hb, allP, and_true, true_and, decide_eq_true_eq, decide_eq_false_iff_not, beq_iff_eq, beq_eq_false_iff_ne, ne_eq, i64_min, i64_max]
        repeat' apply And.intro
        all_goals omega
      | true =>
        have e : wStep l i (a, W) = (i + 1, if a < i then W ++ [(l.take i).drop a] else W) := if_neg (fun h => by rw [hb] at h; exact absurd h.2 (by decide))
        rw [e]
        by_cases hai : a < i
        · rw [if_pos hai]
          refine ⟨_, _, _, ⟨[], [0, 3, 4, 5], [2]⟩, _, lpBy_nil, nd1 2, rwordsB l i a W ((l.take i).drop a), ?_⟩
          simp only [hb, allP, and_true, true_and, decide_eq_true_eq, decide_eq_false_iff_not, beq_iff_eq, beq_eq_false_iff_ne, ne_eq, i64_min, i64_max, strs_length, Nat.add_zero, List.take_zero, List.drop_zero, List.nil_append, List.length_append, List.length_cons, List.length_nil, List.length_drop, List.length_replicate, List.length_take]
          repeat' apply And.intro
          all_goals first | omega | exact avEq_refl _ | exact strs_snoc W _
        · rw [if_neg hai]
          refine ⟨_, _, _, ⟨[], [0, 3, 4, 5], [0]⟩, _, lpBy_nil, nd1 0, rwordsC l i a W, ?_⟩
          simp only [hb, allP, and_true, true_and, decide_eq_true_eq, decide_eq_false_iff_not, beq_iff_eq, beq_eq_false_iff_ne, ne_eq, i64_min, i64_max]
          repeat' apply And.intro
          all_goals omega
    · have e : wStep l i (a, W) = (i + 1, if a < i then W ++ [(l.take i).drop a] else W) := if_neg (fun h => hn h.1)
      rw [e]
      by_cases hai : a < i
      · rw [if_pos hai]
        refine ⟨_, _, _, ⟨[], [0, 3, 4, 5], [2]⟩, _, lpBy_nil, nd1 2, rwordsD l i a W ((l.take i).drop a), ?_⟩
        simp only [allP, and_true, true_and, decide_eq_true_eq, decide_eq_false_iff_not, beq_iff_eq, beq_eq_false_iff_ne, ne_eq, i64_min, i64_max, strs_length, Nat.add_zero, List.take_zero, List.drop_zero, List.nil_append, List.length_append, List.length_cons, List.length_nil, List.length_drop, List.length_replicate, List.length_take]
        repeat' apply And.intro
        all_goals first | omega | exact avEq_refl _ | exact strs_snoc W _
      · rw [if_neg hai]
        refine ⟨_, _, _, ⟨[], [0, 3, 4, 5], [0]⟩, _, lpBy_nil, nd1 0, rwordsE l i a W, ?_⟩
        simp only [allP, and_true, true_and, decide_eq_true_eq, decide_eq_false_iff_not, beq_iff_eq, beq_eq_false_iff_ne, ne_eq, i64_min, i64_max]
        repeat' apply And.intro
        all_goals omega
  · obtain rfl : i = l.length + 1 := by omega
    refine .inr ⟨by simp, _, _, _, ⟨[], [0, 3, 4, 5], [0]⟩, _, lpBy_nil, nd1 0, rwordsZ l (l.length + 1) (wAt l (l.length + 1)).1 (wAt l (l.length + 1)).2, ?_⟩
    simp only [allP, and_true, true_and, decide_eq_true_eq, decide_eq_false_iff_not]
    omega

noncomputable def rwordsLp (l : List UInt8) : List (Nat × Lp) := [(4, ⟨lbody Try.prog 26 4, ⟨[(3, 9)], [0, 3, 4, 5], [0]⟩, rwordsS l 0 0 [], .exit 0, rwordsS l (l.length + 1) (wAt l (l.length + 1)).1 (wordsF l)⟩)]

noncomputable def rwordsAll (l : List UInt8) : Option (AV × List Prop) := outcome Try.prog 26 (aBody Try.prog cl3 ⟨true, []⟩ (lpBy (rwordsLp l)) 60 26 [.c (str l)] [])

theorem rwordsAll_eq (l : List UInt8) : rwordsAll l = some (.fs 1 (wordsF l).length (strs (wordsF l)), [((lbody Try.prog (26 : FuncId) (4 : Nat) : Go.Code)) = (lbody Try.prog (26 : FuncId) (4 : Nat)),
 ((rwordsS l (0 : Nat) (0 : Nat) [] : Go.Proofs.Yteadhhmbhgkojaa.St)) = (rwordsS l (0 : Nat) (0 : Nat) [])]) := by kernel_rfl

theorem rwords_ok : SpecOK Try.prog 26 wordsSpec := by
  refine spec_of mixed cl3_ok fun args r q hs hq => ?_
  unfold wordsSpec at hs
  split at hs
  · rename_i s
    simp only [Option.some.injEq, Prod.mk.injEq] at hs
    obtain ⟨rfl, rfl⟩ := hs
    obtain ⟨⟨⟨l⟩⟩, rfl⟩ : ∃ b : ByteArray, b = s := ⟨s, rfl⟩
    have hl : l.length ≤ 1000000 := hq.1
    refine ⟨_, _, _, _, lpBy_cons lpBy_nil (nd1 0) (rwords_loop l hl), rwordsAll_eq l, ?_⟩
    simp [allP]
  · simp at hs

noncomputable def sg5 : Specs := sgBy [(9, smallSpec), (16, bytesSpec (·.map lowB)), (17, bytesSpec fun l => l.map lowB), (18, stripSpec lowI), (19, stripSpec lowI), (20, stripSpec blankI), (21, stripSpec blankI), (22, bytesSpec fun l => l.filter fun x => tightI x.toNat), (23, bytesSpec fun l => l.filter fun x => tightI x.toNat), (25, wordsSpec), (26, wordsSpec), (24, sameSpec), (10, byteSpec fun n => .bool (blankI n))]
noncomputable def cl5 : CallT := aCall Try.prog sg5 500 8
theorem cl5_ok : CallOK Try.prog cl5 := aCall_ok mixed (sgBy_cons small_ok (sgBy_cons lower_ok (sgBy_cons rlower_ok (sgBy_cons trim_ok (sgBy_cons rcutLow_ok (sgBy_cons strip_ok (sgBy_cons rcutBlank_ok (sgBy_cons tighten_ok (sgBy_cons rtighten_ok (sgBy_cons words_ok (sgBy_cons rwords_ok (sgBy_cons same_ok (sgBy_cons blank_ok sgBy_nil))))))))))))) 500 8

noncomputable def textsRun (h : List (Nat × Hint)) (l : List UInt8) : Option (AV × List Prop) := lawOut (aBody Try.prog cl5 ⟨true, h⟩ (lpBy []) 60 4 [.c (str l)] [])

theorem texts1 (l : List UInt8) : textsRun (bs [(7, false), (15, true), (22, true), (29, true), (36, true)]) l = some (.c (.bool true), [((decide ((↑l.length : Int) > (1000 : Int)) : Bool)) = (false),
 ((l.length : Nat) ≤ ((1000000 : Nat))),
 ((l.length : Nat) ≤ ((1000000 : Nat))),
 ((List.map lowB l == List.map lowB l : Bool)) = (true),
 ((l.length : Nat) ≤ ((1000000 : Nat))),
 ((l.length : Nat) ≤ ((1000000 : Nat))),
 ((stripF lowI l == stripF lowI l : Bool)) = (true),
 ((l.length : Nat) ≤ ((1000000 : Nat))),
 ((l.length : Nat) ≤ ((1000000 : Nat))),
 ((stripF blankI l == stripF blankI l : Bool)) = (true),
 ((l.length : Nat) ≤ ((1000000 : Nat))),
 ((l.length : Nat) ≤ ((1000000 : Nat))),
 ((List.filter (fun x => tightI (↑x.toNat : Int)) l == List.filter (fun x => tightI (↑x.toNat : Int)) l : Bool)) = (true),
 ((l.length : Nat) ≤ ((1000000 : Nat))),
 ((l.length : Nat) ≤ ((1000000 : Nat))),
 ((Try.prog.cellsOf (9 : Nat) : Nat)) = ((1 : Nat)),
 ((Try.prog.cellsOf (9 : Nat) : Nat)) = ((1 : Nat)),
 (((wordsF l).length : Nat)) = ((wordsF l).length),
 ((List.take (wordsF l).length (List.drop (0 : Nat) (strs (wordsF l))) : List AV)) = (List.take (wordsF l).length (List.drop (0 : Nat) (strs (wordsF l)))),
 ((List.take (wordsF l).length (List.drop (0 : Nat) (strs (wordsF l))) : List AV)) = (strs (unstrs (List.take (wordsF l).length (List.drop (0 : Nat) (strs (wordsF l)))))),
 (((wordsF l).length : Nat)) = ((unstrs (List.take (wordsF l).length (List.drop (0 : Nat) (strs (wordsF l))))).length),
 (((wordsF l).length : Nat) ≤ ((1000000 : Nat))),
 ((flatV [] (AV.c (Value.bool true)) : Bool)) = (true)]) := by kernel_rfl

theorem texts2 (l : List UInt8) : textsRun (bs [(7, true)]) l = some (.c (.bool true), [((decide ((↑l.length : Int) > (1000 : Int)) : Bool)) = (true)]) := by kernel_rfl

theorem wordsF_len (l : List UInt8) : (wordsF l).length ≤ l.length + 1 := (wAt_le l (l.length + 1)).2

theorem texts_walk (a0 : ByteArray) (_ : a0.size ≤ maxLen) (w : World) :
    Calls Try.prog 4 #[.string a0] w fun e w' => e = .returned (.bool true) ∧ Below w.heap.size w w' := by
  obtain ⟨⟨l⟩⟩ := a0
  refine law_conc mixed cl5_ok [str l] ?_
  have hw := wordsF_len l
  by_cases h : (1000 : Int) < l.length
  · refine ⟨_, _, _, _, lpBy_nil, texts2 l, ?_⟩
    simp only [allP, and_true, true_and, decide_eq_true_eq, decide_eq_false_iff_not]
    omega
  · refine ⟨_, _, _, _, lpBy_nil, texts1 l, ?_⟩
    simp only [allP, and_true, true_and, decide_eq_true_eq, decide_eq_false_iff_not, beq_self_eq_true, Nat.add_zero, List.drop_zero, strs_take, strs_drop, List.take_length, unstrs_strs]
    repeat' apply And.intro
    all_goals first | omega | rfl

end Go.Proofs.Yteadhhmbhgkojaa
