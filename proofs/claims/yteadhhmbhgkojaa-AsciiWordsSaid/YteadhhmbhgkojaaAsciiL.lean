/- The law of words. -/
import Derived.Test.YteadhhmbhgkojaaAsciiK
namespace Go.Proofs.Yteadhhmbhgkojaa
open Go.RowKit
set_option linter.unusedVariables false
set_option linter.unusedSimpArgs false

theorem wl1_loop (a : List UInt8) (Y Z : List (List UInt8)) (hl : a.length ≤ 1000000) : Tri Ext0 Try.prog (.loop (lbody Try.prog 7 10)) (wl1S a (wordsF a) Y Z 0 0) (.exit 0) (wl1S a (wordsF a) Y Z (sumLen (wordsF a)) (wordsF a).length) := by
  have hsum := words_sum a
  have hwl := wordsF_len a
  have hww := words_word a
  generalize wordsF a = X at *
  refine loop_ok mixed cl5_ok (α := {i : Nat // i ≤ X.length}) (fun x => wl1S a X Y Z (sumLen (X.take x.val)) x.val) (fun x => X.length - x.val) ?_ ⟨0, Nat.zero_le _⟩
  rintro ⟨i, hi⟩
  by_cases hk : i < X.length
  · have hmem : X.getD i [] ∈ X := by simp [List.getD, hk]
    obtain ⟨hne, hone⟩ := hww _ hmem
    have hpos : 0 < (X.getD i []).length := List.length_pos_iff.2 hne
    have hle := sum_mem X _ hmem
    have htk := sum_take X i
    have hh := strs_headD X i hk
    refine .inl ⟨⟨i + 1, hk⟩, by simp only; omega, ?_⟩
    simp only
    rw [sum_next X i hk]
    generalize X.getD i [] = w at *
    refine ⟨_, _, _, ⟨[], [0, 7, 8, 9, 11, 12, 13], [0, 1, 2]⟩, _, lpBy_nil, by decide, wl1a a X Y Z (sumLen (X.take i)) i w, ?_⟩
    simp only [allP, and_true, true_and, decide_eq_true_eq, decide_eq_false_iff_not, beq_iff_eq, beq_eq_false_iff_ne, bne_iff_ne, bne_eq_false_iff_eq, ne_eq, i64_min, i64_max, List.length_drop, strs_length, Nat.add_zero, hh, hone, List.length_cons, List.length_nil]
    repeat' apply And.intro
    all_goals first | omega | exact avEq_refl _
  · obtain rfl : i = X.length := by omega
    refine .inr ⟨by simp, ?_⟩
    simp only
    rw [List.take_length]
    refine ⟨_, _, _, ⟨[], [0, 7, 8, 9, 11, 12, 13], [0, 1, 2]⟩, _, lpBy_nil, by decide, wl1b a X Y Z (sumLen X) X.length, ?_⟩
    simp [allP]

theorem wl2_loop (a : List UInt8) (X Y Z : List (List UInt8)) (n : Nat) (hl : a.length ≤ 1000000) (hn : n ≤ 1000000) : Tri Ext0 Try.prog (.loop (lbody Try.prog 7 16)) (wl2S a X Y Z n 0) (.exit 2) (wl2S a X Y Z (n + blanksN a) a.length) := by
  refine loop_ok mixed cl5_ok (α := {i : Nat // i ≤ a.length}) (fun x => wl2S a X Y Z (n + blanksN (a.take x.val)) x.val) (fun x => a.length - x.val) ?_ ⟨0, Nat.zero_le _⟩
  rintro ⟨i, hi⟩
  by_cases hk : i < a.length
  · have hbl := blanks_le a i
    have hu := u8_lt (a.getD i 0)
    refine .inl ⟨⟨i + 1, hk⟩, by simp only; omega, ?_⟩
    simp only
    rw [blanks_next a i hk]
    cases hb : blankI (a.getD i 0).toNat with
    | true =>
      rw [if_pos rfl]
      refine ⟨_, _, _, ⟨[], [0, 7, 8, 9, 11, 12, 14], [0, 1, 2]⟩, _, lpBy_nil, by decide, wl2a a X Y Z (n + blanksN (a.take i)) i, ?_⟩
      simp only [hb, allP, and_true, true_and, decide_eq_true_eq, decide_eq_false_iff_not, i64_min, i64_max]
      repeat' apply And.intro
      all_goals omega
    | false =>
      rw [if_neg (by simp)]
      refine ⟨_, _, _, ⟨[], [0, 7, 8, 9, 11, 12, 14], [0, 1, 2]⟩, _, lpBy_nil, by decide, wl2b a X Y Z (n + blanksN (a.take i)) i, ?_⟩
      simp only [hb, allP, and_true, true_and, decide_eq_true_eq, decide_eq_false_iff_not, i64_min, i64_max]
      repeat' apply And.intro
      all_goals omega
  · obtain rfl : i = a.length := by omega
    refine .inr ⟨by simp, ?_⟩
    simp only
    rw [List.take_length]
    refine ⟨_, _, _, ⟨[], [0, 7, 8, 9, 11, 12, 14], [0, 1, 2]⟩, _, lpBy_nil, by decide, wl2c a X Y Z (n + blanksN a) a.length, ?_⟩
    simp [allP]

def five (C : UInt8) (a b : List UInt8) : List UInt8 := [C] ++ a ++ [C] ++ [C] ++ b ++ [C]

noncomputable def wlLp (a b : List UInt8) (C : UInt8) : List (Nat × Lp) := [(10, ⟨lbody Try.prog 7 10, ⟨[], [0, 7, 8, 9, 11, 12, 13], [0, 1, 3]⟩, wl1S a (wordsF a) (wordsF b) (wordsF (five C a b)) 0 0, .exit 0, wl1S a (wordsF a) (wordsF b) (wordsF (five C a b)) (sumLen (wordsF a)) (wordsF a).length⟩), (16, ⟨lbody Try.prog 7 16, ⟨[], [0, 7, 8, 9, 11, 12, 14], [0, 1, 2]⟩, wl2S a (wordsF a) (wordsF b) (wordsF (five C a b)) (sumLen (wordsF a)) 0, .exit 2, wl2S a (wordsF a) (wordsF b) (wordsF (five C a b)) (sumLen (wordsF a) + blanksN a) a.length⟩)]

noncomputable def wlAll (L : List (Nat × Lp)) (h : List (Nat × Hint)) (a b : List UInt8) (C : UInt8) : Option (AV × List Prop) := lawOut (aBody Try.prog cl5 ⟨true, h⟩ (lpBy L) 60 7 [.c (str a), .c (str b), .c (.int .u8 (C.toNat : Int))] [])

theorem wlAll1 (a b : List UInt8) (C : UInt8) : wlAll [] (bs [(18, true)]) a b C = some (.c (.bool true), [((decide ((↑a.length : Int) > (500 : Int)) : Bool)) = (true)]) := by kernel_rfl

theorem wlAll2 (a b : List UInt8) (C : UInt8) : wlAll [] (bs [(18, false), (22, true)]) a b C = some (.c (.bool true), [((decide ((↑a.length : Int) > (500 : Int)) : Bool)) = (false),
 ((decide ((↑b.length : Int) > (500 : Int)) : Bool)) = (true)]) := by kernel_rfl

theorem wlAll3 (a b : List UInt8) (C : UInt8) : wlAll [] (bs [(18, false), (22, false), (26, false)]) a b C = some (.c (.bool true), [((decide ((↑a.length : Int) > (500 : Int)) : Bool)) = (false),
 ((decide ((↑b.length : Int) > (500 : Int)) : Bool)) = (false),
 (((0 : Int) : Int) ≤ ((↑C.toNat : Int))),
 (((↑C.toNat : Int) : Int) < ((256 : Int))),
 ((blankI (↑C.toNat : Int) : Bool)) = (false)]) := by kernel_rfl

theorem wlAll4 (a b : List UInt8) (C : UInt8) : wlAll (wlLp a b C) (bs [(18, false), (22, false), (26, true), (94, true)] ++ [(36, ⟨.c (str [C]), none⟩), (100, ⟨.sl 4 0 (wordsF a).length, some (strs (wordsF a))⟩), (102, ⟨.sl 5 0 (wordsF a ++ wordsF b).length, some (strs (wordsF a ++ wordsF b))⟩)]) a b C = some (.c (.bool true), [((decide ((↑a.length : Int) > (500 : Int)) : Bool)) = (false),
 ((decide ((↑b.length : Int) > (500 : Int)) : Bool)) = (false),
 (((0 : Int) : Int) ≤ ((↑C.toNat : Int))),
 (((↑C.toNat : Int) : Int) < ((256 : Int))),
 ((blankI (↑C.toNat : Int) : Bool)) = (true),
 ((a.length : Nat) ≤ ((1000000 : Nat))),
 ((b.length : Nat) ≤ ((1000000 : Nat))),
 (((1 : Nat) : Nat) ≤ ((List.take (0 : Nat) (List.replicate (1 : Nat) (AV.c (Value.int IntKind.u8 (0 : Int)))) ++
      [AV.c (Value.int IntKind.u8 (↑C.toNat : Int))] ++
    List.drop (1 : Nat) (List.replicate (1 : Nat) (AV.c (Value.int IntKind.u8 (0 : Int))))).length)),
 bytesOK (List.take (1 : Nat)
  (List.drop (0 : Nat)
    (List.take (0 : Nat) (List.replicate (1 : Nat) (AV.c (Value.int IntKind.u8 (0 : Int)))) ++
        [AV.c (Value.int IntKind.u8 (↑C.toNat : Int))] ++
      List.drop (1 : Nat) (List.replicate (1 : Nat) (AV.c (Value.int IntKind.u8 (0 : Int))))))),
 ((unbyts
  (List.take (1 : Nat)
    (List.drop (0 : Nat)
      (List.take (0 : Nat) (List.replicate (1 : Nat) (AV.c (Value.int IntKind.u8 (0 : Int)))) ++
          [AV.c (Value.int IntKind.u8 (↑C.toNat : Int))] ++
        List.drop (1 : Nat) (List.replicate (1 : Nat) (AV.c (Value.int IntKind.u8 (0 : Int))))))) : List UInt8)) = ([C]),
 (([C].length + a.length : Nat) ≤ ((9223372036854775807 : Nat))),
 ((([C] ++ a).length + [C].length : Nat) ≤ ((9223372036854775807 : Nat))),
 ((([C] ++ a ++ [C]).length + [C].length : Nat) ≤ ((9223372036854775807 : Nat))),
 ((([C] ++ a ++ [C] ++ [C]).length + b.length : Nat) ≤ ((9223372036854775807 : Nat))),
 ((([C] ++ a ++ [C] ++ [C] ++ b).length + [C].length : Nat) ≤ ((9223372036854775807 : Nat))),
 ((([C] ++ a ++ [C] ++ [C] ++ b ++ [C]).length : Nat) ≤ ((1000000 : Nat))),
 ((lbody Try.prog (7 : FuncId) (10 : Nat) : Go.Code)) = (lbody Try.prog (7 : FuncId) (10 : Nat)),
 ((wl1S a (wordsF a) (wordsF b) (wordsF (five C a b)) (0 : Nat) (0 : Nat) : Go.Proofs.Yteadhhmbhgkojaa.St)) = (wl1S a (wordsF a) (wordsF b) (wordsF (five C a b)) (0 : Nat) (0 : Nat)),
 ((lbody Try.prog (7 : FuncId) (16 : Nat) : Go.Code)) = (lbody Try.prog (7 : FuncId) (16 : Nat)),
 ((wl2S a (wordsF a) (wordsF b) (wordsF (five C a b)) (sumLen (wordsF a)) (0 : Nat) : Go.Proofs.Yteadhhmbhgkojaa.St)) = (wl2S a (wordsF a) (wordsF b) (wordsF (five C a b)) (sumLen (wordsF a)) (0 : Nat)),
 (((↑(sumLen (wordsF a) + blanksN a) : Int) == (↑a.length : Int) : Bool)) = (true),
 (((wordsF a).length + (0 : Nat) : Nat) ≤ ((strs (wordsF a)).length)),
 ((((0 : Nat) + (wordsF a).length) * (16 : Nat) : Nat) ≤ ((140737488355328 : Nat))),
 (((0 : Nat) + (wordsF a).length : Nat) ≤ ((4611686018427387904 : Nat))),
 (((0 : Nat) : Nat) ≤ ((0 : Nat))),
 avEq ((AV.sl 4 0 ((0 : Nat) + (wordsF a).length))) ((AV.sl 4 0 ((wordsF a).length))),
 ((List.take (0 : Nat) (List.replicate (0 : Nat) (AV.c (Value.string { data := #[] }))) ++
  List.take (wordsF a).length (List.drop (0 : Nat) (strs (wordsF a))) : List AV)) = (strs (wordsF a)),
 (((wordsF b).length + (0 : Nat) : Nat) ≤ ((strs (wordsF b)).length)),
 ((((wordsF a).length + (wordsF b).length) * (16 : Nat) : Nat) ≤ ((140737488355328 : Nat))),
 (((wordsF a).length + (wordsF b).length : Nat) ≤ ((4611686018427387904 : Nat))),
 (((wordsF a).length : Nat) ≤ ((strs (wordsF a)).length)),
 avEq ((AV.sl 5 0 ((wordsF a).length + (wordsF b).length))) ((AV.sl 5 0 ((wordsF a ++ wordsF b).length))),
 ((List.take (wordsF a).length (strs (wordsF a)) ++ List.take (wordsF b).length (List.drop (0 : Nat) (strs (wordsF b))) : List AV)) = (strs (wordsF a ++ wordsF b)),
 ((Try.prog.cellsOf (9 : TypeId) : Nat)) = ((1 : Nat)),
 ((Try.prog.cellsOf (9 : Nat) : Nat)) = ((1 : Nat)),
 (((wordsF a ++ wordsF b).length : Nat)) = ((wordsF (five C a b)).length),
 ((List.take (wordsF a ++ wordsF b).length (List.drop (0 : Nat) (strs (wordsF a ++ wordsF b))) : List AV)) = (List.take (wordsF (five C a b)).length (List.drop (0 : Nat) (strs (wordsF (five C a b))))),
 ((List.take (wordsF (five C a b)).length (List.drop (0 : Nat) (strs (wordsF (five C a b)))) : List AV)) = (strs (unstrs (List.take (wordsF (five C a b)).length (List.drop (0 : Nat) (strs (wordsF (five C a b))))))),
 (((wordsF (five C a b)).length : Nat)) = ((unstrs (List.take (wordsF (five C a b)).length (List.drop (0 : Nat) (strs (wordsF (five C a b)))))).length),
 (((wordsF (five C a b)).length : Nat) ≤ ((1000000 : Nat))),
 ((flatV [] (AV.c (Value.bool true)) : Bool)) = (true)]) := by kernel_rfl

theorem strs_app (A B : List (List UInt8)) : strs (A ++ B) = strs A ++ strs B := by simp [strs]

theorem words_walk (a0 : ByteArray) (a1 : ByteArray) (a2 : Int) (_ : a0.size ≤ maxLen) (_ : a1.size ≤ maxLen) (w2 : (Lit.int .u8 a2).wf = true) (w : World) :
    Calls Try.prog 7 #[.string a0, .string a1, .int .u8 a2] w fun e w' => e = .returned (.bool true) ∧ Below w.heap.size w w' := by
  obtain ⟨⟨a⟩⟩ := a0
  obtain ⟨⟨b⟩⟩ := a1
  obtain ⟨h0, h1⟩ := u8_wf w2
  obtain ⟨C, rfl⟩ : ∃ C : UInt8, a2 = (C.toNat : Int) := ⟨UInt8.ofNat a2.toNat, by
    rw [UInt8.toNat_ofNat']
    omega⟩
  refine law_conc mixed cl5_ok [str a, str b, .int .u8 (C.toNat : Int)] ?_
  by_cases ha : (500 : Int) < a.length
  · refine ⟨_, _, _, _, lpBy_nil, wlAll1 a b C, ?_⟩
    simp only [allP, and_true, true_and, decide_eq_true_eq, decide_eq_false_iff_not]
    omega
  · by_cases hb : (500 : Int) < b.length
    · refine ⟨_, _, _, _, lpBy_nil, wlAll2 a b C, ?_⟩
      simp only [allP, and_true, true_and, decide_eq_true_eq, decide_eq_false_iff_not]
      omega
    · cases hc : blankI (C.toNat : Int) with
      | false =>
        refine ⟨_, _, _, _, lpBy_nil, wlAll3 a b C, ?_⟩
        simp only [hc, allP, and_true, true_and, decide_eq_true_eq, decide_eq_false_iff_not]
        omega
      | true =>
        have hal : a.length ≤ 1000000 := by omega
        have hs := words_sum a
        have ka := wordsF_len a
        have kb := wordsF_len b
        have hf : wordsF (five C a b) = wordsF a ++ wordsF b := words_five C hc a b
        refine ⟨_, _, _, _, lpBy_cons (lpBy_cons lpBy_nil (by simp) (wl2_loop a (wordsF a) (wordsF b) (wordsF (five C a b)) (sumLen (wordsF a)) hal (by omega))) (by simp) (wl1_loop a (wordsF b) (wordsF (five C a b)) hal), wlAll4 a b C, ?_⟩
        simp only [hc, hf, hs, allP, and_true, true_and, decide_eq_true_eq, decide_eq_false_iff_not, beq_self_eq_true, Nat.add_zero, Nat.zero_add, List.take_zero, List.drop_zero, List.nil_append, List.length_append, List.length_cons, List.length_nil, List.replicate_zero, strs_length, strs_take, strs_drop, List.take_length]
        rw [show (wordsF a ++ wordsF b).take ((wordsF a).length + (wordsF b).length) = wordsF a ++ wordsF b by rw [← List.length_append, List.take_length], unstrs_strs]
        have q1 : bytesOK (List.take 1 ([AV.c (Value.int IntKind.u8 (C.toNat : Int))] ++ List.drop 1 (List.replicate 1 (AV.c (Value.int IntKind.u8 0))))) := bytesOK_byts [C]
        have q2 : unbyts (List.take 1 ([AV.c (Value.int IntKind.u8 (C.toNat : Int))] ++ List.drop 1 (List.replicate 1 (AV.c (Value.int IntKind.u8 0))))) = [C] := unbyts_byts [C]
        have q3 : flatV [] (AV.c (Value.bool true)) = true := rfl
        have q4 : Try.prog.cellsOf 9 = 1 := by kernel_rfl
        simp only [q1, q2, q3, q4, avEq_refl, strs_app, List.length_append, and_true, true_and]
        repeat' apply And.intro
        all_goals omega

end Go.Proofs.Yteadhhmbhgkojaa
