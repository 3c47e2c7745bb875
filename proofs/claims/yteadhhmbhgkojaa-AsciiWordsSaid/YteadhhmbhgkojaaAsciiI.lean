/- The law of what ends lines. -/
import Derived.Test.YteadhhmbhgkojaaAsciiH
namespace Go.Proofs.Yteadhhmbhgkojaa
open Go.RowKit
set_option linter.unusedVariables false
set_option linter.unusedSimpArgs false

def tightF (l : List UInt8) : List UInt8 := l.filter fun x => tightI x.toNat

theorem tight_lowB (x : UInt8) : tightI (lowB x).toNat = tightI x.toNat := by
  cases h : largeI x.toNat with
  | false => rw [lowB_small h]
  | true =>
    have h1 := lowB_large h
    simp only [largeI, decide_eq_true_eq] at h
    rw [tight_t (by omega) (by omega) (by omega), tight_t (by omega) (by omega) (by omega)]

theorem lowB_lowB (x : UInt8) : lowB (lowB x) = lowB x := by
  cases h : largeI x.toNat with
  | false => rw [lowB_small h, lowB_small h]
  | true =>
    have h1 := lowB_large h
    simp only [largeI, decide_eq_true_eq] at h
    exact lowB_small (by simp only [largeI, decide_eq_false_iff_not]; omega)

theorem tight_lower (l : List UInt8) : (tightF l).map lowB = tightF (l.map lowB) := by
  unfold tightF
  rw [List.filter_map]
  congr 1
  apply List.filter_congr
  intro x _
  exact (tight_lowB x).symm

theorem lower_lower (l : List UInt8) : (l.map lowB).map lowB = l.map lowB := by
  rw [List.map_map]
  congr 1
  funext x
  exact lowB_lowB x

theorem tight_app (a b : List UInt8) : tightF (a ++ b) = tightF a ++ tightF b := List.filter_append ..

def tlS (a b t : List UInt8) (i n : Nat) : St := ⟨frame 93 [(0, .c (str a)), (1, .c (str b)), (5, .c (.bool true)), (6, .c (str t)), (7, .c (.int .i64 n)), (8, .c (.int .i64 i))], []⟩
noncomputable def tlRun (h : List (Nat × Hint)) (S : St) : Option (Exit × St × List Prop) := roundOut ⟨[], [0, 1, 5, 6, 7, 8], []⟩ (aCode Try.prog cl5 ⟨true, h⟩ (lpBy []) 60 (lbody Try.prog 8 7) S)

theorem tl1 (a b t : List UInt8) (i n : Nat) : tlRun (bs [(24, true), (30, true)]) (tlS a b t i n) = some (.normal, tlS a b t (i + 1) n, [((decide ((↑i : Int) < (↑a.length : Int)) : Bool)) = (true),
 (((0 : Int) : Int) ≤ ((↑i : Int))),
 (((↑i : Int) : Int) < ((↑a.length : Int))),
 (((↑(a.getD i (0 : UInt8)).toNat : Int) == (9 : Int) : Bool)) = (true),
 ((IntKind.i64.min : Int) ≤ ((↑i : Int) + (1 : Int))),
 (((↑i : Int) + (1 : Int) : Int) ≤ (IntKind.i64.max))]) := by kernel_rfl


theorem tl2 (a b t : List UInt8) (i n : Nat) : tlRun (bs [(24, true), (30, false), (35, true)]) (tlS a b t i n) = some (.normal, tlS a b t (i + 1) n, [((decide ((↑i : Int) < (↑a.length : Int)) : Bool)) = (true),
 (((0 : Int) : Int) ≤ ((↑i : Int))),
 (((↑i : Int) : Int) < ((↑a.length : Int))),
 (((↑(a.getD i (0 : UInt8)).toNat : Int) == (9 : Int) : Bool)) = (false),
 (((0 : Int) : Int) ≤ ((↑i : Int))),
 (((↑i : Int) : Int) < ((↑a.length : Int))),
 (((↑(a.getD i (0 : UInt8)).toNat : Int) == (10 : Int) : Bool)) = (true),
 ((IntKind.i64.min : Int) ≤ ((↑i : Int) + (1 : Int))),
 (((↑i : Int) + (1 : Int) : Int) ≤ (IntKind.i64.max))]) := by kernel_rfl


theorem tl3 (a b t : List UInt8) (i n : Nat) : tlRun (bs [(24, true), (30, false), (35, false), (41, true)]) (tlS a b t i n) = some (.normal, tlS a b t (i + 1) n, [((decide ((↑i : Int) < (↑a.length : Int)) : Bool)) = (true),
 (((0 : Int) : Int) ≤ ((↑i : Int))),
 (((↑i : Int) : Int) < ((↑a.length : Int))),
 (((↑(a.getD i (0 : UInt8)).toNat : Int) == (9 : Int) : Bool)) = (false),
 (((0 : Int) : Int) ≤ ((↑i : Int))),
 (((↑i : Int) : Int) < ((↑a.length : Int))),
 (((↑(a.getD i (0 : UInt8)).toNat : Int) == (10 : Int) : Bool)) = (false),
 (((0 : Int) : Int) ≤ ((↑i : Int))),
 (((↑i : Int) : Int) < ((↑a.length : Int))),
 (((↑(a.getD i (0 : UInt8)).toNat : Int) == (13 : Int) : Bool)) = (true),
 ((IntKind.i64.min : Int) ≤ ((↑i : Int) + (1 : Int))),
 (((↑i : Int) + (1 : Int) : Int) ≤ (IntKind.i64.max))]) := by kernel_rfl


theorem tl4 (a b t : List UInt8) (i n : Nat) : tlRun (bs [(24, true), (30, false), (35, false), (41, false), (46, false), (54, false)]) (tlS a b t i n) = some (.normal, tlS a b t (i + 1) (n + 1), [((decide ((↑i : Int) < (↑a.length : Int)) : Bool)) = (true),
 (((0 : Int) : Int) ≤ ((↑i : Int))),
 (((↑i : Int) : Int) < ((↑a.length : Int))),
 (((↑(a.getD i (0 : UInt8)).toNat : Int) == (9 : Int) : Bool)) = (false),
 (((0 : Int) : Int) ≤ ((↑i : Int))),
 (((↑i : Int) : Int) < ((↑a.length : Int))),
 (((↑(a.getD i (0 : UInt8)).toNat : Int) == (10 : Int) : Bool)) = (false),
 (((0 : Int) : Int) ≤ ((↑i : Int))),
 (((↑i : Int) : Int) < ((↑a.length : Int))),
 (((↑(a.getD i (0 : UInt8)).toNat : Int) == (13 : Int) : Bool)) = (false),
 ((decide ((↑n : Int) ≥ (↑t.length : Int)) : Bool)) = (false),
 (((0 : Int) : Int) ≤ ((↑n : Int))),
 (((↑n : Int) : Int) < ((↑t.length : Int))),
 (((0 : Int) : Int) ≤ ((↑i : Int))),
 (((↑i : Int) : Int) < ((↑a.length : Int))),
 (((↑(t.getD n (0 : UInt8)).toNat : Int) != (↑(a.getD i (0 : UInt8)).toNat : Int) : Bool)) = (false),
 ((IntKind.i64.min : Int) ≤ ((↑n : Int) + (1 : Int))),
 (((↑n : Int) + (1 : Int) : Int) ≤ (IntKind.i64.max)),
 ((IntKind.i64.min : Int) ≤ ((↑i : Int) + (1 : Int))),
 (((↑i : Int) + (1 : Int) : Int) ≤ (IntKind.i64.max))]) := by kernel_rfl

theorem tl5 (a b t : List UInt8) (i n : Nat) : tlRun (bs [(24, false)]) (tlS a b t i n) = some (.exit 0, tlS a b t i n, [((decide ((↑i : Int) < (↑a.length : Int)) : Bool)) = (false)]) := by kernel_rfl

theorem tight_at (l : List UInt8) (i : Nat) (h : i < l.length) (hq : tightI (l.getD i 0).toNat = true) : (tightF (l.take i)).length < (tightF l).length ∧ (tightF l).getD (tightF (l.take i)).length 0 = l.getD i 0 := by
  have e : l = l.take i ++ (l.getD i 0 :: l.drop (i + 1)) := by rw [← drop_cons l i h, List.take_append_drop]
  have e2 : tightF l = tightF (l.take i) ++ (l.getD i 0 :: tightF (l.drop (i + 1))) := by
    conv => lhs; rw [e]
    rw [tight_app]
    congr 1
    unfold tightF
    rw [List.filter_cons, if_pos hq]
  rw [e2]
  constructor
  · simp
  · simp [List.getD]

theorem tl_loop (a b : List UInt8) (hl : a.length ≤ 1000000) : Tri Ext0 Try.prog (.loop (lbody Try.prog 8 7)) (tlS a b (tightF a) 0 0) (.exit 0) (tlS a b (tightF a) a.length (tightF a).length) := by
  refine loop_ok mixed cl5_ok (α := {i : Nat // i ≤ a.length}) (fun x => tlS a b (tightF a) x.val (tightF (a.take x.val)).length) (fun x => a.length - x.val) ?_ ⟨0, Nat.zero_le _⟩
  rintro ⟨i, hi⟩
  by_cases hk : i < a.length
  · have hnext : tightF (a.take (i + 1)) = _ := filter_next (fun x => tightI x.toNat) a i hk
    have hat := tight_at a i hk
    have hbnd : (tightF a).length ≤ a.length := List.length_filter_le _ _
    refine .inl ⟨⟨i + 1, hk⟩, by simp only; omega, ?_⟩
    simp only
    rw [hnext]
    show Round Ext0 Try.prog cl5 _ _ _ (tlS a b (tightF a) (i + 1) (if tightI (a.getD i 0).toNat then tightF (a.take i) ++ [a.getD i 0] else tightF (a.take i)).length)
    generalize tightF (a.take i) = M at *
    by_cases h9 : (((a.getD i 0).toNat : Nat) : Int) = 9
    · rw [if_neg (tight_f (.inl h9))]
      refine ⟨_, _, _, ⟨[], [0, 1, 5, 6, 7, 8], []⟩, _, lpBy_nil, List.nodup_nil, tl1 a b (tightF a) i M.length, ?_⟩
      simp only [allP, and_true, true_and, decide_eq_true_eq, decide_eq_false_iff_not, beq_iff_eq, beq_eq_false_iff_ne, bne_iff_ne, bne_eq_false_iff_eq, ne_eq, i64_min, i64_max]
      repeat' apply And.intro
      all_goals omega
    · by_cases h10 : (((a.getD i 0).toNat : Nat) : Int) = 10
      · rw [if_neg (tight_f (.inr (.inl h10)))]
        refine ⟨_, _, _, ⟨[], [0, 1, 5, 6, 7, 8], []⟩, _, lpBy_nil, List.nodup_nil, tl2 a b (tightF a) i M.length, ?_⟩
        simp only [allP, and_true, true_and, decide_eq_true_eq, decide_eq_false_iff_not, beq_iff_eq, beq_eq_false_iff_ne, bne_iff_ne, bne_eq_false_iff_eq, ne_eq, i64_min, i64_max]
        repeat' apply And.intro
        all_goals omega
      · by_cases h13 : (((a.getD i 0).toNat : Nat) : Int) = 13
        · rw [if_neg (tight_f (.inr (.inr h13)))]
          refine ⟨_, _, _, ⟨[], [0, 1, 5, 6, 7, 8], []⟩, _, lpBy_nil, List.nodup_nil, tl3 a b (tightF a) i M.length, ?_⟩
          simp only [allP, and_true, true_and, decide_eq_true_eq, decide_eq_false_iff_not, beq_iff_eq, beq_eq_false_iff_ne, bne_iff_ne, bne_eq_false_iff_eq, ne_eq, i64_min, i64_max]
          repeat' apply And.intro
          all_goals omega
        · obtain ⟨g1, g2⟩ := hat (tight_t h9 h10 h13)
          rw [if_pos (tight_t h9 h10 h13), List.length_append]
          refine ⟨_, _, _, ⟨[], [0, 1, 5, 6, 7, 8], []⟩, _, lpBy_nil, List.nodup_nil, tl4 a b (tightF a) i M.length, ?_⟩
          simp only [allP, and_true, true_and, decide_eq_true_eq, decide_eq_false_iff_not, beq_iff_eq, beq_eq_false_iff_ne, bne_iff_ne, bne_eq_false_iff_eq, ne_eq, i64_min, i64_max, g2]
          repeat' apply And.intro
          all_goals omega
  · obtain rfl : i = a.length := by omega
    refine .inr ⟨by simp, ?_⟩
    simp only
    rw [List.take_length]
    refine ⟨_, _, _, ⟨[], [0, 1, 5, 6, 7, 8], []⟩, _, lpBy_nil, List.nodup_nil, tl5 a b (tightF a) a.length (tightF a).length, ?_⟩
    simp [allP]

noncomputable def tlLp (a b : List UInt8) : List (Nat × Lp) := [(7, ⟨lbody Try.prog 8 7, ⟨[], [0, 1, 5, 6, 7, 8], []⟩, tlS a b (tightF a) 0 0, .exit 0, tlS a b (tightF a) a.length (tightF a).length⟩)]

noncomputable def tlAll (L : List (Nat × Lp)) (h : List (Nat × Hint)) (a b : List UInt8) : Option (AV × List Prop) := lawOut (aBody Try.prog cl5 ⟨true, h⟩ (lpBy L) 60 8 [.c (str a), .c (str b)] [])

theorem tlAll1 (a b : List UInt8) : tlAll [] (bs [(12, true)]) a b = some (.c (.bool true), [((decide ((↑a.length : Int) > (500 : Int)) : Bool)) = (true)]) := by kernel_rfl

theorem tlAll2 (a b : List UInt8) : tlAll [] (bs [(12, false), (16, true)]) a b = some (.c (.bool true), [((decide ((↑a.length : Int) > (500 : Int)) : Bool)) = (false),
 ((decide ((↑b.length : Int) > (500 : Int)) : Bool)) = (true)]) := by kernel_rfl

theorem tlAll3 (a b : List UInt8) : tlAll (tlLp a b) (bs [(12, false), (16, false), (63, true), (74, true), (83, true), (91, true)]) a b = some (.c (.bool true), [((decide ((↑a.length : Int) > (500 : Int)) : Bool)) = (false),
 ((decide ((↑b.length : Int) > (500 : Int)) : Bool)) = (false),
 ((a.length : Nat) ≤ ((1000000 : Nat))),
 ((lbody Try.prog (8 : FuncId) (7 : Nat) : Go.Code)) = (lbody Try.prog (8 : FuncId) (7 : Nat)),
 ((tlS a b (tightF a) (0 : Nat) (0 : Nat) : Go.Proofs.Yteadhhmbhgkojaa.St)) = (tlS a b (tightF a) (0 : Nat) (0 : Nat)),
 (((↑(tightF a).length : Int) == (↑(tightF a).length : Int) : Bool)) = (true),
 ((a.length + b.length : Nat) ≤ ((9223372036854775807 : Nat))),
 (((a ++ b).length : Nat) ≤ ((1000000 : Nat))),
 ((b.length : Nat) ≤ ((1000000 : Nat))),
 (((tightF a).length + (List.filter (fun x => tightI (↑x.toNat : Int)) b).length : Nat) ≤ ((9223372036854775807 : Nat))),
 ((List.filter (fun x => tightI (↑x.toNat : Int)) (a ++ b) == tightF a ++ List.filter (fun x => tightI (↑x.toNat : Int)) b : Bool)) = (true),
 ((a.length : Nat) ≤ ((1000000 : Nat))),
 (((List.filter (fun x => tightI (↑x.toNat : Int)) a).length : Nat) ≤ ((1000000 : Nat))),
 ((a.length : Nat) ≤ ((1000000 : Nat))),
 (((List.map lowB a).length : Nat) ≤ ((1000000 : Nat))),
 ((List.map lowB (List.filter (fun x => tightI (↑x.toNat : Int)) a) ==
  List.filter (fun x => tightI (↑x.toNat : Int)) (List.map lowB a) : Bool)) = (true),
 ((a.length : Nat) ≤ ((1000000 : Nat))),
 (((List.map lowB a).length : Nat) ≤ ((1000000 : Nat))),
 ((a.length : Nat) ≤ ((1000000 : Nat))),
 ((List.map lowB (List.map lowB a) == List.map lowB a : Bool)) = (true)]) := by kernel_rfl

theorem tight_walk (a0 : ByteArray) (a1 : ByteArray) (_ : a0.size ≤ maxLen) (_ : a1.size ≤ maxLen) (w : World) :
    Calls Try.prog 8 #[.string a0, .string a1] w fun e w' => e = .returned (.bool true) ∧ Below w.heap.size w w' := by
  obtain ⟨⟨a⟩⟩ := a0
  obtain ⟨⟨b⟩⟩ := a1
  refine law_conc mixed cl5_ok [str a, str b] ?_
  by_cases h : (500 : Int) < a.length
  · refine ⟨_, _, _, _, lpBy_nil, tlAll1 a b, ?_⟩
    simp only [allP, and_true, true_and, decide_eq_true_eq, decide_eq_false_iff_not]
    omega
  · by_cases h2 : (500 : Int) < b.length
    · refine ⟨_, _, _, _, lpBy_nil, tlAll2 a b, ?_⟩
      simp only [allP, and_true, true_and, decide_eq_true_eq, decide_eq_false_iff_not]
      omega
    · have e1 : (tightF a).length ≤ a.length := List.length_filter_le _ _
      have e2 : (tightF b).length ≤ b.length := List.length_filter_le _ _
      refine ⟨_, _, _, _, lpBy_cons lpBy_nil List.nodup_nil (tl_loop a b (by omega)), tlAll3 a b, ?_⟩
      have f1 := tight_lower a
      have f2 := lower_lower a
      have f3 := tight_app a b
      unfold tightF at *
      simp only [allP, and_true, true_and, decide_eq_true_eq, decide_eq_false_iff_not, beq_iff_eq, f1, f2, f3, List.length_append, List.length_map]
      repeat' apply And.intro
      all_goals first | omega | rfl

end Go.Proofs.Yteadhhmbhgkojaa
