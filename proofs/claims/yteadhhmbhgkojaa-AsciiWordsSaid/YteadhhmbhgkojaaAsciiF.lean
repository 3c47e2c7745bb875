/- Small letters, and texts without ends of lines: the contracts. -/
import Derived.Test.YteadhhmbhgkojaaAsciiE
namespace Go.Proofs.Yteadhhmbhgkojaa
open Go.RowKit
set_option linter.unusedVariables false
set_option linter.unusedSimpArgs false

def bytesSpec (f : List UInt8 → List UInt8) : Spec
  | [.c (.string s)] => some (.c (str (f (sb s))), [(sb s).length ≤ 1000000])
  | _ => none

theorem nd1 (a : Nat) : [a].Nodup := by simp
theorem tight_f {n : Int} (h : n = 9 ∨ n = 10 ∨ n = 13) : ¬ tightI n = true := by
  rcases h with rfl | rfl | rfl <;> decide
theorem tight_t {n : Int} (h1 : ¬ n = 9) (h2 : ¬ n = 10) (h3 : ¬ n = 13) : tightI n = true := by
  simp [tightI, h1, h2, h3]

theorem lowB_large {x : UInt8} (h : largeI x.toNat = true) : ((lowB x).toNat : Int) = x.toNat - 65 + 97 := by
  unfold lowB
  rw [if_pos h]
  unfold largeI at h
  simp only [decide_eq_true_eq] at h
  rw [UInt8.toNat_add]
  simp
  omega

theorem lowB_small {x : UInt8} (h : largeI x.toNat = false) : lowB x = x := by
  unfold lowB
  rw [h]
  rfl

def lowM (l : List UInt8) (i : Nat) : List UInt8 := (l.take i).map lowB ++ l.drop i
theorem drop_cons (l : List UInt8) (i : Nat) (h : i < l.length) : l.drop i = l.getD i 0 :: l.drop (i + 1) := by
  rw [List.drop_eq_getElem_cons h]; simp [List.getD, h]
theorem lowM_len (l : List UInt8) (i : Nat) (h : i ≤ l.length) : (lowM l i).length = l.length := by simp [lowM]; omega
theorem lowM_get (l : List UInt8) (i : Nat) (h : i < l.length) : (lowM l i).getD i 0 = l.getD i 0 := by
  unfold lowM
  rw [drop_cons l i h]
  have h1 : ((l.take i).map lowB).length = i := by simp; omega
  simp only [List.getD]
  rw [List.getElem?_append_right (by omega), h1]
  simp
theorem lowM_succ (l : List UInt8) (i : Nat) (h : i < l.length) : lowM l (i + 1) = (lowM l i).set i (lowB (l.getD i 0)) := by
  unfold lowM
  rw [take_succ_getD l i 0 h, drop_cons l i h]
  have h1 : ((l.take i).map lowB).length = i := by simp; omega
  rw [List.set_append_right _ _ (by omega), h1]
  simp
theorem lowM_same (l : List UInt8) (i : Nat) (h : i < l.length) (hx : largeI (l.getD i 0).toNat = false) : lowM l (i + 1) = lowM l i := by
  rw [lowM_succ l i h, lowB_small hx, ← lowM_get l i h]
  have hl : i < (lowM l i).length := by rw [lowM_len l i (by omega)]; exact h
  simp [List.getD, hl]
theorem lowM_end (l : List UInt8) : lowM l l.length = l.map lowB := by simp [lowM]

theorem lower_loop (l : List UInt8) (hl : l.length ≤ 1000000) : Tri Ext0 Try.prog (.loop (lbody Try.prog 16 3)) (lowS l.length 0 l) (.exit 0) (lowS l.length l.length (l.map lowB)) := by
  refine loop_ok mixed cl3_ok (α := {i : Nat // i ≤ l.length}) (fun x => lowS l.length x.val (lowM l x.val)) (fun x => l.length - x.val) ?_ ⟨0, Nat.zero_le _⟩
  rintro ⟨i, hi⟩
  by_cases hk : i < l.length
  · have hlen := lowM_len l i hi
    have hget := lowM_get l i hk
    refine .inl ⟨⟨i + 1, hk⟩, by simp only; omega, ?_⟩
    simp only
    cases hx : largeI (l.getD i 0).toNat with
    | true =>
      have hy := lowB_large hx
      have hz := (lowB (l.getD i 0)).toNat_lt
      rw [lowM_succ l i hk]
      refine ⟨_, _, _, ⟨[], [3, 8, 9, 10], [0]⟩, _, lpBy_nil, by decide, low1 l.length i (lowM l i) (l.getD i 0) (lowB (l.getD i 0)), ?_⟩
      generalize lowM l i = M at *
      simp only [largeI, decide_eq_true_eq] at hx
      simp only [largeI, allP, and_true, true_and, decide_eq_true_eq, decide_eq_false_iff_not, i64_min, i64_max, u8_min, u8_max, List.length_drop, byts_length, Nat.add_zero, byts_headD M i (by omega), hget]
      repeat' apply And.intro
      all_goals first | omega | exact avEq_refl _ | exact byts_set M i _ (by omega)
    | false =>
      rw [lowM_same l i hk hx]
      refine ⟨_, _, _, ⟨[], [3, 8, 9, 10], [0]⟩, _, lpBy_nil, by decide, low2 l.length i (lowM l i) (l.getD i 0), ?_⟩
      generalize lowM l i = M at *
      simp only [allP, and_true, true_and, decide_eq_true_eq, decide_eq_false_iff_not, i64_min, i64_max, u8_min, u8_max, List.length_drop, byts_length, Nat.add_zero, byts_headD M i (by omega), hget, hx]
      repeat' apply And.intro
      all_goals first | omega | exact avEq_refl _ | exact (u8_lt _).2
  · obtain rfl : i = l.length := by omega
    refine .inr ⟨by simp, ?_⟩
    simp only
    rw [lowM_end]
    refine ⟨_, _, _, ⟨[], [3, 8, 9, 10], [0]⟩, _, lpBy_nil, by decide, low3 l.length l.length (l.map lowB), ?_⟩
    simp [allP]

noncomputable def lowerLp (l : List UInt8) : List (Nat × Lp) := [(3, ⟨lbody Try.prog 16 3, ⟨[], [3, 8, 9, 10], [0]⟩, lowS l.length 0 l, .exit 0, lowS l.length l.length (l.map lowB)⟩)]

noncomputable def lowerAll (l : List UInt8) : Option (AV × List Prop) := outcome Try.prog 16 (aBody Try.prog cl3 ⟨true, [(25, ⟨.c (str (l.map lowB)), none⟩)]⟩ (lpBy (lowerLp l)) 60 16 [.c (str l)] [])

theorem lowerAll_eq (l : List UInt8) : lowerAll l = some (.c (str (l.map lowB)), [((l.length : Nat) ≤ ((140737488355328 : Nat))),
 ((lbody Try.prog (16 : FuncId) (3 : Nat) : Go.Code)) = (lbody Try.prog (16 : FuncId) (3 : Nat)),
 ((lowS l.length (0 : Nat) l : Go.Proofs.Yteadhhmbhgkojaa.St)) = (lowS l.length (0 : Nat) l),
 ((l.length + (0 : Nat) : Nat) ≤ ((byts (List.map lowB l)).length)),
 bytesOK (List.take l.length (List.drop (0 : Nat) (byts (List.map lowB l)))),
 ((unbyts (List.take l.length (List.drop (0 : Nat) (byts (List.map lowB l)))) : List UInt8)) = (List.map lowB l)]) := by kernel_rfl

theorem lower_ok : SpecOK Try.prog 16 (bytesSpec (·.map lowB)) := by
  refine spec_of mixed cl3_ok fun args r q hs hq => ?_
  unfold bytesSpec at hs
  split at hs
  · rename_i s
    simp only [Option.some.injEq, Prod.mk.injEq] at hs
    obtain ⟨rfl, rfl⟩ := hs
    obtain ⟨⟨⟨l⟩⟩, rfl⟩ : ∃ b : ByteArray, b = s := ⟨s, rfl⟩
    have hl : l.length ≤ 1000000 := hq.1
    refine ⟨_, _, _, _, lpBy_cons lpBy_nil (nd1 0) (lower_loop l hl), lowerAll_eq l, ?_⟩
    simp only [allP, and_true, true_and, Nat.add_zero, List.drop_zero, byts_length, List.length_map, byts_take, unbyts_byts]
    repeat' apply And.intro
    all_goals first | omega | exact bytesOK_byts _ | (rw [List.take_of_length_le (by simp)])
  · simp at hs

noncomputable def rlowerLp (l : List UInt8) : List (Nat × Lp) := [(3, ⟨lbody Try.prog 17 3, ⟨[(3, 5)], [0, 3, 4], [0]⟩, rlowS l 0 [], .exit 0, rlowS l l.length ((fun l : List UInt8 => l.map lowB) l)⟩)]

noncomputable def rlowerAll (l : List UInt8) : Option (AV × List Prop) := outcome Try.prog 17 (aBody Try.prog cl3 ⟨true, [(29, ⟨.c (str ((fun l : List UInt8 => l.map lowB) l)), none⟩)]⟩ (lpBy (rlowerLp l)) 60 17 [.c (str l)] [])

theorem rlowerAll_eq (l : List UInt8) : rlowerAll l = some (.c (str ((fun l : List UInt8 => l.map lowB) l)), [((lbody Try.prog (17 : FuncId) (3 : Nat) : Go.Code)) = (lbody Try.prog (17 : FuncId) (3 : Nat)),
 ((rlowS l (0 : Nat) [] : Go.Proofs.Yteadhhmbhgkojaa.St)) = (rlowS l (0 : Nat) []),
 (((List.map lowB l).length + (0 : Nat) : Nat) ≤ ((byts (List.map lowB l)).length)),
 bytesOK (List.take (List.map lowB l).length (List.drop (0 : Nat) (byts (List.map lowB l)))),
 ((unbyts (List.take (List.map lowB l).length (List.drop (0 : Nat) (byts (List.map lowB l)))) : List UInt8)) = (List.map lowB l)]) := by kernel_rfl


noncomputable def tightenLp (l : List UInt8) : List (Nat × Lp) := [(3, ⟨lbody Try.prog 22 3, ⟨[(3, 5)], [0, 3, 4], [0]⟩, tightS l 0 [], .exit 0, tightS l l.length ((fun l : List UInt8 => l.filter fun x => tightI x.toNat) l)⟩)]

noncomputable def tightenAll (l : List UInt8) : Option (AV × List Prop) := outcome Try.prog 22 (aBody Try.prog cl3 ⟨true, [(28, ⟨.c (str ((fun l : List UInt8 => l.filter fun x => tightI x.toNat) l)), none⟩)]⟩ (lpBy (tightenLp l)) 60 22 [.c (str l)] [])

theorem tightenAll_eq (l : List UInt8) : tightenAll l = some (.c (str ((fun l : List UInt8 => l.filter fun x => tightI x.toNat) l)), [(((0 : Int) : Int) ≤ ((0 : Int))),
 (((0 : Int) : Int) ≤ ((↑l.length : Int))),
 (((↑l.length : Int) * (↑(1 : Nat) : Int) : Int) ≤ ((140737488355328 : Int))),
 (((↑l.length : Int) : Int) ≤ ((4611686018427387904 : Int))),
 ((lbody Try.prog (22 : FuncId) (3 : Nat) : Go.Code)) = (lbody Try.prog (22 : FuncId) (3 : Nat)),
 ((tightS l (0 : Nat) [] : Go.Proofs.Yteadhhmbhgkojaa.St)) = (tightS l (0 : Nat) []),
 (((List.filter (fun x => tightI (↑x.toNat : Int)) l).length + (0 : Nat) : Nat) ≤ ((byts (List.filter (fun x => tightI (↑x.toNat : Int)) l)).length)),
 bytesOK (List.take (List.filter (fun x => tightI (↑x.toNat : Int)) l).length
  (List.drop (0 : Nat) (byts (List.filter (fun x => tightI (↑x.toNat : Int)) l)))),
 ((unbyts
  (List.take (List.filter (fun x => tightI (↑x.toNat : Int)) l).length
    (List.drop (0 : Nat) (byts (List.filter (fun x => tightI (↑x.toNat : Int)) l)))) : List UInt8)) = (List.filter (fun x => tightI (↑x.toNat : Int)) l)]) := by kernel_rfl


noncomputable def rtightenLp (l : List UInt8) : List (Nat × Lp) := [(3, ⟨lbody Try.prog 23 3, ⟨[(3, 5)], [0, 3, 4], [0]⟩, rtightS l 0 [], .exit 0, rtightS l l.length ((fun l : List UInt8 => l.filter fun x => tightI x.toNat) l)⟩)]

noncomputable def rtightenAll (l : List UInt8) : Option (AV × List Prop) := outcome Try.prog 23 (aBody Try.prog cl3 ⟨true, [(34, ⟨.c (str ((fun l : List UInt8 => l.filter fun x => tightI x.toNat) l)), none⟩)]⟩ (lpBy (rtightenLp l)) 60 23 [.c (str l)] [])

theorem rtightenAll_eq (l : List UInt8) : rtightenAll l = some (.c (str ((fun l : List UInt8 => l.filter fun x => tightI x.toNat) l)), [((lbody Try.prog (23 : FuncId) (3 : Nat) : Go.Code)) = (lbody Try.prog (23 : FuncId) (3 : Nat)),
 ((rtightS l (0 : Nat) [] : Go.Proofs.Yteadhhmbhgkojaa.St)) = (rtightS l (0 : Nat) []),
 (((List.filter (fun x => tightI (↑x.toNat : Int)) l).length + (0 : Nat) : Nat) ≤ ((byts (List.filter (fun x => tightI (↑x.toNat : Int)) l)).length)),
 bytesOK (List.take (List.filter (fun x => tightI (↑x.toNat : Int)) l).length
  (List.drop (0 : Nat) (byts (List.filter (fun x => tightI (↑x.toNat : Int)) l)))),
 ((unbyts
  (List.take (List.filter (fun x => tightI (↑x.toNat : Int)) l).length
    (List.drop (0 : Nat) (byts (List.filter (fun x => tightI (↑x.toNat : Int)) l)))) : List UInt8)) = (List.filter (fun x => tightI (↑x.toNat : Int)) l)]) := by kernel_rfl

theorem rlower_loop (l : List UInt8) (hl : l.length ≤ 1000000) : Tri Ext0 Try.prog (.loop (lbody Try.prog 17 3)) (rlowS l 0 []) (.exit 0) (rlowS l l.length (l.map lowB)) := by
  refine loop_ok mixed cl3_ok (α := {i : Nat // i ≤ l.length}) (fun x => rlowS l x.val ((l.take x.val).map lowB)) (fun x => l.length - x.val) ?_ ⟨0, Nat.zero_le _⟩
  rintro ⟨i, hi⟩
  by_cases hk : i < l.length
  · have hlen : ((l.take i).map lowB).length = i := by simp; omega
    have hnext : (l.take (i + 1)).map lowB = (l.take i).map lowB ++ [lowB (l.getD i 0)] := by rw [take_succ_getD l i 0 hk]; simp
    refine .inl ⟨⟨i + 1, hk⟩, by simp only; omega, ?_⟩
    simp only
    rw [hnext]
    generalize (l.take i).map lowB = M at *
    have hb := u8_lt (l.getD i 0)
    cases hx : largeI (l.getD i 0).toNat with
    | true =>
      have hy := lowB_large hx
      have hz := (lowB (l.getD i 0)).toNat_lt
      refine ⟨_, _, _, ⟨[], [0, 3, 4], [2]⟩, _, lpBy_nil, by decide, rlow1 l i M (lowB (l.getD i 0)), ?_⟩
      simp only [largeI, decide_eq_true_eq] at hx
      generalize lowB (l.getD i 0) = y at *
      generalize l.getD i 0 = x at *
      simp only [allP, and_true, true_and, decide_eq_true_eq, decide_eq_false_iff_not, i64_min, i64_max, u8_min, u8_max, byts_length, Nat.add_zero, List.take_zero, List.drop_zero, List.nil_append, List.length_append, List.length_cons, List.length_nil, List.length_drop, List.length_replicate]
      repeat' apply And.intro
      all_goals first | omega | exact avEq_refl _ | exact byts_snoc M _
    | false =>
      rw [lowB_small hx]
      simp only [largeI, decide_eq_false_iff_not] at hx
      by_cases h65 : (65 : Int) ≤ (l.getD i 0).toNat
      · refine ⟨_, _, _, ⟨[], [0, 3, 4], [2]⟩, _, lpBy_nil, by decide, rlow2 l i M (l.getD i 0), ?_⟩
        simp only [allP, and_true, true_and, decide_eq_true_eq, decide_eq_false_iff_not, i64_min, i64_max, u8_min, u8_max, byts_length, Nat.add_zero, List.take_zero, List.drop_zero, List.nil_append, List.length_append, List.length_cons, List.length_nil, List.length_drop, List.length_replicate]
        repeat' apply And.intro
        all_goals first | omega | exact avEq_refl _ | exact byts_snoc M _
      · refine ⟨_, _, _, ⟨[], [0, 3, 4], [2]⟩, _, lpBy_nil, by decide, rlow3 l i M (l.getD i 0), ?_⟩
        simp only [allP, and_true, true_and, decide_eq_true_eq, decide_eq_false_iff_not, i64_min, i64_max, u8_min, u8_max, byts_length, Nat.add_zero, List.take_zero, List.drop_zero, List.nil_append, List.length_append, List.length_cons, List.length_nil, List.length_drop, List.length_replicate]
        repeat' apply And.intro
        all_goals first | omega | exact avEq_refl _ | exact byts_snoc M _
  · obtain rfl : i = l.length := by omega
    refine .inr ⟨by simp, ?_⟩
    simp only
    rw [List.take_length]
    refine ⟨_, _, _, ⟨[], [0, 3, 4], [0]⟩, _, lpBy_nil, by decide, rlow4 l l.length (l.map lowB), ?_⟩
    simp [allP]

theorem filter_next (q : UInt8 → Bool) (l : List UInt8) (i : Nat) (h : i < l.length) : (l.take (i + 1)).filter q = if q (l.getD i 0) then (l.take i).filter q ++ [l.getD i 0] else (l.take i).filter q := by
  rw [take_succ_getD l i 0 h, List.filter_append]
  generalize l.getD i 0 = x
  split
  · rename_i hq; simp [hq]
  · rename_i hq; simp [hq]

theorem tighten_loop (l : List UInt8) (hl : l.length ≤ 1000000) : Tri Ext0 Try.prog (.loop (lbody Try.prog 22 3)) (tightS l 0 []) (.exit 0) (tightS l l.length (l.filter fun x => tightI x.toNat)) := by
  refine loop_ok mixed cl3_ok (α := {i : Nat // i ≤ l.length}) (fun x => tightS l x.val ((l.take x.val).filter fun x => tightI x.toNat)) (fun x => l.length - x.val) ?_ ⟨0, Nat.zero_le _⟩
  rintro ⟨i, hi⟩
  by_cases hk : i < l.length
  · have hlen : ((l.take i).filter fun x => tightI x.toNat).length ≤ i := Nat.le_trans (List.length_filter_le _ _) (by simp; omega)
    have hnext := filter_next (fun x => tightI x.toNat) l i hk
    refine .inl ⟨⟨i + 1, hk⟩, by simp only; omega, ?_⟩
    simp only
    rw [hnext]
    generalize (l.take i).filter (fun x => tightI x.toNat) = M at *
    by_cases h9 : (((l.getD i 0).toNat : Nat) : Int) = 9
    · rw [if_neg (tight_f (.inl h9))]
      refine ⟨_, _, _, ⟨[], [0, 3, 4], [0]⟩, _, lpBy_nil, by decide, tight1 l i M, ?_⟩
      simp only [allP, and_true, true_and, decide_eq_true_eq, decide_eq_false_iff_not, beq_iff_eq, beq_eq_false_iff_ne, bne_iff_ne, bne_eq_false_iff_eq, ne_eq, i64_min, i64_max]
      repeat' apply And.intro
      all_goals omega
    · by_cases h10 : (((l.getD i 0).toNat : Nat) : Int) = 10
      · rw [if_neg (tight_f (.inr (.inl h10)))]
        refine ⟨_, _, _, ⟨[], [0, 3, 4], [0]⟩, _, lpBy_nil, by decide, tight2 l i M, ?_⟩
        simp only [allP, and_true, true_and, decide_eq_true_eq, decide_eq_false_iff_not, beq_iff_eq, beq_eq_false_iff_ne, bne_iff_ne, bne_eq_false_iff_eq, ne_eq, i64_min, i64_max]
        repeat' apply And.intro
        all_goals omega
      · by_cases h13 : (((l.getD i 0).toNat : Nat) : Int) = 13
        · rw [if_neg (tight_f (.inr (.inr h13)))]
          refine ⟨_, _, _, ⟨[], [0, 3, 4], [0]⟩, _, lpBy_nil, by decide, tight3 l i M, ?_⟩
          simp only [allP, and_true, true_and, decide_eq_true_eq, decide_eq_false_iff_not, beq_iff_eq, beq_eq_false_iff_ne, bne_iff_ne, bne_eq_false_iff_eq, ne_eq, i64_min, i64_max]
          repeat' apply And.intro
          all_goals omega
        · rw [if_pos (tight_t h9 h10 h13)]
          refine ⟨_, _, _, ⟨[], [0, 3, 4], [2]⟩, _, lpBy_nil, by decide, tight4 l i M (l.getD i 0), ?_⟩
          simp only [allP, and_true, true_and, decide_eq_true_eq, decide_eq_false_iff_not, beq_iff_eq, beq_eq_false_iff_ne, bne_iff_ne, bne_eq_false_iff_eq, ne_eq, i64_min, i64_max, byts_length, Nat.add_zero, List.take_zero, List.drop_zero, List.nil_append, List.length_append, List.length_cons, List.length_nil, List.length_drop, List.length_replicate]
          repeat' apply And.intro
          all_goals first | omega | exact avEq_refl _ | exact byts_snoc M _
  · obtain rfl : i = l.length := by omega
    refine .inr ⟨by simp, ?_⟩
    simp only
    rw [List.take_length]
    refine ⟨_, _, _, ⟨[], [0, 3, 4], [0]⟩, _, lpBy_nil, by decide, tight5 l l.length (l.filter fun x => tightI x.toNat), ?_⟩
    simp [allP]


theorem rtighten_loop (l : List UInt8) (hl : l.length ≤ 1000000) : Tri Ext0 Try.prog (.loop (lbody Try.prog 23 3)) (rtightS l 0 []) (.exit 0) (rtightS l l.length (l.filter fun x => tightI x.toNat)) := by
  refine loop_ok mixed cl3_ok (α := {i : Nat // i ≤ l.length}) (fun x => rtightS l x.val ((l.take x.val).filter fun x => tightI x.toNat)) (fun x => l.length - x.val) ?_ ⟨0, Nat.zero_le _⟩
  rintro ⟨i, hi⟩
  by_cases hk : i < l.length
  · have hlen : ((l.take i).filter fun x => tightI x.toNat).length ≤ i := Nat.le_trans (List.length_filter_le _ _) (by simp; omega)
    have hnext := filter_next (fun x => tightI x.toNat) l i hk
    refine .inl ⟨⟨i + 1, hk⟩, by simp only; omega, ?_⟩
    simp only
    rw [hnext]
    generalize (l.take i).filter (fun x => tightI x.toNat) = M at *
    by_cases h9 : (((l.getD i 0).toNat : Nat) : Int) = 9
    · rw [if_neg (tight_f (.inl h9))]
      refine ⟨_, _, _, ⟨[], [0, 3, 4], [0]⟩, _, lpBy_nil, by decide, rtight1 l i M, ?_⟩
      simp only [allP, and_true, true_and, decide_eq_true_eq, decide_eq_false_iff_not, beq_iff_eq, beq_eq_false_iff_ne, bne_iff_ne, bne_eq_false_iff_eq, ne_eq, i64_min, i64_max]
      repeat' apply And.intro
      all_goals omega
    · by_cases h10 : (((l.getD i 0).toNat : Nat) : Int) = 10
      · rw [if_neg (tight_f (.inr (.inl h10)))]
        refine ⟨_, _, _, ⟨[], [0, 3, 4], [0]⟩, _, lpBy_nil, by decide, rtight2 l i M, ?_⟩
        simp only [allP, and_true, true_and, decide_eq_true_eq, decide_eq_false_iff_not, beq_iff_eq, beq_eq_false_iff_ne, bne_iff_ne, bne_eq_false_iff_eq, ne_eq, i64_min, i64_max]
        repeat' apply And.intro
        all_goals omega
      · by_cases h13 : (((l.getD i 0).toNat : Nat) : Int) = 13
        · rw [if_neg (tight_f (.inr (.inr h13)))]
          refine ⟨_, _, _, ⟨[], [0, 3, 4], [0]⟩, _, lpBy_nil, by decide, rtight3 l i M, ?_⟩
          simp only [allP, and_true, true_and, decide_eq_true_eq, decide_eq_false_iff_not, beq_iff_eq, beq_eq_false_iff_ne, bne_iff_ne, bne_eq_false_iff_eq, ne_eq, i64_min, i64_max]
          repeat' apply And.intro
          all_goals omega
        · rw [if_pos (tight_t h9 h10 h13)]
          refine ⟨_, _, _, ⟨[], [0, 3, 4], [2]⟩, _, lpBy_nil, by decide, rtight4 l i M (l.getD i 0), ?_⟩
          simp only [allP, and_true, true_and, decide_eq_true_eq, decide_eq_false_iff_not, beq_iff_eq, beq_eq_false_iff_ne, bne_iff_ne, bne_eq_false_iff_eq, ne_eq, i64_min, i64_max, byts_length, Nat.add_zero, List.take_zero, List.drop_zero, List.nil_append, List.length_append, List.length_cons, List.length_nil, List.length_drop, List.length_replicate]
          repeat' apply And.intro
          all_goals first | omega | exact avEq_refl _ | exact byts_snoc M _
  · obtain rfl : i = l.length := by omega
    refine .inr ⟨by simp, ?_⟩
    simp only
    rw [List.take_length]
    refine ⟨_, _, _, ⟨[], [0, 3, 4], [0]⟩, _, lpBy_nil, by decide, rtight5 l l.length (l.filter fun x => tightI x.toNat), ?_⟩
    simp [allP]

theorem rlower_ok : SpecOK Try.prog 17 (bytesSpec (fun l : List UInt8 => l.map lowB)) := by
  refine spec_of mixed cl3_ok fun args r q hs hq => ?_
  unfold bytesSpec at hs
  split at hs
  · rename_i s
    simp only [Option.some.injEq, Prod.mk.injEq] at hs
    obtain ⟨rfl, rfl⟩ := hs
    obtain ⟨⟨⟨l⟩⟩, rfl⟩ : ∃ b : ByteArray, b = s := ⟨s, rfl⟩
    have hl : l.length ≤ 1000000 := hq.1
    refine ⟨_, _, _, _, lpBy_cons lpBy_nil (nd1 0) (rlower_loop l hl), rlowerAll_eq l, ?_⟩
    simp only [allP, and_true, true_and, Nat.add_zero, List.drop_zero, byts_length, byts_take, unbyts_byts, List.take_length]
    repeat' apply And.intro
    all_goals first | omega | exact bytesOK_byts _ | rfl
  · simp at hs


theorem tighten_ok : SpecOK Try.prog 22 (bytesSpec (fun l : List UInt8 => l.filter fun x => tightI x.toNat)) := by
  refine spec_of mixed cl3_ok fun args r q hs hq => ?_
  unfold bytesSpec at hs
  split at hs
  · rename_i s
    simp only [Option.some.injEq, Prod.mk.injEq] at hs
    obtain ⟨rfl, rfl⟩ := hs
    obtain ⟨⟨⟨l⟩⟩, rfl⟩ : ∃ b : ByteArray, b = s := ⟨s, rfl⟩
    have hl : l.length ≤ 1000000 := hq.1
    refine ⟨_, _, _, _, lpBy_cons lpBy_nil (nd1 0) (tighten_loop l hl), tightenAll_eq l, ?_⟩
    simp only [allP, and_true, true_and, Nat.add_zero, List.drop_zero, byts_length, byts_take, unbyts_byts, List.take_length]
    repeat' apply And.intro
    all_goals first | omega | exact bytesOK_byts _ | rfl
  · simp at hs


theorem rtighten_ok : SpecOK Try.prog 23 (bytesSpec (fun l : List UInt8 => l.filter fun x => tightI x.toNat)) := by
  refine spec_of mixed cl3_ok fun args r q hs hq => ?_
  unfold bytesSpec at hs
  split at hs
  · rename_i s
    simp only [Option.some.injEq, Prod.mk.injEq] at hs
    obtain ⟨rfl, rfl⟩ := hs
    obtain ⟨⟨⟨l⟩⟩, rfl⟩ : ∃ b : ByteArray, b = s := ⟨s, rfl⟩
    have hl : l.length ≤ 1000000 := hq.1
    refine ⟨_, _, _, _, lpBy_cons lpBy_nil (nd1 0) (rtighten_loop l hl), rtightenAll_eq l, ?_⟩
    simp only [allP, and_true, true_and, Nat.add_zero, List.drop_zero, byts_length, byts_take, unbyts_byts, List.take_length]
    repeat' apply And.intro
    all_goals first | omega | exact bytesOK_byts _ | rfl
  · simp at hs

end Go.Proofs.Yteadhhmbhgkojaa
