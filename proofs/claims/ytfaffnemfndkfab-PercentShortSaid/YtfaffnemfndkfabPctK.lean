/- The law of what is shorter. -/
import Derived.Test.YtfaffnemfndkfabPctE
namespace Go.Proofs.Ytfaffnemfndkfab
open Go.RowKit
set_option linter.unusedVariables false
set_option linter.unusedSimpArgs false

noncomputable def clK : CallT := aCall Try.prog (sgBy [(4, smallSpec), (5, digitSpec), (6, decSpec)]) 500 8
theorem clK_ok : CallOK Try.prog clK := aCall_ok mixed (sgBy_cons small_ok (sgBy_cons digit_ok (sgBy_cons dec_ok sgBy_nil))) 500 8

def shS (l : List UInt8) (c : UInt8) (n i : Nat) : St := ⟨frame 73 [(0, .c (str l)), (1, .c (.int .u8 (c.toNat : Nat))), (5, .c (.bool true)), (6, .c (.int .i64 n)), (7, .c (.int .i64 i))], []⟩

theorem shr_1 (l : List UInt8) (c : UInt8) (n i : Nat) : roundOut (⟨[], [0, 1, 5, 6, 7], []⟩) (aCode Try.prog clK ⟨true, bs [(19, true), (25, true), (32, true), (40, true)] ++ ([])⟩ (lpBy ([])) 60 (lbody Try.prog 3 6) (shS l c n i)) = some (.normal, shS l c (n + 1) (i + 3), [((IntKind.i64.min : Int) ≤ ((↑i : Int) + (2 : Int))),
 (((↑i : Int) + (2 : Int) : Int) ≤ (IntKind.i64.max)),
 ((decide ((↑i : Int) + (2 : Int) < (↑l.length : Int)) : Bool)) = (true),
 (((0 : Int) : Int) ≤ ((↑i : Int))),
 (((↑i : Int) : Int) < ((↑l.length : Int))),
 (((↑(l.getD i (0 : UInt8)).toNat : Int) == (37 : Int) : Bool)) = (true),
 ((IntKind.i64.min : Int) ≤ ((↑i : Int) + (1 : Int))),
 (((↑i : Int) + (1 : Int) : Int) ≤ (IntKind.i64.max)),
 (((0 : Int) : Int) ≤ ((↑i : Int) + (1 : Int))),
 (((↑i : Int) + (1 : Int) : Int) < ((↑l.length : Int))),
 (((0 : Int) : Int) ≤ ((↑(l.getD ((↑i : Int) + (1 : Int)).toNat (0 : UInt8)).toNat : Int))),
 (((↑(l.getD ((↑i : Int) + (1 : Int)).toNat (0 : UInt8)).toNat : Int) : Int) < ((256 : Int))),
 ((decide (digitI (↑(l.getD ((↑i : Int) + (1 : Int)).toNat (0 : UInt8)).toNat : Int) (16 : Int) ≥ (0 : Int)) : Bool)) = (true),
 ((IntKind.i64.min : Int) ≤ ((↑i : Int) + (2 : Int))),
 (((↑i : Int) + (2 : Int) : Int) ≤ (IntKind.i64.max)),
 (((0 : Int) : Int) ≤ ((↑i : Int) + (2 : Int))),
 (((↑i : Int) + (2 : Int) : Int) < ((↑l.length : Int))),
 (((0 : Int) : Int) ≤ ((↑(l.getD ((↑i : Int) + (2 : Int)).toNat (0 : UInt8)).toNat : Int))),
 (((↑(l.getD ((↑i : Int) + (2 : Int)).toNat (0 : UInt8)).toNat : Int) : Int) < ((256 : Int))),
 ((decide (digitI (↑(l.getD ((↑i : Int) + (2 : Int)).toNat (0 : UInt8)).toNat : Int) (16 : Int) ≥ (0 : Int)) : Bool)) = (true),
 ((IntKind.i64.min : Int) ≤ ((↑n : Int) + (1 : Int))),
 (((↑n : Int) + (1 : Int) : Int) ≤ (IntKind.i64.max)),
 ((IntKind.i64.min : Int) ≤ ((↑i : Int) + (2 : Int))),
 (((↑i : Int) + (2 : Int) : Int) ≤ (IntKind.i64.max)),
 ((IntKind.i64.min : Int) ≤ ((↑i : Int) + (2 : Int) + (1 : Int))),
 (((↑i : Int) + (2 : Int) + (1 : Int) : Int) ≤ (IntKind.i64.max))]) := by kernel_rfl

theorem shr_2 (l : List UInt8) (c : UInt8) (n i : Nat) : roundOut (⟨[], [0, 1, 5, 6, 7], []⟩) (aCode Try.prog clK ⟨true, bs [(19, true), (25, true), (32, true), (40, false)] ++ ([])⟩ (lpBy ([])) 60 (lbody Try.prog 3 6) (shS l c n i)) = some (.normal, shS l c n (i + 1), [((IntKind.i64.min : Int) ≤ ((↑i : Int) + (2 : Int))),
 (((↑i : Int) + (2 : Int) : Int) ≤ (IntKind.i64.max)),
 ((decide ((↑i : Int) + (2 : Int) < (↑l.length : Int)) : Bool)) = (true),
 (((0 : Int) : Int) ≤ ((↑i : Int))),
 (((↑i : Int) : Int) < ((↑l.length : Int))),
 (((↑(l.getD i (0 : UInt8)).toNat : Int) == (37 : Int) : Bool)) = (true),
 ((IntKind.i64.min : Int) ≤ ((↑i : Int) + (1 : Int))),
 (((↑i : Int) + (1 : Int) : Int) ≤ (IntKind.i64.max)),
 (((0 : Int) : Int) ≤ ((↑i : Int) + (1 : Int))),
 (((↑i : Int) + (1 : Int) : Int) < ((↑l.length : Int))),
 (((0 : Int) : Int) ≤ ((↑(l.getD ((↑i : Int) + (1 : Int)).toNat (0 : UInt8)).toNat : Int))),
 (((↑(l.getD ((↑i : Int) + (1 : Int)).toNat (0 : UInt8)).toNat : Int) : Int) < ((256 : Int))),
 ((decide (digitI (↑(l.getD ((↑i : Int) + (1 : Int)).toNat (0 : UInt8)).toNat : Int) (16 : Int) ≥ (0 : Int)) : Bool)) = (true),
 ((IntKind.i64.min : Int) ≤ ((↑i : Int) + (2 : Int))),
 (((↑i : Int) + (2 : Int) : Int) ≤ (IntKind.i64.max)),
 (((0 : Int) : Int) ≤ ((↑i : Int) + (2 : Int))),
 (((↑i : Int) + (2 : Int) : Int) < ((↑l.length : Int))),
 (((0 : Int) : Int) ≤ ((↑(l.getD ((↑i : Int) + (2 : Int)).toNat (0 : UInt8)).toNat : Int))),
 (((↑(l.getD ((↑i : Int) + (2 : Int)).toNat (0 : UInt8)).toNat : Int) : Int) < ((256 : Int))),
 ((decide (digitI (↑(l.getD ((↑i : Int) + (2 : Int)).toNat (0 : UInt8)).toNat : Int) (16 : Int) ≥ (0 : Int)) : Bool)) = (false),
 ((IntKind.i64.min : Int) ≤ ((↑i : Int) + (1 : Int))),
 (((↑i : Int) + (1 : Int) : Int) ≤ (IntKind.i64.max))]) := by kernel_rfl

theorem shr_3 (l : List UInt8) (c : UInt8) (n i : Nat) : roundOut (⟨[], [0, 1, 5, 6, 7], []⟩) (aCode Try.prog clK ⟨true, bs [(19, true), (25, true), (32, false)] ++ ([])⟩ (lpBy ([])) 60 (lbody Try.prog 3 6) (shS l c n i)) = some (.normal, shS l c n (i + 1), [((IntKind.i64.min : Int) ≤ ((↑i : Int) + (2 : Int))),
 (((↑i : Int) + (2 : Int) : Int) ≤ (IntKind.i64.max)),
 ((decide ((↑i : Int) + (2 : Int) < (↑l.length : Int)) : Bool)) = (true),
 (((0 : Int) : Int) ≤ ((↑i : Int))),
 (((↑i : Int) : Int) < ((↑l.length : Int))),
 (((↑(l.getD i (0 : UInt8)).toNat : Int) == (37 : Int) : Bool)) = (true),
 ((IntKind.i64.min : Int) ≤ ((↑i : Int) + (1 : Int))),
 (((↑i : Int) + (1 : Int) : Int) ≤ (IntKind.i64.max)),
 (((0 : Int) : Int) ≤ ((↑i : Int) + (1 : Int))),
 (((↑i : Int) + (1 : Int) : Int) < ((↑l.length : Int))),
 (((0 : Int) : Int) ≤ ((↑(l.getD ((↑i : Int) + (1 : Int)).toNat (0 : UInt8)).toNat : Int))),
 (((↑(l.getD ((↑i : Int) + (1 : Int)).toNat (0 : UInt8)).toNat : Int) : Int) < ((256 : Int))),
 ((decide (digitI (↑(l.getD ((↑i : Int) + (1 : Int)).toNat (0 : UInt8)).toNat : Int) (16 : Int) ≥ (0 : Int)) : Bool)) = (false),
 ((IntKind.i64.min : Int) ≤ ((↑i : Int) + (1 : Int))),
 (((↑i : Int) + (1 : Int) : Int) ≤ (IntKind.i64.max))]) := by kernel_rfl

theorem shr_4 (l : List UInt8) (c : UInt8) (n i : Nat) : roundOut (⟨[], [0, 1, 5, 6, 7], []⟩) (aCode Try.prog clK ⟨true, bs [(19, true), (25, false)] ++ ([])⟩ (lpBy ([])) 60 (lbody Try.prog 3 6) (shS l c n i)) = some (.normal, shS l c n (i + 1), [((IntKind.i64.min : Int) ≤ ((↑i : Int) + (2 : Int))),
 (((↑i : Int) + (2 : Int) : Int) ≤ (IntKind.i64.max)),
 ((decide ((↑i : Int) + (2 : Int) < (↑l.length : Int)) : Bool)) = (true),
 (((0 : Int) : Int) ≤ ((↑i : Int))),
 (((↑i : Int) : Int) < ((↑l.length : Int))),
 (((↑(l.getD i (0 : UInt8)).toNat : Int) == (37 : Int) : Bool)) = (false),
 ((IntKind.i64.min : Int) ≤ ((↑i : Int) + (1 : Int))),
 (((↑i : Int) + (1 : Int) : Int) ≤ (IntKind.i64.max))]) := by kernel_rfl

theorem shr_5 (l : List UInt8) (c : UInt8) (n i : Nat) : roundOut (⟨[], [0, 1, 5, 6, 7], []⟩) (aCode Try.prog clK ⟨true, bs [(19, false)] ++ ([])⟩ (lpBy ([])) 60 (lbody Try.prog 3 6) (shS l c n i)) = some (.exit 0, shS l c n i, [((IntKind.i64.min : Int) ≤ ((↑i : Int) + (2 : Int))),
 (((↑i : Int) + (2 : Int) : Int) ≤ (IntKind.i64.max)),
 ((decide ((↑i : Int) + (2 : Int) < (↑l.length : Int)) : Bool)) = (false)]) := by kernel_rfl

def ShInv (l : List UInt8) (x : Nat × Nat) : Prop := x.2 ≤ l.length ∧ (unescF l).length + 2 * x.1 + (l.length - x.2) = l.length + (unescF (l.drop x.2)).length

theorem unesc_short : ∀ l : List UInt8, l.length ≤ 2 → unescF l = l
  | [], _ => rfl
  | [a], _ => by rw [unesc_not (by rw [← Bool.not_eq_true, told_if]; simp)]; rfl
  | [a, b], _ => by rw [unesc_not (by rw [← Bool.not_eq_true, told_if]; simp), unesc_not (by rw [← Bool.not_eq_true, told_if]; simp)]; rfl
  | _ :: _ :: _ :: _, h => by simp at h

/-- How far the count comes: how many, and where. -/
def shGo (l : List UInt8) : Nat → Nat → Nat → Nat × Nat
  | 0, n, i => (n, i)
  | f + 1, n, i => if i + 2 < l.length then (if toldB (l.drop i) then shGo l f (n + 1) (i + 3) else shGo l f n (i + 1)) else (n, i)
def shF (l : List UInt8) : Nat × Nat := shGo l l.length 0 0

theorem sh_told {l : List UInt8} {n i : Nat} (h : ShInv l (n, i)) (hi : i < l.length) (ht : toldB (l.drop i) = true) : ShInv l (n + 1, i + 3) := by
  obtain ⟨h1, h2⟩ := h
  have hl := told_len ht
  rw [List.length_drop] at hl
  have e := unesc_at l i hi
  rw [if_pos ht] at e
  simp only at h1 h2
  rw [e, List.length_cons] at h2
  exact ⟨by simp only; omega, by simp only; omega⟩
theorem sh_not {l : List UInt8} {n i : Nat} (h : ShInv l (n, i)) (hi : i < l.length) (ht : toldB (l.drop i) = false) : ShInv l (n, i + 1) := by
  obtain ⟨h1, h2⟩ := h
  have e := unesc_at l i hi
  rw [if_neg (by simp [ht])] at e
  simp only at h1 h2
  rw [e, List.length_cons] at h2
  exact ⟨by simp only; omega, by simp only; omega⟩

theorem shGo_inv (l : List UInt8) : ∀ f n i, l.length ≤ i + f → ShInv l (n, i) → ShInv l (shGo l f n i) ∧ ¬ (shGo l f n i).2 + 2 < l.length
  | 0, n, i, hf, h => ⟨h, by unfold shGo; simp only; omega⟩
  | f + 1, n, i, hf, h => by
    unfold shGo
    split
    · split
      · rename_i h1 h2
        exact shGo_inv l f (n + 1) (i + 3) (by omega) (sh_told h (by omega) h2)
      · rename_i h1 h2
        exact shGo_inv l f n (i + 1) (by omega) (sh_not h (by omega) (by simpa using h2))
    · rename_i h1
      exact ⟨h, h1⟩

theorem sh0 (l : List UInt8) : ShInv l (0, 0) := ⟨Nat.zero_le _, by simp only [List.drop_zero]; omega⟩

theorem shF_len (l : List UInt8) : l.length = (unescF l).length + 2 * (shF l).1 := by
  obtain ⟨⟨h1, h2⟩, h3⟩ := shGo_inv l l.length 0 0 (by omega) (sh0 l)
  have e := unesc_short (l.drop (shF l).2) (by rw [List.length_drop]; unfold shF; omega)
  unfold shF at e ⊢
  rw [e, List.length_drop] at h2
  omega

theorem shr_loop (l : List UInt8) (c : UInt8) (hl : l.length ≤ 1000000) : Tri Ext0 Try.prog (.loop (lbody Try.prog 3 6)) (shS l c 0 0) (.exit 0) (shS l c (shF l).1 (shF l).2) := by
  refine loop_inv mixed clK_ok (fun x : Nat × Nat × Nat => shS l c x.2.1 x.2.2) (fun x => l.length ≤ x.2.2 + x.1 ∧ ShInv l x.2 ∧ shGo l x.1 x.2.1 x.2.2 = shF l) (fun x => x.1) ?_ (l.length, 0, 0) ⟨by simp only; omega, sh0 l, rfl⟩
  rintro ⟨f, n, i⟩ ⟨hf, hinv, hgo⟩
  have hb := hinv.2
  have hb1 := hinv.1
  have hu := unesc_len l
  have hu2 := unesc_len (l.drop i)
  rw [List.length_drop] at hu2
  simp only at hf hgo hb hb1 ⊢
  by_cases hi : i + 2 < l.length
  · obtain ⟨f', rfl⟩ : ∃ f', f = f' + 1 := ⟨f - 1, by omega⟩
    unfold shGo at hgo
    rw [if_pos hi] at hgo
    have hd := fun j => drop_getB l i j
    have g1 := (l.getD (i + 1) 0).toNat_lt
    have g2 := (l.getD (i + 2) 0).toNat_lt
    have t1 : ((i : Int) + 1).toNat = i + 1 := by omega
    have t2 : ((i : Int) + 2).toNat = i + 2 := by omega
    cases ht : toldB (l.drop i) with
    | true =>
      rw [if_pos ht] at hgo
      refine .inl ⟨(f', n + 1, i + 3), ⟨by simp only; omega, sh_told hinv (by omega) ht, hgo⟩, by simp only; omega, ?_⟩
      refine ⟨_, _, _, _, _, lpBy_nil, by decide, shr_1 l c n i, ?_⟩
      obtain ⟨f1, f2, f3, f4⟩ := told_if.1 ht
      rw [hd] at f2 f3 f4
      have f2' := (u8_37 _).1 f2
      rw [Nat.add_zero] at f2'
      unfold dg at f3 f4
      simp only [allP, t1, t2, f2', and_true, true_and, decide_eq_true_eq, beq_self_eq_true, i64_min, i64_max]
      repeat' apply And.intro
      all_goals omega
    | false =>
      rw [if_neg (by simp [ht])] at hgo
      refine .inl ⟨(f', n, i + 1), ⟨by simp only; omega, sh_not hinv (by omega) ht, hgo⟩, by simp only; omega, ?_⟩
      simp only
      rw [← Bool.not_eq_true, told_if, hd, hd, hd, u8_37, List.length_drop, Nat.add_zero] at ht
      unfold dg at ht
      by_cases c1 : ((l.getD i 0).toNat : Int) = 37
      · by_cases c3 : digitI ((l.getD (i + 1) 0).toNat : Nat) 16 ≥ 0
        · have c4 : ¬ digitI ((l.getD (i + 2) 0).toNat : Nat) 16 ≥ 0 := fun c4 => ht ⟨by omega, c1, c3, c4⟩
          refine ⟨_, _, _, _, _, lpBy_nil, by decide, shr_2 l c n i, ?_⟩
          simp only [allP, t1, t2, c1, c3, c4, and_true, true_and, decide_eq_true_eq, decide_eq_false_iff_not, beq_self_eq_true, i64_min, i64_max, decide_true, decide_false, not_false_eq_true]
          omega
        · refine ⟨_, _, _, _, _, lpBy_nil, by decide, shr_3 l c n i, ?_⟩
          simp only [allP, t1, c1, c3, and_true, true_and, decide_eq_true_eq, decide_eq_false_iff_not, beq_self_eq_true, i64_min, i64_max, decide_true, decide_false, not_false_eq_true]
          omega
      · refine ⟨_, _, _, _, _, lpBy_nil, by decide, shr_4 l c n i, ?_⟩
        simp only [allP, c1, and_true, true_and, decide_eq_true_eq, decide_eq_false_iff_not, beq_eq_false_iff_ne, ne_eq, not_false_eq_true, i64_min, i64_max]
        omega
  · have e : (n, i) = shF l := by
      rw [← hgo]
      cases f with
      | zero => rfl
      | succ f => unfold shGo; rw [if_neg hi]
    refine .inr ⟨by simp, ?_⟩
    rw [← e]
    refine ⟨_, _, _, _, _, lpBy_nil, by decide, shr_5 l c n i, ?_⟩
    simp only [allP, and_true, decide_eq_false_iff_not, i64_min, i64_max]
    omega

def shFi : Fi := ⟨[], [0, 1, 5, 6, 7], []⟩
noncomputable def shLp (l : List UInt8) (c : UInt8) : List (Nat × Lp) := [(6, ⟨lbody Try.prog 3 6, shFi, shS l c 0 0, .exit 0, shS l c (shF l).1 (shF l).2⟩)]

theorem short_1 (l : List UInt8) (c : UInt8) : lawOut (aBody Try.prog clK ⟨true, bs [(13, true)] ++ ([(50, ⟨.c (str [c]), none⟩), (51, ⟨.c (str [37, c]), none⟩), (66, ⟨.c (str [37, c]), none⟩), (69, ⟨.c (str [c]), none⟩), (70, ⟨.c (str [37, c]), none⟩)] ++ bs [(62, true), (71, true)])⟩ (lpBy (shLp l c)) 60 3 ([.c (str l), .c (.int .u8 (c.toNat : Nat))]) ([])) = some ((AV.c ((Value.bool true))), [((decide ((↑l.length : Int) > (500 : Int)) : Bool)) = (true)]) := by kernel_rfl

theorem short_2 (l : List UInt8) (c : UInt8) : lawOut (aBody Try.prog clK ⟨true, bs [(13, false)] ++ ([(50, ⟨.c (str [c]), none⟩), (51, ⟨.c (str [37, c]), none⟩), (66, ⟨.c (str [37, c]), none⟩), (69, ⟨.c (str [c]), none⟩), (70, ⟨.c (str [37, c]), none⟩)] ++ bs [(62, true), (71, true)])⟩ (lpBy (shLp l c)) 60 3 ([.c (str l), .c (.int .u8 (c.toNat : Nat))]) ([])) = some ((AV.c ((Value.bool true))), [((decide ((↑l.length : Int) > (500 : Int)) : Bool)) = (false),
 ((lbody Try.prog (3 : FuncId) (6 : Nat) : Go.Code)) = (lbody Try.prog (3 : FuncId) (6 : Nat)),
 ((shS l c (0 : Nat) (0 : Nat) : Go.Proofs.Ytfaffnemfndkfab.St)) = (shS l c (0 : Nat) (0 : Nat)),
 ((l.length : Nat) ≤ ((1000000000 : Nat))),
 (((1 : Nat) : Nat) ≤ ((1 : Nat))),
 bytesOK ([(AV.c ((Value.int .u8 ((↑c.toNat : Int)))))]),
 (([UInt8.ofNat (Int.toNat ((↑c.toNat : Int)))] : List UInt8)) = ([c]),
 (((1 : Nat) + (1 : Nat) : Nat) ≤ ((9223372036854775807 : Nat))),
 (([(37 : UInt8), c] : List UInt8)) = ([(37 : UInt8), c]),
 (((2 : Nat) : Nat) ≤ ((1000000000 : Nat))),
 ((IntKind.i64.min : Int) ≤ ((2 : Int) * (↑(shF l).fst : Int))),
 (((2 : Int) * (↑(shF l).fst : Int) : Int) ≤ (IntKind.i64.max)),
 ((IntKind.i64.min : Int) ≤ ((↑l.length : Int) - (2 : Int) * (↑(shF l).fst : Int))),
 (((↑l.length : Int) - (2 : Int) * (↑(shF l).fst : Int) : Int) ≤ (IntKind.i64.max)),
 (((↑(unescF l).length : Int) == (↑l.length : Int) - (2 : Int) * (↑(shF l).fst : Int) : Bool)) = (true),
 (((2 : Nat) + (0 : Nat) : Nat) ≤ ((2 : Nat))),
 bytesOK ([(AV.c ((Value.int .u8 37))),
 (AV.c ((Value.int .u8 ((↑c.toNat : Int)))))]),
 (([UInt8.ofNat (Int.toNat ((↑(37 : Nat) : Int))), UInt8.ofNat (Int.toNat ((↑c.toNat : Int)))] : List UInt8)) = ([(37 : UInt8), c]),
 (((1 : Nat) : Nat) ≤ ((1 : Nat))),
 bytesOK ([(AV.c ((Value.int .u8 ((↑c.toNat : Int)))))]),
 (([UInt8.ofNat (Int.toNat ((↑c.toNat : Int)))] : List UInt8)) = ([c]),
 (((1 : Nat) + (1 : Nat) : Nat) ≤ ((9223372036854775807 : Nat))),
 (([(37 : UInt8), c] : List UInt8)) = ([(37 : UInt8), c]),
 (([(37 : UInt8), c] == [(37 : UInt8), c] : Bool)) = (true)]) := by kernel_rfl

theorem short_all (l : List UInt8) (c : UInt8)  : ∃ (h : Hints) (p : List Prop), lawOut (aBody Try.prog clK h (lpBy (shLp l c)) 60 3 ([.c (str l), .c (.int .u8 (c.toNat : Nat))]) ([])) = some (.c (.bool true), p) ∧ allP p := by
  cases hc13 : (decide ((↑l.length : Int) > (500 : Int)) : Bool) with
  | true =>
    have eR := short_1 l c
    refine ⟨_, _, eR.trans (congrArg (fun r => some (r, _)) ?_), ?_⟩
    · rfl
    · clear eR
      simp only [decide_eq_true_eq] at hc13
      simp only [allP, and_true, decide_eq_true_eq]
      exact hc13
  | false =>
    have eR := short_2 l c
    refine ⟨_, _, eR, ?_⟩
    clear eR
    have k1 := shF_len l
    have k2 := unesc_len l
    have k3 := unesc_short [37, c] (by simp)
    have q2 : unbyts (byts [c]) = [c] := unbyts_byts [c]
    simp only [allP, k3, and_true, true_and, i64_min, i64_max]
    simp only [decide_eq_false_iff_not] at *
    exact ⟨hc13, by omega, by omega, bytesOK_byts [c], q2, by omega, by omega, by omega, by omega, by omega, by omega, beq_iff_eq.2 (by omega), by omega, bytesOK_byts [37, c], unbyts_byts [37, c], by omega, bytesOK_byts [c], q2, by omega, beq_self_eq_true _⟩

theorem short_any (l : List UInt8) (c : UInt8) : ∃ hs lp fuel p, LpOK Ext0 Try.prog lp ∧ lawOut (aBody Try.prog clK hs lp fuel 3 [.c (str l), .c (.int .u8 (c.toNat : Nat))] []) = some (.c (.bool true), p) ∧ allP p := by
  by_cases h : l.length ≤ 1000000
  · obtain ⟨hs, p, e, hp⟩ := short_all l c
    exact ⟨_, _, _, _, lpBy_cons lpBy_nil (show shFi.m.Nodup by decide) (shr_loop l c h), e, hp⟩
  · refine ⟨_, lpBy [], _, _, lpBy_nil, (show lawOut (aBody Try.prog clK ⟨true, bs [(13, true)]⟩ (lpBy []) 60 3 [.c (str l), .c (.int .u8 (c.toNat : Nat))] []) = some (.c (.bool true), [decide ((l.length : Int) > 500) = true]) by kernel_rfl), ?_, trivial⟩
    exact decide_eq_true (by omega)

theorem short_walk (a0 : ByteArray) (a1 : Int) (w0 : a0.size ≤ maxLen) (w1 : (Lit.int .u8 a1).wf = true) (w : World) :
    Calls Try.prog 3 #[.string a0, .int .u8 a1] w fun e w' => e = .returned (.bool true) ∧ Below w.heap.size w w' := by
  obtain ⟨⟨l⟩⟩ := a0
  obtain ⟨h0, h1⟩ := u8_wf w1
  obtain ⟨c, rfl⟩ := u8_cast h0 h1
  exact law_conc mixed clK_ok [str l, .int .u8 (c.toNat : Nat)] (glOK_none w) (short_any l c)

end Go.Proofs.Ytfaffnemfndkfab
