/- The law of digits. -/
import Derived.Test.YteadhhmbhgkojaaAsciiA
namespace Go.Proofs.Yteadhhmbhgkojaa
open Go.RowKit
set_option linter.unusedSimpArgs false

def xorI (c : Int) : Int := if 97 ≤ c then c - 32 else c + 32

noncomputable def dRun (h : List (Nat × Bool)) (k : List (Nat × Hint)) (c a b : Int) : Option (AV × List Prop) :=
  lawOut (aBody Try.prog cl2 ⟨true, bs h ++ k⟩ (lpBy []) 60 5 [.c (.int .u8 c), .c (.int .i64 a), .c (.int .i64 b)] [])

def xx (c : Int) : List (Nat × Hint) := [(71, ⟨.c (.int .u8 (xorI c)), none⟩), (76, ⟨.c (.int .u8 (xorI c)), none⟩)]

theorem xor_all : ∀ n : Fin 256, letterI n.val = true → IntKind.u8.wrap ↑(BitVec.ofInt IntKind.u8.bits (n.val : Int) ^^^ BitVec.ofInt IntKind.u8.bits 32).toNat = xorI n.val ∧ 0 ≤ xorI n.val ∧ xorI n.val < 256 ∧ letterI (xorI n.val) = true ∧ worthI (xorI n.val) = worthI n.val := by decide +kernel

theorem xor_facts {c : Int} (h0 : 0 ≤ c) (h1 : c < 256) (hl : letterI c = true) : IntKind.u8.wrap ↑(BitVec.ofInt IntKind.u8.bits c ^^^ BitVec.ofInt IntKind.u8.bits 32).toNat = xorI c ∧ 0 ≤ xorI c ∧ xorI c < 256 ∧ letterI (xorI c) = true ∧ worthI (xorI c) = worthI c := by
  have e : ((c.toNat : Nat) : Int) = c := Int.toNat_of_nonneg h0
  have h := xor_all ⟨c.toNat, by omega⟩
  simp only [e] at h
  exact h hl

theorem letter_worth {c : Int} : (letterI c = true ∧ 10 ≤ worthI c ∧ worthI c < 36) ∨ (letterI c = false ∧ -1 ≤ worthI c ∧ worthI c < 10) := by
  unfold letterI worthI
  by_cases h1 : 65 ≤ c ∧ c ≤ 90
  · left; simp only [h1, and_self, decide_true, Bool.true_or, true_and, if_true]; rw [if_neg (by omega), if_neg (by omega)]; omega
  · by_cases h2 : 97 ≤ c ∧ c ≤ 122
    · left; simp only [h1, h2, and_self, decide_true, Bool.or_true, true_and, if_true]; rw [if_neg (by omega)]; omega
    · right
      simp only [h1, h2, decide_false, Bool.or_false, true_and, if_false]
      split <;> omega

theorem digit_facts (c b : Int) : (worthI c < b ∧ digitI c b = worthI c) ∨ (b ≤ worthI c ∧ digitI c b = -1) := by
  unfold digitI
  by_cases h : worthI c < b
  · left; exact ⟨h, if_pos h⟩
  · right; exact ⟨by omega, if_neg h⟩

theorem dpath1 (c a b : Int) : dRun [(18, false), (21, false), (25, false), (35, true), (38, false), (48, false), (60, false), (68, false)] [] c a b = some (.c (.bool true), [(((0 : Int) : Int) ≤ (c)),
 ((c : Int) < ((256 : Int))),
 (((0 : Int) : Int) ≤ (c)),
 ((c : Int) < ((256 : Int))),
 ((decide (digitI c a < (-1 : Int)) : Bool)) = (false),
 ((decide (digitI c a ≥ (36 : Int)) : Bool)) = (false),
 ((decide (digitI c a ≥ (0 : Int)) : Bool)) = (false),
 ((decide (a ≤ b) : Bool)) = (true),
 ((decide (digitI c a ≥ (0 : Int)) : Bool)) = (false),
 ((decide (digitI c a ≥ (0 : Int)) : Bool)) = (false),
 ((decide (digitI c a ≥ (10 : Int)) : Bool)) = (false),
 (((0 : Int) : Int) ≤ (c)),
 ((c : Int) < ((256 : Int))),
 ((letterI c : Bool)) = (false)]) := by kernel_rfl

theorem dpath2 (c a b : Int) : dRun [(18, false), (21, false), (25, false), (35, false), (48, false), (60, false), (68, false)] [] c a b = some (.c (.bool true), [(((0 : Int) : Int) ≤ (c)),
 ((c : Int) < ((256 : Int))),
 (((0 : Int) : Int) ≤ (c)),
 ((c : Int) < ((256 : Int))),
 ((decide (digitI c a < (-1 : Int)) : Bool)) = (false),
 ((decide (digitI c a ≥ (36 : Int)) : Bool)) = (false),
 ((decide (digitI c a ≥ (0 : Int)) : Bool)) = (false),
 ((decide (a ≤ b) : Bool)) = (false),
 ((decide (digitI c a ≥ (0 : Int)) : Bool)) = (false),
 ((decide (digitI c a ≥ (10 : Int)) : Bool)) = (false),
 (((0 : Int) : Int) ≤ (c)),
 ((c : Int) < ((256 : Int))),
 ((letterI c : Bool)) = (false)]) := by kernel_rfl

theorem dpath3 (c a b : Int) : dRun [(18, false), (21, false), (25, false), (35, true), (38, false), (48, false), (60, false), (68, true), (72, true), (80, false)] (xx c) c a b = some (.c (.bool true), [(((0 : Int) : Int) ≤ (c)),
 ((c : Int) < ((256 : Int))),
 (((0 : Int) : Int) ≤ (c)),
 ((c : Int) < ((256 : Int))),
 ((decide (digitI c a < (-1 : Int)) : Bool)) = (false),
 ((decide (digitI c a ≥ (36 : Int)) : Bool)) = (false),
 ((decide (digitI c a ≥ (0 : Int)) : Bool)) = (false),
 ((decide (a ≤ b) : Bool)) = (true),
 ((decide (digitI c a ≥ (0 : Int)) : Bool)) = (false),
 ((decide (digitI c a ≥ (0 : Int)) : Bool)) = (false),
 ((decide (digitI c a ≥ (10 : Int)) : Bool)) = (false),
 (((0 : Int) : Int) ≤ (c)),
 ((c : Int) < ((256 : Int))),
 ((letterI c : Bool)) = (true),
 ((IntKind.u8.wrap (↑(BitVec.ofInt IntKind.u8.bits c ^^^ BitVec.ofInt IntKind.u8.bits (32 : Int)).toNat : Int) : Int)) = (xorI c),
 (((0 : Int) : Int) ≤ (xorI c)),
 ((xorI c : Int) < ((256 : Int))),
 ((letterI (xorI c) : Bool)) = (true),
 ((IntKind.u8.wrap (↑(BitVec.ofInt IntKind.u8.bits c ^^^ BitVec.ofInt IntKind.u8.bits (32 : Int)).toNat : Int) : Int)) = (xorI c),
 (((0 : Int) : Int) ≤ (xorI c)),
 ((xorI c : Int) < ((256 : Int))),
 ((digitI (xorI c) a != digitI c a : Bool)) = (false)]) := by kernel_rfl

theorem dpath4 (c a b : Int) : dRun [(18, false), (21, false), (25, false), (35, false), (38, false), (48, false), (60, false), (68, true), (72, true), (80, false)] (xx c) c a b = some (.c (.bool true), [(((0 : Int) : Int) ≤ (c)),
 ((c : Int) < ((256 : Int))),
 (((0 : Int) : Int) ≤ (c)),
 ((c : Int) < ((256 : Int))),
 ((decide (digitI c a < (-1 : Int)) : Bool)) = (false),
 ((decide (digitI c a ≥ (36 : Int)) : Bool)) = (false),
 ((decide (digitI c a ≥ (0 : Int)) : Bool)) = (false),
 ((decide (a ≤ b) : Bool)) = (false),
 ((decide (digitI c a ≥ (0 : Int)) : Bool)) = (false),
 ((decide (digitI c a ≥ (10 : Int)) : Bool)) = (false),
 (((0 : Int) : Int) ≤ (c)),
 ((c : Int) < ((256 : Int))),
 ((letterI c : Bool)) = (true),
 ((IntKind.u8.wrap (↑(BitVec.ofInt IntKind.u8.bits c ^^^ BitVec.ofInt IntKind.u8.bits (32 : Int)).toNat : Int) : Int)) = (xorI c),
 (((0 : Int) : Int) ≤ (xorI c)),
 ((xorI c : Int) < ((256 : Int))),
 ((letterI (xorI c) : Bool)) = (true),
 ((IntKind.u8.wrap (↑(BitVec.ofInt IntKind.u8.bits c ^^^ BitVec.ofInt IntKind.u8.bits (32 : Int)).toNat : Int) : Int)) = (xorI c),
 (((0 : Int) : Int) ≤ (xorI c)),
 ((xorI c : Int) < ((256 : Int))),
 ((digitI (xorI c) a != digitI c a : Bool)) = (false)]) := by kernel_rfl

theorem dpath5 (c a b : Int) : dRun [(18, false), (21, false), (25, true), (29, false), (35, true), (38, true), (43, false), (48, true), (51, true), (55, false), (60, false), (68, false)] [] c a b = some (.c (.bool true), [(((0 : Int) : Int) ≤ (c)),
 ((c : Int) < ((256 : Int))),
 (((0 : Int) : Int) ≤ (c)),
 ((c : Int) < ((256 : Int))),
 ((decide (digitI c a < (-1 : Int)) : Bool)) = (false),
 ((decide (digitI c a ≥ (36 : Int)) : Bool)) = (false),
 ((decide (digitI c a ≥ (0 : Int)) : Bool)) = (true),
 ((decide (digitI c a ≥ a) : Bool)) = (false),
 ((decide (a ≤ b) : Bool)) = (true),
 ((decide (digitI c a ≥ (0 : Int)) : Bool)) = (true),
 ((digitI c b != digitI c a : Bool)) = (false),
 ((decide (digitI c a ≥ (0 : Int)) : Bool)) = (true),
 ((decide (digitI c a < (10 : Int)) : Bool)) = (true),
 (((0 : Int) : Int) ≤ (c)),
 ((c : Int) < ((256 : Int))),
 ((letterI c : Bool)) = (false),
 ((decide (digitI c a ≥ (10 : Int)) : Bool)) = (false),
 (((0 : Int) : Int) ≤ (c)),
 ((c : Int) < ((256 : Int))),
 ((letterI c : Bool)) = (false)]) := by kernel_rfl

theorem dpath6 (c a b : Int) : dRun [(18, false), (21, false), (25, true), (29, false), (35, false), (48, true), (51, true), (55, false), (60, false), (68, false)] [] c a b = some (.c (.bool true), [(((0 : Int) : Int) ≤ (c)),
 ((c : Int) < ((256 : Int))),
 (((0 : Int) : Int) ≤ (c)),
 ((c : Int) < ((256 : Int))),
 ((decide (digitI c a < (-1 : Int)) : Bool)) = (false),
 ((decide (digitI c a ≥ (36 : Int)) : Bool)) = (false),
 ((decide (digitI c a ≥ (0 : Int)) : Bool)) = (true),
 ((decide (digitI c a ≥ a) : Bool)) = (false),
 ((decide (a ≤ b) : Bool)) = (false),
 ((decide (digitI c a ≥ (0 : Int)) : Bool)) = (true),
 ((decide (digitI c a < (10 : Int)) : Bool)) = (true),
 (((0 : Int) : Int) ≤ (c)),
 ((c : Int) < ((256 : Int))),
 ((letterI c : Bool)) = (false),
 ((decide (digitI c a ≥ (10 : Int)) : Bool)) = (false),
 (((0 : Int) : Int) ≤ (c)),
 ((c : Int) < ((256 : Int))),
 ((letterI c : Bool)) = (false)]) := by kernel_rfl

theorem dpath7 (c a b : Int) : dRun [(18, false), (21, false), (25, true), (29, false), (35, true), (38, true), (43, false), (48, true), (51, false), (60, true), (63, true), (68, true), (72, true), (80, false)] (xx c) c a b = some (.c (.bool true), [(((0 : Int) : Int) ≤ (c)),
 ((c : Int) < ((256 : Int))),
 (((0 : Int) : Int) ≤ (c)),
 ((c : Int) < ((256 : Int))),
 ((decide (digitI c a < (-1 : Int)) : Bool)) = (false),
 ((decide (digitI c a ≥ (36 : Int)) : Bool)) = (false),
 ((decide (digitI c a ≥ (0 : Int)) : Bool)) = (true),
 ((decide (digitI c a ≥ a) : Bool)) = (false),
 ((decide (a ≤ b) : Bool)) = (true),
 ((decide (digitI c a ≥ (0 : Int)) : Bool)) = (true),
 ((digitI c b != digitI c a : Bool)) = (false),
 ((decide (digitI c a ≥ (0 : Int)) : Bool)) = (true),
 ((decide (digitI c a < (10 : Int)) : Bool)) = (false),
 ((decide (digitI c a ≥ (10 : Int)) : Bool)) = (true),
 (((0 : Int) : Int) ≤ (c)),
 ((c : Int) < ((256 : Int))),
 ((letterI c : Bool)) = (true),
 (((0 : Int) : Int) ≤ (c)),
 ((c : Int) < ((256 : Int))),
 ((letterI c : Bool)) = (true),
 ((IntKind.u8.wrap (↑(BitVec.ofInt IntKind.u8.bits c ^^^ BitVec.ofInt IntKind.u8.bits (32 : Int)).toNat : Int) : Int)) = (xorI c),
 (((0 : Int) : Int) ≤ (xorI c)),
 ((xorI c : Int) < ((256 : Int))),
 ((letterI (xorI c) : Bool)) = (true),
 ((IntKind.u8.wrap (↑(BitVec.ofInt IntKind.u8.bits c ^^^ BitVec.ofInt IntKind.u8.bits (32 : Int)).toNat : Int) : Int)) = (xorI c),
 (((0 : Int) : Int) ≤ (xorI c)),
 ((xorI c : Int) < ((256 : Int))),
 ((digitI (xorI c) a != digitI c a : Bool)) = (false)]) := by kernel_rfl

theorem dpath8 (c a b : Int) : dRun [(18, false), (21, false), (25, true), (29, false), (35, false), (48, true), (51, false), (60, true), (63, true), (68, true), (72, true), (80, false)] (xx c) c a b = some (.c (.bool true), [(((0 : Int) : Int) ≤ (c)),
 ((c : Int) < ((256 : Int))),
 (((0 : Int) : Int) ≤ (c)),
 ((c : Int) < ((256 : Int))),
 ((decide (digitI c a < (-1 : Int)) : Bool)) = (false),
 ((decide (digitI c a ≥ (36 : Int)) : Bool)) = (false),
 ((decide (digitI c a ≥ (0 : Int)) : Bool)) = (true),
 ((decide (digitI c a ≥ a) : Bool)) = (false),
 ((decide (a ≤ b) : Bool)) = (false),
 ((decide (digitI c a ≥ (0 : Int)) : Bool)) = (true),
 ((decide (digitI c a < (10 : Int)) : Bool)) = (false),
 ((decide (digitI c a ≥ (10 : Int)) : Bool)) = (true),
 (((0 : Int) : Int) ≤ (c)),
 ((c : Int) < ((256 : Int))),
 ((letterI c : Bool)) = (true),
 (((0 : Int) : Int) ≤ (c)),
 ((c : Int) < ((256 : Int))),
 ((letterI c : Bool)) = (true),
 ((IntKind.u8.wrap (↑(BitVec.ofInt IntKind.u8.bits c ^^^ BitVec.ofInt IntKind.u8.bits (32 : Int)).toNat : Int) : Int)) = (xorI c),
 (((0 : Int) : Int) ≤ (xorI c)),
 ((xorI c : Int) < ((256 : Int))),
 ((letterI (xorI c) : Bool)) = (true),
 ((IntKind.u8.wrap (↑(BitVec.ofInt IntKind.u8.bits c ^^^ BitVec.ofInt IntKind.u8.bits (32 : Int)).toNat : Int) : Int)) = (xorI c),
 (((0 : Int) : Int) ≤ (xorI c)),
 ((xorI c : Int) < ((256 : Int))),
 ((digitI (xorI c) a != digitI c a : Bool)) = (false)]) := by kernel_rfl

theorem digits_walk (a0 : Int) (a1 : Int) (a2 : Int) (w0 : (Lit.int .u8 a0).wf = true) (_ : (Lit.int .i64 a1).wf = true) (_ : (Lit.int .i64 a2).wf = true) (w : World) :
    Calls Try.prog 5 #[.int .u8 a0, .int .i64 a1, .int .i64 a2] w fun e w' => e = .returned (.bool true) ∧ Below w.heap.size w w' := by
  obtain ⟨h0, h1⟩ := u8_wf w0
  refine law_conc mixed cl2_ok [.int .u8 a0, .int .i64 a1, .int .i64 a2] ?_
  have hm := digit_facts a0 a1
  have hn := digit_facts a0 a2
  rcases letter_worth (c := a0) with ⟨hl, hw⟩ | ⟨hl, hw⟩
  · obtain ⟨x1, x2, x3, x4, x5⟩ := xor_facts h0 h1 hl
    have hk := digit_facts (xorI a0) a1
    rw [x5] at hk
    rcases hm with ⟨hm1, hm2⟩ | ⟨hm1, hm2⟩ <;> by_cases hab : a1 ≤ a2
    · refine ⟨_, _, _, _, lpBy_nil, dpath7 a0 a1 a2, ?_⟩
      simp only [allP, hl, x1, x4, and_true, true_and, bne_eq_false_iff_eq, decide_eq_true_eq, decide_eq_false_iff_not]
      omega
    · refine ⟨_, _, _, _, lpBy_nil, dpath8 a0 a1 a2, ?_⟩
      simp only [allP, hl, x1, x4, and_true, true_and, bne_eq_false_iff_eq, decide_eq_true_eq, decide_eq_false_iff_not]
      omega
    · refine ⟨_, _, _, _, lpBy_nil, dpath3 a0 a1 a2, ?_⟩
      simp only [allP, hl, x1, x4, and_true, true_and, bne_eq_false_iff_eq, decide_eq_true_eq, decide_eq_false_iff_not]
      omega
    · refine ⟨_, _, _, _, lpBy_nil, dpath4 a0 a1 a2, ?_⟩
      simp only [allP, hl, x1, x4, and_true, true_and, bne_eq_false_iff_eq, decide_eq_true_eq, decide_eq_false_iff_not]
      omega
  · by_cases hneg : digitI a0 a1 = -1 <;> by_cases hab : a1 ≤ a2
    · refine ⟨_, _, _, _, lpBy_nil, dpath1 a0 a1 a2, ?_⟩
      simp only [allP, hl, and_true, true_and, bne_eq_false_iff_eq, decide_eq_true_eq, decide_eq_false_iff_not]
      omega
    · refine ⟨_, _, _, _, lpBy_nil, dpath2 a0 a1 a2, ?_⟩
      simp only [allP, hl, and_true, true_and, bne_eq_false_iff_eq, decide_eq_true_eq, decide_eq_false_iff_not]
      omega
    · refine ⟨_, _, _, _, lpBy_nil, dpath5 a0 a1 a2, ?_⟩
      simp only [allP, hl, and_true, true_and, bne_eq_false_iff_eq, decide_eq_true_eq, decide_eq_false_iff_not]
      omega
    · refine ⟨_, _, _, _, lpBy_nil, dpath6 a0 a1 a2, ?_⟩
      simp only [allP, hl, and_true, true_and, bne_eq_false_iff_eq, decide_eq_true_eq, decide_eq_false_iff_not]
      omega

end Go.Proofs.Yteadhhmbhgkojaa
