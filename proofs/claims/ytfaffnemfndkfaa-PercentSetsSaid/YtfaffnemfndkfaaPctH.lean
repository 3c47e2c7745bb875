/- The laws of two texts, and of the sets. -/
import Derived.Test.YtfaffnemfndkfaaPctG
namespace Go.Proofs.Ytfaffnemfndkfaa
open Go.RowKit
set_option linter.unusedVariables false
set_option linter.unusedSimpArgs false

/-- A text ends in the midst of nothing that is encoded. -/
def endOK (a : List UInt8) : Prop := ∀ i, i < a.length → a.length ≤ i + 2 → a.getD i 0 ≠ 37

theorem endOK_drop {a : List UInt8} (h : endOK a) (k : Nat) : endOK (a.drop k) := by
  intro i h1 h2
  rw [List.length_drop] at h1 h2
  rw [drop_getB]
  exact h (k + i) (by omega) (by omega)

theorem getD_app {a b : List UInt8} {i : Nat} (h : i < a.length) : (a ++ b).getD i 0 = a.getD i 0 := by
  simp only [List.getD, List.getElem?_append_left h]

theorem told_app {a b : List UInt8} (hne : a ≠ []) (h : endOK a) : toldB (a ++ b) = toldB a := by
  have hn : 0 < a.length := List.length_pos_iff.2 hne
  by_cases hl : 3 ≤ a.length
  · rw [Bool.eq_iff_iff, told_if, told_if, getD_app (by omega), getD_app (by omega), getD_app (by omega), List.length_append]
    constructor
    · rintro ⟨_, h2⟩; exact ⟨hl, h2⟩
    · rintro ⟨_, h2⟩; exact ⟨by omega, h2⟩
  · have h0 := h 0 hn (by omega)
    have e1 : toldB a = false := by
      rw [← Bool.not_eq_true, told_if]; exact fun hh => h0 hh.2.1
    have e2 : toldB (a ++ b) = false := by
      rw [← Bool.not_eq_true, told_if, getD_app hn]; exact fun hh => h0 hh.2.1
    rw [e1, e2]

theorem toldV_app {a b : List UInt8} (hl : 3 ≤ a.length) (h : toldB (a ++ b) = toldB a) : toldV (a ++ b) = toldV a := by
  unfold toldV
  rw [h, getD_app (by omega), getD_app (by omega)]

theorem unesc_app : ∀ (n : Nat) (a b : List UInt8), a.length ≤ n → endOK a → unescF (a ++ b) = unescF a ++ unescF b
  | 0, a, b, h, _ => by
    have : a = [] := List.eq_nil_of_length_eq_zero (by omega)
    subst this; rfl
  | n + 1, [], b, _, _ => rfl
  | n + 1, c :: r, b, h, he => by
    have ht := told_app (b := b) (List.cons_ne_nil c r) he
    simp only [List.length_cons] at h
    cases hb : toldB (c :: r) with
    | true =>
      have hl := told_len hb
      have hl' := hl
      simp only [List.length_cons] at hl
      rw [hb] at ht
      have hv := toldV_app (b := b) hl' (ht.trans hb.symm)
      have ht2 : toldB (c :: (r ++ b)) = true := ht
      rw [unesc_told hb]
      show unescF (c :: (r ++ b)) = _
      rw [unesc_told ht2]
      rw [show c :: (r ++ b) = (c :: r) ++ b from rfl, hv, List.drop_append_of_le_length (by omega), unesc_app n (r.drop 2) b (by rw [List.length_drop]; omega) (endOK_drop (k := 3) he)]
      rfl
    | false =>
      rw [hb] at ht
      have ht2 : toldB (c :: (r ++ b)) = false := ht
      rw [unesc_not hb]
      show unescF (c :: (r ++ b)) = _
      rw [unesc_not ht2, unesc_app n r b (by omega) (endOK_drop (k := 1) he)]
      rfl

theorem parts_1 (a b : List UInt8) (s : Int) : lawOut (aBody Try.prog clL ⟨true, bs [(12, true)] ++ (bs [(55, true), (71, true), (86, true)])⟩ (lpBy ([])) 60 7 ([.c (str a), .c (str b), .c (.int .i64 s)]) ([])) = some ((AV.c ((Value.bool true))), [((decide ((↑a.length : Int) > (500 : Int)) : Bool)) = (true)]) := by kernel_rfl

theorem parts_2 (a b : List UInt8) (s : Int) : lawOut (aBody Try.prog clL ⟨true, bs [(12, false), (16, true)] ++ (bs [(55, true), (71, true), (86, true)])⟩ (lpBy ([])) 60 7 ([.c (str a), .c (str b), .c (.int .i64 s)]) ([])) = some ((AV.c ((Value.bool true))), [((decide ((↑a.length : Int) > (500 : Int)) : Bool)) = (false),
 ((decide ((↑b.length : Int) > (500 : Int)) : Bool)) = (true)]) := by kernel_rfl

theorem parts_3 (a b : List UInt8) (s : Int) : lawOut (aBody Try.prog clL ⟨true, bs [(12, false), (16, false), (22, true), (28, true)] ++ (bs [(55, true), (71, true), (86, true)])⟩ (lpBy ([])) 60 7 ([.c (str a), .c (str b), .c (.int .i64 s)]) ([])) = some ((AV.c ((Value.bool true))), [((decide ((↑a.length : Int) > (500 : Int)) : Bool)) = (false),
 ((decide ((↑b.length : Int) > (500 : Int)) : Bool)) = (false),
 ((decide ((↑a.length : Int) ≥ (1 : Int)) : Bool)) = (true),
 ((IntKind.i64.min : Int) ≤ ((↑a.length : Int) - (1 : Int))),
 (((↑a.length : Int) - (1 : Int) : Int) ≤ (IntKind.i64.max)),
 (((0 : Int) : Int) ≤ ((↑a.length : Int) - (1 : Int))),
 (((↑a.length : Int) - (1 : Int) : Int) < ((↑a.length : Int))),
 (((↑(a.getD ((↑a.length : Int) - (1 : Int)).toNat (0 : UInt8)).toNat : Int) == (37 : Int) : Bool)) = (true),
 ((a.length + b.length : Nat) ≤ ((9223372036854775807 : Nat))),
 (((a ++ b).length : Nat) ≤ ((1000000000 : Nat))),
 ((a.length : Nat) ≤ ((1000000000 : Nat))),
 ((b.length : Nat) ≤ ((1000000000 : Nat))),
 (((encF s a).length + (encF s b).length : Nat) ≤ ((9223372036854775807 : Nat))),
 ((encF s (a ++ b) == encF s a ++ encF s b : Bool)) = (true)]) := by kernel_rfl

theorem parts_4 (a b : List UInt8) (s : Int) : lawOut (aBody Try.prog clL ⟨true, bs [(12, false), (16, false), (22, true), (28, false), (32, true), (38, true)] ++ (bs [(55, true), (71, true), (86, true)])⟩ (lpBy ([])) 60 7 ([.c (str a), .c (str b), .c (.int .i64 s)]) ([])) = some ((AV.c ((Value.bool true))), [((decide ((↑a.length : Int) > (500 : Int)) : Bool)) = (false),
 ((decide ((↑b.length : Int) > (500 : Int)) : Bool)) = (false),
 ((decide ((↑a.length : Int) ≥ (1 : Int)) : Bool)) = (true),
 ((IntKind.i64.min : Int) ≤ ((↑a.length : Int) - (1 : Int))),
 (((↑a.length : Int) - (1 : Int) : Int) ≤ (IntKind.i64.max)),
 (((0 : Int) : Int) ≤ ((↑a.length : Int) - (1 : Int))),
 (((↑a.length : Int) - (1 : Int) : Int) < ((↑a.length : Int))),
 (((↑(a.getD ((↑a.length : Int) - (1 : Int)).toNat (0 : UInt8)).toNat : Int) == (37 : Int) : Bool)) = (false),
 ((decide ((↑a.length : Int) ≥ (2 : Int)) : Bool)) = (true),
 ((IntKind.i64.min : Int) ≤ ((↑a.length : Int) - (2 : Int))),
 (((↑a.length : Int) - (2 : Int) : Int) ≤ (IntKind.i64.max)),
 (((0 : Int) : Int) ≤ ((↑a.length : Int) - (2 : Int))),
 (((↑a.length : Int) - (2 : Int) : Int) < ((↑a.length : Int))),
 (((↑(a.getD ((↑a.length : Int) - (2 : Int)).toNat (0 : UInt8)).toNat : Int) == (37 : Int) : Bool)) = (true),
 ((a.length + b.length : Nat) ≤ ((9223372036854775807 : Nat))),
 (((a ++ b).length : Nat) ≤ ((1000000000 : Nat))),
 ((a.length : Nat) ≤ ((1000000000 : Nat))),
 ((b.length : Nat) ≤ ((1000000000 : Nat))),
 (((encF s a).length + (encF s b).length : Nat) ≤ ((9223372036854775807 : Nat))),
 ((encF s (a ++ b) == encF s a ++ encF s b : Bool)) = (true)]) := by kernel_rfl

theorem parts_5 (a b : List UInt8) (s : Int) : lawOut (aBody Try.prog clL ⟨true, bs [(12, false), (16, false), (22, true), (28, false), (32, true), (38, false)] ++ (bs [(55, true), (71, true), (86, true)])⟩ (lpBy ([])) 60 7 ([.c (str a), .c (str b), .c (.int .i64 s)]) ([])) = some ((AV.c ((Value.bool true))), [((decide ((↑a.length : Int) > (500 : Int)) : Bool)) = (false),
 ((decide ((↑b.length : Int) > (500 : Int)) : Bool)) = (false),
 ((decide ((↑a.length : Int) ≥ (1 : Int)) : Bool)) = (true),
 ((IntKind.i64.min : Int) ≤ ((↑a.length : Int) - (1 : Int))),
 (((↑a.length : Int) - (1 : Int) : Int) ≤ (IntKind.i64.max)),
 (((0 : Int) : Int) ≤ ((↑a.length : Int) - (1 : Int))),
 (((↑a.length : Int) - (1 : Int) : Int) < ((↑a.length : Int))),
 (((↑(a.getD ((↑a.length : Int) - (1 : Int)).toNat (0 : UInt8)).toNat : Int) == (37 : Int) : Bool)) = (false),
 ((decide ((↑a.length : Int) ≥ (2 : Int)) : Bool)) = (true),
 ((IntKind.i64.min : Int) ≤ ((↑a.length : Int) - (2 : Int))),
 (((↑a.length : Int) - (2 : Int) : Int) ≤ (IntKind.i64.max)),
 (((0 : Int) : Int) ≤ ((↑a.length : Int) - (2 : Int))),
 (((↑a.length : Int) - (2 : Int) : Int) < ((↑a.length : Int))),
 (((↑(a.getD ((↑a.length : Int) - (2 : Int)).toNat (0 : UInt8)).toNat : Int) == (37 : Int) : Bool)) = (false),
 ((a.length + b.length : Nat) ≤ ((9223372036854775807 : Nat))),
 (((a ++ b).length : Nat) ≤ ((1000000000 : Nat))),
 ((a.length : Nat) ≤ ((1000000000 : Nat))),
 ((b.length : Nat) ≤ ((1000000000 : Nat))),
 (((encF s a).length + (encF s b).length : Nat) ≤ ((9223372036854775807 : Nat))),
 ((encF s (a ++ b) == encF s a ++ encF s b : Bool)) = (true),
 ((a.length + b.length : Nat) ≤ ((9223372036854775807 : Nat))),
 (((a ++ b).length : Nat) ≤ ((1000000000 : Nat))),
 (((List.take (unescF (a ++ b)).length (List.drop (0 : Nat) (byts (unescF (a ++ b))))).length : Nat)) = ((unescF (a ++ b)).length),
 bytesOK (List.take (unescF (a ++ b)).length (List.drop (0 : Nat) (byts (unescF (a ++ b))))),
 ((a.length : Nat) ≤ ((1000000000 : Nat))),
 (((List.take (unescF a).length (List.drop (0 : Nat) (byts (unescF a)))).length : Nat)) = ((unescF a).length),
 bytesOK (List.take (unescF a).length (List.drop (0 : Nat) (byts (unescF a)))),
 ((b.length : Nat) ≤ ((1000000000 : Nat))),
 (((List.take (unescF b).length (List.drop (0 : Nat) (byts (unescF b)))).length : Nat)) = ((unescF b).length),
 bytesOK (List.take (unescF b).length (List.drop (0 : Nat) (byts (unescF b)))),
 (((unbyts (List.take (unescF a).length (List.drop (0 : Nat) (byts (unescF a))))).length +
  (unbyts (List.take (unescF b).length (List.drop (0 : Nat) (byts (unescF b))))).length : Nat) ≤ ((9223372036854775807 : Nat))),
 ((unbyts (List.take (unescF (a ++ b)).length (List.drop (0 : Nat) (byts (unescF (a ++ b))))) ==
  unbyts (List.take (unescF a).length (List.drop (0 : Nat) (byts (unescF a)))) ++
    unbyts (List.take (unescF b).length (List.drop (0 : Nat) (byts (unescF b)))) : Bool)) = (true)]) := by kernel_rfl

theorem parts_6 (a b : List UInt8) (s : Int) : lawOut (aBody Try.prog clL ⟨true, bs [(12, false), (16, false), (22, true), (28, false), (32, false)] ++ (bs [(55, true), (71, true), (86, true)])⟩ (lpBy ([])) 60 7 ([.c (str a), .c (str b), .c (.int .i64 s)]) ([])) = some ((AV.c ((Value.bool true))), [((decide ((↑a.length : Int) > (500 : Int)) : Bool)) = (false),
 ((decide ((↑b.length : Int) > (500 : Int)) : Bool)) = (false),
 ((decide ((↑a.length : Int) ≥ (1 : Int)) : Bool)) = (true),
 ((IntKind.i64.min : Int) ≤ ((↑a.length : Int) - (1 : Int))),
 (((↑a.length : Int) - (1 : Int) : Int) ≤ (IntKind.i64.max)),
 (((0 : Int) : Int) ≤ ((↑a.length : Int) - (1 : Int))),
 (((↑a.length : Int) - (1 : Int) : Int) < ((↑a.length : Int))),
 (((↑(a.getD ((↑a.length : Int) - (1 : Int)).toNat (0 : UInt8)).toNat : Int) == (37 : Int) : Bool)) = (false),
 ((decide ((↑a.length : Int) ≥ (2 : Int)) : Bool)) = (false),
 ((a.length + b.length : Nat) ≤ ((9223372036854775807 : Nat))),
 (((a ++ b).length : Nat) ≤ ((1000000000 : Nat))),
 ((a.length : Nat) ≤ ((1000000000 : Nat))),
 ((b.length : Nat) ≤ ((1000000000 : Nat))),
 (((encF s a).length + (encF s b).length : Nat) ≤ ((9223372036854775807 : Nat))),
 ((encF s (a ++ b) == encF s a ++ encF s b : Bool)) = (true),
 ((a.length + b.length : Nat) ≤ ((9223372036854775807 : Nat))),
 (((a ++ b).length : Nat) ≤ ((1000000000 : Nat))),
 (((List.take (unescF (a ++ b)).length (List.drop (0 : Nat) (byts (unescF (a ++ b))))).length : Nat)) = ((unescF (a ++ b)).length),
 bytesOK (List.take (unescF (a ++ b)).length (List.drop (0 : Nat) (byts (unescF (a ++ b))))),
 ((a.length : Nat) ≤ ((1000000000 : Nat))),
 (((List.take (unescF a).length (List.drop (0 : Nat) (byts (unescF a)))).length : Nat)) = ((unescF a).length),
 bytesOK (List.take (unescF a).length (List.drop (0 : Nat) (byts (unescF a)))),
 ((b.length : Nat) ≤ ((1000000000 : Nat))),
 (((List.take (unescF b).length (List.drop (0 : Nat) (byts (unescF b)))).length : Nat)) = ((unescF b).length),
 bytesOK (List.take (unescF b).length (List.drop (0 : Nat) (byts (unescF b)))),
 (((unbyts (List.take (unescF a).length (List.drop (0 : Nat) (byts (unescF a))))).length +
  (unbyts (List.take (unescF b).length (List.drop (0 : Nat) (byts (unescF b))))).length : Nat) ≤ ((9223372036854775807 : Nat))),
 ((unbyts (List.take (unescF (a ++ b)).length (List.drop (0 : Nat) (byts (unescF (a ++ b))))) ==
  unbyts (List.take (unescF a).length (List.drop (0 : Nat) (byts (unescF a)))) ++
    unbyts (List.take (unescF b).length (List.drop (0 : Nat) (byts (unescF b)))) : Bool)) = (true)]) := by kernel_rfl

theorem parts_7 (a b : List UInt8) (s : Int) : lawOut (aBody Try.prog clL ⟨true, bs [(12, false), (16, false), (22, false), (32, false)] ++ (bs [(55, true), (71, true), (86, true)])⟩ (lpBy ([])) 60 7 ([.c (str a), .c (str b), .c (.int .i64 s)]) ([])) = some ((AV.c ((Value.bool true))), [((decide ((↑a.length : Int) > (500 : Int)) : Bool)) = (false),
 ((decide ((↑b.length : Int) > (500 : Int)) : Bool)) = (false),
 ((decide ((↑a.length : Int) ≥ (1 : Int)) : Bool)) = (false),
 ((decide ((↑a.length : Int) ≥ (2 : Int)) : Bool)) = (false),
 ((a.length + b.length : Nat) ≤ ((9223372036854775807 : Nat))),
 (((a ++ b).length : Nat) ≤ ((1000000000 : Nat))),
 ((a.length : Nat) ≤ ((1000000000 : Nat))),
 ((b.length : Nat) ≤ ((1000000000 : Nat))),
 (((encF s a).length + (encF s b).length : Nat) ≤ ((9223372036854775807 : Nat))),
 ((encF s (a ++ b) == encF s a ++ encF s b : Bool)) = (true),
 ((a.length + b.length : Nat) ≤ ((9223372036854775807 : Nat))),
 (((a ++ b).length : Nat) ≤ ((1000000000 : Nat))),
 (((List.take (unescF (a ++ b)).length (List.drop (0 : Nat) (byts (unescF (a ++ b))))).length : Nat)) = ((unescF (a ++ b)).length),
 bytesOK (List.take (unescF (a ++ b)).length (List.drop (0 : Nat) (byts (unescF (a ++ b))))),
 ((a.length : Nat) ≤ ((1000000000 : Nat))),
 (((List.take (unescF a).length (List.drop (0 : Nat) (byts (unescF a)))).length : Nat)) = ((unescF a).length),
 bytesOK (List.take (unescF a).length (List.drop (0 : Nat) (byts (unescF a)))),
 ((b.length : Nat) ≤ ((1000000000 : Nat))),
 (((List.take (unescF b).length (List.drop (0 : Nat) (byts (unescF b)))).length : Nat)) = ((unescF b).length),
 bytesOK (List.take (unescF b).length (List.drop (0 : Nat) (byts (unescF b)))),
 (((unbyts (List.take (unescF a).length (List.drop (0 : Nat) (byts (unescF a))))).length +
  (unbyts (List.take (unescF b).length (List.drop (0 : Nat) (byts (unescF b))))).length : Nat) ≤ ((9223372036854775807 : Nat))),
 ((unbyts (List.take (unescF (a ++ b)).length (List.drop (0 : Nat) (byts (unescF (a ++ b))))) ==
  unbyts (List.take (unescF a).length (List.drop (0 : Nat) (byts (unescF a)))) ++
    unbyts (List.take (unescF b).length (List.drop (0 : Nat) (byts (unescF b)))) : Bool)) = (true)]) := by kernel_rfl

theorem parts_all (a b : List UInt8) (s : Int)  : ∃ (h : Hints) (p : List Prop), lawOut (aBody Try.prog clL h (lpBy ([])) 60 7 ([.c (str a), .c (str b), .c (.int .i64 s)]) ([])) = some (.c (.bool true), p) ∧ allP p := by
  cases hc12 : (decide ((↑a.length : Int) > (500 : Int)) : Bool) with
  | true =>
    have eR := parts_1 a b s
    refine ⟨_, _, eR.trans (congrArg (fun r => some (r, _)) ?_), ?_⟩
    · rfl
    · clear eR
      have k1 := enc_app s a b
      have k2 := encF_len s a
      have k3 := encF_len s b
      have k4 := unesc_len a
      have k5 := unesc_len b
      simp only [allP, byts_all, and_true, true_and, byts_length, unbyts_byts, List.length_append, i64_min, i64_max]
      try simp only [decide_eq_true_eq, decide_eq_false_iff_not, beq_iff_eq, beq_eq_false_iff_ne, ne_eq] at *
      have k6 : endOK a → unescF (a ++ b) = unescF a ++ unescF b := unesc_app a.length a b (Nat.le_refl _)
      repeat' apply And.intro
      all_goals first
        | omega
        | exact bytesOK_byts _
        | exact k1
        | (refine k6 fun i h1 h2 h3 => ?_
           rw [u8_37] at h3
           by_cases q : i + 1 = a.length
           · have e : i = ((a.length : Int) - 1).toNat := by omega
             rw [e] at h3
             first | exact hc28 h3 | omega
           · have e : i = ((a.length : Int) - 2).toNat := by omega
             rw [e] at h3
             first | exact hc38 h3 | omega)
  | false =>
    cases hc16 : (decide ((↑b.length : Int) > (500 : Int)) : Bool) with
    | true =>
      have eR := parts_2 a b s
      refine ⟨_, _, eR.trans (congrArg (fun r => some (r, _)) ?_), ?_⟩
      · rfl
      · clear eR
        have k1 := enc_app s a b
        have k2 := encF_len s a
        have k3 := encF_len s b
        have k4 := unesc_len a
        have k5 := unesc_len b
        simp only [allP, byts_all, and_true, true_and, byts_length, unbyts_byts, List.length_append, i64_min, i64_max]
        try simp only [decide_eq_true_eq, decide_eq_false_iff_not, beq_iff_eq, beq_eq_false_iff_ne, ne_eq] at *
        have k6 : endOK a → unescF (a ++ b) = unescF a ++ unescF b := unesc_app a.length a b (Nat.le_refl _)
        repeat' apply And.intro
        all_goals first
          | omega
          | exact bytesOK_byts _
          | exact k1
          | (refine k6 fun i h1 h2 h3 => ?_
             rw [u8_37] at h3
             by_cases q : i + 1 = a.length
             · have e : i = ((a.length : Int) - 1).toNat := by omega
               rw [e] at h3
               first | exact hc28 h3 | omega
             · have e : i = ((a.length : Int) - 2).toNat := by omega
               rw [e] at h3
               first | exact hc38 h3 | omega)
    | false =>
      cases hc22 : (decide ((↑a.length : Int) ≥ (1 : Int)) : Bool) with
      | true =>
        cases hc28 : ((↑(a.getD ((↑a.length : Int) - (1 : Int)).toNat (0 : UInt8)).toNat : Int) == (37 : Int) : Bool) with
        | true =>
          have eR := parts_3 a b s
          refine ⟨_, _, eR.trans (congrArg (fun r => some (r, _)) ?_), ?_⟩
          · rfl
          · clear eR
            have k1 := enc_app s a b
            have k2 := encF_len s a
            have k3 := encF_len s b
            have k4 := unesc_len a
            have k5 := unesc_len b
            simp only [allP, byts_all, and_true, true_and, byts_length, unbyts_byts, List.length_append, i64_min, i64_max]
            try simp only [decide_eq_true_eq, decide_eq_false_iff_not, beq_iff_eq, beq_eq_false_iff_ne, ne_eq] at *
            have k6 : endOK a → unescF (a ++ b) = unescF a ++ unescF b := unesc_app a.length a b (Nat.le_refl _)
            repeat' apply And.intro
            all_goals first
              | omega
              | exact bytesOK_byts _
              | exact k1
              | (refine k6 fun i h1 h2 h3 => ?_
                 rw [u8_37] at h3
                 by_cases q : i + 1 = a.length
                 · have e : i = ((a.length : Int) - 1).toNat := by omega
                   rw [e] at h3
                   first | exact hc28 h3 | omega
                 · have e : i = ((a.length : Int) - 2).toNat := by omega
                   rw [e] at h3
                   first | exact hc38 h3 | omega)
        | false =>
          cases hc32 : (decide ((↑a.length : Int) ≥ (2 : Int)) : Bool) with
          | true =>
            cases hc38 : ((↑(a.getD ((↑a.length : Int) - (2 : Int)).toNat (0 : UInt8)).toNat : Int) == (37 : Int) : Bool) with
            | true =>
              have eR := parts_4 a b s
              refine ⟨_, _, eR.trans (congrArg (fun r => some (r, _)) ?_), ?_⟩
              · rfl
              · clear eR
                have k1 := enc_app s a b
                have k2 := encF_len s a
                have k3 := encF_len s b
                have k4 := unesc_len a
                have k5 := unesc_len b
                simp only [allP, byts_all, and_true, true_and, byts_length, unbyts_byts, List.length_append, i64_min, i64_max]
                try simp only [decide_eq_true_eq, decide_eq_false_iff_not, beq_iff_eq, beq_eq_false_iff_ne, ne_eq] at *
                have k6 : endOK a → unescF (a ++ b) = unescF a ++ unescF b := unesc_app a.length a b (Nat.le_refl _)
                repeat' apply And.intro
                all_goals first
                  | omega
                  | exact bytesOK_byts _
                  | exact k1
                  | (refine k6 fun i h1 h2 h3 => ?_
                     rw [u8_37] at h3
                     by_cases q : i + 1 = a.length
                     · have e : i = ((a.length : Int) - 1).toNat := by omega
                       rw [e] at h3
                       first | exact hc28 h3 | omega
                     · have e : i = ((a.length : Int) - 2).toNat := by omega
                       rw [e] at h3
                       first | exact hc38 h3 | omega)
            | false =>
              have eR := parts_5 a b s
              refine ⟨_, _, eR.trans (congrArg (fun r => some (r, _)) ?_), ?_⟩
              · rfl
              · clear eR
                have k1 := enc_app s a b
                have k2 := encF_len s a
                have k3 := encF_len s b
                have k4 := unesc_len a
                have k5 := unesc_len b
                simp only [allP, byts_all, and_true, true_and, byts_length, unbyts_byts, List.length_append, i64_min, i64_max]
                try simp only [decide_eq_true_eq, decide_eq_false_iff_not, beq_iff_eq, beq_eq_false_iff_ne, ne_eq] at *
                have k6 : endOK a → unescF (a ++ b) = unescF a ++ unescF b := unesc_app a.length a b (Nat.le_refl _)
                repeat' apply And.intro
                all_goals first
                  | omega
                  | exact bytesOK_byts _
                  | exact k1
                  | (refine k6 fun i h1 h2 h3 => ?_
                     rw [u8_37] at h3
                     by_cases q : i + 1 = a.length
                     · have e : i = ((a.length : Int) - 1).toNat := by omega
                       rw [e] at h3
                       first | exact hc28 h3 | omega
                     · have e : i = ((a.length : Int) - 2).toNat := by omega
                       rw [e] at h3
                       first | exact hc38 h3 | omega)
          | false =>
            have eR := parts_6 a b s
            refine ⟨_, _, eR.trans (congrArg (fun r => some (r, _)) ?_), ?_⟩
            · rfl
            · clear eR
              have k1 := enc_app s a b
              have k2 := encF_len s a
              have k3 := encF_len s b
              have k4 := unesc_len a
              have k5 := unesc_len b
              simp only [allP, byts_all, and_true, true_and, byts_length, unbyts_byts, List.length_append, i64_min, i64_max]
              try simp only [decide_eq_true_eq, decide_eq_false_iff_not, beq_iff_eq, beq_eq_false_iff_ne, ne_eq] at *
              have k6 : endOK a → unescF (a ++ b) = unescF a ++ unescF b := unesc_app a.length a b (Nat.le_refl _)
              repeat' apply And.intro
              all_goals first
                | omega
                | exact bytesOK_byts _
                | exact k1
                | (refine k6 fun i h1 h2 h3 => ?_
                   rw [u8_37] at h3
                   by_cases q : i + 1 = a.length
                   · have e : i = ((a.length : Int) - 1).toNat := by omega
                     rw [e] at h3
                     first | exact hc28 h3 | omega
                   · have e : i = ((a.length : Int) - 2).toNat := by omega
                     rw [e] at h3
                     first | exact hc38 h3 | omega)
      | false =>
        have eR := parts_7 a b s
        refine ⟨_, _, eR.trans (congrArg (fun r => some (r, _)) ?_), ?_⟩
        · rfl
        · clear eR
          have k1 := enc_app s a b
          have k2 := encF_len s a
          have k3 := encF_len s b
          have k4 := unesc_len a
          have k5 := unesc_len b
          simp only [allP, byts_all, and_true, true_and, byts_length, unbyts_byts, List.length_append, i64_min, i64_max]
          try simp only [decide_eq_true_eq, decide_eq_false_iff_not, beq_iff_eq, beq_eq_false_iff_ne, ne_eq] at *
          have k6 : endOK a → unescF (a ++ b) = unescF a ++ unescF b := unesc_app a.length a b (Nat.le_refl _)
          repeat' apply And.intro
          all_goals first
            | omega
            | exact bytesOK_byts _
            | exact k1
            | (refine k6 fun i h1 h2 h3 => ?_
               rw [u8_37] at h3
               by_cases q : i + 1 = a.length
               · have e : i = ((a.length : Int) - 1).toNat := by omega
                 rw [e] at h3
                 first | exact hc28 h3 | omega
               · have e : i = ((a.length : Int) - 2).toNat := by omega
                 rw [e] at h3
                 first | exact hc38 h3 | omega)

/-! The sets, byte by byte. -/

/-- A contract by another one. -/
theorem spec_via {P : Program} {f : FuncId} {s spec : Spec} (ok : SpecOK P f s) (h : ∀ args r q, spec args = some (r, q) → allP q → ∃ q', s args = some (r, q') ∧ allP q') : SpecOK P f spec :=
  fun args r q hs hq w κ vs hh hl hv => by
    obtain ⟨q', h1, h2⟩ := h args r q hs hq
    exact ok args r q' h1 h2 w κ vs hh hl hv

def inSpecD : Spec
  | [.c (.int .i64 s), .c (.int .u8 n)] => if 0 ≤ n ∧ n < 256 then some (.c (.bool (inI s n)), []) else none
  | _ => none
theorem inD_ok : SpecOK Try.prog 9 inSpecD := by
  refine spec_via in_ok fun args r q hs hq => ?_
  unfold inSpecD at hs
  split at hs
  · split at hs
    · rename_i h
      simp only [Option.some.injEq, Prod.mk.injEq] at hs
      obtain ⟨rfl, rfl⟩ := hs
      exact ⟨_, rfl, h.1, h.2, trivial⟩
    · simp at hs
  · simp at hs
def letSpecD : Spec
  | [.c (.int .u8 n)] => if 0 ≤ n ∧ n < 256 then some (.c (.bool (letterI n)), []) else none
  | _ => none
theorem letD_ok : SpecOK Try.prog 15 letSpecD := by
  refine spec_via letter_ok fun args r q hs hq => ?_
  unfold letSpecD at hs
  split at hs
  · split at hs
    · rename_i h
      simp only [Option.some.injEq, Prod.mk.injEq] at hs
      obtain ⟨rfl, rfl⟩ := hs
      exact ⟨_, rfl, h.1, h.2, trivial⟩
    · simp at hs
  · simp at hs
def digSpecD : Spec
  | [.c (.int .u8 n), .c (.int .i64 b)] => if 0 ≤ n ∧ n < 256 then some (.c (.int .i64 (digitI n b)), []) else none
  | _ => none
theorem digD_ok : SpecOK Try.prog 16 digSpecD := by
  refine spec_via digit_ok fun args r q hs hq => ?_
  unfold digSpecD at hs
  split at hs
  · split at hs
    · rename_i h
      simp only [Option.some.injEq, Prod.mk.injEq] at hs
      obtain ⟨rfl, rfl⟩ := hs
      exact ⟨_, rfl, h.1, h.2, trivial⟩
    · simp at hs
  · simp at hs

noncomputable def clD : CallT := aCall Try.prog (sgBy [(8, smallSpec), (9, inSpecD), (15, letSpecD), (16, digSpecD)]) 500 8
theorem clD_ok : CallOK Try.prog clD := aCall_ok mixed (sgBy_cons small_ok (sgBy_cons inD_ok (sgBy_cons letD_ok (sgBy_cons digD_ok sgBy_nil)))) 500 8

noncomputable def setsRun (n : Int) : Option (AV × List Prop) := lawOut (aBody Try.prog clD {} (lpBy []) 60 6 [.c (.int .u8 n)] [])

end Go.Proofs.Ytfaffnemfndkfaa
