/- The laws of numbers: what is read. -/
import Derived.Test.YtigglgobiofalaaNumL
namespace Go.Proofs.Ytigglgobiofalaa
open Go.RowKit Num Ieee
set_option linter.unusedVariables false
set_option linter.unusedSimpArgs false

theorem fin_some {m : Bool} {a r : List UInt8} {k : Nat} {q : Bool × List UInt8 × Int} (h : finF m a k r = some q) : q.1 = m ∧ q.2.1 = a ∧ a.length ≤ 15 ∧ -22 ≤ q.2.2 ∧ q.2.2 ≤ 22 := by
  unfold finF at h
  split at h
  · split at h
    · rename_i hh
      simp only [Option.some.injEq] at h
      subst h
      exact ⟨rfl, rfl, hh.2.1, hh.2.2.1, hh.2.2.2⟩
    · simp at h
  · simp at h
theorem body_some {m : Bool} {l : List UInt8} {q : Bool × List UInt8 × Int} (h : bodyF m l = some q) : allD q.2.1 = true ∧ q.2.1.length ≤ 15 ∧ -22 ≤ q.2.2 ∧ q.2.2 ≤ 22 := by
  unfold bodyF at h
  split at h
  · rename_i r hr
    split at h
    · simp at h
    · obtain ⟨_, h2, h3, h4⟩ := fin_some h
      exact ⟨by rw [h2, allD_app, tw_all, tw_all]; rfl, by rw [h2]; exact h3, h4⟩
  · obtain ⟨_, h2, h3, h4⟩ := fin_some h
    exact ⟨by rw [h2]; exact tw_all _, by rw [h2]; exact h3, h4⟩
theorem float_some {l : List UInt8} {q : Bool × List UInt8 × Int} (h : floatF l = some q) : allD q.2.1 = true ∧ q.2.1.length ≤ 15 ∧ -22 ≤ q.2.2 ∧ q.2.2 ≤ 22 := by
  unfold floatF at h
  split at h <;> exact body_some h

theorem fltW_nice (l : List UInt8) : NiceW (fltW (floatF l)) := by
  cases h : floatF l with
  | none => exact ⟨false, 0, 0, by omega, by omega, by omega, rfl⟩
  | some q =>
    obtain ⟨h1, h2, h3, h4⟩ := float_some h
    have hv := decV_len h1 15 h2
    exact ⟨q.1, decV q.2.1, q.2.2, Nat.le_of_lt hv, h3, h4, wordF_eq _ (Nat.le_of_lt hv) h3 h4⟩

noncomputable def clT : CallT := aCall Try.prog (sgBy [(8, smallSpec), (9, pwholeSpec), (10, wholeSpec), (11, pfloatSpec), (12, floatSpec), (13, alikeSpec), (14, lawDigSpec)]) 500 8
theorem clT_ok : CallOK Try.prog clT := aCall_ok mixed (sgBy_cons small_ok (sgBy_cons pwhole_ok (sgBy_cons rwhole_ok (sgBy_cons pfloat_ok (sgBy_cons rfloat_ok (sgBy_cons alike_ok (sgBy_cons lawDig_ok sgBy_nil))))))) 500 8

theorem reads_1 (l : List UInt8) (w : Nat) (g : Bool) : lawOut (aBody Try.prog clT ⟨true, bs [(15, true)] ++ (bs [(41, true), (46, true), (56, true)] ++ [(30, ⟨.c (.float .f64 w), none⟩), (31, ⟨.c (.bool g), none⟩), (35, ⟨.c (.float .f64 w), none⟩), (36, ⟨.c (.bool g), none⟩)])⟩ (lpBy ([])) 60 3 ([.c (str l)]) ([])) = some ((AV.c ((Value.bool true))), [((decide ((↑l.length : Int) > (100 : Int)) : Bool)) = (true)]) := by kernel_rfl

theorem reads_2 (l : List UInt8) (w : Nat) (g : Bool) : lawOut (aBody Try.prog clT ⟨true, bs [(15, false)] ++ (bs [(41, true), (46, true), (56, true)] ++ [(30, ⟨.c (.float .f64 w), none⟩), (31, ⟨.c (.bool g), none⟩), (35, ⟨.c (.float .f64 w), none⟩), (36, ⟨.c (.bool g), none⟩)])⟩ (lpBy ([])) 60 3 ([.c (str l)]) ([])) = some ((AV.c ((Value.bool true))), [((decide ((↑l.length : Int) > (100 : Int)) : Bool)) = (false),
 ((l.length : Nat) ≤ ((9223372036854775807 : Nat))),
 ((l.length : Nat) ≤ ((1000000000 : Nat))),
 ((l.length : Nat) ≤ ((9223372036854775807 : Nat))),
 avEq ((AV.c ((Value.float .f64 (fltW (floatF (sb { data := { toList := l } }))))))) ((AV.c ((Value.float .f64 w)))),
 (((floatF (sb { data := { toList := l } })).isSome : Bool)) = (g),
 ((l.length : Nat) ≤ ((999999980 : Nat))),
 avEq ((AV.c ((Value.float .f64 (fltW (floatF (sb { data := { toList := l } }))))))) ((AV.c ((Value.float .f64 w)))),
 (((floatF (sb { data := { toList := l } })).isSome : Bool)) = (g),
 (((↑(wV l) : Int) == (↑(wV l) : Int) : Bool)) = (true),
 ((wOK l == wOK l : Bool)) = (true),
 ((w : Nat)) = (w),
 NiceW w,
 ((g == g : Bool)) = (true)]) := by kernel_rfl

theorem reads_all (l : List UInt8) (w : Nat) (g : Bool) (h1 : fltW (floatF l) = w) (h2 : (floatF l).isSome = g) (h3 : NiceW w) : ∃ (h : Hints) (p : List Prop), lawOut (aBody Try.prog clT h (lpBy ([])) 60 3 ([.c (str l)]) ([])) = some (.c (.bool true), p) ∧ allP p := by
  cases hc15 : (decide ((↑l.length : Int) > (100 : Int)) : Bool) with
  | true =>
    have eR := reads_1 l w g
    refine ⟨_, _, eR.trans (congrArg (fun r => some (r, _)) ?_), ?_⟩
    · try clear eR
      rfl
    · try clear eR
      try simp only [decide_eq_true_eq, decide_eq_false_iff_not, beq_iff_eq, beq_eq_false_iff_ne, bne_iff_ne, bne_eq_false_iff_eq, ne_eq] at hc15
      try simp only [toNat0, toNat1, toNat2, Int.toNat_natCast, sb_mk] at hc15
      simp (disch := omega) only [allP, sb_mk, sl1, toNat0, toNat1, toNat2, Int.toNat_natCast, List.take_length, List.take_succ_cons, List.drop_succ_cons, List.drop_zero, List.take_zero, List.length_cons, List.length_nil, List.getD_cons_zero, i64_wrap, i32_wrap, u8_wrap, u32_wrap, tdN, tmN, i64_min, i64_max, u8_min, u8_max, decide_eq_true_eq, decide_eq_false_iff_not, beq_iff_eq, beq_eq_false_iff_ne, bne_iff_ne, bne_eq_false_iff_eq, ne_eq, not_false_eq_true, and_true, true_and, Int.zero_sub, beq_self_eq_true]
      repeat' apply And.intro
      all_goals first | exact True.intro | omega | with_reducible rfl | with_reducible assumption | exact av_f h1 | exact h1 | exact h2 | exact h3 | rfl
  | false =>
    have eR := reads_2 l w g
    refine ⟨_, _, eR.trans (congrArg (fun r => some (r, _)) ?_), ?_⟩
    · try clear eR
      rfl
    · try clear eR
      try simp only [decide_eq_true_eq, decide_eq_false_iff_not, beq_iff_eq, beq_eq_false_iff_ne, bne_iff_ne, bne_eq_false_iff_eq, ne_eq] at hc15
      try simp only [toNat0, toNat1, toNat2, Int.toNat_natCast, sb_mk] at hc15
      simp (disch := omega) only [allP, sb_mk, sl1, toNat0, toNat1, toNat2, Int.toNat_natCast, List.take_length, List.take_succ_cons, List.drop_succ_cons, List.drop_zero, List.take_zero, List.length_cons, List.length_nil, List.getD_cons_zero, i64_wrap, i32_wrap, u8_wrap, u32_wrap, tdN, tmN, i64_min, i64_max, u8_min, u8_max, decide_eq_true_eq, decide_eq_false_iff_not, beq_iff_eq, beq_eq_false_iff_ne, bne_iff_ne, bne_eq_false_iff_eq, ne_eq, not_false_eq_true, and_true, true_and, Int.zero_sub, beq_self_eq_true]
      repeat' apply And.intro
      all_goals first | exact True.intro | omega | with_reducible rfl | with_reducible assumption | exact av_f h1 | exact h1 | exact h2 | exact h3 | rfl

/-! A number's digits. -/
theorem word_int (m : Bool) {v : Nat} (h : v ≤ 10 ^ 15) : WE m v 0 = if m = true ∧ v ≠ 0 then Op.negFloat .f64 (floatOfInt .f64 (v : Int)) else floatOfInt .f64 (v : Int) := by
  unfold WE
  by_cases h0 : v = 0
  · subst h0
    rw [if_pos rfl, if_neg (by simp)]
    rfl
  · have hv := Nat.lt_of_le_of_lt h p15
    obtain ⟨e1, e2⟩ := int_word false h0 hv
    have e0 : sgI false v = (v : Int) := rfl
    rw [e0] at e1
    have er : RE v 0 = Flt.rung v 0 := by
      unfold RE
      rw [if_neg (by omega)]
      unfold RM
      have k1 : pn (0 : Int).natAbs = 2 ^ 52 := by decide +kernel
      have k2 : pj (0 : Int).natAbs = 0 - ((52 : Nat) : Int) := by decide +kernel
      rw [k1, k2]
      exact Flt.rung_shift h0 0 52
    rw [if_neg h0, er, e1]
    cases m with
    | false => rw [if_neg (by simp)]
    | true => rw [if_pos ⟨rfl, h0⟩, neg_word e2]

theorem digZ_w {n z : Nat} (h : n ≤ 9223372036854775807) : allD (digZ n z) = true ∧ decV (digZ n z) = n ∧ digZ n z ≠ [] ∧ wV (digZ n z) = n ∧ wOK (digZ n z) = true := by
  obtain ⟨h1, h2, h3, _⟩ := digZ_ok z (Nat.lt_of_le_of_lt h (show 9223372036854775807 < 10 ^ 20 by decide))
  refine ⟨h1, h2, h3, ?_, wOK_iff.2 ⟨h3, h1⟩⟩
  unfold wV satV maxN
  rw [if_pos h1, h2]
  omega
theorem decV_app_one (l : List UInt8) {d : Nat} (hd : d ≤ 9) : decV (l ++ digZ d 0) = 10 * decV l + d := by
  have e : digZ d 0 = [UInt8.ofNat (48 + d)] := by
    show digF d = _
    rw [digF_step (Nat.lt_of_le_of_lt hd (by decide)), if_pos (by omega)]
  rw [e, decV_snoc, (isD_ofNat (by omega)).2]
theorem digZ_more {n z d : Nat} (h : n ≤ 9223372036854775807) (hd : d ≤ 9) : wV (digZ n z ++ digZ d 0) = min 9223372036854775807 (10 * n + d) ∧ wOK (digZ n z ++ digZ d 0) = true := by
  obtain ⟨h1, h2, h3, _⟩ := digZ_w (z := z) h
  obtain ⟨k1, k2, k3, _⟩ := digZ_w (n := d) (z := 0) (by omega)
  have ha : allD (digZ n z ++ digZ d 0) = true := by rw [allD_app, h1, k1]; rfl
  refine ⟨?_, wOK_iff.2 ⟨by simp [h3], ha⟩⟩
  unfold wV satV maxN
  rw [if_pos ha, decV_app_one _ hd, h2]
theorem digZ_len {n z : Nat} (h : n ≤ 9223372036854775807) : (digZ n z).length ≤ z + 20 := by
  obtain ⟨_, _, _, h4⟩ := digZ_ok (n := n) z (Nat.lt_of_le_of_lt h (show 9223372036854775807 < 10 ^ 20 by decide))
  exact h4 19 (Nat.lt_of_le_of_lt h (show 9223372036854775807 < 10 ^ 20 by decide))

theorem whole0_1 (n z d : Int) : lawOut (aBody Try.prog clT ⟨true, bs [(17, true)] ++ ([])⟩ (lpBy ([])) 60 4 ([.c (.int .i64 n), .c (.int .i64 z), .c (.int .i64 d)]) ([])) = some ((AV.c ((Value.bool true))), [((decide (n < (0 : Int)) : Bool)) = (true)]) := by kernel_rfl

theorem whole0_2 (n z d : Int) : lawOut (aBody Try.prog clT ⟨true, bs [(17, false), (20, true)] ++ ([])⟩ (lpBy ([])) 60 4 ([.c (.int .i64 n), .c (.int .i64 z), .c (.int .i64 d)]) ([])) = some ((AV.c ((Value.bool true))), [((decide (n < (0 : Int)) : Bool)) = (false),
 ((decide (z < (0 : Int)) : Bool)) = (true)]) := by kernel_rfl

theorem whole0_3 (n z d : Int) : lawOut (aBody Try.prog clT ⟨true, bs [(17, false), (20, false), (24, true)] ++ ([])⟩ (lpBy ([])) 60 4 ([.c (.int .i64 n), .c (.int .i64 z), .c (.int .i64 d)]) ([])) = some ((AV.c ((Value.bool true))), [((decide (n < (0 : Int)) : Bool)) = (false),
 ((decide (z < (0 : Int)) : Bool)) = (false),
 ((decide (z > (30 : Int)) : Bool)) = (true)]) := by kernel_rfl

theorem whole0_4 (n z d : Int) : lawOut (aBody Try.prog clT ⟨true, bs [(17, false), (20, false), (24, false), (28, true)] ++ ([])⟩ (lpBy ([])) 60 4 ([.c (.int .i64 n), .c (.int .i64 z), .c (.int .i64 d)]) ([])) = some ((AV.c ((Value.bool true))), [((decide (n < (0 : Int)) : Bool)) = (false),
 ((decide (z < (0 : Int)) : Bool)) = (false),
 ((decide (z > (30 : Int)) : Bool)) = (false),
 ((decide (d < (0 : Int)) : Bool)) = (true)]) := by kernel_rfl

theorem whole0_5 (n z d : Int) : lawOut (aBody Try.prog clT ⟨true, bs [(17, false), (20, false), (24, false), (28, false), (32, true)] ++ ([])⟩ (lpBy ([])) 60 4 ([.c (.int .i64 n), .c (.int .i64 z), .c (.int .i64 d)]) ([])) = some ((AV.c ((Value.bool true))), [((decide (n < (0 : Int)) : Bool)) = (false),
 ((decide (z < (0 : Int)) : Bool)) = (false),
 ((decide (z > (30 : Int)) : Bool)) = (false),
 ((decide (d < (0 : Int)) : Bool)) = (false),
 ((decide (d > (9 : Int)) : Bool)) = (true)]) := by kernel_rfl

theorem whole0_all (n z d : Int) (h0 : n < 0 ∨ z < 0 ∨ z > 30 ∨ d < 0 ∨ d > 9) : ∃ (h : Hints) (p : List Prop), lawOut (aBody Try.prog clT h (lpBy ([])) 60 4 ([.c (.int .i64 n), .c (.int .i64 z), .c (.int .i64 d)]) ([])) = some (.c (.bool true), p) ∧ allP p := by
  cases hc17 : (decide (n < (0 : Int)) : Bool) with
  | true =>
    have eR := whole0_1 n z d
    refine ⟨_, _, eR.trans (congrArg (fun r => some (r, _)) ?_), ?_⟩
    · try clear eR
      rfl
    · try clear eR
      try simp only [decide_eq_true_eq, decide_eq_false_iff_not, beq_iff_eq, beq_eq_false_iff_ne, bne_iff_ne, bne_eq_false_iff_eq, ne_eq] at hc17
      try simp only [toNat0, toNat1, toNat2, Int.toNat_natCast, sb_mk] at hc17
      simp (disch := omega) only [allP, sb_mk, sl1, toNat0, toNat1, toNat2, Int.toNat_natCast, List.take_length, List.take_succ_cons, List.drop_succ_cons, List.drop_zero, List.take_zero, List.length_cons, List.length_nil, List.getD_cons_zero, i64_wrap, i32_wrap, u8_wrap, u32_wrap, tdN, tmN, i64_min, i64_max, u8_min, u8_max, decide_eq_true_eq, decide_eq_false_iff_not, beq_iff_eq, beq_eq_false_iff_ne, bne_iff_ne, bne_eq_false_iff_eq, ne_eq, not_false_eq_true, and_true, true_and, Int.zero_sub]
      repeat' apply And.intro
      all_goals first | exact True.intro | omega | with_reducible rfl | with_reducible assumption | rfl
  | false =>
    cases hc20 : (decide (z < (0 : Int)) : Bool) with
    | true =>
      have eR := whole0_2 n z d
      refine ⟨_, _, eR.trans (congrArg (fun r => some (r, _)) ?_), ?_⟩
      · try clear eR
        rfl
      · try clear eR
        try simp only [decide_eq_true_eq, decide_eq_false_iff_not, beq_iff_eq, beq_eq_false_iff_ne, bne_iff_ne, bne_eq_false_iff_eq, ne_eq] at hc17
        try simp only [toNat0, toNat1, toNat2, Int.toNat_natCast, sb_mk] at hc17
        try simp only [decide_eq_true_eq, decide_eq_false_iff_not, beq_iff_eq, beq_eq_false_iff_ne, bne_iff_ne, bne_eq_false_iff_eq, ne_eq] at hc20
        try simp only [toNat0, toNat1, toNat2, Int.toNat_natCast, sb_mk] at hc20
        simp (disch := omega) only [allP, sb_mk, sl1, toNat0, toNat1, toNat2, Int.toNat_natCast, List.take_length, List.take_succ_cons, List.drop_succ_cons, List.drop_zero, List.take_zero, List.length_cons, List.length_nil, List.getD_cons_zero, i64_wrap, i32_wrap, u8_wrap, u32_wrap, tdN, tmN, i64_min, i64_max, u8_min, u8_max, decide_eq_true_eq, decide_eq_false_iff_not, beq_iff_eq, beq_eq_false_iff_ne, bne_iff_ne, bne_eq_false_iff_eq, ne_eq, not_false_eq_true, and_true, true_and, Int.zero_sub]
        repeat' apply And.intro
        all_goals first | exact True.intro | omega | with_reducible rfl | with_reducible assumption | rfl
    | false =>
      cases hc24 : (decide (z > (30 : Int)) : Bool) with
      | true =>
        have eR := whole0_3 n z d
        refine ⟨_, _, eR.trans (congrArg (fun r => some (r, _)) ?_), ?_⟩
        · try clear eR
          rfl
        · try clear eR
          try simp only [decide_eq_true_eq, decide_eq_false_iff_not, beq_iff_eq, beq_eq_false_iff_ne, bne_iff_ne, bne_eq_false_iff_eq, ne_eq] at hc17
          try simp only [toNat0, toNat1, toNat2, Int.toNat_natCast, sb_mk] at hc17
          try simp only [decide_eq_true_eq, decide_eq_false_iff_not, beq_iff_eq, beq_eq_false_iff_ne, bne_iff_ne, bne_eq_false_iff_eq, ne_eq] at hc20
          try simp only [toNat0, toNat1, toNat2, Int.toNat_natCast, sb_mk] at hc20
          try simp only [decide_eq_true_eq, decide_eq_false_iff_not, beq_iff_eq, beq_eq_false_iff_ne, bne_iff_ne, bne_eq_false_iff_eq, ne_eq] at hc24
          try simp only [toNat0, toNat1, toNat2, Int.toNat_natCast, sb_mk] at hc24
          simp (disch := omega) only [allP, sb_mk, sl1, toNat0, toNat1, toNat2, Int.toNat_natCast, List.take_length, List.take_succ_cons, List.drop_succ_cons, List.drop_zero, List.take_zero, List.length_cons, List.length_nil, List.getD_cons_zero, i64_wrap, i32_wrap, u8_wrap, u32_wrap, tdN, tmN, i64_min, i64_max, u8_min, u8_max, decide_eq_true_eq, decide_eq_false_iff_not, beq_iff_eq, beq_eq_false_iff_ne, bne_iff_ne, bne_eq_false_iff_eq, ne_eq, not_false_eq_true, and_true, true_and, Int.zero_sub]
          repeat' apply And.intro
          all_goals first | exact True.intro | omega | with_reducible rfl | with_reducible assumption | rfl
      | false =>
        cases hc28 : (decide (d < (0 : Int)) : Bool) with
        | true =>
          have eR := whole0_4 n z d
          refine ⟨_, _, eR.trans (congrArg (fun r => some (r, _)) ?_), ?_⟩
          · try clear eR
            rfl
          · try clear eR
            try simp only [decide_eq_true_eq, decide_eq_false_iff_not, beq_iff_eq, beq_eq_false_iff_ne, bne_iff_ne, bne_eq_false_iff_eq, ne_eq] at hc17
            try simp only [toNat0, toNat1, toNat2, Int.toNat_natCast, sb_mk] at hc17
            try simp only [decide_eq_true_eq, decide_eq_false_iff_not, beq_iff_eq, beq_eq_false_iff_ne, bne_iff_ne, bne_eq_false_iff_eq, ne_eq] at hc20
            try simp only [toNat0, toNat1, toNat2, Int.toNat_natCast, sb_mk] at hc20
            try simp only [decide_eq_true_eq, decide_eq_false_iff_not, beq_iff_eq, beq_eq_false_iff_ne, bne_iff_ne, bne_eq_false_iff_eq, ne_eq] at hc24
            try simp only [toNat0, toNat1, toNat2, Int.toNat_natCast, sb_mk] at hc24
            try simp only [decide_eq_true_eq, decide_eq_false_iff_not, beq_iff_eq, beq_eq_false_iff_ne, bne_iff_ne, bne_eq_false_iff_eq, ne_eq] at hc28
            try simp only [toNat0, toNat1, toNat2, Int.toNat_natCast, sb_mk] at hc28
            simp (disch := omega) only [allP, sb_mk, sl1, toNat0, toNat1, toNat2, Int.toNat_natCast, List.take_length, List.take_succ_cons, List.drop_succ_cons, List.drop_zero, List.take_zero, List.length_cons, List.length_nil, List.getD_cons_zero, i64_wrap, i32_wrap, u8_wrap, u32_wrap, tdN, tmN, i64_min, i64_max, u8_min, u8_max, decide_eq_true_eq, decide_eq_false_iff_not, beq_iff_eq, beq_eq_false_iff_ne, bne_iff_ne, bne_eq_false_iff_eq, ne_eq, not_false_eq_true, and_true, true_and, Int.zero_sub]
            repeat' apply And.intro
            all_goals first | exact True.intro | omega | with_reducible rfl | with_reducible assumption | rfl
        | false =>
          have eR := whole0_5 n z d
          refine ⟨_, _, eR.trans (congrArg (fun r => some (r, _)) ?_), ?_⟩
          · try clear eR
            rfl
          · try clear eR
            try simp only [decide_eq_true_eq, decide_eq_false_iff_not, beq_iff_eq, beq_eq_false_iff_ne, bne_iff_ne, bne_eq_false_iff_eq, ne_eq] at hc17
            try simp only [toNat0, toNat1, toNat2, Int.toNat_natCast, sb_mk] at hc17
            try simp only [decide_eq_true_eq, decide_eq_false_iff_not, beq_iff_eq, beq_eq_false_iff_ne, bne_iff_ne, bne_eq_false_iff_eq, ne_eq] at hc20
            try simp only [toNat0, toNat1, toNat2, Int.toNat_natCast, sb_mk] at hc20
            try simp only [decide_eq_true_eq, decide_eq_false_iff_not, beq_iff_eq, beq_eq_false_iff_ne, bne_iff_ne, bne_eq_false_iff_eq, ne_eq] at hc24
            try simp only [toNat0, toNat1, toNat2, Int.toNat_natCast, sb_mk] at hc24
            try simp only [decide_eq_true_eq, decide_eq_false_iff_not, beq_iff_eq, beq_eq_false_iff_ne, bne_iff_ne, bne_eq_false_iff_eq, ne_eq] at hc28
            try simp only [toNat0, toNat1, toNat2, Int.toNat_natCast, sb_mk] at hc28
            simp (disch := omega) only [allP, sb_mk, sl1, toNat0, toNat1, toNat2, Int.toNat_natCast, List.take_length, List.take_succ_cons, List.drop_succ_cons, List.drop_zero, List.take_zero, List.length_cons, List.length_nil, List.getD_cons_zero, i64_wrap, i32_wrap, u8_wrap, u32_wrap, tdN, tmN, i64_min, i64_max, u8_min, u8_max, decide_eq_true_eq, decide_eq_false_iff_not, beq_iff_eq, beq_eq_false_iff_ne, bne_iff_ne, bne_eq_false_iff_eq, ne_eq, not_false_eq_true, and_true, true_and, Int.zero_sub]
            repeat' apply And.intro
            all_goals first | exact True.intro | omega | with_reducible rfl | with_reducible assumption | rfl

theorem whole_1 (n z d c q : Int) (s t : List UInt8) (w : Nat) (g : Bool) : lawOut (aBody Try.prog clT ⟨true, bs [(17, false), (20, false), (24, false), (28, false), (32, false), (60, true), (74, false), (101, true)] ++ (bs [(67, false), (77, false), (84, true), (97, true), (106, true)] ++ [(37, ⟨.c (str s), none⟩), (41, ⟨.c (.int .i64 n), none⟩), (42, ⟨.c (.bool true), none⟩), (47, ⟨.c (str t), none⟩), (49, ⟨.c (.int .i64 c), none⟩), (50, ⟨.c (.bool true), none⟩), (54, ⟨.c (.float .f64 w), none⟩), (55, ⟨.c (.bool g), none⟩), (59, ⟨.c (.int .i64 q), none⟩), (73, ⟨.c (.int .i64 q), none⟩)])⟩ (lpBy ([])) 60 4 ([.c (.int .i64 n), .c (.int .i64 z), .c (.int .i64 d)]) ([])) = some ((AV.c ((Value.bool true))), [((decide (n < (0 : Int)) : Bool)) = (false),
 ((decide (z < (0 : Int)) : Bool)) = (false),
 ((decide (z > (30 : Int)) : Bool)) = (false),
 ((decide (d < (0 : Int)) : Bool)) = (false),
 ((decide (d > (9 : Int)) : Bool)) = (false),
 (0 : Int) ≤ n ∧ n ≤ (9223372036854775807 : Int),
 (0 : Int) ≤ z ∧ z ≤ (1000 : Int),
 ((digZ n.toNat z.toNat : List UInt8)) = (s),
 ((s.length : Nat) ≤ ((9223372036854775807 : Nat))),
 (((↑(wV s) : Int) : Int)) = (n),
 ((wOK s : Bool)) = (true),
 (0 : Int) ≤ d ∧ d ≤ (9223372036854775807 : Int),
 (0 : Int) ≤ (0 : Int) ∧ (0 : Int) ≤ (1000 : Int),
 ((s.length + (digZ d.toNat (Int.toNat (0 : Int))).length : Nat) ≤ ((9223372036854775807 : Nat))),
 ((s ++ digZ d.toNat (Int.toNat (0 : Int)) : List UInt8)) = (t),
 ((t.length : Nat) ≤ ((9223372036854775807 : Nat))),
 (((↑(wV t) : Int) : Int)) = (c),
 ((wOK t : Bool)) = (true),
 ((s.length : Nat) ≤ ((9223372036854775807 : Nat))),
 avEq ((AV.c ((Value.float .f64 (fltW (floatF (sb { data := { toList := s } }))))))) ((AV.c ((Value.float .f64 w)))),
 (((floatF (sb { data := { toList := s } })).isSome : Bool)) = (g),
 ((IntKind.i64.min : Int) ≤ ((9223372036854775807 : Int) - d)),
 (((9223372036854775807 : Int) - d : Int) ≤ (IntKind.i64.max)),
 ((IntKind.i64.wrap (((9223372036854775807 : Int) - d).tdiv (10 : Int)) : Int)) = (q),
 ((decide (n ≤ q) : Bool)) = (true),
 ((IntKind.i64.min : Int) ≤ ((10 : Int) * n)),
 (((10 : Int) * n : Int) ≤ (IntKind.i64.max)),
 ((IntKind.i64.min : Int) ≤ ((10 : Int) * n + d)),
 (((10 : Int) * n + d : Int) ≤ (IntKind.i64.max)),
 ((c != (10 : Int) * n + d : Bool)) = (false),
 ((IntKind.i64.min : Int) ≤ ((9223372036854775807 : Int) - d)),
 (((9223372036854775807 : Int) - d : Int) ≤ (IntKind.i64.max)),
 ((IntKind.i64.wrap (((9223372036854775807 : Int) - d).tdiv (10 : Int)) : Int)) = (q),
 ((decide (n > q) : Bool)) = (false),
 ((n == n : Bool)) = (true),
 ((g == decide ((↑s.length : Int) ≤ (15 : Int)) : Bool)) = (true),
 ((!g : Bool)) = (true)]) := by kernel_rfl

theorem whole_2 (n z d c q : Int) (s t : List UInt8) (w : Nat) (g : Bool) : lawOut (aBody Try.prog clT ⟨true, bs [(17, false), (20, false), (24, false), (28, false), (32, false), (60, true), (74, false), (101, false)] ++ (bs [(67, false), (77, false), (84, true), (97, true), (106, true)] ++ [(37, ⟨.c (str s), none⟩), (41, ⟨.c (.int .i64 n), none⟩), (42, ⟨.c (.bool true), none⟩), (47, ⟨.c (str t), none⟩), (49, ⟨.c (.int .i64 c), none⟩), (50, ⟨.c (.bool true), none⟩), (54, ⟨.c (.float .f64 w), none⟩), (55, ⟨.c (.bool g), none⟩), (59, ⟨.c (.int .i64 q), none⟩), (73, ⟨.c (.int .i64 q), none⟩)])⟩ (lpBy ([])) 60 4 ([.c (.int .i64 n), .c (.int .i64 z), .c (.int .i64 d)]) ([])) = some ((AV.c ((Value.bool true))), [((decide (n < (0 : Int)) : Bool)) = (false),
 ((decide (z < (0 : Int)) : Bool)) = (false),
 ((decide (z > (30 : Int)) : Bool)) = (false),
 ((decide (d < (0 : Int)) : Bool)) = (false),
 ((decide (d > (9 : Int)) : Bool)) = (false),
 (0 : Int) ≤ n ∧ n ≤ (9223372036854775807 : Int),
 (0 : Int) ≤ z ∧ z ≤ (1000 : Int),
 ((digZ n.toNat z.toNat : List UInt8)) = (s),
 ((s.length : Nat) ≤ ((9223372036854775807 : Nat))),
 (((↑(wV s) : Int) : Int)) = (n),
 ((wOK s : Bool)) = (true),
 (0 : Int) ≤ d ∧ d ≤ (9223372036854775807 : Int),
 (0 : Int) ≤ (0 : Int) ∧ (0 : Int) ≤ (1000 : Int),
 ((s.length + (digZ d.toNat (Int.toNat (0 : Int))).length : Nat) ≤ ((9223372036854775807 : Nat))),
 ((s ++ digZ d.toNat (Int.toNat (0 : Int)) : List UInt8)) = (t),
 ((t.length : Nat) ≤ ((9223372036854775807 : Nat))),
 (((↑(wV t) : Int) : Int)) = (c),
 ((wOK t : Bool)) = (true),
 ((s.length : Nat) ≤ ((9223372036854775807 : Nat))),
 avEq ((AV.c ((Value.float .f64 (fltW (floatF (sb { data := { toList := s } }))))))) ((AV.c ((Value.float .f64 w)))),
 (((floatF (sb { data := { toList := s } })).isSome : Bool)) = (g),
 ((IntKind.i64.min : Int) ≤ ((9223372036854775807 : Int) - d)),
 (((9223372036854775807 : Int) - d : Int) ≤ (IntKind.i64.max)),
 ((IntKind.i64.wrap (((9223372036854775807 : Int) - d).tdiv (10 : Int)) : Int)) = (q),
 ((decide (n ≤ q) : Bool)) = (true),
 ((IntKind.i64.min : Int) ≤ ((10 : Int) * n)),
 (((10 : Int) * n : Int) ≤ (IntKind.i64.max)),
 ((IntKind.i64.min : Int) ≤ ((10 : Int) * n + d)),
 (((10 : Int) * n + d : Int) ≤ (IntKind.i64.max)),
 ((c != (10 : Int) * n + d : Bool)) = (false),
 ((IntKind.i64.min : Int) ≤ ((9223372036854775807 : Int) - d)),
 (((9223372036854775807 : Int) - d : Int) ≤ (IntKind.i64.max)),
 ((IntKind.i64.wrap (((9223372036854775807 : Int) - d).tdiv (10 : Int)) : Int)) = (q),
 ((decide (n > q) : Bool)) = (false),
 ((n == n : Bool)) = (true),
 ((g == decide ((↑s.length : Int) ≤ (15 : Int)) : Bool)) = (true),
 ((!g : Bool)) = (false),
 ((FloatKind.f64.format.order w (floatOfInt FloatKind.f64 n) == some Ordering.eq : Bool)) = (true)]) := by kernel_rfl

theorem whole_3 (n z d c q : Int) (s t : List UInt8) (w : Nat) (g : Bool) : lawOut (aBody Try.prog clT ⟨true, bs [(17, false), (20, false), (24, false), (28, false), (32, false), (60, false), (74, true), (101, true)] ++ (bs [(67, false), (77, false), (84, true), (97, true), (106, true)] ++ [(37, ⟨.c (str s), none⟩), (41, ⟨.c (.int .i64 n), none⟩), (42, ⟨.c (.bool true), none⟩), (47, ⟨.c (str t), none⟩), (49, ⟨.c (.int .i64 c), none⟩), (50, ⟨.c (.bool true), none⟩), (54, ⟨.c (.float .f64 w), none⟩), (55, ⟨.c (.bool g), none⟩), (59, ⟨.c (.int .i64 q), none⟩), (73, ⟨.c (.int .i64 q), none⟩)])⟩ (lpBy ([])) 60 4 ([.c (.int .i64 n), .c (.int .i64 z), .c (.int .i64 d)]) ([])) = some ((AV.c ((Value.bool true))), [((decide (n < (0 : Int)) : Bool)) = (false),
 ((decide (z < (0 : Int)) : Bool)) = (false),
 ((decide (z > (30 : Int)) : Bool)) = (false),
 ((decide (d < (0 : Int)) : Bool)) = (false),
 ((decide (d > (9 : Int)) : Bool)) = (false),
 (0 : Int) ≤ n ∧ n ≤ (9223372036854775807 : Int),
 (0 : Int) ≤ z ∧ z ≤ (1000 : Int),
 ((digZ n.toNat z.toNat : List UInt8)) = (s),
 ((s.length : Nat) ≤ ((9223372036854775807 : Nat))),
 (((↑(wV s) : Int) : Int)) = (n),
 ((wOK s : Bool)) = (true),
 (0 : Int) ≤ d ∧ d ≤ (9223372036854775807 : Int),
 (0 : Int) ≤ (0 : Int) ∧ (0 : Int) ≤ (1000 : Int),
 ((s.length + (digZ d.toNat (Int.toNat (0 : Int))).length : Nat) ≤ ((9223372036854775807 : Nat))),
 ((s ++ digZ d.toNat (Int.toNat (0 : Int)) : List UInt8)) = (t),
 ((t.length : Nat) ≤ ((9223372036854775807 : Nat))),
 (((↑(wV t) : Int) : Int)) = (c),
 ((wOK t : Bool)) = (true),
 ((s.length : Nat) ≤ ((9223372036854775807 : Nat))),
 avEq ((AV.c ((Value.float .f64 (fltW (floatF (sb { data := { toList := s } }))))))) ((AV.c ((Value.float .f64 w)))),
 (((floatF (sb { data := { toList := s } })).isSome : Bool)) = (g),
 ((IntKind.i64.min : Int) ≤ ((9223372036854775807 : Int) - d)),
 (((9223372036854775807 : Int) - d : Int) ≤ (IntKind.i64.max)),
 ((IntKind.i64.wrap (((9223372036854775807 : Int) - d).tdiv (10 : Int)) : Int)) = (q),
 ((decide (n ≤ q) : Bool)) = (false),
 ((IntKind.i64.min : Int) ≤ ((9223372036854775807 : Int) - d)),
 (((9223372036854775807 : Int) - d : Int) ≤ (IntKind.i64.max)),
 ((IntKind.i64.wrap (((9223372036854775807 : Int) - d).tdiv (10 : Int)) : Int)) = (q),
 ((decide (n > q) : Bool)) = (true),
 ((c != (9223372036854775807 : Int) : Bool)) = (false),
 ((n == n : Bool)) = (true),
 ((g == decide ((↑s.length : Int) ≤ (15 : Int)) : Bool)) = (true),
 ((!g : Bool)) = (true)]) := by kernel_rfl

theorem whole_4 (n z d c q : Int) (s t : List UInt8) (w : Nat) (g : Bool) : lawOut (aBody Try.prog clT ⟨true, bs [(17, false), (20, false), (24, false), (28, false), (32, false), (60, false), (74, true), (101, false)] ++ (bs [(67, false), (77, false), (84, true), (97, true), (106, true)] ++ [(37, ⟨.c (str s), none⟩), (41, ⟨.c (.int .i64 n), none⟩), (42, ⟨.c (.bool true), none⟩), (47, ⟨.c (str t), none⟩), (49, ⟨.c (.int .i64 c), none⟩), (50, ⟨.c (.bool true), none⟩), (54, ⟨.c (.float .f64 w), none⟩), (55, ⟨.c (.bool g), none⟩), (59, ⟨.c (.int .i64 q), none⟩), (73, ⟨.c (.int .i64 q), none⟩)])⟩ (lpBy ([])) 60 4 ([.c (.int .i64 n), .c (.int .i64 z), .c (.int .i64 d)]) ([])) = some ((AV.c ((Value.bool true))), [((decide (n < (0 : Int)) : Bool)) = (false),
 ((decide (z < (0 : Int)) : Bool)) = (false),
 ((decide (z > (30 : Int)) : Bool)) = (false),
 ((decide (d < (0 : Int)) : Bool)) = (false),
 ((decide (d > (9 : Int)) : Bool)) = (false),
 (0 : Int) ≤ n ∧ n ≤ (9223372036854775807 : Int),
 (0 : Int) ≤ z ∧ z ≤ (1000 : Int),
 ((digZ n.toNat z.toNat : List UInt8)) = (s),
 ((s.length : Nat) ≤ ((9223372036854775807 : Nat))),
 (((↑(wV s) : Int) : Int)) = (n),
 ((wOK s : Bool)) = (true),
 (0 : Int) ≤ d ∧ d ≤ (9223372036854775807 : Int),
 (0 : Int) ≤ (0 : Int) ∧ (0 : Int) ≤ (1000 : Int),
 ((s.length + (digZ d.toNat (Int.toNat (0 : Int))).length : Nat) ≤ ((9223372036854775807 : Nat))),
 ((s ++ digZ d.toNat (Int.toNat (0 : Int)) : List UInt8)) = (t),
 ((t.length : Nat) ≤ ((9223372036854775807 : Nat))),
 (((↑(wV t) : Int) : Int)) = (c),
 ((wOK t : Bool)) = (true),
 ((s.length : Nat) ≤ ((9223372036854775807 : Nat))),
 avEq ((AV.c ((Value.float .f64 (fltW (floatF (sb { data := { toList := s } }))))))) ((AV.c ((Value.float .f64 w)))),
 (((floatF (sb { data := { toList := s } })).isSome : Bool)) = (g),
 ((IntKind.i64.min : Int) ≤ ((9223372036854775807 : Int) - d)),
 (((9223372036854775807 : Int) - d : Int) ≤ (IntKind.i64.max)),
 ((IntKind.i64.wrap (((9223372036854775807 : Int) - d).tdiv (10 : Int)) : Int)) = (q),
 ((decide (n ≤ q) : Bool)) = (false),
 ((IntKind.i64.min : Int) ≤ ((9223372036854775807 : Int) - d)),
 (((9223372036854775807 : Int) - d : Int) ≤ (IntKind.i64.max)),
 ((IntKind.i64.wrap (((9223372036854775807 : Int) - d).tdiv (10 : Int)) : Int)) = (q),
 ((decide (n > q) : Bool)) = (true),
 ((c != (9223372036854775807 : Int) : Bool)) = (false),
 ((n == n : Bool)) = (true),
 ((g == decide ((↑s.length : Int) ≤ (15 : Int)) : Bool)) = (true),
 ((!g : Bool)) = (false),
 ((FloatKind.f64.format.order w (floatOfInt FloatKind.f64 n) == some Ordering.eq : Bool)) = (true)]) := by kernel_rfl

theorem whole_all (n z d c q : Int) (s t : List UInt8) (w : Nat) (g : Bool) (g0 : 0 ≤ n) (g1 : n ≤ 9223372036854775807) (g2 : 0 ≤ z) (g3 : z ≤ 30) (g4 : 0 ≤ d) (g5 : d ≤ 9) (hs : digZ n.toNat z.toNat = s) (ht : s ++ digZ d.toNat 0 = t) (w1 : (wV s : Int) = n) (w2 : wOK s = true) (w3 : (wV t : Int) = c) (w4 : wOK t = true) (f1 : fltW (floatF s) = w) (f2 : (floatF s).isSome = g) (c1 : n ≤ q → c = 10 * n + d) (c2 : ¬ n ≤ q → c = 9223372036854775807) (gl : g = decide ((s.length : Int) ≤ 15)) (fw : g = true → Ieee.double.order w (floatOfInt .f64 n) = some .eq) (sl : s.length ≤ 100) (tl : t.length ≤ 100) (sl2 : (sb ⟨⟨s⟩⟩).length + (digZ d.toNat 0).length ≤ 100) (q2 : 10 * q ≤ 9223372036854775807 - d) (q3 : 9223372036854775807 - d < 10 * q + 10) : ∃ (h : Hints) (p : List Prop), lawOut (aBody Try.prog clT h (lpBy ([])) 60 4 ([.c (.int .i64 n), .c (.int .i64 z), .c (.int .i64 d)]) ([])) = some (.c (.bool true), p) ∧ allP p := by
  cases hc60 : (decide (n ≤ q) : Bool) with
  | true =>
    cases hc101 : (!g : Bool) with
    | true =>
      have eR := whole_1 n z d c q s t w g
      refine ⟨_, _, eR.trans (congrArg (fun r => some (r, _)) ?_), ?_⟩
      · try clear eR
        rfl
      · try clear eR
        try simp only [decide_eq_true_eq, decide_eq_false_iff_not, beq_iff_eq, beq_eq_false_iff_ne, bne_iff_ne, bne_eq_false_iff_eq, ne_eq] at hc60
        try simp only [toNat0, toNat1, toNat2, Int.toNat_natCast, sb_mk] at hc60
        try simp only [decide_eq_true_eq, decide_eq_false_iff_not, beq_iff_eq, beq_eq_false_iff_ne, bne_iff_ne, bne_eq_false_iff_eq, ne_eq] at hc101
        try simp only [toNat0, toNat1, toNat2, Int.toNat_natCast, sb_mk] at hc101
        simp (disch := omega) only [allP, sb_mk, sl1, toNat0, toNat1, toNat2, Int.toNat_natCast, List.take_length, List.take_succ_cons, List.drop_succ_cons, List.drop_zero, List.take_zero, List.length_cons, List.length_nil, List.getD_cons_zero, i64_wrap, i32_wrap, u8_wrap, u32_wrap, tdN, tmN, i64_min, i64_max, u8_min, u8_max, decide_eq_true_eq, decide_eq_false_iff_not, beq_iff_eq, beq_eq_false_iff_ne, bne_iff_ne, bne_eq_false_iff_eq, ne_eq, not_false_eq_true, and_true, true_and, Int.zero_sub]
        repeat' apply And.intro
        all_goals first | exact True.intro | omega | with_reducible rfl | with_reducible assumption | exact av_f f1 | (rw [gl]; exact beq_self_eq_true _) | exact fw (by simpa using hc101) | (rw [c1 hc60]; omega) | exact hs | exact ht | exact w1 | exact w2 | exact w3 | exact w4 | exact f1 | exact f2 | exact fw | rfl
    | false =>
      have eR := whole_2 n z d c q s t w g
      refine ⟨_, _, eR.trans (congrArg (fun r => some (r, _)) ?_), ?_⟩
      · try clear eR
        rfl
      · try clear eR
        try simp only [decide_eq_true_eq, decide_eq_false_iff_not, beq_iff_eq, beq_eq_false_iff_ne, bne_iff_ne, bne_eq_false_iff_eq, ne_eq] at hc60
        try simp only [toNat0, toNat1, toNat2, Int.toNat_natCast, sb_mk] at hc60
        try simp only [decide_eq_true_eq, decide_eq_false_iff_not, beq_iff_eq, beq_eq_false_iff_ne, bne_iff_ne, bne_eq_false_iff_eq, ne_eq] at hc101
        try simp only [toNat0, toNat1, toNat2, Int.toNat_natCast, sb_mk] at hc101
        simp (disch := omega) only [allP, sb_mk, sl1, toNat0, toNat1, toNat2, Int.toNat_natCast, List.take_length, List.take_succ_cons, List.drop_succ_cons, List.drop_zero, List.take_zero, List.length_cons, List.length_nil, List.getD_cons_zero, i64_wrap, i32_wrap, u8_wrap, u32_wrap, tdN, tmN, i64_min, i64_max, u8_min, u8_max, decide_eq_true_eq, decide_eq_false_iff_not, beq_iff_eq, beq_eq_false_iff_ne, bne_iff_ne, bne_eq_false_iff_eq, ne_eq, not_false_eq_true, and_true, true_and, Int.zero_sub]
        repeat' apply And.intro
        all_goals first | exact True.intro | omega | with_reducible rfl | with_reducible assumption | exact av_f f1 | (rw [gl]; exact beq_self_eq_true _) | exact fw (by simpa using hc101) | (rw [c1 hc60]; omega) | exact hs | exact ht | exact w1 | exact w2 | exact w3 | exact w4 | exact f1 | exact f2 | exact fw | rfl
  | false =>
    cases hc101 : (!g : Bool) with
    | true =>
      have eR := whole_3 n z d c q s t w g
      refine ⟨_, _, eR.trans (congrArg (fun r => some (r, _)) ?_), ?_⟩
      · try clear eR
        rfl
      · try clear eR
        try simp only [decide_eq_true_eq, decide_eq_false_iff_not, beq_iff_eq, beq_eq_false_iff_ne, bne_iff_ne, bne_eq_false_iff_eq, ne_eq] at hc60
        try simp only [toNat0, toNat1, toNat2, Int.toNat_natCast, sb_mk] at hc60
        try simp only [decide_eq_true_eq, decide_eq_false_iff_not, beq_iff_eq, beq_eq_false_iff_ne, bne_iff_ne, bne_eq_false_iff_eq, ne_eq] at hc101
        try simp only [toNat0, toNat1, toNat2, Int.toNat_natCast, sb_mk] at hc101
        simp (disch := omega) only [allP, sb_mk, sl1, toNat0, toNat1, toNat2, Int.toNat_natCast, List.take_length, List.take_succ_cons, List.drop_succ_cons, List.drop_zero, List.take_zero, List.length_cons, List.length_nil, List.getD_cons_zero, i64_wrap, i32_wrap, u8_wrap, u32_wrap, tdN, tmN, i64_min, i64_max, u8_min, u8_max, decide_eq_true_eq, decide_eq_false_iff_not, beq_iff_eq, beq_eq_false_iff_ne, bne_iff_ne, bne_eq_false_iff_eq, ne_eq, not_false_eq_true, and_true, true_and, Int.zero_sub]
        repeat' apply And.intro
        all_goals first | exact True.intro | omega | with_reducible rfl | with_reducible assumption | exact av_f f1 | (rw [gl]; exact beq_self_eq_true _) | exact fw (by simpa using hc101) | (rw [c1 hc60]; omega) | exact hs | exact ht | exact w1 | exact w2 | exact w3 | exact w4 | exact f1 | exact f2 | exact fw | rfl
    | false =>
      have eR := whole_4 n z d c q s t w g
      refine ⟨_, _, eR.trans (congrArg (fun r => some (r, _)) ?_), ?_⟩
      · try clear eR
        rfl
      · try clear eR
        try simp only [decide_eq_true_eq, decide_eq_false_iff_not, beq_iff_eq, beq_eq_false_iff_ne, bne_iff_ne, bne_eq_false_iff_eq, ne_eq] at hc60
        try simp only [toNat0, toNat1, toNat2, Int.toNat_natCast, sb_mk] at hc60
        try simp only [decide_eq_true_eq, decide_eq_false_iff_not, beq_iff_eq, beq_eq_false_iff_ne, bne_iff_ne, bne_eq_false_iff_eq, ne_eq] at hc101
        try simp only [toNat0, toNat1, toNat2, Int.toNat_natCast, sb_mk] at hc101
        simp (disch := omega) only [allP, sb_mk, sl1, toNat0, toNat1, toNat2, Int.toNat_natCast, List.take_length, List.take_succ_cons, List.drop_succ_cons, List.drop_zero, List.take_zero, List.length_cons, List.length_nil, List.getD_cons_zero, i64_wrap, i32_wrap, u8_wrap, u32_wrap, tdN, tmN, i64_min, i64_max, u8_min, u8_max, decide_eq_true_eq, decide_eq_false_iff_not, beq_iff_eq, beq_eq_false_iff_ne, bne_iff_ne, bne_eq_false_iff_eq, ne_eq, not_false_eq_true, and_true, true_and, Int.zero_sub]
        repeat' apply And.intro
        all_goals first | exact True.intro | omega | with_reducible rfl | with_reducible assumption | exact av_f f1 | (rw [gl]; exact beq_self_eq_true _) | exact fw (by simpa using hc101) | (rw [c1 hc60]; omega) | exact hs | exact ht | exact w1 | exact w2 | exact w3 | exact w4 | exact f1 | exact f2 | exact fw | rfl

theorem whole_law (n z d : Int) (hn : n ≤ 9223372036854775807) : ∃ hs lp fuel p, LpOK Ext0 Try.prog lp ∧ lawOut (aBody Try.prog clT hs lp fuel 4 [.c (.int .i64 n), .c (.int .i64 z), .c (.int .i64 d)] []) = some (.c (.bool true), p) ∧ allP p := by
  by_cases h : n < 0 ∨ z < 0 ∨ z > 30 ∨ d < 0 ∨ d > 9
  · obtain ⟨hh, p, e, hp⟩ := whole0_all n z d h
    exact ⟨_, _, _, _, lpBy_nil, e, hp⟩
  · obtain ⟨n, rfl⟩ : ∃ k : Nat, n = (k : Int) := ⟨n.toNat, by omega⟩
    obtain ⟨z, rfl⟩ : ∃ k : Nat, z = (k : Int) := ⟨z.toNat, by omega⟩
    obtain ⟨d, rfl⟩ : ∃ k : Nat, d = (k : Int) := ⟨d.toNat, by omega⟩
    have hn' : n ≤ 9223372036854775807 := by omega
    obtain ⟨a1, a2, a3, a4, a5⟩ := digZ_w (z := z) hn'
    obtain ⟨b1, b2⟩ := digZ_more (z := z) hn' (show d ≤ 9 by omega)
    have hl := digZ_len (z := z) hn'
    have hl2 := digZ_len (n := d) (z := 0) (by omega)
    have hf := float_whole a1 a3
    obtain ⟨hh, p, e, hp⟩ := whole_all n z d _ ((9223372036854775807 - d) / 10) _ _ _ _ (by omega) (by omega) (by omega) (by omega) (by omega) (by omega) rfl rfl (by rw [Int.toNat_natCast, Int.toNat_natCast, a4]) a5 rfl b2 rfl rfl
      (by simp only [Int.toNat_natCast]; rw [b1]; omega) (by simp only [Int.toNat_natCast]; rw [b1]; omega)
      (by
        simp only [Int.toNat_natCast]
        rw [hf]
        by_cases h15 : (digZ n z).length ≤ 15
        · rw [if_pos h15, decide_eq_true (by omega)]; rfl
        · rw [if_neg h15, decide_eq_false (by omega)]; rfl)
      (by
        simp only [Int.toNat_natCast]
        rw [hf]
        intro hg
        by_cases h15 : (digZ n z).length ≤ 15
        · rw [if_pos h15]
          have hv := decV_len a1 15 h15
          rw [a2] at hv
          show Ieee.double.order (wordF false (decV (digZ n z) : Nat) 0) _ = _
          rw [a2, wordF_eq false (Nat.le_of_lt hv) (by omega) (by omega)]
          have hw := word_int false (Nat.le_of_lt hv)
          rw [if_neg (by simp)] at hw
          rw [← hw]
          unfold WE
          by_cases h0 : n = 0
          · rw [if_pos h0]; decide +kernel
          · rw [if_neg h0]
            exact order_self (RE_fin h0 (by omega) (by omega) (Nat.le_of_lt hv)).2
        · rw [if_neg h15] at hg; simp at hg)
      (by simp only [Int.toNat_natCast]; omega) (by simp only [Int.toNat_natCast, List.length_append]; omega) (by simp only [Int.toNat_natCast, sb_mk]; omega) (by omega) (by omega)
    exact ⟨_, _, _, _, lpBy_nil, e, hp⟩

theorem reads_walk (a0 : ByteArray) (w0 : a0.size ≤ maxLen) (w : World) :
    Calls Try.prog 3 #[.string a0] w fun e w' => e = .returned (.bool true) ∧ Below w.heap.size w w' := by
  obtain ⟨⟨l⟩⟩ := a0
  obtain ⟨hs, p, e, hp⟩ := reads_all l _ _ rfl rfl (fltW_nice l)
  exact law_conc mixed clT_ok [str l] (glOK_none w) ⟨_, _, _, _, lpBy_nil, e, hp⟩

theorem whole_walk (a0 : Int) (a1 : Int) (a2 : Int) (w0 : (Lit.int .i64 a0).wf = true) (w1 : (Lit.int .i64 a1).wf = true) (w2 : (Lit.int .i64 a2).wf = true) (w : World) :
    Calls Try.prog 4 #[.int .i64 a0, .int .i64 a1, .int .i64 a2] w fun e w' => e = .returned (.bool true) ∧ Below w.heap.size w w' :=
  law_conc mixed clT_ok [.int .i64 a0, .int .i64 a1, .int .i64 a2] (glOK_none w) (whole_law a0 a1 a2 (i64_wf w0).2)

end Go.Proofs.Ytigglgobiofalaa
