/- The laws of references: names, and texts without any. -/
import Derived.Test.YtoikhiijgdkciaaDoorEntK
namespace Go.Proofs.YtoikhiijgdkciaaDoor
open Go.RowKit Ent
set_option linter.unusedVariables false
set_option linter.unusedSimpArgs false

/-! The longest name decides. -/
theorem byName_at (l : List UInt8) (k : Nat) (hk : 1 ≤ k) (hv : namedF (l.take k) ≠ []) : ∀ n, k ≤ n → (∀ j, k < j → j ≤ n → namedF (l.take j) = []) → byName l n = if l.getD (k - 1) 0 ≠ 59 ∧ goesOn (l.drop k) = true then ([38], 0) else (namedF (l.take k), k)
  | 0, h, _ => by omega
  | n + 1, h, ha => by
    rw [byName_cons]
    by_cases e : k = n + 1
    · subst e
      rw [if_neg hv, Nat.add_sub_cancel]
    · rw [if_pos (ha (n + 1) (by omega) (Nat.le_refl _))]
      exact byName_at l k hk hv n (by omega) (fun j h1 h2 => ha j h1 (by omega))

theorem getD_last (a b : List UInt8) (h : a ≠ []) : (a ++ b).getD (a.length - 1) 0 = a.getLast h := by
  have := List.length_pos_iff.2 h
  rw [List.getD_eq_getElem?_getD, List.getElem?_append_left (by omega), List.getLast_eq_getElem, List.getElem?_eq_getElem (by omega)]
  rfl
theorem take_more (a b : List UInt8) {j : Nat} (h : a.length < j) (hb : j ≤ (a ++ b).length) : ∃ c q r, b = c :: r ∧ (a ++ b).take j = a ++ c :: q := by
  rw [List.length_append] at hb
  match b, hb with
  | [], hb => simp at hb; omega
  | c :: r, hb =>
    refine ⟨c, r.take (j - a.length - 1), r, rfl, ?_⟩
    rw [List.take_append, List.take_of_length_le (by omega)]
    obtain ⟨m, hm⟩ : ∃ m, j - a.length = m + 1 := ⟨j - a.length - 1, by omega⟩
    rw [hm]
    rfl

/-- A name is read, whatever follows, if it ends in ;. -/
theorem ref_semi {m : List UInt8} (b : List UInt8) (hv : namedF (m ++ [59]) ≠ []) : refF ((m ++ [59]) ++ b) = (namedF (m ++ [59]), (m ++ [59]).length) := by
  obtain ⟨h1, h2, h3⟩ := named_len hv
  have hp := List.length_pos_iff.2 h1
  have ht : ((m ++ [59]) ++ b).take (m ++ [59]).length = m ++ [59] := List.take_left
  have hnum : preB [35] ((m ++ [59]) ++ b) = false := by
    cases h : preB [35] ((m ++ [59]) ++ b) with
    | false => rfl
    | true =>
      obtain ⟨r, hr⟩ := preB_iff.1 h
      cases hm : m with
      | nil => rw [hm] at hv; exact absurd (named_head (c := 59) (r := []) (by decide)) hv
      | cons c q =>
        rw [hm] at hr hv
        obtain ⟨hc, _⟩ := List.cons.inj hr
        rw [List.cons_append] at hv
        exact absurd (named_head (by rw [hc]; decide)) hv
  have hlen : ((m ++ [59]) ++ b).length = (m ++ [59]).length + b.length := List.length_append
  rw [ref_other hnum, byName_at _ (m ++ [59]).length hp (by rw [ht]; exact hv) _ (by omega) ?_]
  · rw [if_neg, ht]
    rintro ⟨h, _⟩
    apply h
    rw [getD_last _ _ h1]
    simp
  · intro j h4 h5
    obtain ⟨c, q, r, hb, e⟩ := take_more (m ++ [59]) b h4 (by omega)
    rw [e, show (m ++ [59]) ++ c :: q = m ++ 59 :: (c :: q) by simp]
    exact named_mid (by decide) (by simp)

/-- A name without ;, ahead of a sign that is no letter and no ;. -/
theorem ref_bare {l b : List UInt8} (he : endC l = false) (hv : namedF l ≠ []) (hb : ∀ c r, b = c :: r → isL c = false ∧ c ≠ 59) : refF (l ++ b) = if goesOn b = true then ([38], 0) else (namedF l, l.length) := by
  obtain ⟨h1, h2, h3⟩ := named_len hv
  have hp := List.length_pos_iff.2 h1
  have ht : (l ++ b).take l.length = l := List.take_left
  have hn : Nm l (namedF l) := by
    rcases named_some hv with ⟨n, _⟩ | ⟨m, rfl, _⟩
    · exact n
    · rw [endC_snoc] at he; cases he
  have hnum : preB [35] (l ++ b) = false := by
    cases h : preB [35] (l ++ b) with
    | false => rfl
    | true =>
      obtain ⟨r, hr⟩ := preB_iff.1 h
      cases hm : l with
      | nil => exact absurd hm h1
      | cons c q =>
        rw [hm] at hr
        obtain ⟨hc, _⟩ := List.cons.inj hr
        have := hn.let_ c (by rw [hm]; exact List.mem_cons_self)
        rw [hc] at this
        exact absurd this (by decide)
  have hlen : (l ++ b).length = l.length + b.length := List.length_append
  rw [ref_other hnum, byName_at _ l.length hp (by rw [ht]; exact hv) _ (by omega) ?_]
  · rw [ht, List.drop_left, getD_last _ _ h1]
    have hl := (isL_ne (hn.let_ _ (List.getLast_mem h1))).1
    by_cases hg : goesOn b = true
    · rw [if_pos ⟨hl, hg⟩, if_pos hg]
    · rw [if_neg (fun h => hg h.2), if_neg hg]
  · intro j h4 h5
    obtain ⟨c, q, r, hbb, e⟩ := take_more l b h4 (by omega)
    obtain ⟨k1, k2⟩ := hb c r hbb
    rw [e]
    cases q with
    | nil => exact named_last k1 k2
    | cons x y => exact named_mid k1 (by simp)

theorem ref_none {c : UInt8} (r : List UInt8) (h : isL c = false) (h35 : c ≠ 35) : refF (c :: r) = ([38], 0) := by
  rw [ref_other (by rw [preB_one]; exact decide_eq_false h35)]
  have key : ∀ n, byName (c :: r) n = ([38], 0) := by
    intro n
    induction n with
    | zero => rfl
    | succ n ih => rw [byName_cons, List.take_succ_cons, named_head h, if_pos rfl]; exact ih
  exact key _

theorem ent_ref {l v : List UInt8} {k : Nat} (h : refF l = (v, k)) : entF (38 :: l) = v ++ entF (l.drop k) := by rw [ent_amp, h]

theorem lne {l : List UInt8} (h : (!(l == [])) = true) : ¬ l = [] := by simpa using h
theorem notb {p : Bool} (h : (!p) = true) : p = false := by cases p <;> simp_all
theorem notb2 {p : Bool} (h : (!p) = false) : p = true := by cases p <;> simp_all

theorem plain0_1 (a b : List UInt8) (c : Int) : lawOut (aBody Tryd.prog clU ⟨true, bs [(13, true)] ++ ([])⟩ (lpBy ([])) 60 7 ([.c (str a), .c (str b), .c (.int .u8 c)]) ([])) = some ((AV.c ((Value.bool true))), [((decide ((↑a.length : Int) > (300 : Int)) : Bool)) = (true)]) := by kernel_rfl

theorem plain0_2 (a b : List UInt8) (c : Int) : lawOut (aBody Tryd.prog clU ⟨true, bs [(13, false), (17, true)] ++ ([])⟩ (lpBy ([])) 60 7 ([.c (str a), .c (str b), .c (.int .u8 c)]) ([])) = some ((AV.c ((Value.bool true))), [((decide ((↑a.length : Int) > (300 : Int)) : Bool)) = (false),
 ((decide ((↑b.length : Int) > (300 : Int)) : Bool)) = (true)]) := by kernel_rfl

theorem plain0_all (a b : List UInt8) (c : Int) (h0 : (a.length : Int) > 300 ∨ (b.length : Int) > 300) : ∃ (h : Hints) (p : List Prop), lawOut (aBody Tryd.prog clU h (lpBy ([])) 60 7 ([.c (str a), .c (str b), .c (.int .u8 c)]) ([])) = some (.c (.bool true), p) ∧ allP p := by
  cases hc13 : (decide ((↑a.length : Int) > (300 : Int)) : Bool) with
  | true =>
    have eR := plain0_1 a b c
    refine ⟨_, _, eR.trans (congrArg (fun r => some (r, _)) ?_), ?_⟩
    · try clear eR
      rfl
    · try clear eR
      try simp only [decide_eq_true_eq, decide_eq_false_iff_not, beq_iff_eq, beq_eq_false_iff_ne, bne_iff_ne, bne_eq_false_iff_eq, ne_eq] at hc13
      try simp only [toNat0, toNat1, toNat2, Int.toNat_natCast, sb_mk] at hc13
      try simp (disch := omega) only [allP, sb_mk, sl1, toNat0, toNat1, toNat2, Int.toNat_natCast, List.take_length, List.take_succ_cons, List.drop_succ_cons, List.drop_zero, List.take_zero, List.length_cons, List.length_nil, List.getD_cons_zero, i64_wrap, i32_wrap, u8_wrap, u32_wrap, tdN, tmN, i64_min, i64_max, u8_min, u8_max, decide_eq_true_eq, decide_eq_false_iff_not, beq_iff_eq, beq_eq_false_iff_ne, bne_iff_ne, bne_eq_false_iff_eq, ne_eq, not_false_eq_true, and_true, true_and, Int.zero_sub]
      repeat' apply And.intro
      all_goals first | exact True.intro | omega | with_reducible rfl | with_reducible assumption | rfl
  | false =>
    have eR := plain0_2 a b c
    refine ⟨_, _, eR.trans (congrArg (fun r => some (r, _)) ?_), ?_⟩
    · try clear eR
      rfl
    · try clear eR
      try simp only [decide_eq_true_eq, decide_eq_false_iff_not, beq_iff_eq, beq_eq_false_iff_ne, bne_iff_ne, bne_eq_false_iff_eq, ne_eq] at hc13
      try simp only [toNat0, toNat1, toNat2, Int.toNat_natCast, sb_mk] at hc13
      try simp (disch := omega) only [allP, sb_mk, sl1, toNat0, toNat1, toNat2, Int.toNat_natCast, List.take_length, List.take_succ_cons, List.drop_succ_cons, List.drop_zero, List.take_zero, List.length_cons, List.length_nil, List.getD_cons_zero, i64_wrap, i32_wrap, u8_wrap, u32_wrap, tdN, tmN, i64_min, i64_max, u8_min, u8_max, decide_eq_true_eq, decide_eq_false_iff_not, beq_iff_eq, beq_eq_false_iff_ne, bne_iff_ne, bne_eq_false_iff_eq, ne_eq, not_false_eq_true, and_true, true_and, Int.zero_sub]
      repeat' apply And.intro
      all_goals first | exact True.intro | omega | with_reducible rfl | with_reducible assumption | rfl

noncomputable def apLp1 (a b : List UInt8) (x : Int) : List (Nat × Lp) := [(5, ⟨lbody Tryd.prog 7 5, ⟨[], [0, 1, 2, 7, 8], []⟩, apS a b x 0, .ret, apR⟩)]
noncomputable def apLp2 (a b : List UInt8) (x : Int) : List (Nat × Lp) := [(5, ⟨lbody Tryd.prog 7 5, ⟨[], [0, 1, 2, 7, 8], []⟩, apS a b x 0, .exit 0, apS a b x a.length⟩)]

theorem plain1_1 (a b : List UInt8) (c : Int) : lawOut (aBody Tryd.prog clU ⟨true, bs [] ++ (bs [(13, false), (17, false)])⟩ (lpBy (apLp1 a b c)) 60 7 ([.c (str a), .c (str b), .c (.int .u8 c)]) ([])) = some ((AV.c ((Value.bool true))), [((decide ((↑a.length : Int) > (300 : Int)) : Bool)) = (false),
 ((decide ((↑b.length : Int) > (300 : Int)) : Bool)) = (false),
 ((lbody Tryd.prog (7 : FuncId) (5 : Nat) : Go.Code)) = (lbody Tryd.prog (7 : FuncId) (5 : Nat)),
 ((apS a b c (0 : Nat) : Go.Proofs.YtoikhiijgdkciaaDoor.St)) = (apS a b c (0 : Nat))]) := by kernel_rfl

theorem plain1_all (a b : List UInt8) (c : Int) (g0 : a.length ≤ 300) (g1 : b.length ≤ 300) : ∃ (h : Hints) (p : List Prop), lawOut (aBody Tryd.prog clU h (lpBy (apLp1 a b c)) 60 7 ([.c (str a), .c (str b), .c (.int .u8 c)]) ([])) = some (.c (.bool true), p) ∧ allP p := by
  have eR := plain1_1 a b c
  refine ⟨_, _, eR.trans (congrArg (fun r => some (r, _)) ?_), ?_⟩
  · try clear eR
    rfl
  · try clear eR
    try simp (disch := omega) only [allP, sb_mk, sl1, toNat0, toNat1, toNat2, Int.toNat_natCast, List.take_length, List.take_succ_cons, List.drop_succ_cons, List.drop_zero, List.take_zero, List.length_cons, List.length_nil, List.getD_cons_zero, i64_wrap, i32_wrap, u8_wrap, u32_wrap, tdN, tmN, i64_min, i64_max, u8_min, u8_max, decide_eq_true_eq, decide_eq_false_iff_not, beq_iff_eq, beq_eq_false_iff_ne, bne_iff_ne, bne_eq_false_iff_eq, ne_eq, not_false_eq_true, and_true, true_and, Int.zero_sub]
    repeat' apply And.intro
    all_goals first | exact True.intro | omega | with_reducible rfl | with_reducible assumption | rfl

theorem plain2_1 (a b v e v2 e2 : List UInt8) (c : UInt8) (x : Bool) : lawOut (aBody Tryd.prog clU ⟨true, bs [(48, true), (56, true)] ++ (bs [(13, false), (17, false), (34, false), (44, false), (72, true)] ++ [(32, ⟨.c (str a), none⟩), (39, ⟨.c (str v), none⟩), (42, ⟨.c (str e), none⟩), (43, ⟨.c (str v), none⟩), (47, ⟨.c (.bool x), none⟩), (60, ⟨.c (str [c]), none⟩), (67, ⟨.c (str [c]), none⟩), (64, ⟨.c (str v2), none⟩), (70, ⟨.c (str e2), none⟩), (71, ⟨.c (str v2), none⟩)])⟩ (lpBy (apLp2 a b c.toNat)) 60 7 ([.c (str a), .c (str b), .c (.int .u8 c.toNat)]) ([])) = some ((AV.c ((Value.bool true))), [((decide ((↑a.length : Int) > (300 : Int)) : Bool)) = (false),
 ((decide ((↑b.length : Int) > (300 : Int)) : Bool)) = (false),
 ((lbody Tryd.prog (7 : FuncId) (5 : Nat) : Go.Code)) = (lbody Tryd.prog (7 : FuncId) (5 : Nat)),
 ((apS a b (↑c.toNat : Int) (0 : Nat) : Go.Proofs.YtoikhiijgdkciaaDoor.St)) = (apS a b (↑c.toNat : Int) (0 : Nat)),
 ((a.length : Nat) ≤ ((1000000000 : Nat))),
 ((entF a : List UInt8)) = (a),
 ((!a == a : Bool)) = (false),
 ((a.length + b.length : Nat) ≤ ((9223372036854775807 : Nat))),
 (((a ++ b).length : Nat) ≤ ((1000000000 : Nat))),
 ((entF (a ++ b) : List UInt8)) = (v),
 ((b.length : Nat) ≤ ((1000000000 : Nat))),
 ((entF b : List UInt8)) = (e),
 ((a.length + e.length : Nat) ≤ ((9223372036854775807 : Nat))),
 ((a ++ e : List UInt8)) = (v),
 ((!v == v : Bool)) = (false),
 (((0 : Int) : Int) ≤ ((↑c.toNat : Int))),
 (((↑c.toNat : Int) : Int) < ((256 : Int))),
 ((letterI (↑c.toNat : Int) : Bool)) = (x),
 ((!x : Bool)) = (true),
 ((!(↑c.toNat : Int) != (35 : Int) : Bool)) = (true)]) := by kernel_rfl

theorem plain2_2 (a b v e v2 e2 : List UInt8) (c : UInt8) (x : Bool) : lawOut (aBody Tryd.prog clU ⟨true, bs [(48, true), (56, false)] ++ (bs [(13, false), (17, false), (34, false), (44, false), (72, true)] ++ [(32, ⟨.c (str a), none⟩), (39, ⟨.c (str v), none⟩), (42, ⟨.c (str e), none⟩), (43, ⟨.c (str v), none⟩), (47, ⟨.c (.bool x), none⟩), (60, ⟨.c (str [c]), none⟩), (67, ⟨.c (str [c]), none⟩), (64, ⟨.c (str v2), none⟩), (70, ⟨.c (str e2), none⟩), (71, ⟨.c (str v2), none⟩)])⟩ (lpBy (apLp2 a b c.toNat)) 60 7 ([.c (str a), .c (str b), .c (.int .u8 c.toNat)]) ([])) = some ((AV.c ((Value.bool true))), [((decide ((↑a.length : Int) > (300 : Int)) : Bool)) = (false),
 ((decide ((↑b.length : Int) > (300 : Int)) : Bool)) = (false),
 ((lbody Tryd.prog (7 : FuncId) (5 : Nat) : Go.Code)) = (lbody Tryd.prog (7 : FuncId) (5 : Nat)),
 ((apS a b (↑c.toNat : Int) (0 : Nat) : Go.Proofs.YtoikhiijgdkciaaDoor.St)) = (apS a b (↑c.toNat : Int) (0 : Nat)),
 ((a.length : Nat) ≤ ((1000000000 : Nat))),
 ((entF a : List UInt8)) = (a),
 ((!a == a : Bool)) = (false),
 ((a.length + b.length : Nat) ≤ ((9223372036854775807 : Nat))),
 (((a ++ b).length : Nat) ≤ ((1000000000 : Nat))),
 ((entF (a ++ b) : List UInt8)) = (v),
 ((b.length : Nat) ≤ ((1000000000 : Nat))),
 ((entF b : List UInt8)) = (e),
 ((a.length + e.length : Nat) ≤ ((9223372036854775807 : Nat))),
 ((a ++ e : List UInt8)) = (v),
 ((!v == v : Bool)) = (false),
 (((0 : Int) : Int) ≤ ((↑c.toNat : Int))),
 (((↑c.toNat : Int) : Int) < ((256 : Int))),
 ((letterI (↑c.toNat : Int) : Bool)) = (x),
 ((!x : Bool)) = (true),
 ((!(↑c.toNat : Int) != (35 : Int) : Bool)) = (false),
 (((1 : Nat) : Nat)) = ((1 : Nat)),
 bytesOK ([(AV.c ((Value.int .u8 ((↑c.toNat : Int)))))]),
 (([UInt8.ofNat (Int.toNat ((↑c.toNat : Int)))] : List UInt8)) = ([c]),
 (((1 : Nat) + (1 : Nat) : Nat) ≤ ((9223372036854775807 : Nat))),
 (((2 : Nat) + b.length : Nat) ≤ ((9223372036854775807 : Nat))),
 ((([(38 : UInt8)] ++ [c] ++ b).length : Nat) ≤ ((1000000000 : Nat))),
 ((entF ([(38 : UInt8)] ++ [c] ++ b) : List UInt8)) = (v2),
 (((1 : Nat) : Nat)) = ((1 : Nat)),
 bytesOK ([(AV.c ((Value.int .u8 ((↑c.toNat : Int)))))]),
 (([UInt8.ofNat (Int.toNat ((↑c.toNat : Int)))] : List UInt8)) = ([c]),
 (((1 : Nat) + b.length : Nat) ≤ ((9223372036854775807 : Nat))),
 ((([c] ++ b).length : Nat) ≤ ((1000000000 : Nat))),
 ((entF ([c] ++ b) : List UInt8)) = (e2),
 (((1 : Nat) + e2.length : Nat) ≤ ((9223372036854775807 : Nat))),
 (([(38 : UInt8)] ++ e2 : List UInt8)) = (v2),
 ((v2 == v2 : Bool)) = (true)]) := by kernel_rfl

theorem plain2_3 (a b v e v2 e2 : List UInt8) (c : UInt8) (x : Bool) : lawOut (aBody Tryd.prog clU ⟨true, bs [(48, false)] ++ (bs [(13, false), (17, false), (34, false), (44, false), (72, true)] ++ [(32, ⟨.c (str a), none⟩), (39, ⟨.c (str v), none⟩), (42, ⟨.c (str e), none⟩), (43, ⟨.c (str v), none⟩), (47, ⟨.c (.bool x), none⟩), (60, ⟨.c (str [c]), none⟩), (67, ⟨.c (str [c]), none⟩), (64, ⟨.c (str v2), none⟩), (70, ⟨.c (str e2), none⟩), (71, ⟨.c (str v2), none⟩)])⟩ (lpBy (apLp2 a b c.toNat)) 60 7 ([.c (str a), .c (str b), .c (.int .u8 c.toNat)]) ([])) = some ((AV.c ((Value.bool true))), [((decide ((↑a.length : Int) > (300 : Int)) : Bool)) = (false),
 ((decide ((↑b.length : Int) > (300 : Int)) : Bool)) = (false),
 ((lbody Tryd.prog (7 : FuncId) (5 : Nat) : Go.Code)) = (lbody Tryd.prog (7 : FuncId) (5 : Nat)),
 ((apS a b (↑c.toNat : Int) (0 : Nat) : Go.Proofs.YtoikhiijgdkciaaDoor.St)) = (apS a b (↑c.toNat : Int) (0 : Nat)),
 ((a.length : Nat) ≤ ((1000000000 : Nat))),
 ((entF a : List UInt8)) = (a),
 ((!a == a : Bool)) = (false),
 ((a.length + b.length : Nat) ≤ ((9223372036854775807 : Nat))),
 (((a ++ b).length : Nat) ≤ ((1000000000 : Nat))),
 ((entF (a ++ b) : List UInt8)) = (v),
 ((b.length : Nat) ≤ ((1000000000 : Nat))),
 ((entF b : List UInt8)) = (e),
 ((a.length + e.length : Nat) ≤ ((9223372036854775807 : Nat))),
 ((a ++ e : List UInt8)) = (v),
 ((!v == v : Bool)) = (false),
 (((0 : Int) : Int) ≤ ((↑c.toNat : Int))),
 (((↑c.toNat : Int) : Int) < ((256 : Int))),
 ((letterI (↑c.toNat : Int) : Bool)) = (x),
 ((!x : Bool)) = (false)]) := by kernel_rfl

theorem plain2_all (a b v e v2 e2 : List UInt8) (c : UInt8) (x : Bool) (g0 : a.length ≤ 300) (g1 : b.length ≤ 300) (ha : entF a = a) (hv : entF (a ++ b) = v) (he : entF b = e) (hel : e.length ≤ 300) (hve : a ++ e = v) (hx : isL c = x) (h5 : c.toNat < 256) (he2 : entF ([c] ++ b) = e2) (hel2 : e2.length ≤ 301) (hv2 : [38] ++ e2 = v2) (hn : x = false → ¬ (c.toNat : Int) = 35 → entF (([38] ++ [c]) ++ b) = v2) : ∃ (h : Hints) (p : List Prop), lawOut (aBody Tryd.prog clU h (lpBy (apLp2 a b c.toNat)) 60 7 ([.c (str a), .c (str b), .c (.int .u8 c.toNat)]) ([])) = some (.c (.bool true), p) ∧ allP p := by
  cases hc48 : (!x : Bool) with
  | true =>
    cases hc56 : (!(↑c.toNat : Int) != (35 : Int) : Bool) with
    | true =>
      have eR := plain2_1 a b v e v2 e2 c x
      refine ⟨_, _, eR.trans (congrArg (fun r => some (r, _)) ?_), ?_⟩
      · try clear eR
        rfl
      · try clear eR
        try simp only [decide_eq_true_eq, decide_eq_false_iff_not, beq_iff_eq, beq_eq_false_iff_ne, bne_iff_ne, bne_eq_false_iff_eq, ne_eq] at hc48
        try simp only [toNat0, toNat1, toNat2, Int.toNat_natCast, sb_mk] at hc48
        try simp only [decide_eq_true_eq, decide_eq_false_iff_not, beq_iff_eq, beq_eq_false_iff_ne, bne_iff_ne, bne_eq_false_iff_eq, ne_eq] at hc56
        try simp only [toNat0, toNat1, toNat2, Int.toNat_natCast, sb_mk] at hc56
        try simp (disch := omega) only [allP, sb_mk, sl1, toNat0, toNat1, toNat2, Int.toNat_natCast, List.take_length, List.take_succ_cons, List.drop_succ_cons, List.drop_zero, List.take_zero, List.length_cons, List.length_nil, List.getD_cons_zero, i64_wrap, i32_wrap, u8_wrap, u32_wrap, tdN, tmN, i64_min, i64_max, u8_min, u8_max, decide_eq_true_eq, decide_eq_false_iff_not, beq_iff_eq, beq_eq_false_iff_ne, bne_iff_ne, bne_eq_false_iff_eq, ne_eq, not_false_eq_true, and_true, true_and, Int.zero_sub, beq_self_eq_true, Bool.not_true]
        repeat' apply And.intro
        all_goals first | exact True.intro | omega | with_reducible rfl | with_reducible assumption | (simp only [List.length_append, List.length_cons, List.length_nil]; omega) | with_reducible exact bytesOK1 c | with_reducible exact congrArg (fun z => [z]) UInt8.ofNat_toNat | exact hx.trans (notb hc48) | exact hn (notb hc48) (notne hc56) | exact ha | exact hv | exact he | exact hve | exact hx | exact he2 | exact hv2 | exact hn | rfl
    | false =>
      have eR := plain2_2 a b v e v2 e2 c x
      refine ⟨_, _, eR.trans (congrArg (fun r => some (r, _)) ?_), ?_⟩
      · try clear eR
        rfl
      · try clear eR
        try simp only [decide_eq_true_eq, decide_eq_false_iff_not, beq_iff_eq, beq_eq_false_iff_ne, bne_iff_ne, bne_eq_false_iff_eq, ne_eq] at hc48
        try simp only [toNat0, toNat1, toNat2, Int.toNat_natCast, sb_mk] at hc48
        try simp only [decide_eq_true_eq, decide_eq_false_iff_not, beq_iff_eq, beq_eq_false_iff_ne, bne_iff_ne, bne_eq_false_iff_eq, ne_eq] at hc56
        try simp only [toNat0, toNat1, toNat2, Int.toNat_natCast, sb_mk] at hc56
        try simp (disch := omega) only [allP, sb_mk, sl1, toNat0, toNat1, toNat2, Int.toNat_natCast, List.take_length, List.take_succ_cons, List.drop_succ_cons, List.drop_zero, List.take_zero, List.length_cons, List.length_nil, List.getD_cons_zero, i64_wrap, i32_wrap, u8_wrap, u32_wrap, tdN, tmN, i64_min, i64_max, u8_min, u8_max, decide_eq_true_eq, decide_eq_false_iff_not, beq_iff_eq, beq_eq_false_iff_ne, bne_iff_ne, bne_eq_false_iff_eq, ne_eq, not_false_eq_true, and_true, true_and, Int.zero_sub, beq_self_eq_true, Bool.not_true]
        repeat' apply And.intro
        all_goals first | exact True.intro | omega | with_reducible rfl | with_reducible assumption | (simp only [List.length_append, List.length_cons, List.length_nil]; omega) | with_reducible exact bytesOK1 c | with_reducible exact congrArg (fun z => [z]) UInt8.ofNat_toNat | exact hx.trans (notb hc48) | exact hn (notb hc48) (notne hc56) | exact ha | exact hv | exact he | exact hve | exact hx | exact he2 | exact hv2 | exact hn | rfl
  | false =>
    have eR := plain2_3 a b v e v2 e2 c x
    refine ⟨_, _, eR.trans (congrArg (fun r => some (r, _)) ?_), ?_⟩
    · try clear eR
      rfl
    · try clear eR
      try simp only [decide_eq_true_eq, decide_eq_false_iff_not, beq_iff_eq, beq_eq_false_iff_ne, bne_iff_ne, bne_eq_false_iff_eq, ne_eq] at hc48
      try simp only [toNat0, toNat1, toNat2, Int.toNat_natCast, sb_mk] at hc48
      try simp (disch := omega) only [allP, sb_mk, sl1, toNat0, toNat1, toNat2, Int.toNat_natCast, List.take_length, List.take_succ_cons, List.drop_succ_cons, List.drop_zero, List.take_zero, List.length_cons, List.length_nil, List.getD_cons_zero, i64_wrap, i32_wrap, u8_wrap, u32_wrap, tdN, tmN, i64_min, i64_max, u8_min, u8_max, decide_eq_true_eq, decide_eq_false_iff_not, beq_iff_eq, beq_eq_false_iff_ne, bne_iff_ne, bne_eq_false_iff_eq, ne_eq, not_false_eq_true, and_true, true_and, Int.zero_sub, beq_self_eq_true, Bool.not_true]
      repeat' apply And.intro
      all_goals first | exact True.intro | omega | with_reducible rfl | with_reducible assumption | (simp only [List.length_append, List.length_cons, List.length_nil]; omega) | with_reducible exact bytesOK1 c | with_reducible exact congrArg (fun z => [z]) UInt8.ofNat_toNat | exact hx.trans (notb hc48) | exact hn (notb hc48) (notne hc56) | exact ha | exact hv | exact he | exact hve | exact hx | exact he2 | exact hv2 | exact hn | rfl

theorem names0_1 (l b : List UInt8) : lawOut (aBody Tryd.prog clU ⟨true, bs [(14, true)] ++ ([])⟩ (lpBy ([])) 60 6 ([.c (str l), .c (str b)]) ([])) = some ((AV.c ((Value.bool true))), [((decide ((↑l.length : Int) > (50 : Int)) : Bool)) = (true)]) := by kernel_rfl

theorem names0_2 (l b : List UInt8) : lawOut (aBody Tryd.prog clU ⟨true, bs [(14, false), (18, true)] ++ ([])⟩ (lpBy ([])) 60 6 ([.c (str l), .c (str b)]) ([])) = some ((AV.c ((Value.bool true))), [((decide ((↑l.length : Int) > (50 : Int)) : Bool)) = (false),
 ((decide ((↑b.length : Int) > (200 : Int)) : Bool)) = (true)]) := by kernel_rfl

theorem names0_all (l b : List UInt8) (h0 : (l.length : Int) > 50 ∨ (b.length : Int) > 200) : ∃ (h : Hints) (p : List Prop), lawOut (aBody Tryd.prog clU h (lpBy ([])) 60 6 ([.c (str l), .c (str b)]) ([])) = some (.c (.bool true), p) ∧ allP p := by
  cases hc14 : (decide ((↑l.length : Int) > (50 : Int)) : Bool) with
  | true =>
    have eR := names0_1 l b
    refine ⟨_, _, eR.trans (congrArg (fun r => some (r, _)) ?_), ?_⟩
    · try clear eR
      rfl
    · try clear eR
      try simp only [decide_eq_true_eq, decide_eq_false_iff_not, beq_iff_eq, beq_eq_false_iff_ne, bne_iff_ne, bne_eq_false_iff_eq, ne_eq] at hc14
      try simp only [toNat0, toNat1, toNat2, Int.toNat_natCast, sb_mk] at hc14
      try simp (disch := omega) only [allP, sb_mk, sl1, toNat0, toNat1, toNat2, Int.toNat_natCast, List.take_length, List.take_succ_cons, List.drop_succ_cons, List.drop_zero, List.take_zero, List.length_cons, List.length_nil, List.getD_cons_zero, i64_wrap, i32_wrap, u8_wrap, u32_wrap, tdN, tmN, i64_min, i64_max, u8_min, u8_max, decide_eq_true_eq, decide_eq_false_iff_not, beq_iff_eq, beq_eq_false_iff_ne, bne_iff_ne, bne_eq_false_iff_eq, ne_eq, not_false_eq_true, and_true, true_and, Int.zero_sub]
      repeat' apply And.intro
      all_goals first | exact True.intro | omega | with_reducible rfl | with_reducible assumption | rfl
  | false =>
    have eR := names0_2 l b
    refine ⟨_, _, eR.trans (congrArg (fun r => some (r, _)) ?_), ?_⟩
    · try clear eR
      rfl
    · try clear eR
      try simp only [decide_eq_true_eq, decide_eq_false_iff_not, beq_iff_eq, beq_eq_false_iff_ne, bne_iff_ne, bne_eq_false_iff_eq, ne_eq] at hc14
      try simp only [toNat0, toNat1, toNat2, Int.toNat_natCast, sb_mk] at hc14
      try simp (disch := omega) only [allP, sb_mk, sl1, toNat0, toNat1, toNat2, Int.toNat_natCast, List.take_length, List.take_succ_cons, List.drop_succ_cons, List.drop_zero, List.take_zero, List.length_cons, List.length_nil, List.getD_cons_zero, i64_wrap, i32_wrap, u8_wrap, u32_wrap, tdN, tmN, i64_min, i64_max, u8_min, u8_max, decide_eq_true_eq, decide_eq_false_iff_not, beq_iff_eq, beq_eq_false_iff_ne, bne_iff_ne, bne_eq_false_iff_eq, ne_eq, not_false_eq_true, and_true, true_and, Int.zero_sub]
      repeat' apply And.intro
      all_goals first | exact True.intro | omega | with_reducible rfl | with_reducible assumption | rfl

theorem names1_1 (l b s t e v : List UInt8) (x y : Bool) : lawOut (aBody Tryd.prog clU ⟨true, bs [(45, true)] ++ (bs [(14, false), (18, false), (33, true), (40, true), (56, true)] ++ [(25, ⟨.c (str s), none⟩), (26, ⟨.c (.bool y), none⟩), (30, ⟨.c (str t), none⟩), (31, ⟨.c (.bool x), none⟩), (51, ⟨.c (str v), none⟩), (54, ⟨.c (str e), none⟩), (55, ⟨.c (str v), none⟩)])⟩ (lpBy ([])) 60 6 ([.c (str l), .c (str b)]) ([])) = some ((AV.c ((Value.bool true))), [((decide ((↑l.length : Int) > (50 : Int)) : Bool)) = (false),
 ((decide ((↑b.length : Int) > (200 : Int)) : Bool)) = (false),
 ((l.length + (1 : Nat) : Nat) ≤ ((9223372036854775807 : Nat))),
 (((l ++ [(59 : UInt8)]).length : Nat) ≤ ((9223372036854775800 : Nat))),
 ((namedF (l ++ [(59 : UInt8)]) : List UInt8)) = (s),
 ((!namedF (l ++ [(59 : UInt8)]) == [] : Bool)) = (y),
 ((l.length : Nat) ≤ ((9223372036854775800 : Nat))),
 ((namedF l : List UInt8)) = (t),
 ((!namedF l == [] : Bool)) = (x),
 ((!l == [] : Bool)) = (true),
 ((IntKind.i64.min : Int) ≤ ((↑l.length : Int) - (1 : Int))),
 (((↑l.length : Int) - (1 : Int) : Int) ≤ (IntKind.i64.max)),
 (((0 : Int) : Int) ≤ ((↑l.length : Int) - (1 : Int))),
 (((↑l.length : Int) - (1 : Int) : Int) < ((↑l.length : Int))),
 (((↑(l.getD ((↑l.length : Int) - (1 : Int)).toNat (0 : UInt8)).toNat : Int) == (59 : Int) : Bool)) = (true),
 ((!x : Bool)) = (true)]) := by kernel_rfl

theorem names1_2 (l b s t e v : List UInt8) (x y : Bool) : lawOut (aBody Tryd.prog clU ⟨true, bs [(45, false)] ++ (bs [(14, false), (18, false), (33, true), (40, true), (56, true)] ++ [(25, ⟨.c (str s), none⟩), (26, ⟨.c (.bool y), none⟩), (30, ⟨.c (str t), none⟩), (31, ⟨.c (.bool x), none⟩), (51, ⟨.c (str v), none⟩), (54, ⟨.c (str e), none⟩), (55, ⟨.c (str v), none⟩)])⟩ (lpBy ([])) 60 6 ([.c (str l), .c (str b)]) ([])) = some ((AV.c ((Value.bool true))), [((decide ((↑l.length : Int) > (50 : Int)) : Bool)) = (false),
 ((decide ((↑b.length : Int) > (200 : Int)) : Bool)) = (false),
 ((l.length + (1 : Nat) : Nat) ≤ ((9223372036854775807 : Nat))),
 (((l ++ [(59 : UInt8)]).length : Nat) ≤ ((9223372036854775800 : Nat))),
 ((namedF (l ++ [(59 : UInt8)]) : List UInt8)) = (s),
 ((!namedF (l ++ [(59 : UInt8)]) == [] : Bool)) = (y),
 ((l.length : Nat) ≤ ((9223372036854775800 : Nat))),
 ((namedF l : List UInt8)) = (t),
 ((!namedF l == [] : Bool)) = (x),
 ((!l == [] : Bool)) = (true),
 ((IntKind.i64.min : Int) ≤ ((↑l.length : Int) - (1 : Int))),
 (((↑l.length : Int) - (1 : Int) : Int) ≤ (IntKind.i64.max)),
 (((0 : Int) : Int) ≤ ((↑l.length : Int) - (1 : Int))),
 (((↑l.length : Int) - (1 : Int) : Int) < ((↑l.length : Int))),
 (((↑(l.getD ((↑l.length : Int) - (1 : Int)).toNat (0 : UInt8)).toNat : Int) == (59 : Int) : Bool)) = (true),
 ((!x : Bool)) = (false),
 (((1 : Nat) + l.length : Nat) ≤ ((9223372036854775807 : Nat))),
 ((([(38 : UInt8)] ++ l).length + b.length : Nat) ≤ ((9223372036854775807 : Nat))),
 ((([(38 : UInt8)] ++ l ++ b).length : Nat) ≤ ((1000000000 : Nat))),
 ((entF ([(38 : UInt8)] ++ l ++ b) : List UInt8)) = (v),
 ((b.length : Nat) ≤ ((1000000000 : Nat))),
 ((entF b : List UInt8)) = (e),
 ((t.length + e.length : Nat) ≤ ((9223372036854775807 : Nat))),
 ((t ++ e : List UInt8)) = (v),
 ((v == v : Bool)) = (true)]) := by kernel_rfl

theorem names1_all (l b s t e v : List UInt8) (x y : Bool) (g0 : l.length ≤ 50) (g1 : b.length ≤ 200) (hs : namedF (l ++ [59]) = s) (hy : (!(namedF (l ++ [59]) == [])) = y) (ht : namedF l = t) (hx : (!(namedF l == [])) = x) (hne : ¬ l = []) (hll : 0 < l.length) (hlast : (((l.getD (l.length - 1) 0).toNat : Nat) : Int) = 59) (hlz : ((l.length : Int) - 1).toNat = l.length - 1) (htl : t.length ≤ 100) (he : entF b = e) (hel : e.length ≤ 200) (hv : t ++ e = v) (hE : x = true → entF (([38] ++ l) ++ b) = v) : ∃ (h : Hints) (p : List Prop), lawOut (aBody Tryd.prog clU h (lpBy ([])) 60 6 ([.c (str l), .c (str b)]) ([])) = some (.c (.bool true), p) ∧ allP p := by
  cases hc45 : (!x : Bool) with
  | true =>
    have eR := names1_1 l b s t e v x y
    refine ⟨_, _, eR.trans (congrArg (fun r => some (r, _)) ?_), ?_⟩
    · try clear eR
      rfl
    · try clear eR
      try simp only [decide_eq_true_eq, decide_eq_false_iff_not, beq_iff_eq, beq_eq_false_iff_ne, bne_iff_ne, bne_eq_false_iff_eq, ne_eq] at hc45
      try simp only [toNat0, toNat1, toNat2, Int.toNat_natCast, sb_mk] at hc45
      try simp (disch := omega) only [allP, sb_mk, sl1, toNat0, toNat1, toNat2, Int.toNat_natCast, List.take_length, List.take_succ_cons, List.drop_succ_cons, List.drop_zero, List.take_zero, List.length_cons, List.length_nil, List.getD_cons_zero, i64_wrap, i32_wrap, u8_wrap, u32_wrap, tdN, tmN, i64_min, i64_max, u8_min, u8_max, decide_eq_true_eq, decide_eq_false_iff_not, beq_iff_eq, beq_eq_false_iff_ne, bne_iff_ne, bne_eq_false_iff_eq, ne_eq, not_false_eq_true, and_true, true_and, Int.zero_sub, beq_self_eq_true, Bool.not_true, hlz, Bool.not_eq_true', Bool.not_eq_false', hne]
      repeat' apply And.intro
      all_goals first | exact True.intro | omega | with_reducible rfl | with_reducible assumption | exact hE (notb2 hc45) | exact notb hc45 | exact notb2 hc45 | exact hx | exact hy | exact hx.trans (notb hc45) | (simp only [List.length_append, List.length_cons, List.length_nil]; omega) | exact hlast | exact hs | exact hy | exact ht | exact hx | exact hne | exact hlast | exact hlz | exact he | exact hv | exact hE | rfl
  | false =>
    have eR := names1_2 l b s t e v x y
    refine ⟨_, _, eR.trans (congrArg (fun r => some (r, _)) ?_), ?_⟩
    · try clear eR
      rfl
    · try clear eR
      try simp only [decide_eq_true_eq, decide_eq_false_iff_not, beq_iff_eq, beq_eq_false_iff_ne, bne_iff_ne, bne_eq_false_iff_eq, ne_eq] at hc45
      try simp only [toNat0, toNat1, toNat2, Int.toNat_natCast, sb_mk] at hc45
      try simp (disch := omega) only [allP, sb_mk, sl1, toNat0, toNat1, toNat2, Int.toNat_natCast, List.take_length, List.take_succ_cons, List.drop_succ_cons, List.drop_zero, List.take_zero, List.length_cons, List.length_nil, List.getD_cons_zero, i64_wrap, i32_wrap, u8_wrap, u32_wrap, tdN, tmN, i64_min, i64_max, u8_min, u8_max, decide_eq_true_eq, decide_eq_false_iff_not, beq_iff_eq, beq_eq_false_iff_ne, bne_iff_ne, bne_eq_false_iff_eq, ne_eq, not_false_eq_true, and_true, true_and, Int.zero_sub, beq_self_eq_true, Bool.not_true, hlz, Bool.not_eq_true', Bool.not_eq_false', hne]
      repeat' apply And.intro
      all_goals first | exact True.intro | omega | with_reducible rfl | with_reducible assumption | exact hE (notb2 hc45) | exact notb hc45 | exact notb2 hc45 | exact hx | exact hy | exact hx.trans (notb hc45) | (simp only [List.length_append, List.length_cons, List.length_nil]; omega) | exact hlast | exact hs | exact hy | exact ht | exact hx | exact hne | exact hlast | exact hlz | exact he | exact hv | exact hE | rfl

theorem names2A_1 (l b s t e v v3 v4 : List UInt8) (p : Bool) (d : Int) : lawOut (aBody Tryd.prog clU ⟨true, bs [(33, true), (86, true)] ++ (bs [(14, false), (18, false), (40, false), (71, false), (81, false), (127, true), (146, true)] ++ [(25, ⟨.c (str s), none⟩), (26, ⟨.c (.bool false), none⟩), (30, ⟨.c (str t), none⟩), (31, ⟨.c (.bool false), none⟩), (66, ⟨.c (str v), none⟩), (69, ⟨.c (str e), none⟩), (70, ⟨.c (str v), none⟩), (90, ⟨.c (.bool p), none⟩), (95, ⟨.c (.int .i64 d), none⟩), (122, ⟨.c (str v3), none⟩), (125, ⟨.c (str e), none⟩), (126, ⟨.c (str v3), none⟩), (139, ⟨.c (str v4), none⟩), (144, ⟨.c (str e), none⟩), (145, ⟨.c (str v4), none⟩)])⟩ (lpBy ([])) 60 6 ([.c (str l), .c (str b)]) ([])) = some ((AV.c ((Value.bool true))), [((decide ((↑l.length : Int) > (50 : Int)) : Bool)) = (false),
 ((decide ((↑b.length : Int) > (200 : Int)) : Bool)) = (false),
 ((l.length + (1 : Nat) : Nat) ≤ ((9223372036854775807 : Nat))),
 (((l ++ [(59 : UInt8)]).length : Nat) ≤ ((9223372036854775800 : Nat))),
 ((namedF (l ++ [(59 : UInt8)]) : List UInt8)) = (s),
 ((!namedF (l ++ [(59 : UInt8)]) == [] : Bool)) = (false),
 ((l.length : Nat) ≤ ((9223372036854775800 : Nat))),
 ((namedF l : List UInt8)) = (t),
 ((!namedF l == [] : Bool)) = (false),
 ((!l == [] : Bool)) = (true),
 ((IntKind.i64.min : Int) ≤ ((↑l.length : Int) - (1 : Int))),
 (((↑l.length : Int) - (1 : Int) : Int) ≤ (IntKind.i64.max)),
 (((0 : Int) : Int) ≤ ((↑l.length : Int) - (1 : Int))),
 (((↑l.length : Int) - (1 : Int) : Int) < ((↑l.length : Int))),
 (((↑(l.getD ((↑l.length : Int) - (1 : Int)).toNat (0 : UInt8)).toNat : Int) == (59 : Int) : Bool)) = (false),
 ((b == [] : Bool)) = (true)]) := by kernel_rfl

theorem names2A_2 (l b s t e v v3 v4 : List UInt8) (p : Bool) (d : Int) : lawOut (aBody Tryd.prog clU ⟨true, bs [(33, true), (86, false), (91, true), (96, true), (101, true)] ++ (bs [(14, false), (18, false), (40, false), (71, false), (81, false), (127, true), (146, true)] ++ [(25, ⟨.c (str s), none⟩), (26, ⟨.c (.bool false), none⟩), (30, ⟨.c (str t), none⟩), (31, ⟨.c (.bool false), none⟩), (66, ⟨.c (str v), none⟩), (69, ⟨.c (str e), none⟩), (70, ⟨.c (str v), none⟩), (90, ⟨.c (.bool p), none⟩), (95, ⟨.c (.int .i64 d), none⟩), (122, ⟨.c (str v3), none⟩), (125, ⟨.c (str e), none⟩), (126, ⟨.c (str v3), none⟩), (139, ⟨.c (str v4), none⟩), (144, ⟨.c (str e), none⟩), (145, ⟨.c (str v4), none⟩)])⟩ (lpBy ([])) 60 6 ([.c (str l), .c (str b)]) ([])) = some ((AV.c ((Value.bool true))), [((decide ((↑l.length : Int) > (50 : Int)) : Bool)) = (false),
 ((decide ((↑b.length : Int) > (200 : Int)) : Bool)) = (false),
 ((l.length + (1 : Nat) : Nat) ≤ ((9223372036854775807 : Nat))),
 (((l ++ [(59 : UInt8)]).length : Nat) ≤ ((9223372036854775800 : Nat))),
 ((namedF (l ++ [(59 : UInt8)]) : List UInt8)) = (s),
 ((!namedF (l ++ [(59 : UInt8)]) == [] : Bool)) = (false),
 ((l.length : Nat) ≤ ((9223372036854775800 : Nat))),
 ((namedF l : List UInt8)) = (t),
 ((!namedF l == [] : Bool)) = (false),
 ((!l == [] : Bool)) = (true),
 ((IntKind.i64.min : Int) ≤ ((↑l.length : Int) - (1 : Int))),
 (((↑l.length : Int) - (1 : Int) : Int) ≤ (IntKind.i64.max)),
 (((0 : Int) : Int) ≤ ((↑l.length : Int) - (1 : Int))),
 (((↑l.length : Int) - (1 : Int) : Int) < ((↑l.length : Int))),
 (((↑(l.getD ((↑l.length : Int) - (1 : Int)).toNat (0 : UInt8)).toNat : Int) == (59 : Int) : Bool)) = (false),
 ((b == [] : Bool)) = (false),
 (((0 : Int) : Int) ≤ ((0 : Int))),
 (((0 : Int) : Int) < ((↑b.length : Int))),
 (((0 : Int) : Int) ≤ ((↑(b.getD (Int.toNat (0 : Int)) (0 : UInt8)).toNat : Int))),
 (((↑(b.getD (Int.toNat (0 : Int)) (0 : UInt8)).toNat : Int) : Int) < ((256 : Int))),
 ((letterI (↑(b.getD (Int.toNat (0 : Int)) (0 : UInt8)).toNat : Int) : Bool)) = (p),
 ((!p : Bool)) = (true),
 (((0 : Int) : Int) ≤ ((0 : Int))),
 (((0 : Int) : Int) < ((↑b.length : Int))),
 (((0 : Int) : Int) ≤ ((↑(b.getD (Int.toNat (0 : Int)) (0 : UInt8)).toNat : Int))),
 (((↑(b.getD (Int.toNat (0 : Int)) (0 : UInt8)).toNat : Int) : Int) < ((256 : Int))),
 ((digitI (↑(b.getD (Int.toNat (0 : Int)) (0 : UInt8)).toNat : Int) (10 : Int) : Int)) = (d),
 ((decide (d < (0 : Int)) : Bool)) = (true),
 (((0 : Int) : Int) ≤ ((0 : Int))),
 (((0 : Int) : Int) < ((↑b.length : Int))),
 (((↑(b.getD (Int.toNat (0 : Int)) (0 : UInt8)).toNat : Int) != (61 : Int) : Bool)) = (true),
 (((0 : Int) : Int) ≤ ((0 : Int))),
 (((0 : Int) : Int) < ((↑b.length : Int)))]) := by kernel_rfl

theorem names2A_3 (l b s t e v v3 v4 : List UInt8) (p : Bool) (d : Int) : lawOut (aBody Tryd.prog clU ⟨true, bs [(33, true), (86, false), (91, true), (96, true), (101, false)] ++ (bs [(14, false), (18, false), (40, false), (71, false), (81, false), (127, true), (146, true)] ++ [(25, ⟨.c (str s), none⟩), (26, ⟨.c (.bool false), none⟩), (30, ⟨.c (str t), none⟩), (31, ⟨.c (.bool false), none⟩), (66, ⟨.c (str v), none⟩), (69, ⟨.c (str e), none⟩), (70, ⟨.c (str v), none⟩), (90, ⟨.c (.bool p), none⟩), (95, ⟨.c (.int .i64 d), none⟩), (122, ⟨.c (str v3), none⟩), (125, ⟨.c (str e), none⟩), (126, ⟨.c (str v3), none⟩), (139, ⟨.c (str v4), none⟩), (144, ⟨.c (str e), none⟩), (145, ⟨.c (str v4), none⟩)])⟩ (lpBy ([])) 60 6 ([.c (str l), .c (str b)]) ([])) = some ((AV.c ((Value.bool true))), [((decide ((↑l.length : Int) > (50 : Int)) : Bool)) = (false),
 ((decide ((↑b.length : Int) > (200 : Int)) : Bool)) = (false),
 ((l.length + (1 : Nat) : Nat) ≤ ((9223372036854775807 : Nat))),
 (((l ++ [(59 : UInt8)]).length : Nat) ≤ ((9223372036854775800 : Nat))),
 ((namedF (l ++ [(59 : UInt8)]) : List UInt8)) = (s),
 ((!namedF (l ++ [(59 : UInt8)]) == [] : Bool)) = (false),
 ((l.length : Nat) ≤ ((9223372036854775800 : Nat))),
 ((namedF l : List UInt8)) = (t),
 ((!namedF l == [] : Bool)) = (false),
 ((!l == [] : Bool)) = (true),
 ((IntKind.i64.min : Int) ≤ ((↑l.length : Int) - (1 : Int))),
 (((↑l.length : Int) - (1 : Int) : Int) ≤ (IntKind.i64.max)),
 (((0 : Int) : Int) ≤ ((↑l.length : Int) - (1 : Int))),
 (((↑l.length : Int) - (1 : Int) : Int) < ((↑l.length : Int))),
 (((↑(l.getD ((↑l.length : Int) - (1 : Int)).toNat (0 : UInt8)).toNat : Int) == (59 : Int) : Bool)) = (false),
 ((b == [] : Bool)) = (false),
 (((0 : Int) : Int) ≤ ((0 : Int))),
 (((0 : Int) : Int) < ((↑b.length : Int))),
 (((0 : Int) : Int) ≤ ((↑(b.getD (Int.toNat (0 : Int)) (0 : UInt8)).toNat : Int))),
 (((↑(b.getD (Int.toNat (0 : Int)) (0 : UInt8)).toNat : Int) : Int) < ((256 : Int))),
 ((letterI (↑(b.getD (Int.toNat (0 : Int)) (0 : UInt8)).toNat : Int) : Bool)) = (p),
 ((!p : Bool)) = (true),
 (((0 : Int) : Int) ≤ ((0 : Int))),
 (((0 : Int) : Int) < ((↑b.length : Int))),
 (((0 : Int) : Int) ≤ ((↑(b.getD (Int.toNat (0 : Int)) (0 : UInt8)).toNat : Int))),
 (((↑(b.getD (Int.toNat (0 : Int)) (0 : UInt8)).toNat : Int) : Int) < ((256 : Int))),
 ((digitI (↑(b.getD (Int.toNat (0 : Int)) (0 : UInt8)).toNat : Int) (10 : Int) : Int)) = (d),
 ((decide (d < (0 : Int)) : Bool)) = (true),
 (((0 : Int) : Int) ≤ ((0 : Int))),
 (((0 : Int) : Int) < ((↑b.length : Int))),
 (((↑(b.getD (Int.toNat (0 : Int)) (0 : UInt8)).toNat : Int) != (61 : Int) : Bool)) = (false)]) := by kernel_rfl

theorem names2A_4 (l b s t e v v3 v4 : List UInt8) (p : Bool) (d : Int) : lawOut (aBody Tryd.prog clU ⟨true, bs [(33, true), (86, false), (91, true), (96, false)] ++ (bs [(14, false), (18, false), (40, false), (71, false), (81, false), (127, true), (146, true)] ++ [(25, ⟨.c (str s), none⟩), (26, ⟨.c (.bool false), none⟩), (30, ⟨.c (str t), none⟩), (31, ⟨.c (.bool false), none⟩), (66, ⟨.c (str v), none⟩), (69, ⟨.c (str e), none⟩), (70, ⟨.c (str v), none⟩), (90, ⟨.c (.bool p), none⟩), (95, ⟨.c (.int .i64 d), none⟩), (122, ⟨.c (str v3), none⟩), (125, ⟨.c (str e), none⟩), (126, ⟨.c (str v3), none⟩), (139, ⟨.c (str v4), none⟩), (144, ⟨.c (str e), none⟩), (145, ⟨.c (str v4), none⟩)])⟩ (lpBy ([])) 60 6 ([.c (str l), .c (str b)]) ([])) = some ((AV.c ((Value.bool true))), [((decide ((↑l.length : Int) > (50 : Int)) : Bool)) = (false),
 ((decide ((↑b.length : Int) > (200 : Int)) : Bool)) = (false),
 ((l.length + (1 : Nat) : Nat) ≤ ((9223372036854775807 : Nat))),
 (((l ++ [(59 : UInt8)]).length : Nat) ≤ ((9223372036854775800 : Nat))),
 ((namedF (l ++ [(59 : UInt8)]) : List UInt8)) = (s),
 ((!namedF (l ++ [(59 : UInt8)]) == [] : Bool)) = (false),
 ((l.length : Nat) ≤ ((9223372036854775800 : Nat))),
 ((namedF l : List UInt8)) = (t),
 ((!namedF l == [] : Bool)) = (false),
 ((!l == [] : Bool)) = (true),
 ((IntKind.i64.min : Int) ≤ ((↑l.length : Int) - (1 : Int))),
 (((↑l.length : Int) - (1 : Int) : Int) ≤ (IntKind.i64.max)),
 (((0 : Int) : Int) ≤ ((↑l.length : Int) - (1 : Int))),
 (((↑l.length : Int) - (1 : Int) : Int) < ((↑l.length : Int))),
 (((↑(l.getD ((↑l.length : Int) - (1 : Int)).toNat (0 : UInt8)).toNat : Int) == (59 : Int) : Bool)) = (false),
 ((b == [] : Bool)) = (false),
 (((0 : Int) : Int) ≤ ((0 : Int))),
 (((0 : Int) : Int) < ((↑b.length : Int))),
 (((0 : Int) : Int) ≤ ((↑(b.getD (Int.toNat (0 : Int)) (0 : UInt8)).toNat : Int))),
 (((↑(b.getD (Int.toNat (0 : Int)) (0 : UInt8)).toNat : Int) : Int) < ((256 : Int))),
 ((letterI (↑(b.getD (Int.toNat (0 : Int)) (0 : UInt8)).toNat : Int) : Bool)) = (p),
 ((!p : Bool)) = (true),
 (((0 : Int) : Int) ≤ ((0 : Int))),
 (((0 : Int) : Int) < ((↑b.length : Int))),
 (((0 : Int) : Int) ≤ ((↑(b.getD (Int.toNat (0 : Int)) (0 : UInt8)).toNat : Int))),
 (((↑(b.getD (Int.toNat (0 : Int)) (0 : UInt8)).toNat : Int) : Int) < ((256 : Int))),
 ((digitI (↑(b.getD (Int.toNat (0 : Int)) (0 : UInt8)).toNat : Int) (10 : Int) : Int)) = (d),
 ((decide (d < (0 : Int)) : Bool)) = (false)]) := by kernel_rfl

theorem names2A_5 (l b s t e v v3 v4 : List UInt8) (p : Bool) (d : Int) : lawOut (aBody Tryd.prog clU ⟨true, bs [(33, true), (86, false), (91, false)] ++ (bs [(14, false), (18, false), (40, false), (71, false), (81, false), (127, true), (146, true)] ++ [(25, ⟨.c (str s), none⟩), (26, ⟨.c (.bool false), none⟩), (30, ⟨.c (str t), none⟩), (31, ⟨.c (.bool false), none⟩), (66, ⟨.c (str v), none⟩), (69, ⟨.c (str e), none⟩), (70, ⟨.c (str v), none⟩), (90, ⟨.c (.bool p), none⟩), (95, ⟨.c (.int .i64 d), none⟩), (122, ⟨.c (str v3), none⟩), (125, ⟨.c (str e), none⟩), (126, ⟨.c (str v3), none⟩), (139, ⟨.c (str v4), none⟩), (144, ⟨.c (str e), none⟩), (145, ⟨.c (str v4), none⟩)])⟩ (lpBy ([])) 60 6 ([.c (str l), .c (str b)]) ([])) = some ((AV.c ((Value.bool true))), [((decide ((↑l.length : Int) > (50 : Int)) : Bool)) = (false),
 ((decide ((↑b.length : Int) > (200 : Int)) : Bool)) = (false),
 ((l.length + (1 : Nat) : Nat) ≤ ((9223372036854775807 : Nat))),
 (((l ++ [(59 : UInt8)]).length : Nat) ≤ ((9223372036854775800 : Nat))),
 ((namedF (l ++ [(59 : UInt8)]) : List UInt8)) = (s),
 ((!namedF (l ++ [(59 : UInt8)]) == [] : Bool)) = (false),
 ((l.length : Nat) ≤ ((9223372036854775800 : Nat))),
 ((namedF l : List UInt8)) = (t),
 ((!namedF l == [] : Bool)) = (false),
 ((!l == [] : Bool)) = (true),
 ((IntKind.i64.min : Int) ≤ ((↑l.length : Int) - (1 : Int))),
 (((↑l.length : Int) - (1 : Int) : Int) ≤ (IntKind.i64.max)),
 (((0 : Int) : Int) ≤ ((↑l.length : Int) - (1 : Int))),
 (((↑l.length : Int) - (1 : Int) : Int) < ((↑l.length : Int))),
 (((↑(l.getD ((↑l.length : Int) - (1 : Int)).toNat (0 : UInt8)).toNat : Int) == (59 : Int) : Bool)) = (false),
 ((b == [] : Bool)) = (false),
 (((0 : Int) : Int) ≤ ((0 : Int))),
 (((0 : Int) : Int) < ((↑b.length : Int))),
 (((0 : Int) : Int) ≤ ((↑(b.getD (Int.toNat (0 : Int)) (0 : UInt8)).toNat : Int))),
 (((↑(b.getD (Int.toNat (0 : Int)) (0 : UInt8)).toNat : Int) : Int) < ((256 : Int))),
 ((letterI (↑(b.getD (Int.toNat (0 : Int)) (0 : UInt8)).toNat : Int) : Bool)) = (p),
 ((!p : Bool)) = (false)]) := by kernel_rfl

theorem names2A_6 (l b s t e v v3 v4 : List UInt8) (p : Bool) (d : Int) : lawOut (aBody Tryd.prog clU ⟨true, bs [(33, false), (86, true)] ++ (bs [(14, false), (18, false), (40, false), (71, false), (81, false), (127, true), (146, true)] ++ [(25, ⟨.c (str s), none⟩), (26, ⟨.c (.bool false), none⟩), (30, ⟨.c (str t), none⟩), (31, ⟨.c (.bool false), none⟩), (66, ⟨.c (str v), none⟩), (69, ⟨.c (str e), none⟩), (70, ⟨.c (str v), none⟩), (90, ⟨.c (.bool p), none⟩), (95, ⟨.c (.int .i64 d), none⟩), (122, ⟨.c (str v3), none⟩), (125, ⟨.c (str e), none⟩), (126, ⟨.c (str v3), none⟩), (139, ⟨.c (str v4), none⟩), (144, ⟨.c (str e), none⟩), (145, ⟨.c (str v4), none⟩)])⟩ (lpBy ([])) 60 6 ([.c (str l), .c (str b)]) ([])) = some ((AV.c ((Value.bool true))), [((decide ((↑l.length : Int) > (50 : Int)) : Bool)) = (false),
 ((decide ((↑b.length : Int) > (200 : Int)) : Bool)) = (false),
 ((l.length + (1 : Nat) : Nat) ≤ ((9223372036854775807 : Nat))),
 (((l ++ [(59 : UInt8)]).length : Nat) ≤ ((9223372036854775800 : Nat))),
 ((namedF (l ++ [(59 : UInt8)]) : List UInt8)) = (s),
 ((!namedF (l ++ [(59 : UInt8)]) == [] : Bool)) = (false),
 ((l.length : Nat) ≤ ((9223372036854775800 : Nat))),
 ((namedF l : List UInt8)) = (t),
 ((!namedF l == [] : Bool)) = (false),
 ((!l == [] : Bool)) = (false),
 ((b == [] : Bool)) = (true)]) := by kernel_rfl

theorem names2A_7 (l b s t e v v3 v4 : List UInt8) (p : Bool) (d : Int) : lawOut (aBody Tryd.prog clU ⟨true, bs [(33, false), (86, false), (91, true), (96, true), (101, true)] ++ (bs [(14, false), (18, false), (40, false), (71, false), (81, false), (127, true), (146, true)] ++ [(25, ⟨.c (str s), none⟩), (26, ⟨.c (.bool false), none⟩), (30, ⟨.c (str t), none⟩), (31, ⟨.c (.bool false), none⟩), (66, ⟨.c (str v), none⟩), (69, ⟨.c (str e), none⟩), (70, ⟨.c (str v), none⟩), (90, ⟨.c (.bool p), none⟩), (95, ⟨.c (.int .i64 d), none⟩), (122, ⟨.c (str v3), none⟩), (125, ⟨.c (str e), none⟩), (126, ⟨.c (str v3), none⟩), (139, ⟨.c (str v4), none⟩), (144, ⟨.c (str e), none⟩), (145, ⟨.c (str v4), none⟩)])⟩ (lpBy ([])) 60 6 ([.c (str l), .c (str b)]) ([])) = some ((AV.c ((Value.bool true))), [((decide ((↑l.length : Int) > (50 : Int)) : Bool)) = (false),
 ((decide ((↑b.length : Int) > (200 : Int)) : Bool)) = (false),
 ((l.length + (1 : Nat) : Nat) ≤ ((9223372036854775807 : Nat))),
 (((l ++ [(59 : UInt8)]).length : Nat) ≤ ((9223372036854775800 : Nat))),
 ((namedF (l ++ [(59 : UInt8)]) : List UInt8)) = (s),
 ((!namedF (l ++ [(59 : UInt8)]) == [] : Bool)) = (false),
 ((l.length : Nat) ≤ ((9223372036854775800 : Nat))),
 ((namedF l : List UInt8)) = (t),
 ((!namedF l == [] : Bool)) = (false),
 ((!l == [] : Bool)) = (false),
 ((b == [] : Bool)) = (false),
 (((0 : Int) : Int) ≤ ((0 : Int))),
 (((0 : Int) : Int) < ((↑b.length : Int))),
 (((0 : Int) : Int) ≤ ((↑(b.getD (Int.toNat (0 : Int)) (0 : UInt8)).toNat : Int))),
 (((↑(b.getD (Int.toNat (0 : Int)) (0 : UInt8)).toNat : Int) : Int) < ((256 : Int))),
 ((letterI (↑(b.getD (Int.toNat (0 : Int)) (0 : UInt8)).toNat : Int) : Bool)) = (p),
 ((!p : Bool)) = (true),
 (((0 : Int) : Int) ≤ ((0 : Int))),
 (((0 : Int) : Int) < ((↑b.length : Int))),
 (((0 : Int) : Int) ≤ ((↑(b.getD (Int.toNat (0 : Int)) (0 : UInt8)).toNat : Int))),
 (((↑(b.getD (Int.toNat (0 : Int)) (0 : UInt8)).toNat : Int) : Int) < ((256 : Int))),
 ((digitI (↑(b.getD (Int.toNat (0 : Int)) (0 : UInt8)).toNat : Int) (10 : Int) : Int)) = (d),
 ((decide (d < (0 : Int)) : Bool)) = (true),
 (((0 : Int) : Int) ≤ ((0 : Int))),
 (((0 : Int) : Int) < ((↑b.length : Int))),
 (((↑(b.getD (Int.toNat (0 : Int)) (0 : UInt8)).toNat : Int) != (61 : Int) : Bool)) = (true),
 (((0 : Int) : Int) ≤ ((0 : Int))),
 (((0 : Int) : Int) < ((↑b.length : Int)))]) := by kernel_rfl

theorem names2A_8 (l b s t e v v3 v4 : List UInt8) (p : Bool) (d : Int) : lawOut (aBody Tryd.prog clU ⟨true, bs [(33, false), (86, false), (91, true), (96, true), (101, false)] ++ (bs [(14, false), (18, false), (40, false), (71, false), (81, false), (127, true), (146, true)] ++ [(25, ⟨.c (str s), none⟩), (26, ⟨.c (.bool false), none⟩), (30, ⟨.c (str t), none⟩), (31, ⟨.c (.bool false), none⟩), (66, ⟨.c (str v), none⟩), (69, ⟨.c (str e), none⟩), (70, ⟨.c (str v), none⟩), (90, ⟨.c (.bool p), none⟩), (95, ⟨.c (.int .i64 d), none⟩), (122, ⟨.c (str v3), none⟩), (125, ⟨.c (str e), none⟩), (126, ⟨.c (str v3), none⟩), (139, ⟨.c (str v4), none⟩), (144, ⟨.c (str e), none⟩), (145, ⟨.c (str v4), none⟩)])⟩ (lpBy ([])) 60 6 ([.c (str l), .c (str b)]) ([])) = some ((AV.c ((Value.bool true))), [((decide ((↑l.length : Int) > (50 : Int)) : Bool)) = (false),
 ((decide ((↑b.length : Int) > (200 : Int)) : Bool)) = (false),
 ((l.length + (1 : Nat) : Nat) ≤ ((9223372036854775807 : Nat))),
 (((l ++ [(59 : UInt8)]).length : Nat) ≤ ((9223372036854775800 : Nat))),
 ((namedF (l ++ [(59 : UInt8)]) : List UInt8)) = (s),
 ((!namedF (l ++ [(59 : UInt8)]) == [] : Bool)) = (false),
 ((l.length : Nat) ≤ ((9223372036854775800 : Nat))),
 ((namedF l : List UInt8)) = (t),
 ((!namedF l == [] : Bool)) = (false),
 ((!l == [] : Bool)) = (false),
 ((b == [] : Bool)) = (false),
 (((0 : Int) : Int) ≤ ((0 : Int))),
 (((0 : Int) : Int) < ((↑b.length : Int))),
 (((0 : Int) : Int) ≤ ((↑(b.getD (Int.toNat (0 : Int)) (0 : UInt8)).toNat : Int))),
 (((↑(b.getD (Int.toNat (0 : Int)) (0 : UInt8)).toNat : Int) : Int) < ((256 : Int))),
 ((letterI (↑(b.getD (Int.toNat (0 : Int)) (0 : UInt8)).toNat : Int) : Bool)) = (p),
 ((!p : Bool)) = (true),
 (((0 : Int) : Int) ≤ ((0 : Int))),
 (((0 : Int) : Int) < ((↑b.length : Int))),
 (((0 : Int) : Int) ≤ ((↑(b.getD (Int.toNat (0 : Int)) (0 : UInt8)).toNat : Int))),
 (((↑(b.getD (Int.toNat (0 : Int)) (0 : UInt8)).toNat : Int) : Int) < ((256 : Int))),
 ((digitI (↑(b.getD (Int.toNat (0 : Int)) (0 : UInt8)).toNat : Int) (10 : Int) : Int)) = (d),
 ((decide (d < (0 : Int)) : Bool)) = (true),
 (((0 : Int) : Int) ≤ ((0 : Int))),
 (((0 : Int) : Int) < ((↑b.length : Int))),
 (((↑(b.getD (Int.toNat (0 : Int)) (0 : UInt8)).toNat : Int) != (61 : Int) : Bool)) = (false)]) := by kernel_rfl

theorem names2A_9 (l b s t e v v3 v4 : List UInt8) (p : Bool) (d : Int) : lawOut (aBody Tryd.prog clU ⟨true, bs [(33, false), (86, false), (91, true), (96, false)] ++ (bs [(14, false), (18, false), (40, false), (71, false), (81, false), (127, true), (146, true)] ++ [(25, ⟨.c (str s), none⟩), (26, ⟨.c (.bool false), none⟩), (30, ⟨.c (str t), none⟩), (31, ⟨.c (.bool false), none⟩), (66, ⟨.c (str v), none⟩), (69, ⟨.c (str e), none⟩), (70, ⟨.c (str v), none⟩), (90, ⟨.c (.bool p), none⟩), (95, ⟨.c (.int .i64 d), none⟩), (122, ⟨.c (str v3), none⟩), (125, ⟨.c (str e), none⟩), (126, ⟨.c (str v3), none⟩), (139, ⟨.c (str v4), none⟩), (144, ⟨.c (str e), none⟩), (145, ⟨.c (str v4), none⟩)])⟩ (lpBy ([])) 60 6 ([.c (str l), .c (str b)]) ([])) = some ((AV.c ((Value.bool true))), [((decide ((↑l.length : Int) > (50 : Int)) : Bool)) = (false),
 ((decide ((↑b.length : Int) > (200 : Int)) : Bool)) = (false),
 ((l.length + (1 : Nat) : Nat) ≤ ((9223372036854775807 : Nat))),
 (((l ++ [(59 : UInt8)]).length : Nat) ≤ ((9223372036854775800 : Nat))),
 ((namedF (l ++ [(59 : UInt8)]) : List UInt8)) = (s),
 ((!namedF (l ++ [(59 : UInt8)]) == [] : Bool)) = (false),
 ((l.length : Nat) ≤ ((9223372036854775800 : Nat))),
 ((namedF l : List UInt8)) = (t),
 ((!namedF l == [] : Bool)) = (false),
 ((!l == [] : Bool)) = (false),
 ((b == [] : Bool)) = (false),
 (((0 : Int) : Int) ≤ ((0 : Int))),
 (((0 : Int) : Int) < ((↑b.length : Int))),
 (((0 : Int) : Int) ≤ ((↑(b.getD (Int.toNat (0 : Int)) (0 : UInt8)).toNat : Int))),
 (((↑(b.getD (Int.toNat (0 : Int)) (0 : UInt8)).toNat : Int) : Int) < ((256 : Int))),
 ((letterI (↑(b.getD (Int.toNat (0 : Int)) (0 : UInt8)).toNat : Int) : Bool)) = (p),
 ((!p : Bool)) = (true),
 (((0 : Int) : Int) ≤ ((0 : Int))),
 (((0 : Int) : Int) < ((↑b.length : Int))),
 (((0 : Int) : Int) ≤ ((↑(b.getD (Int.toNat (0 : Int)) (0 : UInt8)).toNat : Int))),
 (((↑(b.getD (Int.toNat (0 : Int)) (0 : UInt8)).toNat : Int) : Int) < ((256 : Int))),
 ((digitI (↑(b.getD (Int.toNat (0 : Int)) (0 : UInt8)).toNat : Int) (10 : Int) : Int)) = (d),
 ((decide (d < (0 : Int)) : Bool)) = (false)]) := by kernel_rfl

theorem names2A_10 (l b s t e v v3 v4 : List UInt8) (p : Bool) (d : Int) : lawOut (aBody Tryd.prog clU ⟨true, bs [(33, false), (86, false), (91, false)] ++ (bs [(14, false), (18, false), (40, false), (71, false), (81, false), (127, true), (146, true)] ++ [(25, ⟨.c (str s), none⟩), (26, ⟨.c (.bool false), none⟩), (30, ⟨.c (str t), none⟩), (31, ⟨.c (.bool false), none⟩), (66, ⟨.c (str v), none⟩), (69, ⟨.c (str e), none⟩), (70, ⟨.c (str v), none⟩), (90, ⟨.c (.bool p), none⟩), (95, ⟨.c (.int .i64 d), none⟩), (122, ⟨.c (str v3), none⟩), (125, ⟨.c (str e), none⟩), (126, ⟨.c (str v3), none⟩), (139, ⟨.c (str v4), none⟩), (144, ⟨.c (str e), none⟩), (145, ⟨.c (str v4), none⟩)])⟩ (lpBy ([])) 60 6 ([.c (str l), .c (str b)]) ([])) = some ((AV.c ((Value.bool true))), [((decide ((↑l.length : Int) > (50 : Int)) : Bool)) = (false),
 ((decide ((↑b.length : Int) > (200 : Int)) : Bool)) = (false),
 ((l.length + (1 : Nat) : Nat) ≤ ((9223372036854775807 : Nat))),
 (((l ++ [(59 : UInt8)]).length : Nat) ≤ ((9223372036854775800 : Nat))),
 ((namedF (l ++ [(59 : UInt8)]) : List UInt8)) = (s),
 ((!namedF (l ++ [(59 : UInt8)]) == [] : Bool)) = (false),
 ((l.length : Nat) ≤ ((9223372036854775800 : Nat))),
 ((namedF l : List UInt8)) = (t),
 ((!namedF l == [] : Bool)) = (false),
 ((!l == [] : Bool)) = (false),
 ((b == [] : Bool)) = (false),
 (((0 : Int) : Int) ≤ ((0 : Int))),
 (((0 : Int) : Int) < ((↑b.length : Int))),
 (((0 : Int) : Int) ≤ ((↑(b.getD (Int.toNat (0 : Int)) (0 : UInt8)).toNat : Int))),
 (((↑(b.getD (Int.toNat (0 : Int)) (0 : UInt8)).toNat : Int) : Int) < ((256 : Int))),
 ((letterI (↑(b.getD (Int.toNat (0 : Int)) (0 : UInt8)).toNat : Int) : Bool)) = (p),
 ((!p : Bool)) = (false)]) := by kernel_rfl

theorem names2A_all (l b s t e v v3 v4 : List UInt8) (p : Bool) (d : Int) (g0 : l.length ≤ 50) (g1 : b.length ≤ 200) (hs : namedF (l ++ [59]) = s) (hy : (!(namedF (l ++ [59]) == [])) = false) (ht : namedF l = t) (hx : (!(namedF l == [])) = false) (hll : ¬ l = [] → 0 < l.length) (hlast : ¬ l = [] → ¬ (((l.getD (l.length - 1) 0).toNat : Nat) : Int) = 59) (hlz : ((l.length : Int) - 1).toNat = l.length - 1) (hsl : s.length ≤ 100) (htl : t.length ≤ 100) (he : entF b = e) (hel : e.length ≤ 200) (hE2 : false = true → entF ((([38] ++ l) ++ [59]) ++ b) = v) (hV2 : false = true → s ++ e = v) (hst : false = true → s = t) (hV3 : t ++ e = v3) (o1 : false = true → b = [] → entF (([38] ++ l) ++ b) = v3) (o2 : false = true → ¬ b = [] → p = false → d < 0 → ¬ (((b.getD 0 0).toNat : Nat) : Int) = 61 → ¬ (((b.getD 0 0).toNat : Nat) : Int) = 59 → entF (([38] ++ l) ++ b) = v3) (hp : isL (b.getD 0 0) = p) (hd : dg 10 (b.getD 0 0) = d) (h5 : (b.getD 0 0).toNat < 256) (hbn : ¬ b = [] → 0 < b.length) (hE4 : false = true → entF ((([38] ++ l) ++ [61]) ++ b) = v4) (hV4 : (([38] ++ l) ++ [61]) ++ e = v4) : ∃ (h : Hints) (p : List Prop), lawOut (aBody Tryd.prog clU h (lpBy ([])) 60 6 ([.c (str l), .c (str b)]) ([])) = some (.c (.bool true), p) ∧ allP p := by
  cases hc33 : (!l == [] : Bool) with
  | true =>
    cases hc86 : (b == [] : Bool) with
    | true =>
      have eR := names2A_1 l b s t e v v3 v4 p d
      refine ⟨_, _, eR.trans (congrArg (fun r => some (r, _)) ?_), ?_⟩
      · try clear eR
        rfl
      · try clear eR
        try simp only [decide_eq_true_eq, decide_eq_false_iff_not, beq_iff_eq, beq_eq_false_iff_ne, bne_iff_ne, bne_eq_false_iff_eq, ne_eq] at hc33
        try simp only [toNat0, toNat1, toNat2, Int.toNat_natCast, sb_mk] at hc33
        try simp only [decide_eq_true_eq, decide_eq_false_iff_not, beq_iff_eq, beq_eq_false_iff_ne, bne_iff_ne, bne_eq_false_iff_eq, ne_eq] at hc86
        try simp only [toNat0, toNat1, toNat2, Int.toNat_natCast, sb_mk] at hc86
        try simp (disch := omega) only [allP, sb_mk, sl1, toNat0, toNat1, toNat2, Int.toNat_natCast, List.take_length, List.take_succ_cons, List.drop_succ_cons, List.drop_zero, List.take_zero, List.length_cons, List.length_nil, List.getD_cons_zero, i64_wrap, i32_wrap, u8_wrap, u32_wrap, tdN, tmN, i64_min, i64_max, u8_min, u8_max, decide_eq_true_eq, decide_eq_false_iff_not, beq_iff_eq, beq_eq_false_iff_ne, bne_iff_ne, bne_eq_false_iff_eq, ne_eq, not_false_eq_true, and_true, true_and, Int.zero_sub, beq_self_eq_true, Bool.not_true, hlz]
        repeat' apply And.intro
        all_goals first | exact True.intro | omega | with_reducible rfl | with_reducible assumption | (have := hbn hc86; omega) | (have := hll (lne hc33); omega) | exact hlast (lne hc33) | exact hx | exact hy | exact hE2 rfl | exact hV2 rfl | (rw [hst rfl, bne_eq_false_iff_eq]) | exact o1 rfl hc86 | exact o2 rfl hc86 (notb hc91) hc96 hc101 (notne hc115) | exact hE4 rfl | exact hp.trans (notb hc91) | exact hp.trans (notb2 hc91) | exact hp | (simp only [List.length_append, List.length_cons, List.length_nil]; omega) | (rw [hst rfl]; simp) | exact hs | exact hy | exact ht | exact hx | exact hlast | exact hlz | exact he | exact hE2 | exact hV2 | exact hst | exact hV3 | exact o1 | exact hp | exact hd | exact hE4 | exact hV4 | rfl
    | false =>
      cases hc91 : (!p : Bool) with
      | true =>
        cases hc96 : (decide (d < (0 : Int)) : Bool) with
        | true =>
          cases hc101 : ((↑(b.getD (Int.toNat (0 : Int)) (0 : UInt8)).toNat : Int) != (61 : Int) : Bool) with
          | true =>
            have eR := names2A_2 l b s t e v v3 v4 p d
            refine ⟨_, _, eR.trans (congrArg (fun r => some (r, _)) ?_), ?_⟩
            · try clear eR
              rfl
            · try clear eR
              try simp only [decide_eq_true_eq, decide_eq_false_iff_not, beq_iff_eq, beq_eq_false_iff_ne, bne_iff_ne, bne_eq_false_iff_eq, ne_eq] at hc33
              try simp only [toNat0, toNat1, toNat2, Int.toNat_natCast, sb_mk] at hc33
              try simp only [decide_eq_true_eq, decide_eq_false_iff_not, beq_iff_eq, beq_eq_false_iff_ne, bne_iff_ne, bne_eq_false_iff_eq, ne_eq] at hc86
              try simp only [toNat0, toNat1, toNat2, Int.toNat_natCast, sb_mk] at hc86
              try simp only [decide_eq_true_eq, decide_eq_false_iff_not, beq_iff_eq, beq_eq_false_iff_ne, bne_iff_ne, bne_eq_false_iff_eq, ne_eq] at hc91
              try simp only [toNat0, toNat1, toNat2, Int.toNat_natCast, sb_mk] at hc91
              try simp only [decide_eq_true_eq, decide_eq_false_iff_not, beq_iff_eq, beq_eq_false_iff_ne, bne_iff_ne, bne_eq_false_iff_eq, ne_eq] at hc96
              try simp only [toNat0, toNat1, toNat2, Int.toNat_natCast, sb_mk] at hc96
              try simp only [decide_eq_true_eq, decide_eq_false_iff_not, beq_iff_eq, beq_eq_false_iff_ne, bne_iff_ne, bne_eq_false_iff_eq, ne_eq] at hc101
              try simp only [toNat0, toNat1, toNat2, Int.toNat_natCast, sb_mk] at hc101
              try simp (disch := omega) only [allP, sb_mk, sl1, toNat0, toNat1, toNat2, Int.toNat_natCast, List.take_length, List.take_succ_cons, List.drop_succ_cons, List.drop_zero, List.take_zero, List.length_cons, List.length_nil, List.getD_cons_zero, i64_wrap, i32_wrap, u8_wrap, u32_wrap, tdN, tmN, i64_min, i64_max, u8_min, u8_max, decide_eq_true_eq, decide_eq_false_iff_not, beq_iff_eq, beq_eq_false_iff_ne, bne_iff_ne, bne_eq_false_iff_eq, ne_eq, not_false_eq_true, and_true, true_and, Int.zero_sub, beq_self_eq_true, Bool.not_true, hlz]
              repeat' apply And.intro
              all_goals first | exact True.intro | omega | with_reducible rfl | with_reducible assumption | (have := hbn hc86; omega) | (have := hll (lne hc33); omega) | exact hlast (lne hc33) | exact hx | exact hy | exact hE2 rfl | exact hV2 rfl | (rw [hst rfl, bne_eq_false_iff_eq]) | exact o1 rfl hc86 | exact o2 rfl hc86 (notb hc91) hc96 hc101 (notne hc115) | exact hE4 rfl | exact hp.trans (notb hc91) | exact hp.trans (notb2 hc91) | exact hp | (simp only [List.length_append, List.length_cons, List.length_nil]; omega) | (rw [hst rfl]; simp) | exact hs | exact hy | exact ht | exact hx | exact hlast | exact hlz | exact he | exact hE2 | exact hV2 | exact hst | exact hV3 | exact o1 | exact hp | exact hd | exact hE4 | exact hV4 | rfl
          | false =>
            have eR := names2A_3 l b s t e v v3 v4 p d
            refine ⟨_, _, eR.trans (congrArg (fun r => some (r, _)) ?_), ?_⟩
            · try clear eR
              rfl
            · try clear eR
              try simp only [decide_eq_true_eq, decide_eq_false_iff_not, beq_iff_eq, beq_eq_false_iff_ne, bne_iff_ne, bne_eq_false_iff_eq, ne_eq] at hc33
              try simp only [toNat0, toNat1, toNat2, Int.toNat_natCast, sb_mk] at hc33
              try simp only [decide_eq_true_eq, decide_eq_false_iff_not, beq_iff_eq, beq_eq_false_iff_ne, bne_iff_ne, bne_eq_false_iff_eq, ne_eq] at hc86
              try simp only [toNat0, toNat1, toNat2, Int.toNat_natCast, sb_mk] at hc86
              try simp only [decide_eq_true_eq, decide_eq_false_iff_not, beq_iff_eq, beq_eq_false_iff_ne, bne_iff_ne, bne_eq_false_iff_eq, ne_eq] at hc91
              try simp only [toNat0, toNat1, toNat2, Int.toNat_natCast, sb_mk] at hc91
              try simp only [decide_eq_true_eq, decide_eq_false_iff_not, beq_iff_eq, beq_eq_false_iff_ne, bne_iff_ne, bne_eq_false_iff_eq, ne_eq] at hc96
              try simp only [toNat0, toNat1, toNat2, Int.toNat_natCast, sb_mk] at hc96
              try simp only [decide_eq_true_eq, decide_eq_false_iff_not, beq_iff_eq, beq_eq_false_iff_ne, bne_iff_ne, bne_eq_false_iff_eq, ne_eq] at hc101
              try simp only [toNat0, toNat1, toNat2, Int.toNat_natCast, sb_mk] at hc101
              try simp (disch := omega) only [allP, sb_mk, sl1, toNat0, toNat1, toNat2, Int.toNat_natCast, List.take_length, List.take_succ_cons, List.drop_succ_cons, List.drop_zero, List.take_zero, List.length_cons, List.length_nil, List.getD_cons_zero, i64_wrap, i32_wrap, u8_wrap, u32_wrap, tdN, tmN, i64_min, i64_max, u8_min, u8_max, decide_eq_true_eq, decide_eq_false_iff_not, beq_iff_eq, beq_eq_false_iff_ne, bne_iff_ne, bne_eq_false_iff_eq, ne_eq, not_false_eq_true, and_true, true_and, Int.zero_sub, beq_self_eq_true, Bool.not_true, hlz]
              repeat' apply And.intro
              all_goals first | exact True.intro | omega | with_reducible rfl | with_reducible assumption | (have := hbn hc86; omega) | (have := hll (lne hc33); omega) | exact hlast (lne hc33) | exact hx | exact hy | exact hE2 rfl | exact hV2 rfl | (rw [hst rfl, bne_eq_false_iff_eq]) | exact o1 rfl hc86 | exact o2 rfl hc86 (notb hc91) hc96 hc101 (notne hc115) | exact hE4 rfl | exact hp.trans (notb hc91) | exact hp.trans (notb2 hc91) | exact hp | (simp only [List.length_append, List.length_cons, List.length_nil]; omega) | (rw [hst rfl]; simp) | exact hs | exact hy | exact ht | exact hx | exact hlast | exact hlz | exact he | exact hE2 | exact hV2 | exact hst | exact hV3 | exact o1 | exact hp | exact hd | exact hE4 | exact hV4 | rfl
        | false =>
          have eR := names2A_4 l b s t e v v3 v4 p d
          refine ⟨_, _, eR.trans (congrArg (fun r => some (r, _)) ?_), ?_⟩
          · try clear eR
            rfl
          · try clear eR
            try simp only [decide_eq_true_eq, decide_eq_false_iff_not, beq_iff_eq, beq_eq_false_iff_ne, bne_iff_ne, bne_eq_false_iff_eq, ne_eq] at hc33
            try simp only [toNat0, toNat1, toNat2, Int.toNat_natCast, sb_mk] at hc33
            try simp only [decide_eq_true_eq, decide_eq_false_iff_not, beq_iff_eq, beq_eq_false_iff_ne, bne_iff_ne, bne_eq_false_iff_eq, ne_eq] at hc86
            try simp only [toNat0, toNat1, toNat2, Int.toNat_natCast, sb_mk] at hc86
            try simp only [decide_eq_true_eq, decide_eq_false_iff_not, beq_iff_eq, beq_eq_false_iff_ne, bne_iff_ne, bne_eq_false_iff_eq, ne_eq] at hc91
            try simp only [toNat0, toNat1, toNat2, Int.toNat_natCast, sb_mk] at hc91
            try simp only [decide_eq_true_eq, decide_eq_false_iff_not, beq_iff_eq, beq_eq_false_iff_ne, bne_iff_ne, bne_eq_false_iff_eq, ne_eq] at hc96
            try simp only [toNat0, toNat1, toNat2, Int.toNat_natCast, sb_mk] at hc96
            try simp (disch := omega) only [allP, sb_mk, sl1, toNat0, toNat1, toNat2, Int.toNat_natCast, List.take_length, List.take_succ_cons, List.drop_succ_cons, List.drop_zero, List.take_zero, List.length_cons, List.length_nil, List.getD_cons_zero, i64_wrap, i32_wrap, u8_wrap, u32_wrap, tdN, tmN, i64_min, i64_max, u8_min, u8_max, decide_eq_true_eq, decide_eq_false_iff_not, beq_iff_eq, beq_eq_false_iff_ne, bne_iff_ne, bne_eq_false_iff_eq, ne_eq, not_false_eq_true, and_true, true_and, Int.zero_sub, beq_self_eq_true, Bool.not_true, hlz]
            repeat' apply And.intro
            all_goals first | exact True.intro | omega | with_reducible rfl | with_reducible assumption | (have := hbn hc86; omega) | (have := hll (lne hc33); omega) | exact hlast (lne hc33) | exact hx | exact hy | exact hE2 rfl | exact hV2 rfl | (rw [hst rfl, bne_eq_false_iff_eq]) | exact o1 rfl hc86 | exact o2 rfl hc86 (notb hc91) hc96 hc101 (notne hc115) | exact hE4 rfl | exact hp.trans (notb hc91) | exact hp.trans (notb2 hc91) | exact hp | (simp only [List.length_append, List.length_cons, List.length_nil]; omega) | (rw [hst rfl]; simp) | exact hs | exact hy | exact ht | exact hx | exact hlast | exact hlz | exact he | exact hE2 | exact hV2 | exact hst | exact hV3 | exact o1 | exact hp | exact hd | exact hE4 | exact hV4 | rfl
      | false =>
        have eR := names2A_5 l b s t e v v3 v4 p d
        refine ⟨_, _, eR.trans (congrArg (fun r => some (r, _)) ?_), ?_⟩
        · try clear eR
          rfl
        · try clear eR
          try simp only [decide_eq_true_eq, decide_eq_false_iff_not, beq_iff_eq, beq_eq_false_iff_ne, bne_iff_ne, bne_eq_false_iff_eq, ne_eq] at hc33
          try simp only [toNat0, toNat1, toNat2, Int.toNat_natCast, sb_mk] at hc33
          try simp only [decide_eq_true_eq, decide_eq_false_iff_not, beq_iff_eq, beq_eq_false_iff_ne, bne_iff_ne, bne_eq_false_iff_eq, ne_eq] at hc86
          try simp only [toNat0, toNat1, toNat2, Int.toNat_natCast, sb_mk] at hc86
          try simp only [decide_eq_true_eq, decide_eq_false_iff_not, beq_iff_eq, beq_eq_false_iff_ne, bne_iff_ne, bne_eq_false_iff_eq, ne_eq] at hc91
          try simp only [toNat0, toNat1, toNat2, Int.toNat_natCast, sb_mk] at hc91
          try simp (disch := omega) only [allP, sb_mk, sl1, toNat0, toNat1, toNat2, Int.toNat_natCast, List.take_length, List.take_succ_cons, List.drop_succ_cons, List.drop_zero, List.take_zero, List.length_cons, List.length_nil, List.getD_cons_zero, i64_wrap, i32_wrap, u8_wrap, u32_wrap, tdN, tmN, i64_min, i64_max, u8_min, u8_max, decide_eq_true_eq, decide_eq_false_iff_not, beq_iff_eq, beq_eq_false_iff_ne, bne_iff_ne, bne_eq_false_iff_eq, ne_eq, not_false_eq_true, and_true, true_and, Int.zero_sub, beq_self_eq_true, Bool.not_true, hlz]
          repeat' apply And.intro
          all_goals first | exact True.intro | omega | with_reducible rfl | with_reducible assumption | (have := hbn hc86; omega) | (have := hll (lne hc33); omega) | exact hlast (lne hc33) | exact hx | exact hy | exact hE2 rfl | exact hV2 rfl | (rw [hst rfl, bne_eq_false_iff_eq]) | exact o1 rfl hc86 | exact o2 rfl hc86 (notb hc91) hc96 hc101 (notne hc115) | exact hE4 rfl | exact hp.trans (notb hc91) | exact hp.trans (notb2 hc91) | exact hp | (simp only [List.length_append, List.length_cons, List.length_nil]; omega) | (rw [hst rfl]; simp) | exact hs | exact hy | exact ht | exact hx | exact hlast | exact hlz | exact he | exact hE2 | exact hV2 | exact hst | exact hV3 | exact o1 | exact hp | exact hd | exact hE4 | exact hV4 | rfl
  | false =>
    cases hc86 : (b == [] : Bool) with
    | true =>
      have eR := names2A_6 l b s t e v v3 v4 p d
      refine ⟨_, _, eR.trans (congrArg (fun r => some (r, _)) ?_), ?_⟩
      · try clear eR
        rfl
      · try clear eR
        try simp only [decide_eq_true_eq, decide_eq_false_iff_not, beq_iff_eq, beq_eq_false_iff_ne, bne_iff_ne, bne_eq_false_iff_eq, ne_eq] at hc33
        try simp only [toNat0, toNat1, toNat2, Int.toNat_natCast, sb_mk] at hc33
        try simp only [decide_eq_true_eq, decide_eq_false_iff_not, beq_iff_eq, beq_eq_false_iff_ne, bne_iff_ne, bne_eq_false_iff_eq, ne_eq] at hc86
        try simp only [toNat0, toNat1, toNat2, Int.toNat_natCast, sb_mk] at hc86
        try simp (disch := omega) only [allP, sb_mk, sl1, toNat0, toNat1, toNat2, Int.toNat_natCast, List.take_length, List.take_succ_cons, List.drop_succ_cons, List.drop_zero, List.take_zero, List.length_cons, List.length_nil, List.getD_cons_zero, i64_wrap, i32_wrap, u8_wrap, u32_wrap, tdN, tmN, i64_min, i64_max, u8_min, u8_max, decide_eq_true_eq, decide_eq_false_iff_not, beq_iff_eq, beq_eq_false_iff_ne, bne_iff_ne, bne_eq_false_iff_eq, ne_eq, not_false_eq_true, and_true, true_and, Int.zero_sub, beq_self_eq_true, Bool.not_true, hlz]
        repeat' apply And.intro
        all_goals first | exact True.intro | omega | with_reducible rfl | with_reducible assumption | (have := hbn hc86; omega) | (have := hll (lne hc33); omega) | exact hlast (lne hc33) | exact hx | exact hy | exact hE2 rfl | exact hV2 rfl | (rw [hst rfl, bne_eq_false_iff_eq]) | exact o1 rfl hc86 | exact o2 rfl hc86 (notb hc91) hc96 hc101 (notne hc115) | exact hE4 rfl | exact hp.trans (notb hc91) | exact hp.trans (notb2 hc91) | exact hp | (simp only [List.length_append, List.length_cons, List.length_nil]; omega) | (rw [hst rfl]; simp) | exact hs | exact hy | exact ht | exact hx | exact hlast | exact hlz | exact he | exact hE2 | exact hV2 | exact hst | exact hV3 | exact o1 | exact hp | exact hd | exact hE4 | exact hV4 | rfl
    | false =>
      cases hc91 : (!p : Bool) with
      | true =>
        cases hc96 : (decide (d < (0 : Int)) : Bool) with
        | true =>
          cases hc101 : ((↑(b.getD (Int.toNat (0 : Int)) (0 : UInt8)).toNat : Int) != (61 : Int) : Bool) with
          | true =>
            have eR := names2A_7 l b s t e v v3 v4 p d
            refine ⟨_, _, eR.trans (congrArg (fun r => some (r, _)) ?_), ?_⟩
            · try clear eR
              rfl
            · try clear eR
              try simp only [decide_eq_true_eq, decide_eq_false_iff_not, beq_iff_eq, beq_eq_false_iff_ne, bne_iff_ne, bne_eq_false_iff_eq, ne_eq] at hc33
              try simp only [toNat0, toNat1, toNat2, Int.toNat_natCast, sb_mk] at hc33
              try simp only [decide_eq_true_eq, decide_eq_false_iff_not, beq_iff_eq, beq_eq_false_iff_ne, bne_iff_ne, bne_eq_false_iff_eq, ne_eq] at hc86
              try simp only [toNat0, toNat1, toNat2, Int.toNat_natCast, sb_mk] at hc86
              try simp only [decide_eq_true_eq, decide_eq_false_iff_not, beq_iff_eq, beq_eq_false_iff_ne, bne_iff_ne, bne_eq_false_iff_eq, ne_eq] at hc91
              try simp only [toNat0, toNat1, toNat2, Int.toNat_natCast, sb_mk] at hc91
              try simp only [decide_eq_true_eq, decide_eq_false_iff_not, beq_iff_eq, beq_eq_false_iff_ne, bne_iff_ne, bne_eq_false_iff_eq, ne_eq] at hc96
              try simp only [toNat0, toNat1, toNat2, Int.toNat_natCast, sb_mk] at hc96
              try simp only [decide_eq_true_eq, decide_eq_false_iff_not, beq_iff_eq, beq_eq_false_iff_ne, bne_iff_ne, bne_eq_false_iff_eq, ne_eq] at hc101
              try simp only [toNat0, toNat1, toNat2, Int.toNat_natCast, sb_mk] at hc101
              try simp (disch := omega) only [allP, sb_mk, sl1, toNat0, toNat1, toNat2, Int.toNat_natCast, List.take_length, List.take_succ_cons, List.drop_succ_cons, List.drop_zero, List.take_zero, List.length_cons, List.length_nil, List.getD_cons_zero, i64_wrap, i32_wrap, u8_wrap, u32_wrap, tdN, tmN, i64_min, i64_max, u8_min, u8_max, decide_eq_true_eq, decide_eq_false_iff_not, beq_iff_eq, beq_eq_false_iff_ne, bne_iff_ne, bne_eq_false_iff_eq, ne_eq, not_false_eq_true, and_true, true_and, Int.zero_sub, beq_self_eq_true, Bool.not_true, hlz]
              repeat' apply And.intro
              all_goals first | exact True.intro | omega | with_reducible rfl | with_reducible assumption | (have := hbn hc86; omega) | (have := hll (lne hc33); omega) | exact hlast (lne hc33) | exact hx | exact hy | exact hE2 rfl | exact hV2 rfl | (rw [hst rfl, bne_eq_false_iff_eq]) | exact o1 rfl hc86 | exact o2 rfl hc86 (notb hc91) hc96 hc101 (notne hc115) | exact hE4 rfl | exact hp.trans (notb hc91) | exact hp.trans (notb2 hc91) | exact hp | (simp only [List.length_append, List.length_cons, List.length_nil]; omega) | (rw [hst rfl]; simp) | exact hs | exact hy | exact ht | exact hx | exact hlast | exact hlz | exact he | exact hE2 | exact hV2 | exact hst | exact hV3 | exact o1 | exact hp | exact hd | exact hE4 | exact hV4 | rfl
          | false =>
            have eR := names2A_8 l b s t e v v3 v4 p d
            refine ⟨_, _, eR.trans (congrArg (fun r => some (r, _)) ?_), ?_⟩
            · try clear eR
              rfl
            · try clear eR
              try simp only [decide_eq_true_eq, decide_eq_false_iff_not, beq_iff_eq, beq_eq_false_iff_ne, bne_iff_ne, bne_eq_false_iff_eq, ne_eq] at hc33
              try simp only [toNat0, toNat1, toNat2, Int.toNat_natCast, sb_mk] at hc33
              try simp only [decide_eq_true_eq, decide_eq_false_iff_not, beq_iff_eq, beq_eq_false_iff_ne, bne_iff_ne, bne_eq_false_iff_eq, ne_eq] at hc86
              try simp only [toNat0, toNat1, toNat2, Int.toNat_natCast, sb_mk] at hc86
              try simp only [decide_eq_true_eq, decide_eq_false_iff_not, beq_iff_eq, beq_eq_false_iff_ne, bne_iff_ne, bne_eq_false_iff_eq, ne_eq] at hc91
              try simp only [toNat0, toNat1, toNat2, Int.toNat_natCast, sb_mk] at hc91
              try simp only [decide_eq_true_eq, decide_eq_false_iff_not, beq_iff_eq, beq_eq_false_iff_ne, bne_iff_ne, bne_eq_false_iff_eq, ne_eq] at hc96
              try simp only [toNat0, toNat1, toNat2, Int.toNat_natCast, sb_mk] at hc96
              try simp only [decide_eq_true_eq, decide_eq_false_iff_not, beq_iff_eq, beq_eq_false_iff_ne, bne_iff_ne, bne_eq_false_iff_eq, ne_eq] at hc101
              try simp only [toNat0, toNat1, toNat2, Int.toNat_natCast, sb_mk] at hc101
              try simp (disch := omega) only [allP, sb_mk, sl1, toNat0, toNat1, toNat2, Int.toNat_natCast, List.take_length, List.take_succ_cons, List.drop_succ_cons, List.drop_zero, List.take_zero, List.length_cons, List.length_nil, List.getD_cons_zero, i64_wrap, i32_wrap, u8_wrap, u32_wrap, tdN, tmN, i64_min, i64_max, u8_min, u8_max, decide_eq_true_eq, decide_eq_false_iff_not, beq_iff_eq, beq_eq_false_iff_ne, bne_iff_ne, bne_eq_false_iff_eq, ne_eq, not_false_eq_true, and_true, true_and, Int.zero_sub, beq_self_eq_true, Bool.not_true, hlz]
              repeat' apply And.intro
              all_goals first | exact True.intro | omega | with_reducible rfl | with_reducible assumption | (have := hbn hc86; omega) | (have := hll (lne hc33); omega) | exact hlast (lne hc33) | exact hx | exact hy | exact hE2 rfl | exact hV2 rfl | (rw [hst rfl, bne_eq_false_iff_eq]) | exact o1 rfl hc86 | exact o2 rfl hc86 (notb hc91) hc96 hc101 (notne hc115) | exact hE4 rfl | exact hp.trans (notb hc91) | exact hp.trans (notb2 hc91) | exact hp | (simp only [List.length_append, List.length_cons, List.length_nil]; omega) | (rw [hst rfl]; simp) | exact hs | exact hy | exact ht | exact hx | exact hlast | exact hlz | exact he | exact hE2 | exact hV2 | exact hst | exact hV3 | exact o1 | exact hp | exact hd | exact hE4 | exact hV4 | rfl
        | false =>
          have eR := names2A_9 l b s t e v v3 v4 p d
          refine ⟨_, _, eR.trans (congrArg (fun r => some (r, _)) ?_), ?_⟩
          · try clear eR
            rfl
          · try clear eR
            try simp only [decide_eq_true_eq, decide_eq_false_iff_not, beq_iff_eq, beq_eq_false_iff_ne, bne_iff_ne, bne_eq_false_iff_eq, ne_eq] at hc33
            try simp only [toNat0, toNat1, toNat2, Int.toNat_natCast, sb_mk] at hc33
            try simp only [decide_eq_true_eq, decide_eq_false_iff_not, beq_iff_eq, beq_eq_false_iff_ne, bne_iff_ne, bne_eq_false_iff_eq, ne_eq] at hc86
            try simp only [toNat0, toNat1, toNat2, Int.toNat_natCast, sb_mk] at hc86
            try simp only [decide_eq_true_eq, decide_eq_false_iff_not, beq_iff_eq, beq_eq_false_iff_ne, bne_iff_ne, bne_eq_false_iff_eq, ne_eq] at hc91
            try simp only [toNat0, toNat1, toNat2, Int.toNat_natCast, sb_mk] at hc91
            try simp only [decide_eq_true_eq, decide_eq_false_iff_not, beq_iff_eq, beq_eq_false_iff_ne, bne_iff_ne, bne_eq_false_iff_eq, ne_eq] at hc96
            try simp only [toNat0, toNat1, toNat2, Int.toNat_natCast, sb_mk] at hc96
            try simp (disch := omega) only [allP, sb_mk, sl1, toNat0, toNat1, toNat2, Int.toNat_natCast, List.take_length, List.take_succ_cons, List.drop_succ_cons, List.drop_zero, List.take_zero, List.length_cons, List.length_nil, List.getD_cons_zero, i64_wrap, i32_wrap, u8_wrap, u32_wrap, tdN, tmN, i64_min, i64_max, u8_min, u8_max, decide_eq_true_eq, decide_eq_false_iff_not, beq_iff_eq, beq_eq_false_iff_ne, bne_iff_ne, bne_eq_false_iff_eq, ne_eq, not_false_eq_true, and_true, true_and, Int.zero_sub, beq_self_eq_true, Bool.not_true, hlz]
            repeat' apply And.intro
            all_goals first | exact True.intro | omega | with_reducible rfl | with_reducible assumption | (have := hbn hc86; omega) | (have := hll (lne hc33); omega) | exact hlast (lne hc33) | exact hx | exact hy | exact hE2 rfl | exact hV2 rfl | (rw [hst rfl, bne_eq_false_iff_eq]) | exact o1 rfl hc86 | exact o2 rfl hc86 (notb hc91) hc96 hc101 (notne hc115) | exact hE4 rfl | exact hp.trans (notb hc91) | exact hp.trans (notb2 hc91) | exact hp | (simp only [List.length_append, List.length_cons, List.length_nil]; omega) | (rw [hst rfl]; simp) | exact hs | exact hy | exact ht | exact hx | exact hlast | exact hlz | exact he | exact hE2 | exact hV2 | exact hst | exact hV3 | exact o1 | exact hp | exact hd | exact hE4 | exact hV4 | rfl
      | false =>
        have eR := names2A_10 l b s t e v v3 v4 p d
        refine ⟨_, _, eR.trans (congrArg (fun r => some (r, _)) ?_), ?_⟩
        · try clear eR
          rfl
        · try clear eR
          try simp only [decide_eq_true_eq, decide_eq_false_iff_not, beq_iff_eq, beq_eq_false_iff_ne, bne_iff_ne, bne_eq_false_iff_eq, ne_eq] at hc33
          try simp only [toNat0, toNat1, toNat2, Int.toNat_natCast, sb_mk] at hc33
          try simp only [decide_eq_true_eq, decide_eq_false_iff_not, beq_iff_eq, beq_eq_false_iff_ne, bne_iff_ne, bne_eq_false_iff_eq, ne_eq] at hc86
          try simp only [toNat0, toNat1, toNat2, Int.toNat_natCast, sb_mk] at hc86
          try simp only [decide_eq_true_eq, decide_eq_false_iff_not, beq_iff_eq, beq_eq_false_iff_ne, bne_iff_ne, bne_eq_false_iff_eq, ne_eq] at hc91
          try simp only [toNat0, toNat1, toNat2, Int.toNat_natCast, sb_mk] at hc91
          try simp (disch := omega) only [allP, sb_mk, sl1, toNat0, toNat1, toNat2, Int.toNat_natCast, List.take_length, List.take_succ_cons, List.drop_succ_cons, List.drop_zero, List.take_zero, List.length_cons, List.length_nil, List.getD_cons_zero, i64_wrap, i32_wrap, u8_wrap, u32_wrap, tdN, tmN, i64_min, i64_max, u8_min, u8_max, decide_eq_true_eq, decide_eq_false_iff_not, beq_iff_eq, beq_eq_false_iff_ne, bne_iff_ne, bne_eq_false_iff_eq, ne_eq, not_false_eq_true, and_true, true_and, Int.zero_sub, beq_self_eq_true, Bool.not_true, hlz]
          repeat' apply And.intro
          all_goals first | exact True.intro | omega | with_reducible rfl | with_reducible assumption | (have := hbn hc86; omega) | (have := hll (lne hc33); omega) | exact hlast (lne hc33) | exact hx | exact hy | exact hE2 rfl | exact hV2 rfl | (rw [hst rfl, bne_eq_false_iff_eq]) | exact o1 rfl hc86 | exact o2 rfl hc86 (notb hc91) hc96 hc101 (notne hc115) | exact hE4 rfl | exact hp.trans (notb hc91) | exact hp.trans (notb2 hc91) | exact hp | (simp only [List.length_append, List.length_cons, List.length_nil]; omega) | (rw [hst rfl]; simp) | exact hs | exact hy | exact ht | exact hx | exact hlast | exact hlz | exact he | exact hE2 | exact hV2 | exact hst | exact hV3 | exact o1 | exact hp | exact hd | exact hE4 | exact hV4 | rfl


theorem names2B_1 (l b s t e v v3 v4 : List UInt8) (p : Bool) (d : Int) : lawOut (aBody Tryd.prog clU ⟨true, bs [(33, true), (86, true)] ++ (bs [(14, false), (18, false), (40, false), (71, false), (81, false), (127, true), (146, true)] ++ [(25, ⟨.c (str s), none⟩), (26, ⟨.c (.bool true), none⟩), (30, ⟨.c (str t), none⟩), (31, ⟨.c (.bool false), none⟩), (66, ⟨.c (str v), none⟩), (69, ⟨.c (str e), none⟩), (70, ⟨.c (str v), none⟩), (90, ⟨.c (.bool p), none⟩), (95, ⟨.c (.int .i64 d), none⟩), (122, ⟨.c (str v3), none⟩), (125, ⟨.c (str e), none⟩), (126, ⟨.c (str v3), none⟩), (139, ⟨.c (str v4), none⟩), (144, ⟨.c (str e), none⟩), (145, ⟨.c (str v4), none⟩)])⟩ (lpBy ([])) 60 6 ([.c (str l), .c (str b)]) ([])) = some ((AV.c ((Value.bool true))), [((decide ((↑l.length : Int) > (50 : Int)) : Bool)) = (false),
 ((decide ((↑b.length : Int) > (200 : Int)) : Bool)) = (false),
 ((l.length + (1 : Nat) : Nat) ≤ ((9223372036854775807 : Nat))),
 (((l ++ [(59 : UInt8)]).length : Nat) ≤ ((9223372036854775800 : Nat))),
 ((namedF (l ++ [(59 : UInt8)]) : List UInt8)) = (s),
 ((!namedF (l ++ [(59 : UInt8)]) == [] : Bool)) = (true),
 ((l.length : Nat) ≤ ((9223372036854775800 : Nat))),
 ((namedF l : List UInt8)) = (t),
 ((!namedF l == [] : Bool)) = (false),
 ((!l == [] : Bool)) = (true),
 ((IntKind.i64.min : Int) ≤ ((↑l.length : Int) - (1 : Int))),
 (((↑l.length : Int) - (1 : Int) : Int) ≤ (IntKind.i64.max)),
 (((0 : Int) : Int) ≤ ((↑l.length : Int) - (1 : Int))),
 (((↑l.length : Int) - (1 : Int) : Int) < ((↑l.length : Int))),
 (((↑(l.getD ((↑l.length : Int) - (1 : Int)).toNat (0 : UInt8)).toNat : Int) == (59 : Int) : Bool)) = (false),
 (((1 : Nat) + l.length : Nat) ≤ ((9223372036854775807 : Nat))),
 ((([(38 : UInt8)] ++ l).length + (1 : Nat) : Nat) ≤ ((9223372036854775807 : Nat))),
 ((([(38 : UInt8)] ++ l ++ [(59 : UInt8)]).length + b.length : Nat) ≤ ((9223372036854775807 : Nat))),
 ((([(38 : UInt8)] ++ l ++ [(59 : UInt8)] ++ b).length : Nat) ≤ ((1000000000 : Nat))),
 ((entF ([(38 : UInt8)] ++ l ++ [(59 : UInt8)] ++ b) : List UInt8)) = (v),
 ((b.length : Nat) ≤ ((1000000000 : Nat))),
 ((entF b : List UInt8)) = (e),
 ((s.length + e.length : Nat) ≤ ((9223372036854775807 : Nat))),
 ((s ++ e : List UInt8)) = (v),
 ((!v == v : Bool)) = (false),
 ((b == [] : Bool)) = (true)]) := by kernel_rfl

theorem names2B_2 (l b s t e v v3 v4 : List UInt8) (p : Bool) (d : Int) : lawOut (aBody Tryd.prog clU ⟨true, bs [(33, true), (86, false), (91, true), (96, true), (101, true)] ++ (bs [(14, false), (18, false), (40, false), (71, false), (81, false), (127, true), (146, true)] ++ [(25, ⟨.c (str s), none⟩), (26, ⟨.c (.bool true), none⟩), (30, ⟨.c (str t), none⟩), (31, ⟨.c (.bool false), none⟩), (66, ⟨.c (str v), none⟩), (69, ⟨.c (str e), none⟩), (70, ⟨.c (str v), none⟩), (90, ⟨.c (.bool p), none⟩), (95, ⟨.c (.int .i64 d), none⟩), (122, ⟨.c (str v3), none⟩), (125, ⟨.c (str e), none⟩), (126, ⟨.c (str v3), none⟩), (139, ⟨.c (str v4), none⟩), (144, ⟨.c (str e), none⟩), (145, ⟨.c (str v4), none⟩)])⟩ (lpBy ([])) 60 6 ([.c (str l), .c (str b)]) ([])) = some ((AV.c ((Value.bool true))), [((decide ((↑l.length : Int) > (50 : Int)) : Bool)) = (false),
 ((decide ((↑b.length : Int) > (200 : Int)) : Bool)) = (false),
 ((l.length + (1 : Nat) : Nat) ≤ ((9223372036854775807 : Nat))),
 (((l ++ [(59 : UInt8)]).length : Nat) ≤ ((9223372036854775800 : Nat))),
 ((namedF (l ++ [(59 : UInt8)]) : List UInt8)) = (s),
 ((!namedF (l ++ [(59 : UInt8)]) == [] : Bool)) = (true),
 ((l.length : Nat) ≤ ((9223372036854775800 : Nat))),
 ((namedF l : List UInt8)) = (t),
 ((!namedF l == [] : Bool)) = (false),
 ((!l == [] : Bool)) = (true),
 ((IntKind.i64.min : Int) ≤ ((↑l.length : Int) - (1 : Int))),
 (((↑l.length : Int) - (1 : Int) : Int) ≤ (IntKind.i64.max)),
 (((0 : Int) : Int) ≤ ((↑l.length : Int) - (1 : Int))),
 (((↑l.length : Int) - (1 : Int) : Int) < ((↑l.length : Int))),
 (((↑(l.getD ((↑l.length : Int) - (1 : Int)).toNat (0 : UInt8)).toNat : Int) == (59 : Int) : Bool)) = (false),
 (((1 : Nat) + l.length : Nat) ≤ ((9223372036854775807 : Nat))),
 ((([(38 : UInt8)] ++ l).length + (1 : Nat) : Nat) ≤ ((9223372036854775807 : Nat))),
 ((([(38 : UInt8)] ++ l ++ [(59 : UInt8)]).length + b.length : Nat) ≤ ((9223372036854775807 : Nat))),
 ((([(38 : UInt8)] ++ l ++ [(59 : UInt8)] ++ b).length : Nat) ≤ ((1000000000 : Nat))),
 ((entF ([(38 : UInt8)] ++ l ++ [(59 : UInt8)] ++ b) : List UInt8)) = (v),
 ((b.length : Nat) ≤ ((1000000000 : Nat))),
 ((entF b : List UInt8)) = (e),
 ((s.length + e.length : Nat) ≤ ((9223372036854775807 : Nat))),
 ((s ++ e : List UInt8)) = (v),
 ((!v == v : Bool)) = (false),
 ((b == [] : Bool)) = (false),
 (((0 : Int) : Int) ≤ ((0 : Int))),
 (((0 : Int) : Int) < ((↑b.length : Int))),
 (((0 : Int) : Int) ≤ ((↑(b.getD (Int.toNat (0 : Int)) (0 : UInt8)).toNat : Int))),
 (((↑(b.getD (Int.toNat (0 : Int)) (0 : UInt8)).toNat : Int) : Int) < ((256 : Int))),
 ((letterI (↑(b.getD (Int.toNat (0 : Int)) (0 : UInt8)).toNat : Int) : Bool)) = (p),
 ((!p : Bool)) = (true),
 (((0 : Int) : Int) ≤ ((0 : Int))),
 (((0 : Int) : Int) < ((↑b.length : Int))),
 (((0 : Int) : Int) ≤ ((↑(b.getD (Int.toNat (0 : Int)) (0 : UInt8)).toNat : Int))),
 (((↑(b.getD (Int.toNat (0 : Int)) (0 : UInt8)).toNat : Int) : Int) < ((256 : Int))),
 ((digitI (↑(b.getD (Int.toNat (0 : Int)) (0 : UInt8)).toNat : Int) (10 : Int) : Int)) = (d),
 ((decide (d < (0 : Int)) : Bool)) = (true),
 (((0 : Int) : Int) ≤ ((0 : Int))),
 (((0 : Int) : Int) < ((↑b.length : Int))),
 (((↑(b.getD (Int.toNat (0 : Int)) (0 : UInt8)).toNat : Int) != (61 : Int) : Bool)) = (true),
 (((0 : Int) : Int) ≤ ((0 : Int))),
 (((0 : Int) : Int) < ((↑b.length : Int)))]) := by kernel_rfl

theorem names2B_3 (l b s t e v v3 v4 : List UInt8) (p : Bool) (d : Int) : lawOut (aBody Tryd.prog clU ⟨true, bs [(33, true), (86, false), (91, true), (96, true), (101, false)] ++ (bs [(14, false), (18, false), (40, false), (71, false), (81, false), (127, true), (146, true)] ++ [(25, ⟨.c (str s), none⟩), (26, ⟨.c (.bool true), none⟩), (30, ⟨.c (str t), none⟩), (31, ⟨.c (.bool false), none⟩), (66, ⟨.c (str v), none⟩), (69, ⟨.c (str e), none⟩), (70, ⟨.c (str v), none⟩), (90, ⟨.c (.bool p), none⟩), (95, ⟨.c (.int .i64 d), none⟩), (122, ⟨.c (str v3), none⟩), (125, ⟨.c (str e), none⟩), (126, ⟨.c (str v3), none⟩), (139, ⟨.c (str v4), none⟩), (144, ⟨.c (str e), none⟩), (145, ⟨.c (str v4), none⟩)])⟩ (lpBy ([])) 60 6 ([.c (str l), .c (str b)]) ([])) = some ((AV.c ((Value.bool true))), [((decide ((↑l.length : Int) > (50 : Int)) : Bool)) = (false),
 ((decide ((↑b.length : Int) > (200 : Int)) : Bool)) = (false),
 ((l.length + (1 : Nat) : Nat) ≤ ((9223372036854775807 : Nat))),
 (((l ++ [(59 : UInt8)]).length : Nat) ≤ ((9223372036854775800 : Nat))),
 ((namedF (l ++ [(59 : UInt8)]) : List UInt8)) = (s),
 ((!namedF (l ++ [(59 : UInt8)]) == [] : Bool)) = (true),
 ((l.length : Nat) ≤ ((9223372036854775800 : Nat))),
 ((namedF l : List UInt8)) = (t),
 ((!namedF l == [] : Bool)) = (false),
 ((!l == [] : Bool)) = (true),
 ((IntKind.i64.min : Int) ≤ ((↑l.length : Int) - (1 : Int))),
 (((↑l.length : Int) - (1 : Int) : Int) ≤ (IntKind.i64.max)),
 (((0 : Int) : Int) ≤ ((↑l.length : Int) - (1 : Int))),
 (((↑l.length : Int) - (1 : Int) : Int) < ((↑l.length : Int))),
 (((↑(l.getD ((↑l.length : Int) - (1 : Int)).toNat (0 : UInt8)).toNat : Int) == (59 : Int) : Bool)) = (false),
 (((1 : Nat) + l.length : Nat) ≤ ((9223372036854775807 : Nat))),
 ((([(38 : UInt8)] ++ l).length + (1 : Nat) : Nat) ≤ ((9223372036854775807 : Nat))),
 ((([(38 : UInt8)] ++ l ++ [(59 : UInt8)]).length + b.length : Nat) ≤ ((9223372036854775807 : Nat))),
 ((([(38 : UInt8)] ++ l ++ [(59 : UInt8)] ++ b).length : Nat) ≤ ((1000000000 : Nat))),
 ((entF ([(38 : UInt8)] ++ l ++ [(59 : UInt8)] ++ b) : List UInt8)) = (v),
 ((b.length : Nat) ≤ ((1000000000 : Nat))),
 ((entF b : List UInt8)) = (e),
 ((s.length + e.length : Nat) ≤ ((9223372036854775807 : Nat))),
 ((s ++ e : List UInt8)) = (v),
 ((!v == v : Bool)) = (false),
 ((b == [] : Bool)) = (false),
 (((0 : Int) : Int) ≤ ((0 : Int))),
 (((0 : Int) : Int) < ((↑b.length : Int))),
 (((0 : Int) : Int) ≤ ((↑(b.getD (Int.toNat (0 : Int)) (0 : UInt8)).toNat : Int))),
 (((↑(b.getD (Int.toNat (0 : Int)) (0 : UInt8)).toNat : Int) : Int) < ((256 : Int))),
 ((letterI (↑(b.getD (Int.toNat (0 : Int)) (0 : UInt8)).toNat : Int) : Bool)) = (p),
 ((!p : Bool)) = (true),
 (((0 : Int) : Int) ≤ ((0 : Int))),
 (((0 : Int) : Int) < ((↑b.length : Int))),
 (((0 : Int) : Int) ≤ ((↑(b.getD (Int.toNat (0 : Int)) (0 : UInt8)).toNat : Int))),
 (((↑(b.getD (Int.toNat (0 : Int)) (0 : UInt8)).toNat : Int) : Int) < ((256 : Int))),
 ((digitI (↑(b.getD (Int.toNat (0 : Int)) (0 : UInt8)).toNat : Int) (10 : Int) : Int)) = (d),
 ((decide (d < (0 : Int)) : Bool)) = (true),
 (((0 : Int) : Int) ≤ ((0 : Int))),
 (((0 : Int) : Int) < ((↑b.length : Int))),
 (((↑(b.getD (Int.toNat (0 : Int)) (0 : UInt8)).toNat : Int) != (61 : Int) : Bool)) = (false)]) := by kernel_rfl

theorem names2B_4 (l b s t e v v3 v4 : List UInt8) (p : Bool) (d : Int) : lawOut (aBody Tryd.prog clU ⟨true, bs [(33, true), (86, false), (91, true), (96, false)] ++ (bs [(14, false), (18, false), (40, false), (71, false), (81, false), (127, true), (146, true)] ++ [(25, ⟨.c (str s), none⟩), (26, ⟨.c (.bool true), none⟩), (30, ⟨.c (str t), none⟩), (31, ⟨.c (.bool false), none⟩), (66, ⟨.c (str v), none⟩), (69, ⟨.c (str e), none⟩), (70, ⟨.c (str v), none⟩), (90, ⟨.c (.bool p), none⟩), (95, ⟨.c (.int .i64 d), none⟩), (122, ⟨.c (str v3), none⟩), (125, ⟨.c (str e), none⟩), (126, ⟨.c (str v3), none⟩), (139, ⟨.c (str v4), none⟩), (144, ⟨.c (str e), none⟩), (145, ⟨.c (str v4), none⟩)])⟩ (lpBy ([])) 60 6 ([.c (str l), .c (str b)]) ([])) = some ((AV.c ((Value.bool true))), [((decide ((↑l.length : Int) > (50 : Int)) : Bool)) = (false),
 ((decide ((↑b.length : Int) > (200 : Int)) : Bool)) = (false),
 ((l.length + (1 : Nat) : Nat) ≤ ((9223372036854775807 : Nat))),
 (((l ++ [(59 : UInt8)]).length : Nat) ≤ ((9223372036854775800 : Nat))),
 ((namedF (l ++ [(59 : UInt8)]) : List UInt8)) = (s),
 ((!namedF (l ++ [(59 : UInt8)]) == [] : Bool)) = (true),
 ((l.length : Nat) ≤ ((9223372036854775800 : Nat))),
 ((namedF l : List UInt8)) = (t),
 ((!namedF l == [] : Bool)) = (false),
 ((!l == [] : Bool)) = (true),
 ((IntKind.i64.min : Int) ≤ ((↑l.length : Int) - (1 : Int))),
 (((↑l.length : Int) - (1 : Int) : Int) ≤ (IntKind.i64.max)),
 (((0 : Int) : Int) ≤ ((↑l.length : Int) - (1 : Int))),
 (((↑l.length : Int) - (1 : Int) : Int) < ((↑l.length : Int))),
 (((↑(l.getD ((↑l.length : Int) - (1 : Int)).toNat (0 : UInt8)).toNat : Int) == (59 : Int) : Bool)) = (false),
 (((1 : Nat) + l.length : Nat) ≤ ((9223372036854775807 : Nat))),
 ((([(38 : UInt8)] ++ l).length + (1 : Nat) : Nat) ≤ ((9223372036854775807 : Nat))),
 ((([(38 : UInt8)] ++ l ++ [(59 : UInt8)]).length + b.length : Nat) ≤ ((9223372036854775807 : Nat))),
 ((([(38 : UInt8)] ++ l ++ [(59 : UInt8)] ++ b).length : Nat) ≤ ((1000000000 : Nat))),
 ((entF ([(38 : UInt8)] ++ l ++ [(59 : UInt8)] ++ b) : List UInt8)) = (v),
 ((b.length : Nat) ≤ ((1000000000 : Nat))),
 ((entF b : List UInt8)) = (e),
 ((s.length + e.length : Nat) ≤ ((9223372036854775807 : Nat))),
 ((s ++ e : List UInt8)) = (v),
 ((!v == v : Bool)) = (false),
 ((b == [] : Bool)) = (false),
 (((0 : Int) : Int) ≤ ((0 : Int))),
 (((0 : Int) : Int) < ((↑b.length : Int))),
 (((0 : Int) : Int) ≤ ((↑(b.getD (Int.toNat (0 : Int)) (0 : UInt8)).toNat : Int))),
 (((↑(b.getD (Int.toNat (0 : Int)) (0 : UInt8)).toNat : Int) : Int) < ((256 : Int))),
 ((letterI (↑(b.getD (Int.toNat (0 : Int)) (0 : UInt8)).toNat : Int) : Bool)) = (p),
 ((!p : Bool)) = (true),
 (((0 : Int) : Int) ≤ ((0 : Int))),
 (((0 : Int) : Int) < ((↑b.length : Int))),
 (((0 : Int) : Int) ≤ ((↑(b.getD (Int.toNat (0 : Int)) (0 : UInt8)).toNat : Int))),
 (((↑(b.getD (Int.toNat (0 : Int)) (0 : UInt8)).toNat : Int) : Int) < ((256 : Int))),
 ((digitI (↑(b.getD (Int.toNat (0 : Int)) (0 : UInt8)).toNat : Int) (10 : Int) : Int)) = (d),
 ((decide (d < (0 : Int)) : Bool)) = (false)]) := by kernel_rfl

theorem names2B_5 (l b s t e v v3 v4 : List UInt8) (p : Bool) (d : Int) : lawOut (aBody Tryd.prog clU ⟨true, bs [(33, true), (86, false), (91, false)] ++ (bs [(14, false), (18, false), (40, false), (71, false), (81, false), (127, true), (146, true)] ++ [(25, ⟨.c (str s), none⟩), (26, ⟨.c (.bool true), none⟩), (30, ⟨.c (str t), none⟩), (31, ⟨.c (.bool false), none⟩), (66, ⟨.c (str v), none⟩), (69, ⟨.c (str e), none⟩), (70, ⟨.c (str v), none⟩), (90, ⟨.c (.bool p), none⟩), (95, ⟨.c (.int .i64 d), none⟩), (122, ⟨.c (str v3), none⟩), (125, ⟨.c (str e), none⟩), (126, ⟨.c (str v3), none⟩), (139, ⟨.c (str v4), none⟩), (144, ⟨.c (str e), none⟩), (145, ⟨.c (str v4), none⟩)])⟩ (lpBy ([])) 60 6 ([.c (str l), .c (str b)]) ([])) = some ((AV.c ((Value.bool true))), [((decide ((↑l.length : Int) > (50 : Int)) : Bool)) = (false),
 ((decide ((↑b.length : Int) > (200 : Int)) : Bool)) = (false),
 ((l.length + (1 : Nat) : Nat) ≤ ((9223372036854775807 : Nat))),
 (((l ++ [(59 : UInt8)]).length : Nat) ≤ ((9223372036854775800 : Nat))),
 ((namedF (l ++ [(59 : UInt8)]) : List UInt8)) = (s),
 ((!namedF (l ++ [(59 : UInt8)]) == [] : Bool)) = (true),
 ((l.length : Nat) ≤ ((9223372036854775800 : Nat))),
 ((namedF l : List UInt8)) = (t),
 ((!namedF l == [] : Bool)) = (false),
 ((!l == [] : Bool)) = (true),
 ((IntKind.i64.min : Int) ≤ ((↑l.length : Int) - (1 : Int))),
 (((↑l.length : Int) - (1 : Int) : Int) ≤ (IntKind.i64.max)),
 (((0 : Int) : Int) ≤ ((↑l.length : Int) - (1 : Int))),
 (((↑l.length : Int) - (1 : Int) : Int) < ((↑l.length : Int))),
 (((↑(l.getD ((↑l.length : Int) - (1 : Int)).toNat (0 : UInt8)).toNat : Int) == (59 : Int) : Bool)) = (false),
 (((1 : Nat) + l.length : Nat) ≤ ((9223372036854775807 : Nat))),
 ((([(38 : UInt8)] ++ l).length + (1 : Nat) : Nat) ≤ ((9223372036854775807 : Nat))),
 ((([(38 : UInt8)] ++ l ++ [(59 : UInt8)]).length + b.length : Nat) ≤ ((9223372036854775807 : Nat))),
 ((([(38 : UInt8)] ++ l ++ [(59 : UInt8)] ++ b).length : Nat) ≤ ((1000000000 : Nat))),
 ((entF ([(38 : UInt8)] ++ l ++ [(59 : UInt8)] ++ b) : List UInt8)) = (v),
 ((b.length : Nat) ≤ ((1000000000 : Nat))),
 ((entF b : List UInt8)) = (e),
 ((s.length + e.length : Nat) ≤ ((9223372036854775807 : Nat))),
 ((s ++ e : List UInt8)) = (v),
 ((!v == v : Bool)) = (false),
 ((b == [] : Bool)) = (false),
 (((0 : Int) : Int) ≤ ((0 : Int))),
 (((0 : Int) : Int) < ((↑b.length : Int))),
 (((0 : Int) : Int) ≤ ((↑(b.getD (Int.toNat (0 : Int)) (0 : UInt8)).toNat : Int))),
 (((↑(b.getD (Int.toNat (0 : Int)) (0 : UInt8)).toNat : Int) : Int) < ((256 : Int))),
 ((letterI (↑(b.getD (Int.toNat (0 : Int)) (0 : UInt8)).toNat : Int) : Bool)) = (p),
 ((!p : Bool)) = (false)]) := by kernel_rfl

theorem names2B_6 (l b s t e v v3 v4 : List UInt8) (p : Bool) (d : Int) : lawOut (aBody Tryd.prog clU ⟨true, bs [(33, false), (86, true)] ++ (bs [(14, false), (18, false), (40, false), (71, false), (81, false), (127, true), (146, true)] ++ [(25, ⟨.c (str s), none⟩), (26, ⟨.c (.bool true), none⟩), (30, ⟨.c (str t), none⟩), (31, ⟨.c (.bool false), none⟩), (66, ⟨.c (str v), none⟩), (69, ⟨.c (str e), none⟩), (70, ⟨.c (str v), none⟩), (90, ⟨.c (.bool p), none⟩), (95, ⟨.c (.int .i64 d), none⟩), (122, ⟨.c (str v3), none⟩), (125, ⟨.c (str e), none⟩), (126, ⟨.c (str v3), none⟩), (139, ⟨.c (str v4), none⟩), (144, ⟨.c (str e), none⟩), (145, ⟨.c (str v4), none⟩)])⟩ (lpBy ([])) 60 6 ([.c (str l), .c (str b)]) ([])) = some ((AV.c ((Value.bool true))), [((decide ((↑l.length : Int) > (50 : Int)) : Bool)) = (false),
 ((decide ((↑b.length : Int) > (200 : Int)) : Bool)) = (false),
 ((l.length + (1 : Nat) : Nat) ≤ ((9223372036854775807 : Nat))),
 (((l ++ [(59 : UInt8)]).length : Nat) ≤ ((9223372036854775800 : Nat))),
 ((namedF (l ++ [(59 : UInt8)]) : List UInt8)) = (s),
 ((!namedF (l ++ [(59 : UInt8)]) == [] : Bool)) = (true),
 ((l.length : Nat) ≤ ((9223372036854775800 : Nat))),
 ((namedF l : List UInt8)) = (t),
 ((!namedF l == [] : Bool)) = (false),
 ((!l == [] : Bool)) = (false),
 (((1 : Nat) + l.length : Nat) ≤ ((9223372036854775807 : Nat))),
 ((([(38 : UInt8)] ++ l).length + (1 : Nat) : Nat) ≤ ((9223372036854775807 : Nat))),
 ((([(38 : UInt8)] ++ l ++ [(59 : UInt8)]).length + b.length : Nat) ≤ ((9223372036854775807 : Nat))),
 ((([(38 : UInt8)] ++ l ++ [(59 : UInt8)] ++ b).length : Nat) ≤ ((1000000000 : Nat))),
 ((entF ([(38 : UInt8)] ++ l ++ [(59 : UInt8)] ++ b) : List UInt8)) = (v),
 ((b.length : Nat) ≤ ((1000000000 : Nat))),
 ((entF b : List UInt8)) = (e),
 ((s.length + e.length : Nat) ≤ ((9223372036854775807 : Nat))),
 ((s ++ e : List UInt8)) = (v),
 ((!v == v : Bool)) = (false),
 ((b == [] : Bool)) = (true)]) := by kernel_rfl

theorem names2B_7 (l b s t e v v3 v4 : List UInt8) (p : Bool) (d : Int) : lawOut (aBody Tryd.prog clU ⟨true, bs [(33, false), (86, false), (91, true), (96, true), (101, true)] ++ (bs [(14, false), (18, false), (40, false), (71, false), (81, false), (127, true), (146, true)] ++ [(25, ⟨.c (str s), none⟩), (26, ⟨.c (.bool true), none⟩), (30, ⟨.c (str t), none⟩), (31, ⟨.c (.bool false), none⟩), (66, ⟨.c (str v), none⟩), (69, ⟨.c (str e), none⟩), (70, ⟨.c (str v), none⟩), (90, ⟨.c (.bool p), none⟩), (95, ⟨.c (.int .i64 d), none⟩), (122, ⟨.c (str v3), none⟩), (125, ⟨.c (str e), none⟩), (126, ⟨.c (str v3), none⟩), (139, ⟨.c (str v4), none⟩), (144, ⟨.c (str e), none⟩), (145, ⟨.c (str v4), none⟩)])⟩ (lpBy ([])) 60 6 ([.c (str l), .c (str b)]) ([])) = some ((AV.c ((Value.bool true))), [((decide ((↑l.length : Int) > (50 : Int)) : Bool)) = (false),
 ((decide ((↑b.length : Int) > (200 : Int)) : Bool)) = (false),
 ((l.length + (1 : Nat) : Nat) ≤ ((9223372036854775807 : Nat))),
 (((l ++ [(59 : UInt8)]).length : Nat) ≤ ((9223372036854775800 : Nat))),
 ((namedF (l ++ [(59 : UInt8)]) : List UInt8)) = (s),
 ((!namedF (l ++ [(59 : UInt8)]) == [] : Bool)) = (true),
 ((l.length : Nat) ≤ ((9223372036854775800 : Nat))),
 ((namedF l : List UInt8)) = (t),
 ((!namedF l == [] : Bool)) = (false),
 ((!l == [] : Bool)) = (false),
 (((1 : Nat) + l.length : Nat) ≤ ((9223372036854775807 : Nat))),
 ((([(38 : UInt8)] ++ l).length + (1 : Nat) : Nat) ≤ ((9223372036854775807 : Nat))),
 ((([(38 : UInt8)] ++ l ++ [(59 : UInt8)]).length + b.length : Nat) ≤ ((9223372036854775807 : Nat))),
 ((([(38 : UInt8)] ++ l ++ [(59 : UInt8)] ++ b).length : Nat) ≤ ((1000000000 : Nat))),
 ((entF ([(38 : UInt8)] ++ l ++ [(59 : UInt8)] ++ b) : List UInt8)) = (v),
 ((b.length : Nat) ≤ ((1000000000 : Nat))),
 ((entF b : List UInt8)) = (e),
 ((s.length + e.length : Nat) ≤ ((9223372036854775807 : Nat))),
 ((s ++ e : List UInt8)) = (v),
 ((!v == v : Bool)) = (false),
 ((b == [] : Bool)) = (false),
 (((0 : Int) : Int) ≤ ((0 : Int))),
 (((0 : Int) : Int) < ((↑b.length : Int))),
 (((0 : Int) : Int) ≤ ((↑(b.getD (Int.toNat (0 : Int)) (0 : UInt8)).toNat : Int))),
 (((↑(b.getD (Int.toNat (0 : Int)) (0 : UInt8)).toNat : Int) : Int) < ((256 : Int))),
 ((letterI (↑(b.getD (Int.toNat (0 : Int)) (0 : UInt8)).toNat : Int) : Bool)) = (p),
 ((!p : Bool)) = (true),
 (((0 : Int) : Int) ≤ ((0 : Int))),
 (((0 : Int) : Int) < ((↑b.length : Int))),
 (((0 : Int) : Int) ≤ ((↑(b.getD (Int.toNat (0 : Int)) (0 : UInt8)).toNat : Int))),
 (((↑(b.getD (Int.toNat (0 : Int)) (0 : UInt8)).toNat : Int) : Int) < ((256 : Int))),
 ((digitI (↑(b.getD (Int.toNat (0 : Int)) (0 : UInt8)).toNat : Int) (10 : Int) : Int)) = (d),
 ((decide (d < (0 : Int)) : Bool)) = (true),
 (((0 : Int) : Int) ≤ ((0 : Int))),
 (((0 : Int) : Int) < ((↑b.length : Int))),
 (((↑(b.getD (Int.toNat (0 : Int)) (0 : UInt8)).toNat : Int) != (61 : Int) : Bool)) = (true),
 (((0 : Int) : Int) ≤ ((0 : Int))),
 (((0 : Int) : Int) < ((↑b.length : Int)))]) := by kernel_rfl

theorem names2B_8 (l b s t e v v3 v4 : List UInt8) (p : Bool) (d : Int) : lawOut (aBody Tryd.prog clU ⟨true, bs [(33, false), (86, false), (91, true), (96, true), (101, false)] ++ (bs [(14, false), (18, false), (40, false), (71, false), (81, false), (127, true), (146, true)] ++ [(25, ⟨.c (str s), none⟩), (26, ⟨.c (.bool true), none⟩), (30, ⟨.c (str t), none⟩), (31, ⟨.c (.bool false), none⟩), (66, ⟨.c (str v), none⟩), (69, ⟨.c (str e), none⟩), (70, ⟨.c (str v), none⟩), (90, ⟨.c (.bool p), none⟩), (95, ⟨.c (.int .i64 d), none⟩), (122, ⟨.c (str v3), none⟩), (125, ⟨.c (str e), none⟩), (126, ⟨.c (str v3), none⟩), (139, ⟨.c (str v4), none⟩), (144, ⟨.c (str e), none⟩), (145, ⟨.c (str v4), none⟩)])⟩ (lpBy ([])) 60 6 ([.c (str l), .c (str b)]) ([])) = some ((AV.c ((Value.bool true))), [((decide ((↑l.length : Int) > (50 : Int)) : Bool)) = (false),
 ((decide ((↑b.length : Int) > (200 : Int)) : Bool)) = (false),
 ((l.length + (1 : Nat) : Nat) ≤ ((9223372036854775807 : Nat))),
 (((l ++ [(59 : UInt8)]).length : Nat) ≤ ((9223372036854775800 : Nat))),
 ((namedF (l ++ [(59 : UInt8)]) : List UInt8)) = (s),
 ((!namedF (l ++ [(59 : UInt8)]) == [] : Bool)) = (true),
 ((l.length : Nat) ≤ ((9223372036854775800 : Nat))),
 ((namedF l : List UInt8)) = (t),
 ((!namedF l == [] : Bool)) = (false),
 ((!l == [] : Bool)) = (false),
 (((1 : Nat) + l.length : Nat) ≤ ((9223372036854775807 : Nat))),
 ((([(38 : UInt8)] ++ l).length + (1 : Nat) : Nat) ≤ ((9223372036854775807 : Nat))),
 ((([(38 : UInt8)] ++ l ++ [(59 : UInt8)]).length + b.length : Nat) ≤ ((9223372036854775807 : Nat))),
 ((([(38 : UInt8)] ++ l ++ [(59 : UInt8)] ++ b).length : Nat) ≤ ((1000000000 : Nat))),
 ((entF ([(38 : UInt8)] ++ l ++ [(59 : UInt8)] ++ b) : List UInt8)) = (v),
 ((b.length : Nat) ≤ ((1000000000 : Nat))),
 ((entF b : List UInt8)) = (e),
 ((s.length + e.length : Nat) ≤ ((9223372036854775807 : Nat))),
 ((s ++ e : List UInt8)) = (v),
 ((!v == v : Bool)) = (false),
 ((b == [] : Bool)) = (false),
 (((0 : Int) : Int) ≤ ((0 : Int))),
 (((0 : Int) : Int) < ((↑b.length : Int))),
 (((0 : Int) : Int) ≤ ((↑(b.getD (Int.toNat (0 : Int)) (0 : UInt8)).toNat : Int))),
 (((↑(b.getD (Int.toNat (0 : Int)) (0 : UInt8)).toNat : Int) : Int) < ((256 : Int))),
 ((letterI (↑(b.getD (Int.toNat (0 : Int)) (0 : UInt8)).toNat : Int) : Bool)) = (p),
 ((!p : Bool)) = (true),
 (((0 : Int) : Int) ≤ ((0 : Int))),
 (((0 : Int) : Int) < ((↑b.length : Int))),
 (((0 : Int) : Int) ≤ ((↑(b.getD (Int.toNat (0 : Int)) (0 : UInt8)).toNat : Int))),
 (((↑(b.getD (Int.toNat (0 : Int)) (0 : UInt8)).toNat : Int) : Int) < ((256 : Int))),
 ((digitI (↑(b.getD (Int.toNat (0 : Int)) (0 : UInt8)).toNat : Int) (10 : Int) : Int)) = (d),
 ((decide (d < (0 : Int)) : Bool)) = (true),
 (((0 : Int) : Int) ≤ ((0 : Int))),
 (((0 : Int) : Int) < ((↑b.length : Int))),
 (((↑(b.getD (Int.toNat (0 : Int)) (0 : UInt8)).toNat : Int) != (61 : Int) : Bool)) = (false)]) := by kernel_rfl

theorem names2B_9 (l b s t e v v3 v4 : List UInt8) (p : Bool) (d : Int) : lawOut (aBody Tryd.prog clU ⟨true, bs [(33, false), (86, false), (91, true), (96, false)] ++ (bs [(14, false), (18, false), (40, false), (71, false), (81, false), (127, true), (146, true)] ++ [(25, ⟨.c (str s), none⟩), (26, ⟨.c (.bool true), none⟩), (30, ⟨.c (str t), none⟩), (31, ⟨.c (.bool false), none⟩), (66, ⟨.c (str v), none⟩), (69, ⟨.c (str e), none⟩), (70, ⟨.c (str v), none⟩), (90, ⟨.c (.bool p), none⟩), (95, ⟨.c (.int .i64 d), none⟩), (122, ⟨.c (str v3), none⟩), (125, ⟨.c (str e), none⟩), (126, ⟨.c (str v3), none⟩), (139, ⟨.c (str v4), none⟩), (144, ⟨.c (str e), none⟩), (145, ⟨.c (str v4), none⟩)])⟩ (lpBy ([])) 60 6 ([.c (str l), .c (str b)]) ([])) = some ((AV.c ((Value.bool true))), [((decide ((↑l.length : Int) > (50 : Int)) : Bool)) = (false),
 ((decide ((↑b.length : Int) > (200 : Int)) : Bool)) = (false),
 ((l.length + (1 : Nat) : Nat) ≤ ((9223372036854775807 : Nat))),
 (((l ++ [(59 : UInt8)]).length : Nat) ≤ ((9223372036854775800 : Nat))),
 ((namedF (l ++ [(59 : UInt8)]) : List UInt8)) = (s),
 ((!namedF (l ++ [(59 : UInt8)]) == [] : Bool)) = (true),
 ((l.length : Nat) ≤ ((9223372036854775800 : Nat))),
 ((namedF l : List UInt8)) = (t),
 ((!namedF l == [] : Bool)) = (false),
 ((!l == [] : Bool)) = (false),
 (((1 : Nat) + l.length : Nat) ≤ ((9223372036854775807 : Nat))),
 ((([(38 : UInt8)] ++ l).length + (1 : Nat) : Nat) ≤ ((9223372036854775807 : Nat))),
 ((([(38 : UInt8)] ++ l ++ [(59 : UInt8)]).length + b.length : Nat) ≤ ((9223372036854775807 : Nat))),
 ((([(38 : UInt8)] ++ l ++ [(59 : UInt8)] ++ b).length : Nat) ≤ ((1000000000 : Nat))),
 ((entF ([(38 : UInt8)] ++ l ++ [(59 : UInt8)] ++ b) : List UInt8)) = (v),
 ((b.length : Nat) ≤ ((1000000000 : Nat))),
 ((entF b : List UInt8)) = (e),
 ((s.length + e.length : Nat) ≤ ((9223372036854775807 : Nat))),
 ((s ++ e : List UInt8)) = (v),
 ((!v == v : Bool)) = (false),
 ((b == [] : Bool)) = (false),
 (((0 : Int) : Int) ≤ ((0 : Int))),
 (((0 : Int) : Int) < ((↑b.length : Int))),
 (((0 : Int) : Int) ≤ ((↑(b.getD (Int.toNat (0 : Int)) (0 : UInt8)).toNat : Int))),
 (((↑(b.getD (Int.toNat (0 : Int)) (0 : UInt8)).toNat : Int) : Int) < ((256 : Int))),
 ((letterI (↑(b.getD (Int.toNat (0 : Int)) (0 : UInt8)).toNat : Int) : Bool)) = (p),
 ((!p : Bool)) = (true),
 (((0 : Int) : Int) ≤ ((0 : Int))),
 (((0 : Int) : Int) < ((↑b.length : Int))),
 (((0 : Int) : Int) ≤ ((↑(b.getD (Int.toNat (0 : Int)) (0 : UInt8)).toNat : Int))),
 (((↑(b.getD (Int.toNat (0 : Int)) (0 : UInt8)).toNat : Int) : Int) < ((256 : Int))),
 ((digitI (↑(b.getD (Int.toNat (0 : Int)) (0 : UInt8)).toNat : Int) (10 : Int) : Int)) = (d),
 ((decide (d < (0 : Int)) : Bool)) = (false)]) := by kernel_rfl

theorem names2B_10 (l b s t e v v3 v4 : List UInt8) (p : Bool) (d : Int) : lawOut (aBody Tryd.prog clU ⟨true, bs [(33, false), (86, false), (91, false)] ++ (bs [(14, false), (18, false), (40, false), (71, false), (81, false), (127, true), (146, true)] ++ [(25, ⟨.c (str s), none⟩), (26, ⟨.c (.bool true), none⟩), (30, ⟨.c (str t), none⟩), (31, ⟨.c (.bool false), none⟩), (66, ⟨.c (str v), none⟩), (69, ⟨.c (str e), none⟩), (70, ⟨.c (str v), none⟩), (90, ⟨.c (.bool p), none⟩), (95, ⟨.c (.int .i64 d), none⟩), (122, ⟨.c (str v3), none⟩), (125, ⟨.c (str e), none⟩), (126, ⟨.c (str v3), none⟩), (139, ⟨.c (str v4), none⟩), (144, ⟨.c (str e), none⟩), (145, ⟨.c (str v4), none⟩)])⟩ (lpBy ([])) 60 6 ([.c (str l), .c (str b)]) ([])) = some ((AV.c ((Value.bool true))), [((decide ((↑l.length : Int) > (50 : Int)) : Bool)) = (false),
 ((decide ((↑b.length : Int) > (200 : Int)) : Bool)) = (false),
 ((l.length + (1 : Nat) : Nat) ≤ ((9223372036854775807 : Nat))),
 (((l ++ [(59 : UInt8)]).length : Nat) ≤ ((9223372036854775800 : Nat))),
 ((namedF (l ++ [(59 : UInt8)]) : List UInt8)) = (s),
 ((!namedF (l ++ [(59 : UInt8)]) == [] : Bool)) = (true),
 ((l.length : Nat) ≤ ((9223372036854775800 : Nat))),
 ((namedF l : List UInt8)) = (t),
 ((!namedF l == [] : Bool)) = (false),
 ((!l == [] : Bool)) = (false),
 (((1 : Nat) + l.length : Nat) ≤ ((9223372036854775807 : Nat))),
 ((([(38 : UInt8)] ++ l).length + (1 : Nat) : Nat) ≤ ((9223372036854775807 : Nat))),
 ((([(38 : UInt8)] ++ l ++ [(59 : UInt8)]).length + b.length : Nat) ≤ ((9223372036854775807 : Nat))),
 ((([(38 : UInt8)] ++ l ++ [(59 : UInt8)] ++ b).length : Nat) ≤ ((1000000000 : Nat))),
 ((entF ([(38 : UInt8)] ++ l ++ [(59 : UInt8)] ++ b) : List UInt8)) = (v),
 ((b.length : Nat) ≤ ((1000000000 : Nat))),
 ((entF b : List UInt8)) = (e),
 ((s.length + e.length : Nat) ≤ ((9223372036854775807 : Nat))),
 ((s ++ e : List UInt8)) = (v),
 ((!v == v : Bool)) = (false),
 ((b == [] : Bool)) = (false),
 (((0 : Int) : Int) ≤ ((0 : Int))),
 (((0 : Int) : Int) < ((↑b.length : Int))),
 (((0 : Int) : Int) ≤ ((↑(b.getD (Int.toNat (0 : Int)) (0 : UInt8)).toNat : Int))),
 (((↑(b.getD (Int.toNat (0 : Int)) (0 : UInt8)).toNat : Int) : Int) < ((256 : Int))),
 ((letterI (↑(b.getD (Int.toNat (0 : Int)) (0 : UInt8)).toNat : Int) : Bool)) = (p),
 ((!p : Bool)) = (false)]) := by kernel_rfl

theorem names2B_all (l b s t e v v3 v4 : List UInt8) (p : Bool) (d : Int) (g0 : l.length ≤ 50) (g1 : b.length ≤ 200) (hs : namedF (l ++ [59]) = s) (hy : (!(namedF (l ++ [59]) == [])) = true) (ht : namedF l = t) (hx : (!(namedF l == [])) = false) (hll : ¬ l = [] → 0 < l.length) (hlast : ¬ l = [] → ¬ (((l.getD (l.length - 1) 0).toNat : Nat) : Int) = 59) (hlz : ((l.length : Int) - 1).toNat = l.length - 1) (hsl : s.length ≤ 100) (htl : t.length ≤ 100) (he : entF b = e) (hel : e.length ≤ 200) (hE2 : true = true → entF ((([38] ++ l) ++ [59]) ++ b) = v) (hV2 : true = true → s ++ e = v) (hst : false = true → s = t) (hV3 : t ++ e = v3) (o1 : false = true → b = [] → entF (([38] ++ l) ++ b) = v3) (o2 : false = true → ¬ b = [] → p = false → d < 0 → ¬ (((b.getD 0 0).toNat : Nat) : Int) = 61 → ¬ (((b.getD 0 0).toNat : Nat) : Int) = 59 → entF (([38] ++ l) ++ b) = v3) (hp : isL (b.getD 0 0) = p) (hd : dg 10 (b.getD 0 0) = d) (h5 : (b.getD 0 0).toNat < 256) (hbn : ¬ b = [] → 0 < b.length) (hE4 : false = true → entF ((([38] ++ l) ++ [61]) ++ b) = v4) (hV4 : (([38] ++ l) ++ [61]) ++ e = v4) : ∃ (h : Hints) (p : List Prop), lawOut (aBody Tryd.prog clU h (lpBy ([])) 60 6 ([.c (str l), .c (str b)]) ([])) = some (.c (.bool true), p) ∧ allP p := by
  cases hc33 : (!l == [] : Bool) with
  | true =>
    cases hc86 : (b == [] : Bool) with
    | true =>
      have eR := names2B_1 l b s t e v v3 v4 p d
      refine ⟨_, _, eR.trans (congrArg (fun r => some (r, _)) ?_), ?_⟩
      · try clear eR
        rfl
      · try clear eR
        try simp only [decide_eq_true_eq, decide_eq_false_iff_not, beq_iff_eq, beq_eq_false_iff_ne, bne_iff_ne, bne_eq_false_iff_eq, ne_eq] at hc33
        try simp only [toNat0, toNat1, toNat2, Int.toNat_natCast, sb_mk] at hc33
        try simp only [decide_eq_true_eq, decide_eq_false_iff_not, beq_iff_eq, beq_eq_false_iff_ne, bne_iff_ne, bne_eq_false_iff_eq, ne_eq] at hc86
        try simp only [toNat0, toNat1, toNat2, Int.toNat_natCast, sb_mk] at hc86
        try simp (disch := omega) only [allP, sb_mk, sl1, toNat0, toNat1, toNat2, Int.toNat_natCast, List.take_length, List.take_succ_cons, List.drop_succ_cons, List.drop_zero, List.take_zero, List.length_cons, List.length_nil, List.getD_cons_zero, i64_wrap, i32_wrap, u8_wrap, u32_wrap, tdN, tmN, i64_min, i64_max, u8_min, u8_max, decide_eq_true_eq, decide_eq_false_iff_not, beq_iff_eq, beq_eq_false_iff_ne, bne_iff_ne, bne_eq_false_iff_eq, ne_eq, not_false_eq_true, and_true, true_and, Int.zero_sub, beq_self_eq_true, Bool.not_true, hlz]
        repeat' apply And.intro
        all_goals first | exact True.intro | omega | with_reducible rfl | with_reducible assumption | (have := hbn hc86; omega) | (have := hll (lne hc33); omega) | exact hlast (lne hc33) | exact hx | exact hy | exact hE2 rfl | exact hV2 rfl | (rw [hst rfl, bne_eq_false_iff_eq]) | exact o1 rfl hc86 | exact o2 rfl hc86 (notb hc91) hc96 hc101 (notne hc115) | exact hE4 rfl | exact hp.trans (notb hc91) | exact hp.trans (notb2 hc91) | exact hp | (simp only [List.length_append, List.length_cons, List.length_nil]; omega) | (rw [hst rfl]; simp) | exact hs | exact hy | exact ht | exact hx | exact hlast | exact hlz | exact he | exact hE2 | exact hV2 | exact hst | exact hV3 | exact o1 | exact hp | exact hd | exact hE4 | exact hV4 | rfl
    | false =>
      cases hc91 : (!p : Bool) with
      | true =>
        cases hc96 : (decide (d < (0 : Int)) : Bool) with
        | true =>
          cases hc101 : ((↑(b.getD (Int.toNat (0 : Int)) (0 : UInt8)).toNat : Int) != (61 : Int) : Bool) with
          | true =>
            have eR := names2B_2 l b s t e v v3 v4 p d
            refine ⟨_, _, eR.trans (congrArg (fun r => some (r, _)) ?_), ?_⟩
            · try clear eR
              rfl
            · try clear eR
              try simp only [decide_eq_true_eq, decide_eq_false_iff_not, beq_iff_eq, beq_eq_false_iff_ne, bne_iff_ne, bne_eq_false_iff_eq, ne_eq] at hc33
              try simp only [toNat0, toNat1, toNat2, Int.toNat_natCast, sb_mk] at hc33
              try simp only [decide_eq_true_eq, decide_eq_false_iff_not, beq_iff_eq, beq_eq_false_iff_ne, bne_iff_ne, bne_eq_false_iff_eq, ne_eq] at hc86
              try simp only [toNat0, toNat1, toNat2, Int.toNat_natCast, sb_mk] at hc86
              try simp only [decide_eq_true_eq, decide_eq_false_iff_not, beq_iff_eq, beq_eq_false_iff_ne, bne_iff_ne, bne_eq_false_iff_eq, ne_eq] at hc91
              try simp only [toNat0, toNat1, toNat2, Int.toNat_natCast, sb_mk] at hc91
              try simp only [decide_eq_true_eq, decide_eq_false_iff_not, beq_iff_eq, beq_eq_false_iff_ne, bne_iff_ne, bne_eq_false_iff_eq, ne_eq] at hc96
              try simp only [toNat0, toNat1, toNat2, Int.toNat_natCast, sb_mk] at hc96
              try simp only [decide_eq_true_eq, decide_eq_false_iff_not, beq_iff_eq, beq_eq_false_iff_ne, bne_iff_ne, bne_eq_false_iff_eq, ne_eq] at hc101
              try simp only [toNat0, toNat1, toNat2, Int.toNat_natCast, sb_mk] at hc101
              try simp (disch := omega) only [allP, sb_mk, sl1, toNat0, toNat1, toNat2, Int.toNat_natCast, List.take_length, List.take_succ_cons, List.drop_succ_cons, List.drop_zero, List.take_zero, List.length_cons, List.length_nil, List.getD_cons_zero, i64_wrap, i32_wrap, u8_wrap, u32_wrap, tdN, tmN, i64_min, i64_max, u8_min, u8_max, decide_eq_true_eq, decide_eq_false_iff_not, beq_iff_eq, beq_eq_false_iff_ne, bne_iff_ne, bne_eq_false_iff_eq, ne_eq, not_false_eq_true, and_true, true_and, Int.zero_sub, beq_self_eq_true, Bool.not_true, hlz]
              repeat' apply And.intro
              all_goals first | exact True.intro | omega | with_reducible rfl | with_reducible assumption | (have := hbn hc86; omega) | (have := hll (lne hc33); omega) | exact hlast (lne hc33) | exact hx | exact hy | exact hE2 rfl | exact hV2 rfl | (rw [hst rfl, bne_eq_false_iff_eq]) | exact o1 rfl hc86 | exact o2 rfl hc86 (notb hc91) hc96 hc101 (notne hc115) | exact hE4 rfl | exact hp.trans (notb hc91) | exact hp.trans (notb2 hc91) | exact hp | (simp only [List.length_append, List.length_cons, List.length_nil]; omega) | (rw [hst rfl]; simp) | exact hs | exact hy | exact ht | exact hx | exact hlast | exact hlz | exact he | exact hE2 | exact hV2 | exact hst | exact hV3 | exact o1 | exact hp | exact hd | exact hE4 | exact hV4 | rfl
          | false =>
            have eR := names2B_3 l b s t e v v3 v4 p d
            refine ⟨_, _, eR.trans (congrArg (fun r => some (r, _)) ?_), ?_⟩
            · try clear eR
              rfl
            · try clear eR
              try simp only [decide_eq_true_eq, decide_eq_false_iff_not, beq_iff_eq, beq_eq_false_iff_ne, bne_iff_ne, bne_eq_false_iff_eq, ne_eq] at hc33
              try simp only [toNat0, toNat1, toNat2, Int.toNat_natCast, sb_mk] at hc33
              try simp only [decide_eq_true_eq, decide_eq_false_iff_not, beq_iff_eq, beq_eq_false_iff_ne, bne_iff_ne, bne_eq_false_iff_eq, ne_eq] at hc86
              try simp only [toNat0, toNat1, toNat2, Int.toNat_natCast, sb_mk] at hc86
              try simp only [decide_eq_true_eq, decide_eq_false_iff_not, beq_iff_eq, beq_eq_false_iff_ne, bne_iff_ne, bne_eq_false_iff_eq, ne_eq] at hc91
              try simp only [toNat0, toNat1, toNat2, Int.toNat_natCast, sb_mk] at hc91
              try simp only [decide_eq_true_eq, decide_eq_false_iff_not, beq_iff_eq, beq_eq_false_iff_ne, bne_iff_ne, bne_eq_false_iff_eq, ne_eq] at hc96
              try simp only [toNat0, toNat1, toNat2, Int.toNat_natCast, sb_mk] at hc96
              try simp only [decide_eq_true_eq, decide_eq_false_iff_not, beq_iff_eq, beq_eq_false_iff_ne, bne_iff_ne, bne_eq_false_iff_eq, ne_eq] at hc101
              try simp only [toNat0, toNat1, toNat2, Int.toNat_natCast, sb_mk] at hc101
              try simp (disch := omega) only [allP, sb_mk, sl1, toNat0, toNat1, toNat2, Int.toNat_natCast, List.take_length, List.take_succ_cons, List.drop_succ_cons, List.drop_zero, List.take_zero, List.length_cons, List.length_nil, List.getD_cons_zero, i64_wrap, i32_wrap, u8_wrap, u32_wrap, tdN, tmN, i64_min, i64_max, u8_min, u8_max, decide_eq_true_eq, decide_eq_false_iff_not, beq_iff_eq, beq_eq_false_iff_ne, bne_iff_ne, bne_eq_false_iff_eq, ne_eq, not_false_eq_true, and_true, true_and, Int.zero_sub, beq_self_eq_true, Bool.not_true, hlz]
              repeat' apply And.intro
              all_goals first | exact True.intro | omega | with_reducible rfl | with_reducible assumption | (have := hbn hc86; omega) | (have := hll (lne hc33); omega) | exact hlast (lne hc33) | exact hx | exact hy | exact hE2 rfl | exact hV2 rfl | (rw [hst rfl, bne_eq_false_iff_eq]) | exact o1 rfl hc86 | exact o2 rfl hc86 (notb hc91) hc96 hc101 (notne hc115) | exact hE4 rfl | exact hp.trans (notb hc91) | exact hp.trans (notb2 hc91) | exact hp | (simp only [List.length_append, List.length_cons, List.length_nil]; omega) | (rw [hst rfl]; simp) | exact hs | exact hy | exact ht | exact hx | exact hlast | exact hlz | exact he | exact hE2 | exact hV2 | exact hst | exact hV3 | exact o1 | exact hp | exact hd | exact hE4 | exact hV4 | rfl
        | false =>
          have eR := names2B_4 l b s t e v v3 v4 p d
          refine ⟨_, _, eR.trans (congrArg (fun r => some (r, _)) ?_), ?_⟩
          · try clear eR
            rfl
          · try clear eR
            try simp only [decide_eq_true_eq, decide_eq_false_iff_not, beq_iff_eq, beq_eq_false_iff_ne, bne_iff_ne, bne_eq_false_iff_eq, ne_eq] at hc33
            try simp only [toNat0, toNat1, toNat2, Int.toNat_natCast, sb_mk] at hc33
            try simp only [decide_eq_true_eq, decide_eq_false_iff_not, beq_iff_eq, beq_eq_false_iff_ne, bne_iff_ne, bne_eq_false_iff_eq, ne_eq] at hc86
            try simp only [toNat0, toNat1, toNat2, Int.toNat_natCast, sb_mk] at hc86
            try simp only [decide_eq_true_eq, decide_eq_false_iff_not, beq_iff_eq, beq_eq_false_iff_ne, bne_iff_ne, bne_eq_false_iff_eq, ne_eq] at hc91
            try simp only [toNat0, toNat1, toNat2, Int.toNat_natCast, sb_mk] at hc91
            try simp only [decide_eq_true_eq, decide_eq_false_iff_not, beq_iff_eq, beq_eq_false_iff_ne, bne_iff_ne, bne_eq_false_iff_eq, ne_eq] at hc96
            try simp only [toNat0, toNat1, toNat2, Int.toNat_natCast, sb_mk] at hc96
            try simp (disch := omega) only [allP, sb_mk, sl1, toNat0, toNat1, toNat2, Int.toNat_natCast, List.take_length, List.take_succ_cons, List.drop_succ_cons, List.drop_zero, List.take_zero, List.length_cons, List.length_nil, List.getD_cons_zero, i64_wrap, i32_wrap, u8_wrap, u32_wrap, tdN, tmN, i64_min, i64_max, u8_min, u8_max, decide_eq_true_eq, decide_eq_false_iff_not, beq_iff_eq, beq_eq_false_iff_ne, bne_iff_ne, bne_eq_false_iff_eq, ne_eq, not_false_eq_true, and_true, true_and, Int.zero_sub, beq_self_eq_true, Bool.not_true, hlz]
            repeat' apply And.intro
            all_goals first | exact True.intro | omega | with_reducible rfl | with_reducible assumption | (have := hbn hc86; omega) | (have := hll (lne hc33); omega) | exact hlast (lne hc33) | exact hx | exact hy | exact hE2 rfl | exact hV2 rfl | (rw [hst rfl, bne_eq_false_iff_eq]) | exact o1 rfl hc86 | exact o2 rfl hc86 (notb hc91) hc96 hc101 (notne hc115) | exact hE4 rfl | exact hp.trans (notb hc91) | exact hp.trans (notb2 hc91) | exact hp | (simp only [List.length_append, List.length_cons, List.length_nil]; omega) | (rw [hst rfl]; simp) | exact hs | exact hy | exact ht | exact hx | exact hlast | exact hlz | exact he | exact hE2 | exact hV2 | exact hst | exact hV3 | exact o1 | exact hp | exact hd | exact hE4 | exact hV4 | rfl
      | false =>
        have eR := names2B_5 l b s t e v v3 v4 p d
        refine ⟨_, _, eR.trans (congrArg (fun r => some (r, _)) ?_), ?_⟩
        · try clear eR
          rfl
        · try clear eR
          try simp only [decide_eq_true_eq, decide_eq_false_iff_not, beq_iff_eq, beq_eq_false_iff_ne, bne_iff_ne, bne_eq_false_iff_eq, ne_eq] at hc33
          try simp only [toNat0, toNat1, toNat2, Int.toNat_natCast, sb_mk] at hc33
          try simp only [decide_eq_true_eq, decide_eq_false_iff_not, beq_iff_eq, beq_eq_false_iff_ne, bne_iff_ne, bne_eq_false_iff_eq, ne_eq] at hc86
          try simp only [toNat0, toNat1, toNat2, Int.toNat_natCast, sb_mk] at hc86
          try simp only [decide_eq_true_eq, decide_eq_false_iff_not, beq_iff_eq, beq_eq_false_iff_ne, bne_iff_ne, bne_eq_false_iff_eq, ne_eq] at hc91
          try simp only [toNat0, toNat1, toNat2, Int.toNat_natCast, sb_mk] at hc91
          try simp (disch := omega) only [allP, sb_mk, sl1, toNat0, toNat1, toNat2, Int.toNat_natCast, List.take_length, List.take_succ_cons, List.drop_succ_cons, List.drop_zero, List.take_zero, List.length_cons, List.length_nil, List.getD_cons_zero, i64_wrap, i32_wrap, u8_wrap, u32_wrap, tdN, tmN, i64_min, i64_max, u8_min, u8_max, decide_eq_true_eq, decide_eq_false_iff_not, beq_iff_eq, beq_eq_false_iff_ne, bne_iff_ne, bne_eq_false_iff_eq, ne_eq, not_false_eq_true, and_true, true_and, Int.zero_sub, beq_self_eq_true, Bool.not_true, hlz]
          repeat' apply And.intro
          all_goals first | exact True.intro | omega | with_reducible rfl | with_reducible assumption | (have := hbn hc86; omega) | (have := hll (lne hc33); omega) | exact hlast (lne hc33) | exact hx | exact hy | exact hE2 rfl | exact hV2 rfl | (rw [hst rfl, bne_eq_false_iff_eq]) | exact o1 rfl hc86 | exact o2 rfl hc86 (notb hc91) hc96 hc101 (notne hc115) | exact hE4 rfl | exact hp.trans (notb hc91) | exact hp.trans (notb2 hc91) | exact hp | (simp only [List.length_append, List.length_cons, List.length_nil]; omega) | (rw [hst rfl]; simp) | exact hs | exact hy | exact ht | exact hx | exact hlast | exact hlz | exact he | exact hE2 | exact hV2 | exact hst | exact hV3 | exact o1 | exact hp | exact hd | exact hE4 | exact hV4 | rfl
  | false =>
    cases hc86 : (b == [] : Bool) with
    | true =>
      have eR := names2B_6 l b s t e v v3 v4 p d
      refine ⟨_, _, eR.trans (congrArg (fun r => some (r, _)) ?_), ?_⟩
      · try clear eR
        rfl
      · try clear eR
        try simp only [decide_eq_true_eq, decide_eq_false_iff_not, beq_iff_eq, beq_eq_false_iff_ne, bne_iff_ne, bne_eq_false_iff_eq, ne_eq] at hc33
        try simp only [toNat0, toNat1, toNat2, Int.toNat_natCast, sb_mk] at hc33
        try simp only [decide_eq_true_eq, decide_eq_false_iff_not, beq_iff_eq, beq_eq_false_iff_ne, bne_iff_ne, bne_eq_false_iff_eq, ne_eq] at hc86
        try simp only [toNat0, toNat1, toNat2, Int.toNat_natCast, sb_mk] at hc86
        try simp (disch := omega) only [allP, sb_mk, sl1, toNat0, toNat1, toNat2, Int.toNat_natCast, List.take_length, List.take_succ_cons, List.drop_succ_cons, List.drop_zero, List.take_zero, List.length_cons, List.length_nil, List.getD_cons_zero, i64_wrap, i32_wrap, u8_wrap, u32_wrap, tdN, tmN, i64_min, i64_max, u8_min, u8_max, decide_eq_true_eq, decide_eq_false_iff_not, beq_iff_eq, beq_eq_false_iff_ne, bne_iff_ne, bne_eq_false_iff_eq, ne_eq, not_false_eq_true, and_true, true_and, Int.zero_sub, beq_self_eq_true, Bool.not_true, hlz]
        repeat' apply And.intro
        all_goals first | exact True.intro | omega | with_reducible rfl | with_reducible assumption | (have := hbn hc86; omega) | (have := hll (lne hc33); omega) | exact hlast (lne hc33) | exact hx | exact hy | exact hE2 rfl | exact hV2 rfl | (rw [hst rfl, bne_eq_false_iff_eq]) | exact o1 rfl hc86 | exact o2 rfl hc86 (notb hc91) hc96 hc101 (notne hc115) | exact hE4 rfl | exact hp.trans (notb hc91) | exact hp.trans (notb2 hc91) | exact hp | (simp only [List.length_append, List.length_cons, List.length_nil]; omega) | (rw [hst rfl]; simp) | exact hs | exact hy | exact ht | exact hx | exact hlast | exact hlz | exact he | exact hE2 | exact hV2 | exact hst | exact hV3 | exact o1 | exact hp | exact hd | exact hE4 | exact hV4 | rfl
    | false =>
      cases hc91 : (!p : Bool) with
      | true =>
        cases hc96 : (decide (d < (0 : Int)) : Bool) with
        | true =>
          cases hc101 : ((↑(b.getD (Int.toNat (0 : Int)) (0 : UInt8)).toNat : Int) != (61 : Int) : Bool) with
          | true =>
            have eR := names2B_7 l b s t e v v3 v4 p d
            refine ⟨_, _, eR.trans (congrArg (fun r => some (r, _)) ?_), ?_⟩
            · try clear eR
              rfl
            · try clear eR
              try simp only [decide_eq_true_eq, decide_eq_false_iff_not, beq_iff_eq, beq_eq_false_iff_ne, bne_iff_ne, bne_eq_false_iff_eq, ne_eq] at hc33
              try simp only [toNat0, toNat1, toNat2, Int.toNat_natCast, sb_mk] at hc33
              try simp only [decide_eq_true_eq, decide_eq_false_iff_not, beq_iff_eq, beq_eq_false_iff_ne, bne_iff_ne, bne_eq_false_iff_eq, ne_eq] at hc86
              try simp only [toNat0, toNat1, toNat2, Int.toNat_natCast, sb_mk] at hc86
              try simp only [decide_eq_true_eq, decide_eq_false_iff_not, beq_iff_eq, beq_eq_false_iff_ne, bne_iff_ne, bne_eq_false_iff_eq, ne_eq] at hc91
              try simp only [toNat0, toNat1, toNat2, Int.toNat_natCast, sb_mk] at hc91
              try simp only [decide_eq_true_eq, decide_eq_false_iff_not, beq_iff_eq, beq_eq_false_iff_ne, bne_iff_ne, bne_eq_false_iff_eq, ne_eq] at hc96
              try simp only [toNat0, toNat1, toNat2, Int.toNat_natCast, sb_mk] at hc96
              try simp only [decide_eq_true_eq, decide_eq_false_iff_not, beq_iff_eq, beq_eq_false_iff_ne, bne_iff_ne, bne_eq_false_iff_eq, ne_eq] at hc101
              try simp only [toNat0, toNat1, toNat2, Int.toNat_natCast, sb_mk] at hc101
              try simp (disch := omega) only [allP, sb_mk, sl1, toNat0, toNat1, toNat2, Int.toNat_natCast, List.take_length, List.take_succ_cons, List.drop_succ_cons, List.drop_zero, List.take_zero, List.length_cons, List.length_nil, List.getD_cons_zero, i64_wrap, i32_wrap, u8_wrap, u32_wrap, tdN, tmN, i64_min, i64_max, u8_min, u8_max, decide_eq_true_eq, decide_eq_false_iff_not, beq_iff_eq, beq_eq_false_iff_ne, bne_iff_ne, bne_eq_false_iff_eq, ne_eq, not_false_eq_true, and_true, true_and, Int.zero_sub, beq_self_eq_true, Bool.not_true, hlz]
              repeat' apply And.intro
              all_goals first | exact True.intro | omega | with_reducible rfl | with_reducible assumption | (have := hbn hc86; omega) | (have := hll (lne hc33); omega) | exact hlast (lne hc33) | exact hx | exact hy | exact hE2 rfl | exact hV2 rfl | (rw [hst rfl, bne_eq_false_iff_eq]) | exact o1 rfl hc86 | exact o2 rfl hc86 (notb hc91) hc96 hc101 (notne hc115) | exact hE4 rfl | exact hp.trans (notb hc91) | exact hp.trans (notb2 hc91) | exact hp | (simp only [List.length_append, List.length_cons, List.length_nil]; omega) | (rw [hst rfl]; simp) | exact hs | exact hy | exact ht | exact hx | exact hlast | exact hlz | exact he | exact hE2 | exact hV2 | exact hst | exact hV3 | exact o1 | exact hp | exact hd | exact hE4 | exact hV4 | rfl
          | false =>
            have eR := names2B_8 l b s t e v v3 v4 p d
            refine ⟨_, _, eR.trans (congrArg (fun r => some (r, _)) ?_), ?_⟩
            · try clear eR
              rfl
            · try clear eR
              try simp only [decide_eq_true_eq, decide_eq_false_iff_not, beq_iff_eq, beq_eq_false_iff_ne, bne_iff_ne, bne_eq_false_iff_eq, ne_eq] at hc33
              try simp only [toNat0, toNat1, toNat2, Int.toNat_natCast, sb_mk] at hc33
              try simp only [decide_eq_true_eq, decide_eq_false_iff_not, beq_iff_eq, beq_eq_false_iff_ne, bne_iff_ne, bne_eq_false_iff_eq, ne_eq] at hc86
              try simp only [toNat0, toNat1, toNat2, Int.toNat_natCast, sb_mk] at hc86
              try simp only [decide_eq_true_eq, decide_eq_false_iff_not, beq_iff_eq, beq_eq_false_iff_ne, bne_iff_ne, bne_eq_false_iff_eq, ne_eq] at hc91
              try simp only [toNat0, toNat1, toNat2, Int.toNat_natCast, sb_mk] at hc91
              try simp only [decide_eq_true_eq, decide_eq_false_iff_not, beq_iff_eq, beq_eq_false_iff_ne, bne_iff_ne, bne_eq_false_iff_eq, ne_eq] at hc96
              try simp only [toNat0, toNat1, toNat2, Int.toNat_natCast, sb_mk] at hc96
              try simp only [decide_eq_true_eq, decide_eq_false_iff_not, beq_iff_eq, beq_eq_false_iff_ne, bne_iff_ne, bne_eq_false_iff_eq, ne_eq] at hc101
              try simp only [toNat0, toNat1, toNat2, Int.toNat_natCast, sb_mk] at hc101
              try simp (disch := omega) only [allP, sb_mk, sl1, toNat0, toNat1, toNat2, Int.toNat_natCast, List.take_length, List.take_succ_cons, List.drop_succ_cons, List.drop_zero, List.take_zero, List.length_cons, List.length_nil, List.getD_cons_zero, i64_wrap, i32_wrap, u8_wrap, u32_wrap, tdN, tmN, i64_min, i64_max, u8_min, u8_max, decide_eq_true_eq, decide_eq_false_iff_not, beq_iff_eq, beq_eq_false_iff_ne, bne_iff_ne, bne_eq_false_iff_eq, ne_eq, not_false_eq_true, and_true, true_and, Int.zero_sub, beq_self_eq_true, Bool.not_true, hlz]
              repeat' apply And.intro
              all_goals first | exact True.intro | omega | with_reducible rfl | with_reducible assumption | (have := hbn hc86; omega) | (have := hll (lne hc33); omega) | exact hlast (lne hc33) | exact hx | exact hy | exact hE2 rfl | exact hV2 rfl | (rw [hst rfl, bne_eq_false_iff_eq]) | exact o1 rfl hc86 | exact o2 rfl hc86 (notb hc91) hc96 hc101 (notne hc115) | exact hE4 rfl | exact hp.trans (notb hc91) | exact hp.trans (notb2 hc91) | exact hp | (simp only [List.length_append, List.length_cons, List.length_nil]; omega) | (rw [hst rfl]; simp) | exact hs | exact hy | exact ht | exact hx | exact hlast | exact hlz | exact he | exact hE2 | exact hV2 | exact hst | exact hV3 | exact o1 | exact hp | exact hd | exact hE4 | exact hV4 | rfl
        | false =>
          have eR := names2B_9 l b s t e v v3 v4 p d
          refine ⟨_, _, eR.trans (congrArg (fun r => some (r, _)) ?_), ?_⟩
          · try clear eR
            rfl
          · try clear eR
            try simp only [decide_eq_true_eq, decide_eq_false_iff_not, beq_iff_eq, beq_eq_false_iff_ne, bne_iff_ne, bne_eq_false_iff_eq, ne_eq] at hc33
            try simp only [toNat0, toNat1, toNat2, Int.toNat_natCast, sb_mk] at hc33
            try simp only [decide_eq_true_eq, decide_eq_false_iff_not, beq_iff_eq, beq_eq_false_iff_ne, bne_iff_ne, bne_eq_false_iff_eq, ne_eq] at hc86
            try simp only [toNat0, toNat1, toNat2, Int.toNat_natCast, sb_mk] at hc86
            try simp only [decide_eq_true_eq, decide_eq_false_iff_not, beq_iff_eq, beq_eq_false_iff_ne, bne_iff_ne, bne_eq_false_iff_eq, ne_eq] at hc91
            try simp only [toNat0, toNat1, toNat2, Int.toNat_natCast, sb_mk] at hc91
            try simp only [decide_eq_true_eq, decide_eq_false_iff_not, beq_iff_eq, beq_eq_false_iff_ne, bne_iff_ne, bne_eq_false_iff_eq, ne_eq] at hc96
            try simp only [toNat0, toNat1, toNat2, Int.toNat_natCast, sb_mk] at hc96
            try simp (disch := omega) only [allP, sb_mk, sl1, toNat0, toNat1, toNat2, Int.toNat_natCast, List.take_length, List.take_succ_cons, List.drop_succ_cons, List.drop_zero, List.take_zero, List.length_cons, List.length_nil, List.getD_cons_zero, i64_wrap, i32_wrap, u8_wrap, u32_wrap, tdN, tmN, i64_min, i64_max, u8_min, u8_max, decide_eq_true_eq, decide_eq_false_iff_not, beq_iff_eq, beq_eq_false_iff_ne, bne_iff_ne, bne_eq_false_iff_eq, ne_eq, not_false_eq_true, and_true, true_and, Int.zero_sub, beq_self_eq_true, Bool.not_true, hlz]
            repeat' apply And.intro
            all_goals first | exact True.intro | omega | with_reducible rfl | with_reducible assumption | (have := hbn hc86; omega) | (have := hll (lne hc33); omega) | exact hlast (lne hc33) | exact hx | exact hy | exact hE2 rfl | exact hV2 rfl | (rw [hst rfl, bne_eq_false_iff_eq]) | exact o1 rfl hc86 | exact o2 rfl hc86 (notb hc91) hc96 hc101 (notne hc115) | exact hE4 rfl | exact hp.trans (notb hc91) | exact hp.trans (notb2 hc91) | exact hp | (simp only [List.length_append, List.length_cons, List.length_nil]; omega) | (rw [hst rfl]; simp) | exact hs | exact hy | exact ht | exact hx | exact hlast | exact hlz | exact he | exact hE2 | exact hV2 | exact hst | exact hV3 | exact o1 | exact hp | exact hd | exact hE4 | exact hV4 | rfl
      | false =>
        have eR := names2B_10 l b s t e v v3 v4 p d
        refine ⟨_, _, eR.trans (congrArg (fun r => some (r, _)) ?_), ?_⟩
        · try clear eR
          rfl
        · try clear eR
          try simp only [decide_eq_true_eq, decide_eq_false_iff_not, beq_iff_eq, beq_eq_false_iff_ne, bne_iff_ne, bne_eq_false_iff_eq, ne_eq] at hc33
          try simp only [toNat0, toNat1, toNat2, Int.toNat_natCast, sb_mk] at hc33
          try simp only [decide_eq_true_eq, decide_eq_false_iff_not, beq_iff_eq, beq_eq_false_iff_ne, bne_iff_ne, bne_eq_false_iff_eq, ne_eq] at hc86
          try simp only [toNat0, toNat1, toNat2, Int.toNat_natCast, sb_mk] at hc86
          try simp only [decide_eq_true_eq, decide_eq_false_iff_not, beq_iff_eq, beq_eq_false_iff_ne, bne_iff_ne, bne_eq_false_iff_eq, ne_eq] at hc91
          try simp only [toNat0, toNat1, toNat2, Int.toNat_natCast, sb_mk] at hc91
          try simp (disch := omega) only [allP, sb_mk, sl1, toNat0, toNat1, toNat2, Int.toNat_natCast, List.take_length, List.take_succ_cons, List.drop_succ_cons, List.drop_zero, List.take_zero, List.length_cons, List.length_nil, List.getD_cons_zero, i64_wrap, i32_wrap, u8_wrap, u32_wrap, tdN, tmN, i64_min, i64_max, u8_min, u8_max, decide_eq_true_eq, decide_eq_false_iff_not, beq_iff_eq, beq_eq_false_iff_ne, bne_iff_ne, bne_eq_false_iff_eq, ne_eq, not_false_eq_true, and_true, true_and, Int.zero_sub, beq_self_eq_true, Bool.not_true, hlz]
          repeat' apply And.intro
          all_goals first | exact True.intro | omega | with_reducible rfl | with_reducible assumption | (have := hbn hc86; omega) | (have := hll (lne hc33); omega) | exact hlast (lne hc33) | exact hx | exact hy | exact hE2 rfl | exact hV2 rfl | (rw [hst rfl, bne_eq_false_iff_eq]) | exact o1 rfl hc86 | exact o2 rfl hc86 (notb hc91) hc96 hc101 (notne hc115) | exact hE4 rfl | exact hp.trans (notb hc91) | exact hp.trans (notb2 hc91) | exact hp | (simp only [List.length_append, List.length_cons, List.length_nil]; omega) | (rw [hst rfl]; simp) | exact hs | exact hy | exact ht | exact hx | exact hlast | exact hlz | exact he | exact hE2 | exact hV2 | exact hst | exact hV3 | exact o1 | exact hp | exact hd | exact hE4 | exact hV4 | rfl


theorem names2C_1 (l b s t e v v3 v4 : List UInt8) (p : Bool) (d : Int) : lawOut (aBody Tryd.prog clU ⟨true, bs [(33, true), (86, true)] ++ (bs [(14, false), (18, false), (40, false), (71, false), (81, false), (127, true), (146, true)] ++ [(25, ⟨.c (str s), none⟩), (26, ⟨.c (.bool true), none⟩), (30, ⟨.c (str t), none⟩), (31, ⟨.c (.bool true), none⟩), (66, ⟨.c (str v), none⟩), (69, ⟨.c (str e), none⟩), (70, ⟨.c (str v), none⟩), (90, ⟨.c (.bool p), none⟩), (95, ⟨.c (.int .i64 d), none⟩), (122, ⟨.c (str v3), none⟩), (125, ⟨.c (str e), none⟩), (126, ⟨.c (str v3), none⟩), (139, ⟨.c (str v4), none⟩), (144, ⟨.c (str e), none⟩), (145, ⟨.c (str v4), none⟩)])⟩ (lpBy ([])) 60 6 ([.c (str l), .c (str b)]) ([])) = some ((AV.c ((Value.bool true))), [((decide ((↑l.length : Int) > (50 : Int)) : Bool)) = (false),
 ((decide ((↑b.length : Int) > (200 : Int)) : Bool)) = (false),
 ((l.length + (1 : Nat) : Nat) ≤ ((9223372036854775807 : Nat))),
 (((l ++ [(59 : UInt8)]).length : Nat) ≤ ((9223372036854775800 : Nat))),
 ((namedF (l ++ [(59 : UInt8)]) : List UInt8)) = (s),
 ((!namedF (l ++ [(59 : UInt8)]) == [] : Bool)) = (true),
 ((l.length : Nat) ≤ ((9223372036854775800 : Nat))),
 ((namedF l : List UInt8)) = (t),
 ((!namedF l == [] : Bool)) = (true),
 ((!l == [] : Bool)) = (true),
 ((IntKind.i64.min : Int) ≤ ((↑l.length : Int) - (1 : Int))),
 (((↑l.length : Int) - (1 : Int) : Int) ≤ (IntKind.i64.max)),
 (((0 : Int) : Int) ≤ ((↑l.length : Int) - (1 : Int))),
 (((↑l.length : Int) - (1 : Int) : Int) < ((↑l.length : Int))),
 (((↑(l.getD ((↑l.length : Int) - (1 : Int)).toNat (0 : UInt8)).toNat : Int) == (59 : Int) : Bool)) = (false),
 (((1 : Nat) + l.length : Nat) ≤ ((9223372036854775807 : Nat))),
 ((([(38 : UInt8)] ++ l).length + (1 : Nat) : Nat) ≤ ((9223372036854775807 : Nat))),
 ((([(38 : UInt8)] ++ l ++ [(59 : UInt8)]).length + b.length : Nat) ≤ ((9223372036854775807 : Nat))),
 ((([(38 : UInt8)] ++ l ++ [(59 : UInt8)] ++ b).length : Nat) ≤ ((1000000000 : Nat))),
 ((entF ([(38 : UInt8)] ++ l ++ [(59 : UInt8)] ++ b) : List UInt8)) = (v),
 ((b.length : Nat) ≤ ((1000000000 : Nat))),
 ((entF b : List UInt8)) = (e),
 ((s.length + e.length : Nat) ≤ ((9223372036854775807 : Nat))),
 ((s ++ e : List UInt8)) = (v),
 ((!v == v : Bool)) = (false),
 ((!s == t : Bool)) = (false),
 ((b == [] : Bool)) = (true),
 (((1 : Nat) + l.length : Nat) ≤ ((9223372036854775807 : Nat))),
 ((([(38 : UInt8)] ++ l).length + b.length : Nat) ≤ ((9223372036854775807 : Nat))),
 ((([(38 : UInt8)] ++ l ++ b).length : Nat) ≤ ((1000000000 : Nat))),
 ((entF ([(38 : UInt8)] ++ l ++ b) : List UInt8)) = (v3),
 ((b.length : Nat) ≤ ((1000000000 : Nat))),
 ((entF b : List UInt8)) = (e),
 ((t.length + e.length : Nat) ≤ ((9223372036854775807 : Nat))),
 ((t ++ e : List UInt8)) = (v3),
 ((v3 == v3 : Bool)) = (true),
 (((1 : Nat) + l.length : Nat) ≤ ((9223372036854775807 : Nat))),
 ((([(38 : UInt8)] ++ l).length + (1 : Nat) : Nat) ≤ ((9223372036854775807 : Nat))),
 ((([(38 : UInt8)] ++ l ++ [(61 : UInt8)]).length + b.length : Nat) ≤ ((9223372036854775807 : Nat))),
 ((([(38 : UInt8)] ++ l ++ [(61 : UInt8)] ++ b).length : Nat) ≤ ((1000000000 : Nat))),
 ((entF ([(38 : UInt8)] ++ l ++ [(61 : UInt8)] ++ b) : List UInt8)) = (v4),
 (((1 : Nat) + l.length : Nat) ≤ ((9223372036854775807 : Nat))),
 ((([(38 : UInt8)] ++ l).length + (1 : Nat) : Nat) ≤ ((9223372036854775807 : Nat))),
 ((b.length : Nat) ≤ ((1000000000 : Nat))),
 ((entF b : List UInt8)) = (e),
 ((([(38 : UInt8)] ++ l ++ [(61 : UInt8)]).length + e.length : Nat) ≤ ((9223372036854775807 : Nat))),
 (([(38 : UInt8)] ++ l ++ [(61 : UInt8)] ++ e : List UInt8)) = (v4),
 ((v4 == v4 : Bool)) = (true)]) := by kernel_rfl

theorem names2C_2 (l b s t e v v3 v4 : List UInt8) (p : Bool) (d : Int) : lawOut (aBody Tryd.prog clU ⟨true, bs [(33, true), (86, false), (91, true), (96, true), (101, true), (115, true)] ++ (bs [(14, false), (18, false), (40, false), (71, false), (81, false), (127, true), (146, true)] ++ [(25, ⟨.c (str s), none⟩), (26, ⟨.c (.bool true), none⟩), (30, ⟨.c (str t), none⟩), (31, ⟨.c (.bool true), none⟩), (66, ⟨.c (str v), none⟩), (69, ⟨.c (str e), none⟩), (70, ⟨.c (str v), none⟩), (90, ⟨.c (.bool p), none⟩), (95, ⟨.c (.int .i64 d), none⟩), (122, ⟨.c (str v3), none⟩), (125, ⟨.c (str e), none⟩), (126, ⟨.c (str v3), none⟩), (139, ⟨.c (str v4), none⟩), (144, ⟨.c (str e), none⟩), (145, ⟨.c (str v4), none⟩)])⟩ (lpBy ([])) 60 6 ([.c (str l), .c (str b)]) ([])) = some ((AV.c ((Value.bool true))), [((decide ((↑l.length : Int) > (50 : Int)) : Bool)) = (false),
 ((decide ((↑b.length : Int) > (200 : Int)) : Bool)) = (false),
 ((l.length + (1 : Nat) : Nat) ≤ ((9223372036854775807 : Nat))),
 (((l ++ [(59 : UInt8)]).length : Nat) ≤ ((9223372036854775800 : Nat))),
 ((namedF (l ++ [(59 : UInt8)]) : List UInt8)) = (s),
 ((!namedF (l ++ [(59 : UInt8)]) == [] : Bool)) = (true),
 ((l.length : Nat) ≤ ((9223372036854775800 : Nat))),
 ((namedF l : List UInt8)) = (t),
 ((!namedF l == [] : Bool)) = (true),
 ((!l == [] : Bool)) = (true),
 ((IntKind.i64.min : Int) ≤ ((↑l.length : Int) - (1 : Int))),
 (((↑l.length : Int) - (1 : Int) : Int) ≤ (IntKind.i64.max)),
 (((0 : Int) : Int) ≤ ((↑l.length : Int) - (1 : Int))),
 (((↑l.length : Int) - (1 : Int) : Int) < ((↑l.length : Int))),
 (((↑(l.getD ((↑l.length : Int) - (1 : Int)).toNat (0 : UInt8)).toNat : Int) == (59 : Int) : Bool)) = (false),
 (((1 : Nat) + l.length : Nat) ≤ ((9223372036854775807 : Nat))),
 ((([(38 : UInt8)] ++ l).length + (1 : Nat) : Nat) ≤ ((9223372036854775807 : Nat))),
 ((([(38 : UInt8)] ++ l ++ [(59 : UInt8)]).length + b.length : Nat) ≤ ((9223372036854775807 : Nat))),
 ((([(38 : UInt8)] ++ l ++ [(59 : UInt8)] ++ b).length : Nat) ≤ ((1000000000 : Nat))),
 ((entF ([(38 : UInt8)] ++ l ++ [(59 : UInt8)] ++ b) : List UInt8)) = (v),
 ((b.length : Nat) ≤ ((1000000000 : Nat))),
 ((entF b : List UInt8)) = (e),
 ((s.length + e.length : Nat) ≤ ((9223372036854775807 : Nat))),
 ((s ++ e : List UInt8)) = (v),
 ((!v == v : Bool)) = (false),
 ((!s == t : Bool)) = (false),
 ((b == [] : Bool)) = (false),
 (((0 : Int) : Int) ≤ ((0 : Int))),
 (((0 : Int) : Int) < ((↑b.length : Int))),
 (((0 : Int) : Int) ≤ ((↑(b.getD (Int.toNat (0 : Int)) (0 : UInt8)).toNat : Int))),
 (((↑(b.getD (Int.toNat (0 : Int)) (0 : UInt8)).toNat : Int) : Int) < ((256 : Int))),
 ((letterI (↑(b.getD (Int.toNat (0 : Int)) (0 : UInt8)).toNat : Int) : Bool)) = (p),
 ((!p : Bool)) = (true),
 (((0 : Int) : Int) ≤ ((0 : Int))),
 (((0 : Int) : Int) < ((↑b.length : Int))),
 (((0 : Int) : Int) ≤ ((↑(b.getD (Int.toNat (0 : Int)) (0 : UInt8)).toNat : Int))),
 (((↑(b.getD (Int.toNat (0 : Int)) (0 : UInt8)).toNat : Int) : Int) < ((256 : Int))),
 ((digitI (↑(b.getD (Int.toNat (0 : Int)) (0 : UInt8)).toNat : Int) (10 : Int) : Int)) = (d),
 ((decide (d < (0 : Int)) : Bool)) = (true),
 (((0 : Int) : Int) ≤ ((0 : Int))),
 (((0 : Int) : Int) < ((↑b.length : Int))),
 (((↑(b.getD (Int.toNat (0 : Int)) (0 : UInt8)).toNat : Int) != (61 : Int) : Bool)) = (true),
 (((0 : Int) : Int) ≤ ((0 : Int))),
 (((0 : Int) : Int) < ((↑b.length : Int))),
 ((!(↑(b.getD (Int.toNat (0 : Int)) (0 : UInt8)).toNat : Int) != (59 : Int) : Bool)) = (true),
 (((1 : Nat) + l.length : Nat) ≤ ((9223372036854775807 : Nat))),
 ((([(38 : UInt8)] ++ l).length + (1 : Nat) : Nat) ≤ ((9223372036854775807 : Nat))),
 ((([(38 : UInt8)] ++ l ++ [(61 : UInt8)]).length + b.length : Nat) ≤ ((9223372036854775807 : Nat))),
 ((([(38 : UInt8)] ++ l ++ [(61 : UInt8)] ++ b).length : Nat) ≤ ((1000000000 : Nat))),
 ((entF ([(38 : UInt8)] ++ l ++ [(61 : UInt8)] ++ b) : List UInt8)) = (v4),
 (((1 : Nat) + l.length : Nat) ≤ ((9223372036854775807 : Nat))),
 ((([(38 : UInt8)] ++ l).length + (1 : Nat) : Nat) ≤ ((9223372036854775807 : Nat))),
 ((b.length : Nat) ≤ ((1000000000 : Nat))),
 ((entF b : List UInt8)) = (e),
 ((([(38 : UInt8)] ++ l ++ [(61 : UInt8)]).length + e.length : Nat) ≤ ((9223372036854775807 : Nat))),
 (([(38 : UInt8)] ++ l ++ [(61 : UInt8)] ++ e : List UInt8)) = (v4),
 ((v4 == v4 : Bool)) = (true)]) := by kernel_rfl

theorem names2C_3 (l b s t e v v3 v4 : List UInt8) (p : Bool) (d : Int) : lawOut (aBody Tryd.prog clU ⟨true, bs [(33, true), (86, false), (91, true), (96, true), (101, true), (115, false)] ++ (bs [(14, false), (18, false), (40, false), (71, false), (81, false), (127, true), (146, true)] ++ [(25, ⟨.c (str s), none⟩), (26, ⟨.c (.bool true), none⟩), (30, ⟨.c (str t), none⟩), (31, ⟨.c (.bool true), none⟩), (66, ⟨.c (str v), none⟩), (69, ⟨.c (str e), none⟩), (70, ⟨.c (str v), none⟩), (90, ⟨.c (.bool p), none⟩), (95, ⟨.c (.int .i64 d), none⟩), (122, ⟨.c (str v3), none⟩), (125, ⟨.c (str e), none⟩), (126, ⟨.c (str v3), none⟩), (139, ⟨.c (str v4), none⟩), (144, ⟨.c (str e), none⟩), (145, ⟨.c (str v4), none⟩)])⟩ (lpBy ([])) 60 6 ([.c (str l), .c (str b)]) ([])) = some ((AV.c ((Value.bool true))), [((decide ((↑l.length : Int) > (50 : Int)) : Bool)) = (false),
 ((decide ((↑b.length : Int) > (200 : Int)) : Bool)) = (false),
 ((l.length + (1 : Nat) : Nat) ≤ ((9223372036854775807 : Nat))),
 (((l ++ [(59 : UInt8)]).length : Nat) ≤ ((9223372036854775800 : Nat))),
 ((namedF (l ++ [(59 : UInt8)]) : List UInt8)) = (s),
 ((!namedF (l ++ [(59 : UInt8)]) == [] : Bool)) = (true),
 ((l.length : Nat) ≤ ((9223372036854775800 : Nat))),
 ((namedF l : List UInt8)) = (t),
 ((!namedF l == [] : Bool)) = (true),
 ((!l == [] : Bool)) = (true),
 ((IntKind.i64.min : Int) ≤ ((↑l.length : Int) - (1 : Int))),
 (((↑l.length : Int) - (1 : Int) : Int) ≤ (IntKind.i64.max)),
 (((0 : Int) : Int) ≤ ((↑l.length : Int) - (1 : Int))),
 (((↑l.length : Int) - (1 : Int) : Int) < ((↑l.length : Int))),
 (((↑(l.getD ((↑l.length : Int) - (1 : Int)).toNat (0 : UInt8)).toNat : Int) == (59 : Int) : Bool)) = (false),
 (((1 : Nat) + l.length : Nat) ≤ ((9223372036854775807 : Nat))),
 ((([(38 : UInt8)] ++ l).length + (1 : Nat) : Nat) ≤ ((9223372036854775807 : Nat))),
 ((([(38 : UInt8)] ++ l ++ [(59 : UInt8)]).length + b.length : Nat) ≤ ((9223372036854775807 : Nat))),
 ((([(38 : UInt8)] ++ l ++ [(59 : UInt8)] ++ b).length : Nat) ≤ ((1000000000 : Nat))),
 ((entF ([(38 : UInt8)] ++ l ++ [(59 : UInt8)] ++ b) : List UInt8)) = (v),
 ((b.length : Nat) ≤ ((1000000000 : Nat))),
 ((entF b : List UInt8)) = (e),
 ((s.length + e.length : Nat) ≤ ((9223372036854775807 : Nat))),
 ((s ++ e : List UInt8)) = (v),
 ((!v == v : Bool)) = (false),
 ((!s == t : Bool)) = (false),
 ((b == [] : Bool)) = (false),
 (((0 : Int) : Int) ≤ ((0 : Int))),
 (((0 : Int) : Int) < ((↑b.length : Int))),
 (((0 : Int) : Int) ≤ ((↑(b.getD (Int.toNat (0 : Int)) (0 : UInt8)).toNat : Int))),
 (((↑(b.getD (Int.toNat (0 : Int)) (0 : UInt8)).toNat : Int) : Int) < ((256 : Int))),
 ((letterI (↑(b.getD (Int.toNat (0 : Int)) (0 : UInt8)).toNat : Int) : Bool)) = (p),
 ((!p : Bool)) = (true),
 (((0 : Int) : Int) ≤ ((0 : Int))),
 (((0 : Int) : Int) < ((↑b.length : Int))),
 (((0 : Int) : Int) ≤ ((↑(b.getD (Int.toNat (0 : Int)) (0 : UInt8)).toNat : Int))),
 (((↑(b.getD (Int.toNat (0 : Int)) (0 : UInt8)).toNat : Int) : Int) < ((256 : Int))),
 ((digitI (↑(b.getD (Int.toNat (0 : Int)) (0 : UInt8)).toNat : Int) (10 : Int) : Int)) = (d),
 ((decide (d < (0 : Int)) : Bool)) = (true),
 (((0 : Int) : Int) ≤ ((0 : Int))),
 (((0 : Int) : Int) < ((↑b.length : Int))),
 (((↑(b.getD (Int.toNat (0 : Int)) (0 : UInt8)).toNat : Int) != (61 : Int) : Bool)) = (true),
 (((0 : Int) : Int) ≤ ((0 : Int))),
 (((0 : Int) : Int) < ((↑b.length : Int))),
 ((!(↑(b.getD (Int.toNat (0 : Int)) (0 : UInt8)).toNat : Int) != (59 : Int) : Bool)) = (false),
 (((1 : Nat) + l.length : Nat) ≤ ((9223372036854775807 : Nat))),
 ((([(38 : UInt8)] ++ l).length + b.length : Nat) ≤ ((9223372036854775807 : Nat))),
 ((([(38 : UInt8)] ++ l ++ b).length : Nat) ≤ ((1000000000 : Nat))),
 ((entF ([(38 : UInt8)] ++ l ++ b) : List UInt8)) = (v3),
 ((b.length : Nat) ≤ ((1000000000 : Nat))),
 ((entF b : List UInt8)) = (e),
 ((t.length + e.length : Nat) ≤ ((9223372036854775807 : Nat))),
 ((t ++ e : List UInt8)) = (v3),
 ((v3 == v3 : Bool)) = (true),
 (((1 : Nat) + l.length : Nat) ≤ ((9223372036854775807 : Nat))),
 ((([(38 : UInt8)] ++ l).length + (1 : Nat) : Nat) ≤ ((9223372036854775807 : Nat))),
 ((([(38 : UInt8)] ++ l ++ [(61 : UInt8)]).length + b.length : Nat) ≤ ((9223372036854775807 : Nat))),
 ((([(38 : UInt8)] ++ l ++ [(61 : UInt8)] ++ b).length : Nat) ≤ ((1000000000 : Nat))),
 ((entF ([(38 : UInt8)] ++ l ++ [(61 : UInt8)] ++ b) : List UInt8)) = (v4),
 (((1 : Nat) + l.length : Nat) ≤ ((9223372036854775807 : Nat))),
 ((([(38 : UInt8)] ++ l).length + (1 : Nat) : Nat) ≤ ((9223372036854775807 : Nat))),
 ((b.length : Nat) ≤ ((1000000000 : Nat))),
 ((entF b : List UInt8)) = (e),
 ((([(38 : UInt8)] ++ l ++ [(61 : UInt8)]).length + e.length : Nat) ≤ ((9223372036854775807 : Nat))),
 (([(38 : UInt8)] ++ l ++ [(61 : UInt8)] ++ e : List UInt8)) = (v4),
 ((v4 == v4 : Bool)) = (true)]) := by kernel_rfl

theorem names2C_4 (l b s t e v v3 v4 : List UInt8) (p : Bool) (d : Int) : lawOut (aBody Tryd.prog clU ⟨true, bs [(33, true), (86, false), (91, true), (96, true), (101, false)] ++ (bs [(14, false), (18, false), (40, false), (71, false), (81, false), (127, true), (146, true)] ++ [(25, ⟨.c (str s), none⟩), (26, ⟨.c (.bool true), none⟩), (30, ⟨.c (str t), none⟩), (31, ⟨.c (.bool true), none⟩), (66, ⟨.c (str v), none⟩), (69, ⟨.c (str e), none⟩), (70, ⟨.c (str v), none⟩), (90, ⟨.c (.bool p), none⟩), (95, ⟨.c (.int .i64 d), none⟩), (122, ⟨.c (str v3), none⟩), (125, ⟨.c (str e), none⟩), (126, ⟨.c (str v3), none⟩), (139, ⟨.c (str v4), none⟩), (144, ⟨.c (str e), none⟩), (145, ⟨.c (str v4), none⟩)])⟩ (lpBy ([])) 60 6 ([.c (str l), .c (str b)]) ([])) = some ((AV.c ((Value.bool true))), [((decide ((↑l.length : Int) > (50 : Int)) : Bool)) = (false),
 ((decide ((↑b.length : Int) > (200 : Int)) : Bool)) = (false),
 ((l.length + (1 : Nat) : Nat) ≤ ((9223372036854775807 : Nat))),
 (((l ++ [(59 : UInt8)]).length : Nat) ≤ ((9223372036854775800 : Nat))),
 ((namedF (l ++ [(59 : UInt8)]) : List UInt8)) = (s),
 ((!namedF (l ++ [(59 : UInt8)]) == [] : Bool)) = (true),
 ((l.length : Nat) ≤ ((9223372036854775800 : Nat))),
 ((namedF l : List UInt8)) = (t),
 ((!namedF l == [] : Bool)) = (true),
 ((!l == [] : Bool)) = (true),
 ((IntKind.i64.min : Int) ≤ ((↑l.length : Int) - (1 : Int))),
 (((↑l.length : Int) - (1 : Int) : Int) ≤ (IntKind.i64.max)),
 (((0 : Int) : Int) ≤ ((↑l.length : Int) - (1 : Int))),
 (((↑l.length : Int) - (1 : Int) : Int) < ((↑l.length : Int))),
 (((↑(l.getD ((↑l.length : Int) - (1 : Int)).toNat (0 : UInt8)).toNat : Int) == (59 : Int) : Bool)) = (false),
 (((1 : Nat) + l.length : Nat) ≤ ((9223372036854775807 : Nat))),
 ((([(38 : UInt8)] ++ l).length + (1 : Nat) : Nat) ≤ ((9223372036854775807 : Nat))),
 ((([(38 : UInt8)] ++ l ++ [(59 : UInt8)]).length + b.length : Nat) ≤ ((9223372036854775807 : Nat))),
 ((([(38 : UInt8)] ++ l ++ [(59 : UInt8)] ++ b).length : Nat) ≤ ((1000000000 : Nat))),
 ((entF ([(38 : UInt8)] ++ l ++ [(59 : UInt8)] ++ b) : List UInt8)) = (v),
 ((b.length : Nat) ≤ ((1000000000 : Nat))),
 ((entF b : List UInt8)) = (e),
 ((s.length + e.length : Nat) ≤ ((9223372036854775807 : Nat))),
 ((s ++ e : List UInt8)) = (v),
 ((!v == v : Bool)) = (false),
 ((!s == t : Bool)) = (false),
 ((b == [] : Bool)) = (false),
 (((0 : Int) : Int) ≤ ((0 : Int))),
 (((0 : Int) : Int) < ((↑b.length : Int))),
 (((0 : Int) : Int) ≤ ((↑(b.getD (Int.toNat (0 : Int)) (0 : UInt8)).toNat : Int))),
 (((↑(b.getD (Int.toNat (0 : Int)) (0 : UInt8)).toNat : Int) : Int) < ((256 : Int))),
 ((letterI (↑(b.getD (Int.toNat (0 : Int)) (0 : UInt8)).toNat : Int) : Bool)) = (p),
 ((!p : Bool)) = (true),
 (((0 : Int) : Int) ≤ ((0 : Int))),
 (((0 : Int) : Int) < ((↑b.length : Int))),
 (((0 : Int) : Int) ≤ ((↑(b.getD (Int.toNat (0 : Int)) (0 : UInt8)).toNat : Int))),
 (((↑(b.getD (Int.toNat (0 : Int)) (0 : UInt8)).toNat : Int) : Int) < ((256 : Int))),
 ((digitI (↑(b.getD (Int.toNat (0 : Int)) (0 : UInt8)).toNat : Int) (10 : Int) : Int)) = (d),
 ((decide (d < (0 : Int)) : Bool)) = (true),
 (((0 : Int) : Int) ≤ ((0 : Int))),
 (((0 : Int) : Int) < ((↑b.length : Int))),
 (((↑(b.getD (Int.toNat (0 : Int)) (0 : UInt8)).toNat : Int) != (61 : Int) : Bool)) = (false),
 (((1 : Nat) + l.length : Nat) ≤ ((9223372036854775807 : Nat))),
 ((([(38 : UInt8)] ++ l).length + (1 : Nat) : Nat) ≤ ((9223372036854775807 : Nat))),
 ((([(38 : UInt8)] ++ l ++ [(61 : UInt8)]).length + b.length : Nat) ≤ ((9223372036854775807 : Nat))),
 ((([(38 : UInt8)] ++ l ++ [(61 : UInt8)] ++ b).length : Nat) ≤ ((1000000000 : Nat))),
 ((entF ([(38 : UInt8)] ++ l ++ [(61 : UInt8)] ++ b) : List UInt8)) = (v4),
 (((1 : Nat) + l.length : Nat) ≤ ((9223372036854775807 : Nat))),
 ((([(38 : UInt8)] ++ l).length + (1 : Nat) : Nat) ≤ ((9223372036854775807 : Nat))),
 ((b.length : Nat) ≤ ((1000000000 : Nat))),
 ((entF b : List UInt8)) = (e),
 ((([(38 : UInt8)] ++ l ++ [(61 : UInt8)]).length + e.length : Nat) ≤ ((9223372036854775807 : Nat))),
 (([(38 : UInt8)] ++ l ++ [(61 : UInt8)] ++ e : List UInt8)) = (v4),
 ((v4 == v4 : Bool)) = (true)]) := by kernel_rfl

theorem names2C_5 (l b s t e v v3 v4 : List UInt8) (p : Bool) (d : Int) : lawOut (aBody Tryd.prog clU ⟨true, bs [(33, true), (86, false), (91, true), (96, false)] ++ (bs [(14, false), (18, false), (40, false), (71, false), (81, false), (127, true), (146, true)] ++ [(25, ⟨.c (str s), none⟩), (26, ⟨.c (.bool true), none⟩), (30, ⟨.c (str t), none⟩), (31, ⟨.c (.bool true), none⟩), (66, ⟨.c (str v), none⟩), (69, ⟨.c (str e), none⟩), (70, ⟨.c (str v), none⟩), (90, ⟨.c (.bool p), none⟩), (95, ⟨.c (.int .i64 d), none⟩), (122, ⟨.c (str v3), none⟩), (125, ⟨.c (str e), none⟩), (126, ⟨.c (str v3), none⟩), (139, ⟨.c (str v4), none⟩), (144, ⟨.c (str e), none⟩), (145, ⟨.c (str v4), none⟩)])⟩ (lpBy ([])) 60 6 ([.c (str l), .c (str b)]) ([])) = some ((AV.c ((Value.bool true))), [((decide ((↑l.length : Int) > (50 : Int)) : Bool)) = (false),
 ((decide ((↑b.length : Int) > (200 : Int)) : Bool)) = (false),
 ((l.length + (1 : Nat) : Nat) ≤ ((9223372036854775807 : Nat))),
 (((l ++ [(59 : UInt8)]).length : Nat) ≤ ((9223372036854775800 : Nat))),
 ((namedF (l ++ [(59 : UInt8)]) : List UInt8)) = (s),
 ((!namedF (l ++ [(59 : UInt8)]) == [] : Bool)) = (true),
 ((l.length : Nat) ≤ ((9223372036854775800 : Nat))),
 ((namedF l : List UInt8)) = (t),
 ((!namedF l == [] : Bool)) = (true),
 ((!l == [] : Bool)) = (true),
 ((IntKind.i64.min : Int) ≤ ((↑l.length : Int) - (1 : Int))),
 (((↑l.length : Int) - (1 : Int) : Int) ≤ (IntKind.i64.max)),
 (((0 : Int) : Int) ≤ ((↑l.length : Int) - (1 : Int))),
 (((↑l.length : Int) - (1 : Int) : Int) < ((↑l.length : Int))),
 (((↑(l.getD ((↑l.length : Int) - (1 : Int)).toNat (0 : UInt8)).toNat : Int) == (59 : Int) : Bool)) = (false),
 (((1 : Nat) + l.length : Nat) ≤ ((9223372036854775807 : Nat))),
 ((([(38 : UInt8)] ++ l).length + (1 : Nat) : Nat) ≤ ((9223372036854775807 : Nat))),
 ((([(38 : UInt8)] ++ l ++ [(59 : UInt8)]).length + b.length : Nat) ≤ ((9223372036854775807 : Nat))),
 ((([(38 : UInt8)] ++ l ++ [(59 : UInt8)] ++ b).length : Nat) ≤ ((1000000000 : Nat))),
 ((entF ([(38 : UInt8)] ++ l ++ [(59 : UInt8)] ++ b) : List UInt8)) = (v),
 ((b.length : Nat) ≤ ((1000000000 : Nat))),
 ((entF b : List UInt8)) = (e),
 ((s.length + e.length : Nat) ≤ ((9223372036854775807 : Nat))),
 ((s ++ e : List UInt8)) = (v),
 ((!v == v : Bool)) = (false),
 ((!s == t : Bool)) = (false),
 ((b == [] : Bool)) = (false),
 (((0 : Int) : Int) ≤ ((0 : Int))),
 (((0 : Int) : Int) < ((↑b.length : Int))),
 (((0 : Int) : Int) ≤ ((↑(b.getD (Int.toNat (0 : Int)) (0 : UInt8)).toNat : Int))),
 (((↑(b.getD (Int.toNat (0 : Int)) (0 : UInt8)).toNat : Int) : Int) < ((256 : Int))),
 ((letterI (↑(b.getD (Int.toNat (0 : Int)) (0 : UInt8)).toNat : Int) : Bool)) = (p),
 ((!p : Bool)) = (true),
 (((0 : Int) : Int) ≤ ((0 : Int))),
 (((0 : Int) : Int) < ((↑b.length : Int))),
 (((0 : Int) : Int) ≤ ((↑(b.getD (Int.toNat (0 : Int)) (0 : UInt8)).toNat : Int))),
 (((↑(b.getD (Int.toNat (0 : Int)) (0 : UInt8)).toNat : Int) : Int) < ((256 : Int))),
 ((digitI (↑(b.getD (Int.toNat (0 : Int)) (0 : UInt8)).toNat : Int) (10 : Int) : Int)) = (d),
 ((decide (d < (0 : Int)) : Bool)) = (false),
 (((1 : Nat) + l.length : Nat) ≤ ((9223372036854775807 : Nat))),
 ((([(38 : UInt8)] ++ l).length + (1 : Nat) : Nat) ≤ ((9223372036854775807 : Nat))),
 ((([(38 : UInt8)] ++ l ++ [(61 : UInt8)]).length + b.length : Nat) ≤ ((9223372036854775807 : Nat))),
 ((([(38 : UInt8)] ++ l ++ [(61 : UInt8)] ++ b).length : Nat) ≤ ((1000000000 : Nat))),
 ((entF ([(38 : UInt8)] ++ l ++ [(61 : UInt8)] ++ b) : List UInt8)) = (v4),
 (((1 : Nat) + l.length : Nat) ≤ ((9223372036854775807 : Nat))),
 ((([(38 : UInt8)] ++ l).length + (1 : Nat) : Nat) ≤ ((9223372036854775807 : Nat))),
 ((b.length : Nat) ≤ ((1000000000 : Nat))),
 ((entF b : List UInt8)) = (e),
 ((([(38 : UInt8)] ++ l ++ [(61 : UInt8)]).length + e.length : Nat) ≤ ((9223372036854775807 : Nat))),
 (([(38 : UInt8)] ++ l ++ [(61 : UInt8)] ++ e : List UInt8)) = (v4),
 ((v4 == v4 : Bool)) = (true)]) := by kernel_rfl

theorem names2C_6 (l b s t e v v3 v4 : List UInt8) (p : Bool) (d : Int) : lawOut (aBody Tryd.prog clU ⟨true, bs [(33, true), (86, false), (91, false)] ++ (bs [(14, false), (18, false), (40, false), (71, false), (81, false), (127, true), (146, true)] ++ [(25, ⟨.c (str s), none⟩), (26, ⟨.c (.bool true), none⟩), (30, ⟨.c (str t), none⟩), (31, ⟨.c (.bool true), none⟩), (66, ⟨.c (str v), none⟩), (69, ⟨.c (str e), none⟩), (70, ⟨.c (str v), none⟩), (90, ⟨.c (.bool p), none⟩), (95, ⟨.c (.int .i64 d), none⟩), (122, ⟨.c (str v3), none⟩), (125, ⟨.c (str e), none⟩), (126, ⟨.c (str v3), none⟩), (139, ⟨.c (str v4), none⟩), (144, ⟨.c (str e), none⟩), (145, ⟨.c (str v4), none⟩)])⟩ (lpBy ([])) 60 6 ([.c (str l), .c (str b)]) ([])) = some ((AV.c ((Value.bool true))), [((decide ((↑l.length : Int) > (50 : Int)) : Bool)) = (false),
 ((decide ((↑b.length : Int) > (200 : Int)) : Bool)) = (false),
 ((l.length + (1 : Nat) : Nat) ≤ ((9223372036854775807 : Nat))),
 (((l ++ [(59 : UInt8)]).length : Nat) ≤ ((9223372036854775800 : Nat))),
 ((namedF (l ++ [(59 : UInt8)]) : List UInt8)) = (s),
 ((!namedF (l ++ [(59 : UInt8)]) == [] : Bool)) = (true),
 ((l.length : Nat) ≤ ((9223372036854775800 : Nat))),
 ((namedF l : List UInt8)) = (t),
 ((!namedF l == [] : Bool)) = (true),
 ((!l == [] : Bool)) = (true),
 ((IntKind.i64.min : Int) ≤ ((↑l.length : Int) - (1 : Int))),
 (((↑l.length : Int) - (1 : Int) : Int) ≤ (IntKind.i64.max)),
 (((0 : Int) : Int) ≤ ((↑l.length : Int) - (1 : Int))),
 (((↑l.length : Int) - (1 : Int) : Int) < ((↑l.length : Int))),
 (((↑(l.getD ((↑l.length : Int) - (1 : Int)).toNat (0 : UInt8)).toNat : Int) == (59 : Int) : Bool)) = (false),
 (((1 : Nat) + l.length : Nat) ≤ ((9223372036854775807 : Nat))),
 ((([(38 : UInt8)] ++ l).length + (1 : Nat) : Nat) ≤ ((9223372036854775807 : Nat))),
 ((([(38 : UInt8)] ++ l ++ [(59 : UInt8)]).length + b.length : Nat) ≤ ((9223372036854775807 : Nat))),
 ((([(38 : UInt8)] ++ l ++ [(59 : UInt8)] ++ b).length : Nat) ≤ ((1000000000 : Nat))),
 ((entF ([(38 : UInt8)] ++ l ++ [(59 : UInt8)] ++ b) : List UInt8)) = (v),
 ((b.length : Nat) ≤ ((1000000000 : Nat))),
 ((entF b : List UInt8)) = (e),
 ((s.length + e.length : Nat) ≤ ((9223372036854775807 : Nat))),
 ((s ++ e : List UInt8)) = (v),
 ((!v == v : Bool)) = (false),
 ((!s == t : Bool)) = (false),
 ((b == [] : Bool)) = (false),
 (((0 : Int) : Int) ≤ ((0 : Int))),
 (((0 : Int) : Int) < ((↑b.length : Int))),
 (((0 : Int) : Int) ≤ ((↑(b.getD (Int.toNat (0 : Int)) (0 : UInt8)).toNat : Int))),
 (((↑(b.getD (Int.toNat (0 : Int)) (0 : UInt8)).toNat : Int) : Int) < ((256 : Int))),
 ((letterI (↑(b.getD (Int.toNat (0 : Int)) (0 : UInt8)).toNat : Int) : Bool)) = (p),
 ((!p : Bool)) = (false),
 (((1 : Nat) + l.length : Nat) ≤ ((9223372036854775807 : Nat))),
 ((([(38 : UInt8)] ++ l).length + (1 : Nat) : Nat) ≤ ((9223372036854775807 : Nat))),
 ((([(38 : UInt8)] ++ l ++ [(61 : UInt8)]).length + b.length : Nat) ≤ ((9223372036854775807 : Nat))),
 ((([(38 : UInt8)] ++ l ++ [(61 : UInt8)] ++ b).length : Nat) ≤ ((1000000000 : Nat))),
 ((entF ([(38 : UInt8)] ++ l ++ [(61 : UInt8)] ++ b) : List UInt8)) = (v4),
 (((1 : Nat) + l.length : Nat) ≤ ((9223372036854775807 : Nat))),
 ((([(38 : UInt8)] ++ l).length + (1 : Nat) : Nat) ≤ ((9223372036854775807 : Nat))),
 ((b.length : Nat) ≤ ((1000000000 : Nat))),
 ((entF b : List UInt8)) = (e),
 ((([(38 : UInt8)] ++ l ++ [(61 : UInt8)]).length + e.length : Nat) ≤ ((9223372036854775807 : Nat))),
 (([(38 : UInt8)] ++ l ++ [(61 : UInt8)] ++ e : List UInt8)) = (v4),
 ((v4 == v4 : Bool)) = (true)]) := by kernel_rfl

theorem names2C_7 (l b s t e v v3 v4 : List UInt8) (p : Bool) (d : Int) : lawOut (aBody Tryd.prog clU ⟨true, bs [(33, false), (86, true)] ++ (bs [(14, false), (18, false), (40, false), (71, false), (81, false), (127, true), (146, true)] ++ [(25, ⟨.c (str s), none⟩), (26, ⟨.c (.bool true), none⟩), (30, ⟨.c (str t), none⟩), (31, ⟨.c (.bool true), none⟩), (66, ⟨.c (str v), none⟩), (69, ⟨.c (str e), none⟩), (70, ⟨.c (str v), none⟩), (90, ⟨.c (.bool p), none⟩), (95, ⟨.c (.int .i64 d), none⟩), (122, ⟨.c (str v3), none⟩), (125, ⟨.c (str e), none⟩), (126, ⟨.c (str v3), none⟩), (139, ⟨.c (str v4), none⟩), (144, ⟨.c (str e), none⟩), (145, ⟨.c (str v4), none⟩)])⟩ (lpBy ([])) 60 6 ([.c (str l), .c (str b)]) ([])) = some ((AV.c ((Value.bool true))), [((decide ((↑l.length : Int) > (50 : Int)) : Bool)) = (false),
 ((decide ((↑b.length : Int) > (200 : Int)) : Bool)) = (false),
 ((l.length + (1 : Nat) : Nat) ≤ ((9223372036854775807 : Nat))),
 (((l ++ [(59 : UInt8)]).length : Nat) ≤ ((9223372036854775800 : Nat))),
 ((namedF (l ++ [(59 : UInt8)]) : List UInt8)) = (s),
 ((!namedF (l ++ [(59 : UInt8)]) == [] : Bool)) = (true),
 ((l.length : Nat) ≤ ((9223372036854775800 : Nat))),
 ((namedF l : List UInt8)) = (t),
 ((!namedF l == [] : Bool)) = (true),
 ((!l == [] : Bool)) = (false),
 (((1 : Nat) + l.length : Nat) ≤ ((9223372036854775807 : Nat))),
 ((([(38 : UInt8)] ++ l).length + (1 : Nat) : Nat) ≤ ((9223372036854775807 : Nat))),
 ((([(38 : UInt8)] ++ l ++ [(59 : UInt8)]).length + b.length : Nat) ≤ ((9223372036854775807 : Nat))),
 ((([(38 : UInt8)] ++ l ++ [(59 : UInt8)] ++ b).length : Nat) ≤ ((1000000000 : Nat))),
 ((entF ([(38 : UInt8)] ++ l ++ [(59 : UInt8)] ++ b) : List UInt8)) = (v),
 ((b.length : Nat) ≤ ((1000000000 : Nat))),
 ((entF b : List UInt8)) = (e),
 ((s.length + e.length : Nat) ≤ ((9223372036854775807 : Nat))),
 ((s ++ e : List UInt8)) = (v),
 ((!v == v : Bool)) = (false),
 ((!s == t : Bool)) = (false),
 ((b == [] : Bool)) = (true),
 (((1 : Nat) + l.length : Nat) ≤ ((9223372036854775807 : Nat))),
 ((([(38 : UInt8)] ++ l).length + b.length : Nat) ≤ ((9223372036854775807 : Nat))),
 ((([(38 : UInt8)] ++ l ++ b).length : Nat) ≤ ((1000000000 : Nat))),
 ((entF ([(38 : UInt8)] ++ l ++ b) : List UInt8)) = (v3),
 ((b.length : Nat) ≤ ((1000000000 : Nat))),
 ((entF b : List UInt8)) = (e),
 ((t.length + e.length : Nat) ≤ ((9223372036854775807 : Nat))),
 ((t ++ e : List UInt8)) = (v3),
 ((v3 == v3 : Bool)) = (true),
 (((1 : Nat) + l.length : Nat) ≤ ((9223372036854775807 : Nat))),
 ((([(38 : UInt8)] ++ l).length + (1 : Nat) : Nat) ≤ ((9223372036854775807 : Nat))),
 ((([(38 : UInt8)] ++ l ++ [(61 : UInt8)]).length + b.length : Nat) ≤ ((9223372036854775807 : Nat))),
 ((([(38 : UInt8)] ++ l ++ [(61 : UInt8)] ++ b).length : Nat) ≤ ((1000000000 : Nat))),
 ((entF ([(38 : UInt8)] ++ l ++ [(61 : UInt8)] ++ b) : List UInt8)) = (v4),
 (((1 : Nat) + l.length : Nat) ≤ ((9223372036854775807 : Nat))),
 ((([(38 : UInt8)] ++ l).length + (1 : Nat) : Nat) ≤ ((9223372036854775807 : Nat))),
 ((b.length : Nat) ≤ ((1000000000 : Nat))),
 ((entF b : List UInt8)) = (e),
 ((([(38 : UInt8)] ++ l ++ [(61 : UInt8)]).length + e.length : Nat) ≤ ((9223372036854775807 : Nat))),
 (([(38 : UInt8)] ++ l ++ [(61 : UInt8)] ++ e : List UInt8)) = (v4),
 ((v4 == v4 : Bool)) = (true)]) := by kernel_rfl

theorem names2C_8 (l b s t e v v3 v4 : List UInt8) (p : Bool) (d : Int) : lawOut (aBody Tryd.prog clU ⟨true, bs [(33, false), (86, false), (91, true), (96, true), (101, true), (115, true)] ++ (bs [(14, false), (18, false), (40, false), (71, false), (81, false), (127, true), (146, true)] ++ [(25, ⟨.c (str s), none⟩), (26, ⟨.c (.bool true), none⟩), (30, ⟨.c (str t), none⟩), (31, ⟨.c (.bool true), none⟩), (66, ⟨.c (str v), none⟩), (69, ⟨.c (str e), none⟩), (70, ⟨.c (str v), none⟩), (90, ⟨.c (.bool p), none⟩), (95, ⟨.c (.int .i64 d), none⟩), (122, ⟨.c (str v3), none⟩), (125, ⟨.c (str e), none⟩), (126, ⟨.c (str v3), none⟩), (139, ⟨.c (str v4), none⟩), (144, ⟨.c (str e), none⟩), (145, ⟨.c (str v4), none⟩)])⟩ (lpBy ([])) 60 6 ([.c (str l), .c (str b)]) ([])) = some ((AV.c ((Value.bool true))), [((decide ((↑l.length : Int) > (50 : Int)) : Bool)) = (false),
 ((decide ((↑b.length : Int) > (200 : Int)) : Bool)) = (false),
 ((l.length + (1 : Nat) : Nat) ≤ ((9223372036854775807 : Nat))),
 (((l ++ [(59 : UInt8)]).length : Nat) ≤ ((9223372036854775800 : Nat))),
 ((namedF (l ++ [(59 : UInt8)]) : List UInt8)) = (s),
 ((!namedF (l ++ [(59 : UInt8)]) == [] : Bool)) = (true),
 ((l.length : Nat) ≤ ((9223372036854775800 : Nat))),
 ((namedF l : List UInt8)) = (t),
 ((!namedF l == [] : Bool)) = (true),
 ((!l == [] : Bool)) = (false),
 (((1 : Nat) + l.length : Nat) ≤ ((9223372036854775807 : Nat))),
 ((([(38 : UInt8)] ++ l).length + (1 : Nat) : Nat) ≤ ((9223372036854775807 : Nat))),
 ((([(38 : UInt8)] ++ l ++ [(59 : UInt8)]).length + b.length : Nat) ≤ ((9223372036854775807 : Nat))),
 ((([(38 : UInt8)] ++ l ++ [(59 : UInt8)] ++ b).length : Nat) ≤ ((1000000000 : Nat))),
 ((entF ([(38 : UInt8)] ++ l ++ [(59 : UInt8)] ++ b) : List UInt8)) = (v),
 ((b.length : Nat) ≤ ((1000000000 : Nat))),
 ((entF b : List UInt8)) = (e),
 ((s.length + e.length : Nat) ≤ ((9223372036854775807 : Nat))),
 ((s ++ e : List UInt8)) = (v),
 ((!v == v : Bool)) = (false),
 ((!s == t : Bool)) = (false),
 ((b == [] : Bool)) = (false),
 (((0 : Int) : Int) ≤ ((0 : Int))),
 (((0 : Int) : Int) < ((↑b.length : Int))),
 (((0 : Int) : Int) ≤ ((↑(b.getD (Int.toNat (0 : Int)) (0 : UInt8)).toNat : Int))),
 (((↑(b.getD (Int.toNat (0 : Int)) (0 : UInt8)).toNat : Int) : Int) < ((256 : Int))),
 ((letterI (↑(b.getD (Int.toNat (0 : Int)) (0 : UInt8)).toNat : Int) : Bool)) = (p),
 ((!p : Bool)) = (true),
 (((0 : Int) : Int) ≤ ((0 : Int))),
 (((0 : Int) : Int) < ((↑b.length : Int))),
 (((0 : Int) : Int) ≤ ((↑(b.getD (Int.toNat (0 : Int)) (0 : UInt8)).toNat : Int))),
 (((↑(b.getD (Int.toNat (0 : Int)) (0 : UInt8)).toNat : Int) : Int) < ((256 : Int))),
 ((digitI (↑(b.getD (Int.toNat (0 : Int)) (0 : UInt8)).toNat : Int) (10 : Int) : Int)) = (d),
 ((decide (d < (0 : Int)) : Bool)) = (true),
 (((0 : Int) : Int) ≤ ((0 : Int))),
 (((0 : Int) : Int) < ((↑b.length : Int))),
 (((↑(b.getD (Int.toNat (0 : Int)) (0 : UInt8)).toNat : Int) != (61 : Int) : Bool)) = (true),
 (((0 : Int) : Int) ≤ ((0 : Int))),
 (((0 : Int) : Int) < ((↑b.length : Int))),
 ((!(↑(b.getD (Int.toNat (0 : Int)) (0 : UInt8)).toNat : Int) != (59 : Int) : Bool)) = (true),
 (((1 : Nat) + l.length : Nat) ≤ ((9223372036854775807 : Nat))),
 ((([(38 : UInt8)] ++ l).length + (1 : Nat) : Nat) ≤ ((9223372036854775807 : Nat))),
 ((([(38 : UInt8)] ++ l ++ [(61 : UInt8)]).length + b.length : Nat) ≤ ((9223372036854775807 : Nat))),
 ((([(38 : UInt8)] ++ l ++ [(61 : UInt8)] ++ b).length : Nat) ≤ ((1000000000 : Nat))),
 ((entF ([(38 : UInt8)] ++ l ++ [(61 : UInt8)] ++ b) : List UInt8)) = (v4),
 (((1 : Nat) + l.length : Nat) ≤ ((9223372036854775807 : Nat))),
 ((([(38 : UInt8)] ++ l).length + (1 : Nat) : Nat) ≤ ((9223372036854775807 : Nat))),
 ((b.length : Nat) ≤ ((1000000000 : Nat))),
 ((entF b : List UInt8)) = (e),
 ((([(38 : UInt8)] ++ l ++ [(61 : UInt8)]).length + e.length : Nat) ≤ ((9223372036854775807 : Nat))),
 (([(38 : UInt8)] ++ l ++ [(61 : UInt8)] ++ e : List UInt8)) = (v4),
 ((v4 == v4 : Bool)) = (true)]) := by kernel_rfl

theorem names2C_9 (l b s t e v v3 v4 : List UInt8) (p : Bool) (d : Int) : lawOut (aBody Tryd.prog clU ⟨true, bs [(33, false), (86, false), (91, true), (96, true), (101, true), (115, false)] ++ (bs [(14, false), (18, false), (40, false), (71, false), (81, false), (127, true), (146, true)] ++ [(25, ⟨.c (str s), none⟩), (26, ⟨.c (.bool true), none⟩), (30, ⟨.c (str t), none⟩), (31, ⟨.c (.bool true), none⟩), (66, ⟨.c (str v), none⟩), (69, ⟨.c (str e), none⟩), (70, ⟨.c (str v), none⟩), (90, ⟨.c (.bool p), none⟩), (95, ⟨.c (.int .i64 d), none⟩), (122, ⟨.c (str v3), none⟩), (125, ⟨.c (str e), none⟩), (126, ⟨.c (str v3), none⟩), (139, ⟨.c (str v4), none⟩), (144, ⟨.c (str e), none⟩), (145, ⟨.c (str v4), none⟩)])⟩ (lpBy ([])) 60 6 ([.c (str l), .c (str b)]) ([])) = some ((AV.c ((Value.bool true))), [((decide ((↑l.length : Int) > (50 : Int)) : Bool)) = (false),
 ((decide ((↑b.length : Int) > (200 : Int)) : Bool)) = (false),
 ((l.length + (1 : Nat) : Nat) ≤ ((9223372036854775807 : Nat))),
 (((l ++ [(59 : UInt8)]).length : Nat) ≤ ((9223372036854775800 : Nat))),
 ((namedF (l ++ [(59 : UInt8)]) : List UInt8)) = (s),
 ((!namedF (l ++ [(59 : UInt8)]) == [] : Bool)) = (true),
 ((l.length : Nat) ≤ ((9223372036854775800 : Nat))),
 ((namedF l : List UInt8)) = (t),
 ((!namedF l == [] : Bool)) = (true),
 ((!l == [] : Bool)) = (false),
 (((1 : Nat) + l.length : Nat) ≤ ((9223372036854775807 : Nat))),
 ((([(38 : UInt8)] ++ l).length + (1 : Nat) : Nat) ≤ ((9223372036854775807 : Nat))),
 ((([(38 : UInt8)] ++ l ++ [(59 : UInt8)]).length + b.length : Nat) ≤ ((9223372036854775807 : Nat))),
 ((([(38 : UInt8)] ++ l ++ [(59 : UInt8)] ++ b).length : Nat) ≤ ((1000000000 : Nat))),
 ((entF ([(38 : UInt8)] ++ l ++ [(59 : UInt8)] ++ b) : List UInt8)) = (v),
 ((b.length : Nat) ≤ ((1000000000 : Nat))),
 ((entF b : List UInt8)) = (e),
 ((s.length + e.length : Nat) ≤ ((9223372036854775807 : Nat))),
 ((s ++ e : List UInt8)) = (v),
 ((!v == v : Bool)) = (false),
 ((!s == t : Bool)) = (false),
 ((b == [] : Bool)) = (false),
 (((0 : Int) : Int) ≤ ((0 : Int))),
 (((0 : Int) : Int) < ((↑b.length : Int))),
 (((0 : Int) : Int) ≤ ((↑(b.getD (Int.toNat (0 : Int)) (0 : UInt8)).toNat : Int))),
 (((↑(b.getD (Int.toNat (0 : Int)) (0 : UInt8)).toNat : Int) : Int) < ((256 : Int))),
 ((letterI (↑(b.getD (Int.toNat (0 : Int)) (0 : UInt8)).toNat : Int) : Bool)) = (p),
 ((!p : Bool)) = (true),
 (((0 : Int) : Int) ≤ ((0 : Int))),
 (((0 : Int) : Int) < ((↑b.length : Int))),
 (((0 : Int) : Int) ≤ ((↑(b.getD (Int.toNat (0 : Int)) (0 : UInt8)).toNat : Int))),
 (((↑(b.getD (Int.toNat (0 : Int)) (0 : UInt8)).toNat : Int) : Int) < ((256 : Int))),
 ((digitI (↑(b.getD (Int.toNat (0 : Int)) (0 : UInt8)).toNat : Int) (10 : Int) : Int)) = (d),
 ((decide (d < (0 : Int)) : Bool)) = (true),
 (((0 : Int) : Int) ≤ ((0 : Int))),
 (((0 : Int) : Int) < ((↑b.length : Int))),
 (((↑(b.getD (Int.toNat (0 : Int)) (0 : UInt8)).toNat : Int) != (61 : Int) : Bool)) = (true),
 (((0 : Int) : Int) ≤ ((0 : Int))),
 (((0 : Int) : Int) < ((↑b.length : Int))),
 ((!(↑(b.getD (Int.toNat (0 : Int)) (0 : UInt8)).toNat : Int) != (59 : Int) : Bool)) = (false),
 (((1 : Nat) + l.length : Nat) ≤ ((9223372036854775807 : Nat))),
 ((([(38 : UInt8)] ++ l).length + b.length : Nat) ≤ ((9223372036854775807 : Nat))),
 ((([(38 : UInt8)] ++ l ++ b).length : Nat) ≤ ((1000000000 : Nat))),
 ((entF ([(38 : UInt8)] ++ l ++ b) : List UInt8)) = (v3),
 ((b.length : Nat) ≤ ((1000000000 : Nat))),
 ((entF b : List UInt8)) = (e),
 ((t.length + e.length : Nat) ≤ ((9223372036854775807 : Nat))),
 ((t ++ e : List UInt8)) = (v3),
 ((v3 == v3 : Bool)) = (true),
 (((1 : Nat) + l.length : Nat) ≤ ((9223372036854775807 : Nat))),
 ((([(38 : UInt8)] ++ l).length + (1 : Nat) : Nat) ≤ ((9223372036854775807 : Nat))),
 ((([(38 : UInt8)] ++ l ++ [(61 : UInt8)]).length + b.length : Nat) ≤ ((9223372036854775807 : Nat))),
 ((([(38 : UInt8)] ++ l ++ [(61 : UInt8)] ++ b).length : Nat) ≤ ((1000000000 : Nat))),
 ((entF ([(38 : UInt8)] ++ l ++ [(61 : UInt8)] ++ b) : List UInt8)) = (v4),
 (((1 : Nat) + l.length : Nat) ≤ ((9223372036854775807 : Nat))),
 ((([(38 : UInt8)] ++ l).length + (1 : Nat) : Nat) ≤ ((9223372036854775807 : Nat))),
 ((b.length : Nat) ≤ ((1000000000 : Nat))),
 ((entF b : List UInt8)) = (e),
 ((([(38 : UInt8)] ++ l ++ [(61 : UInt8)]).length + e.length : Nat) ≤ ((9223372036854775807 : Nat))),
 (([(38 : UInt8)] ++ l ++ [(61 : UInt8)] ++ e : List UInt8)) = (v4),
 ((v4 == v4 : Bool)) = (true)]) := by kernel_rfl

theorem names2C_10 (l b s t e v v3 v4 : List UInt8) (p : Bool) (d : Int) : lawOut (aBody Tryd.prog clU ⟨true, bs [(33, false), (86, false), (91, true), (96, true), (101, false)] ++ (bs [(14, false), (18, false), (40, false), (71, false), (81, false), (127, true), (146, true)] ++ [(25, ⟨.c (str s), none⟩), (26, ⟨.c (.bool true), none⟩), (30, ⟨.c (str t), none⟩), (31, ⟨.c (.bool true), none⟩), (66, ⟨.c (str v), none⟩), (69, ⟨.c (str e), none⟩), (70, ⟨.c (str v), none⟩), (90, ⟨.c (.bool p), none⟩), (95, ⟨.c (.int .i64 d), none⟩), (122, ⟨.c (str v3), none⟩), (125, ⟨.c (str e), none⟩), (126, ⟨.c (str v3), none⟩), (139, ⟨.c (str v4), none⟩), (144, ⟨.c (str e), none⟩), (145, ⟨.c (str v4), none⟩)])⟩ (lpBy ([])) 60 6 ([.c (str l), .c (str b)]) ([])) = some ((AV.c ((Value.bool true))), [((decide ((↑l.length : Int) > (50 : Int)) : Bool)) = (false),
 ((decide ((↑b.length : Int) > (200 : Int)) : Bool)) = (false),
 ((l.length + (1 : Nat) : Nat) ≤ ((9223372036854775807 : Nat))),
 (((l ++ [(59 : UInt8)]).length : Nat) ≤ ((9223372036854775800 : Nat))),
 ((namedF (l ++ [(59 : UInt8)]) : List UInt8)) = (s),
 ((!namedF (l ++ [(59 : UInt8)]) == [] : Bool)) = (true),
 ((l.length : Nat) ≤ ((9223372036854775800 : Nat))),
 ((namedF l : List UInt8)) = (t),
 ((!namedF l == [] : Bool)) = (true),
 ((!l == [] : Bool)) = (false),
 (((1 : Nat) + l.length : Nat) ≤ ((9223372036854775807 : Nat))),
 ((([(38 : UInt8)] ++ l).length + (1 : Nat) : Nat) ≤ ((9223372036854775807 : Nat))),
 ((([(38 : UInt8)] ++ l ++ [(59 : UInt8)]).length + b.length : Nat) ≤ ((9223372036854775807 : Nat))),
 ((([(38 : UInt8)] ++ l ++ [(59 : UInt8)] ++ b).length : Nat) ≤ ((1000000000 : Nat))),
 ((entF ([(38 : UInt8)] ++ l ++ [(59 : UInt8)] ++ b) : List UInt8)) = (v),
 ((b.length : Nat) ≤ ((1000000000 : Nat))),
 ((entF b : List UInt8)) = (e),
 ((s.length + e.length : Nat) ≤ ((9223372036854775807 : Nat))),
 ((s ++ e : List UInt8)) = (v),
 ((!v == v : Bool)) = (false),
 ((!s == t : Bool)) = (false),
 ((b == [] : Bool)) = (false),
 (((0 : Int) : Int) ≤ ((0 : Int))),
 (((0 : Int) : Int) < ((↑b.length : Int))),
 (((0 : Int) : Int) ≤ ((↑(b.getD (Int.toNat (0 : Int)) (0 : UInt8)).toNat : Int))),
 (((↑(b.getD (Int.toNat (0 : Int)) (0 : UInt8)).toNat : Int) : Int) < ((256 : Int))),
 ((letterI (↑(b.getD (Int.toNat (0 : Int)) (0 : UInt8)).toNat : Int) : Bool)) = (p),
 ((!p : Bool)) = (true),
 (((0 : Int) : Int) ≤ ((0 : Int))),
 (((0 : Int) : Int) < ((↑b.length : Int))),
 (((0 : Int) : Int) ≤ ((↑(b.getD (Int.toNat (0 : Int)) (0 : UInt8)).toNat : Int))),
 (((↑(b.getD (Int.toNat (0 : Int)) (0 : UInt8)).toNat : Int) : Int) < ((256 : Int))),
 ((digitI (↑(b.getD (Int.toNat (0 : Int)) (0 : UInt8)).toNat : Int) (10 : Int) : Int)) = (d),
 ((decide (d < (0 : Int)) : Bool)) = (true),
 (((0 : Int) : Int) ≤ ((0 : Int))),
 (((0 : Int) : Int) < ((↑b.length : Int))),
 (((↑(b.getD (Int.toNat (0 : Int)) (0 : UInt8)).toNat : Int) != (61 : Int) : Bool)) = (false),
 (((1 : Nat) + l.length : Nat) ≤ ((9223372036854775807 : Nat))),
 ((([(38 : UInt8)] ++ l).length + (1 : Nat) : Nat) ≤ ((9223372036854775807 : Nat))),
 ((([(38 : UInt8)] ++ l ++ [(61 : UInt8)]).length + b.length : Nat) ≤ ((9223372036854775807 : Nat))),
 ((([(38 : UInt8)] ++ l ++ [(61 : UInt8)] ++ b).length : Nat) ≤ ((1000000000 : Nat))),
 ((entF ([(38 : UInt8)] ++ l ++ [(61 : UInt8)] ++ b) : List UInt8)) = (v4),
 (((1 : Nat) + l.length : Nat) ≤ ((9223372036854775807 : Nat))),
 ((([(38 : UInt8)] ++ l).length + (1 : Nat) : Nat) ≤ ((9223372036854775807 : Nat))),
 ((b.length : Nat) ≤ ((1000000000 : Nat))),
 ((entF b : List UInt8)) = (e),
 ((([(38 : UInt8)] ++ l ++ [(61 : UInt8)]).length + e.length : Nat) ≤ ((9223372036854775807 : Nat))),
 (([(38 : UInt8)] ++ l ++ [(61 : UInt8)] ++ e : List UInt8)) = (v4),
 ((v4 == v4 : Bool)) = (true)]) := by kernel_rfl

theorem names2C_11 (l b s t e v v3 v4 : List UInt8) (p : Bool) (d : Int) : lawOut (aBody Tryd.prog clU ⟨true, bs [(33, false), (86, false), (91, true), (96, false)] ++ (bs [(14, false), (18, false), (40, false), (71, false), (81, false), (127, true), (146, true)] ++ [(25, ⟨.c (str s), none⟩), (26, ⟨.c (.bool true), none⟩), (30, ⟨.c (str t), none⟩), (31, ⟨.c (.bool true), none⟩), (66, ⟨.c (str v), none⟩), (69, ⟨.c (str e), none⟩), (70, ⟨.c (str v), none⟩), (90, ⟨.c (.bool p), none⟩), (95, ⟨.c (.int .i64 d), none⟩), (122, ⟨.c (str v3), none⟩), (125, ⟨.c (str e), none⟩), (126, ⟨.c (str v3), none⟩), (139, ⟨.c (str v4), none⟩), (144, ⟨.c (str e), none⟩), (145, ⟨.c (str v4), none⟩)])⟩ (lpBy ([])) 60 6 ([.c (str l), .c (str b)]) ([])) = some ((AV.c ((Value.bool true))), [((decide ((↑l.length : Int) > (50 : Int)) : Bool)) = (false),
 ((decide ((↑b.length : Int) > (200 : Int)) : Bool)) = (false),
 ((l.length + (1 : Nat) : Nat) ≤ ((9223372036854775807 : Nat))),
 (((l ++ [(59 : UInt8)]).length : Nat) ≤ ((9223372036854775800 : Nat))),
 ((namedF (l ++ [(59 : UInt8)]) : List UInt8)) = (s),
 ((!namedF (l ++ [(59 : UInt8)]) == [] : Bool)) = (true),
 ((l.length : Nat) ≤ ((9223372036854775800 : Nat))),
 ((namedF l : List UInt8)) = (t),
 ((!namedF l == [] : Bool)) = (true),
 ((!l == [] : Bool)) = (false),
 (((1 : Nat) + l.length : Nat) ≤ ((9223372036854775807 : Nat))),
 ((([(38 : UInt8)] ++ l).length + (1 : Nat) : Nat) ≤ ((9223372036854775807 : Nat))),
 ((([(38 : UInt8)] ++ l ++ [(59 : UInt8)]).length + b.length : Nat) ≤ ((9223372036854775807 : Nat))),
 ((([(38 : UInt8)] ++ l ++ [(59 : UInt8)] ++ b).length : Nat) ≤ ((1000000000 : Nat))),
 ((entF ([(38 : UInt8)] ++ l ++ [(59 : UInt8)] ++ b) : List UInt8)) = (v),
 ((b.length : Nat) ≤ ((1000000000 : Nat))),
 ((entF b : List UInt8)) = (e),
 ((s.length + e.length : Nat) ≤ ((9223372036854775807 : Nat))),
 ((s ++ e : List UInt8)) = (v),
 ((!v == v : Bool)) = (false),
 ((!s == t : Bool)) = (false),
 ((b == [] : Bool)) = (false),
 (((0 : Int) : Int) ≤ ((0 : Int))),
 (((0 : Int) : Int) < ((↑b.length : Int))),
 (((0 : Int) : Int) ≤ ((↑(b.getD (Int.toNat (0 : Int)) (0 : UInt8)).toNat : Int))),
 (((↑(b.getD (Int.toNat (0 : Int)) (0 : UInt8)).toNat : Int) : Int) < ((256 : Int))),
 ((letterI (↑(b.getD (Int.toNat (0 : Int)) (0 : UInt8)).toNat : Int) : Bool)) = (p),
 ((!p : Bool)) = (true),
 (((0 : Int) : Int) ≤ ((0 : Int))),
 (((0 : Int) : Int) < ((↑b.length : Int))),
 (((0 : Int) : Int) ≤ ((↑(b.getD (Int.toNat (0 : Int)) (0 : UInt8)).toNat : Int))),
 (((↑(b.getD (Int.toNat (0 : Int)) (0 : UInt8)).toNat : Int) : Int) < ((256 : Int))),
 ((digitI (↑(b.getD (Int.toNat (0 : Int)) (0 : UInt8)).toNat : Int) (10 : Int) : Int)) = (d),
 ((decide (d < (0 : Int)) : Bool)) = (false),
 (((1 : Nat) + l.length : Nat) ≤ ((9223372036854775807 : Nat))),
 ((([(38 : UInt8)] ++ l).length + (1 : Nat) : Nat) ≤ ((9223372036854775807 : Nat))),
 ((([(38 : UInt8)] ++ l ++ [(61 : UInt8)]).length + b.length : Nat) ≤ ((9223372036854775807 : Nat))),
 ((([(38 : UInt8)] ++ l ++ [(61 : UInt8)] ++ b).length : Nat) ≤ ((1000000000 : Nat))),
 ((entF ([(38 : UInt8)] ++ l ++ [(61 : UInt8)] ++ b) : List UInt8)) = (v4),
 (((1 : Nat) + l.length : Nat) ≤ ((9223372036854775807 : Nat))),
 ((([(38 : UInt8)] ++ l).length + (1 : Nat) : Nat) ≤ ((9223372036854775807 : Nat))),
 ((b.length : Nat) ≤ ((1000000000 : Nat))),
 ((entF b : List UInt8)) = (e),
 ((([(38 : UInt8)] ++ l ++ [(61 : UInt8)]).length + e.length : Nat) ≤ ((9223372036854775807 : Nat))),
 (([(38 : UInt8)] ++ l ++ [(61 : UInt8)] ++ e : List UInt8)) = (v4),
 ((v4 == v4 : Bool)) = (true)]) := by kernel_rfl

theorem names2C_12 (l b s t e v v3 v4 : List UInt8) (p : Bool) (d : Int) : lawOut (aBody Tryd.prog clU ⟨true, bs [(33, false), (86, false), (91, false)] ++ (bs [(14, false), (18, false), (40, false), (71, false), (81, false), (127, true), (146, true)] ++ [(25, ⟨.c (str s), none⟩), (26, ⟨.c (.bool true), none⟩), (30, ⟨.c (str t), none⟩), (31, ⟨.c (.bool true), none⟩), (66, ⟨.c (str v), none⟩), (69, ⟨.c (str e), none⟩), (70, ⟨.c (str v), none⟩), (90, ⟨.c (.bool p), none⟩), (95, ⟨.c (.int .i64 d), none⟩), (122, ⟨.c (str v3), none⟩), (125, ⟨.c (str e), none⟩), (126, ⟨.c (str v3), none⟩), (139, ⟨.c (str v4), none⟩), (144, ⟨.c (str e), none⟩), (145, ⟨.c (str v4), none⟩)])⟩ (lpBy ([])) 60 6 ([.c (str l), .c (str b)]) ([])) = some ((AV.c ((Value.bool true))), [((decide ((↑l.length : Int) > (50 : Int)) : Bool)) = (false),
 ((decide ((↑b.length : Int) > (200 : Int)) : Bool)) = (false),
 ((l.length + (1 : Nat) : Nat) ≤ ((9223372036854775807 : Nat))),
 (((l ++ [(59 : UInt8)]).length : Nat) ≤ ((9223372036854775800 : Nat))),
 ((namedF (l ++ [(59 : UInt8)]) : List UInt8)) = (s),
 ((!namedF (l ++ [(59 : UInt8)]) == [] : Bool)) = (true),
 ((l.length : Nat) ≤ ((9223372036854775800 : Nat))),
 ((namedF l : List UInt8)) = (t),
 ((!namedF l == [] : Bool)) = (true),
 ((!l == [] : Bool)) = (false),
 (((1 : Nat) + l.length : Nat) ≤ ((9223372036854775807 : Nat))),
 ((([(38 : UInt8)] ++ l).length + (1 : Nat) : Nat) ≤ ((9223372036854775807 : Nat))),
 ((([(38 : UInt8)] ++ l ++ [(59 : UInt8)]).length + b.length : Nat) ≤ ((9223372036854775807 : Nat))),
 ((([(38 : UInt8)] ++ l ++ [(59 : UInt8)] ++ b).length : Nat) ≤ ((1000000000 : Nat))),
 ((entF ([(38 : UInt8)] ++ l ++ [(59 : UInt8)] ++ b) : List UInt8)) = (v),
 ((b.length : Nat) ≤ ((1000000000 : Nat))),
 ((entF b : List UInt8)) = (e),
 ((s.length + e.length : Nat) ≤ ((9223372036854775807 : Nat))),
 ((s ++ e : List UInt8)) = (v),
 ((!v == v : Bool)) = (false),
 ((!s == t : Bool)) = (false),
 ((b == [] : Bool)) = (false),
 (((0 : Int) : Int) ≤ ((0 : Int))),
 (((0 : Int) : Int) < ((↑b.length : Int))),
 (((0 : Int) : Int) ≤ ((↑(b.getD (Int.toNat (0 : Int)) (0 : UInt8)).toNat : Int))),
 (((↑(b.getD (Int.toNat (0 : Int)) (0 : UInt8)).toNat : Int) : Int) < ((256 : Int))),
 ((letterI (↑(b.getD (Int.toNat (0 : Int)) (0 : UInt8)).toNat : Int) : Bool)) = (p),
 ((!p : Bool)) = (false),
 (((1 : Nat) + l.length : Nat) ≤ ((9223372036854775807 : Nat))),
 ((([(38 : UInt8)] ++ l).length + (1 : Nat) : Nat) ≤ ((9223372036854775807 : Nat))),
 ((([(38 : UInt8)] ++ l ++ [(61 : UInt8)]).length + b.length : Nat) ≤ ((9223372036854775807 : Nat))),
 ((([(38 : UInt8)] ++ l ++ [(61 : UInt8)] ++ b).length : Nat) ≤ ((1000000000 : Nat))),
 ((entF ([(38 : UInt8)] ++ l ++ [(61 : UInt8)] ++ b) : List UInt8)) = (v4),
 (((1 : Nat) + l.length : Nat) ≤ ((9223372036854775807 : Nat))),
 ((([(38 : UInt8)] ++ l).length + (1 : Nat) : Nat) ≤ ((9223372036854775807 : Nat))),
 ((b.length : Nat) ≤ ((1000000000 : Nat))),
 ((entF b : List UInt8)) = (e),
 ((([(38 : UInt8)] ++ l ++ [(61 : UInt8)]).length + e.length : Nat) ≤ ((9223372036854775807 : Nat))),
 (([(38 : UInt8)] ++ l ++ [(61 : UInt8)] ++ e : List UInt8)) = (v4),
 ((v4 == v4 : Bool)) = (true)]) := by kernel_rfl

theorem names2C_all (l b s t e v v3 v4 : List UInt8) (p : Bool) (d : Int) (g0 : l.length ≤ 50) (g1 : b.length ≤ 200) (hs : namedF (l ++ [59]) = s) (hy : (!(namedF (l ++ [59]) == [])) = true) (ht : namedF l = t) (hx : (!(namedF l == [])) = true) (hll : ¬ l = [] → 0 < l.length) (hlast : ¬ l = [] → ¬ (((l.getD (l.length - 1) 0).toNat : Nat) : Int) = 59) (hlz : ((l.length : Int) - 1).toNat = l.length - 1) (hsl : s.length ≤ 100) (htl : t.length ≤ 100) (he : entF b = e) (hel : e.length ≤ 200) (hE2 : true = true → entF ((([38] ++ l) ++ [59]) ++ b) = v) (hV2 : true = true → s ++ e = v) (hst : true = true → s = t) (hV3 : t ++ e = v3) (o1 : true = true → b = [] → entF (([38] ++ l) ++ b) = v3) (o2 : true = true → ¬ b = [] → p = false → d < 0 → ¬ (((b.getD 0 0).toNat : Nat) : Int) = 61 → ¬ (((b.getD 0 0).toNat : Nat) : Int) = 59 → entF (([38] ++ l) ++ b) = v3) (hp : isL (b.getD 0 0) = p) (hd : dg 10 (b.getD 0 0) = d) (h5 : (b.getD 0 0).toNat < 256) (hbn : ¬ b = [] → 0 < b.length) (hE4 : true = true → entF ((([38] ++ l) ++ [61]) ++ b) = v4) (hV4 : (([38] ++ l) ++ [61]) ++ e = v4) : ∃ (h : Hints) (p : List Prop), lawOut (aBody Tryd.prog clU h (lpBy ([])) 60 6 ([.c (str l), .c (str b)]) ([])) = some (.c (.bool true), p) ∧ allP p := by
  cases hc33 : (!l == [] : Bool) with
  | true =>
    cases hc86 : (b == [] : Bool) with
    | true =>
      have eR := names2C_1 l b s t e v v3 v4 p d
      refine ⟨_, _, eR.trans (congrArg (fun r => some (r, _)) ?_), ?_⟩
      · try clear eR
        rfl
      · try clear eR
        try simp only [decide_eq_true_eq, decide_eq_false_iff_not, beq_iff_eq, beq_eq_false_iff_ne, bne_iff_ne, bne_eq_false_iff_eq, ne_eq] at hc33
        try simp only [toNat0, toNat1, toNat2, Int.toNat_natCast, sb_mk] at hc33
        try simp only [decide_eq_true_eq, decide_eq_false_iff_not, beq_iff_eq, beq_eq_false_iff_ne, bne_iff_ne, bne_eq_false_iff_eq, ne_eq] at hc86
        try simp only [toNat0, toNat1, toNat2, Int.toNat_natCast, sb_mk] at hc86
        try simp (disch := omega) only [allP, sb_mk, sl1, toNat0, toNat1, toNat2, Int.toNat_natCast, List.take_length, List.take_succ_cons, List.drop_succ_cons, List.drop_zero, List.take_zero, List.length_cons, List.length_nil, List.getD_cons_zero, i64_wrap, i32_wrap, u8_wrap, u32_wrap, tdN, tmN, i64_min, i64_max, u8_min, u8_max, decide_eq_true_eq, decide_eq_false_iff_not, beq_iff_eq, beq_eq_false_iff_ne, bne_iff_ne, bne_eq_false_iff_eq, ne_eq, not_false_eq_true, and_true, true_and, Int.zero_sub, beq_self_eq_true, Bool.not_true, hlz]
        repeat' apply And.intro
        all_goals first | exact True.intro | omega | with_reducible rfl | with_reducible assumption | (have := hbn hc86; omega) | (have := hll (lne hc33); omega) | exact hlast (lne hc33) | exact hx | exact hy | exact hE2 rfl | exact hV2 rfl | (rw [hst rfl, bne_eq_false_iff_eq]) | exact o1 rfl hc86 | exact o2 rfl hc86 (notb hc91) hc96 hc101 (notne hc115) | exact hE4 rfl | exact hp.trans (notb hc91) | exact hp.trans (notb2 hc91) | exact hp | (simp only [List.length_append, List.length_cons, List.length_nil]; omega) | (rw [hst rfl]; simp) | exact hs | exact hy | exact ht | exact hx | exact hlast | exact hlz | exact he | exact hE2 | exact hV2 | exact hst | exact hV3 | exact o1 | exact hp | exact hd | exact hE4 | exact hV4 | rfl
    | false =>
      cases hc91 : (!p : Bool) with
      | true =>
        cases hc96 : (decide (d < (0 : Int)) : Bool) with
        | true =>
          cases hc101 : ((↑(b.getD (Int.toNat (0 : Int)) (0 : UInt8)).toNat : Int) != (61 : Int) : Bool) with
          | true =>
            cases hc115 : (!(↑(b.getD (Int.toNat (0 : Int)) (0 : UInt8)).toNat : Int) != (59 : Int) : Bool) with
            | true =>
              have eR := names2C_2 l b s t e v v3 v4 p d
              refine ⟨_, _, eR.trans (congrArg (fun r => some (r, _)) ?_), ?_⟩
              · try clear eR
                rfl
              · try clear eR
                try simp only [decide_eq_true_eq, decide_eq_false_iff_not, beq_iff_eq, beq_eq_false_iff_ne, bne_iff_ne, bne_eq_false_iff_eq, ne_eq] at hc33
                try simp only [toNat0, toNat1, toNat2, Int.toNat_natCast, sb_mk] at hc33
                try simp only [decide_eq_true_eq, decide_eq_false_iff_not, beq_iff_eq, beq_eq_false_iff_ne, bne_iff_ne, bne_eq_false_iff_eq, ne_eq] at hc86
                try simp only [toNat0, toNat1, toNat2, Int.toNat_natCast, sb_mk] at hc86
                try simp only [decide_eq_true_eq, decide_eq_false_iff_not, beq_iff_eq, beq_eq_false_iff_ne, bne_iff_ne, bne_eq_false_iff_eq, ne_eq] at hc91
                try simp only [toNat0, toNat1, toNat2, Int.toNat_natCast, sb_mk] at hc91
                try simp only [decide_eq_true_eq, decide_eq_false_iff_not, beq_iff_eq, beq_eq_false_iff_ne, bne_iff_ne, bne_eq_false_iff_eq, ne_eq] at hc96
                try simp only [toNat0, toNat1, toNat2, Int.toNat_natCast, sb_mk] at hc96
                try simp only [decide_eq_true_eq, decide_eq_false_iff_not, beq_iff_eq, beq_eq_false_iff_ne, bne_iff_ne, bne_eq_false_iff_eq, ne_eq] at hc101
                try simp only [toNat0, toNat1, toNat2, Int.toNat_natCast, sb_mk] at hc101
                try simp only [decide_eq_true_eq, decide_eq_false_iff_not, beq_iff_eq, beq_eq_false_iff_ne, bne_iff_ne, bne_eq_false_iff_eq, ne_eq] at hc115
                try simp only [toNat0, toNat1, toNat2, Int.toNat_natCast, sb_mk] at hc115
                try simp (disch := omega) only [allP, sb_mk, sl1, toNat0, toNat1, toNat2, Int.toNat_natCast, List.take_length, List.take_succ_cons, List.drop_succ_cons, List.drop_zero, List.take_zero, List.length_cons, List.length_nil, List.getD_cons_zero, i64_wrap, i32_wrap, u8_wrap, u32_wrap, tdN, tmN, i64_min, i64_max, u8_min, u8_max, decide_eq_true_eq, decide_eq_false_iff_not, beq_iff_eq, beq_eq_false_iff_ne, bne_iff_ne, bne_eq_false_iff_eq, ne_eq, not_false_eq_true, and_true, true_and, Int.zero_sub, beq_self_eq_true, Bool.not_true, hlz]
                repeat' apply And.intro
                all_goals first | exact True.intro | omega | with_reducible rfl | with_reducible assumption | (have := hbn hc86; omega) | (have := hll (lne hc33); omega) | exact hlast (lne hc33) | exact hx | exact hy | exact hE2 rfl | exact hV2 rfl | (rw [hst rfl, bne_eq_false_iff_eq]) | exact o1 rfl hc86 | exact o2 rfl hc86 (notb hc91) hc96 hc101 (notne hc115) | exact hE4 rfl | exact hp.trans (notb hc91) | exact hp.trans (notb2 hc91) | exact hp | (simp only [List.length_append, List.length_cons, List.length_nil]; omega) | (rw [hst rfl]; simp) | exact hs | exact hy | exact ht | exact hx | exact hlast | exact hlz | exact he | exact hE2 | exact hV2 | exact hst | exact hV3 | exact o1 | exact hp | exact hd | exact hE4 | exact hV4 | rfl
            | false =>
              have eR := names2C_3 l b s t e v v3 v4 p d
              refine ⟨_, _, eR.trans (congrArg (fun r => some (r, _)) ?_), ?_⟩
              · try clear eR
                rfl
              · try clear eR
                try simp only [decide_eq_true_eq, decide_eq_false_iff_not, beq_iff_eq, beq_eq_false_iff_ne, bne_iff_ne, bne_eq_false_iff_eq, ne_eq] at hc33
                try simp only [toNat0, toNat1, toNat2, Int.toNat_natCast, sb_mk] at hc33
                try simp only [decide_eq_true_eq, decide_eq_false_iff_not, beq_iff_eq, beq_eq_false_iff_ne, bne_iff_ne, bne_eq_false_iff_eq, ne_eq] at hc86
                try simp only [toNat0, toNat1, toNat2, Int.toNat_natCast, sb_mk] at hc86
                try simp only [decide_eq_true_eq, decide_eq_false_iff_not, beq_iff_eq, beq_eq_false_iff_ne, bne_iff_ne, bne_eq_false_iff_eq, ne_eq] at hc91
                try simp only [toNat0, toNat1, toNat2, Int.toNat_natCast, sb_mk] at hc91
                try simp only [decide_eq_true_eq, decide_eq_false_iff_not, beq_iff_eq, beq_eq_false_iff_ne, bne_iff_ne, bne_eq_false_iff_eq, ne_eq] at hc96
                try simp only [toNat0, toNat1, toNat2, Int.toNat_natCast, sb_mk] at hc96
                try simp only [decide_eq_true_eq, decide_eq_false_iff_not, beq_iff_eq, beq_eq_false_iff_ne, bne_iff_ne, bne_eq_false_iff_eq, ne_eq] at hc101
                try simp only [toNat0, toNat1, toNat2, Int.toNat_natCast, sb_mk] at hc101
                try simp only [decide_eq_true_eq, decide_eq_false_iff_not, beq_iff_eq, beq_eq_false_iff_ne, bne_iff_ne, bne_eq_false_iff_eq, ne_eq] at hc115
                try simp only [toNat0, toNat1, toNat2, Int.toNat_natCast, sb_mk] at hc115
                try simp (disch := omega) only [allP, sb_mk, sl1, toNat0, toNat1, toNat2, Int.toNat_natCast, List.take_length, List.take_succ_cons, List.drop_succ_cons, List.drop_zero, List.take_zero, List.length_cons, List.length_nil, List.getD_cons_zero, i64_wrap, i32_wrap, u8_wrap, u32_wrap, tdN, tmN, i64_min, i64_max, u8_min, u8_max, decide_eq_true_eq, decide_eq_false_iff_not, beq_iff_eq, beq_eq_false_iff_ne, bne_iff_ne, bne_eq_false_iff_eq, ne_eq, not_false_eq_true, and_true, true_and, Int.zero_sub, beq_self_eq_true, Bool.not_true, hlz]
                repeat' apply And.intro
                all_goals first | exact True.intro | omega | with_reducible rfl | with_reducible assumption | (have := hbn hc86; omega) | (have := hll (lne hc33); omega) | exact hlast (lne hc33) | exact hx | exact hy | exact hE2 rfl | exact hV2 rfl | (rw [hst rfl, bne_eq_false_iff_eq]) | exact o1 rfl hc86 | exact o2 rfl hc86 (notb hc91) hc96 hc101 (notne hc115) | exact hE4 rfl | exact hp.trans (notb hc91) | exact hp.trans (notb2 hc91) | exact hp | (simp only [List.length_append, List.length_cons, List.length_nil]; omega) | (rw [hst rfl]; simp) | exact hs | exact hy | exact ht | exact hx | exact hlast | exact hlz | exact he | exact hE2 | exact hV2 | exact hst | exact hV3 | exact o1 | exact hp | exact hd | exact hE4 | exact hV4 | rfl
          | false =>
            have eR := names2C_4 l b s t e v v3 v4 p d
            refine ⟨_, _, eR.trans (congrArg (fun r => some (r, _)) ?_), ?_⟩
            · try clear eR
              rfl
            · try clear eR
              try simp only [decide_eq_true_eq, decide_eq_false_iff_not, beq_iff_eq, beq_eq_false_iff_ne, bne_iff_ne, bne_eq_false_iff_eq, ne_eq] at hc33
              try simp only [toNat0, toNat1, toNat2, Int.toNat_natCast, sb_mk] at hc33
              try simp only [decide_eq_true_eq, decide_eq_false_iff_not, beq_iff_eq, beq_eq_false_iff_ne, bne_iff_ne, bne_eq_false_iff_eq, ne_eq] at hc86
              try simp only [toNat0, toNat1, toNat2, Int.toNat_natCast, sb_mk] at hc86
              try simp only [decide_eq_true_eq, decide_eq_false_iff_not, beq_iff_eq, beq_eq_false_iff_ne, bne_iff_ne, bne_eq_false_iff_eq, ne_eq] at hc91
              try simp only [toNat0, toNat1, toNat2, Int.toNat_natCast, sb_mk] at hc91
              try simp only [decide_eq_true_eq, decide_eq_false_iff_not, beq_iff_eq, beq_eq_false_iff_ne, bne_iff_ne, bne_eq_false_iff_eq, ne_eq] at hc96
              try simp only [toNat0, toNat1, toNat2, Int.toNat_natCast, sb_mk] at hc96
              try simp only [decide_eq_true_eq, decide_eq_false_iff_not, beq_iff_eq, beq_eq_false_iff_ne, bne_iff_ne, bne_eq_false_iff_eq, ne_eq] at hc101
              try simp only [toNat0, toNat1, toNat2, Int.toNat_natCast, sb_mk] at hc101
              try simp (disch := omega) only [allP, sb_mk, sl1, toNat0, toNat1, toNat2, Int.toNat_natCast, List.take_length, List.take_succ_cons, List.drop_succ_cons, List.drop_zero, List.take_zero, List.length_cons, List.length_nil, List.getD_cons_zero, i64_wrap, i32_wrap, u8_wrap, u32_wrap, tdN, tmN, i64_min, i64_max, u8_min, u8_max, decide_eq_true_eq, decide_eq_false_iff_not, beq_iff_eq, beq_eq_false_iff_ne, bne_iff_ne, bne_eq_false_iff_eq, ne_eq, not_false_eq_true, and_true, true_and, Int.zero_sub, beq_self_eq_true, Bool.not_true, hlz]
              repeat' apply And.intro
              all_goals first | exact True.intro | omega | with_reducible rfl | with_reducible assumption | (have := hbn hc86; omega) | (have := hll (lne hc33); omega) | exact hlast (lne hc33) | exact hx | exact hy | exact hE2 rfl | exact hV2 rfl | (rw [hst rfl, bne_eq_false_iff_eq]) | exact o1 rfl hc86 | exact o2 rfl hc86 (notb hc91) hc96 hc101 (notne hc115) | exact hE4 rfl | exact hp.trans (notb hc91) | exact hp.trans (notb2 hc91) | exact hp | (simp only [List.length_append, List.length_cons, List.length_nil]; omega) | (rw [hst rfl]; simp) | exact hs | exact hy | exact ht | exact hx | exact hlast | exact hlz | exact he | exact hE2 | exact hV2 | exact hst | exact hV3 | exact o1 | exact hp | exact hd | exact hE4 | exact hV4 | rfl
        | false =>
          have eR := names2C_5 l b s t e v v3 v4 p d
          refine ⟨_, _, eR.trans (congrArg (fun r => some (r, _)) ?_), ?_⟩
          · try clear eR
            rfl
          · try clear eR
            try simp only [decide_eq_true_eq, decide_eq_false_iff_not, beq_iff_eq, beq_eq_false_iff_ne, bne_iff_ne, bne_eq_false_iff_eq, ne_eq] at hc33
            try simp only [toNat0, toNat1, toNat2, Int.toNat_natCast, sb_mk] at hc33
            try simp only [decide_eq_true_eq, decide_eq_false_iff_not, beq_iff_eq, beq_eq_false_iff_ne, bne_iff_ne, bne_eq_false_iff_eq, ne_eq] at hc86
            try simp only [toNat0, toNat1, toNat2, Int.toNat_natCast, sb_mk] at hc86
            try simp only [decide_eq_true_eq, decide_eq_false_iff_not, beq_iff_eq, beq_eq_false_iff_ne, bne_iff_ne, bne_eq_false_iff_eq, ne_eq] at hc91
            try simp only [toNat0, toNat1, toNat2, Int.toNat_natCast, sb_mk] at hc91
            try simp only [decide_eq_true_eq, decide_eq_false_iff_not, beq_iff_eq, beq_eq_false_iff_ne, bne_iff_ne, bne_eq_false_iff_eq, ne_eq] at hc96
            try simp only [toNat0, toNat1, toNat2, Int.toNat_natCast, sb_mk] at hc96
            try simp (disch := omega) only [allP, sb_mk, sl1, toNat0, toNat1, toNat2, Int.toNat_natCast, List.take_length, List.take_succ_cons, List.drop_succ_cons, List.drop_zero, List.take_zero, List.length_cons, List.length_nil, List.getD_cons_zero, i64_wrap, i32_wrap, u8_wrap, u32_wrap, tdN, tmN, i64_min, i64_max, u8_min, u8_max, decide_eq_true_eq, decide_eq_false_iff_not, beq_iff_eq, beq_eq_false_iff_ne, bne_iff_ne, bne_eq_false_iff_eq, ne_eq, not_false_eq_true, and_true, true_and, Int.zero_sub, beq_self_eq_true, Bool.not_true, hlz]
            repeat' apply And.intro
            all_goals first | exact True.intro | omega | with_reducible rfl | with_reducible assumption | (have := hbn hc86; omega) | (have := hll (lne hc33); omega) | exact hlast (lne hc33) | exact hx | exact hy | exact hE2 rfl | exact hV2 rfl | (rw [hst rfl, bne_eq_false_iff_eq]) | exact o1 rfl hc86 | exact o2 rfl hc86 (notb hc91) hc96 hc101 (notne hc115) | exact hE4 rfl | exact hp.trans (notb hc91) | exact hp.trans (notb2 hc91) | exact hp | (simp only [List.length_append, List.length_cons, List.length_nil]; omega) | (rw [hst rfl]; simp) | exact hs | exact hy | exact ht | exact hx | exact hlast | exact hlz | exact he | exact hE2 | exact hV2 | exact hst | exact hV3 | exact o1 | exact hp | exact hd | exact hE4 | exact hV4 | rfl
      | false =>
        have eR := names2C_6 l b s t e v v3 v4 p d
        refine ⟨_, _, eR.trans (congrArg (fun r => some (r, _)) ?_), ?_⟩
        · try clear eR
          rfl
        · try clear eR
          try simp only [decide_eq_true_eq, decide_eq_false_iff_not, beq_iff_eq, beq_eq_false_iff_ne, bne_iff_ne, bne_eq_false_iff_eq, ne_eq] at hc33
          try simp only [toNat0, toNat1, toNat2, Int.toNat_natCast, sb_mk] at hc33
          try simp only [decide_eq_true_eq, decide_eq_false_iff_not, beq_iff_eq, beq_eq_false_iff_ne, bne_iff_ne, bne_eq_false_iff_eq, ne_eq] at hc86
          try simp only [toNat0, toNat1, toNat2, Int.toNat_natCast, sb_mk] at hc86
          try simp only [decide_eq_true_eq, decide_eq_false_iff_not, beq_iff_eq, beq_eq_false_iff_ne, bne_iff_ne, bne_eq_false_iff_eq, ne_eq] at hc91
          try simp only [toNat0, toNat1, toNat2, Int.toNat_natCast, sb_mk] at hc91
          try simp (disch := omega) only [allP, sb_mk, sl1, toNat0, toNat1, toNat2, Int.toNat_natCast, List.take_length, List.take_succ_cons, List.drop_succ_cons, List.drop_zero, List.take_zero, List.length_cons, List.length_nil, List.getD_cons_zero, i64_wrap, i32_wrap, u8_wrap, u32_wrap, tdN, tmN, i64_min, i64_max, u8_min, u8_max, decide_eq_true_eq, decide_eq_false_iff_not, beq_iff_eq, beq_eq_false_iff_ne, bne_iff_ne, bne_eq_false_iff_eq, ne_eq, not_false_eq_true, and_true, true_and, Int.zero_sub, beq_self_eq_true, Bool.not_true, hlz]
          repeat' apply And.intro
          all_goals first | exact True.intro | omega | with_reducible rfl | with_reducible assumption | (have := hbn hc86; omega) | (have := hll (lne hc33); omega) | exact hlast (lne hc33) | exact hx | exact hy | exact hE2 rfl | exact hV2 rfl | (rw [hst rfl, bne_eq_false_iff_eq]) | exact o1 rfl hc86 | exact o2 rfl hc86 (notb hc91) hc96 hc101 (notne hc115) | exact hE4 rfl | exact hp.trans (notb hc91) | exact hp.trans (notb2 hc91) | exact hp | (simp only [List.length_append, List.length_cons, List.length_nil]; omega) | (rw [hst rfl]; simp) | exact hs | exact hy | exact ht | exact hx | exact hlast | exact hlz | exact he | exact hE2 | exact hV2 | exact hst | exact hV3 | exact o1 | exact hp | exact hd | exact hE4 | exact hV4 | rfl
  | false =>
    cases hc86 : (b == [] : Bool) with
    | true =>
      have eR := names2C_7 l b s t e v v3 v4 p d
      refine ⟨_, _, eR.trans (congrArg (fun r => some (r, _)) ?_), ?_⟩
      · try clear eR
        rfl
      · try clear eR
        try simp only [decide_eq_true_eq, decide_eq_false_iff_not, beq_iff_eq, beq_eq_false_iff_ne, bne_iff_ne, bne_eq_false_iff_eq, ne_eq] at hc33
        try simp only [toNat0, toNat1, toNat2, Int.toNat_natCast, sb_mk] at hc33
        try simp only [decide_eq_true_eq, decide_eq_false_iff_not, beq_iff_eq, beq_eq_false_iff_ne, bne_iff_ne, bne_eq_false_iff_eq, ne_eq] at hc86
        try simp only [toNat0, toNat1, toNat2, Int.toNat_natCast, sb_mk] at hc86
        try simp (disch := omega) only [allP, sb_mk, sl1, toNat0, toNat1, toNat2, Int.toNat_natCast, List.take_length, List.take_succ_cons, List.drop_succ_cons, List.drop_zero, List.take_zero, List.length_cons, List.length_nil, List.getD_cons_zero, i64_wrap, i32_wrap, u8_wrap, u32_wrap, tdN, tmN, i64_min, i64_max, u8_min, u8_max, decide_eq_true_eq, decide_eq_false_iff_not, beq_iff_eq, beq_eq_false_iff_ne, bne_iff_ne, bne_eq_false_iff_eq, ne_eq, not_false_eq_true, and_true, true_and, Int.zero_sub, beq_self_eq_true, Bool.not_true, hlz]
        repeat' apply And.intro
        all_goals first | exact True.intro | omega | with_reducible rfl | with_reducible assumption | (have := hbn hc86; omega) | (have := hll (lne hc33); omega) | exact hlast (lne hc33) | exact hx | exact hy | exact hE2 rfl | exact hV2 rfl | (rw [hst rfl, bne_eq_false_iff_eq]) | exact o1 rfl hc86 | exact o2 rfl hc86 (notb hc91) hc96 hc101 (notne hc115) | exact hE4 rfl | exact hp.trans (notb hc91) | exact hp.trans (notb2 hc91) | exact hp | (simp only [List.length_append, List.length_cons, List.length_nil]; omega) | (rw [hst rfl]; simp) | exact hs | exact hy | exact ht | exact hx | exact hlast | exact hlz | exact he | exact hE2 | exact hV2 | exact hst | exact hV3 | exact o1 | exact hp | exact hd | exact hE4 | exact hV4 | rfl
    | false =>
      cases hc91 : (!p : Bool) with
      | true =>
        cases hc96 : (decide (d < (0 : Int)) : Bool) with
        | true =>
          cases hc101 : ((↑(b.getD (Int.toNat (0 : Int)) (0 : UInt8)).toNat : Int) != (61 : Int) : Bool) with
          | true =>
            cases hc115 : (!(↑(b.getD (Int.toNat (0 : Int)) (0 : UInt8)).toNat : Int) != (59 : Int) : Bool) with
            | true =>
              have eR := names2C_8 l b s t e v v3 v4 p d
              refine ⟨_, _, eR.trans (congrArg (fun r => some (r, _)) ?_), ?_⟩
              · try clear eR
                rfl
              · try clear eR
                try simp only [decide_eq_true_eq, decide_eq_false_iff_not, beq_iff_eq, beq_eq_false_iff_ne, bne_iff_ne, bne_eq_false_iff_eq, ne_eq] at hc33
                try simp only [toNat0, toNat1, toNat2, Int.toNat_natCast, sb_mk] at hc33
                try simp only [decide_eq_true_eq, decide_eq_false_iff_not, beq_iff_eq, beq_eq_false_iff_ne, bne_iff_ne, bne_eq_false_iff_eq, ne_eq] at hc86
                try simp only [toNat0, toNat1, toNat2, Int.toNat_natCast, sb_mk] at hc86
                try simp only [decide_eq_true_eq, decide_eq_false_iff_not, beq_iff_eq, beq_eq_false_iff_ne, bne_iff_ne, bne_eq_false_iff_eq, ne_eq] at hc91
                try simp only [toNat0, toNat1, toNat2, Int.toNat_natCast, sb_mk] at hc91
                try simp only [decide_eq_true_eq, decide_eq_false_iff_not, beq_iff_eq, beq_eq_false_iff_ne, bne_iff_ne, bne_eq_false_iff_eq, ne_eq] at hc96
                try simp only [toNat0, toNat1, toNat2, Int.toNat_natCast, sb_mk] at hc96
                try simp only [decide_eq_true_eq, decide_eq_false_iff_not, beq_iff_eq, beq_eq_false_iff_ne, bne_iff_ne, bne_eq_false_iff_eq, ne_eq] at hc101
                try simp only [toNat0, toNat1, toNat2, Int.toNat_natCast, sb_mk] at hc101
                try simp only [decide_eq_true_eq, decide_eq_false_iff_not, beq_iff_eq, beq_eq_false_iff_ne, bne_iff_ne, bne_eq_false_iff_eq, ne_eq] at hc115
                try simp only [toNat0, toNat1, toNat2, Int.toNat_natCast, sb_mk] at hc115
                try simp (disch := omega) only [allP, sb_mk, sl1, toNat0, toNat1, toNat2, Int.toNat_natCast, List.take_length, List.take_succ_cons, List.drop_succ_cons, List.drop_zero, List.take_zero, List.length_cons, List.length_nil, List.getD_cons_zero, i64_wrap, i32_wrap, u8_wrap, u32_wrap, tdN, tmN, i64_min, i64_max, u8_min, u8_max, decide_eq_true_eq, decide_eq_false_iff_not, beq_iff_eq, beq_eq_false_iff_ne, bne_iff_ne, bne_eq_false_iff_eq, ne_eq, not_false_eq_true, and_true, true_and, Int.zero_sub, beq_self_eq_true, Bool.not_true, hlz]
                repeat' apply And.intro
                all_goals first | exact True.intro | omega | with_reducible rfl | with_reducible assumption | (have := hbn hc86; omega) | (have := hll (lne hc33); omega) | exact hlast (lne hc33) | exact hx | exact hy | exact hE2 rfl | exact hV2 rfl | (rw [hst rfl, bne_eq_false_iff_eq]) | exact o1 rfl hc86 | exact o2 rfl hc86 (notb hc91) hc96 hc101 (notne hc115) | exact hE4 rfl | exact hp.trans (notb hc91) | exact hp.trans (notb2 hc91) | exact hp | (simp only [List.length_append, List.length_cons, List.length_nil]; omega) | (rw [hst rfl]; simp) | exact hs | exact hy | exact ht | exact hx | exact hlast | exact hlz | exact he | exact hE2 | exact hV2 | exact hst | exact hV3 | exact o1 | exact hp | exact hd | exact hE4 | exact hV4 | rfl
            | false =>
              have eR := names2C_9 l b s t e v v3 v4 p d
              refine ⟨_, _, eR.trans (congrArg (fun r => some (r, _)) ?_), ?_⟩
              · try clear eR
                rfl
              · try clear eR
                try simp only [decide_eq_true_eq, decide_eq_false_iff_not, beq_iff_eq, beq_eq_false_iff_ne, bne_iff_ne, bne_eq_false_iff_eq, ne_eq] at hc33
                try simp only [toNat0, toNat1, toNat2, Int.toNat_natCast, sb_mk] at hc33
                try simp only [decide_eq_true_eq, decide_eq_false_iff_not, beq_iff_eq, beq_eq_false_iff_ne, bne_iff_ne, bne_eq_false_iff_eq, ne_eq] at hc86
                try simp only [toNat0, toNat1, toNat2, Int.toNat_natCast, sb_mk] at hc86
                try simp only [decide_eq_true_eq, decide_eq_false_iff_not, beq_iff_eq, beq_eq_false_iff_ne, bne_iff_ne, bne_eq_false_iff_eq, ne_eq] at hc91
                try simp only [toNat0, toNat1, toNat2, Int.toNat_natCast, sb_mk] at hc91
                try simp only [decide_eq_true_eq, decide_eq_false_iff_not, beq_iff_eq, beq_eq_false_iff_ne, bne_iff_ne, bne_eq_false_iff_eq, ne_eq] at hc96
                try simp only [toNat0, toNat1, toNat2, Int.toNat_natCast, sb_mk] at hc96
                try simp only [decide_eq_true_eq, decide_eq_false_iff_not, beq_iff_eq, beq_eq_false_iff_ne, bne_iff_ne, bne_eq_false_iff_eq, ne_eq] at hc101
                try simp only [toNat0, toNat1, toNat2, Int.toNat_natCast, sb_mk] at hc101
                try simp only [decide_eq_true_eq, decide_eq_false_iff_not, beq_iff_eq, beq_eq_false_iff_ne, bne_iff_ne, bne_eq_false_iff_eq, ne_eq] at hc115
                try simp only [toNat0, toNat1, toNat2, Int.toNat_natCast, sb_mk] at hc115
                try simp (disch := omega) only [allP, sb_mk, sl1, toNat0, toNat1, toNat2, Int.toNat_natCast, List.take_length, List.take_succ_cons, List.drop_succ_cons, List.drop_zero, List.take_zero, List.length_cons, List.length_nil, List.getD_cons_zero, i64_wrap, i32_wrap, u8_wrap, u32_wrap, tdN, tmN, i64_min, i64_max, u8_min, u8_max, decide_eq_true_eq, decide_eq_false_iff_not, beq_iff_eq, beq_eq_false_iff_ne, bne_iff_ne, bne_eq_false_iff_eq, ne_eq, not_false_eq_true, and_true, true_and, Int.zero_sub, beq_self_eq_true, Bool.not_true, hlz]
                repeat' apply And.intro
                all_goals first | exact True.intro | omega | with_reducible rfl | with_reducible assumption | (have := hbn hc86; omega) | (have := hll (lne hc33); omega) | exact hlast (lne hc33) | exact hx | exact hy | exact hE2 rfl | exact hV2 rfl | (rw [hst rfl, bne_eq_false_iff_eq]) | exact o1 rfl hc86 | exact o2 rfl hc86 (notb hc91) hc96 hc101 (notne hc115) | exact hE4 rfl | exact hp.trans (notb hc91) | exact hp.trans (notb2 hc91) | exact hp | (simp only [List.length_append, List.length_cons, List.length_nil]; omega) | (rw [hst rfl]; simp) | exact hs | exact hy | exact ht | exact hx | exact hlast | exact hlz | exact he | exact hE2 | exact hV2 | exact hst | exact hV3 | exact o1 | exact hp | exact hd | exact hE4 | exact hV4 | rfl
          | false =>
            have eR := names2C_10 l b s t e v v3 v4 p d
            refine ⟨_, _, eR.trans (congrArg (fun r => some (r, _)) ?_), ?_⟩
            · try clear eR
              rfl
            · try clear eR
              try simp only [decide_eq_true_eq, decide_eq_false_iff_not, beq_iff_eq, beq_eq_false_iff_ne, bne_iff_ne, bne_eq_false_iff_eq, ne_eq] at hc33
              try simp only [toNat0, toNat1, toNat2, Int.toNat_natCast, sb_mk] at hc33
              try simp only [decide_eq_true_eq, decide_eq_false_iff_not, beq_iff_eq, beq_eq_false_iff_ne, bne_iff_ne, bne_eq_false_iff_eq, ne_eq] at hc86
              try simp only [toNat0, toNat1, toNat2, Int.toNat_natCast, sb_mk] at hc86
              try simp only [decide_eq_true_eq, decide_eq_false_iff_not, beq_iff_eq, beq_eq_false_iff_ne, bne_iff_ne, bne_eq_false_iff_eq, ne_eq] at hc91
              try simp only [toNat0, toNat1, toNat2, Int.toNat_natCast, sb_mk] at hc91
              try simp only [decide_eq_true_eq, decide_eq_false_iff_not, beq_iff_eq, beq_eq_false_iff_ne, bne_iff_ne, bne_eq_false_iff_eq, ne_eq] at hc96
              try simp only [toNat0, toNat1, toNat2, Int.toNat_natCast, sb_mk] at hc96
              try simp only [decide_eq_true_eq, decide_eq_false_iff_not, beq_iff_eq, beq_eq_false_iff_ne, bne_iff_ne, bne_eq_false_iff_eq, ne_eq] at hc101
              try simp only [toNat0, toNat1, toNat2, Int.toNat_natCast, sb_mk] at hc101
              try simp (disch := omega) only [allP, sb_mk, sl1, toNat0, toNat1, toNat2, Int.toNat_natCast, List.take_length, List.take_succ_cons, List.drop_succ_cons, List.drop_zero, List.take_zero, List.length_cons, List.length_nil, List.getD_cons_zero, i64_wrap, i32_wrap, u8_wrap, u32_wrap, tdN, tmN, i64_min, i64_max, u8_min, u8_max, decide_eq_true_eq, decide_eq_false_iff_not, beq_iff_eq, beq_eq_false_iff_ne, bne_iff_ne, bne_eq_false_iff_eq, ne_eq, not_false_eq_true, and_true, true_and, Int.zero_sub, beq_self_eq_true, Bool.not_true, hlz]
              repeat' apply And.intro
              all_goals first | exact True.intro | omega | with_reducible rfl | with_reducible assumption | (have := hbn hc86; omega) | (have := hll (lne hc33); omega) | exact hlast (lne hc33) | exact hx | exact hy | exact hE2 rfl | exact hV2 rfl | (rw [hst rfl, bne_eq_false_iff_eq]) | exact o1 rfl hc86 | exact o2 rfl hc86 (notb hc91) hc96 hc101 (notne hc115) | exact hE4 rfl | exact hp.trans (notb hc91) | exact hp.trans (notb2 hc91) | exact hp | (simp only [List.length_append, List.length_cons, List.length_nil]; omega) | (rw [hst rfl]; simp) | exact hs | exact hy | exact ht | exact hx | exact hlast | exact hlz | exact he | exact hE2 | exact hV2 | exact hst | exact hV3 | exact o1 | exact hp | exact hd | exact hE4 | exact hV4 | rfl
        | false =>
          have eR := names2C_11 l b s t e v v3 v4 p d
          refine ⟨_, _, eR.trans (congrArg (fun r => some (r, _)) ?_), ?_⟩
          · try clear eR
            rfl
          · try clear eR
            try simp only [decide_eq_true_eq, decide_eq_false_iff_not, beq_iff_eq, beq_eq_false_iff_ne, bne_iff_ne, bne_eq_false_iff_eq, ne_eq] at hc33
            try simp only [toNat0, toNat1, toNat2, Int.toNat_natCast, sb_mk] at hc33
            try simp only [decide_eq_true_eq, decide_eq_false_iff_not, beq_iff_eq, beq_eq_false_iff_ne, bne_iff_ne, bne_eq_false_iff_eq, ne_eq] at hc86
            try simp only [toNat0, toNat1, toNat2, Int.toNat_natCast, sb_mk] at hc86
            try simp only [decide_eq_true_eq, decide_eq_false_iff_not, beq_iff_eq, beq_eq_false_iff_ne, bne_iff_ne, bne_eq_false_iff_eq, ne_eq] at hc91
            try simp only [toNat0, toNat1, toNat2, Int.toNat_natCast, sb_mk] at hc91
            try simp only [decide_eq_true_eq, decide_eq_false_iff_not, beq_iff_eq, beq_eq_false_iff_ne, bne_iff_ne, bne_eq_false_iff_eq, ne_eq] at hc96
            try simp only [toNat0, toNat1, toNat2, Int.toNat_natCast, sb_mk] at hc96
            try simp (disch := omega) only [allP, sb_mk, sl1, toNat0, toNat1, toNat2, Int.toNat_natCast, List.take_length, List.take_succ_cons, List.drop_succ_cons, List.drop_zero, List.take_zero, List.length_cons, List.length_nil, List.getD_cons_zero, i64_wrap, i32_wrap, u8_wrap, u32_wrap, tdN, tmN, i64_min, i64_max, u8_min, u8_max, decide_eq_true_eq, decide_eq_false_iff_not, beq_iff_eq, beq_eq_false_iff_ne, bne_iff_ne, bne_eq_false_iff_eq, ne_eq, not_false_eq_true, and_true, true_and, Int.zero_sub, beq_self_eq_true, Bool.not_true, hlz]
            repeat' apply And.intro
            all_goals first | exact True.intro | omega | with_reducible rfl | with_reducible assumption | (have := hbn hc86; omega) | (have := hll (lne hc33); omega) | exact hlast (lne hc33) | exact hx | exact hy | exact hE2 rfl | exact hV2 rfl | (rw [hst rfl, bne_eq_false_iff_eq]) | exact o1 rfl hc86 | exact o2 rfl hc86 (notb hc91) hc96 hc101 (notne hc115) | exact hE4 rfl | exact hp.trans (notb hc91) | exact hp.trans (notb2 hc91) | exact hp | (simp only [List.length_append, List.length_cons, List.length_nil]; omega) | (rw [hst rfl]; simp) | exact hs | exact hy | exact ht | exact hx | exact hlast | exact hlz | exact he | exact hE2 | exact hV2 | exact hst | exact hV3 | exact o1 | exact hp | exact hd | exact hE4 | exact hV4 | rfl
      | false =>
        have eR := names2C_12 l b s t e v v3 v4 p d
        refine ⟨_, _, eR.trans (congrArg (fun r => some (r, _)) ?_), ?_⟩
        · try clear eR
          rfl
        · try clear eR
          try simp only [decide_eq_true_eq, decide_eq_false_iff_not, beq_iff_eq, beq_eq_false_iff_ne, bne_iff_ne, bne_eq_false_iff_eq, ne_eq] at hc33
          try simp only [toNat0, toNat1, toNat2, Int.toNat_natCast, sb_mk] at hc33
          try simp only [decide_eq_true_eq, decide_eq_false_iff_not, beq_iff_eq, beq_eq_false_iff_ne, bne_iff_ne, bne_eq_false_iff_eq, ne_eq] at hc86
          try simp only [toNat0, toNat1, toNat2, Int.toNat_natCast, sb_mk] at hc86
          try simp only [decide_eq_true_eq, decide_eq_false_iff_not, beq_iff_eq, beq_eq_false_iff_ne, bne_iff_ne, bne_eq_false_iff_eq, ne_eq] at hc91
          try simp only [toNat0, toNat1, toNat2, Int.toNat_natCast, sb_mk] at hc91
          try simp (disch := omega) only [allP, sb_mk, sl1, toNat0, toNat1, toNat2, Int.toNat_natCast, List.take_length, List.take_succ_cons, List.drop_succ_cons, List.drop_zero, List.take_zero, List.length_cons, List.length_nil, List.getD_cons_zero, i64_wrap, i32_wrap, u8_wrap, u32_wrap, tdN, tmN, i64_min, i64_max, u8_min, u8_max, decide_eq_true_eq, decide_eq_false_iff_not, beq_iff_eq, beq_eq_false_iff_ne, bne_iff_ne, bne_eq_false_iff_eq, ne_eq, not_false_eq_true, and_true, true_and, Int.zero_sub, beq_self_eq_true, Bool.not_true, hlz]
          repeat' apply And.intro
          all_goals first | exact True.intro | omega | with_reducible rfl | with_reducible assumption | (have := hbn hc86; omega) | (have := hll (lne hc33); omega) | exact hlast (lne hc33) | exact hx | exact hy | exact hE2 rfl | exact hV2 rfl | (rw [hst rfl, bne_eq_false_iff_eq]) | exact o1 rfl hc86 | exact o2 rfl hc86 (notb hc91) hc96 hc101 (notne hc115) | exact hE4 rfl | exact hp.trans (notb hc91) | exact hp.trans (notb2 hc91) | exact hp | (simp only [List.length_append, List.length_cons, List.length_nil]; omega) | (rw [hst rfl]; simp) | exact hs | exact hy | exact ht | exact hx | exact hlast | exact hlz | exact he | exact hE2 | exact hV2 | exact hst | exact hV3 | exact o1 | exact hp | exact hd | exact hE4 | exact hV4 | rfl


theorem plain_law (a b : List UInt8) (c : UInt8) : ∃ hs lp fuel p, LpOK Ext0 Tryd.prog lp ∧ lawOut (aBody Tryd.prog clU hs lp fuel 7 [.c (str a), .c (str b), .c (.int .u8 (c.toNat : Nat))] []) = some (.c (.bool true), p) ∧ allP p := by
  by_cases h : (a.length : Int) > 300 ∨ (b.length : Int) > 300
  · obtain ⟨hh, p, e, hp⟩ := plain0_all a b (c.toNat : Nat) h
    exact ⟨_, _, _, _, lpBy_nil, e, hp⟩
  · rcases amp_cases a with hn | ⟨i, h1, h2, h3⟩
    · have ha := amp_none hn
      have le := ent_len b
      have le2 := ent_len ([c] ++ b)
      rw [List.length_append] at le2
      simp only [List.length_singleton] at le2
      obtain ⟨hh, p, e, hp⟩ := plain2_all a b _ _ _ _ c _ (by omega) (by omega) (ent_low a ha) (ent_app a b ha) rfl (by omega) rfl rfl c.toNat_lt rfl (by omega) rfl (fun hx h35 => by
        have := ent_ref (ref_none (c := c) b hx (by rintro rfl; exact h35 rfl))
        rw [List.drop_zero] at this
        exact this)
      exact ⟨_, _, _, _, lpBy_cons lpBy_nil List.nodup_nil (ap_none a b _ (by omega) hn), e, hp⟩
    · obtain ⟨hh, p, e, hp⟩ := plain1_all a b (c.toNat : Nat) (by omega) (by omega)
      exact ⟨_, _, _, _, lpBy_cons lpBy_nil List.nodup_nil (ap_some a b _ (by omega) i h1 h2 h3), e, hp⟩

theorem named_len100 (l : List UInt8) (h : l.length ≤ 60) : (namedF l).length ≤ 100 := by
  by_cases hv : namedF l = []
  · rw [hv]; simp
  · have := (named_len hv).2.2; omega
theorem nem {l : List UInt8} (h : (!(namedF l == [])) = true) : namedF l ≠ [] := by simpa using h

theorem names_law (l b : List UInt8) : ∃ hs lp fuel p, LpOK Ext0 Tryd.prog lp ∧ lawOut (aBody Tryd.prog clU hs lp fuel 6 [.c (str l), .c (str b)] []) = some (.c (.bool true), p) ∧ allP p := by
  by_cases h : (l.length : Int) > 50 ∨ (b.length : Int) > 200
  · obtain ⟨hh, p, e, hp⟩ := names0_all l b h
    exact ⟨_, _, _, _, lpBy_nil, e, hp⟩
  have g0 : l.length ≤ 50 := by omega
  have g1 : b.length ≤ 200 := by omega
  have le := ent_len b
  have l1 := named_len100 l (by omega)
  have l2 := named_len100 (l ++ [59]) (by simp; omega)
  cases hc : endC l with
  | true =>
    obtain ⟨m, rfl⟩ := endC_iff.1 hc
    have hml : (m ++ [59]).length - 1 = m.length := by simp
    obtain ⟨hh, p, e, hp⟩ := names1_all (m ++ [59]) b _ _ _ _ _ _ g0 g1 rfl rfl rfl rfl (by simp) (by simp) (by rw [hml, last_at]; rfl) (by simp) l1 rfl (by omega) rfl (fun hx => by
      have := ent_ref (ref_semi (m := m) b (nem hx))
      rw [List.drop_left] at this
      rw [← this]
      simp)
    exact ⟨_, _, _, _, lpBy_nil, e, hp⟩
  | false =>
    have hlast : ¬ l = [] → ¬ (((l.getD (l.length - 1) 0).toNat : Nat) : Int) = 59 := by
      intro hne
      have hg := getD_last l [] hne
      rw [List.append_nil] at hg
      have : l.getD (l.length - 1) 0 ≠ 59 := by
        intro e
        rw [hg] at e
        have this : endC l = true := endC_iff.2 ⟨l.dropLast, by rw [← e]; exact (List.dropLast_concat_getLast hne).symm⟩
        rw [hc] at this; cases this
      exact u8_ne (k := 59) (by decide) this
    have hE2 : (!(namedF (l ++ [59]) == [])) = true → entF ((([38] ++ l) ++ [59]) ++ b) = namedF (l ++ [59]) ++ entF b := by
      intro hy
      have := ent_ref (ref_semi (m := l) b (nem hy))
      rw [List.drop_left] at this
      rw [← this]
      simp
    have hst : (!(namedF l == [])) = true → namedF (l ++ [59]) = namedF l := by
      intro hx
      have hx := nem hx
      rw [named_bare hc] at hx ⊢
      rw [named_semi, if_neg hx]
    have hb1 : (!(namedF l == [])) = true → (∀ c r, b = c :: r → isL c = false ∧ c ≠ 59) → goesOn b = false → entF (([38] ++ l) ++ b) = namedF l ++ entF b := by
      intro hx hb hg
      have hr := ref_bare (b := b) hc (nem hx) hb
      rw [hg, if_neg (by simp)] at hr
      have := ent_ref hr
      rw [List.drop_left] at this
      exact this
    have o1 : (!(namedF l == [])) = true → b = [] → entF (([38] ++ l) ++ b) = namedF l ++ entF b := fun hx hb => hb1 hx (fun c r h => by rw [hb] at h; cases h) (by rw [hb]; rfl)
    have o2 : (!(namedF l == [])) = true → ¬ b = [] → isL (b.getD 0 0) = false → dg 10 (b.getD 0 0) < 0 → ¬ (((b.getD 0 0).toNat : Nat) : Int) = 61 → ¬ (((b.getD 0 0).toNat : Nat) : Int) = 59 → entF (([38] ++ l) ++ b) = namedF l ++ entF b := by
      intro hx hne k1 k2 k3 k4
      match b, hne, k1, k2, k3, k4, hb1 with
      | c :: r, _, k1, k2, k3, k4, hb1 =>
        simp only [List.getD_cons_zero] at k1 k2 k3 k4
        refine hb1 hx (fun d q h => ?_) ?_
        · obtain ⟨rfl, rfl⟩ := List.cons.inj h
          exact ⟨k1, by rintro rfl; exact k4 rfl⟩
        · show (isL c || decide (0 ≤ dg 10 c) || c == 61) = false
          rw [k1, decide_eq_false (by omega), beq_eq_false_iff_ne.2 (by rintro rfl; exact k3 rfl)]
          rfl
    have hE4 : (!(namedF l == [])) = true → entF ((([38] ++ l) ++ [61]) ++ b) = (([38] ++ l) ++ [61]) ++ entF b := by
      intro hx
      have hv := nem hx
      have hn : Nm l (namedF l) := by
        rcases named_some hv with ⟨n, _⟩ | ⟨m, rfl, _⟩
        · exact n
        · rw [endC_snoc] at hc; cases hc
      have hr := ref_bare (l := l) (b := 61 :: b) hc hv (fun d q h => by
        obtain ⟨rfl, rfl⟩ := List.cons.inj h
        exact ⟨by decide, by decide⟩)
      rw [show goesOn (61 :: b) = true from by unfold goesOn; simp, if_pos rfl] at hr
      have := ent_ref hr
      rw [List.drop_zero, show l ++ 61 :: b = (l ++ [61]) ++ b by simp, ent_app (l ++ [61]) b (by
        intro c hcm
        rcases List.mem_append.1 hcm with h | h
        · exact (isL_ne (hn.let_ c h)).2.2.1
        · obtain rfl : c = 61 := by simpa using h
          decide)] at this
      rw [show (([38] ++ l) ++ [61]) ++ b = 38 :: ((l ++ [61]) ++ b) by simp, this]
      simp
    have hlz : ((l.length : Int) - 1).toNat = l.length - 1 := by omega
    have fin : ∀ x y : Bool, (!(namedF l == [])) = x → (!(namedF (l ++ [59]) == [])) = y → (x = true → y = true) → ∃ hs lp fuel p, LpOK Ext0 Tryd.prog lp ∧ lawOut (aBody Tryd.prog clU hs lp fuel 6 [.c (str l), .c (str b)] []) = some (.c (.bool true), p) ∧ allP p := by
      intro x y hx hy hxy
      rw [hx] at hst o1 o2 hE4
      rw [hy] at hE2
      match x, y, hx, hy, hxy, hst, o1, o2, hE4, hE2 with
      | false, false, hx, hy, hxy, hst, o1, o2, hE4, hE2 =>
        obtain ⟨hh, p, e, hp⟩ := names2A_all l b _ _ _ _ _ _ _ _ g0 g1 rfl hy rfl hx (fun h => List.length_pos_iff.2 h) hlast hlz l2 l1 rfl (by omega) hE2 (fun _ => rfl) hst rfl o1 o2 rfl rfl (UInt8.toNat_lt _) (fun h => List.length_pos_iff.2 h) hE4 rfl
        exact ⟨_, _, _, _, lpBy_nil, e, hp⟩
      | false, true, hx, hy, hxy, hst, o1, o2, hE4, hE2 =>
        obtain ⟨hh, p, e, hp⟩ := names2B_all l b _ _ _ _ _ _ _ _ g0 g1 rfl hy rfl hx (fun h => List.length_pos_iff.2 h) hlast hlz l2 l1 rfl (by omega) hE2 (fun _ => rfl) hst rfl o1 o2 rfl rfl (UInt8.toNat_lt _) (fun h => List.length_pos_iff.2 h) hE4 rfl
        exact ⟨_, _, _, _, lpBy_nil, e, hp⟩
      | true, true, hx, hy, hxy, hst, o1, o2, hE4, hE2 =>
        obtain ⟨hh, p, e, hp⟩ := names2C_all l b _ _ _ _ _ _ _ _ g0 g1 rfl hy rfl hx (fun h => List.length_pos_iff.2 h) hlast hlz l2 l1 rfl (by omega) hE2 (fun _ => rfl) hst rfl o1 o2 rfl rfl (UInt8.toNat_lt _) (fun h => List.length_pos_iff.2 h) hE4 rfl
        exact ⟨_, _, _, _, lpBy_nil, e, hp⟩
      | true, false, hx, hy, hxy, hst, o1, o2, hE4, hE2 => exact absurd (hxy rfl) (by simp)
    exact fin _ _ rfl rfl (fun hx => by rw [hst hx]; exact hx)

end Go.Proofs.YtoikhiijgdkciaaDoor
