/- Signs as letters: the program's own numbers. -/
import Derived.Test.YtljgmgbjfjhjmaaPnyH
namespace Go.Proofs.Ytljgmgbjfjhjmaa
open Go.RowKit Pny
set_option linter.unusedVariables false
set_option linter.unusedSimpArgs false

theorem qwo_ok : SpecOK Try.prog 41 (byteSpec fun n => .int .i64 (woI n)) := byteSpec_ok mixed cl0_ok (by kernel_rfl)

noncomputable def qbd_X (j b : Nat) (h_ : List (Nat × Bool)) := outcome Try.prog 38 (aBody Try.prog cl0 ⟨true, bs h_ ++ ([(10, ⟨.c (.int .i64 (max (36 * (j + 1) - b) 1 : Int)), none⟩), (11, ⟨.c (.int .i64 (bnd j b)), none⟩)])⟩ (lpBy ([])) 60 38 ([.c (.int .i64 j), .c (.int .i64 b)]) ([]))

theorem qbd_1 (j b : Nat) : qbd_X j b [] = some ((AV.c ((Value.int .i64 ((↑(bnd j b) : Int))))), [(IntKind.i64.min : Int) ≤ ↑j + 1,
 (↑j + 1 : Int) ≤ IntKind.i64.max,
 (IntKind.i64.min : Int) ≤ 36 * (↑j + 1),
 (36 * (↑j + 1) : Int) ≤ IntKind.i64.max,
 (IntKind.i64.min : Int) ≤ 36 * (↑j + 1) - ↑b,
 (36 * (↑j + 1) - ↑b : Int) ≤ IntKind.i64.max,
 ((if (1 : Int) > (36 : Int) * ((↑j : Int) + (1 : Int)) - (↑b : Int) then (1 : Int) else (36 : Int) * ((↑j : Int) + (1 : Int)) - (↑b : Int) : Int)) = (max ((36 : Int) * ((↑j : Int) + (1 : Int)) - (↑b : Int)) (1 : Int)),
 ((if (26 : Int) < max ((36 : Int) * ((↑j : Int) + (1 : Int)) - (↑b : Int)) (1 : Int) then (26 : Int) else max ((36 : Int) * ((↑j : Int) + (1 : Int)) - (↑b : Int)) (1 : Int) : Int)) = ((↑(bnd j b) : Int))]) := by kernel_rfl

theorem qbd_all (j b : Nat) (hj : j ≤ 200000) (hb : b ≤ 100000) : ∃ (h : Hints) (p : List Prop), outcome Try.prog 38 (aBody Try.prog cl0 h (lpBy ([])) 60 38 ([.c (.int .i64 j), .c (.int .i64 b)]) ([])) = some (.c (.int .i64 (bnd j b)), p) ∧ allP p := by
  have eR := qbd_1 j b
  refine ⟨_, _, eR.trans (congrArg (fun r => some (r, _)) ?_), ?_⟩
  · rfl
  · try clear eR
    unfold bnd
    simp only [allP, i64_min, i64_max]
    repeat' apply And.intro
    all_goals first | exact True.intro | omega | (split <;> omega)

theorem qbnd_ok : SpecOK Try.prog 38 bndSpec := by
  refine spec_of mixed cl0_ok fun args r q hs hq => ?_
  unfold bndSpec at hs
  split at hs
  · rename_i j b
    simp only [Option.some.injEq, Prod.mk.injEq] at hs
    obtain ⟨rfl, rfl⟩ := hs
    simp only [allP, and_true] at hq ⊢
    obtain ⟨h0, h1, h2, h3⟩ := hq
    obtain ⟨j, rfl⟩ : ∃ k : Nat, j = (k : Int) := ⟨j.toNat, by omega⟩
    obtain ⟨b, rfl⟩ : ∃ k : Nat, b = (k : Int) := ⟨b.toNat, by omega⟩
    obtain ⟨hh, q, e, hp⟩ := qbd_all j b (by omega) (by omega)
    exact ⟨_, _, _, _, lpBy_nil, e, hp⟩
  · simp at hs

theorem okI_if (c : Int) (b : Bool) (h : b = true ↔ (0 ≤ c ∧ c < 55296) ∨ (57343 < c ∧ c ≤ 1114111)) : b = okI c := by
  rw [okI_eq, Bool.eq_iff_iff, h]
  simp only [Bool.and_eq_true, Bool.or_eq_true, decide_eq_true_eq]
  omega

theorem qsg_all (c : Int)  : ∃ (h : Hints) (p : List Prop), outcome Try.prog 16 (aBody Try.prog cl0 h (lpBy ([])) 60 16 ([.c (.int .i64 c)]) ([])) = some (.c (.bool (okI c)), p) ∧ allP p := by
  refine bcase (decide ((0 : Int) ≤ c)) (fun hc4 => bcase (decide (c < (55296 : Int))) (fun hc7 => ⟨⟨true, bs [(4, true), (7, true)]⟩, [decide ((0 : Int) ≤ c) = true,
 decide ((c : Int) < 55296) = true], Eq.trans (b := some ((AV.c ((Value.bool true))), _)) (by kernel_rfl) (congrArg (fun r => some (r, _)) ?_), ?_⟩)
    (fun hc7 => bcase (decide ((57343 : Int) < c)) (fun hc11 => ⟨⟨true, bs [(4, true), (7, false), (11, true)]⟩, [decide ((0 : Int) ≤ c) = true,
 decide ((c : Int) < 55296) = false,
 decide ((57343 : Int) < c) = true], Eq.trans (b := some ((AV.c ((Value.bool (decide (c ≤ (1114111 : Int)))))), _)) (by kernel_rfl) (congrArg (fun r => some (r, _)) ?_), ?_⟩)
    (fun hc11 => ⟨⟨true, bs [(4, true), (7, false), (11, false)]⟩, [decide ((0 : Int) ≤ c) = true,
 decide ((c : Int) < 55296) = false,
 decide ((57343 : Int) < c) = false], Eq.trans (b := some ((AV.c ((Value.bool false))), _)) (by kernel_rfl) (congrArg (fun r => some (r, _)) ?_), ?_⟩)))
    (fun hc4 => ⟨⟨true, bs [(4, false), (11, false)]⟩, [decide ((0 : Int) ≤ c) = false,
 decide ((57343 : Int) < c) = false], Eq.trans (b := some ((AV.c ((Value.bool false))), _)) (by kernel_rfl) (congrArg (fun r => some (r, _)) ?_), ?_⟩)
  all_goals try simp only [dz] at hc4
  all_goals try simp only [dz] at hc7
  all_goals try simp only [dz] at hc11
  any_goals (
    refine congrArg (fun b => AV.c (.bool b)) (okI_if c _ ?_)
    simp only [decide_eq_true_eq, Bool.or_eq_true, Bool.and_eq_true, true_iff, false_iff, Bool.false_eq_true]
    omega
    done)
  all_goals try simp (disch := omega) only [std]
  all_goals repeat' apply And.intro
  all_goals first | exact True.intro | omega | with_reducible rfl | with_reducible assumption | rfl

theorem qsg_ok : SpecOK Try.prog 16 signISpec := by
  refine spec_of mixed cl0_ok fun args r q hs hq => ?_
  unfold signISpec at hs
  split at hs
  · rename_i c
    simp only [Option.some.injEq, Prod.mk.injEq] at hs
    obtain ⟨rfl, rfl⟩ := hs
    simp only [allP, and_true] at hq ⊢
    obtain ⟨hh, q, e, hp⟩ := qsg_all c
    exact ⟨_, _, _, _, lpBy_nil, e, hp⟩
  · simp at hs

/-! A number whose digits stand first. -/
def qrSpec : Spec
  | [.c (.string s), .c (.int .i64 b)] => some (.tu [.c (.int .i64 (rdV (rdB b.toNat 0 1 0 (sb s))).1), .c (.int .i64 (rdV (rdB b.toNat 0 1 0 (sb s))).2), .c (.bool (rdB b.toNat 0 1 0 (sb s)).isSome)], [0 ≤ b, b ≤ 100000, (sb s).length ≤ 100000])
  | _ => none

noncomputable def clQr : CallT := aCall Try.prog (sgBy [(41, woSpec), (38, bndSpec)]) 500 8
theorem clQr_ok : CallOK Try.prog clQr := aCall_ok mixed (sgBy_cons qwo_ok (sgBy_cons qbnd_ok sgBy_nil)) 500 8

def qrS (l : List UInt8) (b a w j : Nat) : St := ⟨frame 43 [(0, .c (str l)), (1, .c (.int .i64 b)), (4, .c (.int .i64 a)), (7, .c (.int .i64 w)), (8, .c (.int .i64 j))], []⟩
def qrR (v k : Nat) (o : Bool) : St := ⟨frame 43 [(4, .c (.int .i64 v)), (5, .c (.int .i64 k)), (6, .c (.bool o))], []⟩

noncomputable def qrA_X (l : List UInt8) (b a w j d t a1 w1 : Nat) (h_ : List (Nat × Bool)) := roundOut (⟨[], [4, 5, 6], []⟩) (aCode Try.prog clQr ⟨true, bs h_ ++ (bs [(14, true), (22, true)] ++ [(20, ⟨.c (.int .i64 (-1)), none⟩), (27, ⟨.c (.int .i64 a1), none⟩), (32, ⟨.c (.int .i64 t), none⟩), (42, ⟨.c (.int .i64 w1), none⟩)])⟩ (lpBy ([])) 60 (lbody Try.prog 30 3) (qrS l b a w j))

theorem qrA_1 (l : List UInt8) (b a w j d t a1 w1 : Nat) : qrA_X l b a w j d t a1 w1 [] = some (.ret, qrR 0 0 false, [decide ((↑j : Int) < ↑l.length) = true,
 (0 : Int) ≤ ↑j,
 (↑j : Int) < ↑l.length,
 (((0 : Int) : Int) ≤ ((↑(l.getD j 0).toNat : Int))),
 (((↑(l.getD j 0).toNat : Int) : Int) < ((256 : Int))),
 ((woI (↑(l.getD j 0).toNat : Int) : Int)) = (-1),
 (true) = true]) := by kernel_rfl


noncomputable def qrB_X (l : List UInt8) (b a w j d t a1 w1 : Nat) (h_ : List (Nat × Bool)) := roundOut (⟨[], [4, 5, 6], []⟩) (aCode Try.prog clQr ⟨true, bs h_ ++ (bs [(14, true), (22, false), (29, true)] ++ [(20, ⟨.c (.int .i64 d), none⟩), (27, ⟨.c (.int .i64 a1), none⟩), (32, ⟨.c (.int .i64 t), none⟩), (42, ⟨.c (.int .i64 w1), none⟩)])⟩ (lpBy ([])) 60 (lbody Try.prog 30 3) (qrS l b a w j))

theorem qrB_1 (l : List UInt8) (b a w j d t a1 w1 : Nat) : qrB_X l b a w j d t a1 w1 [] = some (.ret, qrR 0 0 false, [decide ((↑j : Int) < ↑l.length) = true,
 (0 : Int) ≤ ↑j,
 (↑j : Int) < ↑l.length,
 (((0 : Int) : Int) ≤ ((↑(l.getD j 0).toNat : Int))),
 (((↑(l.getD j 0).toNat : Int) : Int) < ((256 : Int))),
 ((woI (↑(l.getD j 0).toNat : Int) : Int)) = ((↑d : Int)),
 (false) = false,
 (IntKind.i64.min : Int) ≤ ↑d * ↑w,
 (↑d * ↑w : Int) ≤ IntKind.i64.max,
 (IntKind.i64.min : Int) ≤ ↑a + ↑d * ↑w,
 (↑a + ↑d * ↑w : Int) ≤ IntKind.i64.max,
 (↑a + ↑d * ↑w : Int) = ↑a1,
 decide ((↑a1 : Int) > 2147483647) = true]) := by kernel_rfl


noncomputable def qrC_X (l : List UInt8) (b a w j d t a1 w1 : Nat) (h_ : List (Nat × Bool)) := roundOut (⟨[], [4, 5, 6], []⟩) (aCode Try.prog clQr ⟨true, bs h_ ++ (bs [(14, true), (22, false), (29, false), (35, true)] ++ [(20, ⟨.c (.int .i64 d), none⟩), (27, ⟨.c (.int .i64 a1), none⟩), (32, ⟨.c (.int .i64 t), none⟩), (42, ⟨.c (.int .i64 w1), none⟩)])⟩ (lpBy ([])) 60 (lbody Try.prog 30 3) (qrS l b a w j))

theorem qrC_1 (l : List UInt8) (b a w j d t a1 w1 : Nat) : qrC_X l b a w j d t a1 w1 [] = some (.ret, qrR a1 (j + 1) true, [decide ((↑j : Int) < ↑l.length) = true,
 (0 : Int) ≤ ↑j,
 (↑j : Int) < ↑l.length,
 (((0 : Int) : Int) ≤ ((↑(l.getD j 0).toNat : Int))),
 (((↑(l.getD j 0).toNat : Int) : Int) < ((256 : Int))),
 ((woI (↑(l.getD j 0).toNat : Int) : Int)) = ((↑d : Int)),
 (false) = false,
 (IntKind.i64.min : Int) ≤ ↑d * ↑w,
 (↑d * ↑w : Int) ≤ IntKind.i64.max,
 (IntKind.i64.min : Int) ≤ ↑a + ↑d * ↑w,
 (↑a + ↑d * ↑w : Int) ≤ IntKind.i64.max,
 (↑a + ↑d * ↑w : Int) = ↑a1,
 decide ((↑a1 : Int) > 2147483647) = false,
 (0 : Int) ≤ ↑j,
 (↑j : Int) ≤ 200000,
 (0 : Int) ≤ ↑b,
 (↑b : Int) ≤ 100000,
 (((↑(bnd j b) : Int) : Int)) = ((↑t : Int)),
 decide ((↑d : Int) < ↑t) = true,
 (IntKind.i64.min : Int) ≤ ↑j + 1,
 (↑j + 1 : Int) ≤ IntKind.i64.max]) := by kernel_rfl


noncomputable def qrD_X (l : List UInt8) (b a w j d t a1 w1 : Nat) (h_ : List (Nat × Bool)) := roundOut (⟨[], [0, 1, 4, 7, 8], []⟩) (aCode Try.prog clQr ⟨true, bs h_ ++ (bs [(14, true), (22, false), (29, false), (35, false)] ++ [(20, ⟨.c (.int .i64 d), none⟩), (27, ⟨.c (.int .i64 a1), none⟩), (32, ⟨.c (.int .i64 t), none⟩), (42, ⟨.c (.int .i64 w1), none⟩)])⟩ (lpBy ([])) 60 (lbody Try.prog 30 3) (qrS l b a w j))

theorem qrD_1 (l : List UInt8) (b a w j d t a1 w1 : Nat) : qrD_X l b a w j d t a1 w1 [] = some (.normal, qrS l b a1 w1 (j + 1), [decide ((↑j : Int) < ↑l.length) = true,
 (0 : Int) ≤ ↑j,
 (↑j : Int) < ↑l.length,
 (((0 : Int) : Int) ≤ ((↑(l.getD j 0).toNat : Int))),
 (((↑(l.getD j 0).toNat : Int) : Int) < ((256 : Int))),
 ((woI (↑(l.getD j 0).toNat : Int) : Int)) = ((↑d : Int)),
 (false) = false,
 (IntKind.i64.min : Int) ≤ ↑d * ↑w,
 (↑d * ↑w : Int) ≤ IntKind.i64.max,
 (IntKind.i64.min : Int) ≤ ↑a + ↑d * ↑w,
 (↑a + ↑d * ↑w : Int) ≤ IntKind.i64.max,
 (↑a + ↑d * ↑w : Int) = ↑a1,
 decide ((↑a1 : Int) > 2147483647) = false,
 (0 : Int) ≤ ↑j,
 (↑j : Int) ≤ 200000,
 (0 : Int) ≤ ↑b,
 (↑b : Int) ≤ 100000,
 (((↑(bnd j b) : Int) : Int)) = ((↑t : Int)),
 decide ((↑d : Int) < ↑t) = false,
 (IntKind.i64.min : Int) ≤ 36 - ↑t,
 (36 - ↑t : Int) ≤ IntKind.i64.max,
 (IntKind.i64.min : Int) ≤ ↑w * (36 - ↑t),
 (↑w * (36 - ↑t) : Int) ≤ IntKind.i64.max,
 (↑w * (36 - ↑t) : Int) = ↑w1,
 (IntKind.i64.min : Int) ≤ ↑j + 1,
 (↑j + 1 : Int) ≤ IntKind.i64.max]) := by kernel_rfl


noncomputable def qrZ_X (l : List UInt8) (b a w j d t a1 w1 : Nat) (h_ : List (Nat × Bool)) := roundOut (⟨[], [], []⟩) (aCode Try.prog clQr ⟨true, bs h_ ++ (bs [(14, false)] ++ [(20, ⟨.c (.int .i64 d), none⟩), (27, ⟨.c (.int .i64 a1), none⟩), (32, ⟨.c (.int .i64 t), none⟩), (42, ⟨.c (.int .i64 w1), none⟩)])⟩ (lpBy ([])) 60 (lbody Try.prog 30 3) (qrS l b a w j))

theorem qrZ_1 (l : List UInt8) (b a w j d t a1 w1 : Nat) : qrZ_X l b a w j d t a1 w1 [] = some (.exit 0, ⟨frame 43 [], []⟩, [decide ((↑j : Int) < ↑l.length) = false]) := by kernel_rfl

/-- Where the loop ends. -/
def qrEnd (b : Nat) : Nat → Nat → Nat → List UInt8 → Exit × St
  | _, _, _, [] => (.exit 0, ⟨frame 43 [], []⟩)
  | j, w, a, c :: r =>
    if wo c < 0 then (.ret, qrR 0 0 false)
    else if a + (wo c).toNat * w > 2147483647 then (.ret, qrR 0 0 false)
    else if (wo c).toNat < bnd j b then (.ret, qrR (a + (wo c).toNat * w) (j + 1) true)
    else qrEnd b (j + 1) (w * (36 - bnd j b)) (a + (wo c).toNat * w) r

theorem qrEnd_cons (b j w a : Nat) (c : UInt8) (r : List UInt8) : qrEnd b j w a (c :: r) = if wo c < 0 then (.ret, qrR 0 0 false)
    else if a + (wo c).toNat * w > 2147483647 then (.ret, qrR 0 0 false)
    else if (wo c).toNat < bnd j b then (.ret, qrR (a + (wo c).toNat * w) (j + 1) true)
    else qrEnd b (j + 1) (w * (36 - bnd j b)) (a + (wo c).toNat * w) r := rfl

theorem qrEnd_is (b : Nat) : ∀ (s : List UInt8) (j w a : Nat), (qrEnd b j w a s = (.exit 0, ⟨frame 43 [], []⟩) ∧ rdB b j w a s = none) ∨ (qrEnd b j w a s = (.ret, qrR 0 0 false) ∧ rdB b j w a s = none) ∨ ∃ v k, qrEnd b j w a s = (.ret, qrR v (k + j) true) ∧ rdB b j w a s = some (v, k)
  | [], j, w, a => .inl ⟨rfl, rfl⟩
  | c :: r, j, w, a => by
    rw [qrEnd_cons, rdB_cons]
    split
    · exact .inr (.inl ⟨rfl, rfl⟩)
    · split
      · exact .inr (.inl ⟨rfl, rfl⟩)
      · split
        · exact .inr (.inr ⟨_, 1, by rw [Nat.add_comm 1 j], rfl⟩)
        · rcases qrEnd_is b r (j + 1) (w * (36 - bnd j b)) (a + (wo c).toNat * w) with ⟨e1, e2⟩ | ⟨e1, e2⟩ | ⟨v, k, e1, e2⟩
          · rw [e1, e2]; exact .inl ⟨rfl, rfl⟩
          · rw [e1, e2]; exact .inr (.inl ⟨rfl, rfl⟩)
          · rw [e1, e2]; exact .inr (.inr ⟨v, k + 1, by rw [show k + (j + 1) = k + 1 + j by omega], rfl⟩)

theorem qr_walk (b : Nat) (hb : b ≤ 100000) (l : List UInt8) (hl : l.length ≤ 100000) : Tri Ext0 Try.prog (.loop (lbody Try.prog 30 3)) (qrS l b 0 1 0) (qrEnd b 0 1 0 l).1 (qrEnd b 0 1 0 l).2 := by
  refine loop_inv mixed clQr_ok (fun x : Nat × Nat × Nat => qrS l b x.1 x.2.1 x.2.2) (fun x => x.2.2 ≤ l.length ∧ x.1 ≤ 2147483647 ∧ x.2.1 ≤ 75161927680 ∧ qrEnd b x.2.2 x.2.1 x.1 (l.drop x.2.2) = qrEnd b 0 1 0 l) (fun x => l.length - x.2.2) (fun x hx => ?_) (0, 1, 0) ⟨Nat.zero_le _, by simp, by simp, rfl⟩
  obtain ⟨a, w, j⟩ := x
  obtain ⟨h1, h2, h3, h4⟩ := hx
  simp only at h1 h2 h3 h4 ⊢
  by_cases hj : j < l.length
  · rw [drop_cons l j hj, qrEnd_cons] at h4
    have h5 := (l.getD j 0).toNat_lt
    obtain ⟨t1, t2⟩ := bnd_bd j b
    obtain ⟨w1, w2⟩ := wo_bd (l.getD j 0)
    have hwo : woI (((l.getD j 0).toNat : Nat) : Int) = wo (l.getD j 0) := rfl
    by_cases c1 : wo (l.getD j 0) < 0
    · rw [if_pos c1] at h4
      rw [← h4]
      refine .inr ⟨by simp, _, _, _, _, _, lpBy_nil, by decide, qrA_1 l b a w j 0 0 0 0, ?_⟩
      simp only [allP, and_true, decide_eq_true_eq, Int.toNat_natCast, hwo]
      repeat' apply And.intro
      all_goals first | exact True.intro | omega | rfl
    · rw [if_neg c1] at h4
      obtain ⟨d, hd⟩ : ∃ d : Nat, wo (l.getD j 0) = d := ⟨(wo (l.getD j 0)).toNat, by omega⟩
      rw [hd, Int.toNat_natCast] at h4
      have hd35 : d ≤ 35 := by omega
      have hdw : d * w ≤ 35 * 75161927680 := Nat.mul_le_mul hd35 h3
      have e1 : ((d : Int) * (w : Int)) = ((d * w : Nat) : Int) := by simp
      generalize hp : d * w = p at *
      by_cases c2 : a + p > 2147483647
      · rw [if_pos c2] at h4
        rw [← h4]
        refine .inr ⟨by simp, _, _, _, _, _, lpBy_nil, by decide, qrB_1 l b a w j d 0 (a + p) 0, ?_⟩
        simp only [allP, and_true, decide_eq_true_eq, decide_eq_false_iff_not, Int.toNat_natCast, hwo, hd, e1, i64_min, i64_max]
        repeat' apply And.intro
        all_goals first | exact True.intro | omega | rfl
      · rw [if_neg c2] at h4
        by_cases c3 : d < bnd j b
        · rw [if_pos c3] at h4
          rw [← h4]
          refine .inr ⟨by simp, _, _, _, _, _, lpBy_nil, by decide, qrC_1 l b a w j d (bnd j b) (a + p) 0, ?_⟩
          simp only [allP, and_true, decide_eq_true_eq, decide_eq_false_iff_not, Int.toNat_natCast, hwo, hd, e1, i64_min, i64_max]
          repeat' apply And.intro
          all_goals first | exact True.intro | omega | rfl
        · rw [if_neg c3] at h4
          have hd1 : 1 ≤ d := by omega
          have hwp : w ≤ p := by rw [← hp]; exact Nat.le_mul_of_pos_left _ hd1
          have hww : w * (36 - bnd j b) ≤ 2147483647 * 35 := Nat.mul_le_mul (by omega) (by omega)
          have e2 : ((w : Int) * (36 - (bnd j b : Int))) = ((w * (36 - bnd j b) : Nat) : Int) := by
            rw [show (36 - (bnd j b : Int)) = ((36 - bnd j b : Nat) : Int) by omega]
            simp
          generalize hq : w * (36 - bnd j b) = q at *
          refine .inl ⟨(a + p, q, j + 1), ⟨hj, by simp only; omega, by simp only; omega, h4⟩, by simp only; omega, _, _, _, _, _, lpBy_nil, by decide, qrD_1 l b a w j d (bnd j b) (a + p) q, ?_⟩
          simp only [allP, and_true, decide_eq_true_eq, decide_eq_false_iff_not, Int.toNat_natCast, hwo, hd, e1, e2, i64_min, i64_max]
          repeat' apply And.intro
          all_goals first | exact True.intro | omega | rfl
  · rw [List.drop_of_length_le (by omega)] at h4
    rw [← h4]
    refine .inr ⟨by simp [qrEnd], _, _, _, _, _, lpBy_nil, by decide, qrZ_1 l b a w j 0 0 0 0, ?_⟩
    simp only [allP, and_true, decide_eq_false_iff_not]
    omega

noncomputable def qrLp (l : List UInt8) (b : Nat) (e : Exit) (R : St) : List (Nat × Lp) := [(3, ⟨lbody Try.prog 30 3, ⟨[], [0, 1, 4, 7, 8], []⟩, qrS l b 0 1 0, e, R⟩)]

noncomputable def qrm1_X (l : List UInt8) (b v k : Nat) (o : Bool) (h_ : List (Nat × Bool)) := outcome Try.prog 30 (aBody Try.prog clQr ⟨true, bs h_ ++ ([])⟩ (lpBy (qrLp l b (.exit 0) ⟨frame 43 [], []⟩)) 60 30 ([.c (str l), .c (.int .i64 b)]) ([]))

theorem qrm1_1 (l : List UInt8) (b v k : Nat) (o : Bool) : qrm1_X l b v k o [] = some ((AV.tu [(AV.c ((Value.int .i64 0))),
 (AV.c ((Value.int .i64 0))),
 (AV.c ((Value.bool false)))]), [((lbody Try.prog (30 : FuncId) (3 : Nat) : Go.Code)) = (lbody Try.prog (30 : FuncId) (3 : Nat)),
 ((qrS l b (0 : Nat) (1 : Nat) (0 : Nat) : Go.Proofs.Ytljgmgbjfjhjmaa.St)) = (qrS l b (0 : Nat) (1 : Nat) (0 : Nat))]) := by kernel_rfl

theorem qrm1_all (l : List UInt8) (b v k : Nat) (o : Bool)  : ∃ (h : Hints) (p : List Prop), outcome Try.prog 30 (aBody Try.prog clQr h (lpBy (qrLp l b (.exit 0) ⟨frame 43 [], []⟩)) 60 30 ([.c (str l), .c (.int .i64 b)]) ([])) = some (.tu [.c (.int .i64 0), .c (.int .i64 0), .c (.bool false)], p) ∧ allP p := by
  have eR := qrm1_1 l b v k o
  refine ⟨_, _, eR.trans (congrArg (fun r => some (r, _)) ?_), ?_⟩
  · rfl
  · try simp only [dz] at *
    try simp (disch := omega) only [std, bytesOK_cons, bytesOK_nil]
    repeat' apply And.intro
    all_goals first | exact True.intro | omega | assumption | rfl | exact avEq_refl _


noncomputable def qrm2_X (l : List UInt8) (b v k : Nat) (o : Bool) (h_ : List (Nat × Bool)) := outcome Try.prog 30 (aBody Try.prog clQr ⟨true, bs h_ ++ ([])⟩ (lpBy (qrLp l b .ret (qrR v k o))) 60 30 ([.c (str l), .c (.int .i64 b)]) ([]))

theorem qrm2_1 (l : List UInt8) (b v k : Nat) (o : Bool) : qrm2_X l b v k o [] = some ((AV.tu [(AV.c ((Value.int .i64 ((↑v : Int))))),
 (AV.c ((Value.int .i64 ((↑k : Int))))),
 (AV.c ((Value.bool o)))]), [((lbody Try.prog (30 : FuncId) (3 : Nat) : Go.Code)) = (lbody Try.prog (30 : FuncId) (3 : Nat)),
 ((qrS l b (0 : Nat) (1 : Nat) (0 : Nat) : Go.Proofs.Ytljgmgbjfjhjmaa.St)) = (qrS l b (0 : Nat) (1 : Nat) (0 : Nat))]) := by kernel_rfl

theorem qrm2_all (l : List UInt8) (b v k : Nat) (o : Bool)  : ∃ (h : Hints) (p : List Prop), outcome Try.prog 30 (aBody Try.prog clQr h (lpBy (qrLp l b .ret (qrR v k o))) 60 30 ([.c (str l), .c (.int .i64 b)]) ([])) = some (.tu [.c (.int .i64 v), .c (.int .i64 k), .c (.bool o)], p) ∧ allP p := by
  have eR := qrm2_1 l b v k o
  refine ⟨_, _, eR.trans (congrArg (fun r => some (r, _)) ?_), ?_⟩
  · rfl
  · try simp only [dz] at *
    try simp (disch := omega) only [std, bytesOK_cons, bytesOK_nil]
    repeat' apply And.intro
    all_goals first | exact True.intro | omega | assumption | rfl | exact avEq_refl _

theorem qrd_ok : SpecOK Try.prog 30 qrSpec := by
  refine spec_of mixed clQr_ok fun args r q hs hq => ?_
  unfold qrSpec at hs
  split at hs
  · rename_i l b
    simp only [Option.some.injEq, Prod.mk.injEq] at hs
    obtain ⟨rfl, rfl⟩ := hs
    obtain ⟨⟨⟨l⟩⟩, rfl⟩ : ∃ b : ByteArray, b = l := ⟨l, rfl⟩
    simp only [sb_mk, allP, and_true] at hq ⊢
    obtain ⟨h0, h1, h2⟩ := hq
    obtain ⟨b, rfl⟩ : ∃ k : Nat, b = (k : Int) := ⟨b.toNat, by omega⟩
    rw [Int.toNat_natCast]
    have hw := qr_walk b (by omega) l h2
    rcases qrEnd_is b l 0 1 0 with ⟨e1, e2⟩ | ⟨e1, e2⟩ | ⟨v, k, e1, e2⟩
    · rw [e1] at hw
      rw [e2]
      obtain ⟨hh, p, e, hp⟩ := qrm1_all l b 0 0 false
      exact ⟨_, _, _, _, lpBy_cons lpBy_nil List.nodup_nil hw, e, hp⟩
    · rw [e1] at hw
      rw [e2]
      obtain ⟨hh, p, e, hp⟩ := qrm2_all l b 0 0 false
      exact ⟨_, _, _, _, lpBy_cons lpBy_nil List.nodup_nil hw, e, hp⟩
    · rw [e1] at hw
      rw [e2]
      obtain ⟨hh, p, e, hp⟩ := qrm2_all l b v k true
      exact ⟨_, _, _, _, lpBy_cons lpBy_nil List.nodup_nil hw, e, hp⟩
  · simp at hs

end Go.Proofs.Ytljgmgbjfjhjmaa
