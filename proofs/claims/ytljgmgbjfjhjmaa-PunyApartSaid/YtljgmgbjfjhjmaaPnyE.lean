/- Signs as letters: the document's own numbers. -/
import Derived.Test.YtljgmgbjfjhjmaaPnyD
namespace Go.Proofs.Ytljgmgbjfjhjmaa
open Go.RowKit Pny
set_option linter.unusedVariables false
set_option linter.unusedSimpArgs false

/-! What a digit is worth; bounds; signs. -/
noncomputable def clWd : CallT := aCall Try.prog (sgBy [(50, digitSpec)]) 500 8

theorem clWd_ok : CallOK Try.prog clWd := aCall_ok mixed (sgBy_cons rdigit_ok sgBy_nil) 500 8

/-- What a digit is worth, by its number. -/
def woI (n : Int) : Int := if digitI n 36 ≥ 10 then digitI n 36 - 10 else if digitI n 36 ≥ 0 then digitI n 36 + 26 else -1

theorem woI_at (c : UInt8) : woI ((c.toNat : Nat) : Int) = wo c := rfl

def woSpec : Spec := byteSpec fun n => .int .i64 (woI n)

theorem rwo_all (n d : Int) (h0 : 0 ≤ n) (h1 : n < 256) (hd : digitI n 36 = d) (d0 : -1 ≤ d) (d1 : d ≤ 35) : ∃ (h : Hints) (p : List Prop), outcome Try.prog 44 (aBody Try.prog clWd h (lpBy ([])) 60 44 ([.c (.int .u8 n)]) ([])) = some (.c (.int .i64 (woI n)), p) ∧ allP p := by
  refine bcase (decide (d ≥ (10 : Int))) (fun hc7 => ⟨⟨true, bs [(7, true)] ++ ([(5, ⟨.c (.int .i64 d), none⟩)])⟩, [(0 : Int) ≤ n,
 (n : Int) < 256,
 ((digitI n (36 : Int) : Int)) = (d),
 decide ((d : Int) ≥ 10) = true,
 (IntKind.i64.min : Int) ≤ d - 10,
 (d - 10 : Int) ≤ IntKind.i64.max], Eq.trans (b := some ((AV.c ((Value.int .i64 (d - (10 : Int))))), _)) (by kernel_rfl) (congrArg (fun r => some (r, _)) ?_), ?_⟩)
    (fun hc7 => bcase (decide (d ≥ (0 : Int))) (fun hc11 => ⟨⟨true, bs [(7, false), (11, true)] ++ ([(5, ⟨.c (.int .i64 d), none⟩)])⟩, [(0 : Int) ≤ n,
 (n : Int) < 256,
 ((digitI n (36 : Int) : Int)) = (d),
 decide ((d : Int) ≥ 10) = false,
 decide ((d : Int) ≥ 0) = true,
 (IntKind.i64.min : Int) ≤ d + 26,
 (d + 26 : Int) ≤ IntKind.i64.max], Eq.trans (b := some ((AV.c ((Value.int .i64 (d + (26 : Int))))), _)) (by kernel_rfl) (congrArg (fun r => some (r, _)) ?_), ?_⟩)
    (fun hc11 => ⟨⟨true, bs [(7, false), (11, false)] ++ ([(5, ⟨.c (.int .i64 d), none⟩)])⟩, [(0 : Int) ≤ n,
 (n : Int) < 256,
 ((digitI n (36 : Int) : Int)) = (d),
 decide ((d : Int) ≥ 10) = false,
 decide ((d : Int) ≥ 0) = false], Eq.trans (b := some ((AV.c ((Value.int .i64 (-1)))), _)) (by kernel_rfl) (congrArg (fun r => some (r, _)) ?_), ?_⟩))
  all_goals try simp only [dz] at hc7
  all_goals try simp only [dz] at hc11
  any_goals (
    unfold woI
    rw [hd]
    first
      | (rw [if_pos hc7]; done)
      | (rw [if_neg hc7, if_pos hc11]; done)
      | (rw [if_neg hc7, if_neg hc11]; done)
    done)
  all_goals try simp (disch := omega) only [std]
  all_goals repeat' apply And.intro
  all_goals first | exact True.intro | omega | with_reducible rfl | with_reducible assumption | exact hd | rfl

theorem digit_bd (n : Int) : -1 ≤ digitI n 36 ∧ digitI n 36 ≤ 35 := by
  unfold digitI worthI
  repeat' split
  all_goals omega

theorem pwo_ok : SpecOK Try.prog 44 woSpec := by
  refine spec_of mixed clWd_ok fun args r q hs hq => ?_
  unfold woSpec byteSpec at hs
  split at hs
  · rename_i n
    simp only [Option.some.injEq, Prod.mk.injEq] at hs
    obtain ⟨rfl, rfl⟩ := hs
    obtain ⟨h0, h1, _⟩ := hq
    obtain ⟨hh, q, e, hp⟩ := rwo_all n _ h0 h1 rfl (digit_bd n).1 (digit_bd n).2
    exact ⟨_, _, _, _, lpBy_nil, e, hp⟩
  · simp at hs

def bndSpec : Spec
  | [.c (.int .i64 j), .c (.int .i64 b)] => some (.c (.int .i64 (bnd j.toNat b.toNat)), [0 ≤ j, j ≤ 200000, 0 ≤ b, b ≤ 100000])
  | _ => none

noncomputable def rbd_X (j b : Nat) (h_ : List (Nat × Bool)) := outcome Try.prog 39 (aBody Try.prog cl0 ⟨true, bs h_ ++ ([(10, ⟨.c (.int .i64 (min 26 (36 * (j + 1) - b) : Int)), none⟩), (11, ⟨.c (.int .i64 (bnd j b)), none⟩)])⟩ (lpBy ([])) 60 39 ([.c (.int .i64 j), .c (.int .i64 b)]) ([]))

theorem rbd_1 (j b : Nat) : rbd_X j b [] = some ((AV.c ((Value.int .i64 ((↑(bnd j b) : Int))))), [(IntKind.i64.min : Int) ≤ ↑j + 1,
 (↑j + 1 : Int) ≤ IntKind.i64.max,
 (IntKind.i64.min : Int) ≤ 36 * (↑j + 1),
 (36 * (↑j + 1) : Int) ≤ IntKind.i64.max,
 (IntKind.i64.min : Int) ≤ 36 * (↑j + 1) - ↑b,
 (36 * (↑j + 1) - ↑b : Int) ≤ IntKind.i64.max,
 ((if (36 : Int) * ((↑j : Int) + (1 : Int)) - (↑b : Int) < (26 : Int) then (36 : Int) * ((↑j : Int) + (1 : Int)) - (↑b : Int) else (26 : Int) : Int)) = (min (26 : Int) ((36 : Int) * ((↑j : Int) + (1 : Int)) - (↑b : Int))),
 ((if min (26 : Int) ((36 : Int) * ((↑j : Int) + (1 : Int)) - (↑b : Int)) > (1 : Int) then min (26 : Int) ((36 : Int) * ((↑j : Int) + (1 : Int)) - (↑b : Int)) else (1 : Int) : Int)) = ((↑(bnd j b) : Int))]) := by kernel_rfl

theorem rbd_all (j b : Nat) (hj : j ≤ 200000) (hb : b ≤ 100000) : ∃ (h : Hints) (p : List Prop), outcome Try.prog 39 (aBody Try.prog cl0 h (lpBy ([])) 60 39 ([.c (.int .i64 j), .c (.int .i64 b)]) ([])) = some (.c (.int .i64 (bnd j b)), p) ∧ allP p := by
  have eR := rbd_1 j b
  refine ⟨_, _, eR.trans (congrArg (fun r => some (r, _)) ?_), ?_⟩
  · rfl
  · try clear eR
    unfold bnd
    simp only [allP, i64_min, i64_max]
    repeat' apply And.intro
    all_goals first | exact True.intro | omega | (split <;> omega)

theorem rbnd_ok : SpecOK Try.prog 39 bndSpec := by
  refine spec_of mixed cl0_ok fun args r q hs hq => ?_
  unfold bndSpec at hs
  split at hs
  · rename_i j b
    simp only [Option.some.injEq, Prod.mk.injEq] at hs
    obtain ⟨rfl, rfl⟩ := hs
    simp only [allP, and_true] at hq ⊢
    obtain ⟨h0, h1, h2, h3⟩ := hq
    obtain ⟨j, rfl⟩ : ∃ k : Nat, j = (k : Int) := ⟨j.toNat, by omega⟩
    obtain ⟨b, rfl⟩ : ∃ k : Nat, b = (k : Int) := ⟨b.toNat, by omega⟩
    obtain ⟨hh, q, e, hp⟩ := rbd_all j b (by omega) (by omega)
    exact ⟨_, _, _, _, lpBy_nil, e, hp⟩
  · simp at hs

/-- Is a number a sign? -/
def okI (c : Int) : Bool := decide (0 ≤ c) && okC c.toNat
def signISpec : Spec
  | [.c (.int .i64 c)] => some (.c (.bool (okI c)), [])
  | _ => none

theorem okI_eq (c : Int) : okI c = (decide (c ≥ 0) && (decide (c ≤ 1114111) && (decide (c < 55296) || decide (c > 57343)))) := by
  rw [Bool.eq_iff_iff]
  unfold okI okC
  simp only [Bool.and_eq_true, Bool.or_eq_true, Bool.not_eq_true', Bool.and_eq_false_iff, decide_eq_true_eq, decide_eq_false_iff_not]
  omega

theorem rsg_all (c : Int)  : ∃ (h : Hints) (p : List Prop), outcome Try.prog 25 (aBody Try.prog cl0 h (lpBy ([])) 60 25 ([.c (.int .i64 c)]) ([])) = some (.c (.bool (okI c)), p) ∧ allP p := by
  refine bcase (decide (c ≥ (0 : Int))) (fun hc4 => bcase (decide (c ≤ (1114111 : Int))) (fun hc7 => bcase (decide (c < (55296 : Int))) (fun hc11 => ⟨⟨true, bs [(4, true), (7, true), (11, true)]⟩, [decide ((c : Int) ≥ 0) = true,
 decide ((c : Int) ≤ 1114111) = true,
 decide ((c : Int) < 55296) = true], Eq.trans (b := some ((AV.c ((Value.bool true))), _)) (by kernel_rfl) (congrArg (fun r => some (r, _)) ?_), ?_⟩)
    (fun hc11 => ⟨⟨true, bs [(4, true), (7, true), (11, false)]⟩, [decide ((c : Int) ≥ 0) = true,
 decide ((c : Int) ≤ 1114111) = true,
 decide ((c : Int) < 55296) = false], Eq.trans (b := some ((AV.c ((Value.bool (decide (c > (57343 : Int)))))), _)) (by kernel_rfl) (congrArg (fun r => some (r, _)) ?_), ?_⟩))
    (fun hc7 => ⟨⟨true, bs [(4, true), (7, false)]⟩, [decide ((c : Int) ≥ 0) = true,
 decide ((c : Int) ≤ 1114111) = false], Eq.trans (b := some ((AV.c ((Value.bool false))), _)) (by kernel_rfl) (congrArg (fun r => some (r, _)) ?_), ?_⟩))
    (fun hc4 => ⟨⟨true, bs [(4, false)]⟩, [decide ((c : Int) ≥ 0) = false], Eq.trans (b := some ((AV.c ((Value.bool false))), _)) (by kernel_rfl) (congrArg (fun r => some (r, _)) ?_), ?_⟩)
  all_goals try simp only [dz] at hc4
  all_goals try simp only [dz] at hc7
  all_goals try simp only [dz] at hc11
  any_goals (
    rw [okI_eq]
    first
      | (rw [decide_eq_true hc4, decide_eq_true hc7, decide_eq_true hc11]; rfl)
      | (rw [decide_eq_true hc4, decide_eq_true hc7, decide_eq_false hc11]; rfl)
      | (rw [decide_eq_true hc4, decide_eq_false hc7]; rfl)
      | (rw [decide_eq_false hc4]; rfl)
    done)
  all_goals try simp (disch := omega) only [std]
  all_goals repeat' apply And.intro
  all_goals first | exact True.intro | omega | with_reducible rfl | with_reducible assumption | rfl

theorem rsg_ok : SpecOK Try.prog 25 signISpec := by
  refine spec_of mixed cl0_ok fun args r q hs hq => ?_
  unfold signISpec at hs
  split at hs
  · rename_i c
    simp only [Option.some.injEq, Prod.mk.injEq] at hs
    obtain ⟨rfl, rfl⟩ := hs
    simp only [allP, and_true] at hq ⊢
    obtain ⟨hh, q, e, hp⟩ := rsg_all c
    exact ⟨_, _, _, _, lpBy_nil, e, hp⟩
  · simp at hs

/-! A number whose digits stand first. -/
def rdV (x : Option (Nat × Nat)) : Nat × Nat := x.getD (0, 0)
def rdSpec : Spec
  | [.c (.string s), .c (.int .i64 b)] => some (.tu [.c (.int .i64 (rdV (rdB b.toNat 0 1 0 (sb s))).1), .c (.int .i64 (rdV (rdB b.toNat 0 1 0 (sb s))).2)], [0 ≤ b, b ≤ 100000, (sb s).length ≤ 100000])
  | _ => none

noncomputable def clNb : CallT := aCall Try.prog (sgBy [(44, woSpec), (39, bndSpec)]) 500 8
theorem clNb_ok : CallOK Try.prog clNb := aCall_ok mixed (sgBy_cons pwo_ok (sgBy_cons rbnd_ok sgBy_nil)) 500 8

def nbS (l : List UInt8) (b a w j : Nat) : St := ⟨frame 43 [(0, .c (str l)), (1, .c (.int .i64 b)), (6, .c (.int .i64 a)), (7, .c (.int .i64 w)), (8, .c (.int .i64 j))], []⟩
def nbR (v k : Nat) : St := ⟨frame 43 [(4, .c (.int .i64 v)), (5, .c (.int .i64 k))], []⟩

noncomputable def nbA_X (l : List UInt8) (b a w j d t a1 w1 : Nat) (h_ : List (Nat × Bool)) := roundOut (⟨[], [4, 5], []⟩) (aCode Try.prog clNb ⟨true, bs h_ ++ (bs [(14, true), (22, true)] ++ [(20, ⟨.c (.int .i64 (-1)), none⟩), (27, ⟨.c (.int .i64 a1), none⟩), (32, ⟨.c (.int .i64 t), none⟩), (42, ⟨.c (.int .i64 w1), none⟩)])⟩ (lpBy ([])) 60 (lbody Try.prog 32 4) (nbS l b a w j))

theorem nbA_1 (l : List UInt8) (b a w j d t a1 w1 : Nat) : nbA_X l b a w j d t a1 w1 [] = some (.ret, nbR 0 0, [decide ((↑j : Int) < ↑l.length) = true,
 (0 : Int) ≤ ↑j,
 (↑j : Int) < ↑l.length,
 (((0 : Int) : Int) ≤ ((↑(l.getD j 0).toNat : Int))),
 (((↑(l.getD j 0).toNat : Int) : Int) < ((256 : Int))),
 ((woI (↑(l.getD j 0).toNat : Int) : Int)) = (-1),
 (true) = true]) := by kernel_rfl


noncomputable def nbB_X (l : List UInt8) (b a w j d t a1 w1 : Nat) (h_ : List (Nat × Bool)) := roundOut (⟨[], [4, 5], []⟩) (aCode Try.prog clNb ⟨true, bs h_ ++ (bs [(14, true), (22, false), (29, true)] ++ [(20, ⟨.c (.int .i64 d), none⟩), (27, ⟨.c (.int .i64 a1), none⟩), (32, ⟨.c (.int .i64 t), none⟩), (42, ⟨.c (.int .i64 w1), none⟩)])⟩ (lpBy ([])) 60 (lbody Try.prog 32 4) (nbS l b a w j))

theorem nbB_1 (l : List UInt8) (b a w j d t a1 w1 : Nat) : nbB_X l b a w j d t a1 w1 [] = some (.ret, nbR 0 0, [decide ((↑j : Int) < ↑l.length) = true,
 (0 : Int) ≤ ↑j,
 (↑j : Int) < ↑l.length,
 (((0 : Int) : Int) ≤ ((↑(l.getD j 0).toNat : Int))),
 (((↑(l.getD j 0).toNat : Int) : Int) < ((256 : Int))),
 ((woI (↑(l.getD j 0).toNat : Int) : Int)) = ((↑d : Int)),
 (false) = false,
 (IntKind.i64.min : Int) ≤ ↑d * ↑w,
 (↑d * ↑w : Int) ≤ IntKind.i64.max,
 (IntKind.i64.min : Int) ≤ ↑a + ↑d * ↑w,
 (↑a + ↑d * ↑w : Int) ≤ IntKind.i64.max,
 (↑a + ↑d * ↑w : Int) = ↑a1,
 decide ((↑a1 : Int) > 2147483647) = true]) := by kernel_rfl


noncomputable def nbC_X (l : List UInt8) (b a w j d t a1 w1 : Nat) (h_ : List (Nat × Bool)) := roundOut (⟨[], [4, 5], []⟩) (aCode Try.prog clNb ⟨true, bs h_ ++ (bs [(14, true), (22, false), (29, false), (35, true)] ++ [(20, ⟨.c (.int .i64 d), none⟩), (27, ⟨.c (.int .i64 a1), none⟩), (32, ⟨.c (.int .i64 t), none⟩), (42, ⟨.c (.int .i64 w1), none⟩)])⟩ (lpBy ([])) 60 (lbody Try.prog 32 4) (nbS l b a w j))

theorem nbC_1 (l : List UInt8) (b a w j d t a1 w1 : Nat) : nbC_X l b a w j d t a1 w1 [] = some (.ret, nbR a1 (j + 1), [decide ((↑j : Int) < ↑l.length) = true,
 (0 : Int) ≤ ↑j,
 (↑j : Int) < ↑l.length,
 (((0 : Int) : Int) ≤ ((↑(l.getD j 0).toNat : Int))),
 (((↑(l.getD j 0).toNat : Int) : Int) < ((256 : Int))),
 ((woI (↑(l.getD j 0).toNat : Int) : Int)) = ((↑d : Int)),
 (false) = false,
 (IntKind.i64.min : Int) ≤ ↑d * ↑w,
 (↑d * ↑w : Int) ≤ IntKind.i64.max,
 (IntKind.i64.min : Int) ≤ ↑a + ↑d * ↑w,
 (↑a + ↑d * ↑w : Int) ≤ IntKind.i64.max,
 (↑a + ↑d * ↑w : Int) = ↑a1,
 decide ((↑a1 : Int) > 2147483647) = false,
 (0 : Int) ≤ ↑j,
 (↑j : Int) ≤ 200000,
 (0 : Int) ≤ ↑b,
 (↑b : Int) ≤ 100000,
 (((↑(bnd j b) : Int) : Int)) = ((↑t : Int)),
 decide ((↑d : Int) < ↑t) = true,
 (IntKind.i64.min : Int) ≤ ↑j + 1,
 (↑j + 1 : Int) ≤ IntKind.i64.max]) := by kernel_rfl


noncomputable def nbD_X (l : List UInt8) (b a w j d t a1 w1 : Nat) (h_ : List (Nat × Bool)) := roundOut (⟨[], [0, 1, 6, 7, 8], []⟩) (aCode Try.prog clNb ⟨true, bs h_ ++ (bs [(14, true), (22, false), (29, false), (35, false)] ++ [(20, ⟨.c (.int .i64 d), none⟩), (27, ⟨.c (.int .i64 a1), none⟩), (32, ⟨.c (.int .i64 t), none⟩), (42, ⟨.c (.int .i64 w1), none⟩)])⟩ (lpBy ([])) 60 (lbody Try.prog 32 4) (nbS l b a w j))

theorem nbD_1 (l : List UInt8) (b a w j d t a1 w1 : Nat) : nbD_X l b a w j d t a1 w1 [] = some (.normal, nbS l b a1 w1 (j + 1), [decide ((↑j : Int) < ↑l.length) = true,
 (0 : Int) ≤ ↑j,
 (↑j : Int) < ↑l.length,
 (((0 : Int) : Int) ≤ ((↑(l.getD j 0).toNat : Int))),
 (((↑(l.getD j 0).toNat : Int) : Int) < ((256 : Int))),
 ((woI (↑(l.getD j 0).toNat : Int) : Int)) = ((↑d : Int)),
 (false) = false,
 (IntKind.i64.min : Int) ≤ ↑d * ↑w,
 (↑d * ↑w : Int) ≤ IntKind.i64.max,
 (IntKind.i64.min : Int) ≤ ↑a + ↑d * ↑w,
 (↑a + ↑d * ↑w : Int) ≤ IntKind.i64.max,
 (↑a + ↑d * ↑w : Int) = ↑a1,
 decide ((↑a1 : Int) > 2147483647) = false,
 (0 : Int) ≤ ↑j,
 (↑j : Int) ≤ 200000,
 (0 : Int) ≤ ↑b,
 (↑b : Int) ≤ 100000,
 (((↑(bnd j b) : Int) : Int)) = ((↑t : Int)),
 decide ((↑d : Int) < ↑t) = false,
 (IntKind.i64.min : Int) ≤ 36 - ↑t,
 (36 - ↑t : Int) ≤ IntKind.i64.max,
 (IntKind.i64.min : Int) ≤ ↑w * (36 - ↑t),
 (↑w * (36 - ↑t) : Int) ≤ IntKind.i64.max,
 (↑w * (36 - ↑t) : Int) = ↑w1,
 (IntKind.i64.min : Int) ≤ ↑j + 1,
 (↑j + 1 : Int) ≤ IntKind.i64.max]) := by kernel_rfl


noncomputable def nbZ_X (l : List UInt8) (b a w j d t a1 w1 : Nat) (h_ : List (Nat × Bool)) := roundOut (⟨[], [], []⟩) (aCode Try.prog clNb ⟨true, bs h_ ++ (bs [(14, false)] ++ [(20, ⟨.c (.int .i64 d), none⟩), (27, ⟨.c (.int .i64 a1), none⟩), (32, ⟨.c (.int .i64 t), none⟩), (42, ⟨.c (.int .i64 w1), none⟩)])⟩ (lpBy ([])) 60 (lbody Try.prog 32 4) (nbS l b a w j))

theorem nbZ_1 (l : List UInt8) (b a w j d t a1 w1 : Nat) : nbZ_X l b a w j d t a1 w1 [] = some (.exit 0, ⟨frame 43 [], []⟩, [decide ((↑j : Int) < ↑l.length) = false]) := by kernel_rfl

/-- Where the loop ends. -/
def nbEnd (b : Nat) : Nat → Nat → Nat → List UInt8 → Exit × St
  | _, _, _, [] => (.exit 0, ⟨frame 43 [], []⟩)
  | j, w, a, c :: r =>
    if wo c < 0 then (.ret, nbR 0 0)
    else if a + (wo c).toNat * w > 2147483647 then (.ret, nbR 0 0)
    else if (wo c).toNat < bnd j b then (.ret, nbR (a + (wo c).toNat * w) (j + 1))
    else nbEnd b (j + 1) (w * (36 - bnd j b)) (a + (wo c).toNat * w) r

theorem nbEnd_cons (b j w a : Nat) (c : UInt8) (r : List UInt8) : nbEnd b j w a (c :: r) = if wo c < 0 then (.ret, nbR 0 0)
    else if a + (wo c).toNat * w > 2147483647 then (.ret, nbR 0 0)
    else if (wo c).toNat < bnd j b then (.ret, nbR (a + (wo c).toNat * w) (j + 1))
    else nbEnd b (j + 1) (w * (36 - bnd j b)) (a + (wo c).toNat * w) r := rfl

theorem nbEnd_is (b : Nat) : ∀ (s : List UInt8) (j w a : Nat), (nbEnd b j w a s = (.exit 0, ⟨frame 43 [], []⟩) ∧ rdB b j w a s = none) ∨ (nbEnd b j w a s = (.ret, nbR 0 0) ∧ rdB b j w a s = none) ∨ ∃ v k, nbEnd b j w a s = (.ret, nbR v (k + j)) ∧ rdB b j w a s = some (v, k)
  | [], j, w, a => .inl ⟨rfl, rfl⟩
  | c :: r, j, w, a => by
    rw [nbEnd_cons, rdB_cons]
    split
    · exact .inr (.inl ⟨rfl, rfl⟩)
    · split
      · exact .inr (.inl ⟨rfl, rfl⟩)
      · split
        · exact .inr (.inr ⟨_, 1, by rw [Nat.add_comm 1 j], rfl⟩)
        · rcases nbEnd_is b r (j + 1) (w * (36 - bnd j b)) (a + (wo c).toNat * w) with ⟨e1, e2⟩ | ⟨e1, e2⟩ | ⟨v, k, e1, e2⟩
          · rw [e1, e2]; exact .inl ⟨rfl, rfl⟩
          · rw [e1, e2]; exact .inr (.inl ⟨rfl, rfl⟩)
          · rw [e1, e2]; exact .inr (.inr ⟨v, k + 1, by rw [show k + (j + 1) = k + 1 + j by omega], rfl⟩)

theorem nbEnd_exit (b : Nat) (s : List UInt8) (j w a : Nat) : (nbEnd b j w a s).1 ≠ .normal := by
  rcases nbEnd_is b s j w a with ⟨e, _⟩ | ⟨e, _⟩ | ⟨v, k, e, _⟩ <;> rw [e] <;> simp

theorem nb_walk (b : Nat) (hb : b ≤ 100000) (l : List UInt8) (hl : l.length ≤ 100000) : Tri Ext0 Try.prog (.loop (lbody Try.prog 32 4)) (nbS l b 0 1 0) (nbEnd b 0 1 0 l).1 (nbEnd b 0 1 0 l).2 := by
  refine loop_inv mixed clNb_ok (fun x : Nat × Nat × Nat => nbS l b x.1 x.2.1 x.2.2) (fun x => x.2.2 ≤ l.length ∧ x.1 ≤ 2147483647 ∧ x.2.1 ≤ 75161927680 ∧ nbEnd b x.2.2 x.2.1 x.1 (l.drop x.2.2) = nbEnd b 0 1 0 l) (fun x => l.length - x.2.2) (fun x hx => ?_) (0, 1, 0) ⟨Nat.zero_le _, by simp, by simp, rfl⟩
  obtain ⟨a, w, j⟩ := x
  obtain ⟨h1, h2, h3, h4⟩ := hx
  simp only at h1 h2 h3 h4 ⊢
  by_cases hj : j < l.length
  · rw [drop_cons l j hj, nbEnd_cons] at h4
    have h5 := (l.getD j 0).toNat_lt
    obtain ⟨t1, t2⟩ := bnd_bd j b
    obtain ⟨w1, w2⟩ := wo_bd (l.getD j 0)
    have hwo : woI (((l.getD j 0).toNat : Nat) : Int) = wo (l.getD j 0) := rfl
    by_cases c1 : wo (l.getD j 0) < 0
    · rw [if_pos c1] at h4
      rw [← h4]
      refine .inr ⟨by simp, _, _, _, _, _, lpBy_nil, by decide, nbA_1 l b a w j 0 0 0 0, ?_⟩
      simp only [allP, and_true, decide_eq_true_eq, Int.toNat_natCast, hwo]
      repeat' apply And.intro
      all_goals first | exact True.intro | omega | rfl
    · rw [if_neg c1] at h4
      obtain ⟨d, hd⟩ : ∃ d : Nat, wo (l.getD j 0) = d := ⟨(wo (l.getD j 0)).toNat, by omega⟩
      rw [hd, Int.toNat_natCast] at h4
      have hd35 : d ≤ 35 := by omega
      have hdw : d * w ≤ 35 * 75161927680 := Nat.mul_le_mul hd35 h3
      have e1 : ((d : Int) * (w : Int)) = ((d * w : Nat) : Int) := by simp
      generalize hp : d * w = p at *
      by_cases c2 : a + p > 2147483647
      · rw [if_pos c2] at h4
        rw [← h4]
        refine .inr ⟨by simp, _, _, _, _, _, lpBy_nil, by decide, nbB_1 l b a w j d 0 (a + p) 0, ?_⟩
        simp only [allP, and_true, decide_eq_true_eq, decide_eq_false_iff_not, Int.toNat_natCast, hwo, hd, e1, i64_min, i64_max]
        repeat' apply And.intro
        all_goals first | exact True.intro | omega | rfl
      · rw [if_neg c2] at h4
        by_cases c3 : d < bnd j b
        · rw [if_pos c3] at h4
          rw [← h4]
          refine .inr ⟨by simp, _, _, _, _, _, lpBy_nil, by decide, nbC_1 l b a w j d (bnd j b) (a + p) 0, ?_⟩
          simp only [allP, and_true, decide_eq_true_eq, decide_eq_false_iff_not, Int.toNat_natCast, hwo, hd, e1, i64_min, i64_max]
          repeat' apply And.intro
          all_goals first | exact True.intro | omega | rfl
        · rw [if_neg c3] at h4
          have hd1 : 1 ≤ d := by omega
          have hwp : w ≤ p := by rw [← hp]; exact Nat.le_mul_of_pos_left _ hd1
          have hww : w * (36 - bnd j b) ≤ 2147483647 * 35 := Nat.mul_le_mul (by omega) (by omega)
          have e2 : ((w : Int) * (36 - (bnd j b : Int))) = ((w * (36 - bnd j b) : Nat) : Int) := by
            rw [show (36 - (bnd j b : Int)) = ((36 - bnd j b : Nat) : Int) by omega]
            simp
          generalize hq : w * (36 - bnd j b) = q at *
          refine .inl ⟨(a + p, q, j + 1), ⟨hj, by simp only; omega, by simp only; omega, h4⟩, by simp only; omega, _, _, _, _, _, lpBy_nil, by decide, nbD_1 l b a w j d (bnd j b) (a + p) q, ?_⟩
          simp only [allP, and_true, decide_eq_true_eq, decide_eq_false_iff_not, Int.toNat_natCast, hwo, hd, e1, e2, i64_min, i64_max]
          repeat' apply And.intro
          all_goals first | exact True.intro | omega | rfl
  · rw [List.drop_of_length_le (by omega)] at h4
    rw [← h4]
    refine .inr ⟨by simp [nbEnd], _, _, _, _, _, lpBy_nil, by decide, nbZ_1 l b a w j 0 0 0 0, ?_⟩
    simp only [allP, and_true, decide_eq_false_iff_not]
    omega

noncomputable def nbLp (l : List UInt8) (b : Nat) (e : Exit) (R : St) : List (Nat × Lp) := [(4, ⟨lbody Try.prog 32 4, ⟨[], [0, 1, 6, 7, 8], []⟩, nbS l b 0 1 0, e, R⟩)]

noncomputable def nbm1_X (l : List UInt8) (b v k : Nat) (h_ : List (Nat × Bool)) := outcome Try.prog 32 (aBody Try.prog clNb ⟨true, bs h_ ++ ([])⟩ (lpBy (nbLp l b (.exit 0) ⟨frame 43 [], []⟩)) 60 32 ([.c (str l), .c (.int .i64 b)]) ([]))

theorem nbm1_1 (l : List UInt8) (b v k : Nat) : nbm1_X l b v k [] = some ((AV.tu [(AV.c ((Value.int .i64 0))),
 (AV.c ((Value.int .i64 0)))]), [((lbody Try.prog (32 : FuncId) (4 : Nat) : Go.Code)) = (lbody Try.prog (32 : FuncId) (4 : Nat)),
 ((nbS l b (0 : Nat) (1 : Nat) (0 : Nat) : Go.Proofs.Ytljgmgbjfjhjmaa.St)) = (nbS l b (0 : Nat) (1 : Nat) (0 : Nat))]) := by kernel_rfl

theorem nbm1_all (l : List UInt8) (b v k : Nat)  : ∃ (h : Hints) (p : List Prop), outcome Try.prog 32 (aBody Try.prog clNb h (lpBy (nbLp l b (.exit 0) ⟨frame 43 [], []⟩)) 60 32 ([.c (str l), .c (.int .i64 b)]) ([])) = some (.tu [.c (.int .i64 0), .c (.int .i64 0)], p) ∧ allP p := by
  have eR := nbm1_1 l b v k
  refine ⟨_, _, eR.trans (congrArg (fun r => some (r, _)) ?_), ?_⟩
  · rfl
  · try simp only [dz] at *
    try simp (disch := omega) only [std, bytesOK_cons, bytesOK_nil]
    repeat' apply And.intro
    all_goals first | exact True.intro | omega | assumption | rfl | exact avEq_refl _


noncomputable def nbm2_X (l : List UInt8) (b v k : Nat) (h_ : List (Nat × Bool)) := outcome Try.prog 32 (aBody Try.prog clNb ⟨true, bs h_ ++ ([])⟩ (lpBy (nbLp l b .ret (nbR v k))) 60 32 ([.c (str l), .c (.int .i64 b)]) ([]))

theorem nbm2_1 (l : List UInt8) (b v k : Nat) : nbm2_X l b v k [] = some ((AV.tu [(AV.c ((Value.int .i64 ((↑v : Int))))),
 (AV.c ((Value.int .i64 ((↑k : Int)))))]), [((lbody Try.prog (32 : FuncId) (4 : Nat) : Go.Code)) = (lbody Try.prog (32 : FuncId) (4 : Nat)),
 ((nbS l b (0 : Nat) (1 : Nat) (0 : Nat) : Go.Proofs.Ytljgmgbjfjhjmaa.St)) = (nbS l b (0 : Nat) (1 : Nat) (0 : Nat))]) := by kernel_rfl

theorem nbm2_all (l : List UInt8) (b v k : Nat)  : ∃ (h : Hints) (p : List Prop), outcome Try.prog 32 (aBody Try.prog clNb h (lpBy (nbLp l b .ret (nbR v k))) 60 32 ([.c (str l), .c (.int .i64 b)]) ([])) = some (.tu [.c (.int .i64 v), .c (.int .i64 k)], p) ∧ allP p := by
  have eR := nbm2_1 l b v k
  refine ⟨_, _, eR.trans (congrArg (fun r => some (r, _)) ?_), ?_⟩
  · rfl
  · try simp only [dz] at *
    try simp (disch := omega) only [std, bytesOK_cons, bytesOK_nil]
    repeat' apply And.intro
    all_goals first | exact True.intro | omega | assumption | rfl | exact avEq_refl _

theorem rnb_ok : SpecOK Try.prog 32 rdSpec := by
  refine spec_of mixed clNb_ok fun args r q hs hq => ?_
  unfold rdSpec at hs
  split at hs
  · rename_i l b
    simp only [Option.some.injEq, Prod.mk.injEq] at hs
    obtain ⟨rfl, rfl⟩ := hs
    obtain ⟨⟨⟨l⟩⟩, rfl⟩ : ∃ b : ByteArray, b = l := ⟨l, rfl⟩
    simp only [sb_mk, allP, and_true] at hq ⊢
    obtain ⟨h0, h1, h2⟩ := hq
    obtain ⟨b, rfl⟩ : ∃ k : Nat, b = (k : Int) := ⟨b.toNat, by omega⟩
    rw [Int.toNat_natCast]
    have hw := nb_walk b (by omega) l h2
    rcases nbEnd_is b l 0 1 0 with ⟨e1, e2⟩ | ⟨e1, e2⟩ | ⟨v, k, e1, e2⟩
    · rw [e1] at hw
      rw [e2]
      obtain ⟨hh, p, e, hp⟩ := nbm1_all l b 0 0
      exact ⟨_, _, _, _, lpBy_cons lpBy_nil List.nodup_nil hw, e, hp⟩
    · rw [e1] at hw
      rw [e2]
      obtain ⟨hh, p, e, hp⟩ := nbm2_all l b 0 0
      exact ⟨_, _, _, _, lpBy_cons lpBy_nil List.nodup_nil hw, e, hp⟩
    · rw [e1] at hw
      rw [e2]
      obtain ⟨hh, p, e, hp⟩ := nbm2_all l b v k
      exact ⟨_, _, _, _, lpBy_cons lpBy_nil List.nodup_nil hw, e, hp⟩
  · simp at hs

theorem toNat_succ7 (i : Nat) : ((i : Int) + 1).toNat = i + 1 := by omega

theorem tdNat {m : Nat} (n : Nat) (h : m ≤ 9223372036854775807) : IntKind.i64.wrap ((m : Int).tdiv (n : Int)) = ((m / n : Nat) : Int) := by
  rw [tdN (by omega), ← Int.natCast_ediv]
  have := Nat.div_le_self m n
  generalize m / n = q at *
  exact i64_wrap (by omega) (by omega)
theorem tmNat (m n : Nat) : (m : Int).tmod (n : Int) = ((m % n : Nat) : Int) := by
  rw [tmN (by omega), ← Int.natCast_emod]

/-! A number's letters. -/
def digL : List UInt8 := [97, 98, 99, 100, 101, 102, 103, 104, 105, 106, 107, 108, 109, 110, 111, 112, 113, 114, 115, 116, 117, 118, 119, 120, 121, 122, 48, 49, 50, 51, 52, 53, 54, 55, 56, 57]
theorem digL_at {d : Nat} (h : d < 36) : List.drop d (List.take (d + 1) digL) = [chr d] := by
  have k : ∀ y : Fin 36, List.drop y.val (List.take (y.val + 1) digL) = [chr y.val] := by decide +kernel
  exact k ⟨d, h⟩

noncomputable def clLb : CallT := aCall Try.prog (sgBy [(39, bndSpec)]) 500 8
theorem clLb_ok : CallOK Try.prog clLb := aCall_ok mixed (sgBy_cons rbnd_ok sgBy_nil) 500 8

def lbS (d b : Nat) (out : List UInt8) (j : Nat) : St := ⟨frame 49 [(0, .c (.int .i64 d)), (1, .c (.int .i64 b)), (5, .c (str digL)), (6, .c (str out)), (7, .c (.int .i64 j))], []⟩
def lbR (z : List UInt8) : St := ⟨frame 49 [(4, .c (str z))], []⟩

theorem lbA_all (d b t r q c j : Nat) (out : List UInt8) (x : UInt8) (hj : j < 40) (hb : b ≤ 100000) (ht : bnd j b = t) (t1 : 1 ≤ t) (t2 : t ≤ 26) (hdl : d ≤ 2147483647) (hol : out.length ≤ 1000) (hdg : digL.length = 36) (hd : d < t) (hx : List.drop d (List.take (d + 1) digL) = [x]) : Round Ext0 Try.prog clLb (lbody Try.prog 27 4) (lbS d b out j) (.ret) (lbR (out ++ [x])) := by
  refine ⟨⟨true, (bs [(11, true), (19, true)] ++ [(16, ⟨.c (.int .i64 t), none⟩)] ++ [(24, ⟨.c (.int .i64 (d + 1 : Nat)), none⟩), (25, ⟨.c (str [x]), none⟩)])⟩, _, 60, ⟨[], [4], []⟩, [decide ((↑j : Int) < 40) = true,
 (0 : Int) ≤ ↑j,
 (↑j : Int) ≤ 200000,
 (0 : Int) ≤ ↑b,
 (↑b : Int) ≤ 100000,
 (((↑(bnd j b) : Int) : Int)) = ((↑t : Int)),
 decide ((↑d : Int) < ↑t) = true,
 (IntKind.i64.min : Int) ≤ ↑d + 1,
 (↑d + 1 : Int) ≤ IntKind.i64.max,
 (↑d + 1 : Int) = ↑(d + 1),
 (0 : Int) ≤ ↑d,
 (↑d : Int) ≤ ↑(d + 1),
 (↑(d + 1) : Int) ≤ ↑(36 : Nat),
 ((List.drop d (List.take (d + (1 : Nat)) digL) : List UInt8)) = ([x]),
 ((out.length + (1 : Nat) : Nat) ≤ ((9223372036854775807 : Nat)))], lpBy_nil, by decide, by kernel_rfl, ?_⟩
  all_goals try simp (disch := omega) only [std, toNat_succ7, hdg]
  all_goals repeat' apply And.intro
  all_goals first | exact True.intro | omega | with_reducible rfl | with_reducible assumption | exact congrArg (fun z : Nat => (z : Int)) ht | exact hr | exact hq | exact ht | exact hdg | exact hx | rfl


theorem lbB_all (d b t r q c j : Nat) (out : List UInt8) (x : UInt8) (hj : j < 40) (hb : b ≤ 100000) (ht : bnd j b = t) (t1 : 1 ≤ t) (t2 : t ≤ 26) (hdl : d ≤ 2147483647) (hol : out.length ≤ 1000) (hdg : digL.length = 36) (hd : ¬ d < t) (hr : ((d - t : Nat) : Int).tmod ((36 - t : Nat) : Int) = (r : Nat)) (hq : IntKind.i64.wrap (((d - t : Nat) : Int).tdiv ((36 - t : Nat) : Int)) = (q : Nat)) (hc : t + r = c) (hc36 : c < 36) (hx : List.drop c (List.take (c + 1) digL) = [x]) : Round Ext0 Try.prog clLb (lbody Try.prog 27 4) (lbS d b out j) (.normal) (lbS q b (out ++ [x]) (j + 1)) := by
  refine ⟨⟨true, (bs [(11, true), (19, false)] ++ [(16, ⟨.c (.int .i64 t), none⟩)] ++ [(30, ⟨.c (.int .i64 (d - t : Nat)), none⟩), (32, ⟨.c (.int .i64 (36 - t : Nat)), none⟩), (33, ⟨.c (.int .i64 r), some []⟩), (34, ⟨.c (.int .i64 c), none⟩), (39, ⟨.c (.int .i64 (c + 1 : Nat)), none⟩), (40, ⟨.c (str [x]), none⟩), (44, ⟨.c (.int .i64 (d - t : Nat)), none⟩), (46, ⟨.c (.int .i64 (36 - t : Nat)), none⟩), (47, ⟨.c (.int .i64 q), some []⟩)])⟩, _, 60, ⟨[], [0, 1, 5, 6, 7], []⟩, [decide ((↑j : Int) < 40) = true,
 (0 : Int) ≤ ↑j,
 (↑j : Int) ≤ 200000,
 (0 : Int) ≤ ↑b,
 (↑b : Int) ≤ 100000,
 (((↑(bnd j b) : Int) : Int)) = ((↑t : Int)),
 decide ((↑d : Int) < ↑t) = false,
 (IntKind.i64.min : Int) ≤ ↑d - ↑t,
 (↑d - ↑t : Int) ≤ IntKind.i64.max,
 (↑d - ↑t : Int) = ↑(d - t),
 (IntKind.i64.min : Int) ≤ 36 - ↑t,
 (36 - ↑t : Int) ≤ IntKind.i64.max,
 (36 - ↑t : Int) = ↑(36 - t),
 (↑((36 : Nat) - t) : Int) ≠ (0 : Int),
 (((↑(d - t) : Int).tmod (↑((36 : Nat) - t) : Int) : Int)) = ((↑r : Int)),
 ((([ck ((↑((36 : Nat) - t) : Int) ≠ (0 : Int))], AV.c (Value.int IntKind.i64 ((↑(d - t) : Int).tmod (↑((36 : Nat) - t) : Int))), Cmd.nop).snd.snd.cells : List AV)) = ([]),
 (IntKind.i64.min : Int) ≤ ↑t + ↑r,
 (↑t + ↑r : Int) ≤ IntKind.i64.max,
 (↑t + ↑r : Int) = ↑c,
 (IntKind.i64.min : Int) ≤ ↑c + 1,
 (↑c + 1 : Int) ≤ IntKind.i64.max,
 (↑c + 1 : Int) = ↑(c + 1),
 (0 : Int) ≤ ↑c,
 (↑c : Int) ≤ ↑(c + 1),
 (↑(c + 1) : Int) ≤ ↑(36 : Nat),
 ((List.drop c (List.take (c + (1 : Nat)) digL) : List UInt8)) = ([x]),
 ((out.length + (1 : Nat) : Nat) ≤ ((9223372036854775807 : Nat))),
 (IntKind.i64.min : Int) ≤ ↑d - ↑t,
 (↑d - ↑t : Int) ≤ IntKind.i64.max,
 (↑d - ↑t : Int) = ↑(d - t),
 (IntKind.i64.min : Int) ≤ 36 - ↑t,
 (36 - ↑t : Int) ≤ IntKind.i64.max,
 (36 - ↑t : Int) = ↑(36 - t),
 (↑((36 : Nat) - t) : Int) ≠ (0 : Int),
 ((IntKind.i64.wrap ((↑(d - t) : Int).tdiv (↑((36 : Nat) - t) : Int)) : Int)) = ((↑q : Int)),
 ((([ck ((↑((36 : Nat) - t) : Int) ≠ (0 : Int))], AV.c (Value.int IntKind.i64 (IntKind.i64.wrap ((↑(d - t) : Int).tdiv (↑((36 : Nat) - t) : Int)))), Cmd.nop).snd.snd.cells : List AV)) = ([]),
 (IntKind.i64.min : Int) ≤ ↑j + 1,
 (↑j + 1 : Int) ≤ IntKind.i64.max], lpBy_nil, by decide, by kernel_rfl, ?_⟩
  all_goals try simp (disch := omega) only [std, toNat_succ7, hdg]
  all_goals repeat' apply And.intro
  all_goals first | exact True.intro | omega | with_reducible rfl | with_reducible assumption | exact congrArg (fun z : Nat => (z : Int)) ht | exact hr | exact hq | exact ht | exact hdg | exact hr | exact hq | exact hc | exact hx | rfl

theorem lb_walk (b d0 : Nat) (hb : b ≤ 100000) (hd0 : d0 ≤ 2147483647) : Tri Ext0 Try.prog (.loop (lbody Try.prog 27 4)) (lbS d0 b [] 0) .ret (lbR (leB b 40 0 d0)) := by
  refine loop_inv mixed clLb_ok (fun x : Nat × List UInt8 × Nat => lbS x.1 b x.2.1 x.2.2) (fun x => x.2.2 < 40 ∧ x.1 ≤ 2147483647 ∧ x.1 < 10 ^ (39 - x.2.2) ∧ x.2.1.length ≤ x.2.2 ∧ x.2.1 ++ leB b (40 - x.2.2) x.2.2 x.1 = leB b 40 0 d0) (fun x => 40 - x.2.2) (fun x hx => ?_) (d0, [], 0) ⟨by simp, hd0, Nat.lt_of_le_of_lt hd0 (show 2147483647 < 10 ^ 39 by decide), by simp, rfl⟩
  obtain ⟨d, out, j⟩ := x
  obtain ⟨h1, h2, h3, h4, h5⟩ := hx
  simp only at h1 h2 h3 h4 h5 ⊢
  obtain ⟨t1, t2⟩ := bnd_bd j b
  obtain ⟨f, hf⟩ : ∃ f, 40 - j = f + 1 := ⟨39 - j, by omega⟩
  have hf' : 39 - j = f := by omega
  rw [hf, leB_succ] at h5
  rw [hf'] at h3
  by_cases hd : d < bnd j b
  · rw [if_pos hd] at h5
    rw [← h5]
    exact .inr ⟨by simp, lbA_all d b (bnd j b) 0 0 0 j out (chr d) h1 hb rfl t1 t2 h2 (by omega) rfl hd (digL_at (by omega))⟩
  · rw [if_neg hd] at h5
    have hm : (d - bnd j b) % (36 - bnd j b) < 36 - bnd j b := Nat.mod_lt _ (by omega)
    obtain ⟨f, rfl⟩ : ∃ g, f = g + 1 := ⟨f - 1, by
      cases f with
      | zero => simp at h3; omega
      | succ f => omega⟩
    have hlt := quo_lt (m := 10 ^ f) t1 t2 (by rw [Nat.pow_succ] at h3; omega : d < 10 * 10 ^ f)
    have hq2 : (d - bnd j b) / (36 - bnd j b) ≤ d - bnd j b := Nat.div_le_self _ _
    refine .inl ⟨((d - bnd j b) / (36 - bnd j b), out ++ [chr (bnd j b + (d - bnd j b) % (36 - bnd j b))], j + 1), ⟨by simp only; omega, by simp only; omega, by simp only; rw [show 39 - (j + 1) = f by omega]; exact hlt, by simp only [List.length_append, List.length_singleton]; omega, ?_⟩, by simp only; omega, ?_⟩
    · simp only
      rw [← h5, show 40 - (j + 1) = f + 1 by omega, List.append_assoc]
      rfl
    · exact lbB_all d b (bnd j b) ((d - bnd j b) % (36 - bnd j b)) _ _ j out _ h1 hb rfl t1 t2 h2 (by omega) rfl hd (tmNat _ _) (tdNat _ (by omega)) rfl (by omega) (digL_at (by omega))

noncomputable def lbLp (d b : Nat) : List (Nat × Lp) := [(4, ⟨lbody Try.prog 27 4, ⟨[], [0, 1, 5, 6, 7], []⟩, lbS d b [] 0, .ret, lbR (leB b 40 0 d)⟩)]

noncomputable def lbm_X (d b : Nat) (h_ : List (Nat × Bool)) := outcome Try.prog 27 (aBody Try.prog clLb ⟨true, bs h_ ++ ([])⟩ (lpBy (lbLp d b)) 60 27 ([.c (.int .i64 d), .c (.int .i64 b)]) ([]))

theorem lbm_1 (d b : Nat) : lbm_X d b [] = some ((AV.c ((str (leB b (40 : Nat) (0 : Nat) d)))), [((lbody Try.prog (27 : FuncId) (4 : Nat) : Go.Code)) = (lbody Try.prog (27 : FuncId) (4 : Nat)),
 ((lbS d b [] (0 : Nat) : Go.Proofs.Ytljgmgbjfjhjmaa.St)) = (lbS d b [] (0 : Nat))]) := by kernel_rfl

theorem lbm_all (d b : Nat)  : ∃ (h : Hints) (p : List Prop), outcome Try.prog 27 (aBody Try.prog clLb h (lpBy (lbLp d b)) 60 27 ([.c (.int .i64 d), .c (.int .i64 b)]) ([])) = some (.c (str (leB b 40 0 d)), p) ∧ allP p := by
  have eR := lbm_1 d b
  refine ⟨_, _, eR.trans (congrArg (fun r => some (r, _)) ?_), ?_⟩
  · rfl
  · try simp only [dz] at *
    try simp (disch := omega) only [std, bytesOK_cons, bytesOK_nil]
    repeat' apply And.intro
    all_goals first | exact True.intro | omega | assumption | rfl | exact avEq_refl _

def leSpec : Spec
  | [.c (.int .i64 d), .c (.int .i64 b)] => some (.c (str (leB b.toNat 40 0 d.toNat)), [0 ≤ d, d ≤ 2147483647, 0 ≤ b, b ≤ 100000])
  | _ => none

theorem rle_ok : SpecOK Try.prog 27 leSpec := by
  refine spec_of mixed clLb_ok fun args r q hs hq => ?_
  unfold leSpec at hs
  split at hs
  · rename_i d b
    simp only [Option.some.injEq, Prod.mk.injEq] at hs
    obtain ⟨rfl, rfl⟩ := hs
    simp only [allP, and_true] at hq ⊢
    obtain ⟨h0, h1, h2, h3⟩ := hq
    obtain ⟨d, rfl⟩ : ∃ k : Nat, d = (k : Int) := ⟨d.toNat, by omega⟩
    obtain ⟨b, rfl⟩ : ∃ k : Nat, b = (k : Int) := ⟨b.toNat, by omega⟩
    obtain ⟨hh, q, e, hp⟩ := lbm_all d b
    exact ⟨_, _, _, _, lpBy_cons lpBy_nil List.nodup_nil (lb_walk b d (by omega) (by omega)), e, hp⟩
  · simp at hs

/-! The next bias. -/
def adS (e k : Nat) : St := ⟨frame 32 [(7, .c (.int .i64 e)), (8, .c (.int .i64 k))], []⟩

theorem adA_all (e k q : Nat) (he : ¬ e ≤ 455) (hq : q = e / 35) (hel : e ≤ 4294967294) (hk : k ≤ 1000000) : Round Ext0 Try.prog cl0 (lbody Try.prog 28 6) (adS e k) (.normal) (adS q (k + 36)) := by
  refine ⟨⟨true, (bs [(20, true)] ++ [(22, ⟨.c (.int .i64 q), none⟩)])⟩, _, 60, ⟨[], [7, 8], []⟩, [decide ((↑e : Int) > 455) = true,
 ((IntKind.i64.wrap ((↑e : Int).tdiv (35 : Int)) : Int)) = ((↑q : Int)),
 (IntKind.i64.min : Int) ≤ ↑k + 36,
 (↑k + 36 : Int) ≤ IntKind.i64.max], lpBy_nil, by decide, by kernel_rfl, ?_⟩
  all_goals try simp (disch := omega) only [std]
  all_goals repeat' apply And.intro
  all_goals first | exact True.intro | omega | with_reducible rfl | with_reducible assumption | exact hq | rfl


theorem adZ_all (e k q : Nat) (he : e ≤ 455) (hel : e ≤ 4294967294) (hk : k ≤ 1000000) : Round Ext0 Try.prog cl0 (lbody Try.prog 28 6) (adS e k) (.exit 0) (adS e k) := by
  refine ⟨⟨true, (bs [(20, false)] ++ [(22, ⟨.c (.int .i64 q), none⟩)])⟩, _, 60, ⟨[], [7, 8], []⟩, [decide ((↑e : Int) > 455) = false], lpBy_nil, by decide, by kernel_rfl, ?_⟩
  all_goals try simp (disch := omega) only [std]
  all_goals repeat' apply And.intro
  all_goals first | exact True.intro | omega | with_reducible rfl | with_reducible assumption | rfl

/-- Where the loop ends. -/
def adEnd : Nat → Nat → Nat → Nat × Nat
  | 0, e, k => (e, k)
  | f + 1, e, k => if e > 455 then adEnd f (e / 35) (k + 36) else (e, k)

theorem adEnd_is : ∀ (f e k : Nat), adG f e k = (adEnd f e k).2 + 36 * (adEnd f e k).1 / ((adEnd f e k).1 + 38) ∧ (adEnd f e k).1 ≤ e ∧ (adEnd f e k).2 ≤ k + 36 * f
  | 0, e, k => ⟨rfl, Nat.le_refl _, by unfold adEnd; omega⟩
  | f + 1, e, k => by
    unfold adG adEnd
    split
    · obtain ⟨h1, h2, h3⟩ := adEnd_is f (e / 35) (k + 36)
      exact ⟨h1, by omega, by omega⟩
    · exact ⟨rfl, Nat.le_refl _, by simp only; omega⟩

theorem ad_walk (e0 : Nat) (h : e0 ≤ 4294967294) : Tri Ext0 Try.prog (.loop (lbody Try.prog 28 6)) (adS e0 0) (.exit 0) (adS (adEnd 20 e0 0).1 (adEnd 20 e0 0).2) := by
  refine loop_inv mixed cl0_ok (fun x : Nat × Nat × Nat => adS x.1 x.2.1) (fun x => x.1 ≤ 4294967294 ∧ x.1 ≤ 455 * 35 ^ x.2.2 ∧ x.2.2 ≤ 20 ∧ x.2.1 + 36 * x.2.2 ≤ 720 ∧ adEnd x.2.2 x.1 x.2.1 = adEnd 20 e0 0) (fun x => x.2.2) (fun x hx => ?_) (e0, 0, 20) ⟨h, show e0 ≤ 455 * 35 ^ 20 from Nat.le_trans h (by decide), Nat.le_refl _, by simp, rfl⟩
  obtain ⟨e, k, f⟩ := x
  obtain ⟨h1, h2, h3, h4, h5⟩ := hx
  simp only at h1 h2 h3 h4 h5 ⊢
  by_cases he : e ≤ 455
  · have : adEnd f e k = (e, k) := by
      cases f with
      | zero => rfl
      | succ f => unfold adEnd; rw [if_neg (by omega)]
    rw [this] at h5
    rw [← h5]
    exact .inr ⟨by simp, adZ_all e k 0 he h1 (by omega)⟩
  · obtain ⟨f, rfl⟩ : ∃ g, f = g + 1 := ⟨f - 1, by
      cases f with
      | zero => simp at h2; omega
      | succ f => omega⟩
    have h5 : adEnd f (e / 35) (k + 36) = adEnd 20 e0 0 := by
      rw [← h5]
      show _ = (if e > 455 then _ else _)
      rw [if_pos (by omega)]
    exact .inl ⟨(e / 35, k + 36, f), ⟨by simp only; omega, by simp only; rw [Nat.pow_succ] at h2; omega, by simp only; omega, by simp only; omega, h5⟩, by simp only; omega, adA_all e k (e / 35) he rfl h1 (by omega)⟩

noncomputable def adLp (e : Nat) : List (Nat × Lp) := [(6, ⟨lbody Try.prog 28 6, ⟨[], [7, 8], []⟩, adS e 0, .exit 0, adS (adEnd 20 e 0).1 (adEnd 20 e 0).2⟩)]

theorem adaT_all (d n e0 q e x y r v : Nat) (hd : d ≤ 2147483647) (n1 : 1 ≤ n) (n2 : n ≤ 1000) (he0 : d / 700 = e0) (hq : IntKind.i64.wrap ((e0 : Int).tdiv (n : Int)) = (q : Nat)) (hql : q ≤ 2147483647) (he : e0 + q = e) (hx : x ≤ 4294967294) (hy : y ≤ 720) (hr : IntKind.i64.wrap ((36 * (x : Int)).tdiv ((x : Int) + 38)) = (r : Nat)) (hv : y + r = v) (hrl : r ≤ 4294967294 * 36) : ∃ (h : Hints) (p : List Prop), outcome Try.prog 28 (aBody Try.prog cl0 h (lpBy ([(6, ⟨lbody Try.prog 28 6, ⟨[], [7, 8], []⟩, adS e 0, .exit 0, adS x y⟩)])) 60 28 ([.c (.int .i64 d), .c (.int .i64 n), .c (.bool true)]) ([])) = some (.c (.int .i64 v), p) ∧ allP p := by
  refine ⟨⟨true, ([(10, ⟨.c (.int .i64 (d / 2 : Nat)), none⟩), (13, ⟨.c (.int .i64 e0), none⟩), (17, ⟨.c (.int .i64 q), some []⟩), (18, ⟨.c (.int .i64 e), none⟩), (30, ⟨.c (.int .i64 r), some []⟩), (31, ⟨.c (.int .i64 v), none⟩)])⟩, [((IntKind.i64.wrap ((↑d : Int).tdiv (2 : Int)) : Int)) = ((↑(d / (2 : Nat)) : Int)),
 ((IntKind.i64.wrap ((↑d : Int).tdiv (700 : Int)) : Int)) = ((↑e0 : Int)),
 (↑n : Int) ≠ (0 : Int),
 ((IntKind.i64.wrap ((↑e0 : Int).tdiv (↑n : Int)) : Int)) = ((↑q : Int)),
 ((([ck ((↑n : Int) ≠ (0 : Int))], AV.c (Value.int IntKind.i64 (IntKind.i64.wrap ((↑e0 : Int).tdiv (↑n : Int)))), Cmd.nop).snd.snd.cells : List AV)) = ([]),
 (IntKind.i64.min : Int) ≤ ↑e0 + ↑q,
 (↑e0 + ↑q : Int) ≤ IntKind.i64.max,
 (↑e0 + ↑q : Int) = ↑e,
 ((lbody Try.prog (28 : FuncId) (6 : Nat) : Go.Code)) = (lbody Try.prog (28 : FuncId) (6 : Nat)),
 ((adS e (0 : Nat) : Go.Proofs.Ytljgmgbjfjhjmaa.St)) = (adS e (0 : Nat)),
 (IntKind.i64.min : Int) ≤ 36 * ↑x,
 (36 * ↑x : Int) ≤ IntKind.i64.max,
 (IntKind.i64.min : Int) ≤ ↑x + 38,
 (↑x + 38 : Int) ≤ IntKind.i64.max,
 (↑x : Int) + (38 : Int) ≠ (0 : Int),
 ((IntKind.i64.wrap (((36 : Int) * (↑x : Int)).tdiv ((↑x : Int) + (38 : Int))) : Int)) = ((↑r : Int)),
 ((([ck ((↑x : Int) + (38 : Int) ≠ (0 : Int))], AV.c (Value.int IntKind.i64 (IntKind.i64.wrap (((36 : Int) * (↑x : Int)).tdiv ((↑x : Int) + (38 : Int))))), Cmd.nop).snd.snd.cells : List AV)) = ([]),
 (IntKind.i64.min : Int) ≤ ↑y + ↑r,
 (↑y + ↑r : Int) ≤ IntKind.i64.max,
 (↑y + ↑r : Int) = ↑v], by kernel_rfl, ?_⟩
  all_goals try simp (disch := omega) only [std]
  all_goals repeat' apply And.intro
  all_goals first | exact True.intro | omega | with_reducible rfl | with_reducible assumption | exact hq | exact hr | (rw [he0] at *; exact hq) | (rw [he0]; exact hq) | rfl | exact he0 | exact hq | exact he | exact hr | exact hv | rfl


theorem adaF_all (d n e0 q e x y r v : Nat) (hd : d ≤ 2147483647) (n1 : 1 ≤ n) (n2 : n ≤ 1000) (he0 : d / 2 = e0) (hq : IntKind.i64.wrap ((e0 : Int).tdiv (n : Int)) = (q : Nat)) (hql : q ≤ 2147483647) (he : e0 + q = e) (hx : x ≤ 4294967294) (hy : y ≤ 720) (hr : IntKind.i64.wrap ((36 * (x : Int)).tdiv ((x : Int) + 38)) = (r : Nat)) (hv : y + r = v) (hrl : r ≤ 4294967294 * 36) : ∃ (h : Hints) (p : List Prop), outcome Try.prog 28 (aBody Try.prog cl0 h (lpBy ([(6, ⟨lbody Try.prog 28 6, ⟨[], [7, 8], []⟩, adS e 0, .exit 0, adS x y⟩)])) 60 28 ([.c (.int .i64 d), .c (.int .i64 n), .c (.bool false)]) ([])) = some (.c (.int .i64 v), p) ∧ allP p := by
  refine ⟨⟨true, ([(10, ⟨.c (.int .i64 (d / 2 : Nat)), none⟩), (13, ⟨.c (.int .i64 e0), none⟩), (17, ⟨.c (.int .i64 q), some []⟩), (18, ⟨.c (.int .i64 e), none⟩), (30, ⟨.c (.int .i64 r), some []⟩), (31, ⟨.c (.int .i64 v), none⟩)])⟩, [((IntKind.i64.wrap ((↑d : Int).tdiv (2 : Int)) : Int)) = ((↑(d / (2 : Nat)) : Int)),
 (↑n : Int) ≠ (0 : Int),
 ((IntKind.i64.wrap ((↑(d / (2 : Nat)) : Int).tdiv (↑n : Int)) : Int)) = ((↑q : Int)),
 ((([ck ((↑n : Int) ≠ (0 : Int))], AV.c (Value.int IntKind.i64 (IntKind.i64.wrap ((↑(d / (2 : Nat)) : Int).tdiv (↑n : Int)))), Cmd.nop).snd.snd.cells : List AV)) = ([]),
 (IntKind.i64.min : Int) ≤ ↑(d / 2) + ↑q,
 (↑(d / 2) + ↑q : Int) ≤ IntKind.i64.max,
 (↑(d / 2) + ↑q : Int) = ↑e,
 ((lbody Try.prog (28 : FuncId) (6 : Nat) : Go.Code)) = (lbody Try.prog (28 : FuncId) (6 : Nat)),
 ((adS e (0 : Nat) : Go.Proofs.Ytljgmgbjfjhjmaa.St)) = (adS e (0 : Nat)),
 (IntKind.i64.min : Int) ≤ 36 * ↑x,
 (36 * ↑x : Int) ≤ IntKind.i64.max,
 (IntKind.i64.min : Int) ≤ ↑x + 38,
 (↑x + 38 : Int) ≤ IntKind.i64.max,
 (↑x : Int) + (38 : Int) ≠ (0 : Int),
 ((IntKind.i64.wrap (((36 : Int) * (↑x : Int)).tdiv ((↑x : Int) + (38 : Int))) : Int)) = ((↑r : Int)),
 ((([ck ((↑x : Int) + (38 : Int) ≠ (0 : Int))], AV.c (Value.int IntKind.i64 (IntKind.i64.wrap (((36 : Int) * (↑x : Int)).tdiv ((↑x : Int) + (38 : Int))))), Cmd.nop).snd.snd.cells : List AV)) = ([]),
 (IntKind.i64.min : Int) ≤ ↑y + ↑r,
 (↑y + ↑r : Int) ≤ IntKind.i64.max,
 (↑y + ↑r : Int) = ↑v], by kernel_rfl, ?_⟩
  all_goals try simp (disch := omega) only [std]
  all_goals repeat' apply And.intro
  all_goals first | exact True.intro | omega | with_reducible rfl | with_reducible assumption | exact hq | exact hr | (rw [he0] at *; exact hq) | (rw [he0]; exact hq) | rfl | exact he0 | exact hq | exact he | exact hr | exact hv | rfl

def adSpec : Spec
  | [.c (.int .i64 d), .c (.int .i64 n), .c (.bool f)] => some (.c (.int .i64 (adp d.toNat n.toNat f)), [0 ≤ d, d ≤ 2147483647, 1 ≤ n, n ≤ 1000])
  | _ => none

theorem adp_eq (d n : Nat) (f : Bool) : adp d n f = (adEnd 20 (adE d n f) 0).2 + 36 * (adEnd 20 (adE d n f) 0).1 / ((adEnd 20 (adE d n f) 0).1 + 38) := (adEnd_is 20 _ 0).1

theorem rad_ok : SpecOK Try.prog 28 adSpec := by
  refine spec_of mixed cl0_ok fun args r q hs hq => ?_
  unfold adSpec at hs
  split at hs
  · rename_i d n f
    simp only [Option.some.injEq, Prod.mk.injEq] at hs
    obtain ⟨rfl, rfl⟩ := hs
    simp only [allP, and_true] at hq ⊢
    obtain ⟨h0, h1, h2, h3⟩ := hq
    obtain ⟨d, rfl⟩ : ∃ k : Nat, d = (k : Int) := ⟨d.toNat, by omega⟩
    obtain ⟨n, rfl⟩ : ∃ k : Nat, n = (k : Int) := ⟨n.toNat, by omega⟩
    rw [Int.toNat_natCast, Int.toNat_natCast, adp_eq]
    have hE : adE d n f = (if f = true then d / 700 else d / 2) + (if f = true then d / 700 else d / 2) / n := rfl
    have he0 : (if f = true then d / 700 else d / 2) ≤ 1073741823 := by split <;> omega
    have hq := Nat.div_le_self (if f = true then d / 700 else d / 2) n
    obtain ⟨k1, k2, k3⟩ := adEnd_is 20 (adE d n f) 0
    have hw := ad_walk (adE d n f) (by omega)
    generalize hx : (adEnd 20 (adE d n f) 0).1 = x at *
    generalize hy : (adEnd 20 (adE d n f) 0).2 = y at *
    have hr : IntKind.i64.wrap ((36 * (x : Int)).tdiv ((x : Int) + 38)) = ((36 * x / (x + 38) : Nat) : Int) := by
      have := tdNat (m := 36 * x) (x + 38) (by omega)
      rw [← this]
      simp
    have hrl := Nat.div_le_self (36 * x) (x + 38)
    cases f with
    | true =>
      simp only [if_true] at hE he0 hq
      obtain ⟨hh, p, e, hp⟩ := adaT_all d n _ _ _ x y _ _ (by omega) (by omega) (by omega) rfl (tdNat n (by omega)) (by omega) hE.symm (by omega) (by omega) hr rfl (by omega)
      exact ⟨_, _, _, _, lpBy_cons lpBy_nil List.nodup_nil hw, e, hp⟩
    | false =>
      simp only [Bool.false_eq_true, if_false] at hE he0 hq
      obtain ⟨hh, p, e, hp⟩ := adaF_all d n _ _ _ x y _ _ (by omega) (by omega) (by omega) rfl (tdNat n (by omega)) (by omega) hE.symm (by omega) (by omega) hr rfl (by omega)
      exact ⟨_, _, _, _, lpBy_cons lpBy_nil List.nodup_nil hw, e, hp⟩
  · simp at hs

end Go.Proofs.Ytljgmgbjfjhjmaa
