/- Bytes that are encoded: which are in which set; digits. -/
import Derived.Test.YtfaffnemfndkfabLevN
import Derived.Test.YtfaffnemfndkfabRows
namespace Go.Proofs.Ytfaffnemfndkfab
open Go.RowKit
set_option linter.unusedVariables false
set_option linter.unusedSimpArgs false

instance gvHere : Gv := ⟨fun _ => none⟩
theorem glOK_none (w : World) : GlOK Try.prog w := fun g l h => by cases h

theorem mixed : Try.prog.follows .mixedOrders = true := by kernel_rfl

noncomputable def cl0 : CallT := aCall Try.prog (sgBy []) 500 8
theorem cl0_ok : CallOK Try.prog cl0 := aCall_ok mixed sgBy_nil 500 8

def hasI (l : List Int) (n : Int) : Bool := l.any (· == n)

/-- Is a byte in a set? -/
def inI (s n : Int) : Bool :=
  decide (0 ≤ s ∧ s ≤ 6) && (decide (n < 32 ∨ 126 < n)
  || (decide (s = 1) && hasI [32, 34, 60, 62, 96] n)
  || (decide (2 ≤ s) && hasI [32, 34, 35, 60, 62] n)
  || (decide (s = 3) && n == 39)
  || (decide (4 ≤ s) && hasI [63, 94, 96, 123, 125] n)
  || (decide (5 ≤ s) && hasI [47, 58, 59, 61, 64, 91, 92, 93, 124] n)
  || (decide (6 ≤ s) && hasI [36, 37, 38, 43, 44] n))

theorem inI_out {s n : Int} (h : ¬ (0 ≤ s ∧ s ≤ 6)) : inI s n = false := by
  unfold inI
  rw [decide_eq_false h]
  rfl

def oneB (l : List UInt8) (n : Int) : Bool := decide (Lib.indexByte l n.toNat.toUInt8 ≥ 0)

def oneSpec : Spec
  | [.c (.string s), .c (.int .u8 n)] => some (.c (.bool (oneB (sb s) n)), [])
  | _ => none

theorem one_1 (l : List UInt8) (n : Int) : outcome Try.prog 11 (aBody Try.prog cl0 ⟨true, bs [] ++ ([])⟩ (lpBy ([])) 60 11 ([.c (str l), .c (.int .u8 n)]) ([])) = some ((AV.c ((Value.bool (decide (Lib.indexByte l n.toNat.toUInt8 ≥ (0 : Int)))))), []) := by kernel_rfl

theorem one_all (l : List UInt8) (n : Int)  : ∃ (h : Hints) (p : List Prop), outcome Try.prog 11 (aBody Try.prog cl0 h (lpBy ([])) 60 11 ([.c (str l), .c (.int .u8 n)]) ([])) = some (.c (.bool (oneB l n)), p) ∧ allP p := by
  have eR := one_1 l n
  refine ⟨_, _, eR.trans (congrArg (fun r => some (r, _)) ?_), ?_⟩
  · rfl
  · trivial

theorem one_ok : SpecOK Try.prog 11 oneSpec := by
  refine spec_of mixed cl0_ok fun args r q hs hq => ?_
  unfold oneSpec at hs
  split at hs
  · rename_i s n
    simp only [Option.some.injEq, Prod.mk.injEq] at hs
    obtain ⟨rfl, rfl⟩ := hs
    obtain ⟨⟨⟨l⟩⟩, rfl⟩ : ∃ b : ByteArray, b = s := ⟨s, rfl⟩
    obtain ⟨h, p, e, hp⟩ := one_all l n
    exact ⟨_, _, _, _, lpBy_nil, e, hp⟩
  · simp at hs

theorem one_has {l : List UInt8} {n : Int} (h0 : 0 ≤ n) (h1 : n < 256) (m : List Int) (h : ∀ k : Fin 256, oneB l (k.val : Int) = hasI m (k.val : Int)) : oneB l n = hasI m n := by
  have e : ((n.toNat : Nat) : Int) = n := Int.toNat_of_nonneg h0
  have := h ⟨n.toNat, by omega⟩
  simp only [e] at this
  exact this

noncomputable def cl1 : CallT := aCall Try.prog (sgBy [(11, oneSpec)]) 500 8
theorem cl1_ok : CallOK Try.prog cl1 := aCall_ok mixed (sgBy_cons one_ok sgBy_nil) 500 8

/-! The sets that others ask for. -/

theorem in2_1 (n : Int) : outcome Try.prog 7 (aBody Try.prog cl1 ⟨true, bs [(27, true)] ++ ([])⟩ (lpBy ([])) 60 7 ([.c (.int .i64 2), .c (.int .u8 n)]) ([])) = some ((AV.c ((Value.bool true))), [((oneB [(32 : UInt8), (34 : UInt8), (35 : UInt8), (60 : UInt8), (62 : UInt8)] n : Bool)) = (true)]) := by kernel_rfl

theorem in2_2 (n : Int) : outcome Try.prog 7 (aBody Try.prog cl1 ⟨true, bs [(27, false), (29, true)] ++ ([])⟩ (lpBy ([])) 60 7 ([.c (.int .i64 2), .c (.int .u8 n)]) ([])) = some ((AV.c ((Value.bool true))), [((oneB [(32 : UInt8), (34 : UInt8), (35 : UInt8), (60 : UInt8), (62 : UInt8)] n : Bool)) = (false),
 ((decide (n < (32 : Int)) : Bool)) = (true)]) := by kernel_rfl

theorem in2_3 (n : Int) : outcome Try.prog 7 (aBody Try.prog cl1 ⟨true, bs [(27, false), (29, false)] ++ ([])⟩ (lpBy ([])) 60 7 ([.c (.int .i64 2), .c (.int .u8 n)]) ([])) = some ((AV.c ((Value.bool (decide (n > (126 : Int)))))), [((oneB [(32 : UInt8), (34 : UInt8), (35 : UInt8), (60 : UInt8), (62 : UInt8)] n : Bool)) = (false),
 ((decide (n < (32 : Int)) : Bool)) = (false)]) := by kernel_rfl

theorem in2_all (n : Int) (h0 : 0 ≤ n) (h1 : n < 256) : ∃ (h : Hints) (p : List Prop), outcome Try.prog 7 (aBody Try.prog cl1 h (lpBy ([])) 60 7 ([.c (.int .i64 2), .c (.int .u8 n)]) ([])) = some (.c (.bool (inI 2 n)), p) ∧ allP p := by
  cases hc27 : (oneB [(32 : UInt8), (34 : UInt8), (35 : UInt8), (60 : UInt8), (62 : UInt8)] n : Bool) with
  | true =>
    have eR := in2_1 n
    refine ⟨_, _, eR.trans (congrArg (fun r => some (r, _)) ?_), ?_⟩
    · clear eR
      have f1 := one_has h0 h1 (l := [32, 34, 35, 60, 62]) [32, 34, 35, 60, 62] (by decide +kernel)
      have e : ∀ x, inI 2 x = (decide (x < 32 ∨ 126 < x) || (decide ((2 : Int) ≤ 2) && hasI [32, 34, 35, 60, 62] x)) := fun x => by simp [inI]
      rw [e, ← f1]
      refine congrArg (fun b => AV.c (Value.bool b)) ?_
      try simp only [decide_eq_true_eq, decide_eq_false_iff_not] at *
      simp [*]
    · clear eR
      simp only [allP, *, and_self, and_true, true_and]
  | false =>
    cases hc29 : (decide (n < (32 : Int)) : Bool) with
    | true =>
      have eR := in2_2 n
      refine ⟨_, _, eR.trans (congrArg (fun r => some (r, _)) ?_), ?_⟩
      · clear eR
        have f1 := one_has h0 h1 (l := [32, 34, 35, 60, 62]) [32, 34, 35, 60, 62] (by decide +kernel)
        have e : ∀ x, inI 2 x = (decide (x < 32 ∨ 126 < x) || (decide ((2 : Int) ≤ 2) && hasI [32, 34, 35, 60, 62] x)) := fun x => by simp [inI]
        rw [e, ← f1]
        refine congrArg (fun b => AV.c (Value.bool b)) ?_
        try simp only [decide_eq_true_eq, decide_eq_false_iff_not] at *
        simp [*]
      · clear eR
        simp only [allP, *, and_self, and_true, true_and]
    | false =>
      have eR := in2_3 n
      refine ⟨_, _, eR.trans (congrArg (fun r => some (r, _)) ?_), ?_⟩
      · clear eR
        have f1 := one_has h0 h1 (l := [32, 34, 35, 60, 62]) [32, 34, 35, 60, 62] (by decide +kernel)
        have e : ∀ x, inI 2 x = (decide (x < 32 ∨ 126 < x) || (decide ((2 : Int) ≤ 2) && hasI [32, 34, 35, 60, 62] x)) := fun x => by simp [inI]
        rw [e, ← f1]
        refine congrArg (fun b => AV.c (Value.bool b)) ?_
        try simp only [decide_eq_true_eq, decide_eq_false_iff_not] at *
        simp [*]
      · clear eR
        simp only [allP, *, and_self, and_true, true_and]


theorem in0_1 (n : Int) : outcome Try.prog 7 (aBody Try.prog cl1 ⟨true, bs [(29, true)] ++ ([])⟩ (lpBy ([])) 60 7 ([.c (.int .i64 0), .c (.int .u8 n)]) ([])) = some ((AV.c ((Value.bool true))), [((decide (n < (32 : Int)) : Bool)) = (true)]) := by kernel_rfl

theorem in0_2 (n : Int) : outcome Try.prog 7 (aBody Try.prog cl1 ⟨true, bs [(29, false)] ++ ([])⟩ (lpBy ([])) 60 7 ([.c (.int .i64 0), .c (.int .u8 n)]) ([])) = some ((AV.c ((Value.bool (decide (n > (126 : Int)))))), [((decide (n < (32 : Int)) : Bool)) = (false)]) := by kernel_rfl

theorem in0_all (n : Int) (h0 : 0 ≤ n) (h1 : n < 256) : ∃ (h : Hints) (p : List Prop), outcome Try.prog 7 (aBody Try.prog cl1 h (lpBy ([])) 60 7 ([.c (.int .i64 0), .c (.int .u8 n)]) ([])) = some (.c (.bool (inI 0 n)), p) ∧ allP p := by
  cases hc29 : (decide (n < (32 : Int)) : Bool) with
  | true =>
    have eR := in0_1 n
    refine ⟨_, _, eR.trans (congrArg (fun r => some (r, _)) ?_), ?_⟩
    · clear eR
      have f1 := one_has h0 h1 (l := [32, 34, 35, 60, 62]) [32, 34, 35, 60, 62] (by decide +kernel)
      have e : ∀ x, inI 0 x = (decide (x < 32 ∨ 126 < x) || (decide ((2 : Int) ≤ 0) && hasI [32, 34, 35, 60, 62] x)) := fun x => by simp [inI]
      rw [e, ← f1]
      refine congrArg (fun b => AV.c (Value.bool b)) ?_
      try simp only [decide_eq_true_eq, decide_eq_false_iff_not] at *
      simp [*]
    · clear eR
      simp only [allP, *, and_self, and_true, true_and]
  | false =>
    have eR := in0_2 n
    refine ⟨_, _, eR.trans (congrArg (fun r => some (r, _)) ?_), ?_⟩
    · clear eR
      have f1 := one_has h0 h1 (l := [32, 34, 35, 60, 62]) [32, 34, 35, 60, 62] (by decide +kernel)
      have e : ∀ x, inI 0 x = (decide (x < 32 ∨ 126 < x) || (decide ((2 : Int) ≤ 0) && hasI [32, 34, 35, 60, 62] x)) := fun x => by simp [inI]
      rw [e, ← f1]
      refine congrArg (fun b => AV.c (Value.bool b)) ?_
      try simp only [decide_eq_true_eq, decide_eq_false_iff_not] at *
      simp [*]
    · clear eR
      simp only [allP, *, and_self, and_true, true_and]

def in02Spec : Spec
  | [.c (.int .i64 2), .c (.int .u8 n)] => some (.c (.bool (inI 2 n)), [0 ≤ n, n < 256])
  | [.c (.int .i64 0), .c (.int .u8 n)] => some (.c (.bool (inI 0 n)), [0 ≤ n, n < 256])
  | _ => none

theorem in02_ok : SpecOK Try.prog 7 in02Spec := by
  refine spec_of mixed cl1_ok fun args r q hs hq => ?_
  unfold in02Spec at hs
  split at hs
  · rename_i n
    simp only [Option.some.injEq, Prod.mk.injEq] at hs
    obtain ⟨rfl, rfl⟩ := hs
    obtain ⟨h0, h1, _⟩ := hq
    obtain ⟨h, p, e, hp⟩ := in2_all n h0 h1
    exact ⟨_, _, _, _, lpBy_nil, e, hp⟩
  · rename_i n
    simp only [Option.some.injEq, Prod.mk.injEq] at hs
    obtain ⟨rfl, rfl⟩ := hs
    obtain ⟨h0, h1, _⟩ := hq
    obtain ⟨h, p, e, hp⟩ := in0_all n h0 h1
    exact ⟨_, _, _, _, lpBy_nil, e, hp⟩
  · simp at hs

noncomputable def cl2 : CallT := aCall Try.prog (sgBy [(11, oneSpec), (7, in02Spec)]) 500 8
theorem cl2_ok : CallOK Try.prog cl2 := aCall_ok mixed (sgBy_cons one_ok (sgBy_cons in02_ok sgBy_nil)) 500 8

theorem in_1 (s n : Int) : outcome Try.prog 7 (aBody Try.prog cl2 ⟨true, bs [(7, true), (21, true)] ++ ([])⟩ (lpBy ([])) 60 7 ([.c (.int .i64 s), .c (.int .u8 n)]) ([])) = some ((AV.c ((Value.bool true))), [((s == (6 : Int) : Bool)) = (true),
 ((oneB [(36 : UInt8), (37 : UInt8), (38 : UInt8), (43 : UInt8), (44 : UInt8)] n : Bool)) = (true)]) := by kernel_rfl

theorem in_2 (s n : Int) : outcome Try.prog 7 (aBody Try.prog cl2 ⟨true, bs [(7, true), (21, false), (23, true)] ++ ([])⟩ (lpBy ([])) 60 7 ([.c (.int .i64 s), .c (.int .u8 n)]) ([])) = some ((AV.c ((Value.bool true))), [((s == (6 : Int) : Bool)) = (true),
 ((oneB [(36 : UInt8), (37 : UInt8), (38 : UInt8), (43 : UInt8), (44 : UInt8)] n : Bool)) = (false),
 ((oneB
  [(47 : UInt8), (58 : UInt8), (59 : UInt8), (61 : UInt8), (64 : UInt8), (91 : UInt8), (92 : UInt8), (93 : UInt8),
    (124 : UInt8)]
  n : Bool)) = (true)]) := by kernel_rfl

theorem in_3 (s n : Int) : outcome Try.prog 7 (aBody Try.prog cl2 ⟨true, bs [(7, true), (21, false), (23, false), (25, true)] ++ ([])⟩ (lpBy ([])) 60 7 ([.c (.int .i64 s), .c (.int .u8 n)]) ([])) = some ((AV.c ((Value.bool true))), [((s == (6 : Int) : Bool)) = (true),
 ((oneB [(36 : UInt8), (37 : UInt8), (38 : UInt8), (43 : UInt8), (44 : UInt8)] n : Bool)) = (false),
 ((oneB
  [(47 : UInt8), (58 : UInt8), (59 : UInt8), (61 : UInt8), (64 : UInt8), (91 : UInt8), (92 : UInt8), (93 : UInt8),
    (124 : UInt8)]
  n : Bool)) = (false),
 ((oneB [(63 : UInt8), (94 : UInt8), (96 : UInt8), (123 : UInt8), (125 : UInt8)] n : Bool)) = (true)]) := by kernel_rfl

theorem in_4 (s n : Int) : outcome Try.prog 7 (aBody Try.prog cl2 ⟨true, bs [(7, true), (21, false), (23, false), (25, false), (27, true)] ++ ([])⟩ (lpBy ([])) 60 7 ([.c (.int .i64 s), .c (.int .u8 n)]) ([])) = some ((AV.c ((Value.bool true))), [((s == (6 : Int) : Bool)) = (true),
 ((oneB [(36 : UInt8), (37 : UInt8), (38 : UInt8), (43 : UInt8), (44 : UInt8)] n : Bool)) = (false),
 ((oneB
  [(47 : UInt8), (58 : UInt8), (59 : UInt8), (61 : UInt8), (64 : UInt8), (91 : UInt8), (92 : UInt8), (93 : UInt8),
    (124 : UInt8)]
  n : Bool)) = (false),
 ((oneB [(63 : UInt8), (94 : UInt8), (96 : UInt8), (123 : UInt8), (125 : UInt8)] n : Bool)) = (false),
 ((oneB [(32 : UInt8), (34 : UInt8), (35 : UInt8), (60 : UInt8), (62 : UInt8)] n : Bool)) = (true)]) := by kernel_rfl

theorem in_5 (s n : Int) : outcome Try.prog 7 (aBody Try.prog cl2 ⟨true, bs [(7, true), (21, false), (23, false), (25, false), (27, false), (29, true)] ++ ([])⟩ (lpBy ([])) 60 7 ([.c (.int .i64 s), .c (.int .u8 n)]) ([])) = some ((AV.c ((Value.bool true))), [((s == (6 : Int) : Bool)) = (true),
 ((oneB [(36 : UInt8), (37 : UInt8), (38 : UInt8), (43 : UInt8), (44 : UInt8)] n : Bool)) = (false),
 ((oneB
  [(47 : UInt8), (58 : UInt8), (59 : UInt8), (61 : UInt8), (64 : UInt8), (91 : UInt8), (92 : UInt8), (93 : UInt8),
    (124 : UInt8)]
  n : Bool)) = (false),
 ((oneB [(63 : UInt8), (94 : UInt8), (96 : UInt8), (123 : UInt8), (125 : UInt8)] n : Bool)) = (false),
 ((oneB [(32 : UInt8), (34 : UInt8), (35 : UInt8), (60 : UInt8), (62 : UInt8)] n : Bool)) = (false),
 ((decide (n < (32 : Int)) : Bool)) = (true)]) := by kernel_rfl

theorem in_6 (s n : Int) : outcome Try.prog 7 (aBody Try.prog cl2 ⟨true, bs [(7, true), (21, false), (23, false), (25, false), (27, false), (29, false)] ++ ([])⟩ (lpBy ([])) 60 7 ([.c (.int .i64 s), .c (.int .u8 n)]) ([])) = some ((AV.c ((Value.bool (decide (n > (126 : Int)))))), [((s == (6 : Int) : Bool)) = (true),
 ((oneB [(36 : UInt8), (37 : UInt8), (38 : UInt8), (43 : UInt8), (44 : UInt8)] n : Bool)) = (false),
 ((oneB
  [(47 : UInt8), (58 : UInt8), (59 : UInt8), (61 : UInt8), (64 : UInt8), (91 : UInt8), (92 : UInt8), (93 : UInt8),
    (124 : UInt8)]
  n : Bool)) = (false),
 ((oneB [(63 : UInt8), (94 : UInt8), (96 : UInt8), (123 : UInt8), (125 : UInt8)] n : Bool)) = (false),
 ((oneB [(32 : UInt8), (34 : UInt8), (35 : UInt8), (60 : UInt8), (62 : UInt8)] n : Bool)) = (false),
 ((decide (n < (32 : Int)) : Bool)) = (false)]) := by kernel_rfl

theorem in_7 (s n : Int) : outcome Try.prog 7 (aBody Try.prog cl2 ⟨true, bs [(7, false), (9, true), (23, true)] ++ ([])⟩ (lpBy ([])) 60 7 ([.c (.int .i64 s), .c (.int .u8 n)]) ([])) = some ((AV.c ((Value.bool true))), [((s == (6 : Int) : Bool)) = (false),
 ((s == (5 : Int) : Bool)) = (true),
 ((oneB
  [(47 : UInt8), (58 : UInt8), (59 : UInt8), (61 : UInt8), (64 : UInt8), (91 : UInt8), (92 : UInt8), (93 : UInt8),
    (124 : UInt8)]
  n : Bool)) = (true)]) := by kernel_rfl

theorem in_8 (s n : Int) : outcome Try.prog 7 (aBody Try.prog cl2 ⟨true, bs [(7, false), (9, true), (23, false), (25, true)] ++ ([])⟩ (lpBy ([])) 60 7 ([.c (.int .i64 s), .c (.int .u8 n)]) ([])) = some ((AV.c ((Value.bool true))), [((s == (6 : Int) : Bool)) = (false),
 ((s == (5 : Int) : Bool)) = (true),
 ((oneB
  [(47 : UInt8), (58 : UInt8), (59 : UInt8), (61 : UInt8), (64 : UInt8), (91 : UInt8), (92 : UInt8), (93 : UInt8),
    (124 : UInt8)]
  n : Bool)) = (false),
 ((oneB [(63 : UInt8), (94 : UInt8), (96 : UInt8), (123 : UInt8), (125 : UInt8)] n : Bool)) = (true)]) := by kernel_rfl

theorem in_9 (s n : Int) : outcome Try.prog 7 (aBody Try.prog cl2 ⟨true, bs [(7, false), (9, true), (23, false), (25, false), (27, true)] ++ ([])⟩ (lpBy ([])) 60 7 ([.c (.int .i64 s), .c (.int .u8 n)]) ([])) = some ((AV.c ((Value.bool true))), [((s == (6 : Int) : Bool)) = (false),
 ((s == (5 : Int) : Bool)) = (true),
 ((oneB
  [(47 : UInt8), (58 : UInt8), (59 : UInt8), (61 : UInt8), (64 : UInt8), (91 : UInt8), (92 : UInt8), (93 : UInt8),
    (124 : UInt8)]
  n : Bool)) = (false),
 ((oneB [(63 : UInt8), (94 : UInt8), (96 : UInt8), (123 : UInt8), (125 : UInt8)] n : Bool)) = (false),
 ((oneB [(32 : UInt8), (34 : UInt8), (35 : UInt8), (60 : UInt8), (62 : UInt8)] n : Bool)) = (true)]) := by kernel_rfl

theorem in_10 (s n : Int) : outcome Try.prog 7 (aBody Try.prog cl2 ⟨true, bs [(7, false), (9, true), (23, false), (25, false), (27, false), (29, true)] ++ ([])⟩ (lpBy ([])) 60 7 ([.c (.int .i64 s), .c (.int .u8 n)]) ([])) = some ((AV.c ((Value.bool true))), [((s == (6 : Int) : Bool)) = (false),
 ((s == (5 : Int) : Bool)) = (true),
 ((oneB
  [(47 : UInt8), (58 : UInt8), (59 : UInt8), (61 : UInt8), (64 : UInt8), (91 : UInt8), (92 : UInt8), (93 : UInt8),
    (124 : UInt8)]
  n : Bool)) = (false),
 ((oneB [(63 : UInt8), (94 : UInt8), (96 : UInt8), (123 : UInt8), (125 : UInt8)] n : Bool)) = (false),
 ((oneB [(32 : UInt8), (34 : UInt8), (35 : UInt8), (60 : UInt8), (62 : UInt8)] n : Bool)) = (false),
 ((decide (n < (32 : Int)) : Bool)) = (true)]) := by kernel_rfl

theorem in_11 (s n : Int) : outcome Try.prog 7 (aBody Try.prog cl2 ⟨true, bs [(7, false), (9, true), (23, false), (25, false), (27, false), (29, false)] ++ ([])⟩ (lpBy ([])) 60 7 ([.c (.int .i64 s), .c (.int .u8 n)]) ([])) = some ((AV.c ((Value.bool (decide (n > (126 : Int)))))), [((s == (6 : Int) : Bool)) = (false),
 ((s == (5 : Int) : Bool)) = (true),
 ((oneB
  [(47 : UInt8), (58 : UInt8), (59 : UInt8), (61 : UInt8), (64 : UInt8), (91 : UInt8), (92 : UInt8), (93 : UInt8),
    (124 : UInt8)]
  n : Bool)) = (false),
 ((oneB [(63 : UInt8), (94 : UInt8), (96 : UInt8), (123 : UInt8), (125 : UInt8)] n : Bool)) = (false),
 ((oneB [(32 : UInt8), (34 : UInt8), (35 : UInt8), (60 : UInt8), (62 : UInt8)] n : Bool)) = (false),
 ((decide (n < (32 : Int)) : Bool)) = (false)]) := by kernel_rfl

theorem in_12 (s n : Int) : outcome Try.prog 7 (aBody Try.prog cl2 ⟨true, bs [(7, false), (9, false), (11, true), (25, true)] ++ ([])⟩ (lpBy ([])) 60 7 ([.c (.int .i64 s), .c (.int .u8 n)]) ([])) = some ((AV.c ((Value.bool true))), [((s == (6 : Int) : Bool)) = (false),
 ((s == (5 : Int) : Bool)) = (false),
 ((s == (4 : Int) : Bool)) = (true),
 ((oneB [(63 : UInt8), (94 : UInt8), (96 : UInt8), (123 : UInt8), (125 : UInt8)] n : Bool)) = (true)]) := by kernel_rfl

theorem in_13 (s n : Int) : outcome Try.prog 7 (aBody Try.prog cl2 ⟨true, bs [(7, false), (9, false), (11, true), (25, false), (27, true)] ++ ([])⟩ (lpBy ([])) 60 7 ([.c (.int .i64 s), .c (.int .u8 n)]) ([])) = some ((AV.c ((Value.bool true))), [((s == (6 : Int) : Bool)) = (false),
 ((s == (5 : Int) : Bool)) = (false),
 ((s == (4 : Int) : Bool)) = (true),
 ((oneB [(63 : UInt8), (94 : UInt8), (96 : UInt8), (123 : UInt8), (125 : UInt8)] n : Bool)) = (false),
 ((oneB [(32 : UInt8), (34 : UInt8), (35 : UInt8), (60 : UInt8), (62 : UInt8)] n : Bool)) = (true)]) := by kernel_rfl

theorem in_14 (s n : Int) : outcome Try.prog 7 (aBody Try.prog cl2 ⟨true, bs [(7, false), (9, false), (11, true), (25, false), (27, false), (29, true)] ++ ([])⟩ (lpBy ([])) 60 7 ([.c (.int .i64 s), .c (.int .u8 n)]) ([])) = some ((AV.c ((Value.bool true))), [((s == (6 : Int) : Bool)) = (false),
 ((s == (5 : Int) : Bool)) = (false),
 ((s == (4 : Int) : Bool)) = (true),
 ((oneB [(63 : UInt8), (94 : UInt8), (96 : UInt8), (123 : UInt8), (125 : UInt8)] n : Bool)) = (false),
 ((oneB [(32 : UInt8), (34 : UInt8), (35 : UInt8), (60 : UInt8), (62 : UInt8)] n : Bool)) = (false),
 ((decide (n < (32 : Int)) : Bool)) = (true)]) := by kernel_rfl

theorem in_15 (s n : Int) : outcome Try.prog 7 (aBody Try.prog cl2 ⟨true, bs [(7, false), (9, false), (11, true), (25, false), (27, false), (29, false)] ++ ([])⟩ (lpBy ([])) 60 7 ([.c (.int .i64 s), .c (.int .u8 n)]) ([])) = some ((AV.c ((Value.bool (decide (n > (126 : Int)))))), [((s == (6 : Int) : Bool)) = (false),
 ((s == (5 : Int) : Bool)) = (false),
 ((s == (4 : Int) : Bool)) = (true),
 ((oneB [(63 : UInt8), (94 : UInt8), (96 : UInt8), (123 : UInt8), (125 : UInt8)] n : Bool)) = (false),
 ((oneB [(32 : UInt8), (34 : UInt8), (35 : UInt8), (60 : UInt8), (62 : UInt8)] n : Bool)) = (false),
 ((decide (n < (32 : Int)) : Bool)) = (false)]) := by kernel_rfl

theorem in_16 (s n : Int) : outcome Try.prog 7 (aBody Try.prog cl2 ⟨true, bs [(7, false), (9, false), (11, false), (13, true), (27, true)] ++ ([])⟩ (lpBy ([])) 60 7 ([.c (.int .i64 s), .c (.int .u8 n)]) ([])) = some ((AV.c ((Value.bool true))), [((s == (6 : Int) : Bool)) = (false),
 ((s == (5 : Int) : Bool)) = (false),
 ((s == (4 : Int) : Bool)) = (false),
 ((s == (2 : Int) : Bool)) = (true),
 ((oneB [(32 : UInt8), (34 : UInt8), (35 : UInt8), (60 : UInt8), (62 : UInt8)] n : Bool)) = (true)]) := by kernel_rfl

theorem in_17 (s n : Int) : outcome Try.prog 7 (aBody Try.prog cl2 ⟨true, bs [(7, false), (9, false), (11, false), (13, true), (27, false), (29, true)] ++ ([])⟩ (lpBy ([])) 60 7 ([.c (.int .i64 s), .c (.int .u8 n)]) ([])) = some ((AV.c ((Value.bool true))), [((s == (6 : Int) : Bool)) = (false),
 ((s == (5 : Int) : Bool)) = (false),
 ((s == (4 : Int) : Bool)) = (false),
 ((s == (2 : Int) : Bool)) = (true),
 ((oneB [(32 : UInt8), (34 : UInt8), (35 : UInt8), (60 : UInt8), (62 : UInt8)] n : Bool)) = (false),
 ((decide (n < (32 : Int)) : Bool)) = (true)]) := by kernel_rfl

theorem in_18 (s n : Int) : outcome Try.prog 7 (aBody Try.prog cl2 ⟨true, bs [(7, false), (9, false), (11, false), (13, true), (27, false), (29, false)] ++ ([])⟩ (lpBy ([])) 60 7 ([.c (.int .i64 s), .c (.int .u8 n)]) ([])) = some ((AV.c ((Value.bool (decide (n > (126 : Int)))))), [((s == (6 : Int) : Bool)) = (false),
 ((s == (5 : Int) : Bool)) = (false),
 ((s == (4 : Int) : Bool)) = (false),
 ((s == (2 : Int) : Bool)) = (true),
 ((oneB [(32 : UInt8), (34 : UInt8), (35 : UInt8), (60 : UInt8), (62 : UInt8)] n : Bool)) = (false),
 ((decide (n < (32 : Int)) : Bool)) = (false)]) := by kernel_rfl

theorem in_19 (s n : Int) : outcome Try.prog 7 (aBody Try.prog cl2 ⟨true, bs [(7, false), (9, false), (11, false), (13, false), (15, true), (29, true)] ++ ([])⟩ (lpBy ([])) 60 7 ([.c (.int .i64 s), .c (.int .u8 n)]) ([])) = some ((AV.c ((Value.bool true))), [((s == (6 : Int) : Bool)) = (false),
 ((s == (5 : Int) : Bool)) = (false),
 ((s == (4 : Int) : Bool)) = (false),
 ((s == (2 : Int) : Bool)) = (false),
 ((s == (0 : Int) : Bool)) = (true),
 ((decide (n < (32 : Int)) : Bool)) = (true)]) := by kernel_rfl

theorem in_20 (s n : Int) : outcome Try.prog 7 (aBody Try.prog cl2 ⟨true, bs [(7, false), (9, false), (11, false), (13, false), (15, true), (29, false)] ++ ([])⟩ (lpBy ([])) 60 7 ([.c (.int .i64 s), .c (.int .u8 n)]) ([])) = some ((AV.c ((Value.bool (decide (n > (126 : Int)))))), [((s == (6 : Int) : Bool)) = (false),
 ((s == (5 : Int) : Bool)) = (false),
 ((s == (4 : Int) : Bool)) = (false),
 ((s == (2 : Int) : Bool)) = (false),
 ((s == (0 : Int) : Bool)) = (true),
 ((decide (n < (32 : Int)) : Bool)) = (false)]) := by kernel_rfl

theorem in_21 (s n : Int) : outcome Try.prog 7 (aBody Try.prog cl2 ⟨true, bs [(7, false), (9, false), (11, false), (13, false), (15, false), (17, true), (35, true)] ++ ([])⟩ (lpBy ([])) 60 7 ([.c (.int .i64 s), .c (.int .u8 n)]) ([])) = some ((AV.c ((Value.bool true))), [((s == (6 : Int) : Bool)) = (false),
 ((s == (5 : Int) : Bool)) = (false),
 ((s == (4 : Int) : Bool)) = (false),
 ((s == (2 : Int) : Bool)) = (false),
 ((s == (0 : Int) : Bool)) = (false),
 ((s == (3 : Int) : Bool)) = (true),
 ((n == (39 : Int) : Bool)) = (true)]) := by kernel_rfl

theorem in_22 (s n : Int) : outcome Try.prog 7 (aBody Try.prog cl2 ⟨true, bs [(7, false), (9, false), (11, false), (13, false), (15, false), (17, true), (35, false)] ++ ([])⟩ (lpBy ([])) 60 7 ([.c (.int .i64 s), .c (.int .u8 n)]) ([])) = some ((AV.c ((Value.bool (inI (2 : Int) n)))), [((s == (6 : Int) : Bool)) = (false),
 ((s == (5 : Int) : Bool)) = (false),
 ((s == (4 : Int) : Bool)) = (false),
 ((s == (2 : Int) : Bool)) = (false),
 ((s == (0 : Int) : Bool)) = (false),
 ((s == (3 : Int) : Bool)) = (true),
 ((n == (39 : Int) : Bool)) = (false),
 (((0 : Int) : Int) ≤ (n)),
 ((n : Int) < ((256 : Int)))]) := by kernel_rfl

theorem in_23 (s n : Int) : outcome Try.prog 7 (aBody Try.prog cl2 ⟨true, bs [(7, false), (9, false), (11, false), (13, false), (15, false), (17, false), (19, true), (41, true)] ++ ([])⟩ (lpBy ([])) 60 7 ([.c (.int .i64 s), .c (.int .u8 n)]) ([])) = some ((AV.c ((Value.bool true))), [((s == (6 : Int) : Bool)) = (false),
 ((s == (5 : Int) : Bool)) = (false),
 ((s == (4 : Int) : Bool)) = (false),
 ((s == (2 : Int) : Bool)) = (false),
 ((s == (0 : Int) : Bool)) = (false),
 ((s == (3 : Int) : Bool)) = (false),
 ((s == (1 : Int) : Bool)) = (true),
 ((oneB [(32 : UInt8), (34 : UInt8), (60 : UInt8), (62 : UInt8), (96 : UInt8)] n : Bool)) = (true)]) := by kernel_rfl

theorem in_24 (s n : Int) : outcome Try.prog 7 (aBody Try.prog cl2 ⟨true, bs [(7, false), (9, false), (11, false), (13, false), (15, false), (17, false), (19, true), (41, false)] ++ ([])⟩ (lpBy ([])) 60 7 ([.c (.int .i64 s), .c (.int .u8 n)]) ([])) = some ((AV.c ((Value.bool (inI (0 : Int) n)))), [((s == (6 : Int) : Bool)) = (false),
 ((s == (5 : Int) : Bool)) = (false),
 ((s == (4 : Int) : Bool)) = (false),
 ((s == (2 : Int) : Bool)) = (false),
 ((s == (0 : Int) : Bool)) = (false),
 ((s == (3 : Int) : Bool)) = (false),
 ((s == (1 : Int) : Bool)) = (true),
 ((oneB [(32 : UInt8), (34 : UInt8), (60 : UInt8), (62 : UInt8), (96 : UInt8)] n : Bool)) = (false),
 (((0 : Int) : Int) ≤ (n)),
 ((n : Int) < ((256 : Int)))]) := by kernel_rfl

theorem in_25 (s n : Int) : outcome Try.prog 7 (aBody Try.prog cl2 ⟨true, bs [(7, false), (9, false), (11, false), (13, false), (15, false), (17, false), (19, false)] ++ ([])⟩ (lpBy ([])) 60 7 ([.c (.int .i64 s), .c (.int .u8 n)]) ([])) = some ((AV.c ((Value.bool false))), [((s == (6 : Int) : Bool)) = (false),
 ((s == (5 : Int) : Bool)) = (false),
 ((s == (4 : Int) : Bool)) = (false),
 ((s == (2 : Int) : Bool)) = (false),
 ((s == (0 : Int) : Bool)) = (false),
 ((s == (3 : Int) : Bool)) = (false),
 ((s == (1 : Int) : Bool)) = (false)]) := by kernel_rfl

theorem in_all (s n : Int) (h0 : 0 ≤ n) (h1 : n < 256) : ∃ (h : Hints) (p : List Prop), outcome Try.prog 7 (aBody Try.prog cl2 h (lpBy ([])) 60 7 ([.c (.int .i64 s), .c (.int .u8 n)]) ([])) = some (.c (.bool (inI s n)), p) ∧ allP p := by
  cases hc7 : (s == (6 : Int) : Bool) with
  | true =>
    cases hc21 : (oneB [(36 : UInt8), (37 : UInt8), (38 : UInt8), (43 : UInt8), (44 : UInt8)] n : Bool) with
    | true =>
      have eR := in_1 s n
      refine ⟨_, _, eR.trans (congrArg (fun r => some (r, _)) ?_), ?_⟩
      · clear eR
        have f1 := one_has h0 h1 (l := [32, 34, 35, 60, 62]) [32, 34, 35, 60, 62] (by decide +kernel)
        have f2 := one_has h0 h1 (l := [63, 94, 96, 123, 125]) [63, 94, 96, 123, 125] (by decide +kernel)
        have f3 := one_has h0 h1 (l := [47, 58, 59, 61, 64, 91, 92, 93, 124]) [47, 58, 59, 61, 64, 91, 92, 93, 124] (by decide +kernel)
        have f4 := one_has h0 h1 (l := [36, 37, 38, 43, 44]) [36, 37, 38, 43, 44] (by decide +kernel)
        have f5 := one_has h0 h1 (l := [32, 34, 60, 62, 96]) [32, 34, 60, 62, 96] (by decide +kernel)
        simp only [f1, f2, f3, f4, f5, beq_iff_eq, beq_eq_false_iff_ne, decide_eq_true_eq, decide_eq_false_iff_not, ne_eq] at *
        refine congrArg (fun b => AV.c (Value.bool b)) ?_
        clear f1 f2 f3 f4 f5
        first
          | (subst s; simp [inI, *]; done)
          | (rw [inI_out (by omega)])
      · clear eR
        simp only [allP, *, and_self, and_true, true_and]
    | false =>
      cases hc23 : (oneB   [(47 : UInt8), (58 : UInt8), (59 : UInt8), (61 : UInt8), (64 : UInt8), (91 : UInt8), (92 : UInt8), (93 : UInt8),     (124 : UInt8)]   n : Bool) with
      | true =>
        have eR := in_2 s n
        refine ⟨_, _, eR.trans (congrArg (fun r => some (r, _)) ?_), ?_⟩
        · clear eR
          have f1 := one_has h0 h1 (l := [32, 34, 35, 60, 62]) [32, 34, 35, 60, 62] (by decide +kernel)
          have f2 := one_has h0 h1 (l := [63, 94, 96, 123, 125]) [63, 94, 96, 123, 125] (by decide +kernel)
          have f3 := one_has h0 h1 (l := [47, 58, 59, 61, 64, 91, 92, 93, 124]) [47, 58, 59, 61, 64, 91, 92, 93, 124] (by decide +kernel)
          have f4 := one_has h0 h1 (l := [36, 37, 38, 43, 44]) [36, 37, 38, 43, 44] (by decide +kernel)
          have f5 := one_has h0 h1 (l := [32, 34, 60, 62, 96]) [32, 34, 60, 62, 96] (by decide +kernel)
          simp only [f1, f2, f3, f4, f5, beq_iff_eq, beq_eq_false_iff_ne, decide_eq_true_eq, decide_eq_false_iff_not, ne_eq] at *
          refine congrArg (fun b => AV.c (Value.bool b)) ?_
          clear f1 f2 f3 f4 f5
          first
            | (subst s; simp [inI, *]; done)
            | (rw [inI_out (by omega)])
        · clear eR
          simp only [allP, *, and_self, and_true, true_and]
      | false =>
        cases hc25 : (oneB [(63 : UInt8), (94 : UInt8), (96 : UInt8), (123 : UInt8), (125 : UInt8)] n : Bool) with
        | true =>
          have eR := in_3 s n
          refine ⟨_, _, eR.trans (congrArg (fun r => some (r, _)) ?_), ?_⟩
          · clear eR
            have f1 := one_has h0 h1 (l := [32, 34, 35, 60, 62]) [32, 34, 35, 60, 62] (by decide +kernel)
            have f2 := one_has h0 h1 (l := [63, 94, 96, 123, 125]) [63, 94, 96, 123, 125] (by decide +kernel)
            have f3 := one_has h0 h1 (l := [47, 58, 59, 61, 64, 91, 92, 93, 124]) [47, 58, 59, 61, 64, 91, 92, 93, 124] (by decide +kernel)
            have f4 := one_has h0 h1 (l := [36, 37, 38, 43, 44]) [36, 37, 38, 43, 44] (by decide +kernel)
            have f5 := one_has h0 h1 (l := [32, 34, 60, 62, 96]) [32, 34, 60, 62, 96] (by decide +kernel)
            simp only [f1, f2, f3, f4, f5, beq_iff_eq, beq_eq_false_iff_ne, decide_eq_true_eq, decide_eq_false_iff_not, ne_eq] at *
            refine congrArg (fun b => AV.c (Value.bool b)) ?_
            clear f1 f2 f3 f4 f5
            first
              | (subst s; simp [inI, *]; done)
              | (rw [inI_out (by omega)])
          · clear eR
            simp only [allP, *, and_self, and_true, true_and]
        | false =>
          cases hc27 : (oneB [(32 : UInt8), (34 : UInt8), (35 : UInt8), (60 : UInt8), (62 : UInt8)] n : Bool) with
          | true =>
            have eR := in_4 s n
            refine ⟨_, _, eR.trans (congrArg (fun r => some (r, _)) ?_), ?_⟩
            · clear eR
              have f1 := one_has h0 h1 (l := [32, 34, 35, 60, 62]) [32, 34, 35, 60, 62] (by decide +kernel)
              have f2 := one_has h0 h1 (l := [63, 94, 96, 123, 125]) [63, 94, 96, 123, 125] (by decide +kernel)
              have f3 := one_has h0 h1 (l := [47, 58, 59, 61, 64, 91, 92, 93, 124]) [47, 58, 59, 61, 64, 91, 92, 93, 124] (by decide +kernel)
              have f4 := one_has h0 h1 (l := [36, 37, 38, 43, 44]) [36, 37, 38, 43, 44] (by decide +kernel)
              have f5 := one_has h0 h1 (l := [32, 34, 60, 62, 96]) [32, 34, 60, 62, 96] (by decide +kernel)
              simp only [f1, f2, f3, f4, f5, beq_iff_eq, beq_eq_false_iff_ne, decide_eq_true_eq, decide_eq_false_iff_not, ne_eq] at *
              refine congrArg (fun b => AV.c (Value.bool b)) ?_
              clear f1 f2 f3 f4 f5
              first
                | (subst s; simp [inI, *]; done)
                | (rw [inI_out (by omega)])
            · clear eR
              simp only [allP, *, and_self, and_true, true_and]
          | false =>
            cases hc29 : (decide (n < (32 : Int)) : Bool) with
            | true =>
              have eR := in_5 s n
              refine ⟨_, _, eR.trans (congrArg (fun r => some (r, _)) ?_), ?_⟩
              · clear eR
                have f1 := one_has h0 h1 (l := [32, 34, 35, 60, 62]) [32, 34, 35, 60, 62] (by decide +kernel)
                have f2 := one_has h0 h1 (l := [63, 94, 96, 123, 125]) [63, 94, 96, 123, 125] (by decide +kernel)
                have f3 := one_has h0 h1 (l := [47, 58, 59, 61, 64, 91, 92, 93, 124]) [47, 58, 59, 61, 64, 91, 92, 93, 124] (by decide +kernel)
                have f4 := one_has h0 h1 (l := [36, 37, 38, 43, 44]) [36, 37, 38, 43, 44] (by decide +kernel)
                have f5 := one_has h0 h1 (l := [32, 34, 60, 62, 96]) [32, 34, 60, 62, 96] (by decide +kernel)
                simp only [f1, f2, f3, f4, f5, beq_iff_eq, beq_eq_false_iff_ne, decide_eq_true_eq, decide_eq_false_iff_not, ne_eq] at *
                refine congrArg (fun b => AV.c (Value.bool b)) ?_
                clear f1 f2 f3 f4 f5
                first
                  | (subst s; simp [inI, *]; done)
                  | (rw [inI_out (by omega)])
              · clear eR
                simp only [allP, *, and_self, and_true, true_and]
            | false =>
              have eR := in_6 s n
              refine ⟨_, _, eR.trans (congrArg (fun r => some (r, _)) ?_), ?_⟩
              · clear eR
                have f1 := one_has h0 h1 (l := [32, 34, 35, 60, 62]) [32, 34, 35, 60, 62] (by decide +kernel)
                have f2 := one_has h0 h1 (l := [63, 94, 96, 123, 125]) [63, 94, 96, 123, 125] (by decide +kernel)
                have f3 := one_has h0 h1 (l := [47, 58, 59, 61, 64, 91, 92, 93, 124]) [47, 58, 59, 61, 64, 91, 92, 93, 124] (by decide +kernel)
                have f4 := one_has h0 h1 (l := [36, 37, 38, 43, 44]) [36, 37, 38, 43, 44] (by decide +kernel)
                have f5 := one_has h0 h1 (l := [32, 34, 60, 62, 96]) [32, 34, 60, 62, 96] (by decide +kernel)
                simp only [f1, f2, f3, f4, f5, beq_iff_eq, beq_eq_false_iff_ne, decide_eq_true_eq, decide_eq_false_iff_not, ne_eq] at *
                refine congrArg (fun b => AV.c (Value.bool b)) ?_
                clear f1 f2 f3 f4 f5
                first
                  | (subst s; simp [inI, *]; done)
                  | (rw [inI_out (by omega)])
              · clear eR
                simp only [allP, *, and_self, and_true, true_and]
  | false =>
    cases hc9 : (s == (5 : Int) : Bool) with
    | true =>
      cases hc23 : (oneB   [(47 : UInt8), (58 : UInt8), (59 : UInt8), (61 : UInt8), (64 : UInt8), (91 : UInt8), (92 : UInt8), (93 : UInt8),     (124 : UInt8)]   n : Bool) with
      | true =>
        have eR := in_7 s n
        refine ⟨_, _, eR.trans (congrArg (fun r => some (r, _)) ?_), ?_⟩
        · clear eR
          have f1 := one_has h0 h1 (l := [32, 34, 35, 60, 62]) [32, 34, 35, 60, 62] (by decide +kernel)
          have f2 := one_has h0 h1 (l := [63, 94, 96, 123, 125]) [63, 94, 96, 123, 125] (by decide +kernel)
          have f3 := one_has h0 h1 (l := [47, 58, 59, 61, 64, 91, 92, 93, 124]) [47, 58, 59, 61, 64, 91, 92, 93, 124] (by decide +kernel)
          have f4 := one_has h0 h1 (l := [36, 37, 38, 43, 44]) [36, 37, 38, 43, 44] (by decide +kernel)
          have f5 := one_has h0 h1 (l := [32, 34, 60, 62, 96]) [32, 34, 60, 62, 96] (by decide +kernel)
          simp only [f1, f2, f3, f4, f5, beq_iff_eq, beq_eq_false_iff_ne, decide_eq_true_eq, decide_eq_false_iff_not, ne_eq] at *
          refine congrArg (fun b => AV.c (Value.bool b)) ?_
          clear f1 f2 f3 f4 f5
          first
            | (subst s; simp [inI, *]; done)
            | (rw [inI_out (by omega)])
        · clear eR
          simp only [allP, *, and_self, and_true, true_and]
      | false =>
        cases hc25 : (oneB [(63 : UInt8), (94 : UInt8), (96 : UInt8), (123 : UInt8), (125 : UInt8)] n : Bool) with
        | true =>
          have eR := in_8 s n
          refine ⟨_, _, eR.trans (congrArg (fun r => some (r, _)) ?_), ?_⟩
          · clear eR
            have f1 := one_has h0 h1 (l := [32, 34, 35, 60, 62]) [32, 34, 35, 60, 62] (by decide +kernel)
            have f2 := one_has h0 h1 (l := [63, 94, 96, 123, 125]) [63, 94, 96, 123, 125] (by decide +kernel)
            have f3 := one_has h0 h1 (l := [47, 58, 59, 61, 64, 91, 92, 93, 124]) [47, 58, 59, 61, 64, 91, 92, 93, 124] (by decide +kernel)
            have f4 := one_has h0 h1 (l := [36, 37, 38, 43, 44]) [36, 37, 38, 43, 44] (by decide +kernel)
            have f5 := one_has h0 h1 (l := [32, 34, 60, 62, 96]) [32, 34, 60, 62, 96] (by decide +kernel)
            simp only [f1, f2, f3, f4, f5, beq_iff_eq, beq_eq_false_iff_ne, decide_eq_true_eq, decide_eq_false_iff_not, ne_eq] at *
            refine congrArg (fun b => AV.c (Value.bool b)) ?_
            clear f1 f2 f3 f4 f5
            first
              | (subst s; simp [inI, *]; done)
              | (rw [inI_out (by omega)])
          · clear eR
            simp only [allP, *, and_self, and_true, true_and]
        | false =>
          cases hc27 : (oneB [(32 : UInt8), (34 : UInt8), (35 : UInt8), (60 : UInt8), (62 : UInt8)] n : Bool) with
          | true =>
            have eR := in_9 s n
            refine ⟨_, _, eR.trans (congrArg (fun r => some (r, _)) ?_), ?_⟩
            · clear eR
              have f1 := one_has h0 h1 (l := [32, 34, 35, 60, 62]) [32, 34, 35, 60, 62] (by decide +kernel)
              have f2 := one_has h0 h1 (l := [63, 94, 96, 123, 125]) [63, 94, 96, 123, 125] (by decide +kernel)
              have f3 := one_has h0 h1 (l := [47, 58, 59, 61, 64, 91, 92, 93, 124]) [47, 58, 59, 61, 64, 91, 92, 93, 124] (by decide +kernel)
              have f4 := one_has h0 h1 (l := [36, 37, 38, 43, 44]) [36, 37, 38, 43, 44] (by decide +kernel)
              have f5 := one_has h0 h1 (l := [32, 34, 60, 62, 96]) [32, 34, 60, 62, 96] (by decide +kernel)
              simp only [f1, f2, f3, f4, f5, beq_iff_eq, beq_eq_false_iff_ne, decide_eq_true_eq, decide_eq_false_iff_not, ne_eq] at *
              refine congrArg (fun b => AV.c (Value.bool b)) ?_
              clear f1 f2 f3 f4 f5
              first
                | (subst s; simp [inI, *]; done)
                | (rw [inI_out (by omega)])
            · clear eR
              simp only [allP, *, and_self, and_true, true_and]
          | false =>
            cases hc29 : (decide (n < (32 : Int)) : Bool) with
            | true =>
              have eR := in_10 s n
              refine ⟨_, _, eR.trans (congrArg (fun r => some (r, _)) ?_), ?_⟩
              · clear eR
                have f1 := one_has h0 h1 (l := [32, 34, 35, 60, 62]) [32, 34, 35, 60, 62] (by decide +kernel)
                have f2 := one_has h0 h1 (l := [63, 94, 96, 123, 125]) [63, 94, 96, 123, 125] (by decide +kernel)
                have f3 := one_has h0 h1 (l := [47, 58, 59, 61, 64, 91, 92, 93, 124]) [47, 58, 59, 61, 64, 91, 92, 93, 124] (by decide +kernel)
                have f4 := one_has h0 h1 (l := [36, 37, 38, 43, 44]) [36, 37, 38, 43, 44] (by decide +kernel)
                have f5 := one_has h0 h1 (l := [32, 34, 60, 62, 96]) [32, 34, 60, 62, 96] (by decide +kernel)
                simp only [f1, f2, f3, f4, f5, beq_iff_eq, beq_eq_false_iff_ne, decide_eq_true_eq, decide_eq_false_iff_not, ne_eq] at *
                refine congrArg (fun b => AV.c (Value.bool b)) ?_
                clear f1 f2 f3 f4 f5
                first
                  | (subst s; simp [inI, *]; done)
                  | (rw [inI_out (by omega)])
              · clear eR
                simp only [allP, *, and_self, and_true, true_and]
            | false =>
              have eR := in_11 s n
              refine ⟨_, _, eR.trans (congrArg (fun r => some (r, _)) ?_), ?_⟩
              · clear eR
                have f1 := one_has h0 h1 (l := [32, 34, 35, 60, 62]) [32, 34, 35, 60, 62] (by decide +kernel)
                have f2 := one_has h0 h1 (l := [63, 94, 96, 123, 125]) [63, 94, 96, 123, 125] (by decide +kernel)
                have f3 := one_has h0 h1 (l := [47, 58, 59, 61, 64, 91, 92, 93, 124]) [47, 58, 59, 61, 64, 91, 92, 93, 124] (by decide +kernel)
                have f4 := one_has h0 h1 (l := [36, 37, 38, 43, 44]) [36, 37, 38, 43, 44] (by decide +kernel)
                have f5 := one_has h0 h1 (l := [32, 34, 60, 62, 96]) [32, 34, 60, 62, 96] (by decide +kernel)
                simp only [f1, f2, f3, f4, f5, beq_iff_eq, beq_eq_false_iff_ne, decide_eq_true_eq, decide_eq_false_iff_not, ne_eq] at *
                refine congrArg (fun b => AV.c (Value.bool b)) ?_
                clear f1 f2 f3 f4 f5
                first
                  | (subst s; simp [inI, *]; done)
                  | (rw [inI_out (by omega)])
              · clear eR
                simp only [allP, *, and_self, and_true, true_and]
    | false =>
      cases hc11 : (s == (4 : Int) : Bool) with
      | true =>
        cases hc25 : (oneB [(63 : UInt8), (94 : UInt8), (96 : UInt8), (123 : UInt8), (125 : UInt8)] n : Bool) with
        | true =>
          have eR := in_12 s n
          refine ⟨_, _, eR.trans (congrArg (fun r => some (r, _)) ?_), ?_⟩
          · clear eR
            have f1 := one_has h0 h1 (l := [32, 34, 35, 60, 62]) [32, 34, 35, 60, 62] (by decide +kernel)
            have f2 := one_has h0 h1 (l := [63, 94, 96, 123, 125]) [63, 94, 96, 123, 125] (by decide +kernel)
            have f3 := one_has h0 h1 (l := [47, 58, 59, 61, 64, 91, 92, 93, 124]) [47, 58, 59, 61, 64, 91, 92, 93, 124] (by decide +kernel)
            have f4 := one_has h0 h1 (l := [36, 37, 38, 43, 44]) [36, 37, 38, 43, 44] (by decide +kernel)
            have f5 := one_has h0 h1 (l := [32, 34, 60, 62, 96]) [32, 34, 60, 62, 96] (by decide +kernel)
            simp only [f1, f2, f3, f4, f5, beq_iff_eq, beq_eq_false_iff_ne, decide_eq_true_eq, decide_eq_false_iff_not, ne_eq] at *
            refine congrArg (fun b => AV.c (Value.bool b)) ?_
            clear f1 f2 f3 f4 f5
            first
              | (subst s; simp [inI, *]; done)
              | (rw [inI_out (by omega)])
          · clear eR
            simp only [allP, *, and_self, and_true, true_and]
        | false =>
          cases hc27 : (oneB [(32 : UInt8), (34 : UInt8), (35 : UInt8), (60 : UInt8), (62 : UInt8)] n : Bool) with
          | true =>
            have eR := in_13 s n
            refine ⟨_, _, eR.trans (congrArg (fun r => some (r, _)) ?_), ?_⟩
            · clear eR
              have f1 := one_has h0 h1 (l := [32, 34, 35, 60, 62]) [32, 34, 35, 60, 62] (by decide +kernel)
              have f2 := one_has h0 h1 (l := [63, 94, 96, 123, 125]) [63, 94, 96, 123, 125] (by decide +kernel)
              have f3 := one_has h0 h1 (l := [47, 58, 59, 61, 64, 91, 92, 93, 124]) [47, 58, 59, 61, 64, 91, 92, 93, 124] (by decide +kernel)
              have f4 := one_has h0 h1 (l := [36, 37, 38, 43, 44]) [36, 37, 38, 43, 44] (by decide +kernel)
              have f5 := one_has h0 h1 (l := [32, 34, 60, 62, 96]) [32, 34, 60, 62, 96] (by decide +kernel)
              simp only [f1, f2, f3, f4, f5, beq_iff_eq, beq_eq_false_iff_ne, decide_eq_true_eq, decide_eq_false_iff_not, ne_eq] at *
              refine congrArg (fun b => AV.c (Value.bool b)) ?_
              clear f1 f2 f3 f4 f5
              first
                | (subst s; simp [inI, *]; done)
                | (rw [inI_out (by omega)])
            · clear eR
              simp only [allP, *, and_self, and_true, true_and]
          | false =>
            cases hc29 : (decide (n < (32 : Int)) : Bool) with
            | true =>
              have eR := in_14 s n
              refine ⟨_, _, eR.trans (congrArg (fun r => some (r, _)) ?_), ?_⟩
              · clear eR
                have f1 := one_has h0 h1 (l := [32, 34, 35, 60, 62]) [32, 34, 35, 60, 62] (by decide +kernel)
                have f2 := one_has h0 h1 (l := [63, 94, 96, 123, 125]) [63, 94, 96, 123, 125] (by decide +kernel)
                have f3 := one_has h0 h1 (l := [47, 58, 59, 61, 64, 91, 92, 93, 124]) [47, 58, 59, 61, 64, 91, 92, 93, 124] (by decide +kernel)
                have f4 := one_has h0 h1 (l := [36, 37, 38, 43, 44]) [36, 37, 38, 43, 44] (by decide +kernel)
                have f5 := one_has h0 h1 (l := [32, 34, 60, 62, 96]) [32, 34, 60, 62, 96] (by decide +kernel)
                simp only [f1, f2, f3, f4, f5, beq_iff_eq, beq_eq_false_iff_ne, decide_eq_true_eq, decide_eq_false_iff_not, ne_eq] at *
                refine congrArg (fun b => AV.c (Value.bool b)) ?_
                clear f1 f2 f3 f4 f5
                first
                  | (subst s; simp [inI, *]; done)
                  | (rw [inI_out (by omega)])
              · clear eR
                simp only [allP, *, and_self, and_true, true_and]
            | false =>
              have eR := in_15 s n
              refine ⟨_, _, eR.trans (congrArg (fun r => some (r, _)) ?_), ?_⟩
              · clear eR
                have f1 := one_has h0 h1 (l := [32, 34, 35, 60, 62]) [32, 34, 35, 60, 62] (by decide +kernel)
                have f2 := one_has h0 h1 (l := [63, 94, 96, 123, 125]) [63, 94, 96, 123, 125] (by decide +kernel)
                have f3 := one_has h0 h1 (l := [47, 58, 59, 61, 64, 91, 92, 93, 124]) [47, 58, 59, 61, 64, 91, 92, 93, 124] (by decide +kernel)
                have f4 := one_has h0 h1 (l := [36, 37, 38, 43, 44]) [36, 37, 38, 43, 44] (by decide +kernel)
                have f5 := one_has h0 h1 (l := [32, 34, 60, 62, 96]) [32, 34, 60, 62, 96] (by decide +kernel)
                simp only [f1, f2, f3, f4, f5, beq_iff_eq, beq_eq_false_iff_ne, decide_eq_true_eq, decide_eq_false_iff_not, ne_eq] at *
                refine congrArg (fun b => AV.c (Value.bool b)) ?_
                clear f1 f2 f3 f4 f5
                first
                  | (subst s; simp [inI, *]; done)
                  | (rw [inI_out (by omega)])
              · clear eR
                simp only [allP, *, and_self, and_true, true_and]
      | false =>
        cases hc13 : (s == (2 : Int) : Bool) with
        | true =>
          cases hc27 : (oneB [(32 : UInt8), (34 : UInt8), (35 : UInt8), (60 : UInt8), (62 : UInt8)] n : Bool) with
          | true =>
            have eR := in_16 s n
            refine ⟨_, _, eR.trans (congrArg (fun r => some (r, _)) ?_), ?_⟩
            · clear eR
              have f1 := one_has h0 h1 (l := [32, 34, 35, 60, 62]) [32, 34, 35, 60, 62] (by decide +kernel)
              have f2 := one_has h0 h1 (l := [63, 94, 96, 123, 125]) [63, 94, 96, 123, 125] (by decide +kernel)
              have f3 := one_has h0 h1 (l := [47, 58, 59, 61, 64, 91, 92, 93, 124]) [47, 58, 59, 61, 64, 91, 92, 93, 124] (by decide +kernel)
              have f4 := one_has h0 h1 (l := [36, 37, 38, 43, 44]) [36, 37, 38, 43, 44] (by decide +kernel)
              have f5 := one_has h0 h1 (l := [32, 34, 60, 62, 96]) [32, 34, 60, 62, 96] (by decide +kernel)
              simp only [f1, f2, f3, f4, f5, beq_iff_eq, beq_eq_false_iff_ne, decide_eq_true_eq, decide_eq_false_iff_not, ne_eq] at *
              refine congrArg (fun b => AV.c (Value.bool b)) ?_
              clear f1 f2 f3 f4 f5
              first
                | (subst s; simp [inI, *]; done)
                | (rw [inI_out (by omega)])
            · clear eR
              simp only [allP, *, and_self, and_true, true_and]
          | false =>
            cases hc29 : (decide (n < (32 : Int)) : Bool) with
            | true =>
              have eR := in_17 s n
              refine ⟨_, _, eR.trans (congrArg (fun r => some (r, _)) ?_), ?_⟩
              · clear eR
                have f1 := one_has h0 h1 (l := [32, 34, 35, 60, 62]) [32, 34, 35, 60, 62] (by decide +kernel)
                have f2 := one_has h0 h1 (l := [63, 94, 96, 123, 125]) [63, 94, 96, 123, 125] (by decide +kernel)
                have f3 := one_has h0 h1 (l := [47, 58, 59, 61, 64, 91, 92, 93, 124]) [47, 58, 59, 61, 64, 91, 92, 93, 124] (by decide +kernel)
                have f4 := one_has h0 h1 (l := [36, 37, 38, 43, 44]) [36, 37, 38, 43, 44] (by decide +kernel)
                have f5 := one_has h0 h1 (l := [32, 34, 60, 62, 96]) [32, 34, 60, 62, 96] (by decide +kernel)
                simp only [f1, f2, f3, f4, f5, beq_iff_eq, beq_eq_false_iff_ne, decide_eq_true_eq, decide_eq_false_iff_not, ne_eq] at *
                refine congrArg (fun b => AV.c (Value.bool b)) ?_
                clear f1 f2 f3 f4 f5
                first
                  | (subst s; simp [inI, *]; done)
                  | (rw [inI_out (by omega)])
              · clear eR
                simp only [allP, *, and_self, and_true, true_and]
            | false =>
              have eR := in_18 s n
              refine ⟨_, _, eR.trans (congrArg (fun r => some (r, _)) ?_), ?_⟩
              · clear eR
                have f1 := one_has h0 h1 (l := [32, 34, 35, 60, 62]) [32, 34, 35, 60, 62] (by decide +kernel)
                have f2 := one_has h0 h1 (l := [63, 94, 96, 123, 125]) [63, 94, 96, 123, 125] (by decide +kernel)
                have f3 := one_has h0 h1 (l := [47, 58, 59, 61, 64, 91, 92, 93, 124]) [47, 58, 59, 61, 64, 91, 92, 93, 124] (by decide +kernel)
                have f4 := one_has h0 h1 (l := [36, 37, 38, 43, 44]) [36, 37, 38, 43, 44] (by decide +kernel)
                have f5 := one_has h0 h1 (l := [32, 34, 60, 62, 96]) [32, 34, 60, 62, 96] (by decide +kernel)
                simp only [f1, f2, f3, f4, f5, beq_iff_eq, beq_eq_false_iff_ne, decide_eq_true_eq, decide_eq_false_iff_not, ne_eq] at *
                refine congrArg (fun b => AV.c (Value.bool b)) ?_
                clear f1 f2 f3 f4 f5
                first
                  | (subst s; simp [inI, *]; done)
                  | (rw [inI_out (by omega)])
              · clear eR
                simp only [allP, *, and_self, and_true, true_and]
        | false =>
          cases hc15 : (s == (0 : Int) : Bool) with
          | true =>
            cases hc29 : (decide (n < (32 : Int)) : Bool) with
            | true =>
              have eR := in_19 s n
              refine ⟨_, _, eR.trans (congrArg (fun r => some (r, _)) ?_), ?_⟩
              · clear eR
                have f1 := one_has h0 h1 (l := [32, 34, 35, 60, 62]) [32, 34, 35, 60, 62] (by decide +kernel)
                have f2 := one_has h0 h1 (l := [63, 94, 96, 123, 125]) [63, 94, 96, 123, 125] (by decide +kernel)
                have f3 := one_has h0 h1 (l := [47, 58, 59, 61, 64, 91, 92, 93, 124]) [47, 58, 59, 61, 64, 91, 92, 93, 124] (by decide +kernel)
                have f4 := one_has h0 h1 (l := [36, 37, 38, 43, 44]) [36, 37, 38, 43, 44] (by decide +kernel)
                have f5 := one_has h0 h1 (l := [32, 34, 60, 62, 96]) [32, 34, 60, 62, 96] (by decide +kernel)
                simp only [f1, f2, f3, f4, f5, beq_iff_eq, beq_eq_false_iff_ne, decide_eq_true_eq, decide_eq_false_iff_not, ne_eq] at *
                refine congrArg (fun b => AV.c (Value.bool b)) ?_
                clear f1 f2 f3 f4 f5
                first
                  | (subst s; simp [inI, *]; done)
                  | (rw [inI_out (by omega)])
              · clear eR
                simp only [allP, *, and_self, and_true, true_and]
            | false =>
              have eR := in_20 s n
              refine ⟨_, _, eR.trans (congrArg (fun r => some (r, _)) ?_), ?_⟩
              · clear eR
                have f1 := one_has h0 h1 (l := [32, 34, 35, 60, 62]) [32, 34, 35, 60, 62] (by decide +kernel)
                have f2 := one_has h0 h1 (l := [63, 94, 96, 123, 125]) [63, 94, 96, 123, 125] (by decide +kernel)
                have f3 := one_has h0 h1 (l := [47, 58, 59, 61, 64, 91, 92, 93, 124]) [47, 58, 59, 61, 64, 91, 92, 93, 124] (by decide +kernel)
                have f4 := one_has h0 h1 (l := [36, 37, 38, 43, 44]) [36, 37, 38, 43, 44] (by decide +kernel)
                have f5 := one_has h0 h1 (l := [32, 34, 60, 62, 96]) [32, 34, 60, 62, 96] (by decide +kernel)
                simp only [f1, f2, f3, f4, f5, beq_iff_eq, beq_eq_false_iff_ne, decide_eq_true_eq, decide_eq_false_iff_not, ne_eq] at *
                refine congrArg (fun b => AV.c (Value.bool b)) ?_
                clear f1 f2 f3 f4 f5
                first
                  | (subst s; simp [inI, *]; done)
                  | (rw [inI_out (by omega)])
              · clear eR
                simp only [allP, *, and_self, and_true, true_and]
          | false =>
            cases hc17 : (s == (3 : Int) : Bool) with
            | true =>
              cases hc35 : (n == (39 : Int) : Bool) with
              | true =>
                have eR := in_21 s n
                refine ⟨_, _, eR.trans (congrArg (fun r => some (r, _)) ?_), ?_⟩
                · clear eR
                  have f1 := one_has h0 h1 (l := [32, 34, 35, 60, 62]) [32, 34, 35, 60, 62] (by decide +kernel)
                  have f2 := one_has h0 h1 (l := [63, 94, 96, 123, 125]) [63, 94, 96, 123, 125] (by decide +kernel)
                  have f3 := one_has h0 h1 (l := [47, 58, 59, 61, 64, 91, 92, 93, 124]) [47, 58, 59, 61, 64, 91, 92, 93, 124] (by decide +kernel)
                  have f4 := one_has h0 h1 (l := [36, 37, 38, 43, 44]) [36, 37, 38, 43, 44] (by decide +kernel)
                  have f5 := one_has h0 h1 (l := [32, 34, 60, 62, 96]) [32, 34, 60, 62, 96] (by decide +kernel)
                  simp only [f1, f2, f3, f4, f5, beq_iff_eq, beq_eq_false_iff_ne, decide_eq_true_eq, decide_eq_false_iff_not, ne_eq] at *
                  refine congrArg (fun b => AV.c (Value.bool b)) ?_
                  clear f1 f2 f3 f4 f5
                  first
                    | (subst s; simp [inI, *]; done)
                    | (rw [inI_out (by omega)])
                · clear eR
                  simp only [allP, *, and_self, and_true, true_and]
              | false =>
                have eR := in_22 s n
                refine ⟨_, _, eR.trans (congrArg (fun r => some (r, _)) ?_), ?_⟩
                · clear eR
                  have f1 := one_has h0 h1 (l := [32, 34, 35, 60, 62]) [32, 34, 35, 60, 62] (by decide +kernel)
                  have f2 := one_has h0 h1 (l := [63, 94, 96, 123, 125]) [63, 94, 96, 123, 125] (by decide +kernel)
                  have f3 := one_has h0 h1 (l := [47, 58, 59, 61, 64, 91, 92, 93, 124]) [47, 58, 59, 61, 64, 91, 92, 93, 124] (by decide +kernel)
                  have f4 := one_has h0 h1 (l := [36, 37, 38, 43, 44]) [36, 37, 38, 43, 44] (by decide +kernel)
                  have f5 := one_has h0 h1 (l := [32, 34, 60, 62, 96]) [32, 34, 60, 62, 96] (by decide +kernel)
                  simp only [f1, f2, f3, f4, f5, beq_iff_eq, beq_eq_false_iff_ne, decide_eq_true_eq, decide_eq_false_iff_not, ne_eq] at *
                  refine congrArg (fun b => AV.c (Value.bool b)) ?_
                  clear f1 f2 f3 f4 f5
                  first
                    | (subst s; simp [inI, *]; done)
                    | (rw [inI_out (by omega)])
                · clear eR
                  simp only [allP, *, and_self, and_true, true_and]
            | false =>
              cases hc19 : (s == (1 : Int) : Bool) with
              | true =>
                cases hc41 : (oneB [(32 : UInt8), (34 : UInt8), (60 : UInt8), (62 : UInt8), (96 : UInt8)] n : Bool) with
                | true =>
                  have eR := in_23 s n
                  refine ⟨_, _, eR.trans (congrArg (fun r => some (r, _)) ?_), ?_⟩
                  · clear eR
                    have f1 := one_has h0 h1 (l := [32, 34, 35, 60, 62]) [32, 34, 35, 60, 62] (by decide +kernel)
                    have f2 := one_has h0 h1 (l := [63, 94, 96, 123, 125]) [63, 94, 96, 123, 125] (by decide +kernel)
                    have f3 := one_has h0 h1 (l := [47, 58, 59, 61, 64, 91, 92, 93, 124]) [47, 58, 59, 61, 64, 91, 92, 93, 124] (by decide +kernel)
                    have f4 := one_has h0 h1 (l := [36, 37, 38, 43, 44]) [36, 37, 38, 43, 44] (by decide +kernel)
                    have f5 := one_has h0 h1 (l := [32, 34, 60, 62, 96]) [32, 34, 60, 62, 96] (by decide +kernel)
                    simp only [f1, f2, f3, f4, f5, beq_iff_eq, beq_eq_false_iff_ne, decide_eq_true_eq, decide_eq_false_iff_not, ne_eq] at *
                    refine congrArg (fun b => AV.c (Value.bool b)) ?_
                    clear f1 f2 f3 f4 f5
                    first
                      | (subst s; simp [inI, *]; done)
                      | (rw [inI_out (by omega)])
                  · clear eR
                    simp only [allP, *, and_self, and_true, true_and]
                | false =>
                  have eR := in_24 s n
                  refine ⟨_, _, eR.trans (congrArg (fun r => some (r, _)) ?_), ?_⟩
                  · clear eR
                    have f1 := one_has h0 h1 (l := [32, 34, 35, 60, 62]) [32, 34, 35, 60, 62] (by decide +kernel)
                    have f2 := one_has h0 h1 (l := [63, 94, 96, 123, 125]) [63, 94, 96, 123, 125] (by decide +kernel)
                    have f3 := one_has h0 h1 (l := [47, 58, 59, 61, 64, 91, 92, 93, 124]) [47, 58, 59, 61, 64, 91, 92, 93, 124] (by decide +kernel)
                    have f4 := one_has h0 h1 (l := [36, 37, 38, 43, 44]) [36, 37, 38, 43, 44] (by decide +kernel)
                    have f5 := one_has h0 h1 (l := [32, 34, 60, 62, 96]) [32, 34, 60, 62, 96] (by decide +kernel)
                    simp only [f1, f2, f3, f4, f5, beq_iff_eq, beq_eq_false_iff_ne, decide_eq_true_eq, decide_eq_false_iff_not, ne_eq] at *
                    refine congrArg (fun b => AV.c (Value.bool b)) ?_
                    clear f1 f2 f3 f4 f5
                    first
                      | (subst s; simp [inI, *]; done)
                      | (rw [inI_out (by omega)])
                  · clear eR
                    simp only [allP, *, and_self, and_true, true_and]
              | false =>
                have eR := in_25 s n
                refine ⟨_, _, eR.trans (congrArg (fun r => some (r, _)) ?_), ?_⟩
                · clear eR
                  have f1 := one_has h0 h1 (l := [32, 34, 35, 60, 62]) [32, 34, 35, 60, 62] (by decide +kernel)
                  have f2 := one_has h0 h1 (l := [63, 94, 96, 123, 125]) [63, 94, 96, 123, 125] (by decide +kernel)
                  have f3 := one_has h0 h1 (l := [47, 58, 59, 61, 64, 91, 92, 93, 124]) [47, 58, 59, 61, 64, 91, 92, 93, 124] (by decide +kernel)
                  have f4 := one_has h0 h1 (l := [36, 37, 38, 43, 44]) [36, 37, 38, 43, 44] (by decide +kernel)
                  have f5 := one_has h0 h1 (l := [32, 34, 60, 62, 96]) [32, 34, 60, 62, 96] (by decide +kernel)
                  simp only [f1, f2, f3, f4, f5, beq_iff_eq, beq_eq_false_iff_ne, decide_eq_true_eq, decide_eq_false_iff_not, ne_eq] at *
                  refine congrArg (fun b => AV.c (Value.bool b)) ?_
                  clear f1 f2 f3 f4 f5
                  first
                    | (subst s; simp [inI, *]; done)
                    | (rw [inI_out (by omega)])
                · clear eR
                  simp only [allP, *, and_self, and_true, true_and]

def inSpec : Spec
  | [.c (.int .i64 s), .c (.int .u8 n)] => some (.c (.bool (inI s n)), [0 ≤ n, n < 256])
  | _ => none

theorem in_ok : SpecOK Try.prog 7 inSpec := by
  refine spec_of mixed cl2_ok fun args r q hs hq => ?_
  unfold inSpec at hs
  split at hs
  · rename_i s n
    simp only [Option.some.injEq, Prod.mk.injEq] at hs
    obtain ⟨rfl, rfl⟩ := hs
    obtain ⟨h0, h1, _⟩ := hq
    obtain ⟨h, p, e, hp⟩ := in_all s n h0 h1
    exact ⟨_, _, _, _, lpBy_nil, e, hp⟩
  · simp at hs

end Go.Proofs.Ytfaffnemfndkfab
