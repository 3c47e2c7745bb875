/- Two rows of numbers; the small case; a sign's law. -/
import Derived.Test.YtfaffnemfndkfaaDoorTextJ
namespace Go.Proofs.YtfaffnemfndkfaaDoor
open Go.RowKit
set_option linter.unusedVariables false
set_option linter.unusedSimpArgs false

def unints (l : List AV) : List Int := l.map fun x => match x with
  | .c (.int .i64 n) => n
  | _ => 0

def intsSpec : Spec
  | [.fs s n l, .fs s' n' l'] => some (.c (.bool true), [s = 1, s' = 1, n' = n, l' = l, l = ints (unints l), n = (unints l).length, n ≤ 1000000000])
  | _ => none

theorem ints_headD (a : List Int) (i : Nat) (h : i < a.length) : ((ints a).drop i).headD .any = .c (.int .i64 (a.getD i 0)) := by
  have e : (ints a).drop i = ints (a.drop i) := by simp [ints, List.map_drop]
  rw [e, List.drop_eq_getElem_cons h]
  simp [ints, List.getD, h]

def intS (a : List Int) (i : Nat) : St := ⟨frame 26 [(0, .fs 1 a.length (ints a)), (1, .fs 1 a.length (ints a)), (5, .c (.int .i64 i))], []⟩
noncomputable def intRun (h : List (Nat × Hint)) (S : St) : Option (Exit × St × List Prop) := roundOut ⟨[], [0, 1, 5], []⟩ (aCode Tryd.prog cl0 ⟨true, h⟩ (lpBy []) 60 (lbody Tryd.prog 16 4) S)

theorem int1 (a : List Int) (i : Nat) (x : Int) : intRun (bs [(14, true), (25, false)] ++ [(20, ⟨.c (.int .i64 x), none⟩), (24, ⟨.c (.int .i64 x), none⟩)]) (intS a i) = some (.normal, intS a (i + 1), [((decide ((↑i : Int) < (↑a.length : Int)) : Bool)) = (true),
 (((0 : Int) : Int) ≤ ((↑i : Int))),
 (((↑i : Int) : Int) < ((↑a.length : Int))),
 (((0 : Nat) : Nat) < ((List.drop i (ints a)).length)),
 avEq ((List.drop i (ints a)).headD AV.any) ((AV.c ((Value.int .i64 x)))),
 (((0 : Int) : Int) ≤ ((↑i : Int))),
 (((↑i : Int) : Int) < ((↑a.length : Int))),
 (((0 : Nat) : Nat) < ((List.drop i (ints a)).length)),
 avEq ((List.drop i (ints a)).headD AV.any) ((AV.c ((Value.int .i64 x)))),
 ((x != x : Bool)) = (false),
 ((IntKind.i64.min : Int) ≤ ((↑i : Int) + (1 : Int))),
 (((↑i : Int) + (1 : Int) : Int) ≤ (IntKind.i64.max))]) := by kernel_rfl

theorem int2 (a : List Int) (i : Nat) : intRun (bs [(14, false)]) (intS a i) = some (.exit 0, intS a i, [((decide ((↑i : Int) < (↑a.length : Int)) : Bool)) = (false)]) := by kernel_rfl

theorem int_loop (a : List Int) (hl : a.length ≤ 1000000000) : Tri Ext0 Tryd.prog (.loop (lbody Tryd.prog 16 4)) (intS a 0) (.exit 0) (intS a a.length) := by
  refine loop_ok mixed cl0_ok (α := {i : Nat // i ≤ a.length}) (fun x => intS a x.val) (fun x => a.length - x.val) ?_ ⟨0, Nat.zero_le _⟩
  rintro ⟨i, hi⟩
  by_cases hk : i < a.length
  · refine .inl ⟨⟨i + 1, hk⟩, by simp only; omega, _, _, _, ⟨[], [0, 1, 5], []⟩, _, lpBy_nil, List.nodup_nil, int1 a i (a.getD i 0), ?_⟩
    simp only [allP, and_true, true_and, decide_eq_true_eq, decide_eq_false_iff_not, i64_min, i64_max, List.length_drop, ints_length, ints_headD a i hk]
    repeat' apply And.intro
    all_goals first | omega | exact avEq_refl _ | simp
  · obtain rfl : i = a.length := by omega
    refine .inr ⟨by simp, _, _, _, ⟨[], [0, 1, 5], []⟩, _, lpBy_nil, List.nodup_nil, int2 a a.length, ?_⟩
    simp [allP]

noncomputable def intLp (a : List Int) : List (Nat × Lp) := [(4, ⟨lbody Tryd.prog 16 4, ⟨[], [0, 1, 5], []⟩, intS a 0, .exit 0, intS a a.length⟩)]

noncomputable def intAll (a : List Int) : Option (AV × List Prop) := outcome Tryd.prog 16 (aBody Tryd.prog cl0 ⟨true, bs [(10, false)]⟩ (lpBy (intLp a)) 60 16 [.fs 1 a.length (ints a), .fs 1 a.length (ints a)] [])

theorem intAll_eq (a : List Int) : intAll a = some (.c (.bool true), [(((↑a.length : Int) != (↑a.length : Int) : Bool)) = (false),
 ((lbody Tryd.prog (16 : FuncId) (4 : Nat) : Go.Code)) = (lbody Tryd.prog (16 : FuncId) (4 : Nat)),
 ((intS a (0 : Nat) : Go.Proofs.YtfaffnemfndkfaaDoor.St)) = (intS a (0 : Nat))]) := by kernel_rfl

theorem ints_ok : SpecOK Tryd.prog 16 intsSpec := by
  refine spec_of mixed cl0_ok fun args r q hs hq => ?_
  unfold intsSpec at hs
  split at hs
  · rename_i s n l s' n' l'
    simp only [Option.some.injEq, Prod.mk.injEq] at hs
    obtain ⟨rfl, rfl⟩ := hs
    obtain ⟨rfl, rfl, rfl, rfl, h5, h6, h7, _⟩ := hq
    generalize unints l' = a at h5 h6
    subst h5; subst h6
    refine ⟨_, _, _, _, lpBy_cons lpBy_nil List.nodup_nil (int_loop a h7), intAll_eq a, ?_⟩
    simp [allP]
  · simp at hs

noncomputable def sgS : Specs := sgBy [(18, signSpec), (11, decSpec), (14, rightSpec), (12, signsSpec), (16, intsSpec)]
noncomputable def clS : CallT := aCall Tryd.prog sgS 500 8
theorem clS_ok : CallOK Tryd.prog clS := aCall_ok mixed (sgBy_cons sign_ok (sgBy_cons dec_ok (sgBy_cons right_ok (sgBy_cons signs_ok (sgBy_cons ints_ok sgBy_nil))))) 500 8

noncomputable def smallRun : Option (AV × List Prop) := outcome Tryd.prog 10 (aBody Tryd.prog clS {} (lpBy []) 500 10 [] [])

theorem small_eq : smallRun = some (.c (.bool true), [(((-9223372036854775808 : Int) : Int) ≤ ((8364 : Int))),
 (((8364 : Int) : Int) ≤ ((9223372036854775807 : Int))),
 (((-9223372036854775808 : Int) : Int) ≤ ((55296 : Int))),
 (((55296 : Int) : Int) ≤ ((9223372036854775807 : Int))),
 (((-9223372036854775808 : Int) : Int) ≤ ((-1 : Int))),
 (((-1 : Int) : Int) ≤ ((9223372036854775807 : Int))),
 (((1 : Nat) : Nat)) = ((1 : Nat)),
 ((List.take (3 : Nat)
  (List.drop (0 : Nat)
    ([AV.c (Value.int IntKind.u8 (226 : Int))] ++
      ([AV.c (Value.int IntKind.u8 (130 : Int))] ++ ([AV.c (Value.int IntKind.u8 (65 : Int))] ++ [])))) : List AV)) = (byts
  (unbyts
    (List.take (3 : Nat)
      (List.drop (0 : Nat)
        ([AV.c (Value.int IntKind.u8 (226 : Int))] ++
          ([AV.c (Value.int IntKind.u8 (130 : Int))] ++ ([AV.c (Value.int IntKind.u8 (65 : Int))] ++ []))))))),
 (((3 : Nat) : Nat)) = ((3 : Nat)),
 (((3 : Nat) : Nat) ≤ ((1000000000 : Nat))),
 ((flatV []
  (AV.c
    (str
      (decF
        (unbyts
          (List.take (3 : Nat)
            (List.drop (0 : Nat)
              ([AV.c (Value.int IntKind.u8 (226 : Int))] ++
                ([AV.c (Value.int IntKind.u8 (130 : Int))] ++ ([AV.c (Value.int IntKind.u8 (65 : Int))] ++ []))))))))) : Bool)) = (true),
 (((1 : Nat) : Nat)) = ((1 : Nat)),
 ((List.take (2 : Nat)
  (List.drop (0 : Nat) ([AV.c (Value.int IntKind.u8 (192 : Int))] ++ ([AV.c (Value.int IntKind.u8 (128 : Int))] ++ []))) : List AV)) = (byts
  (unbyts
    (List.take (2 : Nat)
      (List.drop (0 : Nat)
        ([AV.c (Value.int IntKind.u8 (192 : Int))] ++ ([AV.c (Value.int IntKind.u8 (128 : Int))] ++ [])))))),
 (((2 : Nat) : Nat)) = ((2 : Nat)),
 (((2 : Nat) : Nat) ≤ ((1000000000 : Nat))),
 ((flatV []
  (AV.c
    (str
      (decF
        (unbyts
          (List.take (2 : Nat)
            (List.drop (0 : Nat)
              ([AV.c (Value.int IntKind.u8 (192 : Int))] ++ ([AV.c (Value.int IntKind.u8 (128 : Int))] ++ [])))))))) : Bool)) = (true),
 (((1 : Nat) : Nat)) = ((1 : Nat)),
 ((List.take (4 : Nat)
  (List.drop (0 : Nat)
    ([AV.c (Value.int IntKind.u8 (240 : Int))] ++
      ([AV.c (Value.int IntKind.u8 (159 : Int))] ++
        ([AV.c (Value.int IntKind.u8 (152 : Int))] ++ ([AV.c (Value.int IntKind.u8 (128 : Int))] ++ []))))) : List AV)) = (byts
  (unbyts
    (List.take (4 : Nat)
      (List.drop (0 : Nat)
        ([AV.c (Value.int IntKind.u8 (240 : Int))] ++
          ([AV.c (Value.int IntKind.u8 (159 : Int))] ++
            ([AV.c (Value.int IntKind.u8 (152 : Int))] ++ ([AV.c (Value.int IntKind.u8 (128 : Int))] ++ [])))))))),
 (((4 : Nat) : Nat)) = ((4 : Nat)),
 (((4 : Nat) : Nat) ≤ ((1000000000 : Nat))),
 ((flatV []
  (AV.c
    (str
      (decF
        (unbyts
          (List.take (4 : Nat)
            (List.drop (0 : Nat)
              ([AV.c (Value.int IntKind.u8 (240 : Int))] ++
                ([AV.c (Value.int IntKind.u8 (159 : Int))] ++
                  ([AV.c (Value.int IntKind.u8 (152 : Int))] ++
                    ([AV.c (Value.int IntKind.u8 (128 : Int))] ++ [])))))))))) : Bool)) = (true),
 (((2 : Nat) : Nat) ≤ ((1000000000 : Nat))),
 (((3 : Nat) : Nat) ≤ ((1000000000 : Nat))),
 (((4 : Nat) : Nat) ≤ ((1000000000 : Nat))),
 (((1 : Nat) : Nat)) = ((1 : Nat)),
 (((1 : Nat) : Nat)) = ((1 : Nat)),
 (((3 : Nat) : Nat)) = ((3 : Nat)),
 ((List.take (3 : Nat)
  (List.drop (0 : Nat)
    ([AV.c (Value.int IntKind.i64 (97 : Int))] ++
      ([AV.c (Value.int IntKind.i64 (228 : Int))] ++ ([AV.c (Value.int IntKind.i64 (65533 : Int))] ++ [])))) : List AV)) = (List.take (3 : Nat)
  (List.drop (0 : Nat) (ints (sigF (decF [(97 : UInt8), (195 : UInt8), (164 : UInt8), (255 : UInt8)]))))),
 ((List.take (3 : Nat)
  (List.drop (0 : Nat) (ints (sigF (decF [(97 : UInt8), (195 : UInt8), (164 : UInt8), (255 : UInt8)])))) : List AV)) = (ints
  (unints
    (List.take (3 : Nat)
      (List.drop (0 : Nat) (ints (sigF (decF [(97 : UInt8), (195 : UInt8), (164 : UInt8), (255 : UInt8)]))))))),
 (((3 : Nat) : Nat)) = ((3 : Nat)),
 (((3 : Nat) : Nat) ≤ ((1000000000 : Nat))),
 ((flatV [] (AV.c (Value.bool true)) : Bool)) = (true)]) := by kernel_rfl

def smallSpec : Spec
  | [] => some (.c (.bool true), [])
  | _ => none

theorem small_ok : SpecOK Tryd.prog 10 smallSpec := by
  refine spec_of mixed clS_ok fun args r q hs hq => ?_
  unfold smallSpec at hs
  split at hs
  · simp only [Option.some.injEq, Prod.mk.injEq] at hs
    obtain ⟨rfl, rfl⟩ := hs
    refine ⟨{}, lpBy [], 500, _, lpBy_nil, small_eq, ?_⟩
    repeat' apply And.intro
    all_goals first | decide | kernel_rfl | trivial
  · simp at hs

end Go.Proofs.YtfaffnemfndkfaaDoor
