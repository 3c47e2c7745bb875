/- The document's own decoding: what stands first. -/
import Derived.Test.YtfaffnemfndkfaaDoorTextW
namespace Go.Proofs.YtfaffnemfndkfaaDoor
open Go.RowKit U8
set_option linter.unusedVariables false
set_option linter.unusedSimpArgs false

def ldK (n : Int) : Int := if n < 128 then 1 else if n < 194 ∨ n > 244 then 0 else if n < 224 then 2 else if n < 240 then 3 else 4
def ldLo (n : Int) : Int := if n < 194 ∨ n > 244 then 0 else if n = 224 then 160 else if n = 240 then 144 else 128
def ldHi (n : Int) : Int := if n < 194 ∨ n > 244 then 0 else if n = 237 then 159 else if n = 244 then 143 else 191

theorem tu3 {a a' b b' c c' : Int} (h1 : a = a') (h2 : b = b') (h3 : c = c') : AV.tu [.c (.int .i64 a), .c (.int .u8 b), .c (.int .u8 c)] = .tu [.c (.int .i64 a'), .c (.int .u8 b'), .c (.int .u8 c')] := by subst h1 h2 h3; rfl

theorem lead_1 (n : Int) : outcome Tryd.prog 32 (aBody Tryd.prog cl0 ⟨true, bs [(6, true)] ++ ([])⟩ (lpBy ([])) 60 32 ([.c (.int .u8 n)]) ([])) = some ((AV.tu [(AV.c ((Value.int .i64 1))),
 (AV.c ((Value.int .u8 0))),
 (AV.c ((Value.int .u8 0)))]), [((decide (n < (128 : Int)) : Bool)) = (true)]) := by kernel_rfl

theorem lead_2 (n : Int) : outcome Tryd.prog 32 (aBody Tryd.prog cl0 ⟨true, bs [(6, false), (8, true)] ++ ([])⟩ (lpBy ([])) 60 32 ([.c (.int .u8 n)]) ([])) = some ((AV.tu [(AV.c ((Value.int .i64 0))),
 (AV.c ((Value.int .u8 0))),
 (AV.c ((Value.int .u8 0)))]), [((decide (n < (128 : Int)) : Bool)) = (false),
 ((decide (n < (194 : Int)) : Bool)) = (true)]) := by kernel_rfl

theorem lead_3 (n : Int) : outcome Tryd.prog 32 (aBody Tryd.prog cl0 ⟨true, bs [(6, false), (8, false), (11, true)] ++ ([])⟩ (lpBy ([])) 60 32 ([.c (.int .u8 n)]) ([])) = some ((AV.tu [(AV.c ((Value.int .i64 0))),
 (AV.c ((Value.int .u8 0))),
 (AV.c ((Value.int .u8 0)))]), [((decide (n < (128 : Int)) : Bool)) = (false),
 ((decide (n < (194 : Int)) : Bool)) = (false),
 ((decide (n > (244 : Int)) : Bool)) = (true)]) := by kernel_rfl

theorem lead_4 (n : Int) : outcome Tryd.prog 32 (aBody Tryd.prog cl0 ⟨true, bs [(6, false), (8, false), (11, false), (14, true)] ++ ([])⟩ (lpBy ([])) 60 32 ([.c (.int .u8 n)]) ([])) = some ((AV.tu [(AV.c ((Value.int .i64 2))),
 (AV.c ((Value.int .u8 128))),
 (AV.c ((Value.int .u8 191)))]), [((decide (n < (128 : Int)) : Bool)) = (false),
 ((decide (n < (194 : Int)) : Bool)) = (false),
 ((decide (n > (244 : Int)) : Bool)) = (false),
 ((decide (n < (224 : Int)) : Bool)) = (true)]) := by kernel_rfl

theorem lead_5 (n : Int) : outcome Tryd.prog 32 (aBody Tryd.prog cl0 ⟨true, bs [(6, false), (8, false), (11, false), (14, false), (17, true)] ++ ([])⟩ (lpBy ([])) 60 32 ([.c (.int .u8 n)]) ([])) = some ((AV.tu [(AV.c ((Value.int .i64 3))),
 (AV.c ((Value.int .u8 160))),
 (AV.c ((Value.int .u8 191)))]), [((decide (n < (128 : Int)) : Bool)) = (false),
 ((decide (n < (194 : Int)) : Bool)) = (false),
 ((decide (n > (244 : Int)) : Bool)) = (false),
 ((decide (n < (224 : Int)) : Bool)) = (false),
 ((n == (224 : Int) : Bool)) = (true)]) := by kernel_rfl

theorem lead_6 (n : Int) : outcome Tryd.prog 32 (aBody Tryd.prog cl0 ⟨true, bs [(6, false), (8, false), (11, false), (14, false), (17, false), (19, true)] ++ ([])⟩ (lpBy ([])) 60 32 ([.c (.int .u8 n)]) ([])) = some ((AV.tu [(AV.c ((Value.int .i64 3))),
 (AV.c ((Value.int .u8 128))),
 (AV.c ((Value.int .u8 159)))]), [((decide (n < (128 : Int)) : Bool)) = (false),
 ((decide (n < (194 : Int)) : Bool)) = (false),
 ((decide (n > (244 : Int)) : Bool)) = (false),
 ((decide (n < (224 : Int)) : Bool)) = (false),
 ((n == (224 : Int) : Bool)) = (false),
 ((n == (237 : Int) : Bool)) = (true)]) := by kernel_rfl

theorem lead_7 (n : Int) : outcome Tryd.prog 32 (aBody Tryd.prog cl0 ⟨true, bs [(6, false), (8, false), (11, false), (14, false), (17, false), (19, false), (21, true)] ++ ([])⟩ (lpBy ([])) 60 32 ([.c (.int .u8 n)]) ([])) = some ((AV.tu [(AV.c ((Value.int .i64 4))),
 (AV.c ((Value.int .u8 144))),
 (AV.c ((Value.int .u8 191)))]), [((decide (n < (128 : Int)) : Bool)) = (false),
 ((decide (n < (194 : Int)) : Bool)) = (false),
 ((decide (n > (244 : Int)) : Bool)) = (false),
 ((decide (n < (224 : Int)) : Bool)) = (false),
 ((n == (224 : Int) : Bool)) = (false),
 ((n == (237 : Int) : Bool)) = (false),
 ((n == (240 : Int) : Bool)) = (true)]) := by kernel_rfl

theorem lead_8 (n : Int) : outcome Tryd.prog 32 (aBody Tryd.prog cl0 ⟨true, bs [(6, false), (8, false), (11, false), (14, false), (17, false), (19, false), (21, false), (23, true)] ++ ([])⟩ (lpBy ([])) 60 32 ([.c (.int .u8 n)]) ([])) = some ((AV.tu [(AV.c ((Value.int .i64 4))),
 (AV.c ((Value.int .u8 128))),
 (AV.c ((Value.int .u8 143)))]), [((decide (n < (128 : Int)) : Bool)) = (false),
 ((decide (n < (194 : Int)) : Bool)) = (false),
 ((decide (n > (244 : Int)) : Bool)) = (false),
 ((decide (n < (224 : Int)) : Bool)) = (false),
 ((n == (224 : Int) : Bool)) = (false),
 ((n == (237 : Int) : Bool)) = (false),
 ((n == (240 : Int) : Bool)) = (false),
 ((n == (244 : Int) : Bool)) = (true)]) := by kernel_rfl

theorem lead_9 (n : Int) : outcome Tryd.prog 32 (aBody Tryd.prog cl0 ⟨true, bs [(6, false), (8, false), (11, false), (14, false), (17, false), (19, false), (21, false), (23, false), (25, true)] ++ ([])⟩ (lpBy ([])) 60 32 ([.c (.int .u8 n)]) ([])) = some ((AV.tu [(AV.c ((Value.int .i64 3))),
 (AV.c ((Value.int .u8 128))),
 (AV.c ((Value.int .u8 191)))]), [((decide (n < (128 : Int)) : Bool)) = (false),
 ((decide (n < (194 : Int)) : Bool)) = (false),
 ((decide (n > (244 : Int)) : Bool)) = (false),
 ((decide (n < (224 : Int)) : Bool)) = (false),
 ((n == (224 : Int) : Bool)) = (false),
 ((n == (237 : Int) : Bool)) = (false),
 ((n == (240 : Int) : Bool)) = (false),
 ((n == (244 : Int) : Bool)) = (false),
 ((decide (n < (240 : Int)) : Bool)) = (true)]) := by kernel_rfl

theorem lead_10 (n : Int) : outcome Tryd.prog 32 (aBody Tryd.prog cl0 ⟨true, bs [(6, false), (8, false), (11, false), (14, false), (17, false), (19, false), (21, false), (23, false), (25, false)] ++ ([])⟩ (lpBy ([])) 60 32 ([.c (.int .u8 n)]) ([])) = some ((AV.tu [(AV.c ((Value.int .i64 4))),
 (AV.c ((Value.int .u8 128))),
 (AV.c ((Value.int .u8 191)))]), [((decide (n < (128 : Int)) : Bool)) = (false),
 ((decide (n < (194 : Int)) : Bool)) = (false),
 ((decide (n > (244 : Int)) : Bool)) = (false),
 ((decide (n < (224 : Int)) : Bool)) = (false),
 ((n == (224 : Int) : Bool)) = (false),
 ((n == (237 : Int) : Bool)) = (false),
 ((n == (240 : Int) : Bool)) = (false),
 ((n == (244 : Int) : Bool)) = (false),
 ((decide (n < (240 : Int)) : Bool)) = (false)]) := by kernel_rfl

theorem lead_all (n : Int) (h0 : 0 ≤ n) (h1 : n < 256) : ∃ (h : Hints) (p : List Prop), outcome Tryd.prog 32 (aBody Tryd.prog cl0 h (lpBy ([])) 60 32 ([.c (.int .u8 n)]) ([])) = some (.tu [.c (.int .i64 (ldK n)), .c (.int .u8 (ldLo n)), .c (.int .u8 (ldHi n))], p) ∧ allP p := by
  cases hc6 : (decide (n < (128 : Int)) : Bool) with
  | true =>
    have eR := lead_1 n
    refine ⟨_, _, eR.trans (congrArg (fun r => some (r, _)) ?_), ?_⟩
    · clear eR
      simp only [beq_iff_eq, beq_eq_false_iff_ne, decide_eq_true_eq, decide_eq_false_iff_not, ne_eq] at *
      refine tu3 ?_ ?_ ?_
      · unfold ldK; repeat' split
        all_goals omega
      · unfold ldLo; repeat' split
        all_goals omega
      · unfold ldHi; repeat' split
        all_goals omega
    · clear eR
      simp only [allP, *, and_self, and_true, true_and]
  | false =>
    cases hc8 : (decide (n < (194 : Int)) : Bool) with
    | true =>
      have eR := lead_2 n
      refine ⟨_, _, eR.trans (congrArg (fun r => some (r, _)) ?_), ?_⟩
      · clear eR
        simp only [beq_iff_eq, beq_eq_false_iff_ne, decide_eq_true_eq, decide_eq_false_iff_not, ne_eq] at *
        refine tu3 ?_ ?_ ?_
        · unfold ldK; repeat' split
          all_goals omega
        · unfold ldLo; repeat' split
          all_goals omega
        · unfold ldHi; repeat' split
          all_goals omega
      · clear eR
        simp only [allP, *, and_self, and_true, true_and]
    | false =>
      cases hc11 : (decide (n > (244 : Int)) : Bool) with
      | true =>
        have eR := lead_3 n
        refine ⟨_, _, eR.trans (congrArg (fun r => some (r, _)) ?_), ?_⟩
        · clear eR
          simp only [beq_iff_eq, beq_eq_false_iff_ne, decide_eq_true_eq, decide_eq_false_iff_not, ne_eq] at *
          refine tu3 ?_ ?_ ?_
          · unfold ldK; repeat' split
            all_goals omega
          · unfold ldLo; repeat' split
            all_goals omega
          · unfold ldHi; repeat' split
            all_goals omega
        · clear eR
          simp only [allP, *, and_self, and_true, true_and]
      | false =>
        cases hc14 : (decide (n < (224 : Int)) : Bool) with
        | true =>
          have eR := lead_4 n
          refine ⟨_, _, eR.trans (congrArg (fun r => some (r, _)) ?_), ?_⟩
          · clear eR
            simp only [beq_iff_eq, beq_eq_false_iff_ne, decide_eq_true_eq, decide_eq_false_iff_not, ne_eq] at *
            refine tu3 ?_ ?_ ?_
            · unfold ldK; repeat' split
              all_goals omega
            · unfold ldLo; repeat' split
              all_goals omega
            · unfold ldHi; repeat' split
              all_goals omega
          · clear eR
            simp only [allP, *, and_self, and_true, true_and]
        | false =>
          cases hc17 : (n == (224 : Int) : Bool) with
          | true =>
            have eR := lead_5 n
            refine ⟨_, _, eR.trans (congrArg (fun r => some (r, _)) ?_), ?_⟩
            · clear eR
              simp only [beq_iff_eq, beq_eq_false_iff_ne, decide_eq_true_eq, decide_eq_false_iff_not, ne_eq] at *
              refine tu3 ?_ ?_ ?_
              · unfold ldK; repeat' split
                all_goals omega
              · unfold ldLo; repeat' split
                all_goals omega
              · unfold ldHi; repeat' split
                all_goals omega
            · clear eR
              simp only [allP, *, and_self, and_true, true_and]
          | false =>
            cases hc19 : (n == (237 : Int) : Bool) with
            | true =>
              have eR := lead_6 n
              refine ⟨_, _, eR.trans (congrArg (fun r => some (r, _)) ?_), ?_⟩
              · clear eR
                simp only [beq_iff_eq, beq_eq_false_iff_ne, decide_eq_true_eq, decide_eq_false_iff_not, ne_eq] at *
                refine tu3 ?_ ?_ ?_
                · unfold ldK; repeat' split
                  all_goals omega
                · unfold ldLo; repeat' split
                  all_goals omega
                · unfold ldHi; repeat' split
                  all_goals omega
              · clear eR
                simp only [allP, *, and_self, and_true, true_and]
            | false =>
              cases hc21 : (n == (240 : Int) : Bool) with
              | true =>
                have eR := lead_7 n
                refine ⟨_, _, eR.trans (congrArg (fun r => some (r, _)) ?_), ?_⟩
                · clear eR
                  simp only [beq_iff_eq, beq_eq_false_iff_ne, decide_eq_true_eq, decide_eq_false_iff_not, ne_eq] at *
                  refine tu3 ?_ ?_ ?_
                  · unfold ldK; repeat' split
                    all_goals omega
                  · unfold ldLo; repeat' split
                    all_goals omega
                  · unfold ldHi; repeat' split
                    all_goals omega
                · clear eR
                  simp only [allP, *, and_self, and_true, true_and]
              | false =>
                cases hc23 : (n == (244 : Int) : Bool) with
                | true =>
                  have eR := lead_8 n
                  refine ⟨_, _, eR.trans (congrArg (fun r => some (r, _)) ?_), ?_⟩
                  · clear eR
                    simp only [beq_iff_eq, beq_eq_false_iff_ne, decide_eq_true_eq, decide_eq_false_iff_not, ne_eq] at *
                    refine tu3 ?_ ?_ ?_
                    · unfold ldK; repeat' split
                      all_goals omega
                    · unfold ldLo; repeat' split
                      all_goals omega
                    · unfold ldHi; repeat' split
                      all_goals omega
                  · clear eR
                    simp only [allP, *, and_self, and_true, true_and]
                | false =>
                  cases hc25 : (decide (n < (240 : Int)) : Bool) with
                  | true =>
                    have eR := lead_9 n
                    refine ⟨_, _, eR.trans (congrArg (fun r => some (r, _)) ?_), ?_⟩
                    · clear eR
                      simp only [beq_iff_eq, beq_eq_false_iff_ne, decide_eq_true_eq, decide_eq_false_iff_not, ne_eq] at *
                      refine tu3 ?_ ?_ ?_
                      · unfold ldK; repeat' split
                        all_goals omega
                      · unfold ldLo; repeat' split
                        all_goals omega
                      · unfold ldHi; repeat' split
                        all_goals omega
                    · clear eR
                      simp only [allP, *, and_self, and_true, true_and]
                  | false =>
                    have eR := lead_10 n
                    refine ⟨_, _, eR.trans (congrArg (fun r => some (r, _)) ?_), ?_⟩
                    · clear eR
                      simp only [beq_iff_eq, beq_eq_false_iff_ne, decide_eq_true_eq, decide_eq_false_iff_not, ne_eq] at *
                      refine tu3 ?_ ?_ ?_
                      · unfold ldK; repeat' split
                        all_goals omega
                      · unfold ldLo; repeat' split
                        all_goals omega
                      · unfold ldHi; repeat' split
                        all_goals omega
                    · clear eR
                      simp only [allP, *, and_self, and_true, true_and]

def leadSpec : Spec
  | [.c (.int .u8 n)] => some (.tu [.c (.int .i64 (ldK n)), .c (.int .u8 (ldLo n)), .c (.int .u8 (ldHi n))], [0 ≤ n, n < 256])
  | _ => none
theorem lead_ok : SpecOK Tryd.prog 32 leadSpec := by
  refine spec_of mixed cl0_ok fun args r q hs hq => ?_
  unfold leadSpec at hs
  split at hs
  · rename_i n
    simp only [Option.some.injEq, Prod.mk.injEq] at hs
    obtain ⟨rfl, rfl⟩ := hs
    obtain ⟨h0, h1, _⟩ := hq
    obtain ⟨h, p, e, hp⟩ := lead_all n h0 h1
    exact ⟨_, _, _, _, lpBy_nil, e, hp⟩
  · simp at hs

noncomputable def clN : CallT := aCall Tryd.prog (sgBy [(32, leadSpec)]) 500 8
theorem clN_ok : CallOK Tryd.prog clN := aCall_ok mixed (sgBy_cons lead_ok sgBy_nil) 500 8

def nxS (l : List UInt8) (n lo hi c : Int) (k : Nat) : St := ⟨frame 71 [(0, .fs 1 l.length (byts l)), (5, .c (.int .i64 n)), (6, .c (.int .u8 lo)), (7, .c (.int .u8 hi)), (8, .c (.int .i64 c)), (9, .c (.int .i64 k))], []⟩
def nxR (k : Nat) : St := ⟨frame 71 [(2, .c (.int .i64 65533)), (3, .c (.int .i64 k)), (4, .c (.bool false))], []⟩

theorem nxr_1 (l : List UInt8) (n lo hi c : Int) (k : Nat) : roundOut (⟨[], [2, 3, 4], []⟩) (aCode Tryd.prog clN ⟨true, bs [(36, true), (42, true)] ++ ([(47, ⟨byteC (l.getD k 0), none⟩), (55, ⟨byteC (l.getD k 0), none⟩), (65, ⟨byteC (l.getD k 0), none⟩), (66, ⟨.c (.int .i64 ((l.getD k 0).toNat : Nat)), none⟩)])⟩ (lpBy ([])) 60 (lbody Tryd.prog 26 8) (nxS l n lo hi c k)) = some (.ret, nxR k, [((decide ((↑k : Int) < n) : Bool)) = (true),
 ((decide ((↑k : Int) ≥ (↑l.length : Int)) : Bool)) = (true)]) := by kernel_rfl

theorem nxr_2 (l : List UInt8) (n lo hi c : Int) (k : Nat) : roundOut (⟨[], [2, 3, 4], []⟩) (aCode Tryd.prog clN ⟨true, bs [(36, true), (42, false), (49, true)] ++ ([(47, ⟨byteC (l.getD k 0), none⟩), (55, ⟨byteC (l.getD k 0), none⟩), (65, ⟨byteC (l.getD k 0), none⟩), (66, ⟨.c (.int .i64 ((l.getD k 0).toNat : Nat)), none⟩)])⟩ (lpBy ([])) 60 (lbody Tryd.prog 26 8) (nxS l n lo hi c k)) = some (.ret, nxR k, [((decide ((↑k : Int) < n) : Bool)) = (true),
 ((decide ((↑k : Int) ≥ (↑l.length : Int)) : Bool)) = (false),
 (((0 : Int) : Int) ≤ ((↑k : Int))),
 (((↑k : Int) : Int) < ((↑l.length : Int))),
 (((0 : Nat) : Nat) < ((List.drop k (byts l)).length)),
 avEq ((List.drop k (byts l)).headD AV.any) ((AV.c ((Value.int .u8 ((↑(l.getD k (0 : UInt8)).toNat : Int)))))),
 ((decide ((↑(l.getD k (0 : UInt8)).toNat : Int) < lo) : Bool)) = (true)]) := by kernel_rfl

theorem nxr_3 (l : List UInt8) (n lo hi c : Int) (k : Nat) : roundOut (⟨[], [2, 3, 4], []⟩) (aCode Tryd.prog clN ⟨true, bs [(36, true), (42, false), (49, false), (57, true)] ++ ([(47, ⟨byteC (l.getD k 0), none⟩), (55, ⟨byteC (l.getD k 0), none⟩), (65, ⟨byteC (l.getD k 0), none⟩), (66, ⟨.c (.int .i64 ((l.getD k 0).toNat : Nat)), none⟩)])⟩ (lpBy ([])) 60 (lbody Tryd.prog 26 8) (nxS l n lo hi c k)) = some (.ret, nxR k, [((decide ((↑k : Int) < n) : Bool)) = (true),
 ((decide ((↑k : Int) ≥ (↑l.length : Int)) : Bool)) = (false),
 (((0 : Int) : Int) ≤ ((↑k : Int))),
 (((↑k : Int) : Int) < ((↑l.length : Int))),
 (((0 : Nat) : Nat) < ((List.drop k (byts l)).length)),
 avEq ((List.drop k (byts l)).headD AV.any) ((AV.c ((Value.int .u8 ((↑(l.getD k (0 : UInt8)).toNat : Int)))))),
 ((decide ((↑(l.getD k (0 : UInt8)).toNat : Int) < lo) : Bool)) = (false),
 (((0 : Int) : Int) ≤ ((↑k : Int))),
 (((↑k : Int) : Int) < ((↑l.length : Int))),
 (((0 : Nat) : Nat) < ((List.drop k (byts l)).length)),
 avEq ((List.drop k (byts l)).headD AV.any) ((AV.c ((Value.int .u8 ((↑(l.getD k (0 : UInt8)).toNat : Int)))))),
 ((decide ((↑(l.getD k (0 : UInt8)).toNat : Int) > hi) : Bool)) = (true)]) := by kernel_rfl

theorem nxr_4 (l : List UInt8) (n lo hi c : Int) (k : Nat) : roundOut (⟨[], [0, 5, 6, 7, 8, 9], []⟩) (aCode Tryd.prog clN ⟨true, bs [(36, true), (42, false), (49, false), (57, false)] ++ ([(47, ⟨byteC (l.getD k 0), none⟩), (55, ⟨byteC (l.getD k 0), none⟩), (65, ⟨byteC (l.getD k 0), none⟩), (66, ⟨.c (.int .i64 ((l.getD k 0).toNat : Nat)), none⟩)])⟩ (lpBy ([])) 60 (lbody Tryd.prog 26 8) (nxS l n lo hi c k)) = some (.normal, nxS l n 128 191 (64 * c + ((l.getD k 0).toNat : Nat) - 128) (k + 1), [((decide ((↑k : Int) < n) : Bool)) = (true),
 ((decide ((↑k : Int) ≥ (↑l.length : Int)) : Bool)) = (false),
 (((0 : Int) : Int) ≤ ((↑k : Int))),
 (((↑k : Int) : Int) < ((↑l.length : Int))),
 (((0 : Nat) : Nat) < ((List.drop k (byts l)).length)),
 avEq ((List.drop k (byts l)).headD AV.any) ((AV.c ((Value.int .u8 ((↑(l.getD k (0 : UInt8)).toNat : Int)))))),
 ((decide ((↑(l.getD k (0 : UInt8)).toNat : Int) < lo) : Bool)) = (false),
 (((0 : Int) : Int) ≤ ((↑k : Int))),
 (((↑k : Int) : Int) < ((↑l.length : Int))),
 (((0 : Nat) : Nat) < ((List.drop k (byts l)).length)),
 avEq ((List.drop k (byts l)).headD AV.any) ((AV.c ((Value.int .u8 ((↑(l.getD k (0 : UInt8)).toNat : Int)))))),
 ((decide ((↑(l.getD k (0 : UInt8)).toNat : Int) > hi) : Bool)) = (false),
 ((IntKind.i64.min : Int) ≤ ((64 : Int) * c)),
 (((64 : Int) * c : Int) ≤ (IntKind.i64.max)),
 (((0 : Int) : Int) ≤ ((↑k : Int))),
 (((↑k : Int) : Int) < ((↑l.length : Int))),
 (((0 : Nat) : Nat) < ((List.drop k (byts l)).length)),
 avEq ((List.drop k (byts l)).headD AV.any) ((AV.c ((Value.int .u8 ((↑(l.getD k (0 : UInt8)).toNat : Int)))))),
 ((IntKind.i64.wrap (↑(l.getD k (0 : UInt8)).toNat : Int) : Int)) = ((↑(l.getD k (0 : UInt8)).toNat : Int)),
 ((IntKind.i64.min : Int) ≤ ((64 : Int) * c + (↑(l.getD k (0 : UInt8)).toNat : Int))),
 (((64 : Int) * c + (↑(l.getD k (0 : UInt8)).toNat : Int) : Int) ≤ (IntKind.i64.max)),
 ((IntKind.i64.min : Int) ≤ ((64 : Int) * c + (↑(l.getD k (0 : UInt8)).toNat : Int) - (128 : Int))),
 (((64 : Int) * c + (↑(l.getD k (0 : UInt8)).toNat : Int) - (128 : Int) : Int) ≤ (IntKind.i64.max)),
 ((IntKind.i64.min : Int) ≤ ((↑k : Int) + (1 : Int))),
 (((↑k : Int) + (1 : Int) : Int) ≤ (IntKind.i64.max))]) := by kernel_rfl

theorem nxr_5 (l : List UInt8) (n lo hi c : Int) (k : Nat) : roundOut (⟨[], [0, 5, 6, 7, 8, 9], []⟩) (aCode Tryd.prog clN ⟨true, bs [(36, false)] ++ ([(47, ⟨byteC (l.getD k 0), none⟩), (55, ⟨byteC (l.getD k 0), none⟩), (65, ⟨byteC (l.getD k 0), none⟩), (66, ⟨.c (.int .i64 ((l.getD k 0).toNat : Nat)), none⟩)])⟩ (lpBy ([])) 60 (lbody Tryd.prog 26 8) (nxS l n lo hi c k)) = some (.exit 0, nxS l n lo hi c k, [((decide ((↑k : Int) < n) : Bool)) = (false)]) := by kernel_rfl

def accJ (l : List UInt8) (c : Int) : Nat → Int
  | 0 => c
  | j + 1 => 64 * accJ l c j + (bN l (j + 1) : Nat) - 128
def loJ (lo : Nat) : Nat → Nat
  | 0 => lo
  | _ + 1 => 128
def hiJ (hi : Nat) : Nat → Nat
  | 0 => hi
  | _ + 1 => 191
def nxJ (l : List UInt8) (n : Int) (lo hi : Nat) (c : Int) (j : Nat) : St := nxS l n (loJ lo j : Nat) (hiJ hi j : Nat) (accJ l c j) (j + 1)

def GoodJ (l : List UInt8) (n : Int) (lo hi : Nat) (j : Nat) : Prop := ((j + 1 : Nat) : Int) < n ∧ j + 1 < l.length ∧ loJ lo j ≤ bN l (j + 1) ∧ bN l (j + 1) ≤ hiJ hi j

theorem nx_go (l : List UInt8) (n : Int) (lo hi : Nat) (c : Int) (m : Nat) (hl : l.length ≤ 1000000000) (hg : ∀ j, j < m → GoodJ l n lo hi j ∧ 0 ≤ accJ l c j ∧ accJ l c j ≤ 1000000) (j : Nat) (h : j < m) :
    Round Ext0 Tryd.prog clN (lbody Tryd.prog 26 8) (nxJ l n lo hi c j) .normal (nxJ l n lo hi c (j + 1)) := by
  obtain ⟨⟨g1, g2, g3, g4⟩, g5, g6⟩ := hg j h
  have h3 := byts_headD l (j + 1) g2
  have hb := bN_lt l (j + 1)
  have e : (l.getD (j + 1) 0).toNat = bN l (j + 1) := rfl
  have hw : IntKind.i64.wrap ((bN l (j + 1) : Nat) : Int) = ((bN l (j + 1) : Nat) : Int) := i64_wrap (by omega) (by omega)
  refine ⟨_, _, _, _, _, lpBy_nil, by decide, nxr_4 l n (loJ lo j : Nat) (hiJ hi j : Nat) (accJ l c j) (j + 1), ?_⟩
  simp only [allP, h3, byteC, e, hw, avEq_refl, avEq, byts_length, List.length_drop, and_true, true_and, decide_eq_true_eq, decide_eq_false_iff_not, i64_min, i64_max]
  repeat' apply And.intro
  all_goals omega

theorem nx_exit (l : List UInt8) (n : Int) (lo hi : Nat) (c : Int) (m : Nat) (hl : l.length ≤ 1000000000) (hg : ∀ j, j < m → GoodJ l n lo hi j ∧ 0 ≤ accJ l c j ∧ accJ l c j ≤ 1000000) (hx : ¬ ((m + 1 : Nat) : Int) < n) :
    Tri Ext0 Tryd.prog (.loop (lbody Tryd.prog 26 8)) (nxJ l n lo hi c 0) (.exit 0) (nxJ l n lo hi c m) := by
  refine loop_up mixed clN_ok (nxJ l n lo hi c) m (by simp) (nx_go l n lo hi c m hl hg) ?_ 0 (Nat.zero_le _)
  refine ⟨_, _, _, _, _, lpBy_nil, by decide, nxr_5 l n (loJ lo m : Nat) (hiJ hi m : Nat) (accJ l c m) (m + 1), ?_⟩
  simp only [allP, and_true, decide_eq_false_iff_not]
  omega

theorem nx_ret (l : List UInt8) (n : Int) (lo hi : Nat) (c : Int) (m : Nat) (hl : l.length ≤ 1000000000) (hg : ∀ j, j < m → GoodJ l n lo hi j ∧ 0 ≤ accJ l c j ∧ accJ l c j ≤ 1000000) (hx : ((m + 1 : Nat) : Int) < n) (hb : ¬ (m + 1 < l.length ∧ loJ lo m ≤ bN l (m + 1) ∧ bN l (m + 1) ≤ hiJ hi m)) :
    Tri Ext0 Tryd.prog (.loop (lbody Tryd.prog 26 8)) (nxJ l n lo hi c 0) .ret (nxR (m + 1)) := by
  refine loop_up mixed clN_ok (nxJ l n lo hi c) m (by simp) (nx_go l n lo hi c m hl hg) ?_ 0 (Nat.zero_le _)
  have e : (l.getD (m + 1) 0).toNat = bN l (m + 1) := rfl
  have hlt := bN_lt l (m + 1)
  by_cases c1 : m + 1 < l.length
  · have h3 := byts_headD l (m + 1) c1
    by_cases c2 : loJ lo m ≤ bN l (m + 1)
    · refine ⟨_, _, _, _, _, lpBy_nil, by decide, nxr_3 l n (loJ lo m : Nat) (hiJ hi m : Nat) (accJ l c m) (m + 1), ?_⟩
      simp only [allP, h3, byteC, e, avEq_refl, byts_length, List.length_drop, and_true, true_and, decide_eq_true_eq, decide_eq_false_iff_not, i64_min, i64_max]
      repeat' apply And.intro
      all_goals omega
    · refine ⟨_, _, _, _, _, lpBy_nil, by decide, nxr_2 l n (loJ lo m : Nat) (hiJ hi m : Nat) (accJ l c m) (m + 1), ?_⟩
      simp only [allP, h3, byteC, e, avEq_refl, byts_length, List.length_drop, and_true, true_and, decide_eq_true_eq, decide_eq_false_iff_not, i64_min, i64_max]
      repeat' apply And.intro
      all_goals omega
  · refine ⟨_, _, _, _, _, lpBy_nil, by decide, nxr_1 l n (loJ lo m : Nat) (hiJ hi m : Nat) (accJ l c m) (m + 1), ?_⟩
    simp only [allP, and_true, decide_eq_true_eq]
    omega

noncomputable def nxLpE (l : List UInt8) (n : Int) (lo hi : Nat) (c : Int) (m : Nat) : List (Nat × Lp) := [(8, ⟨lbody Tryd.prog 26 8, ⟨[], [0, 5, 6, 7, 8, 9], []⟩, nxS l n (lo : Nat) (hi : Nat) c 1, .exit 0, nxS l n (loJ lo m : Nat) (hiJ hi m : Nat) (accJ l c m) (m + 1)⟩)]
noncomputable def nxLpR (l : List UInt8) (n : Int) (lo hi : Nat) (c : Int) (m : Nat) : List (Nat × Lp) := [(8, ⟨lbody Tryd.prog 26 8, ⟨[], [0, 5, 6, 7, 8, 9], []⟩, nxS l n (lo : Nat) (hi : Nat) c 1, .ret, nxR (m + 1)⟩)]

theorem next1_1 (l : List UInt8) (lo hi : Nat) (c : Int) (m : Nat) : outcome Tryd.prog 26 (aBody Tryd.prog clN ⟨true, bs [] ++ ([(13, ⟨byteC (l.getD 0 0), none⟩), (22, ⟨byteC (l.getD 0 0), none⟩), (23, ⟨.c (.int .i64 ((l.getD 0 0).toNat : Nat)), none⟩), (28, ⟨byteC (l.getD 0 0), none⟩), (29, ⟨.c (.int .i64 ((l.getD 0 0).toNat : Nat)), none⟩), (15, ⟨.c (.int .i64 1), none⟩), (16, ⟨.c (.int .u8 (lo : Nat)), none⟩), (17, ⟨.c (.int .u8 (hi : Nat)), none⟩), (33, ⟨.c (.int .i64 c), none⟩)])⟩ (lpBy ([])) 60 26 ([.fs 1 l.length (byts l)]) ([])) = some ((AV.tu [(AV.c ((Value.int .i64 ((↑(l.getD (0 : Nat) (0 : UInt8)).toNat : Int))))),
 (AV.c ((Value.int .i64 1))),
 (AV.c ((Value.bool true)))]), [(((0 : Int) : Int) ≤ ((0 : Int))),
 (((0 : Int) : Int) < ((↑l.length : Int))),
 (((0 : Nat) : Nat) < ((List.drop (Int.toNat (0 : Int)) (byts l)).length)),
 avEq ((List.drop (Int.toNat (0 : Int)) (byts l)).headD AV.any) ((AV.c ((Value.int .u8 ((↑(l.getD (0 : Nat) (0 : UInt8)).toNat : Int)))))),
 (((0 : Int) : Int) ≤ ((↑(l.getD (0 : Nat) (0 : UInt8)).toNat : Int))),
 (((↑(l.getD (0 : Nat) (0 : UInt8)).toNat : Int) : Int) < ((256 : Int))),
 ((ldK (↑(l.getD (0 : Nat) (0 : UInt8)).toNat : Int) : Int)) = (1),
 ((ldLo (↑(l.getD (0 : Nat) (0 : UInt8)).toNat : Int) : Int)) = ((↑lo : Int)),
 ((ldHi (↑(l.getD (0 : Nat) (0 : UInt8)).toNat : Int) : Int)) = ((↑hi : Int)),
 (((0 : Int) : Int) ≤ ((0 : Int))),
 (((0 : Int) : Int) < ((↑l.length : Int))),
 (((0 : Nat) : Nat) < ((List.drop (Int.toNat (0 : Int)) (byts l)).length)),
 avEq ((List.drop (Int.toNat (0 : Int)) (byts l)).headD AV.any) ((AV.c ((Value.int .u8 ((↑(l.getD (0 : Nat) (0 : UInt8)).toNat : Int)))))),
 ((IntKind.i64.wrap (↑(l.getD (0 : Nat) (0 : UInt8)).toNat : Int) : Int)) = ((↑(l.getD (0 : Nat) (0 : UInt8)).toNat : Int))]) := by kernel_rfl

theorem next1_all (l : List UInt8) (lo hi : Nat) (c : Int) (m : Nat) (h0 : 0 < l.length) (h1 : ldK (bN l 0 : Nat) = 1) (h2 : ldLo (bN l 0 : Nat) = lo) (h3 : ldHi (bN l 0 : Nat) = hi) (h4 : 1 ≤ (1 : Int) ∨ c = ((bN l 0 % 1 : Nat) : Int)) : ∃ (h : Hints) (p : List Prop), outcome Tryd.prog 26 (aBody Tryd.prog clN h (lpBy ([])) 60 26 ([.fs 1 l.length (byts l)]) ([])) = some (.tu [.c (.int .i64 ((l.getD 0 0).toNat : Nat)), .c (.int .i64 1), .c (.bool true)], p) ∧ allP p := by
  have eR := next1_1 l lo hi c m
  refine ⟨_, _, eR.trans (congrArg (fun r => some (r, _)) ?_), ?_⟩
  · rfl
  · clear eR
    have hh := byts_headD l 0 h0
    have e : (l.getD 0 0).toNat = bN l 0 := rfl
    have hb := bN_lt l 0
    have hw : IntKind.i64.wrap ((bN l 0 : Nat) : Int) = ((bN l 0 : Nat) : Int) := i64_wrap (by omega) (by omega)
    have f1 : 1 ≤ (1 : Int) ∨ Int.fdiv (128 : Int) ((2 : Int) ^ (1 : Nat)) = 1 := by first | exact .inl (by omega) | exact .inr (by decide)
    have f2 : ∀ x : Nat, Int.tmod (x : Int) 1 = ((x % 1 : Nat) : Int) := fun x => by rw [tmN (by omega)]; omega
    simp only [allP, toNat0, hh, byteC, e, hw, h1, h2, h3, avEq_refl, byts_length, List.length_drop, and_true, true_and]
    refine ⟨by omega, by omega, by omega, by omega, ?_⟩
    first
      | omega
      | (refine ⟨by omega, by omega, by omega, by omega⟩; done)
      | (have f3 := f1.resolve_left (by omega)
         have f4 := h4.resolve_left (by omega)
         rw [f3, f2, ← f4]
         refine ⟨?_, ?_, ?_, ?_⟩ <;> first | omega | rfl)


theorem next2_1 (l : List UInt8) (lo hi : Nat) (c : Int) (m : Nat) : outcome Tryd.prog 26 (aBody Tryd.prog clN ⟨true, bs [] ++ ([(13, ⟨byteC (l.getD 0 0), none⟩), (22, ⟨byteC (l.getD 0 0), none⟩), (23, ⟨.c (.int .i64 ((l.getD 0 0).toNat : Nat)), none⟩), (28, ⟨byteC (l.getD 0 0), none⟩), (29, ⟨.c (.int .i64 ((l.getD 0 0).toNat : Nat)), none⟩), (15, ⟨.c (.int .i64 0), none⟩), (16, ⟨.c (.int .u8 (lo : Nat)), none⟩), (17, ⟨.c (.int .u8 (hi : Nat)), none⟩), (33, ⟨.c (.int .i64 c), none⟩)])⟩ (lpBy ([])) 60 26 ([.fs 1 l.length (byts l)]) ([])) = some ((AV.tu [(AV.c ((Value.int .i64 65533))),
 (AV.c ((Value.int .i64 1))),
 (AV.c ((Value.bool false)))]), [(((0 : Int) : Int) ≤ ((0 : Int))),
 (((0 : Int) : Int) < ((↑l.length : Int))),
 (((0 : Nat) : Nat) < ((List.drop (Int.toNat (0 : Int)) (byts l)).length)),
 avEq ((List.drop (Int.toNat (0 : Int)) (byts l)).headD AV.any) ((AV.c ((Value.int .u8 ((↑(l.getD (0 : Nat) (0 : UInt8)).toNat : Int)))))),
 (((0 : Int) : Int) ≤ ((↑(l.getD (0 : Nat) (0 : UInt8)).toNat : Int))),
 (((↑(l.getD (0 : Nat) (0 : UInt8)).toNat : Int) : Int) < ((256 : Int))),
 ((ldK (↑(l.getD (0 : Nat) (0 : UInt8)).toNat : Int) : Int)) = (0),
 ((ldLo (↑(l.getD (0 : Nat) (0 : UInt8)).toNat : Int) : Int)) = ((↑lo : Int)),
 ((ldHi (↑(l.getD (0 : Nat) (0 : UInt8)).toNat : Int) : Int)) = ((↑hi : Int))]) := by kernel_rfl

theorem next2_all (l : List UInt8) (lo hi : Nat) (c : Int) (m : Nat) (h0 : 0 < l.length) (h1 : ldK (bN l 0 : Nat) = 0) (h2 : ldLo (bN l 0 : Nat) = lo) (h3 : ldHi (bN l 0 : Nat) = hi) (h4 : 0 ≤ (1 : Int) ∨ c = ((bN l 0 % 1 : Nat) : Int)) : ∃ (h : Hints) (p : List Prop), outcome Tryd.prog 26 (aBody Tryd.prog clN h (lpBy ([])) 60 26 ([.fs 1 l.length (byts l)]) ([])) = some (.tu [.c (.int .i64 65533), .c (.int .i64 1), .c (.bool false)], p) ∧ allP p := by
  have eR := next2_1 l lo hi c m
  refine ⟨_, _, eR.trans (congrArg (fun r => some (r, _)) ?_), ?_⟩
  · rfl
  · clear eR
    have hh := byts_headD l 0 h0
    have e : (l.getD 0 0).toNat = bN l 0 := rfl
    have hb := bN_lt l 0
    have hw : IntKind.i64.wrap ((bN l 0 : Nat) : Int) = ((bN l 0 : Nat) : Int) := i64_wrap (by omega) (by omega)
    have f1 : 0 ≤ (1 : Int) ∨ Int.fdiv (128 : Int) ((2 : Int) ^ (0 : Nat)) = 1 := by first | exact .inl (by omega) | exact .inr (by decide)
    have f2 : ∀ x : Nat, Int.tmod (x : Int) 1 = ((x % 1 : Nat) : Int) := fun x => by rw [tmN (by omega)]; omega
    simp only [allP, toNat0, hh, byteC, e, hw, h1, h2, h3, avEq_refl, byts_length, List.length_drop, and_true, true_and]
    refine ⟨by omega, by omega, by omega, by omega, ?_⟩
    first
      | omega
      | (refine ⟨by omega, by omega, by omega, by omega⟩; done)
      | (have f3 := f1.resolve_left (by omega)
         have f4 := h4.resolve_left (by omega)
         rw [f3, f2, ← f4]
         refine ⟨?_, ?_, ?_, ?_⟩ <;> first | omega | rfl)


theorem next32_1 (l : List UInt8) (lo hi : Nat) (c : Int) (m : Nat) : outcome Tryd.prog 26 (aBody Tryd.prog clN ⟨true, bs [] ++ ([(13, ⟨byteC (l.getD 0 0), none⟩), (22, ⟨byteC (l.getD 0 0), none⟩), (23, ⟨.c (.int .i64 ((l.getD 0 0).toNat : Nat)), none⟩), (28, ⟨byteC (l.getD 0 0), none⟩), (29, ⟨.c (.int .i64 ((l.getD 0 0).toNat : Nat)), none⟩), (15, ⟨.c (.int .i64 2), none⟩), (16, ⟨.c (.int .u8 (lo : Nat)), none⟩), (17, ⟨.c (.int .u8 (hi : Nat)), none⟩), (33, ⟨.c (.int .i64 c), none⟩)])⟩ (lpBy (nxLpE l 2 lo hi c m)) 60 26 ([.fs 1 l.length (byts l)]) ([])) = some ((AV.tu [(AV.c ((Value.int .i64 (accJ l c m)))),
 (AV.c ((Value.int .i64 2))),
 (AV.c ((Value.bool true)))]), [(((0 : Int) : Int) ≤ ((0 : Int))),
 (((0 : Int) : Int) < ((↑l.length : Int))),
 (((0 : Nat) : Nat) < ((List.drop (Int.toNat (0 : Int)) (byts l)).length)),
 avEq ((List.drop (Int.toNat (0 : Int)) (byts l)).headD AV.any) ((AV.c ((Value.int .u8 ((↑(l.getD (0 : Nat) (0 : UInt8)).toNat : Int)))))),
 (((0 : Int) : Int) ≤ ((↑(l.getD (0 : Nat) (0 : UInt8)).toNat : Int))),
 (((↑(l.getD (0 : Nat) (0 : UInt8)).toNat : Int) : Int) < ((256 : Int))),
 ((ldK (↑(l.getD (0 : Nat) (0 : UInt8)).toNat : Int) : Int)) = (2),
 ((ldLo (↑(l.getD (0 : Nat) (0 : UInt8)).toNat : Int) : Int)) = ((↑lo : Int)),
 ((ldHi (↑(l.getD (0 : Nat) (0 : UInt8)).toNat : Int) : Int)) = ((↑hi : Int)),
 (((0 : Int) : Int) ≤ ((0 : Int))),
 (((0 : Int) : Int) < ((↑l.length : Int))),
 (((0 : Nat) : Nat) < ((List.drop (Int.toNat (0 : Int)) (byts l)).length)),
 avEq ((List.drop (Int.toNat (0 : Int)) (byts l)).headD AV.any) ((AV.c ((Value.int .u8 ((↑(l.getD (0 : Nat) (0 : UInt8)).toNat : Int)))))),
 ((IntKind.i64.wrap (↑(l.getD (0 : Nat) (0 : UInt8)).toNat : Int) : Int)) = ((↑(l.getD (0 : Nat) (0 : UInt8)).toNat : Int)),
 (((↑(l.getD (0 : Nat) (0 : UInt8)).toNat : Int).tmod (Int.fdiv (128 : Int) ((2 : Int) ^ (2 : Nat))) : Int)) = (c),
 ((lbody Tryd.prog (26 : FuncId) (8 : Nat) : Go.Code)) = (lbody Tryd.prog (26 : FuncId) (8 : Nat)),
 ((nxS l (2 : Int) (↑lo : Int) (↑hi : Int) c (1 : Nat) : Go.Proofs.YtfaffnemfndkfaaDoor.St)) = (nxS l (2 : Int) (↑lo : Int) (↑hi : Int) c (1 : Nat))]) := by kernel_rfl

theorem next32_all (l : List UInt8) (lo hi : Nat) (c : Int) (m : Nat) (h0 : 0 < l.length) (h1 : ldK (bN l 0 : Nat) = 2) (h2 : ldLo (bN l 0 : Nat) = lo) (h3 : ldHi (bN l 0 : Nat) = hi) (h4 : 2 ≤ (1 : Int) ∨ c = ((bN l 0 % 32 : Nat) : Int)) : ∃ (h : Hints) (p : List Prop), outcome Tryd.prog 26 (aBody Tryd.prog clN h (lpBy (nxLpE l 2 lo hi c m)) 60 26 ([.fs 1 l.length (byts l)]) ([])) = some (.tu [.c (.int .i64 (accJ l c m)), .c (.int .i64 2), .c (.bool true)], p) ∧ allP p := by
  have eR := next32_1 l lo hi c m
  refine ⟨_, _, eR.trans (congrArg (fun r => some (r, _)) ?_), ?_⟩
  · rfl
  · clear eR
    have hh := byts_headD l 0 h0
    have e : (l.getD 0 0).toNat = bN l 0 := rfl
    have hb := bN_lt l 0
    have hw : IntKind.i64.wrap ((bN l 0 : Nat) : Int) = ((bN l 0 : Nat) : Int) := i64_wrap (by omega) (by omega)
    have f1 : 2 ≤ (1 : Int) ∨ Int.fdiv (128 : Int) ((2 : Int) ^ (2 : Nat)) = 32 := by first | exact .inl (by omega) | exact .inr (by decide)
    have f2 : ∀ x : Nat, Int.tmod (x : Int) 32 = ((x % 32 : Nat) : Int) := fun x => by rw [tmN (by omega)]; omega
    simp only [allP, toNat0, hh, byteC, e, hw, h1, h2, h3, avEq_refl, byts_length, List.length_drop, and_true, true_and]
    refine ⟨by omega, by omega, by omega, by omega, ?_⟩
    first
      | omega
      | (refine ⟨by omega, by omega, by omega, by omega⟩; done)
      | (have f3 := f1.resolve_left (by omega)
         have f4 := h4.resolve_left (by omega)
         rw [f3, f2, ← f4]
         refine ⟨?_, ?_, ?_, ?_⟩ <;> first | omega | rfl)


theorem next33_1 (l : List UInt8) (lo hi : Nat) (c : Int) (m : Nat) : outcome Tryd.prog 26 (aBody Tryd.prog clN ⟨true, bs [] ++ ([(13, ⟨byteC (l.getD 0 0), none⟩), (22, ⟨byteC (l.getD 0 0), none⟩), (23, ⟨.c (.int .i64 ((l.getD 0 0).toNat : Nat)), none⟩), (28, ⟨byteC (l.getD 0 0), none⟩), (29, ⟨.c (.int .i64 ((l.getD 0 0).toNat : Nat)), none⟩), (15, ⟨.c (.int .i64 3), none⟩), (16, ⟨.c (.int .u8 (lo : Nat)), none⟩), (17, ⟨.c (.int .u8 (hi : Nat)), none⟩), (33, ⟨.c (.int .i64 c), none⟩)])⟩ (lpBy (nxLpE l 3 lo hi c m)) 60 26 ([.fs 1 l.length (byts l)]) ([])) = some ((AV.tu [(AV.c ((Value.int .i64 (accJ l c m)))),
 (AV.c ((Value.int .i64 3))),
 (AV.c ((Value.bool true)))]), [(((0 : Int) : Int) ≤ ((0 : Int))),
 (((0 : Int) : Int) < ((↑l.length : Int))),
 (((0 : Nat) : Nat) < ((List.drop (Int.toNat (0 : Int)) (byts l)).length)),
 avEq ((List.drop (Int.toNat (0 : Int)) (byts l)).headD AV.any) ((AV.c ((Value.int .u8 ((↑(l.getD (0 : Nat) (0 : UInt8)).toNat : Int)))))),
 (((0 : Int) : Int) ≤ ((↑(l.getD (0 : Nat) (0 : UInt8)).toNat : Int))),
 (((↑(l.getD (0 : Nat) (0 : UInt8)).toNat : Int) : Int) < ((256 : Int))),
 ((ldK (↑(l.getD (0 : Nat) (0 : UInt8)).toNat : Int) : Int)) = (3),
 ((ldLo (↑(l.getD (0 : Nat) (0 : UInt8)).toNat : Int) : Int)) = ((↑lo : Int)),
 ((ldHi (↑(l.getD (0 : Nat) (0 : UInt8)).toNat : Int) : Int)) = ((↑hi : Int)),
 (((0 : Int) : Int) ≤ ((0 : Int))),
 (((0 : Int) : Int) < ((↑l.length : Int))),
 (((0 : Nat) : Nat) < ((List.drop (Int.toNat (0 : Int)) (byts l)).length)),
 avEq ((List.drop (Int.toNat (0 : Int)) (byts l)).headD AV.any) ((AV.c ((Value.int .u8 ((↑(l.getD (0 : Nat) (0 : UInt8)).toNat : Int)))))),
 ((IntKind.i64.wrap (↑(l.getD (0 : Nat) (0 : UInt8)).toNat : Int) : Int)) = ((↑(l.getD (0 : Nat) (0 : UInt8)).toNat : Int)),
 (((↑(l.getD (0 : Nat) (0 : UInt8)).toNat : Int).tmod (Int.fdiv (128 : Int) ((2 : Int) ^ (3 : Nat))) : Int)) = (c),
 ((lbody Tryd.prog (26 : FuncId) (8 : Nat) : Go.Code)) = (lbody Tryd.prog (26 : FuncId) (8 : Nat)),
 ((nxS l (3 : Int) (↑lo : Int) (↑hi : Int) c (1 : Nat) : Go.Proofs.YtfaffnemfndkfaaDoor.St)) = (nxS l (3 : Int) (↑lo : Int) (↑hi : Int) c (1 : Nat))]) := by kernel_rfl

theorem next33_all (l : List UInt8) (lo hi : Nat) (c : Int) (m : Nat) (h0 : 0 < l.length) (h1 : ldK (bN l 0 : Nat) = 3) (h2 : ldLo (bN l 0 : Nat) = lo) (h3 : ldHi (bN l 0 : Nat) = hi) (h4 : 3 ≤ (1 : Int) ∨ c = ((bN l 0 % 16 : Nat) : Int)) : ∃ (h : Hints) (p : List Prop), outcome Tryd.prog 26 (aBody Tryd.prog clN h (lpBy (nxLpE l 3 lo hi c m)) 60 26 ([.fs 1 l.length (byts l)]) ([])) = some (.tu [.c (.int .i64 (accJ l c m)), .c (.int .i64 3), .c (.bool true)], p) ∧ allP p := by
  have eR := next33_1 l lo hi c m
  refine ⟨_, _, eR.trans (congrArg (fun r => some (r, _)) ?_), ?_⟩
  · rfl
  · clear eR
    have hh := byts_headD l 0 h0
    have e : (l.getD 0 0).toNat = bN l 0 := rfl
    have hb := bN_lt l 0
    have hw : IntKind.i64.wrap ((bN l 0 : Nat) : Int) = ((bN l 0 : Nat) : Int) := i64_wrap (by omega) (by omega)
    have f1 : 3 ≤ (1 : Int) ∨ Int.fdiv (128 : Int) ((2 : Int) ^ (3 : Nat)) = 16 := by first | exact .inl (by omega) | exact .inr (by decide)
    have f2 : ∀ x : Nat, Int.tmod (x : Int) 16 = ((x % 16 : Nat) : Int) := fun x => by rw [tmN (by omega)]; omega
    simp only [allP, toNat0, hh, byteC, e, hw, h1, h2, h3, avEq_refl, byts_length, List.length_drop, and_true, true_and]
    refine ⟨by omega, by omega, by omega, by omega, ?_⟩
    first
      | omega
      | (refine ⟨by omega, by omega, by omega, by omega⟩; done)
      | (have f3 := f1.resolve_left (by omega)
         have f4 := h4.resolve_left (by omega)
         rw [f3, f2, ← f4]
         refine ⟨?_, ?_, ?_, ?_⟩ <;> first | omega | rfl)


theorem next34_1 (l : List UInt8) (lo hi : Nat) (c : Int) (m : Nat) : outcome Tryd.prog 26 (aBody Tryd.prog clN ⟨true, bs [] ++ ([(13, ⟨byteC (l.getD 0 0), none⟩), (22, ⟨byteC (l.getD 0 0), none⟩), (23, ⟨.c (.int .i64 ((l.getD 0 0).toNat : Nat)), none⟩), (28, ⟨byteC (l.getD 0 0), none⟩), (29, ⟨.c (.int .i64 ((l.getD 0 0).toNat : Nat)), none⟩), (15, ⟨.c (.int .i64 4), none⟩), (16, ⟨.c (.int .u8 (lo : Nat)), none⟩), (17, ⟨.c (.int .u8 (hi : Nat)), none⟩), (33, ⟨.c (.int .i64 c), none⟩)])⟩ (lpBy (nxLpE l 4 lo hi c m)) 60 26 ([.fs 1 l.length (byts l)]) ([])) = some ((AV.tu [(AV.c ((Value.int .i64 (accJ l c m)))),
 (AV.c ((Value.int .i64 4))),
 (AV.c ((Value.bool true)))]), [(((0 : Int) : Int) ≤ ((0 : Int))),
 (((0 : Int) : Int) < ((↑l.length : Int))),
 (((0 : Nat) : Nat) < ((List.drop (Int.toNat (0 : Int)) (byts l)).length)),
 avEq ((List.drop (Int.toNat (0 : Int)) (byts l)).headD AV.any) ((AV.c ((Value.int .u8 ((↑(l.getD (0 : Nat) (0 : UInt8)).toNat : Int)))))),
 (((0 : Int) : Int) ≤ ((↑(l.getD (0 : Nat) (0 : UInt8)).toNat : Int))),
 (((↑(l.getD (0 : Nat) (0 : UInt8)).toNat : Int) : Int) < ((256 : Int))),
 ((ldK (↑(l.getD (0 : Nat) (0 : UInt8)).toNat : Int) : Int)) = (4),
 ((ldLo (↑(l.getD (0 : Nat) (0 : UInt8)).toNat : Int) : Int)) = ((↑lo : Int)),
 ((ldHi (↑(l.getD (0 : Nat) (0 : UInt8)).toNat : Int) : Int)) = ((↑hi : Int)),
 (((0 : Int) : Int) ≤ ((0 : Int))),
 (((0 : Int) : Int) < ((↑l.length : Int))),
 (((0 : Nat) : Nat) < ((List.drop (Int.toNat (0 : Int)) (byts l)).length)),
 avEq ((List.drop (Int.toNat (0 : Int)) (byts l)).headD AV.any) ((AV.c ((Value.int .u8 ((↑(l.getD (0 : Nat) (0 : UInt8)).toNat : Int)))))),
 ((IntKind.i64.wrap (↑(l.getD (0 : Nat) (0 : UInt8)).toNat : Int) : Int)) = ((↑(l.getD (0 : Nat) (0 : UInt8)).toNat : Int)),
 (((↑(l.getD (0 : Nat) (0 : UInt8)).toNat : Int).tmod (Int.fdiv (128 : Int) ((2 : Int) ^ (4 : Nat))) : Int)) = (c),
 ((lbody Tryd.prog (26 : FuncId) (8 : Nat) : Go.Code)) = (lbody Tryd.prog (26 : FuncId) (8 : Nat)),
 ((nxS l (4 : Int) (↑lo : Int) (↑hi : Int) c (1 : Nat) : Go.Proofs.YtfaffnemfndkfaaDoor.St)) = (nxS l (4 : Int) (↑lo : Int) (↑hi : Int) c (1 : Nat))]) := by kernel_rfl

theorem next34_all (l : List UInt8) (lo hi : Nat) (c : Int) (m : Nat) (h0 : 0 < l.length) (h1 : ldK (bN l 0 : Nat) = 4) (h2 : ldLo (bN l 0 : Nat) = lo) (h3 : ldHi (bN l 0 : Nat) = hi) (h4 : 4 ≤ (1 : Int) ∨ c = ((bN l 0 % 8 : Nat) : Int)) : ∃ (h : Hints) (p : List Prop), outcome Tryd.prog 26 (aBody Tryd.prog clN h (lpBy (nxLpE l 4 lo hi c m)) 60 26 ([.fs 1 l.length (byts l)]) ([])) = some (.tu [.c (.int .i64 (accJ l c m)), .c (.int .i64 4), .c (.bool true)], p) ∧ allP p := by
  have eR := next34_1 l lo hi c m
  refine ⟨_, _, eR.trans (congrArg (fun r => some (r, _)) ?_), ?_⟩
  · rfl
  · clear eR
    have hh := byts_headD l 0 h0
    have e : (l.getD 0 0).toNat = bN l 0 := rfl
    have hb := bN_lt l 0
    have hw : IntKind.i64.wrap ((bN l 0 : Nat) : Int) = ((bN l 0 : Nat) : Int) := i64_wrap (by omega) (by omega)
    have f1 : 4 ≤ (1 : Int) ∨ Int.fdiv (128 : Int) ((2 : Int) ^ (4 : Nat)) = 8 := by first | exact .inl (by omega) | exact .inr (by decide)
    have f2 : ∀ x : Nat, Int.tmod (x : Int) 8 = ((x % 8 : Nat) : Int) := fun x => by rw [tmN (by omega)]; omega
    simp only [allP, toNat0, hh, byteC, e, hw, h1, h2, h3, avEq_refl, byts_length, List.length_drop, and_true, true_and]
    refine ⟨by omega, by omega, by omega, by omega, ?_⟩
    first
      | omega
      | (refine ⟨by omega, by omega, by omega, by omega⟩; done)
      | (have f3 := f1.resolve_left (by omega)
         have f4 := h4.resolve_left (by omega)
         rw [f3, f2, ← f4]
         refine ⟨?_, ?_, ?_, ?_⟩ <;> first | omega | rfl)


theorem next42_1 (l : List UInt8) (lo hi : Nat) (c : Int) (m : Nat) : outcome Tryd.prog 26 (aBody Tryd.prog clN ⟨true, bs [] ++ ([(13, ⟨byteC (l.getD 0 0), none⟩), (22, ⟨byteC (l.getD 0 0), none⟩), (23, ⟨.c (.int .i64 ((l.getD 0 0).toNat : Nat)), none⟩), (28, ⟨byteC (l.getD 0 0), none⟩), (29, ⟨.c (.int .i64 ((l.getD 0 0).toNat : Nat)), none⟩), (15, ⟨.c (.int .i64 2), none⟩), (16, ⟨.c (.int .u8 (lo : Nat)), none⟩), (17, ⟨.c (.int .u8 (hi : Nat)), none⟩), (33, ⟨.c (.int .i64 c), none⟩)])⟩ (lpBy (nxLpR l 2 lo hi c m)) 60 26 ([.fs 1 l.length (byts l)]) ([])) = some ((AV.tu [(AV.c ((Value.int .i64 65533))),
 (AV.c ((Value.int .i64 ((↑(m + (1 : Nat)) : Int))))),
 (AV.c ((Value.bool false)))]), [(((0 : Int) : Int) ≤ ((0 : Int))),
 (((0 : Int) : Int) < ((↑l.length : Int))),
 (((0 : Nat) : Nat) < ((List.drop (Int.toNat (0 : Int)) (byts l)).length)),
 avEq ((List.drop (Int.toNat (0 : Int)) (byts l)).headD AV.any) ((AV.c ((Value.int .u8 ((↑(l.getD (0 : Nat) (0 : UInt8)).toNat : Int)))))),
 (((0 : Int) : Int) ≤ ((↑(l.getD (0 : Nat) (0 : UInt8)).toNat : Int))),
 (((↑(l.getD (0 : Nat) (0 : UInt8)).toNat : Int) : Int) < ((256 : Int))),
 ((ldK (↑(l.getD (0 : Nat) (0 : UInt8)).toNat : Int) : Int)) = (2),
 ((ldLo (↑(l.getD (0 : Nat) (0 : UInt8)).toNat : Int) : Int)) = ((↑lo : Int)),
 ((ldHi (↑(l.getD (0 : Nat) (0 : UInt8)).toNat : Int) : Int)) = ((↑hi : Int)),
 (((0 : Int) : Int) ≤ ((0 : Int))),
 (((0 : Int) : Int) < ((↑l.length : Int))),
 (((0 : Nat) : Nat) < ((List.drop (Int.toNat (0 : Int)) (byts l)).length)),
 avEq ((List.drop (Int.toNat (0 : Int)) (byts l)).headD AV.any) ((AV.c ((Value.int .u8 ((↑(l.getD (0 : Nat) (0 : UInt8)).toNat : Int)))))),
 ((IntKind.i64.wrap (↑(l.getD (0 : Nat) (0 : UInt8)).toNat : Int) : Int)) = ((↑(l.getD (0 : Nat) (0 : UInt8)).toNat : Int)),
 (((↑(l.getD (0 : Nat) (0 : UInt8)).toNat : Int).tmod (Int.fdiv (128 : Int) ((2 : Int) ^ (2 : Nat))) : Int)) = (c),
 ((lbody Tryd.prog (26 : FuncId) (8 : Nat) : Go.Code)) = (lbody Tryd.prog (26 : FuncId) (8 : Nat)),
 ((nxS l (2 : Int) (↑lo : Int) (↑hi : Int) c (1 : Nat) : Go.Proofs.YtfaffnemfndkfaaDoor.St)) = (nxS l (2 : Int) (↑lo : Int) (↑hi : Int) c (1 : Nat))]) := by kernel_rfl

theorem next42_all (l : List UInt8) (lo hi : Nat) (c : Int) (m : Nat) (h0 : 0 < l.length) (h1 : ldK (bN l 0 : Nat) = 2) (h2 : ldLo (bN l 0 : Nat) = lo) (h3 : ldHi (bN l 0 : Nat) = hi) (h4 : 2 ≤ (1 : Int) ∨ c = ((bN l 0 % 32 : Nat) : Int)) : ∃ (h : Hints) (p : List Prop), outcome Tryd.prog 26 (aBody Tryd.prog clN h (lpBy (nxLpR l 2 lo hi c m)) 60 26 ([.fs 1 l.length (byts l)]) ([])) = some (.tu [.c (.int .i64 65533), .c (.int .i64 ((m + 1 : Nat) : Int)), .c (.bool false)], p) ∧ allP p := by
  have eR := next42_1 l lo hi c m
  refine ⟨_, _, eR.trans (congrArg (fun r => some (r, _)) ?_), ?_⟩
  · rfl
  · clear eR
    have hh := byts_headD l 0 h0
    have e : (l.getD 0 0).toNat = bN l 0 := rfl
    have hb := bN_lt l 0
    have hw : IntKind.i64.wrap ((bN l 0 : Nat) : Int) = ((bN l 0 : Nat) : Int) := i64_wrap (by omega) (by omega)
    have f1 : 2 ≤ (1 : Int) ∨ Int.fdiv (128 : Int) ((2 : Int) ^ (2 : Nat)) = 32 := by first | exact .inl (by omega) | exact .inr (by decide)
    have f2 : ∀ x : Nat, Int.tmod (x : Int) 32 = ((x % 32 : Nat) : Int) := fun x => by rw [tmN (by omega)]; omega
    simp only [allP, toNat0, hh, byteC, e, hw, h1, h2, h3, avEq_refl, byts_length, List.length_drop, and_true, true_and]
    refine ⟨by omega, by omega, by omega, by omega, ?_⟩
    first
      | omega
      | (refine ⟨by omega, by omega, by omega, by omega⟩; done)
      | (have f3 := f1.resolve_left (by omega)
         have f4 := h4.resolve_left (by omega)
         rw [f3, f2, ← f4]
         refine ⟨?_, ?_, ?_, ?_⟩ <;> first | omega | rfl)


theorem next43_1 (l : List UInt8) (lo hi : Nat) (c : Int) (m : Nat) : outcome Tryd.prog 26 (aBody Tryd.prog clN ⟨true, bs [] ++ ([(13, ⟨byteC (l.getD 0 0), none⟩), (22, ⟨byteC (l.getD 0 0), none⟩), (23, ⟨.c (.int .i64 ((l.getD 0 0).toNat : Nat)), none⟩), (28, ⟨byteC (l.getD 0 0), none⟩), (29, ⟨.c (.int .i64 ((l.getD 0 0).toNat : Nat)), none⟩), (15, ⟨.c (.int .i64 3), none⟩), (16, ⟨.c (.int .u8 (lo : Nat)), none⟩), (17, ⟨.c (.int .u8 (hi : Nat)), none⟩), (33, ⟨.c (.int .i64 c), none⟩)])⟩ (lpBy (nxLpR l 3 lo hi c m)) 60 26 ([.fs 1 l.length (byts l)]) ([])) = some ((AV.tu [(AV.c ((Value.int .i64 65533))),
 (AV.c ((Value.int .i64 ((↑(m + (1 : Nat)) : Int))))),
 (AV.c ((Value.bool false)))]), [(((0 : Int) : Int) ≤ ((0 : Int))),
 (((0 : Int) : Int) < ((↑l.length : Int))),
 (((0 : Nat) : Nat) < ((List.drop (Int.toNat (0 : Int)) (byts l)).length)),
 avEq ((List.drop (Int.toNat (0 : Int)) (byts l)).headD AV.any) ((AV.c ((Value.int .u8 ((↑(l.getD (0 : Nat) (0 : UInt8)).toNat : Int)))))),
 (((0 : Int) : Int) ≤ ((↑(l.getD (0 : Nat) (0 : UInt8)).toNat : Int))),
 (((↑(l.getD (0 : Nat) (0 : UInt8)).toNat : Int) : Int) < ((256 : Int))),
 ((ldK (↑(l.getD (0 : Nat) (0 : UInt8)).toNat : Int) : Int)) = (3),
 ((ldLo (↑(l.getD (0 : Nat) (0 : UInt8)).toNat : Int) : Int)) = ((↑lo : Int)),
 ((ldHi (↑(l.getD (0 : Nat) (0 : UInt8)).toNat : Int) : Int)) = ((↑hi : Int)),
 (((0 : Int) : Int) ≤ ((0 : Int))),
 (((0 : Int) : Int) < ((↑l.length : Int))),
 (((0 : Nat) : Nat) < ((List.drop (Int.toNat (0 : Int)) (byts l)).length)),
 avEq ((List.drop (Int.toNat (0 : Int)) (byts l)).headD AV.any) ((AV.c ((Value.int .u8 ((↑(l.getD (0 : Nat) (0 : UInt8)).toNat : Int)))))),
 ((IntKind.i64.wrap (↑(l.getD (0 : Nat) (0 : UInt8)).toNat : Int) : Int)) = ((↑(l.getD (0 : Nat) (0 : UInt8)).toNat : Int)),
 (((↑(l.getD (0 : Nat) (0 : UInt8)).toNat : Int).tmod (Int.fdiv (128 : Int) ((2 : Int) ^ (3 : Nat))) : Int)) = (c),
 ((lbody Tryd.prog (26 : FuncId) (8 : Nat) : Go.Code)) = (lbody Tryd.prog (26 : FuncId) (8 : Nat)),
 ((nxS l (3 : Int) (↑lo : Int) (↑hi : Int) c (1 : Nat) : Go.Proofs.YtfaffnemfndkfaaDoor.St)) = (nxS l (3 : Int) (↑lo : Int) (↑hi : Int) c (1 : Nat))]) := by kernel_rfl

theorem next43_all (l : List UInt8) (lo hi : Nat) (c : Int) (m : Nat) (h0 : 0 < l.length) (h1 : ldK (bN l 0 : Nat) = 3) (h2 : ldLo (bN l 0 : Nat) = lo) (h3 : ldHi (bN l 0 : Nat) = hi) (h4 : 3 ≤ (1 : Int) ∨ c = ((bN l 0 % 16 : Nat) : Int)) : ∃ (h : Hints) (p : List Prop), outcome Tryd.prog 26 (aBody Tryd.prog clN h (lpBy (nxLpR l 3 lo hi c m)) 60 26 ([.fs 1 l.length (byts l)]) ([])) = some (.tu [.c (.int .i64 65533), .c (.int .i64 ((m + 1 : Nat) : Int)), .c (.bool false)], p) ∧ allP p := by
  have eR := next43_1 l lo hi c m
  refine ⟨_, _, eR.trans (congrArg (fun r => some (r, _)) ?_), ?_⟩
  · rfl
  · clear eR
    have hh := byts_headD l 0 h0
    have e : (l.getD 0 0).toNat = bN l 0 := rfl
    have hb := bN_lt l 0
    have hw : IntKind.i64.wrap ((bN l 0 : Nat) : Int) = ((bN l 0 : Nat) : Int) := i64_wrap (by omega) (by omega)
    have f1 : 3 ≤ (1 : Int) ∨ Int.fdiv (128 : Int) ((2 : Int) ^ (3 : Nat)) = 16 := by first | exact .inl (by omega) | exact .inr (by decide)
    have f2 : ∀ x : Nat, Int.tmod (x : Int) 16 = ((x % 16 : Nat) : Int) := fun x => by rw [tmN (by omega)]; omega
    simp only [allP, toNat0, hh, byteC, e, hw, h1, h2, h3, avEq_refl, byts_length, List.length_drop, and_true, true_and]
    refine ⟨by omega, by omega, by omega, by omega, ?_⟩
    first
      | omega
      | (refine ⟨by omega, by omega, by omega, by omega⟩; done)
      | (have f3 := f1.resolve_left (by omega)
         have f4 := h4.resolve_left (by omega)
         rw [f3, f2, ← f4]
         refine ⟨?_, ?_, ?_, ?_⟩ <;> first | omega | rfl)


theorem next44_1 (l : List UInt8) (lo hi : Nat) (c : Int) (m : Nat) : outcome Tryd.prog 26 (aBody Tryd.prog clN ⟨true, bs [] ++ ([(13, ⟨byteC (l.getD 0 0), none⟩), (22, ⟨byteC (l.getD 0 0), none⟩), (23, ⟨.c (.int .i64 ((l.getD 0 0).toNat : Nat)), none⟩), (28, ⟨byteC (l.getD 0 0), none⟩), (29, ⟨.c (.int .i64 ((l.getD 0 0).toNat : Nat)), none⟩), (15, ⟨.c (.int .i64 4), none⟩), (16, ⟨.c (.int .u8 (lo : Nat)), none⟩), (17, ⟨.c (.int .u8 (hi : Nat)), none⟩), (33, ⟨.c (.int .i64 c), none⟩)])⟩ (lpBy (nxLpR l 4 lo hi c m)) 60 26 ([.fs 1 l.length (byts l)]) ([])) = some ((AV.tu [(AV.c ((Value.int .i64 65533))),
 (AV.c ((Value.int .i64 ((↑(m + (1 : Nat)) : Int))))),
 (AV.c ((Value.bool false)))]), [(((0 : Int) : Int) ≤ ((0 : Int))),
 (((0 : Int) : Int) < ((↑l.length : Int))),
 (((0 : Nat) : Nat) < ((List.drop (Int.toNat (0 : Int)) (byts l)).length)),
 avEq ((List.drop (Int.toNat (0 : Int)) (byts l)).headD AV.any) ((AV.c ((Value.int .u8 ((↑(l.getD (0 : Nat) (0 : UInt8)).toNat : Int)))))),
 (((0 : Int) : Int) ≤ ((↑(l.getD (0 : Nat) (0 : UInt8)).toNat : Int))),
 (((↑(l.getD (0 : Nat) (0 : UInt8)).toNat : Int) : Int) < ((256 : Int))),
 ((ldK (↑(l.getD (0 : Nat) (0 : UInt8)).toNat : Int) : Int)) = (4),
 ((ldLo (↑(l.getD (0 : Nat) (0 : UInt8)).toNat : Int) : Int)) = ((↑lo : Int)),
 ((ldHi (↑(l.getD (0 : Nat) (0 : UInt8)).toNat : Int) : Int)) = ((↑hi : Int)),
 (((0 : Int) : Int) ≤ ((0 : Int))),
 (((0 : Int) : Int) < ((↑l.length : Int))),
 (((0 : Nat) : Nat) < ((List.drop (Int.toNat (0 : Int)) (byts l)).length)),
 avEq ((List.drop (Int.toNat (0 : Int)) (byts l)).headD AV.any) ((AV.c ((Value.int .u8 ((↑(l.getD (0 : Nat) (0 : UInt8)).toNat : Int)))))),
 ((IntKind.i64.wrap (↑(l.getD (0 : Nat) (0 : UInt8)).toNat : Int) : Int)) = ((↑(l.getD (0 : Nat) (0 : UInt8)).toNat : Int)),
 (((↑(l.getD (0 : Nat) (0 : UInt8)).toNat : Int).tmod (Int.fdiv (128 : Int) ((2 : Int) ^ (4 : Nat))) : Int)) = (c),
 ((lbody Tryd.prog (26 : FuncId) (8 : Nat) : Go.Code)) = (lbody Tryd.prog (26 : FuncId) (8 : Nat)),
 ((nxS l (4 : Int) (↑lo : Int) (↑hi : Int) c (1 : Nat) : Go.Proofs.YtfaffnemfndkfaaDoor.St)) = (nxS l (4 : Int) (↑lo : Int) (↑hi : Int) c (1 : Nat))]) := by kernel_rfl

theorem next44_all (l : List UInt8) (lo hi : Nat) (c : Int) (m : Nat) (h0 : 0 < l.length) (h1 : ldK (bN l 0 : Nat) = 4) (h2 : ldLo (bN l 0 : Nat) = lo) (h3 : ldHi (bN l 0 : Nat) = hi) (h4 : 4 ≤ (1 : Int) ∨ c = ((bN l 0 % 8 : Nat) : Int)) : ∃ (h : Hints) (p : List Prop), outcome Tryd.prog 26 (aBody Tryd.prog clN h (lpBy (nxLpR l 4 lo hi c m)) 60 26 ([.fs 1 l.length (byts l)]) ([])) = some (.tu [.c (.int .i64 65533), .c (.int .i64 ((m + 1 : Nat) : Int)), .c (.bool false)], p) ∧ allP p := by
  have eR := next44_1 l lo hi c m
  refine ⟨_, _, eR.trans (congrArg (fun r => some (r, _)) ?_), ?_⟩
  · rfl
  · clear eR
    have hh := byts_headD l 0 h0
    have e : (l.getD 0 0).toNat = bN l 0 := rfl
    have hb := bN_lt l 0
    have hw : IntKind.i64.wrap ((bN l 0 : Nat) : Int) = ((bN l 0 : Nat) : Int) := i64_wrap (by omega) (by omega)
    have f1 : 4 ≤ (1 : Int) ∨ Int.fdiv (128 : Int) ((2 : Int) ^ (4 : Nat)) = 8 := by first | exact .inl (by omega) | exact .inr (by decide)
    have f2 : ∀ x : Nat, Int.tmod (x : Int) 8 = ((x % 8 : Nat) : Int) := fun x => by rw [tmN (by omega)]; omega
    simp only [allP, toNat0, hh, byteC, e, hw, h1, h2, h3, avEq_refl, byts_length, List.length_drop, and_true, true_and]
    refine ⟨by omega, by omega, by omega, by omega, ?_⟩
    first
      | omega
      | (refine ⟨by omega, by omega, by omega, by omega⟩; done)
      | (have f3 := f1.resolve_left (by omega)
         have f4 := h4.resolve_left (by omega)
         rw [f3, f2, ← f4]
         refine ⟨?_, ?_, ?_, ?_⟩ <;> first | omega | rfl)

end Go.Proofs.YtfaffnemfndkfaaDoor
