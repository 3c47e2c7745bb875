/- The law of bytes that are plain. -/
import Derived.Test.YtfaffnemfndkfaaDoorTextP
namespace Go.Proofs.YtfaffnemfndkfaaDoor
open Go.RowKit U8
set_option linter.unusedVariables false
set_option linter.unusedSimpArgs false

/-- A contract by another one. -/
theorem spec_via {P : Program} {f : FuncId} {s spec : Spec} (ok : SpecOK P f s) (h : ∀ args r q, spec args = some (r, q) → allP q → ∃ q', s args = some (r, q') ∧ allP q') : SpecOK P f spec :=
  fun args r q hs hq w κ vs hh hl hv => by
    obtain ⟨q', h1, h2⟩ := h args r q hs hq
    exact ok args r q' h1 h2 w κ vs hh hl hv

def decSpecU : Spec
  | [.fs s n l] => some (.c (str (fixF (unbyts l))), [s = 1, l = byts (unbyts l), n = (unbyts l).length, n ≤ 1000000000])
  | _ => none
theorem decU_ok : SpecOK Tryd.prog 11 decSpecU := by
  refine spec_via dec_ok fun args r q hs hq => ?_
  unfold decSpecU at hs
  split at hs
  · simp only [Option.some.injEq, Prod.mk.injEq] at hs
    obtain ⟨rfl, rfl⟩ := hs
    exact ⟨_, by rw [← decF_eq]; rfl, hq⟩
  · simp at hs
def signsSpecU : Spec
  | [.c (.string s)] => some (.fs 1 (natI (signsN (sb s))).length (ints (natI (signsN (sb s)))), [(sb s).length ≤ 1000000000])
  | _ => none
theorem signsU_ok : SpecOK Tryd.prog 12 signsSpecU := by
  refine spec_via signs_ok fun args r q hs hq => ?_
  unfold signsSpecU at hs
  split at hs
  · simp only [Option.some.injEq, Prod.mk.injEq] at hs
    obtain ⟨rfl, rfl⟩ := hs
    exact ⟨_, by rw [← sigF_eq]; rfl, hq⟩
  · simp at hs

noncomputable def clV : CallT := aCall Tryd.prog (sgBy [(10, smallSpec), (11, decSpecU), (14, rightSpec), (12, signsSpecU), (16, intsSpec)]) 500 8
theorem clV_ok : CallOK Tryd.prog clV := aCall_ok mixed (sgBy_cons small_ok (sgBy_cons decU_ok (sgBy_cons right_ok (sgBy_cons signsU_ok (sgBy_cons ints_ok sgBy_nil))))) 500 8

def pl1G (l x : List UInt8) (C : List Int) (i n : Nat) (L : List AV) : St := ⟨frame 113 [(0, .fs 1 l.length (byts l)), (3, .c (.bool true)), (4, .c (str x)), (5, .sl 0 0 C.length), (6, .sl 1 0 n), (7, .c (.int .i64 i))], [some ⟨3, false, ints C⟩, some ⟨5, false, L⟩]⟩
def pl2G (l x : List UInt8) (C : List Int) (p : List UInt8) (i n : Nat) (L : List AV) : St := ⟨frame 113 [(0, .fs 1 l.length (byts l)), (3, .c (.bool true)), (4, .c (str x)), (5, .sl 0 0 C.length), (6, .sl 1 0 p.length), (8, .sl 2 0 n), (9, .c (.int .i64 i))], [some ⟨3, false, ints C⟩, some ⟨5, false, byts p⟩, some ⟨5, false, L⟩]⟩
def pl3G (l : List UInt8) (C : List Int) (p q : List UInt8) (i n : Nat) : St := ⟨frame 113 [(0, .fs 1 l.length (byts l)), (3, .c (.bool true)), (5, .sl 0 0 C.length), (6, .sl 1 0 p.length), (8, .sl 2 0 q.length), (10, .c (.int .i64 n)), (11, .c (.int .i64 i))], [some ⟨3, false, ints C⟩, some ⟨5, false, byts p⟩, some ⟨5, false, byts q⟩]⟩

theorem pl1_1 (l x : List UInt8) (C : List Int) (i : Nat) (out : List UInt8) : roundOut (⟨[], [0, 3, 4, 5, 6, 7], [0, 3]⟩) (aCode Tryd.prog clV ⟨true, bs [(25, true), (32, true)] ++ ([(31, ⟨byteC (l.getD i 0), none⟩), (37, ⟨byteC (l.getD i 0), none⟩)])⟩ (lpBy ([])) 60 (lbody Tryd.prog 8 8) (pl1G l x C i out.length (byts out))) = some (.normal, pl1G l x C (i + 1) (out.length + 1) (List.take out.length (byts out) ++ [byteC (l.getD i 0)]), [((decide ((↑i : Int) < (↑l.length : Int)) : Bool)) = (true),
 (((0 : Int) : Int) ≤ ((↑i : Int))),
 (((↑i : Int) : Int) < ((↑l.length : Int))),
 (((0 : Nat) : Nat) < ((List.drop i (byts l)).length)),
 avEq ((List.drop i (byts l)).headD AV.any) ((AV.c ((Value.int .u8 ((↑(l.getD i (0 : UInt8)).toNat : Int)))))),
 ((decide ((↑(l.getD i (0 : UInt8)).toNat : Int) < (128 : Int)) : Bool)) = (true),
 (((0 : Int) : Int) ≤ ((↑i : Int))),
 (((↑i : Int) : Int) < ((↑l.length : Int))),
 (((0 : Nat) : Nat) < ((List.drop i (byts l)).length)),
 avEq ((List.drop i (byts l)).headD AV.any) ((AV.c ((Value.int .u8 ((↑(l.getD i (0 : UInt8)).toNat : Int)))))),
 (((1 : Nat) : Nat) ≤ ((1 : Nat))),
 (((out.length + (1 : Nat)) * (1 : Nat) : Nat) ≤ ((140737488355328 : Nat))),
 ((out.length + (1 : Nat) : Nat) ≤ ((4611686018427387904 : Nat))),
 ((out.length : Nat) ≤ ((byts out).length)),
 ((IntKind.i64.min : Int) ≤ ((↑i : Int) + (1 : Int))),
 (((↑i : Int) + (1 : Int) : Int) ≤ (IntKind.i64.max))]) := by kernel_rfl

theorem pl1_2 (l x : List UInt8) (C : List Int) (i : Nat) (out : List UInt8) : roundOut (⟨[], [0, 3, 4, 5, 6, 7], [0, 1]⟩) (aCode Tryd.prog clV ⟨true, bs [(25, true), (32, false)] ++ ([(31, ⟨byteC (l.getD i 0), none⟩), (37, ⟨byteC (l.getD i 0), none⟩)])⟩ (lpBy ([])) 60 (lbody Tryd.prog 8 8) (pl1G l x C i out.length (byts out))) = some (.normal, pl1G l x C (i + 1) out.length (byts out), [((decide ((↑i : Int) < (↑l.length : Int)) : Bool)) = (true),
 (((0 : Int) : Int) ≤ ((↑i : Int))),
 (((↑i : Int) : Int) < ((↑l.length : Int))),
 (((0 : Nat) : Nat) < ((List.drop i (byts l)).length)),
 avEq ((List.drop i (byts l)).headD AV.any) ((AV.c ((Value.int .u8 ((↑(l.getD i (0 : UInt8)).toNat : Int)))))),
 ((decide ((↑(l.getD i (0 : UInt8)).toNat : Int) < (128 : Int)) : Bool)) = (false),
 ((IntKind.i64.min : Int) ≤ ((↑i : Int) + (1 : Int))),
 (((↑i : Int) + (1 : Int) : Int) ≤ (IntKind.i64.max))]) := by kernel_rfl

theorem pl1_3 (l x : List UInt8) (C : List Int) (i : Nat) (out : List UInt8) : roundOut (⟨[], [0, 3, 4, 5, 6, 7], [0, 1]⟩) (aCode Tryd.prog clV ⟨true, bs [(25, false)] ++ ([(31, ⟨byteC (l.getD i 0), none⟩), (37, ⟨byteC (l.getD i 0), none⟩)])⟩ (lpBy ([])) 60 (lbody Tryd.prog 8 8) (pl1G l x C i out.length (byts out))) = some (.exit 0, pl1G l x C i out.length (byts out), [((decide ((↑i : Int) < (↑l.length : Int)) : Bool)) = (false)]) := by kernel_rfl

theorem pl2_1 (l x : List UInt8) (C : List Int) (p : List UInt8) (i : Nat) (out : List UInt8) : roundOut (⟨[], [0, 3, 4, 5, 6, 8, 9], [0, 1, 4]⟩) (aCode Tryd.prog clV ⟨true, bs [(43, true), (49, true)] ++ ([])⟩ (lpBy ([])) 60 (lbody Tryd.prog 8 14) (pl2G l x C p i out.length (byts out))) = some (.normal, pl2G l x C p (i + 1) (out.length + 1) (List.take out.length (byts out) ++ [byteC (x.getD i 0)]), [((decide ((↑i : Int) < (↑x.length : Int)) : Bool)) = (true),
 (((0 : Int) : Int) ≤ ((↑i : Int))),
 (((↑i : Int) : Int) < ((↑x.length : Int))),
 ((decide ((↑(x.getD i (0 : UInt8)).toNat : Int) < (128 : Int)) : Bool)) = (true),
 (((0 : Int) : Int) ≤ ((↑i : Int))),
 (((↑i : Int) : Int) < ((↑x.length : Int))),
 (((1 : Nat) : Nat) ≤ ((1 : Nat))),
 (((out.length + (1 : Nat)) * (1 : Nat) : Nat) ≤ ((140737488355328 : Nat))),
 ((out.length + (1 : Nat) : Nat) ≤ ((4611686018427387904 : Nat))),
 ((out.length : Nat) ≤ ((byts out).length)),
 ((IntKind.i64.min : Int) ≤ ((↑i : Int) + (1 : Int))),
 (((↑i : Int) + (1 : Int) : Int) ≤ (IntKind.i64.max))]) := by kernel_rfl

theorem pl2_2 (l x : List UInt8) (C : List Int) (p : List UInt8) (i : Nat) (out : List UInt8) : roundOut (⟨[], [0, 3, 4, 5, 6, 8, 9], [0, 1, 2]⟩) (aCode Tryd.prog clV ⟨true, bs [(43, true), (49, false)] ++ ([])⟩ (lpBy ([])) 60 (lbody Tryd.prog 8 14) (pl2G l x C p i out.length (byts out))) = some (.normal, pl2G l x C p (i + 1) out.length (byts out), [((decide ((↑i : Int) < (↑x.length : Int)) : Bool)) = (true),
 (((0 : Int) : Int) ≤ ((↑i : Int))),
 (((↑i : Int) : Int) < ((↑x.length : Int))),
 ((decide ((↑(x.getD i (0 : UInt8)).toNat : Int) < (128 : Int)) : Bool)) = (false),
 ((IntKind.i64.min : Int) ≤ ((↑i : Int) + (1 : Int))),
 (((↑i : Int) + (1 : Int) : Int) ≤ (IntKind.i64.max))]) := by kernel_rfl

theorem pl2_3 (l x : List UInt8) (C : List Int) (p : List UInt8) (i : Nat) (out : List UInt8) : roundOut (⟨[], [0, 3, 4, 5, 6, 8, 9], [0, 1, 2]⟩) (aCode Tryd.prog clV ⟨true, bs [(43, false)] ++ ([])⟩ (lpBy ([])) 60 (lbody Tryd.prog 8 14) (pl2G l x C p i out.length (byts out))) = some (.exit 2, pl2G l x C p i out.length (byts out), [((decide ((↑i : Int) < (↑x.length : Int)) : Bool)) = (false)]) := by kernel_rfl

theorem pl3_1 (l : List UInt8) (C : List Int) (p q : List UInt8) (i n : Nat) (c : Int) (y : UInt8) : roundOut (⟨[], [0, 3, 5, 6, 8, 10, 11], [0, 1, 2]⟩) (aCode Tryd.prog clV ⟨true, bs [(59, true), (66, true), (72, true), (77, true)] ++ ([(65, ⟨.c (.int .i64 c), none⟩), (71, ⟨.c (.int .i64 c), none⟩), (87, ⟨.c (.int .i64 c), none⟩), (82, ⟨byteC y, none⟩)])⟩ (lpBy ([])) 60 (lbody Tryd.prog 8 20) (pl3G l C p q i n)) = some (.ret, pl3G l C p q i n, [((decide ((↑i : Int) < (↑C.length : Int)) : Bool)) = (true),
 (((0 : Int) : Int) ≤ ((↑i : Int))),
 (((↑i : Int) : Int) < ((↑C.length : Int))),
 (((0 : Nat) : Nat) < ((List.drop (i + (0 : Nat)) (ints C)).length)),
 avEq ((List.drop (i + (0 : Nat)) (ints C)).headD AV.any) ((AV.c ((Value.int .i64 c)))),
 ((decide (c ≥ (0 : Int)) : Bool)) = (true),
 (((0 : Int) : Int) ≤ ((↑i : Int))),
 (((↑i : Int) : Int) < ((↑C.length : Int))),
 (((0 : Nat) : Nat) < ((List.drop (i + (0 : Nat)) (ints C)).length)),
 avEq ((List.drop (i + (0 : Nat)) (ints C)).headD AV.any) ((AV.c ((Value.int .i64 c)))),
 ((decide (c < (128 : Int)) : Bool)) = (true),
 ((decide ((↑n : Int) ≥ (↑p.length : Int)) : Bool)) = (true)]) := by kernel_rfl

theorem pl3_2 (l : List UInt8) (C : List Int) (p q : List UInt8) (i n : Nat) (c : Int) (y : UInt8) : roundOut (⟨[], [0, 3, 5, 6, 8, 10, 11], [0, 1, 2]⟩) (aCode Tryd.prog clV ⟨true, bs [(59, true), (66, true), (72, true), (77, false), (88, true)] ++ ([(65, ⟨.c (.int .i64 c), none⟩), (71, ⟨.c (.int .i64 c), none⟩), (87, ⟨.c (.int .i64 c), none⟩), (82, ⟨byteC y, none⟩)])⟩ (lpBy ([])) 60 (lbody Tryd.prog 8 20) (pl3G l C p q i n)) = some (.ret, pl3G l C p q i n, [((decide ((↑i : Int) < (↑C.length : Int)) : Bool)) = (true),
 (((0 : Int) : Int) ≤ ((↑i : Int))),
 (((↑i : Int) : Int) < ((↑C.length : Int))),
 (((0 : Nat) : Nat) < ((List.drop (i + (0 : Nat)) (ints C)).length)),
 avEq ((List.drop (i + (0 : Nat)) (ints C)).headD AV.any) ((AV.c ((Value.int .i64 c)))),
 ((decide (c ≥ (0 : Int)) : Bool)) = (true),
 (((0 : Int) : Int) ≤ ((↑i : Int))),
 (((↑i : Int) : Int) < ((↑C.length : Int))),
 (((0 : Nat) : Nat) < ((List.drop (i + (0 : Nat)) (ints C)).length)),
 avEq ((List.drop (i + (0 : Nat)) (ints C)).headD AV.any) ((AV.c ((Value.int .i64 c)))),
 ((decide (c < (128 : Int)) : Bool)) = (true),
 ((decide ((↑n : Int) ≥ (↑p.length : Int)) : Bool)) = (false),
 (((0 : Int) : Int) ≤ ((↑n : Int))),
 (((↑n : Int) : Int) < ((↑p.length : Int))),
 (((0 : Nat) : Nat) < ((List.drop (n + (0 : Nat)) (byts p)).length)),
 avEq ((List.drop (n + (0 : Nat)) (byts p)).headD AV.any) ((AV.c ((Value.int .u8 ((↑y.toNat : Int)))))),
 (((0 : Int) : Int) ≤ ((↑i : Int))),
 (((↑i : Int) : Int) < ((↑C.length : Int))),
 (((0 : Nat) : Nat) < ((List.drop (i + (0 : Nat)) (ints C)).length)),
 avEq ((List.drop (i + (0 : Nat)) (ints C)).headD AV.any) ((AV.c ((Value.int .i64 c)))),
 ((IntKind.i64.wrap (↑y.toNat : Int) != c : Bool)) = (true)]) := by kernel_rfl

theorem pl3_3 (l : List UInt8) (C : List Int) (p q : List UInt8) (i n : Nat) (c : Int) (y : UInt8) : roundOut (⟨[], [0, 3, 5, 6, 8, 10, 11], [0, 1, 2]⟩) (aCode Tryd.prog clV ⟨true, bs [(59, true), (66, true), (72, true), (77, false), (88, false)] ++ ([(65, ⟨.c (.int .i64 c), none⟩), (71, ⟨.c (.int .i64 c), none⟩), (87, ⟨.c (.int .i64 c), none⟩), (82, ⟨byteC y, none⟩)])⟩ (lpBy ([])) 60 (lbody Tryd.prog 8 20) (pl3G l C p q i n)) = some (.normal, pl3G l C p q (i + 1) (n + 1), [((decide ((↑i : Int) < (↑C.length : Int)) : Bool)) = (true),
 (((0 : Int) : Int) ≤ ((↑i : Int))),
 (((↑i : Int) : Int) < ((↑C.length : Int))),
 (((0 : Nat) : Nat) < ((List.drop (i + (0 : Nat)) (ints C)).length)),
 avEq ((List.drop (i + (0 : Nat)) (ints C)).headD AV.any) ((AV.c ((Value.int .i64 c)))),
 ((decide (c ≥ (0 : Int)) : Bool)) = (true),
 (((0 : Int) : Int) ≤ ((↑i : Int))),
 (((↑i : Int) : Int) < ((↑C.length : Int))),
 (((0 : Nat) : Nat) < ((List.drop (i + (0 : Nat)) (ints C)).length)),
 avEq ((List.drop (i + (0 : Nat)) (ints C)).headD AV.any) ((AV.c ((Value.int .i64 c)))),
 ((decide (c < (128 : Int)) : Bool)) = (true),
 ((decide ((↑n : Int) ≥ (↑p.length : Int)) : Bool)) = (false),
 (((0 : Int) : Int) ≤ ((↑n : Int))),
 (((↑n : Int) : Int) < ((↑p.length : Int))),
 (((0 : Nat) : Nat) < ((List.drop (n + (0 : Nat)) (byts p)).length)),
 avEq ((List.drop (n + (0 : Nat)) (byts p)).headD AV.any) ((AV.c ((Value.int .u8 ((↑y.toNat : Int)))))),
 (((0 : Int) : Int) ≤ ((↑i : Int))),
 (((↑i : Int) : Int) < ((↑C.length : Int))),
 (((0 : Nat) : Nat) < ((List.drop (i + (0 : Nat)) (ints C)).length)),
 avEq ((List.drop (i + (0 : Nat)) (ints C)).headD AV.any) ((AV.c ((Value.int .i64 c)))),
 ((IntKind.i64.wrap (↑y.toNat : Int) != c : Bool)) = (false),
 ((IntKind.i64.min : Int) ≤ ((↑n : Int) + (1 : Int))),
 (((↑n : Int) + (1 : Int) : Int) ≤ (IntKind.i64.max)),
 ((IntKind.i64.min : Int) ≤ ((↑i : Int) + (1 : Int))),
 (((↑i : Int) + (1 : Int) : Int) ≤ (IntKind.i64.max))]) := by kernel_rfl

theorem pl3_4 (l : List UInt8) (C : List Int) (p q : List UInt8) (i n : Nat) (c : Int) (y : UInt8) : roundOut (⟨[], [0, 3, 5, 6, 8, 10, 11], [0, 1, 2]⟩) (aCode Tryd.prog clV ⟨true, bs [(59, true), (66, true), (72, false)] ++ ([(65, ⟨.c (.int .i64 c), none⟩), (71, ⟨.c (.int .i64 c), none⟩), (87, ⟨.c (.int .i64 c), none⟩), (82, ⟨byteC y, none⟩)])⟩ (lpBy ([])) 60 (lbody Tryd.prog 8 20) (pl3G l C p q i n)) = some (.normal, pl3G l C p q (i + 1) n, [((decide ((↑i : Int) < (↑C.length : Int)) : Bool)) = (true),
 (((0 : Int) : Int) ≤ ((↑i : Int))),
 (((↑i : Int) : Int) < ((↑C.length : Int))),
 (((0 : Nat) : Nat) < ((List.drop (i + (0 : Nat)) (ints C)).length)),
 avEq ((List.drop (i + (0 : Nat)) (ints C)).headD AV.any) ((AV.c ((Value.int .i64 c)))),
 ((decide (c ≥ (0 : Int)) : Bool)) = (true),
 (((0 : Int) : Int) ≤ ((↑i : Int))),
 (((↑i : Int) : Int) < ((↑C.length : Int))),
 (((0 : Nat) : Nat) < ((List.drop (i + (0 : Nat)) (ints C)).length)),
 avEq ((List.drop (i + (0 : Nat)) (ints C)).headD AV.any) ((AV.c ((Value.int .i64 c)))),
 ((decide (c < (128 : Int)) : Bool)) = (false),
 ((IntKind.i64.min : Int) ≤ ((↑i : Int) + (1 : Int))),
 (((↑i : Int) + (1 : Int) : Int) ≤ (IntKind.i64.max))]) := by kernel_rfl

theorem pl3_5 (l : List UInt8) (C : List Int) (p q : List UInt8) (i n : Nat) (c : Int) (y : UInt8) : roundOut (⟨[], [0, 3, 5, 6, 8, 10, 11], [0, 1, 2]⟩) (aCode Tryd.prog clV ⟨true, bs [(59, true), (66, false)] ++ ([(65, ⟨.c (.int .i64 c), none⟩), (71, ⟨.c (.int .i64 c), none⟩), (87, ⟨.c (.int .i64 c), none⟩), (82, ⟨byteC y, none⟩)])⟩ (lpBy ([])) 60 (lbody Tryd.prog 8 20) (pl3G l C p q i n)) = some (.normal, pl3G l C p q (i + 1) n, [((decide ((↑i : Int) < (↑C.length : Int)) : Bool)) = (true),
 (((0 : Int) : Int) ≤ ((↑i : Int))),
 (((↑i : Int) : Int) < ((↑C.length : Int))),
 (((0 : Nat) : Nat) < ((List.drop (i + (0 : Nat)) (ints C)).length)),
 avEq ((List.drop (i + (0 : Nat)) (ints C)).headD AV.any) ((AV.c ((Value.int .i64 c)))),
 ((decide (c ≥ (0 : Int)) : Bool)) = (false),
 ((IntKind.i64.min : Int) ≤ ((↑i : Int) + (1 : Int))),
 (((↑i : Int) + (1 : Int) : Int) ≤ (IntKind.i64.max))]) := by kernel_rfl

theorem pl3_6 (l : List UInt8) (C : List Int) (p q : List UInt8) (i n : Nat) (c : Int) (y : UInt8) : roundOut (⟨[], [0, 3, 5, 6, 8, 10, 11], [0, 1, 2]⟩) (aCode Tryd.prog clV ⟨true, bs [(59, false)] ++ ([(65, ⟨.c (.int .i64 c), none⟩), (71, ⟨.c (.int .i64 c), none⟩), (87, ⟨.c (.int .i64 c), none⟩), (82, ⟨byteC y, none⟩)])⟩ (lpBy ([])) 60 (lbody Tryd.prog 8 20) (pl3G l C p q i n)) = some (.exit 4, pl3G l C p q i n, [((decide ((↑i : Int) < (↑C.length : Int)) : Bool)) = (false)]) := by kernel_rfl

theorem low_next (l : List UInt8) (i : Nat) (h : i < l.length) : lowF (l.take (i + 1)) = lowF (l.take i) ++ if (l.getD i 0).toNat < 128 then [l.getD i 0] else [] := by
  rw [take_succ_getD l i 0 h, low_app]
  congr 1
  unfold lowF
  rw [List.filter_cons]
  split
  · rename_i q
    rw [if_pos (by simpa using q)]; rfl
  · rename_i q
    rw [if_neg (by simpa using q)]; rfl
theorem low_len (l : List UInt8) : (lowF l).length ≤ l.length := List.length_filter_le _ _

theorem pl1_loop (l x : List UInt8) (C : List Int) (hl : l.length ≤ 1000000) : Tri Ext0 Tryd.prog (.loop (lbody Tryd.prog 8 8)) (pl1G l x C 0 0 []) (.exit 0) (pl1G l x C l.length (lowF l).length (byts (lowF l))) := by
  have key := loop_up mixed clV_ok (fun i => pl1G l x C i (lowF (l.take i)).length (byts (lowF (l.take i)))) l.length (e := .exit 0) (R := pl1G l x C l.length (lowF l).length (byts (lowF l))) (b := lbody Tryd.prog 8 8) (by simp) ?_ ?_ 0 (Nat.zero_le _)
  · exact key
  · intro i hi
    have h1 := low_len (l.take i)
    rw [List.length_take] at h1
    have h3 := byts_headD l i hi
    try simp only
    rw [low_next l i hi]
    generalize lowF (l.take i) = out at *
    by_cases hq : (l.getD i 0).toNat < 128
    · rw [if_pos hq, List.length_append, ← byts_put]
      refine ⟨_, _, _, _, _, lpBy_nil, by decide, pl1_1 l x C i out, ?_⟩
      simp only [allP, h3, byteC, avEq_refl, byts_length, List.length_drop, and_true, true_and, decide_eq_true_eq, decide_eq_false_iff_not, i64_min, i64_max]
      omega
    · rw [if_neg hq, List.append_nil]
      refine ⟨_, _, _, _, _, lpBy_nil, by decide, pl1_2 l x C i out, ?_⟩
      simp only [allP, h3, byteC, avEq_refl, byts_length, List.length_drop, and_true, true_and, decide_eq_true_eq, decide_eq_false_iff_not, i64_min, i64_max]
      omega
  · try simp only [List.take_length]
    refine ⟨_, _, _, _, _, lpBy_nil, by decide, pl1_3 l x C l.length (lowF l), ?_⟩
    simp [allP]


theorem pl2_loop (l x : List UInt8) (C : List Int) (p : List UInt8) (hl : x.length ≤ 1000000) : Tri Ext0 Tryd.prog (.loop (lbody Tryd.prog 8 14)) (pl2G l x C p 0 0 []) (.exit 2) (pl2G l x C p x.length (lowF x).length (byts (lowF x))) := by
  have key := loop_up mixed clV_ok (fun i => pl2G l x C p i (lowF (x.take i)).length (byts (lowF (x.take i)))) x.length (e := .exit 2) (R := pl2G l x C p x.length (lowF x).length (byts (lowF x))) (b := lbody Tryd.prog 8 14) (by simp) ?_ ?_ 0 (Nat.zero_le _)
  · exact key
  · intro i hi
    have h1 := low_len (x.take i)
    rw [List.length_take] at h1
    have h3 := byts_headD x i hi
    try simp only
    rw [low_next x i hi]
    generalize lowF (x.take i) = out at *
    by_cases hq : (x.getD i 0).toNat < 128
    · rw [if_pos hq, List.length_append, ← byts_put]
      refine ⟨_, _, _, _, _, lpBy_nil, by decide, pl2_1 l x C p i out, ?_⟩
      simp only [allP, h3, byteC, avEq_refl, byts_length, List.length_drop, and_true, true_and, decide_eq_true_eq, decide_eq_false_iff_not, i64_min, i64_max]
      omega
    · rw [if_neg hq, List.append_nil]
      refine ⟨_, _, _, _, _, lpBy_nil, by decide, pl2_2 l x C p i out, ?_⟩
      simp only [allP, h3, byteC, avEq_refl, byts_length, List.length_drop, and_true, true_and, decide_eq_true_eq, decide_eq_false_iff_not, i64_min, i64_max]
      omega
  · try simp only [List.take_length]
    refine ⟨_, _, _, _, _, lpBy_nil, by decide, pl2_3 l x C p x.length (lowF x), ?_⟩
    simp [allP]

theorem lowS_next (cs : List Nat) (i : Nat) (h : i < cs.length) : lowS (cs.take (i + 1)) = lowS (cs.take i) ++ if cs.getD i 0 < 128 then [UInt8.ofNat (cs.getD i 0)] else [] := by
  rw [take_succ_getD cs i 0 h]
  unfold lowS
  rw [List.filter_append, List.map_append]
  congr 1
  rw [List.filter_cons]
  split
  · rename_i q
    rw [if_pos (by simpa using q)]; rfl
  · rename_i q
    rw [if_neg (by simpa using q)]; rfl
theorem lowS_len (cs : List Nat) : (lowS cs).length ≤ cs.length := by
  unfold lowS
  rw [List.length_map]
  exact List.length_filter_le _ _
theorem lowS_at (cs : List Nat) (i : Nat) (h : i < cs.length) (hq : cs.getD i 0 < 128) : (lowS (cs.take i)).length < (lowS cs).length ∧ (lowS cs).getD (lowS (cs.take i)).length 0 = UInt8.ofNat (cs.getD i 0) := by
  have e : lowS cs = lowS (cs.take (i + 1)) ++ lowS (cs.drop (i + 1)) := by
    conv => lhs; rw [← List.take_append_drop (i + 1) cs]
    unfold lowS
    rw [List.filter_append, List.map_append]
  rw [lowS_next cs i h, if_pos hq] at e
  rw [e]
  constructor
  · simp
  · simp [List.getD]

theorem natI_getD (cs : List Nat) (i : Nat) : (natI cs).getD i 0 = ((cs.getD i 0 : Nat) : Int) := by
  unfold natI
  simp only [List.getD, List.getElem?_map]
  cases cs[i]? <;> rfl

theorem pl3_loop (l : List UInt8) (cs : List Nat) (q : List UInt8) (hl : cs.length ≤ 1000000) : Tri Ext0 Tryd.prog (.loop (lbody Tryd.prog 8 20)) (pl3G l (natI cs) (lowS cs) q 0 0) (.exit 4) (pl3G l (natI cs) (lowS cs) q cs.length (lowS cs).length) := by
  have key := loop_up mixed clV_ok (fun i => pl3G l (natI cs) (lowS cs) q i (lowS (cs.take i)).length) cs.length (e := .exit 4) (R := pl3G l (natI cs) (lowS cs) q cs.length (lowS cs).length) (b := lbody Tryd.prog 8 20) (by simp) ?_ ?_ 0 (Nat.zero_le _)
  · exact key
  · intro i hi
    have h1 := lowS_len (cs.take i)
    rw [List.length_take] at h1
    have h3 := ints_headD (natI cs) i (by rw [natI_len]; exact hi)
    rw [natI_getD] at h3
    try simp only
    rw [lowS_next cs i hi]
    have hat := lowS_at cs i hi
    by_cases hq : cs.getD i 0 < 128
    · obtain ⟨g1, g2⟩ := hat hq
      rw [if_pos hq, List.length_append]
      have h4 := byts_headD (lowS cs) (lowS (cs.take i)).length g1
      rw [g2] at h4
      generalize (lowS (cs.take i)).length = n at *
      refine ⟨_, _, _, _, _, lpBy_nil, by decide, pl3_3 l (natI cs) (lowS cs) q i n (((cs.getD i 0 : Nat) : Int)) (UInt8.ofNat (cs.getD i 0)), ?_⟩
      have h5 := toNat_of (n := cs.getD i 0) (by omega)
      have e1 : List.take (natI cs).length (List.drop 0 (ints (natI cs))) = ints (natI cs) := ints_all _ _ rfl
      have h6 : IntKind.i64.wrap ((cs.getD i 0 : Nat) : Int) = ((cs.getD i 0 : Nat) : Int) := i64_wrap (by omega) (by omega)
      simp only [allP, e1, byts_all, Nat.add_zero, h3, h4, h5, h6, byteC, avEq_refl, byts_length, ints_length, natI_len, List.length_drop, and_true, true_and, decide_eq_true_eq, decide_eq_false_iff_not, bne_self_eq_false, i64_min, i64_max]
      omega
    · rw [if_neg hq, List.append_nil]
      refine ⟨_, _, _, _, _, lpBy_nil, by decide, pl3_4 l (natI cs) (lowS cs) q i _ (((cs.getD i 0 : Nat) : Int)) 0, ?_⟩
      simp only [allP, h3, Nat.add_zero, avEq_refl, byts_length, ints_length, natI_len, List.length_drop, and_true, true_and, decide_eq_true_eq, decide_eq_false_iff_not, i64_min, i64_max]
      omega
  · try simp only [List.take_length]
    refine ⟨_, _, _, _, _, lpBy_nil, by decide, pl3_6 l (natI cs) (lowS cs) q cs.length (lowS cs).length 0 0, ?_⟩
    simp [allP, natI_len]

def pl1Fi : Fi := ⟨[(6, 5)], [0, 3, 4, 5, 6, 7], [0, 1]⟩
def pl2Fi : Fi := ⟨[(8, 5)], [0, 3, 4, 5, 6, 8, 9], [0, 1, 2]⟩
def pl3Fi : Fi := ⟨[], [0, 3, 5, 6, 8, 10, 11], [0, 1, 2]⟩
noncomputable def plLp (l x : List UInt8) (cs : List Nat) (p q : List UInt8) : List (Nat × Lp) := [
  (8, ⟨lbody Tryd.prog 8 8, pl1Fi, pl1G l x (natI cs) 0 0 [], .exit 0, pl1G l x (natI cs) l.length p.length (byts p)⟩),
  (14, ⟨lbody Tryd.prog 8 14, pl2Fi, pl2G l x (natI cs) p 0 0 [], .exit 2, pl2G l x (natI cs) p x.length q.length (byts q)⟩),
  (20, ⟨lbody Tryd.prog 8 20, pl3Fi, pl3G l (natI cs) p q 0 0, .exit 4, pl3G l (natI cs) p q cs.length p.length⟩)]

theorem plLp_ok (l : List UInt8) (hl : l.length ≤ 100000) : LpOK Ext0 Tryd.prog (lpBy (plLp l (fixF l) (signsN l) (lowF l) (lowF (fixF l)))) := by
  have h1 := fix_len l
  have h2 := signs_len l
  have h3 := pl3_loop l (signsN l) (lowF (fixF l)) (by omega)
  rw [← low_signs] at h3
  exact lpBy_cons (lpBy_cons (lpBy_cons lpBy_nil (show pl3Fi.m.Nodup by decide) h3) (show pl2Fi.m.Nodup by decide) (pl2_loop l (fixF l) (natI (signsN l)) (lowF l) (by omega))) (show pl1Fi.m.Nodup by decide) (pl1_loop l (fixF l) (natI (signsN l)) (by omega))

theorem plain_1 (l : List UInt8) : lawOut (aBody Tryd.prog clV ⟨true, bs [(15, true)] ++ ([(18, ⟨.c (str (fixF l)), none⟩), (20, ⟨.c (str l), none⟩)] ++ bs [(98, true), (104, true), (111, true)])⟩ (lpBy (plLp l (fixF l) (signsN l) (lowF l) (lowF (fixF l)))) 60 8 ([.fs 1 l.length (byts l)]) ([])) = some ((AV.c ((Value.bool true))), [((decide ((↑l.length : Int) > (1000 : Int)) : Bool)) = (true)]) := by kernel_rfl

theorem plain_2 (l : List UInt8) : lawOut (aBody Tryd.prog clV ⟨true, bs [(15, false)] ++ ([(18, ⟨.c (str (fixF l)), none⟩), (20, ⟨.c (str l), none⟩)] ++ bs [(98, true), (104, true), (111, true)])⟩ (lpBy (plLp l (fixF l) (signsN l) (lowF l) (lowF (fixF l)))) 60 8 ([.fs 1 l.length (byts l)]) ([])) = some ((AV.c ((Value.bool true))), [((decide ((↑l.length : Int) > (1000 : Int)) : Bool)) = (false),
 (((1 : Nat) : Nat)) = ((1 : Nat)),
 ((byts l : List AV)) = (byts (unbyts (byts l))),
 ((l.length : Nat)) = ((unbyts (byts l)).length),
 ((l.length : Nat) ≤ ((1000000000 : Nat))),
 ((fixF (unbyts (byts l)) : List UInt8)) = (fixF l),
 (((byts l).length : Nat)) = (l.length),
 bytesOK (byts l),
 ((unbyts (byts l) : List UInt8)) = (l),
 ((l.length : Nat) ≤ ((1000000000 : Nat))),
 ((lbody Tryd.prog (8 : FuncId) (8 : Nat) : Go.Code)) = (lbody Tryd.prog (8 : FuncId) (8 : Nat)),
 ((pl1G l (fixF l) (natI (signsN l)) (0 : Nat) (0 : Nat) [] : Go.Proofs.YtfaffnemfndkfaaDoor.St)) = (pl1G l (fixF l) (natI (signsN l)) (0 : Nat) (0 : Nat) []),
 ((lbody Tryd.prog (8 : FuncId) (14 : Nat) : Go.Code)) = (lbody Tryd.prog (8 : FuncId) (14 : Nat)),
 ((pl2G l (fixF l) (natI (signsN l)) (lowF l) (0 : Nat) (0 : Nat) [] : Go.Proofs.YtfaffnemfndkfaaDoor.St)) = (pl2G l (fixF l) (natI (signsN l)) (lowF l) (0 : Nat) (0 : Nat) []),
 ((lbody Tryd.prog (8 : FuncId) (20 : Nat) : Go.Code)) = (lbody Tryd.prog (8 : FuncId) (20 : Nat)),
 ((pl3G l (natI (signsN l)) (lowF l) (lowF (fixF l)) (0 : Nat) (0 : Nat) : Go.Proofs.YtfaffnemfndkfaaDoor.St)) = (pl3G l (natI (signsN l)) (lowF l) (lowF (fixF l)) (0 : Nat) (0 : Nat)),
 (((lowF l).length + (0 : Nat) : Nat) ≤ ((byts (lowF l)).length)),
 bytesOK (List.take (lowF l).length (List.drop (0 : Nat) (byts (lowF l)))),
 (((lowF (fixF l)).length + (0 : Nat) : Nat) ≤ ((byts (lowF (fixF l))).length)),
 bytesOK (List.take (lowF (fixF l)).length (List.drop (0 : Nat) (byts (lowF (fixF l))))),
 ((unbyts (List.take (lowF l).length (List.drop (0 : Nat) (byts (lowF l)))) ==
  unbyts (List.take (lowF (fixF l)).length (List.drop (0 : Nat) (byts (lowF (fixF l))))) : Bool)) = (true),
 (((↑(lowF l).length : Int) == (↑(lowF l).length : Int) : Bool)) = (true),
 ((decide ((↑(natI (signsN l)).length : Int) ≤ (↑l.length : Int)) : Bool)) = (true)]) := by kernel_rfl

theorem plain_all (l : List UInt8)  : ∃ (h : Hints) (p : List Prop), lawOut (aBody Tryd.prog clV h (lpBy (plLp l (fixF l) (signsN l) (lowF l) (lowF (fixF l)))) 60 8 ([.fs 1 l.length (byts l)]) ([])) = some (.c (.bool true), p) ∧ allP p := by
  cases hc15 : (decide ((↑l.length : Int) > (1000 : Int)) : Bool) with
  | true =>
    have eR := plain_1 l
    refine ⟨_, _, eR.trans (congrArg (fun r => some (r, _)) ?_), ?_⟩
    · rfl
    · clear eR
      have k1 := low_fix l
      have k2 := low_len l
      have k3 := signs_len l
      simp only [allP, byts_all, byts_tk, byts_length, unbyts_byts, natI_len, and_true, true_and, i64_min, i64_max]
      try simp only [decide_eq_true_eq, decide_eq_false_iff_not] at *
      repeat' apply And.intro
      all_goals first
        | assumption
        | omega
        | exact bytesOK_byts _
        | exact avEq_refl _
        | (rw [k1]; exact beq_self_eq_true _)
        | exact beq_self_eq_true _
        | (simp; done)
        | kernel_rfl
  | false =>
    have eR := plain_2 l
    refine ⟨_, _, eR.trans (congrArg (fun r => some (r, _)) ?_), ?_⟩
    · rfl
    · clear eR
      have k1 := low_fix l
      have k2 := low_len l
      have k3 := signs_len l
      simp only [allP, byts_all, byts_tk, byts_length, unbyts_byts, natI_len, and_true, true_and, i64_min, i64_max]
      try simp only [decide_eq_true_eq, decide_eq_false_iff_not] at *
      repeat' apply And.intro
      all_goals first
        | assumption
        | omega
        | exact bytesOK_byts _
        | exact avEq_refl _
        | (rw [k1]; exact beq_self_eq_true _)
        | exact beq_self_eq_true _
        | (simp; done)
        | kernel_rfl

end Go.Proofs.YtfaffnemfndkfaaDoor
