/- The library's Builder: WriteRune, String. -/
import Derived.Test.YtfaffnemfndkfaaDoorTextD
namespace Go.Proofs.YtfaffnemfndkfaaDoor
open Go.RowKit
set_option linter.unusedVariables false
set_option linter.unusedSimpArgs false

noncomputable def hsg2 : HSpecs := hsgBy [(30, aprSpec)]
noncomputable def cl2 : CallT := aCallH Tryd.prog (sgBy []) hsg2 500 8
theorem cl2_ok : CallOK Tryd.prog cl2 := aCallH_ok mixed sgBy_nil (hsgBy_cons apr_ok hsgBy_nil) 500 8

theorem enc_len (r : Int) : 1 ≤ (encN (sgn r)).length ∧ (encN (sgn r)).length ≤ 4 := by
  generalize sgn r = c
  unfold encN
  split
  · simp
  · split
    · simp
    · split <;> simp

theorem wrU_1 (r : Int) (n : Nat) (l : List AV) : outKill [] (aBody Tryd.prog cl2 ⟨true, bs [] ++ ([(29, ⟨.c (.int .i64 (encN (sgn r)).length), none⟩)])⟩ (lpBy ([])) 60 22 ([.pt 0 0, .c (.int .i32 r)]) ([some ⟨37, true, [.pt 0 0, .sl 1 0 n]⟩, some ⟨5, false, l⟩])) = some ((AV.tu [(AV.c ((Value.int .i64 ((↑(encN (sgn r)).length : Int))))),
 (AV.c Value.nilIface)]), [(.some ⟨37, true, [(AV.pt 0 0),
 (AV.sl 3 0 (n + (encN (sgn r)).length))]⟩),
 .none,
 .none,
 (.some ⟨5, false, (List.take n l ++ byts (encN (sgn r)))⟩)], [(((0 : Nat) : Nat) < ((1 : Nat))),
 (((0 : Nat) : Nat) < ((1 : Nat))),
 (((-2147483648 : Int) : Int) ≤ (r)),
 ((r : Int) ≤ ((2147483647 : Int))),
 ((n + (4 : Nat) : Nat) ≤ ((140737488355328 : Nat))),
 ((n : Nat) ≤ (l.length)),
 (((2 : Nat) : Nat) ≤ ((2 : Nat))),
 (((0 : Nat) : Nat) < ((1 : Nat))),
 ((IntKind.i64.min : Int) ≤ ((↑(n + (encN (sgn r)).length) : Int) - (↑n : Int))),
 (((↑(n + (encN (sgn r)).length) : Int) - (↑n : Int) : Int) ≤ (IntKind.i64.max)),
 (((↑(n + (encN (sgn r)).length) : Int) - (↑n : Int) : Int)) = ((↑(encN (sgn r)).length : Int))]) := by kernel_rfl

theorem wrU_all (r : Int) (n : Nat) (l : List AV) (h1 : -2147483648 ≤ r) (h2 : r ≤ 2147483647) (hb : n + 4 ≤ 140737488355328) (hn : n ≤ l.length) : ∃ (h : Hints) (p : List Prop), outKill [] (aBody Tryd.prog cl2 h (lpBy ([])) 60 22 ([.pt 0 0, .c (.int .i32 r)]) ([some ⟨37, true, [.pt 0 0, .sl 1 0 n]⟩, some ⟨5, false, l⟩])) = some (.tu [.c (.int .i64 (encN (sgn r)).length), .c .nilIface], [some ⟨37, true, [.pt 0 0, .sl 3 0 (n + (encN (sgn r)).length)]⟩, none, none, some ⟨5, false, l.take n ++ byts (encN (sgn r))⟩], p) ∧ allP p := by
  have eR := wrU_1 r n l
  refine ⟨_, _, eR.trans (congrArg (fun r : AV × Heap => some (r.1, r.2, _)) (a₁ := (_, _)) (a₂ := (_, _)) ?_), ?_⟩
  · rfl
  · have hl := enc_len r
    simp only [allP, i64_min, i64_max, and_true, true_and]
    repeat' apply And.intro
    all_goals first | omega | decide


theorem wrE_1 (r : Int) : outKill [] (aBody Tryd.prog cl2 ⟨true, bs [] ++ ([(29, ⟨.c (.int .i64 (encN (sgn r)).length), none⟩)])⟩ (lpBy ([])) 60 22 ([.pt 0 0, .c (.int .i32 r)]) ([some ⟨37, true, [.pt 0 0, .c (.slice none 0 0)]⟩])) = some ((AV.tu [(AV.c ((Value.int .i64 ((↑(encN (sgn r)).length : Int))))),
 (AV.c Value.nilIface)]), [(.some ⟨37, true, [(AV.pt 0 0),
 (AV.sl 2 0 ((encN (sgn r)).length))]⟩),
 .none,
 (.some ⟨5, false, (byts (encN (sgn r)))⟩)], [(((0 : Nat) : Nat) < ((1 : Nat))),
 (((0 : Nat) : Nat) < ((1 : Nat))),
 (((-2147483648 : Int) : Int) ≤ (r)),
 ((r : Int) ≤ ((2147483647 : Int))),
 (((2 : Nat) : Nat) ≤ ((2 : Nat))),
 (((0 : Nat) : Nat) < ((1 : Nat))),
 ((IntKind.i64.min : Int) ≤ ((↑(encN (sgn r)).length : Int) - (↑(0 : Nat) : Int))),
 (((↑(encN (sgn r)).length : Int) - (↑(0 : Nat) : Int) : Int) ≤ (IntKind.i64.max)),
 (((↑(encN (sgn r)).length : Int) - (↑(0 : Nat) : Int) : Int)) = ((↑(encN (sgn r)).length : Int))]) := by kernel_rfl

theorem wrE_all (r : Int) (h1 : -2147483648 ≤ r) (h2 : r ≤ 2147483647) : ∃ (h : Hints) (p : List Prop), outKill [] (aBody Tryd.prog cl2 h (lpBy ([])) 60 22 ([.pt 0 0, .c (.int .i32 r)]) ([some ⟨37, true, [.pt 0 0, .c (.slice none 0 0)]⟩])) = some (.tu [.c (.int .i64 (encN (sgn r)).length), .c .nilIface], [some ⟨37, true, [.pt 0 0, .sl 2 0 (encN (sgn r)).length]⟩, none, some ⟨5, false, byts (encN (sgn r))⟩], p) ∧ allP p := by
  have eR := wrE_1 r
  refine ⟨_, _, eR.trans (congrArg (fun r : AV × Heap => some (r.1, r.2, _)) (a₁ := (_, _)) (a₂ := (_, _)) ?_), ?_⟩
  · rfl
  · have hl := enc_len r
    simp only [allP, i64_min, i64_max, and_true, true_and]
    repeat' apply And.intro
    all_goals first | omega | decide


theorem wrF_1 (r : Int) : outKill [] (aBody Tryd.prog cl2 ⟨true, bs [] ++ ([(29, ⟨.c (.int .i64 (encN (sgn r)).length), none⟩)])⟩ (lpBy ([])) 60 22 ([.pt 0 0, .c (.int .i32 r)]) ([some ⟨37, true, [.c (.pointer none), .c (.slice none 0 0)]⟩])) = some ((AV.tu [(AV.c ((Value.int .i64 ((↑(encN (sgn r)).length : Int))))),
 (AV.c Value.nilIface)]), [(.some ⟨37, true, [(AV.pt 0 0),
 (AV.sl 2 0 ((encN (sgn r)).length))]⟩),
 .none,
 (.some ⟨5, false, (byts (encN (sgn r)))⟩)], [(((0 : Nat) : Nat) < ((1 : Nat))),
 (((0 : Nat) : Nat) < ((1 : Nat))),
 (((-2147483648 : Int) : Int) ≤ (r)),
 ((r : Int) ≤ ((2147483647 : Int))),
 (((2 : Nat) : Nat) ≤ ((2 : Nat))),
 (((0 : Nat) : Nat) < ((1 : Nat))),
 ((IntKind.i64.min : Int) ≤ ((↑(encN (sgn r)).length : Int) - (↑(0 : Nat) : Int))),
 (((↑(encN (sgn r)).length : Int) - (↑(0 : Nat) : Int) : Int) ≤ (IntKind.i64.max)),
 (((↑(encN (sgn r)).length : Int) - (↑(0 : Nat) : Int) : Int)) = ((↑(encN (sgn r)).length : Int))]) := by kernel_rfl

theorem wrF_all (r : Int) (h1 : -2147483648 ≤ r) (h2 : r ≤ 2147483647) : ∃ (h : Hints) (p : List Prop), outKill [] (aBody Tryd.prog cl2 h (lpBy ([])) 60 22 ([.pt 0 0, .c (.int .i32 r)]) ([some ⟨37, true, [.c (.pointer none), .c (.slice none 0 0)]⟩])) = some (.tu [.c (.int .i64 (encN (sgn r)).length), .c .nilIface], [some ⟨37, true, [.pt 0 0, .sl 2 0 (encN (sgn r)).length]⟩, none, some ⟨5, false, byts (encN (sgn r))⟩], p) ∧ allP p := by
  have eR := wrF_1 r
  refine ⟨_, _, eR.trans (congrArg (fun r : AV × Heap => some (r.1, r.2, _)) (a₁ := (_, _)) (a₂ := (_, _)) ?_), ?_⟩
  · rfl
  · have hl := enc_len r
    simp only [allP, i64_min, i64_max, and_true, true_and]
    repeat' apply And.intro
    all_goals first | omega | decide

def wrSpec : HSpec
  | [.pt 0 0, .c (.int .i32 r)], [some ⟨t, true, [.pt 0 0, .sl 1 0 n]⟩, some ⟨u, false, l⟩] => if t = 37 ∧ u = 5 then
      some (.tu [.c (.int .i64 (encN (sgn r)).length), .c .nilIface], [some ⟨37, true, [.pt 0 0, .sl 3 0 (n + (encN (sgn r)).length)]⟩, none, none, some ⟨5, false, l.take n ++ byts (encN (sgn r))⟩], [-2147483648 ≤ r, r ≤ 2147483647, n + 4 ≤ 140737488355328, n ≤ l.length])
    else none
  | [.pt 0 0, .c (.int .i32 r)], [some ⟨t, true, [.pt 0 0, .c (.slice none 0 0)]⟩] => if t = 37 then
      some (.tu [.c (.int .i64 (encN (sgn r)).length), .c .nilIface], [some ⟨37, true, [.pt 0 0, .sl 2 0 (encN (sgn r)).length]⟩, none, some ⟨5, false, byts (encN (sgn r))⟩], [-2147483648 ≤ r, r ≤ 2147483647])
    else none
  | [.pt 0 0, .c (.int .i32 r)], [some ⟨t, true, [.c (.pointer none), .c (.slice none 0 0)]⟩] => if t = 37 then
      some (.tu [.c (.int .i64 (encN (sgn r)).length), .c .nilIface], [some ⟨37, true, [.pt 0 0, .sl 2 0 (encN (sgn r)).length]⟩, none, some ⟨5, false, byts (encN (sgn r))⟩], [-2147483648 ≤ r, r ≤ 2147483647])
    else none
  | _, _ => none

theorem wr_ok : HSpecOK Tryd.prog 22 wrSpec := by
  refine hspec_kill mixed cl2_ok fun args hp r hp' q hs hq => ?_
  unfold wrSpec at hs
  split at hs
  · rename_i r0 t n u l
    split at hs
    · rename_i ht
      obtain ⟨rfl, rfl⟩ := ht
      simp only [Option.some.injEq, Prod.mk.injEq] at hs
      obtain ⟨rfl, rfl, rfl⟩ := hs
      obtain ⟨h1, h2, h3, h4, _⟩ := hq
      obtain ⟨h, p, e, hp⟩ := wrU_all r0 n l h1 h2 h3 h4
      exact ⟨_, _, _, _, e, hp⟩
    · simp at hs
  · rename_i r0 t
    split at hs
    · rename_i ht
      subst ht
      simp only [Option.some.injEq, Prod.mk.injEq] at hs
      obtain ⟨rfl, rfl, rfl⟩ := hs
      obtain ⟨h1, h2, _⟩ := hq
      obtain ⟨h, p, e, hp⟩ := wrE_all r0 h1 h2
      exact ⟨_, _, _, _, e, hp⟩
    · simp at hs
  · rename_i r0 t
    split at hs
    · rename_i ht
      subst ht
      simp only [Option.some.injEq, Prod.mk.injEq] at hs
      obtain ⟨rfl, rfl, rfl⟩ := hs
      obtain ⟨h1, h2, _⟩ := hq
      obtain ⟨h, p, e, hp⟩ := wrF_all r0 h1 h2
      exact ⟨_, _, _, _, e, hp⟩
    · simp at hs
  · simp at hs

theorem bstU_1 (a : AV) (n : Nat) (l : List AV) : outKill [] (aBody Tryd.prog cl2 ⟨true, bs [] ++ ([])⟩ (lpBy ([])) 60 23 ([.pt 0 0]) ([some ⟨37, true, [a, .sl 1 0 n]⟩, some ⟨5, false, l⟩])) = some ((AV.c ((str (unbyts (List.take n l))))), [(.some ⟨37, true, [a,
 (AV.sl 1 0 n)]⟩),
 .none], [(((0 : Nat) : Nat) < ((1 : Nat))),
 (((0 : Nat) : Nat) < (n)),
 (((0 : Nat) : Nat) < ((1 : Nat))),
 (((0 : Int) : Int) < ((↑n : Int))),
 (((↑n : Int) : Int) ≤ ((↑l.length : Int))),
 bytesOK (List.take n l),
 (((↑n : Int) : Int) ≤ ((4611686018427387904 : Int)))]) := by kernel_rfl

theorem bstU_all (a : AV) (n : Nat) (l : List AV) (h0 : 0 < n) (h1 : n ≤ l.length) (h2 : bytesOK (l.take n)) (h3 : n ≤ 4611686018427387904) : ∃ (h : Hints) (p : List Prop), outKill [] (aBody Tryd.prog cl2 h (lpBy ([])) 60 23 ([.pt 0 0]) ([some ⟨37, true, [a, .sl 1 0 n]⟩, some ⟨5, false, l⟩])) = some (.c (str (unbyts (l.take n))), [some ⟨37, true, [a, .sl 1 0 n]⟩, none], p) ∧ allP p := by
  have eR := bstU_1 a n l
  refine ⟨_, _, eR.trans (congrArg (fun r : AV × Heap => some (r.1, r.2, _)) (a₁ := (_, _)) (a₂ := (_, _)) ?_), ?_⟩
  · rfl
  · simp only [allP, and_true, true_and, Int.toNat_natCast]
    repeat' apply And.intro
    all_goals first | omega | decide | assumption | exact Int.toNat_natCast _ ▸ h2


theorem bstE_1 (a : AV) : outKill [] (aBody Tryd.prog cl2 ⟨true, bs [] ++ ([])⟩ (lpBy ([])) 60 23 ([.pt 0 0]) ([some ⟨37, true, [a, .c (.slice none 0 0)]⟩])) = some ((AV.c ((str ([])))), [(.some ⟨37, true, [a,
 (AV.c ((Value.slice .none 0 0)))]⟩)], [(((0 : Nat) : Nat) < ((1 : Nat))),
 (((0 : Nat) : Nat) < ((1 : Nat)))]) := by kernel_rfl

theorem bstE_all (a : AV)  : ∃ (h : Hints) (p : List Prop), outKill [] (aBody Tryd.prog cl2 h (lpBy ([])) 60 23 ([.pt 0 0]) ([some ⟨37, true, [a, .c (.slice none 0 0)]⟩])) = some (.c (str []), [some ⟨37, true, [a, .c (.slice none 0 0)]⟩], p) ∧ allP p := by
  have eR := bstE_1 a
  refine ⟨_, _, eR.trans (congrArg (fun r : AV × Heap => some (r.1, r.2, _)) (a₁ := (_, _)) (a₂ := (_, _)) ?_), ?_⟩
  · rfl
  · simp only [allP, and_true, true_and, Int.toNat_natCast]
    repeat' apply And.intro
    all_goals first | omega | decide | assumption | exact Int.toNat_natCast _ ▸ h2

def bstSpec : HSpec
  | [.pt 0 0], [some ⟨t, true, [a, .sl 1 0 n]⟩, some ⟨u, false, l⟩] => if t = 37 ∧ u = 5 then
      some (.c (str (unbyts (l.take n))), [some ⟨37, true, [a, .sl 1 0 n]⟩, none], [0 < n, n ≤ l.length, bytesOK (l.take n), n ≤ 4611686018427387904]) else none
  | [.pt 0 0], [some ⟨t, true, [a, .c (.slice none 0 0)]⟩] => if t = 37 then some (.c (str []), [some ⟨37, true, [a, .c (.slice none 0 0)]⟩], []) else none
  | _, _ => none

theorem bst_ok : HSpecOK Tryd.prog 23 bstSpec := by
  refine hspec_kill mixed cl2_ok fun args hp r hp' q hs hq => ?_
  unfold bstSpec at hs
  split at hs
  · rename_i t a n u l
    split at hs
    · rename_i ht
      obtain ⟨rfl, rfl⟩ := ht
      simp only [Option.some.injEq, Prod.mk.injEq] at hs
      obtain ⟨rfl, rfl, rfl⟩ := hs
      obtain ⟨h1, h2, h3, h4, _⟩ := hq
      obtain ⟨h, p, e, hp⟩ := bstU_all a n l h1 h2 h3 h4
      exact ⟨_, _, _, _, e, hp⟩
    · simp at hs
  · rename_i t a
    split at hs
    · rename_i ht
      subst ht
      simp only [Option.some.injEq, Prod.mk.injEq] at hs
      obtain ⟨rfl, rfl, rfl⟩ := hs
      obtain ⟨h, p, e, hp⟩ := bstE_all a
      exact ⟨_, _, _, _, e, hp⟩
    · simp at hs
  · simp at hs

end Go.Proofs.YtfaffnemfndkfaaDoor
