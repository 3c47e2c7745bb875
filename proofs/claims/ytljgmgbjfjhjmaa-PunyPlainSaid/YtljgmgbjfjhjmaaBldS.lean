/- The library's Builder: String, WriteString. -/
import Derived.Test.YtljgmgbjfjhjmaaBas
namespace Go.Proofs.Ytljgmgbjfjhjmaa
open Go.RowKit
set_option linter.unusedVariables false
set_option linter.unusedSimpArgs false

noncomputable def bstU_X (a : AV) (n : Nat) (l : List AV) (h_ : List (Nat × Bool)) := outKill [] (aBody Try.prog cl0 ⟨true, bs h_ ++ ([])⟩ (lpBy ([])) 60 24 ([.pt 0 0]) ([some ⟨37, true, [a, .sl 1 0 n]⟩, some ⟨5, false, l⟩]))

theorem bstU_1 (a : AV) (n : Nat) (l : List AV) : bstU_X a n l [] = some ((AV.c ((str (unbyts (List.take n l))))), [(.some ⟨37, true, [a,
 (AV.sl 1 0 n)]⟩),
 .none], [(((0 : Nat) : Nat) < ((1 : Nat))),
 (((0 : Nat) : Nat) < (n)),
 (((0 : Nat) : Nat) < ((1 : Nat))),
 (0 : Int) < ↑n,
 (↑n : Int) ≤ ↑l.length,
 bytesOK (List.take n l),
 (↑n : Int) ≤ 4611686018427387904]) := by kernel_rfl

theorem bstU_all (a : AV) (n : Nat) (l : List AV) (h0 : 0 < n) (h1 : n ≤ l.length) (h2 : bytesOK (l.take n)) (h3 : n ≤ 4611686018427387904) : ∃ (h : Hints) (p : List Prop), outKill [] (aBody Try.prog cl0 h (lpBy ([])) 60 24 ([.pt 0 0]) ([some ⟨37, true, [a, .sl 1 0 n]⟩, some ⟨5, false, l⟩])) = some (.c (str (unbyts (l.take n))), [some ⟨37, true, [a, .sl 1 0 n]⟩, none], p) ∧ allP p := by
  have eR := bstU_1 a n l
  refine ⟨_, _, eR.trans (congrArg (fun r : AV × Heap => some (r.1, r.2, _)) (a₁ := (_, _)) (a₂ := (_, _)) ?_), ?_⟩
  · rfl
  · simp only [allP, and_true, true_and, Int.toNat_natCast]
    repeat' apply And.intro
    all_goals first | omega | decide | assumption | exact Int.toNat_natCast _ ▸ h2


noncomputable def bstE_X (a : AV) (h_ : List (Nat × Bool)) := outKill [] (aBody Try.prog cl0 ⟨true, bs h_ ++ ([])⟩ (lpBy ([])) 60 24 ([.pt 0 0]) ([some ⟨37, true, [a, .c (.slice none 0 0)]⟩]))

theorem bstE_1 (a : AV) : bstE_X a [] = some ((AV.c ((str ([])))), [(.some ⟨37, true, [a,
 (AV.c ((Value.slice .none 0 0)))]⟩)], [(((0 : Nat) : Nat) < ((1 : Nat))),
 (((0 : Nat) : Nat) < ((1 : Nat)))]) := by kernel_rfl

theorem bstE_all (a : AV)  : ∃ (h : Hints) (p : List Prop), outKill [] (aBody Try.prog cl0 h (lpBy ([])) 60 24 ([.pt 0 0]) ([some ⟨37, true, [a, .c (.slice none 0 0)]⟩])) = some (.c (str []), [some ⟨37, true, [a, .c (.slice none 0 0)]⟩], p) ∧ allP p := by
  have eR := bstE_1 a
  refine ⟨_, _, eR.trans (congrArg (fun r : AV × Heap => some (r.1, r.2, _)) (a₁ := (_, _)) (a₂ := (_, _)) ?_), ?_⟩
  · rfl
  · simp only [allP, and_true, true_and, Int.toNat_natCast]
    repeat' apply And.intro
    all_goals first | omega | decide | assumption | exact Int.toNat_natCast _ ▸ h2

def bstSpec : HSpec
  | [.pt 0 0], [some ⟨t, true, [a, .sl 1 0 n]⟩, some ⟨u, false, l⟩] => if t = 37 ∧ u = 5 then
      some (.c (str (unbyts (l.take n))), [some ⟨37, true, [a, .sl 1 0 n]⟩, none], [0 < n, n ≤ l.length, bytesOK (l.take n), n ≤ 4611686018427387904]) else none
  | [.pt 0 0], [some ⟨t, true, [a, .c (.slice none 0 0)]⟩] => if t = 37 then some (.c (str []), [some ⟨37, true, [a, .c (.slice none 0 0)]⟩], []) else none
  | _, _ => none

theorem bst_ok : HSpecOK Try.prog 24 bstSpec := by
  refine hspec_kill mixed cl0_ok fun args hp r hp' q hs hq => ?_
  unfold bstSpec at hs
  split at hs
  · rename_i t a n u l
    split at hs
    · rename_i ht
      obtain ⟨rfl, rfl⟩ := ht
      simp only [Option.some.injEq, Prod.mk.injEq] at hs
      obtain ⟨rfl, rfl, rfl⟩ := hs
      obtain ⟨h1, h2, h3, h4, _⟩ := hq
      obtain ⟨h, p, e, hp⟩ := bstU_all a n l h1 h2 h3 h4
      exact ⟨_, _, _, _, e, hp⟩
    · simp at hs
  · rename_i t a
    split at hs
    · rename_i ht
      subst ht
      simp only [Option.some.injEq, Prod.mk.injEq] at hs
      obtain ⟨rfl, rfl, rfl⟩ := hs
      obtain ⟨h, p, e, hp⟩ := bstE_all a
      exact ⟨_, _, _, _, e, hp⟩
    · simp at hs
  · simp at hs



noncomputable def bwbU_X (c : UInt8) (n : Nat) (l : List AV) (h_ : List (Nat × Bool)) := outKill [2] (aBody Try.prog cl0 ⟨true, bs h_ ++ ([])⟩ (lpBy ([])) 60 17 ([.pt 0 0, byteC c]) ([some ⟨37, true, [.pt 0 0, .sl 1 0 n]⟩, some ⟨5, false, l⟩]))

theorem bwbU_1 (c : UInt8) (n : Nat) (l : List AV) : bwbU_X c n l [] = some ((AV.c Value.nilIface), [(.some ⟨37, true, [(AV.pt 0 0),
 (AV.sl 3 0 (n + (1 : Nat)))]⟩),
 .none,
 .none,
 (.some ⟨5, false, (List.take n l ++ List.take (1 : Nat) (List.drop (0 : Nat) ([AV.c (Value.int IntKind.u8 (↑c.toNat : Int))] ++ [])))⟩)], [(((0 : Nat) : Nat) < ((1 : Nat))),
 (((1 : Nat) : Nat) ≤ ((1 : Nat))),
 (((n + (1 : Nat)) * (1 : Nat) : Nat) ≤ ((140737488355328 : Nat))),
 ((n + (1 : Nat) : Nat) ≤ ((4611686018427387904 : Nat))),
 ((n : Nat) ≤ (l.length)),
 (((2 : Nat) : Nat) ≤ ((2 : Nat)))]) := by kernel_rfl

theorem bwbU_all (c : UInt8) (n : Nat) (l : List AV) (hn : n ≤ l.length) (hb : n + 1 ≤ 140737488355328) : ∃ (h : Hints) (p : List Prop), outKill [2] (aBody Try.prog cl0 h (lpBy ([])) 60 17 ([.pt 0 0, byteC c]) ([some ⟨37, true, [.pt 0 0, .sl 1 0 n]⟩, some ⟨5, false, l⟩])) = some (.c .nilIface, [some ⟨37, true, [.pt 0 0, .sl 3 0 (n + 1)]⟩, none, none, some ⟨5, false, l.take n ++ byts [c]⟩], p) ∧ allP p := by
  have eR := bwbU_1 c n l
  refine ⟨_, _, eR.trans (congrArg (fun r : AV × Heap => some (r.1, r.2, _)) (a₁ := (_, _)) (a₂ := (_, _)) ?_), ?_⟩
  · rfl
  · try clear eR
    simp only [allP, sb_mk, and_true, true_and]
    repeat' apply And.intro
    all_goals first | exact True.intro | omega | rfl


noncomputable def bwbE_X (c : UInt8) (h_ : List (Nat × Bool)) := outKill [1] (aBody Try.prog cl0 ⟨true, bs h_ ++ ([])⟩ (lpBy ([])) 60 17 ([.pt 0 0, byteC c]) ([some ⟨37, true, [.pt 0 0, .c (.slice none 0 0)]⟩]))

theorem bwbE_1 (c : UInt8) : bwbE_X c [] = some ((AV.c Value.nilIface), [(.some ⟨37, true, [(AV.pt 0 0),
 (AV.sl 2 0 1)]⟩),
 .none,
 (.some ⟨5, false, [(AV.c ((Value.int .u8 ((↑c.toNat : Int)))))]⟩)], [(((0 : Nat) : Nat) < ((1 : Nat))),
 (((1 : Nat) : Nat) ≤ ((1 : Nat))),
 (((1 : Nat) : Nat) ≤ ((140737488355328 : Nat))),
 (((1 : Nat) : Nat) ≤ ((4611686018427387904 : Nat))),
 (((2 : Nat) : Nat) ≤ ((2 : Nat)))]) := by kernel_rfl

theorem bwbE_all (c : UInt8)  : ∃ (h : Hints) (p : List Prop), outKill [1] (aBody Try.prog cl0 h (lpBy ([])) 60 17 ([.pt 0 0, byteC c]) ([some ⟨37, true, [.pt 0 0, .c (.slice none 0 0)]⟩])) = some (.c .nilIface, [some ⟨37, true, [.pt 0 0, .sl 2 0 1]⟩, none, some ⟨5, false, byts [c]⟩], p) ∧ allP p := by
  have eR := bwbE_1 c
  refine ⟨_, _, eR.trans (congrArg (fun r : AV × Heap => some (r.1, r.2, _)) (a₁ := (_, _)) (a₂ := (_, _)) ?_), ?_⟩
  · rfl
  · try clear eR
    simp only [allP, sb_mk, and_true, true_and]
    repeat' apply And.intro
    all_goals first | exact True.intro | omega | rfl


noncomputable def bwbF_X (c : UInt8) (h_ : List (Nat × Bool)) := outKill [1] (aBody Try.prog cl0 ⟨true, bs h_ ++ ([])⟩ (lpBy ([])) 60 17 ([.pt 0 0, byteC c]) ([some ⟨37, true, [.c (.pointer none), .c (.slice none 0 0)]⟩]))

theorem bwbF_1 (c : UInt8) : bwbF_X c [] = some ((AV.c Value.nilIface), [(.some ⟨37, true, [(AV.pt 0 0),
 (AV.sl 2 0 1)]⟩),
 .none,
 (.some ⟨5, false, [(AV.c ((Value.int .u8 ((↑c.toNat : Int)))))]⟩)], [(((0 : Nat) : Nat) < ((1 : Nat))),
 (((1 : Nat) : Nat) ≤ ((1 : Nat))),
 (((1 : Nat) : Nat) ≤ ((140737488355328 : Nat))),
 (((1 : Nat) : Nat) ≤ ((4611686018427387904 : Nat))),
 (((2 : Nat) : Nat) ≤ ((2 : Nat)))]) := by kernel_rfl

theorem bwbF_all (c : UInt8)  : ∃ (h : Hints) (p : List Prop), outKill [1] (aBody Try.prog cl0 h (lpBy ([])) 60 17 ([.pt 0 0, byteC c]) ([some ⟨37, true, [.c (.pointer none), .c (.slice none 0 0)]⟩])) = some (.c .nilIface, [some ⟨37, true, [.pt 0 0, .sl 2 0 1]⟩, none, some ⟨5, false, byts [c]⟩], p) ∧ allP p := by
  have eR := bwbF_1 c
  refine ⟨_, _, eR.trans (congrArg (fun r : AV × Heap => some (r.1, r.2, _)) (a₁ := (_, _)) (a₂ := (_, _)) ?_), ?_⟩
  · rfl
  · try clear eR
    simp only [allP, sb_mk, and_true, true_and]
    repeat' apply And.intro
    all_goals first | exact True.intro | omega | rfl

/-- One byte onto what was written, or onto a builder that has not been written. -/
def wbSpec : HSpec
  | [.pt 0 0, .c (.int .u8 z)], [some ⟨t, true, [.pt 0 0, .sl 1 0 n]⟩, some ⟨u, false, l⟩] => if t = 37 ∧ u = 5 then
      some (.c .nilIface, [some ⟨37, true, [.pt 0 0, .sl 3 0 (n + 1)]⟩, none, none, some ⟨5, false, l.take n ++ byts [UInt8.ofNat z.toNat]⟩], [0 ≤ z, z < 256, n ≤ l.length, n + 1 ≤ 140737488355328])
    else none
  | [.pt 0 0, .c (.int .u8 z)], [some ⟨t, true, [.pt 0 0, .c (.slice none 0 0)]⟩] => if t = 37 then
      some (.c .nilIface, [some ⟨37, true, [.pt 0 0, .sl 2 0 1]⟩, none, some ⟨5, false, byts [UInt8.ofNat z.toNat]⟩], [0 ≤ z, z < 256])
    else none
  | [.pt 0 0, .c (.int .u8 z)], [some ⟨t, true, [.c (.pointer none), .c (.slice none 0 0)]⟩] => if t = 37 then
      some (.c .nilIface, [some ⟨37, true, [.pt 0 0, .sl 2 0 1]⟩, none, some ⟨5, false, byts [UInt8.ofNat z.toNat]⟩], [0 ≤ z, z < 256])
    else none
  | _, _ => none

theorem wb_ok : HSpecOK Try.prog 17 wbSpec := by
  refine hspec_kill mixed cl0_ok fun args hp r hp' q hs hq => ?_
  unfold wbSpec at hs
  split at hs
  · rename_i z t n u l
    split at hs
    · rename_i ht
      obtain ⟨rfl, rfl⟩ := ht
      simp only [Option.some.injEq, Prod.mk.injEq] at hs
      obtain ⟨rfl, rfl, rfl⟩ := hs
      obtain ⟨h0, h1, h2, h3, _⟩ := hq
      obtain ⟨c, rfl⟩ := u8_cast h0 h1
      rw [Int.toNat_natCast, UInt8.ofNat_toNat]
      obtain ⟨h, p, e, hp⟩ := bwbU_all c n l h2 h3
      exact ⟨_, _, _, _, e, hp⟩
    · simp at hs
  · rename_i z t
    split at hs
    · rename_i ht
      subst ht
      simp only [Option.some.injEq, Prod.mk.injEq] at hs
      obtain ⟨rfl, rfl, rfl⟩ := hs
      obtain ⟨h0, h1, _⟩ := hq
      obtain ⟨c, rfl⟩ := u8_cast h0 h1
      rw [Int.toNat_natCast, UInt8.ofNat_toNat]
      obtain ⟨h, p, e, hp⟩ := bwbE_all c
      exact ⟨_, _, _, _, e, hp⟩
    · simp at hs
  · rename_i z t
    split at hs
    · rename_i ht
      subst ht
      simp only [Option.some.injEq, Prod.mk.injEq] at hs
      obtain ⟨rfl, rfl, rfl⟩ := hs
      obtain ⟨h0, h1, _⟩ := hq
      obtain ⟨c, rfl⟩ := u8_cast h0 h1
      rw [Int.toNat_natCast, UInt8.ofNat_toNat]
      obtain ⟨h, p, e, hp⟩ := bwbF_all c
      exact ⟨_, _, _, _, e, hp⟩
    · simp at hs
  · simp at hs

end Go.Proofs.Ytljgmgbjfjhjmaa
