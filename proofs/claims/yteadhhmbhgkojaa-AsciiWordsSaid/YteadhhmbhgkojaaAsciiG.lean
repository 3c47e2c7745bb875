/- Words, and rows of texts that are the same. -/
import Derived.Test.YteadhhmbhgkojaaAsciiF
namespace Go.Proofs.Yteadhhmbhgkojaa
open Go.RowKit
set_option linter.unusedVariables false
set_option linter.unusedSimpArgs false

def strs (W : List (List UInt8)) : List AV := W.map fun w => .c (str w)
def unstr : AV → List UInt8
  | .c (.string s) => sb s
  | _ => []
def unstrs (l : List AV) : List (List UInt8) := l.map unstr
theorem unstrs_strs (W : List (List UInt8)) : unstrs (strs W) = W := by
  induction W with
  | nil => rfl
  | cons w r ih => simp only [unstrs, strs, List.map_cons] at ih ⊢; rw [ih]; rfl
theorem strs_length (W : List (List UInt8)) : (strs W).length = W.length := by simp [strs]
theorem strs_take (W : List (List UInt8)) (n : Nat) : (strs W).take n = strs (W.take n) := by simp [strs, List.map_take]
theorem strs_drop (W : List (List UInt8)) (n : Nat) : (strs W).drop n = strs (W.drop n) := by simp [strs, List.map_drop]
theorem strs_headD (W : List (List UInt8)) (i : Nat) (h : i < W.length) : ((strs W).drop i).headD .any = .c (str (W.getD i [])) := by
  rw [strs_drop, List.drop_eq_getElem_cons h]
  simp [strs, List.getD, h]
theorem strs_snoc (W : List (List UInt8)) (y : List UInt8) : (strs W).take W.length ++ [.c (str y)] = strs (W ++ [y]) := by
  rw [strs_take, List.take_length]; simp [strs]

/-! Same. -/

def sameSpec : Spec
  | [.fs s n l, .fs s' n' l'] => some (.c (.bool true), [s = 1, s' = 1, n' = n, l' = l, l = strs (unstrs l), n = (unstrs l).length, n ≤ 1000000])
  | _ => none

def sameS (a : List (List UInt8)) (i : Nat) : St := ⟨frame 26 [(0, .fs 1 a.length (strs a)), (1, .fs 1 a.length (strs a)), (5, .c (.int .i64 i))], []⟩
noncomputable def sameRun (h : List (Nat × Hint)) (S : St) : Option (Exit × St × List Prop) := roundOut ⟨[], [0, 1, 5], []⟩ (aCode Try.prog cl3 ⟨true, h⟩ (lpBy []) 60 (lbody Try.prog 24 4) S)

theorem same1 (a : List (List UInt8)) (i : Nat) (x : List UInt8) : sameRun (bs [(14, true), (25, false)] ++ [(20, ⟨.c (str x), none⟩), (24, ⟨.c (str x), none⟩)]) (sameS a i) = some (.normal, sameS a (i + 1), [((decide ((↑i : Int) < (↑a.length : Int)) : Bool)) = (true),
 (((0 : Int) : Int) ≤ ((↑i : Int))),
 (((↑i : Int) : Int) < ((↑a.length : Int))),
 (((0 : Nat) : Nat) < ((List.drop i (strs a)).length)),
 avEq ((List.drop i (strs a)).headD AV.any) ((AV.c (Value.string ({ data := { toList := x } })))),
 (((0 : Int) : Int) ≤ ((↑i : Int))),
 (((↑i : Int) : Int) < ((↑a.length : Int))),
 (((0 : Nat) : Nat) < ((List.drop i (strs a)).length)),
 avEq ((List.drop i (strs a)).headD AV.any) ((AV.c (Value.string ({ data := { toList := x } })))),
 ((!x == x : Bool)) = (false),
 ((IntKind.i64.min : Int) ≤ ((↑i : Int) + (1 : Int))),
 (((↑i : Int) + (1 : Int) : Int) ≤ (IntKind.i64.max))]) := by kernel_rfl

theorem same2 (a : List (List UInt8)) (i : Nat) : sameRun (bs [(14, false)]) (sameS a i) = some (.exit 0, sameS a i, [((decide ((↑i : Int) < (↑a.length : Int)) : Bool)) = (false)]) := by kernel_rfl

theorem same_loop (a : List (List UInt8)) (hl : a.length ≤ 1000000) : Tri Ext0 Try.prog (.loop (lbody Try.prog 24 4)) (sameS a 0) (.exit 0) (sameS a a.length) := by
  refine loop_ok mixed cl3_ok (α := {i : Nat // i ≤ a.length}) (fun x => sameS a x.val) (fun x => a.length - x.val) ?_ ⟨0, Nat.zero_le _⟩
  rintro ⟨i, hi⟩
  by_cases hk : i < a.length
  · refine .inl ⟨⟨i + 1, hk⟩, by simp only; omega, _, _, _, ⟨[], [0, 1, 5], []⟩, _, lpBy_nil, List.nodup_nil, same1 a i (a.getD i []), ?_⟩
    simp only [allP, and_true, true_and, decide_eq_true_eq, decide_eq_false_iff_not, i64_min, i64_max, List.length_drop, strs_length, strs_headD a i hk]
    repeat' apply And.intro
    all_goals first | omega | exact avEq_refl _ | simp
  · obtain rfl : i = a.length := by omega
    refine .inr ⟨by simp, _, _, _, ⟨[], [0, 1, 5], []⟩, _, lpBy_nil, List.nodup_nil, same2 a a.length, ?_⟩
    simp [allP]

noncomputable def sameLp (a : List (List UInt8)) : List (Nat × Lp) := [(4, ⟨lbody Try.prog 24 4, ⟨[], [0, 1, 5], []⟩, sameS a 0, .exit 0, sameS a a.length⟩)]

noncomputable def sameAll (a : List (List UInt8)) : Option (AV × List Prop) := outcome Try.prog 24 (aBody Try.prog cl3 ⟨true, bs [(10, false)]⟩ (lpBy (sameLp a)) 60 24 [.fs 1 a.length (strs a), .fs 1 a.length (strs a)] [])

theorem sameAll_eq (a : List (List UInt8)) : sameAll a = some (.c (.bool true), [(((↑a.length : Int) != (↑a.length : Int) : Bool)) = (false),
 ((lbody Try.prog (24 : FuncId) (4 : Nat) : Go.Code)) = (lbody Try.prog (24 : FuncId) (4 : Nat)),
 ((sameS a (0 : Nat) : Go.Proofs.Yteadhhmbhgkojaa.St)) = (sameS a (0 : Nat))]) := by kernel_rfl

theorem same_ok : SpecOK Try.prog 24 sameSpec := by
  refine spec_of mixed cl3_ok fun args r q hs hq => ?_
  unfold sameSpec at hs
  split at hs
  · rename_i s n l s' n' l'
    simp only [Option.some.injEq, Prod.mk.injEq] at hs
    obtain ⟨rfl, rfl⟩ := hs
    obtain ⟨rfl, rfl, rfl, rfl, h5, h6, h7, _⟩ := hq
    generalize unstrs l' = a at h5 h6
    subst h5; subst h6
    refine ⟨_, _, _, _, lpBy_cons lpBy_nil List.nodup_nil (same_loop a h7), sameAll_eq a, ?_⟩
    simp [allP]
  · simp at hs

/-! Words. -/

def wStep (l : List UInt8) (i : Nat) (x : Nat × List (List UInt8)) : Nat × List (List UInt8) :=
  if i < l.length ∧ blankI (l.getD i 0).toNat = false then x else (i + 1, if x.1 < i then x.2 ++ [(l.take i).drop x.1] else x.2)

def wAt (l : List UInt8) : Nat → Nat × List (List UInt8)
  | 0 => (0, [])
  | i + 1 => wStep l i (wAt l i)

def wordsF (l : List UInt8) : List (List UInt8) := (wAt l (l.length + 1)).2

theorem wAt_le (l : List UInt8) : ∀ i, (wAt l i).1 ≤ i ∧ (wAt l i).2.length ≤ i
  | 0 => ⟨Nat.le_refl _, Nat.le_refl _⟩
  | i + 1 => by
    have := wAt_le l i
    simp only [wAt, wStep]
    split
    · omega
    · split <;> simp <;> omega

def wordsSpec : Spec
  | [.c (.string s)] => some (.fs 1 (wordsF (sb s)).length (strs (wordsF (sb s))), [(sb s).length ≤ 1000000])
  | _ => none

def wordsS (l : List UInt8) (i a : Nat) (W : List (List UInt8)) : St := ⟨frame 37 [(0, .c (str l)), (3, .sl 0 0 W.length), (4, .c (.int .i64 a)), (5, .c (.int .i64 i))], [some ⟨9, false, strs W⟩]⟩

noncomputable def wordsRun (m : Nat) (h : List (Nat × Hint)) (S : St) : Option (Exit × St × List Prop) := roundOut ⟨[], [0, 3, 4, 5], [m]⟩ (aCode Try.prog cl3 ⟨true, h⟩ (lpBy []) 60 (lbody Try.prog 25 4) S)

theorem wordsA (l : List UInt8) (i a : Nat) (W : List (List UInt8)) : wordsRun 0 (bs [(9, true), (15, true), (20, false)]) (wordsS l i a W) = some (.normal, wordsS l (i + 1) a W, [((decide ((↑i : Int) ≤ (↑l.length : Int)) : Bool)) = (true),
 ((decide ((↑i : Int) < (↑l.length : Int)) : Bool)) = (true),
 (((0 : Int) : Int) ≤ ((↑i : Int))),
 (((↑i : Int) : Int) < ((↑l.length : Int))),
 (((0 : Int) : Int) ≤ ((↑(l.getD i (0 : UInt8)).toNat : Int))),
 (((↑(l.getD i (0 : UInt8)).toNat : Int) : Int) < ((256 : Int))),
 ((blankI (↑(l.getD i (0 : UInt8)).toNat : Int) : Bool)) = (false),
 ((IntKind.i64.min : Int) ≤ ((↑i : Int) + (1 : Int))),
 (((↑i : Int) + (1 : Int) : Int) ≤ (IntKind.i64.max))]) := by kernel_rfl

theorem wordsB (l : List UInt8) (i a : Nat) (W : List (List UInt8)) (y : List UInt8) : wordsRun 2 (bs [(9, true), (15, true), (20, true), (25, true)] ++ [(33, ⟨.sl 2 0 (W ++ [y]).length, some (strs (W ++ [y]))⟩)]) (wordsS l i a W) = some (.normal, wordsS l (i + 1) (i + 1) (W ++ [y]), [((decide ((↑i : Int) ≤ (↑l.length : Int)) : Bool)) = (true),
 ((decide ((↑i : Int) < (↑l.length : Int)) : Bool)) = (true),
 (((0 : Int) : Int) ≤ ((↑i : Int))),
 (((↑i : Int) : Int) < ((↑l.length : Int))),
 (((0 : Int) : Int) ≤ ((↑(l.getD i (0 : UInt8)).toNat : Int))),
 (((↑(l.getD i (0 : UInt8)).toNat : Int) : Int) < ((256 : Int))),
 ((blankI (↑(l.getD i (0 : UInt8)).toNat : Int) : Bool)) = (true),
 ((decide ((↑a : Int) < (↑i : Int)) : Bool)) = (true),
 (((0 : Int) : Int) ≤ ((↑a : Int))),
 (((↑a : Int) : Int) ≤ ((↑i : Int))),
 (((↑i : Int) : Int) ≤ ((↑l.length : Int))),
 (((List.drop a (List.take i l)).length : Nat) ≤ ((1000000 : Nat))),
 (((1 : Nat) : Nat) ≤ ((List.take (0 : Nat) (List.replicate (1 : Nat) (AV.c (Value.string { data := #[] }))) ++
      [AV.c
          (Value.string
            {
              data :=
                {
                  toList :=
                    List.drop (↑a : Int).toNat (List.take (↑i : Int).toNat (sb { data := { toList := l } })) } })] ++
    List.drop (1 : Nat) (List.replicate (1 : Nat) (AV.c (Value.string { data := #[] })))).length)),
 (((W.length + (1 : Nat)) * (16 : Nat) : Nat) ≤ ((140737488355328 : Nat))),
 ((W.length + (1 : Nat) : Nat) ≤ ((4611686018427387904 : Nat))),
 ((W.length : Nat) ≤ ((strs W).length)),
 avEq ((AV.sl 2 0 (W.length + (1 : Nat)))) ((AV.sl 2 0 (W ++ [y]).length)),
 ((List.take W.length (strs W) ++
  List.take (1 : Nat)
    (List.drop (0 : Nat)
      (List.take (0 : Nat) (List.replicate (1 : Nat) (AV.c (Value.string { data := #[] }))) ++
          [AV.c
              (Value.string
                {
                  data :=
                    {
                      toList :=
                        List.drop (↑a : Int).toNat
                          (List.take (↑i : Int).toNat (sb { data := { toList := l } })) } })] ++
        List.drop (1 : Nat) (List.replicate (1 : Nat) (AV.c (Value.string { data := #[] }))))) : List AV)) = (strs (W ++ [y])),
 ((IntKind.i64.min : Int) ≤ ((↑i : Int) + (1 : Int))),
 (((↑i : Int) + (1 : Int) : Int) ≤ (IntKind.i64.max)),
 ((IntKind.i64.min : Int) ≤ ((↑i : Int) + (1 : Int))),
 (((↑i : Int) + (1 : Int) : Int) ≤ (IntKind.i64.max))]) := by kernel_rfl

theorem wordsC (l : List UInt8) (i a : Nat) (W : List (List UInt8)) : wordsRun 0 (bs [(9, true), (15, true), (20, true), (25, false)]) (wordsS l i a W) = some (.normal, wordsS l (i + 1) (i + 1) W, [((decide ((↑i : Int) ≤ (↑l.length : Int)) : Bool)) = (true),
 ((decide ((↑i : Int) < (↑l.length : Int)) : Bool)) = (true),
 (((0 : Int) : Int) ≤ ((↑i : Int))),
 (((↑i : Int) : Int) < ((↑l.length : Int))),
 (((0 : Int) : Int) ≤ ((↑(l.getD i (0 : UInt8)).toNat : Int))),
 (((↑(l.getD i (0 : UInt8)).toNat : Int) : Int) < ((256 : Int))),
 ((blankI (↑(l.getD i (0 : UInt8)).toNat : Int) : Bool)) = (true),
 ((decide ((↑a : Int) < (↑i : Int)) : Bool)) = (false),
 ((IntKind.i64.min : Int) ≤ ((↑i : Int) + (1 : Int))),
 (((↑i : Int) + (1 : Int) : Int) ≤ (IntKind.i64.max)),
 ((IntKind.i64.min : Int) ≤ ((↑i : Int) + (1 : Int))),
 (((↑i : Int) + (1 : Int) : Int) ≤ (IntKind.i64.max))]) := by kernel_rfl

theorem wordsD (l : List UInt8) (i a : Nat) (W : List (List UInt8)) (y : List UInt8) : wordsRun 2 (bs [(9, true), (15, false), (25, true)] ++ [(33, ⟨.sl 2 0 (W ++ [y]).length, some (strs (W ++ [y]))⟩)]) (wordsS l i a W) = some (.normal, wordsS l (i + 1) (i + 1) (W ++ [y]), [((decide ((↑i : Int) ≤ (↑l.length : Int)) : Bool)) = (true),
 ((decide ((↑i : Int) < (↑l.length : Int)) : Bool)) = (false),
 ((decide ((↑a : Int) < (↑i : Int)) : Bool)) = (true),
 (((0 : Int) : Int) ≤ ((↑a : Int))),
 (((↑a : Int) : Int) ≤ ((↑i : Int))),
 (((↑i : Int) : Int) ≤ ((↑l.length : Int))),
 (((List.drop a (List.take i l)).length : Nat) ≤ ((1000000 : Nat))),
 (((1 : Nat) : Nat) ≤ ((List.take (0 : Nat) (List.replicate (1 : Nat) (AV.c (Value.string { data := #[] }))) ++
      [AV.c
          (Value.string
            {
              data :=
                {
                  toList :=
                    List.drop (↑a : Int).toNat (List.take (↑i : Int).toNat (sb { data := { toList := l } })) } })] ++
    List.drop (1 : Nat) (List.replicate (1 : Nat) (AV.c (Value.string { data := #[] })))).length)),
 (((W.length + (1 : Nat)) * (16 : Nat) : Nat) ≤ ((140737488355328 : Nat))),
 ((W.length + (1 : Nat) : Nat) ≤ ((4611686018427387904 : Nat))),
 ((W.length : Nat) ≤ ((strs W).length)),
 avEq ((AV.sl 2 0 (W.length + (1 : Nat)))) ((AV.sl 2 0 (W ++ [y]).length)),
 ((List.take W.length (strs W) ++
  List.take (1 : Nat)
    (List.drop (0 : Nat)
      (List.take (0 : Nat) (List.replicate (1 : Nat) (AV.c (Value.string { data := #[] }))) ++
          [AV.c
              (Value.string
                {
                  data :=
                    {
                      toList :=
                        List.drop (↑a : Int).toNat
                          (List.take (↑i : Int).toNat (sb { data := { toList := l } })) } })] ++
        List.drop (1 : Nat) (List.replicate (1 : Nat) (AV.c (Value.string { data := #[] }))))) : List AV)) = (strs (W ++ [y])),
 ((IntKind.i64.min : Int) ≤ ((↑i : Int) + (1 : Int))),
 (((↑i : Int) + (1 : Int) : Int) ≤ (IntKind.i64.max)),
 ((IntKind.i64.min : Int) ≤ ((↑i : Int) + (1 : Int))),
 (((↑i : Int) + (1 : Int) : Int) ≤ (IntKind.i64.max))]) := by kernel_rfl

theorem wordsE (l : List UInt8) (i a : Nat) (W : List (List UInt8)) : wordsRun 0 (bs [(9, true), (15, false), (25, false)]) (wordsS l i a W) = some (.normal, wordsS l (i + 1) (i + 1) W, [((decide ((↑i : Int) ≤ (↑l.length : Int)) : Bool)) = (true),
 ((decide ((↑i : Int) < (↑l.length : Int)) : Bool)) = (false),
 ((decide ((↑a : Int) < (↑i : Int)) : Bool)) = (false),
 ((IntKind.i64.min : Int) ≤ ((↑i : Int) + (1 : Int))),
 (((↑i : Int) + (1 : Int) : Int) ≤ (IntKind.i64.max)),
 ((IntKind.i64.min : Int) ≤ ((↑i : Int) + (1 : Int))),
 (((↑i : Int) + (1 : Int) : Int) ≤ (IntKind.i64.max))]) := by kernel_rfl

theorem wordsZ (l : List UInt8) (i a : Nat) (W : List (List UInt8)) : wordsRun 0 (bs [(9, false)]) (wordsS l i a W) = some (.exit 0, wordsS l i a W, [((decide ((↑i : Int) ≤ (↑l.length : Int)) : Bool)) = (false)]) := by kernel_rfl


def rwordsS (l : List UInt8) (i a : Nat) (W : List (List UInt8)) : St := ⟨frame 35 [(0, .c (str l)), (3, .sl 0 0 W.length), (4, .c (.int .i64 a)), (5, .c (.int .i64 i))], [some ⟨9, false, strs W⟩]⟩

noncomputable def rwordsRun (m : Nat) (h : List (Nat × Hint)) (S : St) : Option (Exit × St × List Prop) := roundOut ⟨[], [0, 3, 4, 5], [m]⟩ (aCode Try.prog cl3 ⟨true, h⟩ (lpBy []) 60 (lbody Try.prog 26 4) S)

theorem rwordsA (l : List UInt8) (i a : Nat) (W : List (List UInt8)) : rwordsRun 0 (bs [(9, true), (15, false), (20, false)]) (rwordsS l i a W) = some (.normal, rwordsS l (i + 1) a W, [((decide ((↑i : Int) ≤ (↑l.length : Int)) : Bool)) = (true),
 (((↑i : Int) == (↑l.length : Int) : Bool)) = (false),
 (((0 : Int) : Int) ≤ ((↑i : Int))),
 (((↑i : Int) : Int) < ((↑l.length : Int))),
 (((0 : Int) : Int) ≤ ((↑(l.getD i (0 : UInt8)).toNat : Int))),
 (((↑(l.getD i (0 : UInt8)).toNat : Int) : Int) < ((256 : Int))),
 ((blankI (↑(l.getD i (0 : UInt8)).toNat : Int) : Bool)) = (false),
 ((IntKind.i64.min : Int) ≤ ((↑i : Int) + (1 : Int))),
 (((↑i : Int) + (1 : Int) : Int) ≤ (IntKind.i64.max))]) := by kernel_rfl

theorem rwordsB (l : List UInt8) (i a : Nat) (W : List (List UInt8)) (y : List UInt8) : rwordsRun 2 (bs [(9, true), (15, false), (20, true), (24, true)] ++ [(31, ⟨.sl 2 0 (W ++ [y]).length, some (strs (W ++ [y]))⟩)]) (rwordsS l i a W) = some (.normal, rwordsS l (i + 1) (i + 1) (W ++ [y]), [((decide ((↑i : Int) ≤ (↑l.length : Int)) : Bool)) = (true),
 (((↑i : Int) == (↑l.length : Int) : Bool)) = (false),
 (((0 : Int) : Int) ≤ ((↑i : Int))),
 (((↑i : Int) : Int) < ((↑l.length : Int))),
 (((0 : Int) : Int) ≤ ((↑(l.getD i (0 : UInt8)).toNat : Int))),
 (((↑(l.getD i (0 : UInt8)).toNat : Int) : Int) < ((256 : Int))),
 ((blankI (↑(l.getD i (0 : UInt8)).toNat : Int) : Bool)) = (true),
 ((decide ((↑i : Int) > (↑a : Int)) : Bool)) = (true),
 (((0 : Int) : Int) ≤ ((↑a : Int))),
 (((↑a : Int) : Int) ≤ ((↑i : Int))),
 (((↑i : Int) : Int) ≤ ((↑l.length : Int))),
 (((1 : Nat) : Nat) ≤ ((List.take (0 : Nat) (List.replicate (1 : Nat) (AV.c (Value.string { data := #[] }))) ++
      [AV.c (str (List.drop a (List.take i l)))] ++
    List.drop (1 : Nat) (List.replicate (1 : Nat) (AV.c (Value.string { data := #[] })))).length)),
 (((W.length + (1 : Nat)) * (16 : Nat) : Nat) ≤ ((140737488355328 : Nat))),
 ((W.length + (1 : Nat) : Nat) ≤ ((4611686018427387904 : Nat))),
 ((W.length : Nat) ≤ ((strs W).length)),
 avEq ((AV.sl 2 0 (W.length + (1 : Nat)))) ((AV.sl 2 0 (W ++ [y]).length)),
 ((List.take W.length (strs W) ++
  List.take (1 : Nat)
    (List.drop (0 : Nat)
      (List.take (0 : Nat) (List.replicate (1 : Nat) (AV.c (Value.string { data := #[] }))) ++
          [AV.c (str (List.drop a (List.take i l)))] ++
        List.drop (1 : Nat) (List.replicate (1 : Nat) (AV.c (Value.string { data := #[] }))))) : List AV)) = (strs (W ++ [y])),
 ((IntKind.i64.min : Int) ≤ ((↑i : Int) + (1 : Int))),
 (((↑i : Int) + (1 : Int) : Int) ≤ (IntKind.i64.max)),
 ((IntKind.i64.min : Int) ≤ ((↑i : Int) + (1 : Int))),
 (((↑i : Int) + (1 : Int) : Int) ≤ (IntKind.i64.max))]) := by kernel_rfl

theorem rwordsC (l : List UInt8) (i a : Nat) (W : List (List UInt8)) : rwordsRun 0 (bs [(9, true), (15, false), (20, true), (24, false)]) (rwordsS l i a W) = some (.normal, rwordsS l (i + 1) (i + 1) W, [((decide ((↑i : Int) ≤ (↑l.length : Int)) : Bool)) = (true),
 (((↑i : Int) == (↑l.length : Int) : Bool)) = (false),
 (((0 : Int) : Int) ≤ ((↑i : Int))),
 (((↑i : Int) : Int) < ((↑l.length : Int))),
 (((0 : Int) : Int) ≤ ((↑(l.getD i (0 : UInt8)).toNat : Int))),
 (((↑(l.getD i (0 : UInt8)).toNat : Int) : Int) < ((256 : Int))),
 ((blankI (↑(l.getD i (0 : UInt8)).toNat : Int) : Bool)) = (true),
 ((decide ((↑i : Int) > (↑a : Int)) : Bool)) = (false),
 ((IntKind.i64.min : Int) ≤ ((↑i : Int) + (1 : Int))),
 (((↑i : Int) + (1 : Int) : Int) ≤ (IntKind.i64.max)),
 ((IntKind.i64.min : Int) ≤ ((↑i : Int) + (1 : Int))),
 (((↑i : Int) + (1 : Int) : Int) ≤ (IntKind.i64.max))]) := by kernel_rfl

theorem rwordsD (l : List UInt8) (i a : Nat) (W : List (List UInt8)) (y : List UInt8) : rwordsRun 2 (bs [(9, true), (15, true), (24, true)] ++ [(31, ⟨.sl 2 0 (W ++ [y]).length, some (strs (W ++ [y]))⟩)]) (rwordsS l i a W) = some (.normal, rwordsS l (i + 1) (i + 1) (W ++ [y]), [((decide ((↑i : Int) ≤ (↑l.length : Int)) : Bool)) = (true),
 (((↑i : Int) == (↑l.length : Int) : Bool)) = (true),
 ((decide ((↑i : Int) > (↑a : Int)) : Bool)) = (true),
 (((0 : Int) : Int) ≤ ((↑a : Int))),
 (((↑a : Int) : Int) ≤ ((↑i : Int))),
 (((↑i : Int) : Int) ≤ ((↑l.length : Int))),
 (((1 : Nat) : Nat) ≤ ((List.take (0 : Nat) (List.replicate (1 : Nat) (AV.c (Value.string { data := #[] }))) ++
      [AV.c (str (List.drop a (List.take i l)))] ++
    List.drop (1 : Nat) (List.replicate (1 : Nat) (AV.c (Value.string { data := #[] })))).length)),
 (((W.length + (1 : Nat)) * (16 : Nat) : Nat) ≤ ((140737488355328 : Nat))),
 ((W.length + (1 : Nat) : Nat) ≤ ((4611686018427387904 : Nat))),
 ((W.length : Nat) ≤ ((strs W).length)),
 avEq ((AV.sl 2 0 (W.length + (1 : Nat)))) ((AV.sl 2 0 (W ++ [y]).length)),
 ((List.take W.length (strs W) ++
  List.take (1 : Nat)
    (List.drop (0 : Nat)
      (List.take (0 : Nat) (List.replicate (1 : Nat) (AV.c (Value.string { data := #[] }))) ++
          [AV.c (str (List.drop a (List.take i l)))] ++
        List.drop (1 : Nat) (List.replicate (1 : Nat) (AV.c (Value.string { data := #[] }))))) : List AV)) = (strs (W ++ [y])),
 ((IntKind.i64.min : Int) ≤ ((↑i : Int) + (1 : Int))),
 (((↑i : Int) + (1 : Int) : Int) ≤ (IntKind.i64.max)),
 ((IntKind.i64.min : Int) ≤ ((↑i : Int) + (1 : Int))),
 (((↑i : Int) + (1 : Int) : Int) ≤ (IntKind.i64.max))]) := by kernel_rfl

theorem rwordsE (l : List UInt8) (i a : Nat) (W : List (List UInt8)) : rwordsRun 0 (bs [(9, true), (15, true), (24, false)]) (rwordsS l i a W) = some (.normal, rwordsS l (i + 1) (i + 1) W, [((decide ((↑i : Int) ≤ (↑l.length : Int)) : Bool)) = (true),
 (((↑i : Int) == (↑l.length : Int) : Bool)) = (true),
 ((decide ((↑i : Int) > (↑a : Int)) : Bool)) = (false),
 ((IntKind.i64.min : Int) ≤ ((↑i : Int) + (1 : Int))),
 (((↑i : Int) + (1 : Int) : Int) ≤ (IntKind.i64.max)),
 ((IntKind.i64.min : Int) ≤ ((↑i : Int) + (1 : Int))),
 (((↑i : Int) + (1 : Int) : Int) ≤ (IntKind.i64.max))]) := by kernel_rfl

theorem rwordsZ (l : List UInt8) (i a : Nat) (W : List (List UInt8)) : rwordsRun 0 (bs [(9, false)]) (rwordsS l i a W) = some (.exit 0, rwordsS l i a W, [((decide ((↑i : Int) ≤ (↑l.length : Int)) : Bool)) = (false)]) := by kernel_rfl

end Go.Proofs.Yteadhhmbhgkojaa
