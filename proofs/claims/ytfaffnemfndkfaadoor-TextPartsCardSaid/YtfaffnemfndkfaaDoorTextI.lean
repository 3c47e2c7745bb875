/- The signs of a text, decoded. -/
import Derived.Test.YtfaffnemfndkfaaDoorTextH
namespace Go.Proofs.YtfaffnemfndkfaaDoor
open Go.RowKit
set_option linter.unusedVariables false
set_option linter.unusedSimpArgs false

def ints (L : List Int) : List AV := L.map fun n => .c (.int .i64 n)
theorem ints_length (L : List Int) : (ints L).length = L.length := by simp [ints]

noncomputable def sg8 : Specs := sgBy [(11, decSpec)]
noncomputable def cl8 : CallT := aCall Tryd.prog sg8 500 8
theorem cl8_ok : CallOK Tryd.prog cl8 := aCall_ok mixed (sgBy_cons dec_ok sgBy_nil) 500 8

def sigG (l : List UInt8) (pos n : Nat) (L : List AV) : St := ⟨frame 19 [(3, .sl 0 0 n), (9, .itr 1)], [some ⟨3, false, L⟩, some ⟨0, true, [.iter l pos]⟩]⟩
def sigE (L : List Int) : St := ⟨frame 19 [(3, .sl 0 0 L.length)], [some ⟨3, false, ints L⟩]⟩
def sigS (l : List UInt8) (pos : Nat) (L : List Int) : St := sigG l pos L.length (ints L)

theorem sigr_1 (l : List UInt8) (pos : Nat) (L : List Int) : roundOut (⟨[], [3, 9], [3, 1]⟩) (aCode Tryd.prog cl8 ⟨true, bs [(10, true)] ++ ([])⟩ (lpBy ([])) 60 (lbody Tryd.prog 12 3) (sigS l pos L)) = some (.normal, sigG l (pos + (Utf8.decode ⟨⟨l⟩⟩ pos).2) (L.length + 1) (List.take L.length (ints L) ++ [.c (.int .i64 (IntKind.i64.wrap ((Utf8.decode ⟨⟨l⟩⟩ pos).1 : Nat)))]), [((pos : Nat) < (l.length)),
 (((1 : Nat) : Nat) ≤ ((1 : Nat))),
 (((L.length + (1 : Nat)) * (8 : Nat) : Nat) ≤ ((140737488355328 : Nat))),
 ((L.length + (1 : Nat) : Nat) ≤ ((4611686018427387904 : Nat))),
 ((L.length : Nat) ≤ ((ints L).length))]) := by kernel_rfl

theorem sigr_2 (l : List UInt8) (pos : Nat) (L : List Int) : roundOut (⟨[], [3], [0]⟩) (aCode Tryd.prog cl8 ⟨true, bs [(10, false)] ++ ([])⟩ (lpBy ([])) 60 (lbody Tryd.prog 12 3) (sigS l pos L)) = some (.exit 0, sigE L, [((l.length : Nat) ≤ (pos))]) := by kernel_rfl

/-- The signs from a place on. -/
def sgo (l : List UInt8) : Nat → Nat → List Int → List Int
  | 0, _, L => L
  | f + 1, pos, L => if pos < l.length then sgo l f (pos + (dAt l pos).2) (L ++ [(((dAt l pos).1 : Nat) : Int)]) else L

def sigF (l : List UInt8) : List Int := sgo l l.length 0 []

theorem sgo_le (l : List UInt8) : ∀ f pos L, pos ≤ l.length → L.length ≤ pos → (sgo l f pos L).length ≤ l.length
  | 0, _, _, h, h2 => by unfold sgo; omega
  | f + 1, pos, L, h, h2 => by
    unfold sgo
    have hw := dAt_pos l pos
    split
    · rename_i hlt
      exact sgo_le l f _ _ (dAt_le hlt) (by simp; omega)
    · omega

theorem sigF_le (l : List UInt8) : (sigF l).length ≤ l.length := sgo_le l _ 0 [] (Nat.zero_le _) (by simp)

structure SigX (l : List UInt8) where
  f : Nat
  pos : Nat
  L : List Int
  h1 : l.length ≤ pos + f
  h2 : pos ≤ l.length
  h3 : L.length ≤ pos
  h4 : sgo l f pos L = sigF l

theorem sigG_add (l : List UInt8) (pos : Nat) (L : List Int) (x : Int) : sigG l pos (L.length + 1) (List.take L.length (ints L) ++ [.c (.int .i64 x)]) = sigS l pos (L ++ [x]) := by
  unfold sigS
  have h1 : (ints L).take L.length = ints L := by rw [List.take_of_length_le]; simp [ints]
  have h2 : ints (L ++ [x]) = ints L ++ [.c (.int .i64 x)] := by simp [ints]
  rw [h1, h2, List.length_append]
  rfl

theorem sig_loop (l : List UInt8) (hl : l.length ≤ 4000000000) : Tri Ext0 Tryd.prog (.loop (lbody Tryd.prog 12 3)) (sigS l 0 []) (.exit 0) (sigE (sigF l)) := by
  refine loop_ok mixed cl8_ok (α := SigX l) (fun x => sigS l x.pos x.L) (fun x => x.f) ?_ ⟨l.length, 0, [], by omega, by omega, by simp, rfl⟩
  rintro ⟨f, pos, L, h1, h2, h3, h4⟩
  show (∃ x' : SigX l, x'.f < f ∧ Round Ext0 Tryd.prog cl8 _ (sigS l pos L) _ (sigS l x'.pos x'.L)) ∨ (_ ∧ Round Ext0 Tryd.prog cl8 _ (sigS l pos L) _ _)
  by_cases hlt : pos < l.length
  · obtain ⟨f', rfl⟩ : ∃ f', f = f' + 1 := ⟨f - 1, by omega⟩
    have hw := dAt_pos l pos
    have hle := dAt_le hlt
    have hru := dAt_rune l pos
    unfold sgo at h4
    rw [if_pos hlt] at h4
    refine .inl ⟨⟨f', pos + (dAt l pos).2, L ++ [(((dAt l pos).1 : Nat) : Int)], by omega, hle, by simp; omega, h4⟩, by simp only; omega, ?_⟩
    simp only
    rw [← sigG_add]
    have hwr : IntKind.i64.wrap ((Utf8.decode ⟨⟨l⟩⟩ pos).1 : Nat) = ((dAt l pos).1 : Nat) := by
      have hru' : (Utf8.decode ⟨⟨l⟩⟩ pos).1 ≤ 1114111 := hru
      exact i64_wrap (by omega) (by omega)
    rw [← hwr]
    refine ⟨_, _, _, _, _, lpBy_nil, by decide, sigr_1 l pos L, ?_⟩
    simp only [allP, and_true, true_and, ints_length]
    omega
  · have ho : L = sigF l := by
      rw [← h4]
      cases f with
      | zero => rfl
      | succ f => unfold sgo; rw [if_neg hlt]
    refine .inr ⟨by simp, ?_⟩
    rw [← ho]
    refine ⟨_, _, _, _, _, lpBy_nil, by decide, sigr_2 l pos L, ?_⟩
    simp only [allP, and_true]
    omega

noncomputable def sigLp (l : List UInt8) : List (Nat × Lp) := [(3, ⟨lbody Tryd.prog 12 3, ⟨[(3, 3)], [3, 9], [2, 1]⟩, sigS l 0 [], .exit 0, sigE (sigF l)⟩)]
theorem sigLp_ok (l : List UInt8) (hl : l.length ≤ 4000000000) : LpOK Ext0 Tryd.prog (lpBy (sigLp l)) := lpBy_cons lpBy_nil (show [2, 1].Nodup by decide) (sig_loop l hl)

theorem signs_1 (l : List UInt8) : outcome Tryd.prog 12 (aBody Tryd.prog cl8 ⟨true, bs [] ++ ([(8, ⟨.c (str (decF l)), none⟩)])⟩ (lpBy (sigLp (decF l))) 60 12 ([.c (str l)]) ([])) = some ((AV.fs 1 ((sigF (decF l)).length) (ints (sigF (decF l)))), [((l.length : Nat) ≤ ((140737488355328 : Nat))),
 ((Tryd.prog.cellsOf (5 : Nat) : Nat)) = ((1 : Nat)),
 ((List.take l.length (List.drop (0 : Nat) (byts l)) : List AV)) = (byts (unbyts (List.take l.length (List.drop (0 : Nat) (byts l))))),
 ((l.length : Nat)) = ((unbyts (List.take l.length (List.drop (0 : Nat) (byts l)))).length),
 ((l.length : Nat) ≤ ((1000000000 : Nat))),
 ((flatV [] (AV.c (str (decF (unbyts (List.take l.length (List.drop (0 : Nat) (byts l))))))) : Bool)) = (true),
 ((decF (unbyts (List.take l.length (List.drop (0 : Nat) (byts l)))) : List UInt8)) = (decF l),
 ((lbody Tryd.prog (12 : FuncId) (3 : Nat) : Go.Code)) = (lbody Tryd.prog (12 : FuncId) (3 : Nat)),
 ((sigS (decF l) (0 : Nat) [] : Go.Proofs.YtfaffnemfndkfaaDoor.St)) = (sigS (decF l) (0 : Nat) [])]) := by kernel_rfl

theorem signs_all (l : List UInt8) (h1 : l.length ≤ 1000000000) : ∃ (h : Hints) (p : List Prop), outcome Tryd.prog 12 (aBody Tryd.prog cl8 h (lpBy (sigLp (decF l))) 60 12 ([.c (str l)]) ([])) = some (.fs 1 (sigF (decF l)).length (ints (sigF (decF l))), p) ∧ allP p := by
  have eR := signs_1 l
  refine ⟨_, _, eR.trans (congrArg (fun r => some (r, _)) ?_), ?_⟩
  · rfl
  · have e : List.take l.length (List.drop 0 (byts l)) = byts l := by rw [List.drop_zero, List.take_of_length_le]; simp [byts_length]
    rw [e, unbyts_byts]
    exact ⟨by omega, by kernel_rfl, rfl, rfl, h1, rfl, rfl, rfl, rfl, trivial⟩

def signsSpec : Spec
  | [.c (.string s)] => some (.fs 1 (sigF (decF (sb s))).length (ints (sigF (decF (sb s)))), [(sb s).length ≤ 1000000000])
  | _ => none

theorem signs_ok : SpecOK Tryd.prog 12 signsSpec := by
  refine spec_of mixed cl8_ok fun args r q hs hq => ?_
  unfold signsSpec at hs
  split at hs
  · rename_i s
    simp only [Option.some.injEq, Prod.mk.injEq] at hs
    obtain ⟨rfl, rfl⟩ := hs
    obtain ⟨⟨⟨l⟩⟩, rfl⟩ : ∃ b : ByteArray, b = s := ⟨s, rfl⟩
    obtain ⟨h, p, e, hp⟩ := signs_all l hq.1
    have h1 : l.length ≤ 1000000000 := hq.1
    exact ⟨_, _, _, _, sigLp_ok _ (by have := decF_le l; omega), e, hp⟩
  · simp at hs

end Go.Proofs.YtfaffnemfndkfaaDoor
