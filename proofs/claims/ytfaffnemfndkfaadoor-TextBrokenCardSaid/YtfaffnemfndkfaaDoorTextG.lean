/- Bytes into right signs: Decode's loop. -/
import Derived.Test.YtfaffnemfndkfaaDoorTextF
import Derived.Lib.DecodeN
namespace Go.Proofs.YtfaffnemfndkfaaDoor
open Go.RowKit
set_option linter.unusedVariables false
set_option linter.unusedSimpArgs false

noncomputable def sg6 : Specs := sgBy [(21, begunSpec)]
noncomputable def hsg6 : HSpecs := hsgBy [(22, wrSpec), (20, groSpec), (23, bstSpec)]
noncomputable def cl6 : CallT := aCallH Tryd.prog sg6 hsg6 500 8
theorem cl6_ok : CallOK Tryd.prog cl6 := aCallH_ok mixed (sgBy_cons begun_ok sgBy_nil) (hsgBy_cons wr_ok (hsgBy_cons gro_ok (hsgBy_cons bst_ok hsgBy_nil))) 500 8

def decG (l : List UInt8) (pos next : Nat) (n : Nat) (L : List AV) : St := ⟨frame 33 [(3, .c (str l)), (4, .pt 0 0), (5, .c (.int .i64 next)), (14, .itr 2)], [some ⟨37, true, [.pt 0 0, .sl 1 0 n]⟩, some ⟨5, false, L⟩, some ⟨0, true, [.iter l pos]⟩]⟩
def decS (l : List UInt8) (pos next : Nat) (out : List UInt8) : St := decG l pos next out.length (byts out)
def decE (l : List UInt8) (out : List UInt8) : St := ⟨frame 33 [(3, .c (str l)), (4, .pt 0 0)], [some ⟨37, true, [.pt 0 0, .sl 1 0 out.length]⟩, some ⟨5, false, byts out⟩]⟩
def decFi : Fi := ⟨[], [3, 4, 5, 14], [0, 1, 2]⟩

theorem decr_1 (l : List UInt8) (pos next : Nat) (out : List UInt8) : roundOut (decFi) (aCode Tryd.prog cl6 ⟨true, bs [(15, true), (21, true)] ++ ([])⟩ (lpBy ([])) 60 (lbody Tryd.prog 11 6) (decS l pos next out)) = some (.normal, decG l (pos + (Utf8.decode ⟨⟨l⟩⟩ pos).2) next out.length (byts out), [((pos : Nat) < (l.length)),
 ((decide ((↑pos : Int) < (↑next : Int)) : Bool)) = (true)]) := by kernel_rfl

theorem decr_2 (l : List UInt8) (pos next : Nat) (out : List UInt8) : roundOut (⟨[], [3, 4, 5, 14], [0, 4, 2]⟩) (aCode Tryd.prog cl6 ⟨true, bs [(15, true), (21, false), (23, true)] ++ ([])⟩ (lpBy ([])) 60 (lbody Tryd.prog 11 6) (decS l pos next out)) = some (.normal, decG l (pos + (Utf8.decode ⟨⟨l⟩⟩ pos).2) (pos + begunF (List.drop pos (List.take l.length l))) (out.length + (encN (sgn ((Utf8.decode ⟨⟨l⟩⟩ pos).1 : Nat))).length) ((byts out).take out.length ++ byts (encN (sgn ((Utf8.decode ⟨⟨l⟩⟩ pos).1 : Nat)))), [((pos : Nat) < (l.length)),
 ((decide ((↑pos : Int) < (↑next : Int)) : Bool)) = (false),
 (((↑(Utf8.decode { data := { toList := l } } pos).fst : Int) == (65533 : Int) : Bool)) = (true),
 (((0 : Int) : Int) ≤ ((↑pos : Int))),
 (((↑pos : Int) : Int) ≤ ((↑l.length : Int))),
 (((↑l.length : Int) : Int) ≤ ((↑l.length : Int))),
 (((0 : Nat) : Nat) < ((List.drop pos (List.take l.length l)).length)),
 (((List.drop pos (List.take l.length l)).length : Nat) ≤ ((1000000000 : Nat))),
 ((IntKind.i64.min : Int) ≤ ((↑pos : Int) + (↑(begunF (List.drop pos (List.take l.length l))) : Int))),
 (((↑pos : Int) + (↑(begunF (List.drop pos (List.take l.length l))) : Int) : Int) ≤ (IntKind.i64.max)),
 (((-2147483648 : Int) : Int) ≤ ((↑(Utf8.decode { data := { toList := l } } pos).fst : Int))),
 (((↑(Utf8.decode { data := { toList := l } } pos).fst : Int) : Int) ≤ ((2147483647 : Int))),
 ((out.length + (4 : Nat) : Nat) ≤ ((140737488355328 : Nat))),
 ((out.length : Nat) ≤ ((byts out).length))]) := by kernel_rfl

theorem decr_3 (l : List UInt8) (pos next : Nat) (out : List UInt8) : roundOut (⟨[], [3, 4, 5, 14], [0, 4, 2]⟩) (aCode Tryd.prog cl6 ⟨true, bs [(15, true), (21, false), (23, false)] ++ ([])⟩ (lpBy ([])) 60 (lbody Tryd.prog 11 6) (decS l pos next out)) = some (.normal, decG l (pos + (Utf8.decode ⟨⟨l⟩⟩ pos).2) next (out.length + (encN (sgn ((Utf8.decode ⟨⟨l⟩⟩ pos).1 : Nat))).length) ((byts out).take out.length ++ byts (encN (sgn ((Utf8.decode ⟨⟨l⟩⟩ pos).1 : Nat)))), [((pos : Nat) < (l.length)),
 ((decide ((↑pos : Int) < (↑next : Int)) : Bool)) = (false),
 (((↑(Utf8.decode { data := { toList := l } } pos).fst : Int) == (65533 : Int) : Bool)) = (false),
 (((-2147483648 : Int) : Int) ≤ ((↑(Utf8.decode { data := { toList := l } } pos).fst : Int))),
 (((↑(Utf8.decode { data := { toList := l } } pos).fst : Int) : Int) ≤ ((2147483647 : Int))),
 ((out.length + (4 : Nat) : Nat) ≤ ((140737488355328 : Nat))),
 ((out.length : Nat) ≤ ((byts out).length))]) := by kernel_rfl

theorem decr_4 (l : List UInt8) (pos next : Nat) (out : List UInt8) : roundOut (⟨[], [3, 4], [0, 1]⟩) (aCode Tryd.prog cl6 ⟨true, bs [(15, false)] ++ ([])⟩ (lpBy ([])) 60 (lbody Tryd.prog 11 6) (decS l pos next out)) = some (.exit 0, decE l out, [((l.length : Nat) ≤ (pos))]) := by kernel_rfl

/-- The sign at a place, and how many bytes it takes. -/
def dAt (l : List UInt8) (pos : Nat) : Nat × Nat := Utf8.decode ⟨⟨l⟩⟩ pos

theorem dAt_pos (l : List UInt8) (pos : Nat) : 1 ≤ (dAt l pos).2 := by
  unfold dAt
  rw [Lib.decode_at]
  unfold Lib.decodeN
  repeat' split
  all_goals (simp only; omega)

theorem dAt_le {l : List UInt8} {pos : Nat} (h : pos < l.length) : pos + (dAt l pos).2 ≤ l.length := by
  unfold dAt
  rw [Lib.decode_at]
  have hs : (⟨⟨l⟩⟩ : ByteArray).size = l.length := rfl
  rw [hs]
  unfold Lib.decodeN
  repeat' split
  all_goals (simp only; omega)

theorem dAt_rune (l : List UInt8) (pos : Nat) : (dAt l pos).1 ≤ 1114111 := by
  unfold dAt
  rw [Lib.decode_at]
  have h0 : ((⟨⟨l⟩⟩ : ByteArray).get! pos).toNat < 256 := UInt8.toNat_lt _
  unfold Lib.decodeN
  repeat' split
  all_goals (simp only; omega)

/-- What Decode's loop writes: from a place on; bytes ahead of 'next' are passed over. -/
def dgo (l : List UInt8) : Nat → Nat → Nat → List UInt8 → List UInt8
  | 0, _, _, out => out
  | f + 1, pos, next, out =>
    if pos < l.length then
      if pos < next then dgo l f (pos + (dAt l pos).2) next out
      else if (dAt l pos).1 = 65533 then dgo l f (pos + (dAt l pos).2) (pos + begunF (l.drop pos)) (out ++ encN (sgn ((dAt l pos).1 : Nat)))
      else dgo l f (pos + (dAt l pos).2) next (out ++ encN (sgn ((dAt l pos).1 : Nat)))
    else out

def decF (l : List UInt8) : List UInt8 := dgo l l.length 0 0 []

theorem begun_le {l : List UInt8} (h : 0 < l.length) : begunF l ≤ l.length := (bgo_le l _ 1 h).2

theorem decG_write (l : List UInt8) (pos next : Nat) (out x : List UInt8) : decG l pos next (out.length + x.length) ((byts out).take out.length ++ byts x) = decS l pos next (out ++ x) := by
  unfold decS
  have h1 : (byts out).take out.length = byts out := by rw [List.take_of_length_le]; simp [byts_length]
  have h2 : byts (out ++ x) = byts out ++ byts x := by simp [byts]
  rw [h1, h2, List.length_append]

structure DecX (l : List UInt8) where
  f : Nat
  pos : Nat
  next : Nat
  out : List UInt8
  h1 : l.length ≤ pos + f
  h2 : pos ≤ l.length
  h3 : out.length ≤ 4 * pos
  h4 : next ≤ l.length
  h5 : (pos = 0 ∧ next = 0) ∨ 0 < out.length
  h6 : dgo l f pos next out = decF l

theorem dec_loop (l : List UInt8) (hl : l.length ≤ 1000000000) : Tri Ext0 Tryd.prog (.loop (lbody Tryd.prog 11 6)) (decS l 0 0 []) (.exit 0) (decE l (decF l)) := by
  refine loop_ok mixed cl6_ok (α := DecX l) (fun x => decS l x.pos x.next x.out) (fun x => x.f) ?_ ⟨l.length, 0, 0, [], by omega, by omega, by simp, by omega, .inl ⟨rfl, rfl⟩, rfl⟩
  rintro ⟨f, pos, next, out, h1, h2, h3, h4, h5, h6⟩
  show (∃ x' : DecX l, x'.f < f ∧ Round Ext0 Tryd.prog cl6 _ (decS l pos next out) _ (decS l x'.pos x'.next x'.out)) ∨ (_ ∧ Round Ext0 Tryd.prog cl6 _ (decS l pos next out) _ _)
  by_cases hlt : pos < l.length
  · obtain ⟨f', rfl⟩ : ∃ f', f = f' + 1 := ⟨f - 1, by omega⟩
    have hw := dAt_pos l pos
    have hle := dAt_le hlt
    have hru := dAt_rune l pos
    unfold dgo at h6
    rw [if_pos hlt] at h6
    by_cases hn : pos < next
    · rw [if_pos hn] at h6
      have h5' : 0 < out.length := by omega
      refine .inl ⟨⟨f', pos + (dAt l pos).2, next, out, by omega, hle, by omega, h4, .inr h5', h6⟩, by simp only; omega, _, _, _, _, _, lpBy_nil, by decide, decr_1 l pos next out, ?_⟩
      simp only [allP, and_true, true_and, decide_eq_true_eq, decide_eq_false_iff_not]
      omega
    · rw [if_neg hn] at h6
      have hel := enc_len ((dAt l pos).1 : Nat)
      by_cases hr : (dAt l pos).1 = 65533
      · rw [if_pos hr] at h6
        have hbl := begun_le (l := l.drop pos) (by simp; omega)
        rw [List.length_drop] at hbl
        refine .inl ⟨⟨f', pos + (dAt l pos).2, pos + begunF (l.drop pos), out ++ encN (sgn ((dAt l pos).1 : Nat)), by omega, hle, by simp; omega, by omega, .inr (by simp; omega), h6⟩, by simp only; omega, ?_⟩
        simp only
        rw [← decG_write]
        have hd : l.drop pos = List.drop pos (List.take l.length l) := by rw [List.take_length]
        rw [hd]
        refine ⟨_, _, _, _, _, lpBy_nil, by decide, decr_2 l pos next out, ?_⟩
        rw [← hd]
        have hr' : (Utf8.decode ⟨⟨l⟩⟩ pos).1 = 65533 := hr
        simp only [allP, hr', and_true, true_and, decide_eq_true_eq, decide_eq_false_iff_not, i64_min, i64_max, byts_length, List.length_drop]
        repeat' apply And.intro
        all_goals first | omega | rfl
      · rw [if_neg hr] at h6
        refine .inl ⟨⟨f', pos + (dAt l pos).2, next, out ++ encN (sgn ((dAt l pos).1 : Nat)), by omega, hle, by simp; omega, h4, .inr (by simp; omega), h6⟩, by simp only; omega, ?_⟩
        simp only
        rw [← decG_write]
        refine ⟨_, _, _, _, _, lpBy_nil, by decide, decr_3 l pos next out, ?_⟩
        have hr' : ¬ (Utf8.decode ⟨⟨l⟩⟩ pos).1 = 65533 := hr
        have hru' : (Utf8.decode ⟨⟨l⟩⟩ pos).1 ≤ 1114111 := hru
        simp only [allP, and_true, true_and, decide_eq_true_eq, decide_eq_false_iff_not, beq_eq_false_iff_ne, ne_eq, byts_length]
        repeat' apply And.intro
        all_goals omega
  · have ho : out = decF l := by
      rw [← h6]
      cases f with
      | zero => rfl
      | succ f => unfold dgo; rw [if_neg hlt]
    refine .inr ⟨by simp, ?_⟩
    rw [← ho]
    refine ⟨_, _, _, _, _, lpBy_nil, by decide, decr_4 l pos next out, ?_⟩
    simp only [allP, and_true]
    omega

end Go.Proofs.YtfaffnemfndkfaaDoor
