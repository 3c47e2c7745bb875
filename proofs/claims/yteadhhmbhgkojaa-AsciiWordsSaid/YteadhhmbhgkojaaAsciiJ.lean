/- The law of both ends. -/
import Derived.Test.YteadhhmbhgkojaaAsciiI
namespace Go.Proofs.Yteadhhmbhgkojaa
open Go.RowKit
set_option linter.unusedVariables false
set_option linter.unusedSimpArgs false

def allB (p : Int → Bool) (l : List UInt8) : Prop := ∀ x ∈ l, p x.toNat = true

theorem tw_app {α : Type} (q : α → Bool) : ∀ (a b : List α), (∀ x ∈ a, q x = true) → (a ++ b).takeWhile q = a ++ b.takeWhile q
  | [], b, _ => rfl
  | x :: r, b, h => by
    rw [List.cons_append, List.takeWhile_cons, if_pos (h x (by simp)), tw_app q r b (fun y hy => h y (by simp [hy]))]
    rfl

/-- What both ends lose is all that they can. -/
theorem strip_char {p : Int → Bool} (A M B : List UInt8) (hA : allB p A) (hB : allB p B) (hM : M = [] ∨ (p (M.getD 0 0).toNat = false ∧ p (M.getD (M.length - 1) 0).toNat = false)) : stripF p (A ++ M ++ B) = M := by
  by_cases hne : M = []
  · subst hne
    have e : leadN p (A ++ [] ++ B) = (A ++ B).length := by
      unfold leadN
      rw [List.append_nil, show A ++ B = (A ++ B) ++ [] from (List.append_nil _).symm, tw_app _ (A ++ B) [] (fun x hx => by
        rcases List.mem_append.1 hx with h | h
        · exact hA x h
        · exact hB x h)]
      simp
    unfold stripF
    rw [e]
    simp
  · obtain ⟨h1, h2⟩ := hM.resolve_left hne
    cases M with
    | nil => exact absurd rfl hne
    | cons m r =>
      have e : leadN p (A ++ (m :: r) ++ B) = A.length := by
        unfold leadN
        rw [List.append_assoc, tw_app _ A _ hA, List.cons_append, List.takeWhile_cons, if_neg (by simpa using h1)]
        simp
      obtain ⟨r', z, hz⟩ : ∃ r' z, m :: r = r' ++ [z] := ⟨(m :: r).dropLast, (m :: r).getLast (by simp), (List.dropLast_concat_getLast (by simp)).symm⟩
      have hz2 : p z.toNat = false := by
        rw [hz] at h2
        simpa [List.getD] using h2
      have e2 : trailN p (A ++ (m :: r) ++ B) = B.length := by
        unfold trailN
        rw [e, List.append_assoc, List.drop_left, hz, List.reverse_append, tw_app _ B.reverse _ (fun x hx => hB x (List.mem_reverse.1 hx)), List.reverse_append]
        simp [hz2]
      unfold stripF
      rw [e, e2, List.append_assoc]
      have e3 : (A ++ (m :: r ++ B)).length - B.length = (A ++ (m :: r)).length := by simp; omega
      rw [e3, ← List.append_assoc, List.take_left, List.drop_left]

theorem mem_take_getD (l : List UInt8) (n : Nat) (x : UInt8) (h : x ∈ l.take n) : ∃ i, i < n ∧ i < l.length ∧ l.getD i 0 = x := by
  obtain ⟨i, hi, rfl⟩ := List.getElem_of_mem h
  have hi' : i < n ∧ i < l.length := by simp at hi; omega
  exact ⟨i, hi'.1, hi'.2, by simp [List.getD, hi'.2, List.getElem_take]⟩

theorem mem_drop_getD (l : List UInt8) (n : Nat) (x : UInt8) (h : x ∈ l.drop n) : ∃ i, n ≤ i ∧ i < l.length ∧ l.getD i 0 = x := by
  obtain ⟨i, hi, rfl⟩ := List.getElem_of_mem h
  have hi' : n + i < l.length := by simp at hi; omega
  exact ⟨n + i, by omega, hi', by simp [List.getD, hi', List.getElem_drop]⟩

theorem strip_split (p : Int → Bool) (l : List UInt8) : l = l.take (leadN p l) ++ stripF p l ++ l.drop (l.length - trailN p l) ∧ allB p (l.take (leadN p l)) ∧ allB p (l.drop (l.length - trailN p l)) ∧ (stripF p l = [] ∨ (p ((stripF p l).getD 0 0).toNat = false ∧ p ((stripF p l).getD ((stripF p l).length - 1) 0).toNat = false)) := by
  have h1 := lead_le p l
  have h2 := trail_le p l
  refine ⟨?_, ?_, ?_, ?_⟩
  · unfold stripF
    have e : l.take (leadN p l) = (l.take (l.length - trailN p l)).take (leadN p l) := by rw [List.take_take]; congr 1; omega
    conv => rhs; rw [e]
    rw [List.take_append_drop, List.take_append_drop]
  · intro x hx
    obtain ⟨i, hi, _, rfl⟩ := mem_take_getD l _ x hx
    exact lead_lt hi
  · intro x hx
    obtain ⟨i, hi, hl, rfl⟩ := mem_drop_getD l _ x hx
    have := trail_lt (p := p) (l := l) (j := l.length - 1 - i) (by omega)
    rwa [show l.length - (l.length - 1 - i) - 1 = i by omega] at this
  · by_cases hc : leadN p l + trailN p l < l.length
    · right
      have e0 : (stripF p l).getD 0 0 = l.getD (leadN p l) 0 := by
        unfold stripF
        simp only [List.getD, List.getElem?_drop, List.getElem?_take, Nat.add_zero]
        rw [if_pos (by omega)]
      have en : (stripF p l).length = l.length - trailN p l - leadN p l := by unfold stripF; simp
      have e1 : (stripF p l).getD ((stripF p l).length - 1) 0 = l.getD (l.length - trailN p l - 1) 0 := by
        rw [en]
        unfold stripF
        simp only [List.getD, List.getElem?_drop, List.getElem?_take]
        rw [if_pos (by omega)]
        congr 2
        omega
      rw [e0, e1]
      exact ⟨lead_stop (by omega), trail_stop hc⟩
    · left
      apply List.eq_nil_of_length_eq_zero
      unfold stripF
      simp
      omega

theorem strip_twice (p : Int → Bool) (l : List UInt8) : stripF p (stripF p l) = stripF p l := by
  obtain ⟨_, _, _, h⟩ := strip_split p l
  have := strip_char [] (stripF p l) [] (p := p) (fun x hx => by simp at hx) (fun x hx => by simp at hx) h
  simpa using this

theorem blank_low {n : Int} (h : blankI n = true) : lowI n = true := by
  simp only [blankI, Bool.or_eq_true, beq_iff_eq] at h
  simp only [lowI, decide_eq_true_eq]
  omega

theorem strip_blank (l : List UInt8) : stripF lowI (stripF blankI l) = stripF lowI l := by
  obtain ⟨e1, a1, b1, _⟩ := strip_split blankI l
  obtain ⟨e2, a2, b2, h2⟩ := strip_split lowI (stripF blankI l)
  generalize hu : stripF blankI l = u at *
  generalize hm : stripF lowI u = m at *
  generalize l.take (leadN blankI l) = A at *
  generalize l.drop (l.length - trailN blankI l) = B at *
  generalize u.take (leadN lowI u) = A' at *
  generalize u.drop (u.length - trailN lowI u) = B' at *
  subst e1
  subst e2
  have := strip_char (A ++ A') m (B' ++ B) (p := lowI) (fun x hx => by
    rcases List.mem_append.1 hx with h | h
    · exact blank_low (a1 x h)
    · exact a2 x h) (fun x hx => by
    rcases List.mem_append.1 hx with h | h
    · exact b2 x h
    · exact blank_low (b1 x h)) h2
  have e : A ++ (A' ++ m ++ B') ++ B = A ++ A' ++ m ++ (B' ++ B) := by simp
  rw [e]
  exact this.symm

def teS (s t : List UInt8) (i : Nat) : St := ⟨frame 105 [(0, .c (str s)), (3, .c (.bool true)), (4, .c (str t)), (5, .c (.int .i64 i))], []⟩
def teT (s t : List UInt8) (i k : Nat) : St := ⟨frame 105 [(0, .c (str s)), (3, .c (.bool true)), (4, .c (str t)), (5, .c (.int .i64 i)), (6, .c (.int .i64 k))], []⟩
noncomputable def teRun (h : List (Nat × Hint)) (S : St) : Option (Exit × St × List Prop) := roundOut ⟨[], [0, 3, 4, 5], []⟩ (aCode Try.prog cl5 ⟨true, h⟩ (lpBy []) 60 (lbody Try.prog 6 6) S)
noncomputable def teRun2 (h : List (Nat × Hint)) (S : St) : Option (Exit × St × List Prop) := roundOut ⟨[], [0, 3, 4, 5, 6], []⟩ (aCode Try.prog cl5 ⟨true, h⟩ (lpBy []) 60 (lbody Try.prog 6 11) S)

theorem te1 (s t : List UInt8) (i : Nat) : teRun (bs [(18, true), (23, true)]) (teS s t i) = some (.normal, teS s t (i + 1), [((decide ((↑i : Int) < (↑s.length : Int)) : Bool)) = (true),
 (((0 : Int) : Int) ≤ ((↑i : Int))),
 (((↑i : Int) : Int) < ((↑s.length : Int))),
 ((decide ((↑(s.getD i (0 : UInt8)).toNat : Int) ≤ (32 : Int)) : Bool)) = (true),
 ((IntKind.i64.min : Int) ≤ ((↑i : Int) + (1 : Int))),
 (((↑i : Int) + (1 : Int) : Int) ≤ (IntKind.i64.max))]) := by kernel_rfl

theorem te2 (s t : List UInt8) (i : Nat) : teRun (bs [(18, true), (23, false)]) (teS s t i) = some (.exit 0, teS s t i, [((decide ((↑i : Int) < (↑s.length : Int)) : Bool)) = (true),
 (((0 : Int) : Int) ≤ ((↑i : Int))),
 (((↑i : Int) : Int) < ((↑s.length : Int))),
 ((decide ((↑(s.getD i (0 : UInt8)).toNat : Int) ≤ (32 : Int)) : Bool)) = (false)]) := by kernel_rfl

theorem te3 (s t : List UInt8) (i : Nat) : teRun (bs [(18, false)]) (teS s t i) = some (.exit 0, teS s t i, [((decide ((↑i : Int) < (↑s.length : Int)) : Bool)) = (false)]) := by kernel_rfl

theorem te4 (s t : List UInt8) (i k : Nat) : teRun2 (bs [(58, true), (64, false)]) (teT s t i k) = some (.normal, teT s t i (k + 1), [((decide ((↑k : Int) < (↑s.length : Int)) : Bool)) = (true),
 (((0 : Int) : Int) ≤ ((↑k : Int))),
 (((↑k : Int) : Int) < ((↑s.length : Int))),
 ((decide ((↑(s.getD k (0 : UInt8)).toNat : Int) > (32 : Int)) : Bool)) = (false),
 ((IntKind.i64.min : Int) ≤ ((↑k : Int) + (1 : Int))),
 (((↑k : Int) + (1 : Int) : Int) ≤ (IntKind.i64.max))]) := by kernel_rfl

theorem te5 (s t : List UInt8) (i k : Nat) : teRun2 (bs [(58, false)]) (teT s t i k) = some (.exit 2, teT s t i k, [((decide ((↑k : Int) < (↑s.length : Int)) : Bool)) = (false)]) := by kernel_rfl

theorem te_loop1 (l t : List UInt8) (hl : l.length ≤ 1000000) : Tri Ext0 Try.prog (.loop (lbody Try.prog 6 6)) (teS l t 0) (.exit 0) (teS l t (leadN lowI l)) := by
  refine loop_ok mixed cl5_ok (α := {i : Nat // i ≤ leadN lowI l}) (fun x => teS l t x.val) (fun x => leadN lowI l - x.val) ?_ ⟨0, Nat.zero_le _⟩
  rintro ⟨i, hi⟩
  have hle := lead_le lowI l
  by_cases hk : i < leadN lowI l
  · have hp := lead_lt hk
    refine .inl ⟨⟨i + 1, hk⟩, by simp only; omega, _, _, _, _, _, lpBy_nil, List.nodup_nil, te1 l t i, ?_⟩
    simp only [lowI, allP, and_true, true_and, decide_eq_true_eq, decide_eq_false_iff_not, i64_min, i64_max] at hp ⊢
    omega
  · obtain rfl : i = leadN lowI l := by omega
    refine .inr ⟨by simp, ?_⟩
    by_cases hlen : leadN lowI l < l.length
    · have hp := lead_stop hlen
      refine ⟨_, _, _, _, _, lpBy_nil, List.nodup_nil, te2 l t (leadN lowI l), ?_⟩
      generalize leadN lowI l = i at *
      simp only [lowI, allP, and_true, true_and, decide_eq_true_eq, decide_eq_false_iff_not, i64_min, i64_max] at hp ⊢
      omega
    · refine ⟨_, _, _, _, _, lpBy_nil, List.nodup_nil, te3 l t (leadN lowI l), ?_⟩
      simp only [allP, and_true, true_and, decide_eq_true_eq, decide_eq_false_iff_not]
      omega

theorem te_loop2 (l t : List UInt8) (i : Nat) (hl : l.length ≤ 1000000) : Tri Ext0 Try.prog (.loop (lbody Try.prog 6 11)) (teT l t i (l.length - trailN lowI l)) (.exit 2) (teT l t i l.length) := by
  refine loop_ok mixed cl5_ok (α := {k : Nat // l.length - trailN lowI l ≤ k ∧ k ≤ l.length}) (fun x => teT l t i x.val) (fun x => l.length - x.val) ?_ ⟨l.length - trailN lowI l, Nat.le_refl _, by omega⟩
  rintro ⟨k, hk1, hk2⟩
  have hle := trail_le lowI l
  by_cases hk : k < l.length
  · have hp := trail_lt (p := lowI) (l := l) (j := l.length - 1 - k) (by omega)
    rw [show l.length - (l.length - 1 - k) - 1 = k by omega] at hp
    refine .inl ⟨⟨k + 1, by omega, hk⟩, by simp only; omega, _, _, _, _, _, lpBy_nil, List.nodup_nil, te4 l t i k, ?_⟩
    simp only [lowI, allP, and_true, true_and, decide_eq_true_eq, decide_eq_false_iff_not, i64_min, i64_max] at hp ⊢
    omega
  · obtain rfl : k = l.length := by omega
    refine .inr ⟨by simp, _, _, _, _, _, lpBy_nil, List.nodup_nil, te5 l t i l.length, ?_⟩
    simp [allP]

noncomputable def teLp (l t : List UInt8) (i : Nat) : List (Nat × Lp) := [(6, ⟨lbody Try.prog 6 6, ⟨[], [0, 3, 4, 5], []⟩, teS l t 0, .exit 0, teS l t (leadN lowI l)⟩), (11, ⟨lbody Try.prog 6 11, ⟨[], [0, 3, 4, 5, 6], []⟩, teT l t (leadN lowI l) (l.length - trailN lowI l), .exit 2, teT l t (leadN lowI l) l.length⟩)]

noncomputable def teAll (L : List (Nat × Lp)) (h : List (Nat × Hint)) (l : List UInt8) : Option (AV × List Prop) := lawOut (aBody Try.prog cl5 ⟨true, h⟩ (lpBy L) 60 6 [.c (str l)] [])

theorem teAll1 (l : List UInt8) : teAll [] (bs [(11, true)]) l = some (.c (.bool true), [((decide ((↑l.length : Int) > (1000 : Int)) : Bool)) = (true)]) := by kernel_rfl

theorem teAll2 (l : List UInt8) : teAll (teLp l (stripF lowI l) (leadN lowI l)) (bs [(11, false), (33, false), (43, false), (49, false), (71, true), (90, true), (96, true), (103, true)] ++ [(54, ⟨.c (.int .i64 ((l.length - trailN lowI l : Nat) : Int)), none⟩)]) l = some (.c (.bool true), [((decide ((↑l.length : Int) > (1000 : Int)) : Bool)) = (false),
 ((l.length : Nat) ≤ ((1000000 : Nat))),
 ((lbody Try.prog (6 : FuncId) (6 : Nat) : Go.Code)) = (lbody Try.prog (6 : FuncId) (6 : Nat)),
 ((teS l (stripF lowI l) (0 : Nat) : Go.Proofs.Yteadhhmbhgkojaa.St)) = (teS l (stripF lowI l) (0 : Nat)),
 ((IntKind.i64.min : Int) ≤ ((↑l.length : Int) - (↑(leadN lowI l) : Int))),
 (((↑l.length : Int) - (↑(leadN lowI l) : Int) : Int) ≤ (IntKind.i64.max)),
 ((decide ((↑(stripF lowI l).length : Int) > (↑l.length : Int) - (↑(leadN lowI l) : Int)) : Bool)) = (false),
 ((IntKind.i64.min : Int) ≤ ((↑(leadN lowI l) : Int) + (↑(stripF lowI l).length : Int))),
 (((↑(leadN lowI l) : Int) + (↑(stripF lowI l).length : Int) : Int) ≤ (IntKind.i64.max)),
 (((0 : Int) : Int) ≤ ((↑(leadN lowI l) : Int))),
 (((↑(leadN lowI l) : Int) : Int) ≤ ((↑(leadN lowI l) : Int) + (↑(stripF lowI l).length : Int))),
 (((↑(leadN lowI l) : Int) + (↑(stripF lowI l).length : Int) : Int) ≤ ((↑l.length : Int))),
 ((!List.drop (leadN lowI l) (List.take ((↑(leadN lowI l) : Int) + (↑(stripF lowI l).length : Int)).toNat l) ==
    stripF lowI l : Bool)) = (false),
 (((stripF lowI l).length : Nat) ≤ ((1000000 : Nat))),
 ((!stripF lowI (stripF lowI l) == stripF lowI l : Bool)) = (false),
 ((IntKind.i64.min : Int) ≤ ((↑(leadN lowI l) : Int) + (↑(stripF lowI l).length : Int))),
 (((↑(leadN lowI l) : Int) + (↑(stripF lowI l).length : Int) : Int) ≤ (IntKind.i64.max)),
 (((↑(leadN lowI l) : Int) + (↑(stripF lowI l).length : Int) : Int)) = ((↑(l.length - trailN lowI l) : Int)),
 ((lbody Try.prog (6 : FuncId) (11 : Nat) : Go.Code)) = (lbody Try.prog (6 : FuncId) (11 : Nat)),
 ((teT l (stripF lowI l) (leadN lowI l) (l.length - trailN lowI l) : Go.Proofs.Yteadhhmbhgkojaa.St)) = (teT l (stripF lowI l) (leadN lowI l) (l.length - trailN lowI l)),
 ((l.length : Nat) ≤ ((1000000 : Nat))),
 (((↑(stripF lowI l).length : Int) == (0 : Int) : Bool)) = (true),
 (((stripF blankI l).length : Nat) ≤ ((1000000 : Nat))),
 ((stripF lowI (stripF blankI l) == stripF lowI l : Bool)) = (true),
 (((stripF blankI l).length : Nat) ≤ ((1000000 : Nat))),
 ((stripF blankI (stripF blankI l) == stripF blankI l : Bool)) = (true),
 ((decide ((↑(stripF lowI l).length : Int) ≤ (↑(stripF blankI l).length : Int)) : Bool)) = (true)]) := by kernel_rfl


theorem teAll3 (l : List UInt8) : teAll (teLp l (stripF lowI l) (leadN lowI l)) (bs [(11, false), (33, false), (43, false), (49, false), (71, false), (75, true), (82, true), (90, true), (96, true), (103, true)] ++ [(54, ⟨.c (.int .i64 ((l.length - trailN lowI l : Nat) : Int)), none⟩)]) l = some (.c (.bool true), [((decide ((↑l.length : Int) > (1000 : Int)) : Bool)) = (false),
 ((l.length : Nat) ≤ ((1000000 : Nat))),
 ((lbody Try.prog (6 : FuncId) (6 : Nat) : Go.Code)) = (lbody Try.prog (6 : FuncId) (6 : Nat)),
 ((teS l (stripF lowI l) (0 : Nat) : Go.Proofs.Yteadhhmbhgkojaa.St)) = (teS l (stripF lowI l) (0 : Nat)),
 ((IntKind.i64.min : Int) ≤ ((↑l.length : Int) - (↑(leadN lowI l) : Int))),
 (((↑l.length : Int) - (↑(leadN lowI l) : Int) : Int) ≤ (IntKind.i64.max)),
 ((decide ((↑(stripF lowI l).length : Int) > (↑l.length : Int) - (↑(leadN lowI l) : Int)) : Bool)) = (false),
 ((IntKind.i64.min : Int) ≤ ((↑(leadN lowI l) : Int) + (↑(stripF lowI l).length : Int))),
 (((↑(leadN lowI l) : Int) + (↑(stripF lowI l).length : Int) : Int) ≤ (IntKind.i64.max)),
 (((0 : Int) : Int) ≤ ((↑(leadN lowI l) : Int))),
 (((↑(leadN lowI l) : Int) : Int) ≤ ((↑(leadN lowI l) : Int) + (↑(stripF lowI l).length : Int))),
 (((↑(leadN lowI l) : Int) + (↑(stripF lowI l).length : Int) : Int) ≤ ((↑l.length : Int))),
 ((!List.drop (leadN lowI l) (List.take ((↑(leadN lowI l) : Int) + (↑(stripF lowI l).length : Int)).toNat l) ==
    stripF lowI l : Bool)) = (false),
 (((stripF lowI l).length : Nat) ≤ ((1000000 : Nat))),
 ((!stripF lowI (stripF lowI l) == stripF lowI l : Bool)) = (false),
 ((IntKind.i64.min : Int) ≤ ((↑(leadN lowI l) : Int) + (↑(stripF lowI l).length : Int))),
 (((↑(leadN lowI l) : Int) + (↑(stripF lowI l).length : Int) : Int) ≤ (IntKind.i64.max)),
 (((↑(leadN lowI l) : Int) + (↑(stripF lowI l).length : Int) : Int)) = ((↑(l.length - trailN lowI l) : Int)),
 ((lbody Try.prog (6 : FuncId) (11 : Nat) : Go.Code)) = (lbody Try.prog (6 : FuncId) (11 : Nat)),
 ((teT l (stripF lowI l) (leadN lowI l) (l.length - trailN lowI l) : Go.Proofs.Yteadhhmbhgkojaa.St)) = (teT l (stripF lowI l) (leadN lowI l) (l.length - trailN lowI l)),
 ((l.length : Nat) ≤ ((1000000 : Nat))),
 (((↑(stripF lowI l).length : Int) == (0 : Int) : Bool)) = (false),
 (((0 : Int) : Int) ≤ ((0 : Int))),
 (((0 : Int) : Int) < ((↑(stripF lowI l).length : Int))),
 ((decide ((↑((stripF lowI l).getD (Int.toNat (0 : Int)) (0 : UInt8)).toNat : Int) > (32 : Int)) : Bool)) = (true),
 ((IntKind.i64.min : Int) ≤ ((↑(stripF lowI l).length : Int) - (1 : Int))),
 (((↑(stripF lowI l).length : Int) - (1 : Int) : Int) ≤ (IntKind.i64.max)),
 (((0 : Int) : Int) ≤ ((↑(stripF lowI l).length : Int) - (1 : Int))),
 (((↑(stripF lowI l).length : Int) - (1 : Int) : Int) < ((↑(stripF lowI l).length : Int))),
 ((decide
  ((↑((stripF lowI l).getD ((↑(stripF lowI l).length : Int) - (1 : Int)).toNat (0 : UInt8)).toNat : Int) > (32 : Int)) : Bool)) = (true),
 (((stripF blankI l).length : Nat) ≤ ((1000000 : Nat))),
 ((stripF lowI (stripF blankI l) == stripF lowI l : Bool)) = (true),
 (((stripF blankI l).length : Nat) ≤ ((1000000 : Nat))),
 ((stripF blankI (stripF blankI l) == stripF blankI l : Bool)) = (true),
 ((decide ((↑(stripF lowI l).length : Int) ≤ (↑(stripF blankI l).length : Int)) : Bool)) = (true)]) := by kernel_rfl

theorem ends_walk (a0 : ByteArray) (_ : a0.size ≤ maxLen) (w : World) :
    Calls Try.prog 6 #[.string a0] w fun e w' => e = .returned (.bool true) ∧ Below w.heap.size w w' := by
  obtain ⟨⟨l⟩⟩ := a0
  refine law_conc mixed cl5_ok [str l] ?_
  by_cases h : (1000 : Int) < l.length
  · refine ⟨_, _, _, _, lpBy_nil, teAll1 l, ?_⟩
    simp only [allP, and_true, true_and, decide_eq_true_eq, decide_eq_false_iff_not]
    omega
  · have h1 := lead_le lowI l
    have h2 := trail_le lowI l
    have en : (stripF lowI l).length = l.length - trailN lowI l - leadN lowI l := by unfold stripF; simp
    have ub : (stripF blankI l).length ≤ l.length := strip_len blankI l
    have le := strip_len lowI (stripF blankI l)
    rw [strip_blank] at le
    have to : ((leadN lowI l : Int) + ((stripF lowI l).length : Int)).toNat = l.length - trailN lowI l := by omega
    have cut : (l.take (l.length - trailN lowI l)).drop (leadN lowI l) = stripF lowI l := rfl
    have hl : l.length ≤ 1000000 := by omega
    have lps := lpBy_cons (k := 6) (lpBy_cons (k := 11) lpBy_nil (L := ⟨lbody Try.prog 6 11, ⟨[], [0, 3, 4, 5, 6], []⟩, teT l (stripF lowI l) (leadN lowI l) (l.length - trailN lowI l), .exit 2, teT l (stripF lowI l) (leadN lowI l) l.length⟩) List.nodup_nil (te_loop2 l (stripF lowI l) (leadN lowI l) hl)) (L := ⟨lbody Try.prog 6 6, ⟨[], [0, 3, 4, 5], []⟩, teS l (stripF lowI l) 0, .exit 0, teS l (stripF lowI l) (leadN lowI l)⟩) List.nodup_nil (te_loop1 l (stripF lowI l) hl)
    obtain ⟨_, _, _, hs⟩ := strip_split lowI l
    by_cases hne : stripF lowI l = []
    · have h0 : (stripF lowI l).length = 0 := by rw [hne]; rfl
      refine ⟨_, _, _, _, lps, teAll2 l, ?_⟩
      simp only [allP, and_true, true_and, decide_eq_true_eq, decide_eq_false_iff_not, beq_iff_eq, i64_min, i64_max, to, cut, strip_twice, strip_blank, beq_self_eq_true, Bool.not_true]
      repeat' apply And.intro
      all_goals first | omega | rfl
    · have hpos : 0 < (stripF lowI l).length := List.length_pos_iff.2 hne
      obtain ⟨e1, e2⟩ := hs.resolve_left hne
      have lst : (((stripF lowI l).length : Int) - 1).toNat = (stripF lowI l).length - 1 := by omega
      have fst : Int.toNat 0 = 0 := rfl
      refine ⟨_, _, _, _, lps, teAll3 l, ?_⟩
      simp only [allP, and_true, true_and, decide_eq_true_eq, decide_eq_false_iff_not, beq_iff_eq, beq_eq_false_iff_ne, ne_eq, i64_min, i64_max, to, cut, strip_twice, strip_blank, beq_self_eq_true, Bool.not_true, lst, fst]
      simp only [lowI, decide_eq_false_iff_not] at e1 e2
      repeat' apply And.intro
      all_goals first | omega | rfl

end Go.Proofs.Yteadhhmbhgkojaa
