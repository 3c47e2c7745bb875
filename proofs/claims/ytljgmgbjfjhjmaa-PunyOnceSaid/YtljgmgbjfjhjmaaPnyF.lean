/- Signs as letters: the document's own least sign. -/
import Derived.Test.YtljgmgbjfjhjmaaPnyE
namespace Go.Proofs.Ytljgmgbjfjhjmaa
open Go.RowKit Pny
set_option linter.unusedVariables false
set_option linter.unusedSimpArgs false

def nats (L : List Nat) : List AV := L.map fun n => .c (.int .i64 (n : Nat))
def unnats (l : List AV) : List Nat := l.map fun x => match x with
  | .c (.int .i64 n) => n.toNat
  | _ => 0

theorem nats_length (L : List Nat) : (nats L).length = L.length := by simp [nats]

theorem unnats_nats (L : List Nat) : unnats (nats L) = L := by
  unfold unnats nats
  rw [List.map_map]
  conv => rhs; rw [← List.map_id L]
  apply List.map_congr_left
  intro n _
  rfl

theorem nats_at (L : List Nat) (i : Nat) (h : i < L.length) : ((nats L).drop i).headD .any = .c (.int .i64 (L.getD i 0 : Nat)) := by
  unfold nats
  rw [← List.map_drop, List.drop_eq_getElem_cons h]
  simp [List.getD, h]

def rlS (L : List Nat) (c m i : Nat) : St := ⟨frame 26 [(0, .fs 1 L.length (nats L)), (1, .c (.int .i64 c)), (5, .c (.int .i64 m)), (6, .c (.int .i64 i))], []⟩

theorem rlA_all (L : List Nat) (c m x m1 i : Nat) (hi : i < L.length) (hat : avEq (((nats L).drop i).headD .any) (.c (.int .i64 x))) (hx : c ≤ x) (hm : min m x = m1) (hl : L.length ≤ 1000) (hnl : (nats L).length = L.length) : Round Ext0 Try.prog cl0 (lbody Try.prog 26 3) (rlS L c m i) (.normal) (rlS L c m1 (i + 1)) := by
  refine ⟨⟨true, (bs [(10, true), (18, true)] ++ [(16, ⟨.c (.int .i64 x), none⟩), (23, ⟨.c (.int .i64 x), none⟩), (24, ⟨.c (.int .i64 m1), none⟩)])⟩, _, 60, ⟨[], [0, 1, 5, 6], []⟩, [decide ((↑i : Int) < ↑L.length) = true,
 (0 : Int) ≤ ↑i,
 (↑i : Int) < ↑L.length,
 (((0 : Nat) : Nat) < ((List.drop i (nats L)).length)),
 avEq ((List.drop i (nats L)).headD AV.any) ((AV.c ((Value.int .i64 ((↑x : Int)))))),
 decide ((↑x : Int) ≥ ↑c) = true,
 (0 : Int) ≤ ↑i,
 (↑i : Int) < ↑L.length,
 (((0 : Nat) : Nat) < ((List.drop i (nats L)).length)),
 avEq ((List.drop i (nats L)).headD AV.any) ((AV.c ((Value.int .i64 ((↑x : Int)))))),
 ((if (↑x : Int) < (↑m : Int) then (↑x : Int) else (↑m : Int) : Int)) = ((↑m1 : Int)),
 (IntKind.i64.min : Int) ≤ ↑i + 1,
 (↑i + 1 : Int) ≤ IntKind.i64.max], lpBy_nil, by decide, by kernel_rfl, ?_⟩
  all_goals try simp (disch := omega) only [std, List.length_drop, hnl]
  all_goals repeat' apply And.intro
  all_goals first | exact True.intro | omega | with_reducible rfl | with_reducible assumption | (split <;> omega) | exact hat | exact hm | exact hnl | rfl


theorem rlB_all (L : List Nat) (c m x m1 i : Nat) (hi : i < L.length) (hat : avEq (((nats L).drop i).headD .any) (.c (.int .i64 x))) (hx : ¬ c ≤ x) (hl : L.length ≤ 1000) (hnl : (nats L).length = L.length) : Round Ext0 Try.prog cl0 (lbody Try.prog 26 3) (rlS L c m i) (.normal) (rlS L c m (i + 1)) := by
  refine ⟨⟨true, (bs [(10, true), (18, false)] ++ [(16, ⟨.c (.int .i64 x), none⟩), (23, ⟨.c (.int .i64 x), none⟩), (24, ⟨.c (.int .i64 m1), none⟩)])⟩, _, 60, ⟨[], [0, 1, 5, 6], []⟩, [decide ((↑i : Int) < ↑L.length) = true,
 (0 : Int) ≤ ↑i,
 (↑i : Int) < ↑L.length,
 (((0 : Nat) : Nat) < ((List.drop i (nats L)).length)),
 avEq ((List.drop i (nats L)).headD AV.any) ((AV.c ((Value.int .i64 ((↑x : Int)))))),
 decide ((↑x : Int) ≥ ↑c) = false,
 (IntKind.i64.min : Int) ≤ ↑i + 1,
 (↑i + 1 : Int) ≤ IntKind.i64.max], lpBy_nil, by decide, by kernel_rfl, ?_⟩
  all_goals try simp (disch := omega) only [std, List.length_drop, hnl]
  all_goals repeat' apply And.intro
  all_goals first | exact True.intro | omega | with_reducible rfl | with_reducible assumption | (split <;> omega) | exact hat | exact hnl | rfl


theorem rlZ_all (L : List Nat) (c m x m1 i : Nat) (hi : i = L.length) (hl : L.length ≤ 1000) (hnl : (nats L).length = L.length) : Round Ext0 Try.prog cl0 (lbody Try.prog 26 3) (rlS L c m i) (.exit 0) (rlS L c m i) := by
  refine ⟨⟨true, (bs [(10, false)] ++ [(16, ⟨.c (.int .i64 x), none⟩), (23, ⟨.c (.int .i64 x), none⟩), (24, ⟨.c (.int .i64 m1), none⟩)])⟩, _, 60, ⟨[], [0, 1, 5, 6], []⟩, [decide ((↑i : Int) < ↑L.length) = false], lpBy_nil, by decide, by kernel_rfl, ?_⟩
  all_goals try simp (disch := omega) only [std, List.length_drop, hnl]
  all_goals repeat' apply And.intro
  all_goals first | exact True.intro | omega | with_reducible rfl | with_reducible assumption | (split <;> omega) | exact hi | exact hnl | rfl

theorem least_snoc (l : List Nat) (c i : Nat) (h : i < l.length) : leastN (l.take (i + 1)) c = if c ≤ l.getD i 0 then min (leastN (l.take i) c) (l.getD i 0) else leastN (l.take i) c := by
  have e : l.take (i + 1) = l.take i ++ [l.getD i 0] := by
    rw [List.take_succ_eq_append_getElem h]
    simp [List.getD, h]
  rw [e]
  unfold leastN
  rw [List.foldl_append]
  rfl

theorem rl_walk (L : List Nat) (c : Nat) (hl : L.length ≤ 1000) : Tri Ext0 Try.prog (.loop (lbody Try.prog 26 3)) (rlS L c 1114112 0) (.exit 0) (rlS L c (leastN L c) L.length) := by
  have h := loop_up mixed cl0_ok (b := lbody Try.prog 26 3) (fun i => rlS L c (leastN (L.take i) c) i) L.length (e := .exit 0) (R := rlS L c (leastN L c) L.length) (by simp) (fun i hi => by
    have ha : avEq (((nats L).drop i).headD .any) (.c (.int .i64 (L.getD i 0 : Nat))) := by rw [nats_at L i hi]; exact avEq_refl _
    rw [least_snoc L c i hi]
    by_cases hc : c ≤ L.getD i 0
    · rw [if_pos hc]
      exact rlA_all L c _ _ _ i hi ha hc rfl hl (nats_length L)
    · rw [if_neg hc]
      exact rlB_all L c _ _ 0 i hi ha hc hl (nats_length L)) (by
    rw [List.take_length]
    exact rlZ_all L c _ 0 0 L.length rfl hl (nats_length L)) 0 (Nat.zero_le _)
  exact h

noncomputable def rlLp (L : List Nat) (c : Nat) : List (Nat × Lp) := [(3, ⟨lbody Try.prog 26 3, ⟨[], [0, 1, 5, 6], []⟩, rlS L c 1114112 0, .exit 0, rlS L c (leastN L c) L.length⟩)]

noncomputable def rlm_X (L : List Nat) (c : Nat) (h_ : List (Nat × Bool)) := outcome Try.prog 26 (aBody Try.prog cl0 ⟨true, bs h_ ++ ([])⟩ (lpBy (rlLp L c)) 60 26 ([.fs 1 L.length (nats L), .c (.int .i64 c)]) ([]))

theorem rlm_1 (L : List Nat) (c : Nat) : rlm_X L c [] = some ((AV.c ((Value.int .i64 ((↑(leastN L c) : Int))))), [((lbody Try.prog (26 : FuncId) (3 : Nat) : Go.Code)) = (lbody Try.prog (26 : FuncId) (3 : Nat)),
 ((rlS L c (1114112 : Nat) (0 : Nat) : Go.Proofs.Ytljgmgbjfjhjmaa.St)) = (rlS L c (1114112 : Nat) (0 : Nat))]) := by kernel_rfl

theorem rlm_all (L : List Nat) (c : Nat)  : ∃ (h : Hints) (p : List Prop), outcome Try.prog 26 (aBody Try.prog cl0 h (lpBy (rlLp L c)) 60 26 ([.fs 1 L.length (nats L), .c (.int .i64 c)]) ([])) = some (.c (.int .i64 (leastN L c)), p) ∧ allP p := by
  have eR := rlm_1 L c
  refine ⟨_, _, eR.trans (congrArg (fun r => some (r, _)) ?_), ?_⟩
  · rfl
  · try simp only [dz] at *
    try simp (disch := omega) only [std, bytesOK_cons, bytesOK_nil]
    repeat' apply And.intro
    all_goals first | exact True.intro | omega | assumption | rfl | exact avEq_refl _

def leastSpec : Spec
  | [.fs s n l, .c (.int .i64 c)] => some (.c (.int .i64 (leastN (unnats l) c.toNat)), [s = 1, l = nats (unnats l), n = (unnats l).length, n ≤ 1000, 0 ≤ c])
  | _ => none

theorem rleast_ok : SpecOK Try.prog 26 leastSpec := by
  refine spec_of mixed cl0_ok fun args r q hs hq => ?_
  unfold leastSpec at hs
  split at hs
  · rename_i s n l c
    simp only [Option.some.injEq, Prod.mk.injEq] at hs
    obtain ⟨rfl, rfl⟩ := hs
    obtain ⟨rfl, h2, h3, h4, h5, _⟩ := hq
    obtain ⟨c, rfl⟩ : ∃ k : Nat, c = (k : Int) := ⟨c.toNat, by omega⟩
    rw [Int.toNat_natCast]
    generalize unnats l = L at *
    subst h2 h3
    obtain ⟨hh, p, e, hp⟩ := rlm_all L c
    exact ⟨_, _, _, _, lpBy_cons lpBy_nil List.nodup_nil (rl_walk L c h4), e, hp⟩
  · simp at hs

end Go.Proofs.Ytljgmgbjfjhjmaa
