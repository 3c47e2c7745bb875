/- Small letters. -/
import Derived.Test.YtljgmgbjfjhjmaaDig
namespace Go.Proofs.Ytljgmgbjfjhjmaa
open Go.RowKit
set_option linter.unusedVariables false
set_option linter.unusedSimpArgs false

/-- A letter made small. -/
def lowB (c : UInt8) : UInt8 := if 65 ≤ c.toNat ∧ c.toNat ≤ 90 then UInt8.ofNat (c.toNat + 32) else c

theorem lowB_cases (x : UInt8) : (largeI ((x.toNat : Nat) : Int) = true ∧ 65 ≤ x.toNat ∧ x.toNat ≤ 90 ∧ (lowB x).toNat = x.toNat + 32) ∨ (largeI ((x.toNat : Nat) : Int) = false ∧ lowB x = x) := by
  revert x
  refine byte_all ?_
  decide +kernel

def lowM (l : List UInt8) (i : Nat) : List UInt8 := (l.take i).map lowB ++ l.drop i
theorem lowM_len (l : List UInt8) (i : Nat) (h : i ≤ l.length) : (lowM l i).length = l.length := by simp [lowM]; omega
theorem lowM_get (l : List UInt8) (i : Nat) (h : i < l.length) : (lowM l i).getD i 0 = l.getD i 0 := by
  unfold lowM
  rw [drop_cons l i h]
  have h1 : ((l.take i).map lowB).length = i := by simp; omega
  simp only [List.getD]
  rw [List.getElem?_append_right (by omega), h1]
  simp
theorem lowM_succ (l : List UInt8) (i : Nat) (h : i < l.length) : lowM l (i + 1) = (lowM l i).set i (lowB (l.getD i 0)) := by
  unfold lowM
  rw [take_succ_getD l i 0 h, drop_cons l i h]
  have h1 : ((l.take i).map lowB).length = i := by simp; omega
  rw [List.set_append_right _ _ (by omega), h1]
  simp
theorem lowM_same (l : List UInt8) (i : Nat) (h : i < l.length) (hx : lowB (l.getD i 0) = l.getD i 0) : lowM l (i + 1) = lowM l i := by
  rw [lowM_succ l i h, hx, ← lowM_get l i h]
  have hl : i < (lowM l i).length := by rw [lowM_len l i (by omega)]; exact h
  simp [List.getD, hl]
theorem lowM_end (l : List UInt8) : lowM l l.length = l.map lowB := by simp [lowM]

noncomputable def clLw : CallT := aCall Try.prog (sgBy [(33, (byteSpec fun n => .bool (largeI n)))]) 500 8
theorem clLw_ok : CallOK Try.prog clLw := aCall_ok mixed (sgBy_cons large_ok sgBy_nil) 500 8

def lwS (n i : Nat) (M : List UInt8) : St := ⟨frame 26 [(3, .sl 0 0 n), (8, .sl 0 0 n), (9, .c (.int .i64 n)), (10, .c (.int .i64 i))], [some ⟨5, false, byts M⟩]⟩

theorem lwA_all (n i : Nat) (M : List UInt8) (x y : UInt8) (hi : i < n) (hat : avEq (((byts M).drop i).headD .any) (byteC x)) (h1 : 65 ≤ x.toNat) (h2 : x.toNat ≤ 90) (hy : y.toNat = x.toNat + 32) (hL : largeI ((x.toNat : Nat) : Int) = true) (hst : (byts M).take i ++ [byteC y] ++ (byts M).drop (i + 1) = byts (M.set i y)) (hn : n ≤ 1000000000) (hM : (byts M).length = n) (hx : x.toNat < 256) : Round Ext0 Try.prog clLw (lbody Try.prog 14 3) (lwS n i M) (.normal) (lwS n (i + 1) (M.set i y)) := by
  refine ⟨⟨true, (bs [(11, true), (16, true)] ++ [(14, ⟨byteC x, none⟩)] ++ [(21, ⟨byteC y, none⟩), (100022, ⟨.any, some (byts (M.set i y))⟩)])⟩, _, 60, ⟨[], [3, 8, 9, 10], [0]⟩, [decide ((↑i : Int) < ↑n) = true,
 (0 : Int) ≤ ↑i,
 (↑i : Int) < ↑n,
 (((0 : Nat) : Nat) < ((List.drop (i + (0 : Nat)) (byts M)).length)),
 avEq ((List.drop (i + (0 : Nat)) (byts M)).headD AV.any) ((AV.c ((Value.int .u8 ((↑x.toNat : Int)))))),
 (((0 : Int) : Int) ≤ ((↑x.toNat : Int))),
 (((↑x.toNat : Int) : Int) < ((256 : Int))),
 (largeI (↑x.toNat : Int)) = true,
 ((IntKind.u8.min : Int) ≤ ((↑x.toNat : Int) - (65 : Int))),
 (((↑x.toNat : Int) - (65 : Int) : Int) ≤ (IntKind.u8.max)),
 ((IntKind.u8.min : Int) ≤ ((↑x.toNat : Int) - (65 : Int) + (97 : Int))),
 (((↑x.toNat : Int) - (65 : Int) + (97 : Int) : Int) ≤ (IntKind.u8.max)),
 (((↑x.toNat : Int) - (65 : Int) + (97 : Int) : Int)) = ((↑y.toNat : Int)),
 (0 : Int) ≤ ↑i,
 (↑i : Int) < ↑n,
 ((i + (0 : Nat) + (1 : Nat) : Nat) ≤ ((byts M).length)),
 avEq (AV.any) (AV.any),
 ((List.take (i + (0 : Nat)) (byts M) ++ [AV.c (Value.int IntKind.u8 (↑y.toNat : Int))] ++ List.drop (i + (0 : Nat) + (1 : Nat)) (byts M) : List AV)) = (byts (M.set i y)),
 (IntKind.i64.min : Int) ≤ ↑i + 1,
 (↑i + 1 : Int) ≤ IntKind.i64.max], lpBy_nil, by decide, by kernel_rfl, ?_⟩
  all_goals try simp (disch := omega) only [std, List.length_drop, hM, Nat.add_zero]
  all_goals repeat' apply And.intro
  all_goals first | exact True.intro | omega | with_reducible rfl | with_reducible assumption | exact avEq_refl _ | exact hst | exact hat | exact hy | exact hL | exact hst | exact hM | rfl


theorem lwB_all (n i : Nat) (M : List UInt8) (x y : UInt8) (hi : i < n) (hat : avEq (((byts M).drop i).headD .any) (byteC x)) (hL : largeI ((x.toNat : Nat) : Int) = false) (hn : n ≤ 1000000000) (hM : (byts M).length = n) (hx : x.toNat < 256) : Round Ext0 Try.prog clLw (lbody Try.prog 14 3) (lwS n i M) (.normal) (lwS n (i + 1) M) := by
  refine ⟨⟨true, (bs [(11, true), (16, false)] ++ [(14, ⟨byteC x, none⟩)] ++ [])⟩, _, 60, ⟨[], [3, 8, 9, 10], [0]⟩, [decide ((↑i : Int) < ↑n) = true,
 (0 : Int) ≤ ↑i,
 (↑i : Int) < ↑n,
 (((0 : Nat) : Nat) < ((List.drop (i + (0 : Nat)) (byts M)).length)),
 avEq ((List.drop (i + (0 : Nat)) (byts M)).headD AV.any) ((AV.c ((Value.int .u8 ((↑x.toNat : Int)))))),
 (((0 : Int) : Int) ≤ ((↑x.toNat : Int))),
 (((↑x.toNat : Int) : Int) < ((256 : Int))),
 (largeI (↑x.toNat : Int)) = false,
 (IntKind.i64.min : Int) ≤ ↑i + 1,
 (↑i + 1 : Int) ≤ IntKind.i64.max], lpBy_nil, by decide, by kernel_rfl, ?_⟩
  all_goals try simp (disch := omega) only [std, List.length_drop, hM, Nat.add_zero]
  all_goals repeat' apply And.intro
  all_goals first | exact True.intro | omega | with_reducible rfl | with_reducible assumption | exact avEq_refl _ | exact hst | exact hat | exact hL | exact hM | rfl


theorem lwZ_all (n i : Nat) (M : List UInt8) (x y : UInt8) (hi : i = n) (hn : n ≤ 1000000000) (hM : (byts M).length = n) (hx : x.toNat < 256) : Round Ext0 Try.prog clLw (lbody Try.prog 14 3) (lwS n i M) (.exit 0) (lwS n i M) := by
  refine ⟨⟨true, (bs [(11, false)] ++ [(14, ⟨byteC x, none⟩)] ++ [])⟩, _, 60, ⟨[], [3, 8, 9, 10], [0]⟩, [decide ((↑i : Int) < ↑n) = false], lpBy_nil, by decide, by kernel_rfl, ?_⟩
  all_goals try simp (disch := omega) only [std, List.length_drop, hM, Nat.add_zero]
  all_goals repeat' apply And.intro
  all_goals first | exact True.intro | omega | with_reducible rfl | with_reducible assumption | exact avEq_refl _ | exact hst | exact hi | exact hM | rfl

theorem lw_walk (l : List UInt8) (hl : l.length ≤ 1000000000) : Tri Ext0 Try.prog (.loop (lbody Try.prog 14 3)) (lwS l.length 0 l) (.exit 0) (lwS l.length l.length (l.map lowB)) := by
  have h := loop_up mixed clLw_ok (b := lbody Try.prog 14 3) (fun i => lwS l.length i (lowM l i)) l.length (e := .exit 0) (R := lwS l.length l.length (l.map lowB)) (by simp) (fun i hi => by
    have hlen : (byts (lowM l i)).length = l.length := by rw [byts_length]; exact lowM_len l i (by omega)
    have hat : avEq (((byts (lowM l i)).drop i).headD .any) (byteC (l.getD i 0)) := by rw [byts_headD _ i (by rw [lowM_len l i (by omega)]; exact hi), lowM_get l i hi]; exact avEq_refl _
    rcases lowB_cases (l.getD i 0) with ⟨hL, h1, h2, hy⟩ | ⟨hL, hy⟩
    · rw [lowM_succ l i hi]
      exact lwA_all l.length i _ _ _ hi hat h1 h2 hy hL (byts_set _ i _ (by rw [lowM_len l i (by omega)]; exact hi)) hl hlen (UInt8.toNat_lt _)
    · rw [lowM_same l i hi hy]
      exact lwB_all l.length i _ _ 0 hi hat hL hl hlen (UInt8.toNat_lt _)) (by
    rw [lowM_end]
    exact lwZ_all l.length l.length _ 0 0 rfl hl (by simp [byts_length]) (by decide)) 0 (Nat.zero_le _)
  exact h

noncomputable def lwLp (l : List UInt8) : List (Nat × Lp) := [(3, ⟨lbody Try.prog 14 3, ⟨[], [3, 8, 9, 10], [0]⟩, lwS l.length 0 l, .exit 0, lwS l.length l.length (l.map lowB)⟩)]

theorem lwm_all (l : List UInt8) (hl : l.length ≤ 1000000000) : ∃ (h : Hints) (p : List Prop), outcome Try.prog 14 (aBody Try.prog clLw h (lpBy (lwLp l)) 60 14 ([.c (str l)]) ([])) = some (.c (str (l.map lowB)), p) ∧ allP p := by
  refine ⟨⟨true, ([(25, ⟨.c (str (l.map lowB)), none⟩)])⟩, [((l.length : Nat) ≤ ((140737488355328 : Nat))),
 ((lbody Try.prog (14 : FuncId) (3 : Nat) : Go.Code)) = (lbody Try.prog (14 : FuncId) (3 : Nat)),
 ((lwS l.length (0 : Nat) l : Go.Proofs.Ytljgmgbjfjhjmaa.St)) = (lwS l.length (0 : Nat) l),
 ((l.length + (0 : Nat) : Nat) ≤ ((byts (List.map lowB l)).length)),
 bytesOK (List.take l.length (List.drop (0 : Nat) (byts (List.map lowB l)))),
 ((unbyts (List.take l.length (List.drop (0 : Nat) (byts (List.map lowB l)))) : List UInt8)) = (List.map lowB l)], by kernel_rfl, ?_⟩
  all_goals try simp (disch := omega) only [std, byts_length, List.length_map, byts_take, byts_drop, unbyts_byts]
  all_goals repeat' apply And.intro
  all_goals first | exact True.intro | omega | with_reducible rfl | with_reducible assumption | exact bytesOK_byts _ | (rw [List.take_of_length_le (by simp)]; done) | (rw [List.take_of_length_le (by simp)]; exact bytesOK_byts _) | rfl

def lowSpec : Spec
  | [.c (.string s)] => some (.c (str ((sb s).map lowB)), [(sb s).length ≤ 1000000000])
  | _ => none

theorem lower_ok : SpecOK Try.prog 14 lowSpec := by
  refine spec_of mixed clLw_ok fun args r q hs hq => ?_
  unfold lowSpec at hs
  split at hs
  · rename_i l
    simp only [Option.some.injEq, Prod.mk.injEq] at hs
    obtain ⟨rfl, rfl⟩ := hs
    obtain ⟨⟨⟨l⟩⟩, rfl⟩ : ∃ b : ByteArray, b = l := ⟨l, rfl⟩
    simp only [sb_mk, allP, and_true] at hq ⊢
    obtain ⟨hh, q, e, hp⟩ := lwm_all l hq
    exact ⟨_, _, _, _, lpBy_cons lpBy_nil (by simp) (lw_walk l hq), e, hp⟩
  · simp at hs

end Go.Proofs.Ytljgmgbjfjhjmaa
