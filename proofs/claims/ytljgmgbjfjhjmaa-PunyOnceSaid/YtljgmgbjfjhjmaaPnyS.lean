/- Signs as letters: the program's first signs, and the places in their order. -/
import Derived.Test.YtljgmgbjfjhjmaaPnyR
import Derived.Test.YtljgmgbjfjhjmaaSrtH
namespace Go.Proofs.Ytljgmgbjfjhjmaa
open Go.RowKit Pny Srt
set_option linter.unusedVariables false
set_option linter.unusedSimpArgs false

/-! The first signs. -/
def fiC (l : List UInt8) (cut i : Nat) : St := ⟨frame 36 [(0, .c (str l)), (5, .c (.int .i64 cut)), (6, .sl 0 0 i), (7, .c (.int .i64 i))], [some ⟨3, false, nats ((l.take i).map UInt8.toNat)⟩]⟩
def fiD (l : List UInt8) (cut : Nat) (out : List Nat) : St := ⟨frame 36 [(0, .c (str l)), (5, .c (.int .i64 cut)), (6, .sl 0 0 out.length)], [some ⟨3, false, nats out⟩]⟩
def fiN : St := ⟨frame 36 [(2, .sl 0 0 0), (3, .c (str [])), (4, .c (.bool false))], [some ⟨3, false, []⟩]⟩

theorem ficA_all (l : List UInt8) (cut i : Nat) (hi : i < cut) (hc : ¬ (((l.getD i 0).toNat : Nat) : Int) ≥ 128) (ht : List.take i (nats ((l.take i).map UInt8.toNat)) ++ [.c (.int .i64 ((l.getD i 0).toNat : Nat))] = nats ((l.take (i + 1)).map UInt8.toNat)) (hl : l.length ≤ 100000) (hcl : cut ≤ l.length) (hw : IntKind.i64.wrap ((l.getD i 0).toNat : Nat) = ((l.getD i 0).toNat : Nat)) (hnl : (nats ((l.take i).map UInt8.toNat)).length = i) : Round Ext0 Try.prog cl0 (lbody Try.prog 29 8) (fiC l cut i) (.normal) (fiC l cut (i + 1)) := by
  refine ⟨⟨true, (bs [(17, true), (23, false)] ++ [(30, ⟨.sl 2 0 (i + 1), some (nats ((l.take (i + 1)).map UInt8.toNat))⟩)])⟩, _, 60, ⟨[], [0, 5, 6, 7], [2]⟩, [decide ((↑i : Int) < ↑cut) = true,
 (0 : Int) ≤ ↑i,
 (↑i : Int) < ↑l.length,
 (decide ((↑(l.getD i 0).toNat : Int) ≥ (128 : Int))) = false,
 (0 : Int) ≤ ↑i,
 (↑i : Int) < ↑l.length,
 (((1 : Nat) : Nat) ≤ ((1 : Nat))),
 (((i + (1 : Nat)) * (8 : Nat) : Nat) ≤ ((140737488355328 : Nat))),
 ((i + (1 : Nat) : Nat) ≤ ((4611686018427387904 : Nat))),
 ((i : Nat) ≤ ((nats (List.map UInt8.toNat (List.take i l))).length)),
 avEq ((AV.sl 2 0 (i + (1 : Nat)))) ((AV.sl 2 0 (i + (1 : Nat)))),
 ((List.take i (nats (List.map UInt8.toNat (List.take i l))) ++ List.take (1 : Nat) (List.drop (0 : Nat) ([AV.c (Value.int IntKind.i64 (IntKind.i64.wrap (↑(l.getD i 0).toNat : Int)))] ++ [])) : List AV)) = (nats (List.map UInt8.toNat (List.take (i + (1 : Nat)) l))),
 (IntKind.i64.min : Int) ≤ ↑i + 1,
 (↑i + 1 : Int) ≤ IntKind.i64.max], lpBy_nil, by decide, Eq.trans (b := some ((.normal : Exit), ⟨frame 36 [(0, (AV.c ((str (l))))), (5, (AV.c ((Value.int .i64 ((↑cut : Int)))))), (6, (AV.sl 0 0 (i + (1 : Nat)))), (7, (AV.c ((Value.int .i64 ((↑i : Int) + (1 : Int))))))], [(.some ⟨3, false, (nats (List.map UInt8.toNat (List.take (i + (1 : Nat)) l)))⟩)]⟩, _)) (by kernel_rfl) (congrArg (fun S : St => some ((.normal : Exit), S, _)) ?_), ?_⟩
  any_goals (
    rfl
    done)
  all_goals try simp (disch := omega) only [std, hw, hnl]
  all_goals repeat' apply And.intro
  all_goals first | exact True.intro | omega | with_reducible rfl | with_reducible assumption | exact ht | exact hw | exact hnl | rfl


theorem ficB_all (l : List UInt8) (cut i : Nat) (hi : i < cut) (hc : (((l.getD i 0).toNat : Nat) : Int) ≥ 128) (hl : l.length ≤ 100000) (hcl : cut ≤ l.length) (hw : IntKind.i64.wrap ((l.getD i 0).toNat : Nat) = ((l.getD i 0).toNat : Nat)) (hnl : (nats ((l.take i).map UInt8.toNat)).length = i) : Round Ext0 Try.prog cl0 (lbody Try.prog 29 8) (fiC l cut i) (.ret) (fiN) := by
  refine ⟨⟨true, (bs [(17, true), (23, true)] ++ [])⟩, _, 60, ⟨[(2, 3)], [2, 3, 4], [1]⟩, [decide ((↑i : Int) < ↑cut) = true,
 (0 : Int) ≤ ↑i,
 (↑i : Int) < ↑l.length,
 (decide ((↑(l.getD i 0).toNat : Int) ≥ (128 : Int))) = true], lpBy_nil, by decide, Eq.trans (b := some ((.ret : Exit), ⟨frame 36 [(2, (AV.sl 0 0 0)), (3, (AV.c ((str ([]))))), (4, (AV.c ((Value.bool false))))], [(.some ⟨3, false, []⟩)]⟩, _)) (by kernel_rfl) (congrArg (fun S : St => some ((.ret : Exit), S, _)) ?_), ?_⟩
  any_goals (
    rfl
    done)
  all_goals try simp (disch := omega) only [std, hw, hnl]
  all_goals repeat' apply And.intro
  all_goals first | exact True.intro | omega | with_reducible rfl | with_reducible assumption | exact hw | exact hnl | rfl


theorem ficZ_all (l : List UInt8) (cut i : Nat) (hi : i = cut) (hn2 : (List.map UInt8.toNat (List.take i l)).length = i) (hl : l.length ≤ 100000) (hcl : cut ≤ l.length) (hw : IntKind.i64.wrap ((l.getD i 0).toNat : Nat) = ((l.getD i 0).toNat : Nat)) (hnl : (nats ((l.take i).map UInt8.toNat)).length = i) : Round Ext0 Try.prog cl0 (lbody Try.prog 29 8) (fiC l cut i) (.exit 0) (fiD l cut (List.map UInt8.toNat (List.take i l))) := by
  refine ⟨⟨true, (bs [(17, false)] ++ [])⟩, _, 60, ⟨[], [0, 5, 6], [0]⟩, [decide ((↑i : Int) < ↑cut) = false], lpBy_nil, by decide, Eq.trans (b := some ((.exit 0 : Exit), ⟨frame 36 [(0, (AV.c ((str (l))))), (5, (AV.c ((Value.int .i64 ((↑cut : Int)))))), (6, (AV.sl 0 0 i))], [(.some ⟨3, false, (nats (List.map UInt8.toNat (List.take i l)))⟩)]⟩, _)) (by kernel_rfl) (congrArg (fun S : St => some ((.exit 0 : Exit), S, _)) ?_), ?_⟩
  any_goals (
    (unfold fiD; rw [hn2])
    done)
  all_goals try simp (disch := omega) only [std, hw, hnl]
  all_goals repeat' apply And.intro
  all_goals first | exact True.intro | omega | with_reducible rfl | with_reducible assumption | exact hi | exact hn2 | exact hw | exact hnl | rfl

theorem fic_walk (l : List UInt8) (cut : Nat) (hl : l.length ≤ 100000) (hc : cut ≤ l.length) : Tri Ext0 Try.prog (.loop (lbody Try.prog 29 8)) (fiC l cut 0) (if loB l cut = true then .exit 0 else .ret) (if loB l cut = true then fiD l cut ((l.take cut).map UInt8.toNat) else fiN) := by
  have hw : ∀ i, IntKind.i64.wrap ((l.getD i 0).toNat : Nat) = ((l.getD i 0).toNat : Nat) := fun i => by
    have := (l.getD i 0).toNat_lt
    exact i64_wrap (by omega) (by omega)
  have hnl : ∀ i, i ≤ cut → (nats ((l.take i).map UInt8.toNat)).length = i := fun i hi => by
    simp only [nats_length, List.length_map, List.length_take]; omega
  refine loop_inv mixed cl0_ok (fun i => fiC l cut i) (fun i => i ≤ cut ∧ ∀ j, j < i → (l.getD j 0).toNat < 128) (fun i => cut - i) (fun i hx => ?_) 0 ⟨Nat.zero_le _, fun j hj => absurd hj (Nat.not_lt_zero _)⟩
  obtain ⟨h1, h2⟩ := hx
  by_cases hi : i < cut
  · have ht := take_cells l i (by omega)
    by_cases hb : (((l.getD i 0).toNat : Nat) : Int) ≥ 128
    · have : loB l cut = false := by
        cases h : loB l cut with
        | false => rfl
        | true => have := all_at h hi hc; omega
      rw [this]
      exact .inr ⟨by simp, ficB_all l cut i hi hb hl hc (hw i) (hnl i h1)⟩
    · refine .inl ⟨i + 1, ⟨hi, fun j hj => ?_⟩, by omega, ficA_all l cut i hi hb ht hl hc (hw i) (hnl i h1)⟩
      by_cases hj2 : j < i
      · exact h2 j hj2
      · have : j = i := by omega
        subst this; omega
  · have he : i = cut := by omega
    subst he
    have : loB l i = true := by
      refine List.all_eq_true.2 fun c hc => ?_
      obtain ⟨j, hj, rfl⟩ := List.getElem_of_mem hc
      rw [List.length_take] at hj
      have := h2 j (by omega)
      simpa [List.getD, show j < l.length by omega] using this
    rw [this]
    exact .inr ⟨by simp, ficZ_all l i i rfl (by simp only [List.length_map, List.length_take]; omega) hl hc (hw i) (hnl i (Nat.le_refl _))⟩

noncomputable def clFi : CallT := aCall Try.prog (sgBy [(47, lsSpec)]) 500 8
theorem clFi_ok : CallOK Try.prog clFi := aCall_ok mixed (sgBy_cons last_ok sgBy_nil) 500 8

noncomputable def fiLp (l : List UInt8) (cut : Nat) (e : Exit) (R : St) : List (Nat × Lp) := [(8, ⟨lbody Try.prog 29 8, ⟨[(6, 3)], [0, 5, 6, 7], [0]⟩, fiC l cut 0, e, R⟩)]

theorem fim1_all (l : List UInt8) (z : Int) (cut : Nat) (out : List Nat) (hl : l.length ≤ 100000) (hzz : lasG l l.length = z) (hz : z ≤ 0) : ∃ (h : Hints) (p : List Prop), outTell (⟨[(0, 3)], [0, 1, 2], [0]⟩) (aBody Try.prog clFi h (lpBy ([])) 60 29 ([.c (str l)]) []) = some (.tu [.sl 0 0 0, .c (str l), .c (.bool true)], [some ⟨3, false, []⟩], p) ∧ allP p := by
  refine ⟨⟨true, (bs [(11, true)] ++ [(9, ⟨.c (.int .i64 z), none⟩)])⟩, [(45 : Int) = 45,
 ((l.length : Nat) ≤ ((100000 : Nat))),
 ((lasG l l.length : Int)) = (z),
 decide ((z : Int) ≤ 0) = true], by kernel_rfl, ?_⟩
  all_goals try simp (disch := omega) only [std]
  all_goals repeat' apply And.intro
  all_goals first | exact True.intro | omega | with_reducible rfl | with_reducible assumption | exact hzz | rfl


theorem fim2_all (l : List UInt8) (z : Int) (cut : Nat) (out : List Nat) (hl : l.length ≤ 100000) (hzz : lasG l l.length = z) (hz : 255 < z) : ∃ (h : Hints) (p : List Prop), outTell (⟨[(0, 3)], [0, 1, 2], [0]⟩) (aBody Try.prog clFi h (lpBy ([])) 60 29 ([.c (str l)]) []) = some (.tu [.sl 0 0 0, .c (str []), .c (.bool false)], [some ⟨3, false, []⟩], p) ∧ allP p := by
  refine ⟨⟨true, (bs [(11, false), (14, true)] ++ [(9, ⟨.c (.int .i64 z), none⟩)])⟩, [(45 : Int) = 45,
 ((l.length : Nat) ≤ ((100000 : Nat))),
 ((lasG l l.length : Int)) = (z),
 decide ((z : Int) ≤ 0) = false,
 decide ((z : Int) > 255) = true], by kernel_rfl, ?_⟩
  all_goals try simp (disch := omega) only [std]
  all_goals repeat' apply And.intro
  all_goals first | exact True.intro | omega | with_reducible rfl | with_reducible assumption | exact hzz | rfl


theorem fim3_all (l : List UInt8) (z : Int) (cut : Nat) (out : List Nat) (hl : l.length ≤ 100000) (hzz : lasG l l.length = ((cut : Nat) : Int)) (hz : 1 ≤ cut) (hz2 : cut ≤ 255) (hcl : cut < l.length) : ∃ (h : Hints) (p : List Prop), outTell (⟨[], [0, 1, 2], [0]⟩) (aBody Try.prog clFi h (lpBy (fiLp l cut .ret fiN)) 60 29 ([.c (str l)]) []) = some (.tu [.sl 0 0 0, .c (str []), .c (.bool false)], [some ⟨3, false, []⟩], p) ∧ allP p := by
  refine ⟨⟨true, (bs [(11, false), (14, false)] ++ [(9, ⟨.c (.int .i64 ((cut : Nat) : Int)), none⟩)])⟩, [(45 : Int) = 45,
 ((l.length : Nat) ≤ ((100000 : Nat))),
 ((lasG l l.length : Int)) = ((↑cut : Int)),
 decide ((↑cut : Int) ≤ 0) = false,
 decide ((↑cut : Int) > 255) = false,
 ((lbody Try.prog (29 : FuncId) (8 : Nat) : Go.Code)) = (lbody Try.prog (29 : FuncId) (8 : Nat)),
 ((fiC l cut (0 : Nat) : Go.Proofs.Ytljgmgbjfjhjmaa.St)) = (fiC l cut (0 : Nat))], by kernel_rfl, ?_⟩
  all_goals try simp (disch := omega) only [std]
  all_goals repeat' apply And.intro
  all_goals first | exact True.intro | omega | with_reducible rfl | with_reducible assumption | exact hzz | rfl


theorem fim4_all (l : List UInt8) (z : Int) (cut : Nat) (out : List Nat) (hl : l.length ≤ 100000) (hzz : lasG l l.length = ((cut : Nat) : Int)) (hz : 1 ≤ cut) (hz2 : cut ≤ 255) (hcl : cut < l.length) : ∃ (h : Hints) (p : List Prop), outTell (⟨[], [0, 1, 2], [0]⟩) (aBody Try.prog clFi h (lpBy (fiLp l cut (.exit 0) (fiD l cut out))) 60 29 ([.c (str l)]) []) = some (.tu [.sl 0 0 out.length, .c (str (l.drop (cut + 1))), .c (.bool true)], [some ⟨3, false, nats out⟩], p) ∧ allP p := by
  refine ⟨⟨true, (bs [(11, false), (14, false)] ++ [(9, ⟨.c (.int .i64 ((cut : Nat) : Int)), none⟩)])⟩, [(45 : Int) = 45,
 ((l.length : Nat) ≤ ((100000 : Nat))),
 ((lasG l l.length : Int)) = ((↑cut : Int)),
 decide ((↑cut : Int) ≤ 0) = false,
 decide ((↑cut : Int) > 255) = false,
 ((lbody Try.prog (29 : FuncId) (8 : Nat) : Go.Code)) = (lbody Try.prog (29 : FuncId) (8 : Nat)),
 ((fiC l cut (0 : Nat) : Go.Proofs.Ytljgmgbjfjhjmaa.St)) = (fiC l cut (0 : Nat)),
 (IntKind.i64.min : Int) ≤ ↑cut + 1,
 (↑cut + 1 : Int) ≤ IntKind.i64.max,
 (0 : Int) ≤ ↑cut + 1,
 (↑cut + 1 : Int) ≤ ↑l.length,
 (↑l.length : Int) ≤ ↑l.length], Eq.trans (b := some ((AV.tu [(AV.sl 0 0 out.length),
 (AV.c ((str (List.drop ((↑cut : Int) + (1 : Int)).toNat (List.take l.length l))))),
 (AV.c ((Value.bool true)))]), [(.some ⟨3, false, (nats out)⟩)], _)) (by kernel_rfl) (congrArg (fun r : AV × Heap => some (r.1, r.2, _)) (a₁ := (_, _)) (a₂ := (_, _)) (by first | rfl | (simp (disch := omega) only [std]; first | done | rfl))), ?_⟩
  all_goals try simp (disch := omega) only [std]
  all_goals repeat' apply And.intro
  all_goals first | exact True.intro | omega | with_reducible rfl | with_reducible assumption | exact hzz | rfl

def frB (l : List UInt8) : Bool := loB l (cutD l) && decide (cutD l ≤ 255)
def frL (l : List UInt8) : List Nat := if frB l = true then (l.take (cutD l)).map UInt8.toNat else []
def frS (l : List UInt8) : List UInt8 := if frB l = true then (if 0 < cutD l then l.drop (cutD l + 1) else l) else []

def frSpec : HSpec
  | [.c (.string s)], [] => some (.tu [.sl 0 0 (frL (sb s)).length, .c (str (frS (sb s))), .c (.bool (frB (sb s)))], [some ⟨3, false, nats (frL (sb s))⟩], [(sb s).length ≤ 100000])
  | _, _ => none

theorem frS_len (l : List UInt8) : (frS l).length ≤ l.length := by
  unfold frS
  repeat' split
  all_goals try simp only [List.length_drop, List.length_nil]
  all_goals omega

theorem first_ok : HSpecOK Try.prog 29 frSpec := by
  refine hspec_new mixed clFi_ok fun args hp r hp' q hs hq => ?_
  unfold frSpec at hs
  split at hs
  · rename_i s
    obtain ⟨⟨⟨l⟩⟩, rfl⟩ : ∃ b : ByteArray, b = s := ⟨s, rfl⟩
    simp only [Option.some.injEq, Prod.mk.injEq] at hs
    obtain ⟨rfl, rfl, rfl⟩ := hs
    have hl : l.length ≤ 100000 := hq.1
    refine ⟨rfl, ?_⟩
    simp only [sb_mk]
    have hc := cutD_le l
    have hd := cutD_las l
    have hcl : cutD l ≤ l.length := by omega
    unfold frL frS frB
    rcases lasG_is l l.length (Nat.le_refl _) with ⟨e1, _⟩ | ⟨m, e1, k1, _, _⟩
    · have h0 : cutD l = 0 := by rw [hd, e1]; rfl
      have hb : loB l (cutD l) = true := by rw [h0]; rfl
      rw [hb, h0]
      obtain ⟨hh, p, e, hp⟩ := fim1_all l (-1) 0 [] hl e1 (by omega)
      exact ⟨_, _, _, _, _, (by decide), lpBy_nil, e, hp⟩
    · have hm : cutD l = m := by rw [hd, e1]; rfl
      by_cases h0 : m = 0
      · subst h0
        have hb : loB l (cutD l) = true := by rw [hm]; rfl
        rw [hb, hm]
        obtain ⟨hh, p, e, hp⟩ := fim1_all l 0 0 [] hl e1 (by omega)
        exact ⟨_, _, _, _, _, (by decide), lpBy_nil, e, hp⟩
      · rw [hm]
        by_cases h255 : m ≤ 255
        · rw [decide_eq_true h255, Bool.and_true]
          have w := fic_walk l m hl (by omega)
          cases hb : loB l m with
          | false =>
            rw [hb] at w
            obtain ⟨hh, p, e, hp⟩ := fim3_all l 0 m [] hl e1 (by omega) h255 k1
            exact ⟨_, _, _, _, _, (by decide), lpBy_cons lpBy_nil nd0 w, e, hp⟩
          | true =>
            rw [hb] at w
            simp only [if_true]
            rw [if_pos (by omega)]
            obtain ⟨hh, p, e, hp⟩ := fim4_all l 0 m ((l.take m).map UInt8.toNat) hl e1 (by omega) h255 k1
            exact ⟨_, _, _, _, _, (by decide), lpBy_cons lpBy_nil nd0 w, e, hp⟩
        · rw [decide_eq_false h255, Bool.and_false]
          obtain ⟨hh, p, e, hp⟩ := fim2_all l m m [] hl e1 (by omega)
          exact ⟨_, _, _, _, _, (by decide), lpBy_nil, e, hp⟩
  · simp at hs

/-! The places, in their order. -/
def plc (L : List Int) (i : Nat) : List Nat := (List.range i).filter fun j => decide (128 ≤ L.getD j 0)
theorem plc_len (L : List Int) (i : Nat) : (plc L i).length ≤ i := by
  unfold plc
  refine Nat.le_trans (List.length_filter_le _ _) ?_
  rw [List.length_range]; exact Nat.le_refl _
theorem plc_succ (L : List Int) (i : Nat) : plc L (i + 1) = if 128 ≤ L.getD i 0 then plc L i ++ [i] else plc L i := by
  unfold plc
  rw [List.range_succ, List.filter_append]
  by_cases h : 128 ≤ L.getD i 0
  · rw [if_pos h, List.filter_cons_of_pos (by rw [decide_eq_true h])]; rfl
  · rw [if_neg h, List.filter_cons_of_neg (by rw [decide_eq_false h]; simp), List.filter_nil, List.append_nil]
theorem plc_bd (L : List Int) (i : Nat) : ∀ z ∈ plc L i, z < i := fun z hz => by
  have := (List.mem_filter.1 hz).1
  exact List.mem_range.1 this
theorem plc_inc (L : List Int) (i : Nat) : IncA (plc L i) := List.Pairwise.filter _ List.pairwise_lt_range

def orS (X : List Nat) (n k i : Nat) (C : List AV) : St := ⟨frame 24 [(1, .pt 0 0), (3, .sl 1 0 n), (6, .fs 1 k C), (7, .c (.int .i64 k)), (8, .c (.int .i64 i))], [some ⟨22, true, [.fs 1 k C]⟩, some ⟨3, false, nats X⟩]⟩
def orR (X : List Nat) (n k : Nat) (C : List AV) : St := ⟨frame 24 [(1, .pt 0 0), (3, .sl 1 0 n)], [some ⟨22, true, [.fs 1 k C]⟩, some ⟨3, false, nats X⟩]⟩

theorem orA_all (X : List Nat) (n k i : Nat) (C : List AV) (z : Int) (hi : i < k) (hz : avEq ((C.drop i).headD .any) (.c (.int .i64 z))) (hc : 128 ≤ z) (hk : k ≤ 255) (hn : n ≤ i) (hC : C.length = k) (hX : (nats X).length = n) (h1 : (nats X).take n ++ [.c (.int .i64 i)] = nats (X ++ [i])) : Round Ext0 Try.prog cl0 (lbody Try.prog 20 3) (orS X n k i C) (.normal) (orS (X ++ [i]) (n + 1) k (i + 1) C) := by
  refine ⟨⟨true, (bs [(9, true), (14, true)] ++ [(12, ⟨.c (.int .i64 z), none⟩), (18, ⟨.sl 3 0 (n + 1), some (nats (X ++ [i]))⟩)])⟩, _, 60, ⟨[], [1, 3, 6, 7, 8], [0, 3]⟩, [decide ((↑i : Int) < ↑k) = true,
 (0 : Int) ≤ ↑i,
 (↑i : Int) < ↑k,
 (((0 : Nat) : Nat) < ((List.drop i C).length)),
 avEq ((List.drop i C).headD AV.any) ((AV.c ((Value.int .i64 z)))),
 decide ((z : Int) ≥ 128) = true,
 (((1 : Nat) : Nat) ≤ ((1 : Nat))),
 (((n + (1 : Nat)) * (8 : Nat) : Nat) ≤ ((140737488355328 : Nat))),
 ((n + (1 : Nat) : Nat) ≤ ((4611686018427387904 : Nat))),
 ((n : Nat) ≤ ((nats X).length)),
 avEq ((AV.sl 3 0 (n + (1 : Nat)))) ((AV.sl 3 0 (n + (1 : Nat)))),
 ((List.take n (nats X) ++ List.take (1 : Nat) (List.drop (0 : Nat) ([AV.c (Value.int IntKind.i64 (↑i : Int))] ++ [])) : List AV)) = (nats (X ++ [i])),
 (IntKind.i64.min : Int) ≤ ↑i + 1,
 (↑i + 1 : Int) ≤ IntKind.i64.max], lpBy_nil, by decide, by kernel_rfl, ?_⟩
  all_goals try simp (disch := omega) only [std, List.length_drop, hC, hX, h1, Nat.add_zero]
  all_goals repeat' apply And.intro
  all_goals first | exact True.intro | omega | with_reducible rfl | with_reducible assumption | exact hz | exact hC | exact hX | exact h1 | rfl


theorem orB_all (X : List Nat) (n k i : Nat) (C : List AV) (z : Int) (hi : i < k) (hz : avEq ((C.drop i).headD .any) (.c (.int .i64 z))) (hc : ¬ 128 ≤ z) (hk : k ≤ 255) (hn : n ≤ i) (hC : C.length = k) (hX : (nats X).length = n) (h1 : (nats X).take n ++ [.c (.int .i64 i)] = nats (X ++ [i])) : Round Ext0 Try.prog cl0 (lbody Try.prog 20 3) (orS X n k i C) (.normal) (orS X n k (i + 1) C) := by
  refine ⟨⟨true, (bs [(9, true), (14, false)] ++ [(12, ⟨.c (.int .i64 z), none⟩)])⟩, _, 60, ⟨[], [1, 3, 6, 7, 8], [0, 1]⟩, [decide ((↑i : Int) < ↑k) = true,
 (0 : Int) ≤ ↑i,
 (↑i : Int) < ↑k,
 (((0 : Nat) : Nat) < ((List.drop i C).length)),
 avEq ((List.drop i C).headD AV.any) ((AV.c ((Value.int .i64 z)))),
 decide ((z : Int) ≥ 128) = false,
 (IntKind.i64.min : Int) ≤ ↑i + 1,
 (↑i + 1 : Int) ≤ IntKind.i64.max], lpBy_nil, by decide, by kernel_rfl, ?_⟩
  all_goals try simp (disch := omega) only [std, List.length_drop, hC, hX, h1, Nat.add_zero]
  all_goals repeat' apply And.intro
  all_goals first | exact True.intro | omega | with_reducible rfl | with_reducible assumption | exact hz | exact hC | exact hX | exact h1 | rfl


theorem orZ_all (X : List Nat) (n k i : Nat) (C : List AV) (z : Int) (hi : i = k) (hk : k ≤ 255) (hn : n ≤ i) (hC : C.length = k) (hX : (nats X).length = n) (h1 : (nats X).take n ++ [.c (.int .i64 i)] = nats (X ++ [i])) : Round Ext0 Try.prog cl0 (lbody Try.prog 20 3) (orS X n k i C) (.exit 0) (orR X n k C) := by
  refine ⟨⟨true, (bs [(9, false)] ++ [])⟩, _, 60, ⟨[], [1, 3], [0, 1]⟩, [decide ((↑i : Int) < ↑k) = false], lpBy_nil, by decide, by kernel_rfl, ?_⟩
  all_goals try simp (disch := omega) only [std, List.length_drop, hC, hX, h1, Nat.add_zero]
  all_goals repeat' apply And.intro
  all_goals first | exact True.intro | omega | with_reducible rfl | with_reducible assumption | exact hi | exact hC | exact hX | exact h1 | rfl

theorem or_walk (L : List Int) (hl : L.length ≤ 255) : Tri Ext0 Try.prog (.loop (lbody Try.prog 20 3)) (orS [] 0 L.length 0 (rowN L)) (.exit 0) (orR (plc L L.length) (plc L L.length).length L.length (rowN L)) := by
  have hap : ∀ (X : List Nat) (i : Nat), (nats X).take X.length ++ [.c (.int .i64 (i : Nat))] = nats (X ++ [i]) := fun X i => by
    rw [List.take_of_length_le (by rw [nats_length]; exact Nat.le_refl _), nats_app]; rfl
  have h := loop_up mixed cl0_ok (b := lbody Try.prog 20 3) (fun i => orS (plc L i) (plc L i).length L.length i (rowN L)) L.length (e := .exit 0) (R := orR (plc L L.length) (plc L L.length).length L.length (rowN L)) (by simp) (fun i hi => by
    have hz : avEq (((rowN L).drop i).headD .any) (.c (.int .i64 (L.getD i 0))) := by rw [rowN_at L i hi]; exact avEq_refl _
    rw [plc_succ]
    by_cases hc : 128 ≤ L.getD i 0
    · rw [if_pos hc, List.length_append, List.length_singleton]
      exact orA_all (plc L i) _ L.length i (rowN L) _ hi hz hc hl (plc_len L i) (rowN_length L) (nats_length _) (hap _ i)
    · rw [if_neg hc]
      exact orB_all (plc L i) _ L.length i (rowN L) _ hi hz hc hl (plc_len L i) (rowN_length L) (nats_length _) (hap _ i)) (orZ_all (plc L L.length) _ L.length L.length (rowN L) 0 rfl hl (plc_len L L.length) (rowN_length L) (nats_length _) (hap _ _)) 0 (Nat.zero_le _)
  exact h

noncomputable def clOr : CallT := aCallH Try.prog (sgBy []) (hsgBy [(36, sstSpec)]) 500 8
theorem clOr_ok : CallOK Try.prog clOr := aCallH_ok mixed sgBy_nil (hsgBy_cons sst_ok hsgBy_nil) 500 8

noncomputable def orLp (X : List Nat) (n k : Nat) (C : List AV) : List (Nat × Lp) := [(3, ⟨lbody Try.prog 20 3, ⟨[(3, 3)], [1, 3, 6, 7, 8], [0, 1]⟩, orS [] 0 k 0 C, .exit 0, orR X n k C⟩)]

theorem orm_all (X : List Nat) (n : Nat) (L : List Int) (hl : L.length ≤ 255) (hn : n ≤ 255) (hX : X.length = n) (hsm : SmI L) (hbd : BdR X L.length) (hi : IncA X) : ∃ (h : Hints) (p : List Prop), outcome Try.prog 20 (aBody Try.prog clOr h (lpBy (orLp X n L.length (rowN L))) 60 20 ([.fs 1 L.length (rowN L)]) ([])) = some (.fs 1 n (nats (so (keyL L) X)), p) ∧ allP p := by
  refine ⟨⟨true, bs []⟩, [(((0 : Nat) : Nat) < ((1 : Nat))),
 ((lbody Try.prog (20 : FuncId) (3 : Nat) : Go.Code)) = (lbody Try.prog (20 : FuncId) (3 : Nat)),
 ((orS [] (0 : Nat) L.length (0 : Nat) (rowN L) : Go.Proofs.Ytljgmgbjfjhjmaa.St)) = (orS [] (0 : Nat) L.length (0 : Nat) (rowN L)),
 ((nats X : List AV)) = (nats (unnats (nats X))),
 (((unnats (nats X)).length : Nat)) = (n),
 ((n : Nat) ≤ ((255 : Nat))),
 ((rowN L : List AV)) = (rowN (unI (rowN L))),
 ((L.length : Nat)) = ((unI (rowN L)).length),
 SmI (unI (rowN L)),
 BdR (unnats (nats X)) L.length,
 IncA (unnats (nats X))], Eq.trans (b := some ((AV.fs 1 n (nats (so (keyL (unI (rowN L))) (unnats (nats X))))), _)) (by kernel_rfl) (congrArg (fun r => some (r, _)) (by first | rfl | (simp (disch := omega) only [std, unnats_nats, unI_rowN]; first | done | rfl))), ?_⟩
  all_goals try simp (disch := omega) only [std, unnats_nats, unI_rowN]
  all_goals repeat' apply And.intro
  all_goals first | exact True.intro | omega | with_reducible rfl | with_reducible assumption | exact hX | exact hsm | exact hbd | exact hi | rfl

def orO (L : List Int) : List Nat := so (keyL L) (plc L L.length)
def orSpec : Spec
  | [.fs s n l] => some (.fs 1 (plc (unI l) (unI l).length).length (nats (orO (unI l))), [s = 1, l = rowN (unI l), n = (unI l).length, n ≤ 255, SmI (unI l)])
  | _ => none

theorem order_ok : SpecOK Try.prog 20 orSpec := by
  refine spec_of mixed clOr_ok fun args r q hs hq => ?_
  unfold orSpec at hs
  split at hs
  · rename_i s n l
    simp only [Option.some.injEq, Prod.mk.injEq] at hs
    obtain ⟨rfl, rfl⟩ := hs
    obtain ⟨rfl, h2, h3, h4, h5, _⟩ := hq
    generalize unI l = L at *
    subst h2 h3
    have hn := plc_len L L.length
    obtain ⟨hh, p, e, hp⟩ := orm_all (plc L L.length) _ L h4 (by omega) rfl h5 (plc_bd L L.length) (plc_inc L L.length)
    exact ⟨_, _, _, _, lpBy_cons lpBy_nil nd01 (or_walk L h4), e, hp⟩
  · simp at hs

end Go.Proofs.Ytljgmgbjfjhjmaa
