/- The laws of values that may be written. -/
import Derived.Test.YtfnappdgiomiiaaDoorEscP
namespace Go.Proofs.YtfnappdgiomiiaaDoor
open Go.RowKit Ent
set_option linter.unusedVariables false
set_option linter.unusedSimpArgs false

noncomputable def clS : CallT := aCall Tryd.prog (sgBy [(9, escSpec), (11, plainSpec), (13, setSpec), (15, ahSpec)]) 500 8
theorem clS_ok : CallOK Tryd.prog clS := aCall_ok mixed (sgBy_cons pesc_ok (sgBy_cons pplain_ok (sgBy_cons pset_ok (sgBy_cons pah_ok sgBy_nil)))) 500 8

noncomputable def lsm_X  (h_ : List (Nat × Bool)) := outcome Tryd.prog 8 (aBody Tryd.prog clS ⟨true, bs h_ ++ ([])⟩ (lpBy ([])) 60 8 ([]) ([]))

theorem lsm_1  : lsm_X  [] = some ((AV.c ((Value.bool true))), [(((10 : Nat) : Nat) ≤ ((1000000000 : Nat))),
 (((13 : Nat) : Nat) ≤ ((1000000000 : Nat))),
 (((3 : Nat) : Nat) ≤ ((1000000000 : Nat))),
 (((1 : Nat) : Nat) ≤ ((1000000000 : Nat))),
 (((1 : Nat) : Nat) ≤ ((1000000000 : Nat))),
 (((7 : Nat) : Nat) ≤ ((1000000000 : Nat))),
 (((3 : Nat) : Nat) ≤ ((1000000000 : Nat))),
 (((5 : Nat) : Nat) ≤ ((1000000000 : Nat))),
 (0 : Int) ≤ 39,
 (39 : Int) < 256,
 (((4 : Nat) : Nat) ≤ ((1000000000 : Nat))),
 (0 : Int) ≤ 99,
 (99 : Int) < 256,
 (((2 : Nat) : Nat) ≤ ((1000000000 : Nat)))]) := by kernel_rfl

theorem lsm_all   : ∃ (h : Hints) (p : List Prop), outcome Tryd.prog 8 (aBody Tryd.prog clS h (lpBy ([])) 60 8 ([]) ([])) = some (.c (.bool true), p) ∧ allP p := by
  have eR := lsm_1 
  refine ⟨_, _, eR.trans (congrArg (fun r => some (r, _)) ?_), ?_⟩
  · rfl
  · simp only [allP]
    repeat' apply And.intro
    all_goals first | exact True.intro | decide +kernel

def smallSpec : Spec
  | [] => some (.c (.bool true), [])
  | _ => none

theorem small_ok : SpecOK Tryd.prog 8 smallSpec := by
  refine spec_of mixed clS_ok fun args r q hs hq => ?_
  unfold smallSpec at hs
  split at hs
  · simp only [Option.some.injEq, Prod.mk.injEq] at hs
    obtain ⟨rfl, rfl⟩ := hs
    obtain ⟨hh, p, e, hp⟩ := lsm_all
    exact ⟨_, _, _, _, lpBy_nil, e, hp⟩
  · simp at hs

noncomputable def clT : CallT := aCall Tryd.prog (sgBy [(8, smallSpec), (9, escSpec), (11, plainSpec), (13, setSpec), (15, ahSpec), (10, escSpec), (12, plainSpec), (14, setSpec), (16, ahSpec), (17, entSpec)]) 500 8

theorem clT_ok : CallOK Tryd.prog clT := aCall_ok mixed (sgBy_cons small_ok (sgBy_cons pesc_ok (sgBy_cons pplain_ok (sgBy_cons pset_ok (sgBy_cons pah_ok (sgBy_cons resc_ok (sgBy_cons rplain_ok (sgBy_cons rset_ok (sgBy_cons rah_ok (sgBy_cons ent_ok sgBy_nil)))))))))) 500 8

noncomputable def tells_X (l : List UInt8) (c : UInt8) (h_ : List (Nat × Bool)) := lawOut (aBody Tryd.prog clT ⟨true, bs h_ ++ (bs [(17, true), (24, true), (31, true), (40, true)])⟩ (lpBy ([])) 60 3 ([.c (str l), byteC c]) ([]))

theorem tells_1 (l : List UInt8) (c : UInt8) : tells_X l c [(9, true)] = some ((AV.c ((Value.bool true))), [decide ((↑l.length : Int) > 500) = true]) := by kernel_rfl

theorem tells_2 (l : List UInt8) (c : UInt8) : tells_X l c [(9, false)] = some ((AV.c ((Value.bool true))), [decide ((↑l.length : Int) > 500) = false,
 ((l.length : Nat) ≤ ((1000000000 : Nat))),
 ((l.length : Nat) ≤ ((1000000000 : Nat))),
 (escF l == escF l) = true,
 ((l.length : Nat) ≤ ((1000000000 : Nat))),
 ((l.length : Nat) ≤ ((1000000000 : Nat))),
 (plainF l == plainF l) = true,
 ((l.length : Nat) ≤ ((1000000000 : Nat))),
 ((l.length : Nat) ≤ ((1000000000 : Nat))),
 (settledF l == settledF l) = true,
 (((0 : Int) : Int) ≤ ((↑c.toNat : Int))),
 (((↑c.toNat : Int) : Int) < ((256 : Int))),
 ((l.length : Nat) ≤ ((1000000000 : Nat))),
 (((0 : Int) : Int) ≤ ((↑c.toNat : Int))),
 (((↑c.toNat : Int) : Int) < ((256 : Int))),
 ((l.length : Nat) ≤ ((1000000000 : Nat))),
 (aheadF (UInt8.ofNat c.toNat) l == aheadF (UInt8.ofNat c.toNat) l) = true]) := by kernel_rfl

theorem tells_all (l : List UInt8) (c : UInt8) (h5 : c.toNat < 256) : ∃ (h : Hints) (p : List Prop), lawOut (aBody Tryd.prog clT h (lpBy ([])) 60 3 ([.c (str l), byteC c]) ([])) = some (.c (.bool true), p) ∧ allP p := by
  refine bcase (decide ((↑l.length : Int) > (500 : Int))) (fun hc9 => ⟨_, _, (tells_1 l c).trans (congrArg (fun r => some (r, _)) rfl), ?_⟩)
    (fun hc9 => ⟨_, _, (tells_2 l c).trans (congrArg (fun r => some (r, _)) rfl), ?_⟩)
  all_goals try simp only [dz] at hc9
  all_goals try simp (disch := omega) only [std, beq_self_eq_true]
  all_goals repeat' apply And.intro
  all_goals first | exact True.intro | omega | with_reducible rfl | with_reducible assumption | rfl

noncomputable def back0_X (a b : List UInt8) (h_ : List (Nat × Bool)) := lawOut (aBody Tryd.prog clT ⟨true, bs h_ ++ ([])⟩ (lpBy ([])) 60 4 ([.c (str a), .c (str b)]) ([]))

theorem back0_1 (a b : List UInt8) : back0_X a b [(11, true)] = some ((AV.c ((Value.bool true))), [decide ((↑a.length : Int) > 300) = true]) := by kernel_rfl

theorem back0_2 (a b : List UInt8) : back0_X a b [(11, false), (15, true)] = some ((AV.c ((Value.bool true))), [decide ((↑a.length : Int) > 300) = false,
 decide ((↑b.length : Int) > 300) = true]) := by kernel_rfl

theorem back0_all (a b : List UInt8) (h0 : (a.length : Int) > 300 ∨ (b.length : Int) > 300) : ∃ (h : Hints) (p : List Prop), lawOut (aBody Tryd.prog clT h (lpBy ([])) 60 4 ([.c (str a), .c (str b)]) ([])) = some (.c (.bool true), p) ∧ allP p := by
  refine bcase (decide ((↑a.length : Int) > (300 : Int))) (fun hc11 => ⟨_, _, (back0_1 a b).trans (congrArg (fun r => some (r, _)) rfl), ?_⟩)
    (fun hc11 => ⟨_, _, (back0_2 a b).trans (congrArg (fun r => some (r, _)) rfl), ?_⟩)
  all_goals try simp only [dz] at hc11
  all_goals try simp (disch := omega) only [std]
  all_goals repeat' apply And.intro
  all_goals first | exact True.intro | omega | with_reducible rfl | with_reducible assumption | rfl

noncomputable def back1_X (a b x y z : List UInt8) (h_ : List (Nat × Bool)) := lawOut (aBody Tryd.prog clT ⟨true, bs h_ ++ (bs [(11, false), (15, false), (27, true), (41, true), (51, true), (59, true), (66, true)] ++ [(19, ⟨.c (str x), none⟩), (21, ⟨.c (str y), none⟩), (25, ⟨.c (str a), none⟩), (31, ⟨.c (.bool true), none⟩), (37, ⟨.c (str z), none⟩), (40, ⟨.c (str z), none⟩), (46, ⟨.c (str z), none⟩), (47, ⟨.c (str (a ++ b)), none⟩)])⟩ (lpBy ([])) 60 4 ([.c (str a), .c (str b)]) ([]))

theorem back1_1 (a b x y z : List UInt8) : back1_X a b x y z [] = some ((AV.c ((Value.bool true))), [decide ((↑a.length : Int) > 300) = false,
 decide ((↑b.length : Int) > 300) = false,
 ((a.length : Nat) ≤ ((1000000000 : Nat))),
 ((escF a : List UInt8)) = (x),
 ((b.length : Nat) ≤ ((1000000000 : Nat))),
 ((escF b : List UInt8)) = (y),
 ((x.length : Nat) ≤ ((1000000000 : Nat))),
 ((entF x : List UInt8)) = (a),
 (a == a) = true,
 ((x.length : Nat) ≤ ((1000000000 : Nat))),
 (settledF x) = true,
 ((a.length + b.length : Nat) ≤ ((9223372036854775807 : Nat))),
 (((a ++ b).length : Nat) ≤ ((1000000000 : Nat))),
 ((escF (a ++ b) : List UInt8)) = (z),
 ((x.length + y.length : Nat) ≤ ((9223372036854775807 : Nat))),
 ((x ++ y : List UInt8)) = (z),
 (z == z) = true,
 ((x.length + y.length : Nat) ≤ ((9223372036854775807 : Nat))),
 ((x ++ y : List UInt8)) = (z),
 ((z.length : Nat) ≤ ((1000000000 : Nat))),
 ((entF z : List UInt8)) = (a ++ b),
 ((a.length + b.length : Nat) ≤ ((9223372036854775807 : Nat))),
 (a ++ b == a ++ b) = true,
 (IntKind.i64.min : Int) ≤ 5 * ↑a.length,
 (5 * ↑a.length : Int) ≤ IntKind.i64.max,
 decide ((↑x.length : Int) ≤ 5 * ↑a.length) = true,
 decide ((↑x.length : Int) ≥ ↑a.length) = true]) := by kernel_rfl

theorem back1_all (a b x y z : List UInt8) (h0 : a.length ≤ 300) (h1 : b.length ≤ 300) (hx : escF a = x) (hy : escF b = y) (hz : x ++ y = z) (hxl : x.length ≤ 5 * a.length) (hxg : a.length ≤ x.length) (hyl : y.length ≤ 5 * b.length) (hzl : z.length ≤ 3000) (e1 : entF x = a) (e2 : settledF x = true) (e3 : escF (a ++ b) = z) (e4 : entF z = a ++ b) : ∃ (h : Hints) (p : List Prop), lawOut (aBody Tryd.prog clT h (lpBy ([])) 60 4 ([.c (str a), .c (str b)]) ([])) = some (.c (.bool true), p) ∧ allP p := by
  refine ⟨_, _, (back1_1 a b x y z).trans (congrArg (fun r => some (r, _)) rfl), ?_⟩
  all_goals try simp (disch := omega) only [std, beq_self_eq_true, List.length_append]
  all_goals repeat' apply And.intro
  all_goals first | exact True.intro | omega | with_reducible rfl | with_reducible assumption | exact hx | exact hy | exact hz | exact e1 | exact e2 | exact e3 | exact e4 | rfl

/-! Plain. -/
def epS (l : List UInt8) (b : Bool) (i : Nat) : St := ⟨frame 85 [(0, .c (str l)), (3, .c (.bool true)), (4, .c (.bool b)), (5, .c (.int .i64 i))], []⟩

noncomputable def epA_X (l : List UInt8) (b b1 : Bool) (i : Nat) (h_ : List (Nat × Bool)) := roundOut (⟨[], [0, 3, 4, 5], []⟩) (aCode Tryd.prog cl0 ⟨true, bs h_ ++ (bs [(15, true)] ++ [(30, ⟨.c (.bool b1), none⟩)])⟩ (lpBy ([])) 60 (lbody Tryd.prog 5 6) (epS l b i))

theorem epA_1 (l : List UInt8) (b b1 : Bool) (i : Nat) : epA_X l b b1 i [(19, true), (23, true)] = some (.normal, ⟨frame 85 [(0, (AV.c ((str (l))))), (3, (AV.c ((Value.bool true)))), (4, (AV.c ((Value.bool b1)))), (5, (AV.c ((Value.int .i64 ((↑i : Int) + (1 : Int))))))], []⟩, [decide ((↑i : Int) < ↑l.length) = true,
 (b) = true,
 (0 : Int) ≤ ↑i,
 (↑i : Int) < ↑l.length,
 (decide ((↑(l.getD i 0).toNat : Int) ≥ (32 : Int))) = true,
 (0 : Int) ≤ ↑i,
 (↑i : Int) < ↑l.length,
 ((decide ((↑(l.getD i 0).toNat : Int) ≤ (126 : Int)) : Bool)) = (b1),
 (IntKind.i64.min : Int) ≤ ↑i + 1,
 (↑i + 1 : Int) ≤ IntKind.i64.max]) := by kernel_rfl

theorem epA_2 (l : List UInt8) (b b1 : Bool) (i : Nat) : epA_X l b b1 i [(19, true), (23, false)] = some (.normal, ⟨frame 85 [(0, (AV.c ((str (l))))), (3, (AV.c ((Value.bool true)))), (4, (AV.c ((Value.bool b1)))), (5, (AV.c ((Value.int .i64 ((↑i : Int) + (1 : Int))))))], []⟩, [decide ((↑i : Int) < ↑l.length) = true,
 (b) = true,
 (0 : Int) ≤ ↑i,
 (↑i : Int) < ↑l.length,
 (decide ((↑(l.getD i 0).toNat : Int) ≥ (32 : Int))) = false,
 ((false : Bool)) = (b1),
 (IntKind.i64.min : Int) ≤ ↑i + 1,
 (↑i + 1 : Int) ≤ IntKind.i64.max]) := by kernel_rfl

theorem epA_3 (l : List UInt8) (b b1 : Bool) (i : Nat) : epA_X l b b1 i [(19, false)] = some (.normal, ⟨frame 85 [(0, (AV.c ((str (l))))), (3, (AV.c ((Value.bool true)))), (4, (AV.c ((Value.bool b1)))), (5, (AV.c ((Value.int .i64 ((↑i : Int) + (1 : Int))))))], []⟩, [decide ((↑i : Int) < ↑l.length) = true,
 (b) = false,
 ((false : Bool)) = (b1),
 (IntKind.i64.min : Int) ≤ ↑i + 1,
 (↑i + 1 : Int) ≤ IntKind.i64.max]) := by kernel_rfl

theorem epA_all (l : List UInt8) (b b1 : Bool) (i : Nat) (hi : i < l.length) (hT : b = true → 32 ≤ (((l.getD i 0).toNat : Nat) : Int) → decide ((((l.getD i 0).toNat : Nat) : Int) ≤ 126) = b1) (hF : b = true → ¬ 32 ≤ (((l.getD i 0).toNat : Nat) : Int) → false = b1) (hB : b = false → false = b1) (hl : l.length ≤ 1000000000) : Round Ext0 Tryd.prog cl0 (lbody Tryd.prog 5 6) (epS l b i) (.normal) (epS l b1 (i + 1)) := by
  refine bcase (b) (fun hc19 => bcase (decide ((↑(l.getD i (0 : UInt8)).toNat : Int) ≥ (32 : Int))) (fun hc23 => ⟨_, _, _, _, _, lpBy_nil, by decide, (epA_1 l b b1 i).trans (congrArg (fun S : St => some ((.normal : Exit), S, _)) (by first | rfl | (simp (disch := omega) only [std]; done))), ?_⟩)
    (fun hc23 => ⟨_, _, _, _, _, lpBy_nil, by decide, (epA_2 l b b1 i).trans (congrArg (fun S : St => some ((.normal : Exit), S, _)) (by first | rfl | (simp (disch := omega) only [std]; done))), ?_⟩))
    (fun hc19 => ⟨_, _, _, _, _, lpBy_nil, by decide, (epA_3 l b b1 i).trans (congrArg (fun S : St => some ((.normal : Exit), S, _)) (by first | rfl | (simp (disch := omega) only [std]; done))), ?_⟩)
  all_goals try simp only [dz] at hc19
  all_goals try simp only [dz] at hc23
  all_goals try simp (disch := omega) only [std]
  all_goals repeat' apply And.intro
  all_goals first | exact True.intro | omega | with_reducible rfl | with_reducible assumption | exact hT hc19 hc23 | exact hF hc19 hc23 | exact hB hc19 | exact hB | rfl


noncomputable def epZ_X (l : List UInt8) (b b1 : Bool) (i : Nat) (h_ : List (Nat × Bool)) := roundOut (⟨[], [0, 3, 4, 5], []⟩) (aCode Tryd.prog cl0 ⟨true, bs h_ ++ (bs [(15, false)] ++ [(30, ⟨.c (.bool b1), none⟩)])⟩ (lpBy ([])) 60 (lbody Tryd.prog 5 6) (epS l b i))

theorem epZ_1 (l : List UInt8) (b b1 : Bool) (i : Nat) : epZ_X l b b1 i [] = some (.exit 0, ⟨frame 85 [(0, (AV.c ((str (l))))), (3, (AV.c ((Value.bool true)))), (4, (AV.c ((Value.bool b)))), (5, (AV.c ((Value.int .i64 ((↑i : Int))))))], []⟩, [decide ((↑i : Int) < ↑l.length) = false]) := by kernel_rfl

theorem epZ_all (l : List UInt8) (b b1 : Bool) (i : Nat) (hi : i = l.length) (hl : l.length ≤ 1000000000) : Round Ext0 Tryd.prog cl0 (lbody Tryd.prog 5 6) (epS l b i) (.exit 0) (epS l b i) := by
  refine ⟨_, _, _, _, _, lpBy_nil, by decide, (epZ_1 l b b1 i).trans (congrArg (fun S : St => some ((.exit 0 : Exit), S, _)) (by first | rfl | (simp (disch := omega) only [std]; done))), ?_⟩
  all_goals try simp (disch := omega) only [std]
  all_goals repeat' apply And.intro
  all_goals first | exact True.intro | omega | with_reducible rfl | with_reducible assumption | exact hT hc19 hc23 | exact hF hc19 hc23 | exact hB hc19 | exact hi | rfl

theorem fair_snoc (l : List UInt8) (i : Nat) (h : i < l.length) : (l.take (i + 1)).all fairE = ((l.take i).all fairE && fairE (l.getD i 0)) := by
  rw [show l.take (i + 1) = l.take i ++ [l.getD i 0] by
    rw [List.take_succ_eq_append_getElem h]
    simp [List.getD, h], List.all_append]
  simp

theorem ep_walk (l : List UInt8) (hl : l.length ≤ 1000000000) : Tri Ext0 Tryd.prog (.loop (lbody Tryd.prog 5 6)) (epS l true 0) (.exit 0) (epS l (l.all fairE) l.length) := by
  have h := loop_up mixed cl0_ok (b := lbody Tryd.prog 5 6) (fun i => epS l ((l.take i).all fairE) i) l.length (e := .exit 0) (R := epS l (l.all fairE) l.length) (by simp) (fun i hi => by
    rw [fair_snoc l i hi]
    refine epA_all l _ _ i hi (fun hb h32 => ?_) (fun hb h32 => ?_) (fun hb => ?_) hl
    · rw [hb]
      unfold fairE
      rw [decide_eq_true (show 32 ≤ (l.getD i 0).toNat by omega), Bool.true_and, Bool.true_and]
      exact decide_eq_decide.2 (by omega)
    · rw [hb]
      unfold fairE
      rw [decide_eq_false (show ¬ 32 ≤ (l.getD i 0).toNat by omega)]
      rfl
    · rw [hb]; rfl) (by
    rw [List.take_length]
    exact epZ_all l _ true l.length rfl hl) 0 (Nat.zero_le _)
  exact h

noncomputable def epLp (l : List UInt8) (f : Bool) : List (Nat × Lp) := [(6, ⟨lbody Tryd.prog 5 6, ⟨[], [0, 3, 4, 5], []⟩, epS l true 0, .exit 0, epS l f l.length⟩)]

noncomputable def plain0_X (l : List UInt8) (h_ : List (Nat × Bool)) := lawOut (aBody Tryd.prog clT ⟨true, bs h_ ++ ([])⟩ (lpBy ([])) 60 5 ([.c (str l)]) ([]))

theorem plain0_1 (l : List UInt8) : plain0_X l [(10, true)] = some ((AV.c ((Value.bool true))), [decide ((↑l.length : Int) > 300) = true]) := by kernel_rfl

theorem plain0_all (l : List UInt8) (h0 : (l.length : Int) > 300) : ∃ (h : Hints) (p : List Prop), lawOut (aBody Tryd.prog clT h (lpBy ([])) 60 5 ([.c (str l)]) ([])) = some (.c (.bool true), p) ∧ allP p := by
  refine ⟨_, _, (plain0_1 l).trans (congrArg (fun r => some (r, _)) rfl), ?_⟩
  all_goals try simp (disch := omega) only [std]
  all_goals repeat' apply And.intro
  all_goals first | exact True.intro | omega | with_reducible rfl | with_reducible assumption | rfl

noncomputable def plain1_X (l x d : List UInt8) (f q r : Bool) (h_ : List (Nat × Bool)) := lawOut (aBody Tryd.prog clT ⟨true, bs h_ ++ (bs [(10, false), (36, false), (41, false), (47, false), (53, false), (65, true), (76, true), (81, true)] ++ [(32, ⟨.c (str x), none⟩), (34, ⟨.c (.bool f), none⟩), (39, ⟨.c (str x), none⟩), (45, ⟨.c (str x), none⟩), (51, ⟨.c (str x), none⟩), (58, ⟨.c (.bool q), none⟩), (62, ⟨.c (str d), none⟩), (63, ⟨.c (str l), none⟩), (70, ⟨.c (.bool r), none⟩), (74, ⟨.c (str l), none⟩), (79, ⟨.c (str l), none⟩)])⟩ (lpBy (epLp l f)) 60 5 ([.c (str l)]) ([]))

theorem plain1_1 (l x d : List UInt8) (f q r : Bool) : plain1_X l x d f q r [(59, true), (71, true)] = some ((AV.c ((Value.bool true))), [decide ((↑l.length : Int) > 300) = false,
 ((lbody Tryd.prog (5 : FuncId) (6 : Nat) : Go.Code)) = (lbody Tryd.prog (5 : FuncId) (6 : Nat)),
 ((epS l true (0 : Nat) : Go.Proofs.YtfnappdgiomiiaaDoor.St)) = (epS l true (0 : Nat)),
 ((l.length : Nat) ≤ ((1000000000 : Nat))),
 ((escF l : List UInt8)) = (x),
 ((x.length : Nat) ≤ ((1000000000 : Nat))),
 ((plainF x : Bool)) = (f),
 (!f == f) = false,
 (0 : Int) ≤ 34,
 (34 : Int) < 256,
 ((x.length : Nat) ≤ ((1000000000 : Nat))),
 ((aheadF (UInt8.ofNat (Int.toNat (34 : Int))) x : List UInt8)) = (x),
 (!x == x) = false,
 (0 : Int) ≤ 39,
 (39 : Int) < 256,
 ((x.length : Nat) ≤ ((1000000000 : Nat))),
 ((aheadF (UInt8.ofNat (Int.toNat (39 : Int))) x : List UInt8)) = (x),
 (!x == x) = false,
 (0 : Int) ≤ 96,
 (96 : Int) < 256,
 ((x.length : Nat) ≤ ((1000000000 : Nat))),
 ((aheadF (UInt8.ofNat (Int.toNat (96 : Int))) x : List UInt8)) = (x),
 (!x == x) = false,
 ((l.length : Nat) ≤ ((1000000000 : Nat))),
 ((settledF l : Bool)) = (q),
 (!q) = true,
 ((l.length : Nat) ≤ ((1000000000 : Nat))),
 ((plainF l : Bool)) = (r),
 (!r) = true]) := by kernel_rfl

theorem plain1_2 (l x d : List UInt8) (f q r : Bool) : plain1_X l x d f q r [(59, true), (71, false)] = some ((AV.c ((Value.bool true))), [decide ((↑l.length : Int) > 300) = false,
 ((lbody Tryd.prog (5 : FuncId) (6 : Nat) : Go.Code)) = (lbody Tryd.prog (5 : FuncId) (6 : Nat)),
 ((epS l true (0 : Nat) : Go.Proofs.YtfnappdgiomiiaaDoor.St)) = (epS l true (0 : Nat)),
 ((l.length : Nat) ≤ ((1000000000 : Nat))),
 ((escF l : List UInt8)) = (x),
 ((x.length : Nat) ≤ ((1000000000 : Nat))),
 ((plainF x : Bool)) = (f),
 (!f == f) = false,
 (0 : Int) ≤ 34,
 (34 : Int) < 256,
 ((x.length : Nat) ≤ ((1000000000 : Nat))),
 ((aheadF (UInt8.ofNat (Int.toNat (34 : Int))) x : List UInt8)) = (x),
 (!x == x) = false,
 (0 : Int) ≤ 39,
 (39 : Int) < 256,
 ((x.length : Nat) ≤ ((1000000000 : Nat))),
 ((aheadF (UInt8.ofNat (Int.toNat (39 : Int))) x : List UInt8)) = (x),
 (!x == x) = false,
 (0 : Int) ≤ 96,
 (96 : Int) < 256,
 ((x.length : Nat) ≤ ((1000000000 : Nat))),
 ((aheadF (UInt8.ofNat (Int.toNat (96 : Int))) x : List UInt8)) = (x),
 (!x == x) = false,
 ((l.length : Nat) ≤ ((1000000000 : Nat))),
 ((settledF l : Bool)) = (q),
 (!q) = true,
 ((l.length : Nat) ≤ ((1000000000 : Nat))),
 ((plainF l : Bool)) = (r),
 (!r) = false,
 (0 : Int) ≤ 60,
 (60 : Int) < 256,
 ((l.length : Nat) ≤ ((1000000000 : Nat))),
 ((aheadF (UInt8.ofNat (Int.toNat (60 : Int))) l : List UInt8)) = (l),
 (l == l) = true,
 (0 : Int) ≤ 34,
 (34 : Int) < 256,
 ((l.length : Nat) ≤ ((1000000000 : Nat))),
 ((aheadF (UInt8.ofNat (Int.toNat (34 : Int))) l : List UInt8)) = (l),
 (l == l) = true]) := by kernel_rfl

theorem plain1_3 (l x d : List UInt8) (f q r : Bool) : plain1_X l x d f q r [(59, false), (71, true)] = some ((AV.c ((Value.bool true))), [decide ((↑l.length : Int) > 300) = false,
 ((lbody Tryd.prog (5 : FuncId) (6 : Nat) : Go.Code)) = (lbody Tryd.prog (5 : FuncId) (6 : Nat)),
 ((epS l true (0 : Nat) : Go.Proofs.YtfnappdgiomiiaaDoor.St)) = (epS l true (0 : Nat)),
 ((l.length : Nat) ≤ ((1000000000 : Nat))),
 ((escF l : List UInt8)) = (x),
 ((x.length : Nat) ≤ ((1000000000 : Nat))),
 ((plainF x : Bool)) = (f),
 (!f == f) = false,
 (0 : Int) ≤ 34,
 (34 : Int) < 256,
 ((x.length : Nat) ≤ ((1000000000 : Nat))),
 ((aheadF (UInt8.ofNat (Int.toNat (34 : Int))) x : List UInt8)) = (x),
 (!x == x) = false,
 (0 : Int) ≤ 39,
 (39 : Int) < 256,
 ((x.length : Nat) ≤ ((1000000000 : Nat))),
 ((aheadF (UInt8.ofNat (Int.toNat (39 : Int))) x : List UInt8)) = (x),
 (!x == x) = false,
 (0 : Int) ≤ 96,
 (96 : Int) < 256,
 ((x.length : Nat) ≤ ((1000000000 : Nat))),
 ((aheadF (UInt8.ofNat (Int.toNat (96 : Int))) x : List UInt8)) = (x),
 (!x == x) = false,
 ((l.length : Nat) ≤ ((1000000000 : Nat))),
 ((settledF l : Bool)) = (q),
 (!q) = false,
 ((l.length : Nat) ≤ ((1000000000 : Nat))),
 ((entF l : List UInt8)) = (d),
 ((d.length : Nat) ≤ ((1000000000 : Nat))),
 ((escF d : List UInt8)) = (l),
 (l == l) = true,
 ((l.length : Nat) ≤ ((1000000000 : Nat))),
 ((plainF l : Bool)) = (r),
 (!r) = true]) := by kernel_rfl

theorem plain1_4 (l x d : List UInt8) (f q r : Bool) : plain1_X l x d f q r [(59, false), (71, false)] = some ((AV.c ((Value.bool true))), [decide ((↑l.length : Int) > 300) = false,
 ((lbody Tryd.prog (5 : FuncId) (6 : Nat) : Go.Code)) = (lbody Tryd.prog (5 : FuncId) (6 : Nat)),
 ((epS l true (0 : Nat) : Go.Proofs.YtfnappdgiomiiaaDoor.St)) = (epS l true (0 : Nat)),
 ((l.length : Nat) ≤ ((1000000000 : Nat))),
 ((escF l : List UInt8)) = (x),
 ((x.length : Nat) ≤ ((1000000000 : Nat))),
 ((plainF x : Bool)) = (f),
 (!f == f) = false,
 (0 : Int) ≤ 34,
 (34 : Int) < 256,
 ((x.length : Nat) ≤ ((1000000000 : Nat))),
 ((aheadF (UInt8.ofNat (Int.toNat (34 : Int))) x : List UInt8)) = (x),
 (!x == x) = false,
 (0 : Int) ≤ 39,
 (39 : Int) < 256,
 ((x.length : Nat) ≤ ((1000000000 : Nat))),
 ((aheadF (UInt8.ofNat (Int.toNat (39 : Int))) x : List UInt8)) = (x),
 (!x == x) = false,
 (0 : Int) ≤ 96,
 (96 : Int) < 256,
 ((x.length : Nat) ≤ ((1000000000 : Nat))),
 ((aheadF (UInt8.ofNat (Int.toNat (96 : Int))) x : List UInt8)) = (x),
 (!x == x) = false,
 ((l.length : Nat) ≤ ((1000000000 : Nat))),
 ((settledF l : Bool)) = (q),
 (!q) = false,
 ((l.length : Nat) ≤ ((1000000000 : Nat))),
 ((entF l : List UInt8)) = (d),
 ((d.length : Nat) ≤ ((1000000000 : Nat))),
 ((escF d : List UInt8)) = (l),
 (l == l) = true,
 ((l.length : Nat) ≤ ((1000000000 : Nat))),
 ((plainF l : Bool)) = (r),
 (!r) = false,
 (0 : Int) ≤ 60,
 (60 : Int) < 256,
 ((l.length : Nat) ≤ ((1000000000 : Nat))),
 ((aheadF (UInt8.ofNat (Int.toNat (60 : Int))) l : List UInt8)) = (l),
 (l == l) = true,
 (0 : Int) ≤ 34,
 (34 : Int) < 256,
 ((l.length : Nat) ≤ ((1000000000 : Nat))),
 ((aheadF (UInt8.ofNat (Int.toNat (34 : Int))) l : List UInt8)) = (l),
 (l == l) = true]) := by kernel_rfl

theorem plain1_all (l x d : List UInt8) (f q r : Bool) (h0 : l.length ≤ 300) (hx : escF l = x) (hxl : x.length ≤ 1500) (hf : plainF x = f) (a1 : aheadF 34 x = x) (a2 : aheadF 39 x = x) (a3 : aheadF 96 x = x) (hq : settledF l = q) (hd : entF l = d) (hdl : d.length ≤ 300) (hs : q = true → escF d = l) (hr : plainF l = r) (r1 : r = true → aheadF 60 l = l) (r2 : r = true → aheadF 34 l = l) : ∃ (h : Hints) (p : List Prop), lawOut (aBody Tryd.prog clT h (lpBy (epLp l f)) 60 5 ([.c (str l)]) ([])) = some (.c (.bool true), p) ∧ allP p := by
  refine bcase (!q) (fun hc59 => bcase (!r) (fun hc71 => ⟨_, _, (plain1_1 l x d f q r).trans (congrArg (fun r => some (r, _)) rfl), ?_⟩)
    (fun hc71 => ⟨_, _, (plain1_2 l x d f q r).trans (congrArg (fun r => some (r, _)) rfl), ?_⟩))
    (fun hc59 => bcase (!r) (fun hc71 => ⟨_, _, (plain1_3 l x d f q r).trans (congrArg (fun r => some (r, _)) rfl), ?_⟩)
    (fun hc71 => ⟨_, _, (plain1_4 l x d f q r).trans (congrArg (fun r => some (r, _)) rfl), ?_⟩))
  all_goals try simp only [dz] at hc59
  all_goals try simp only [dz] at hc71
  all_goals try simp (disch := omega) only [std, beq_self_eq_true, Bool.not_true]
  all_goals repeat' apply And.intro
  all_goals first | exact True.intro | omega | with_reducible rfl | with_reducible assumption | exact hs (notb2 hc59) | exact r1 (notb2 hc71) | exact r2 (notb2 hc71) | exact hx | exact hf | exact a1 | exact a2 | exact a3 | exact hq | exact hd | exact hs | exact hr | exact r1 | exact r2 | rfl

/-! Ahead of a byte. -/
def eaS (a b : List UInt8) (q : UInt8) (x : List UInt8) (i : Nat) : St := ⟨frame 83 [(0, .c (str a)), (1, .c (str b)), (2, byteC q), (7, .c (.bool true)), (8, .c (str x)), (9, .c (.int .i64 i))], []⟩

noncomputable def eaA_X (a b x : List UInt8) (q : UInt8) (i : Nat) (h_ : List (Nat × Bool)) := roundOut (⟨[], [0, 1, 2, 7, 8, 9], []⟩) (aCode Tryd.prog cl0 ⟨true, bs h_ ++ (bs [(26, true), (33, false)])⟩ (lpBy ([])) 60 (lbody Tryd.prog 6 6) (eaS a b q x i))

theorem eaA_1 (a b x : List UInt8) (q : UInt8) (i : Nat) : eaA_X a b x q i [] = some (.normal, ⟨frame 83 [(0, (AV.c ((str (a))))), (1, (AV.c ((str (b))))), (2, (AV.c ((Value.int .u8 ((↑q.toNat : Int)))))), (7, (AV.c ((Value.bool true)))), (8, (AV.c ((str (x))))), (9, (AV.c ((Value.int .i64 ((↑i : Int) + (1 : Int))))))], []⟩, [decide ((↑i : Int) < ↑x.length) = true,
 (0 : Int) ≤ ↑i,
 (↑i : Int) < ↑x.length,
 ((↑(x.getD i 0).toNat : Int) == (↑q.toNat : Int)) = false,
 (IntKind.i64.min : Int) ≤ ↑i + 1,
 (↑i + 1 : Int) ≤ IntKind.i64.max]) := by kernel_rfl

theorem eaA_all (a b x : List UInt8) (q : UInt8) (i : Nat) (hi : i < x.length) (hn : ¬ (((x.getD i 0).toNat : Nat) : Int) = ((q.toNat : Nat) : Int)) (hl : x.length ≤ 1000000000) : Round Ext0 Tryd.prog cl0 (lbody Tryd.prog 6 6) (eaS a b q x i) (.normal) (eaS a b q x (i + 1)) := by
  refine ⟨_, _, _, _, _, lpBy_nil, by decide, (eaA_1 a b x q i).trans (congrArg (fun S : St => some ((.normal : Exit), S, _)) (by first | rfl | (simp (disch := omega) only [std]; done))), ?_⟩
  all_goals try simp (disch := omega) only [std]
  all_goals repeat' apply And.intro
  all_goals first | exact True.intro | omega | with_reducible rfl | with_reducible assumption | exact hn | rfl


noncomputable def eaZ_X (a b x : List UInt8) (q : UInt8) (i : Nat) (h_ : List (Nat × Bool)) := roundOut (⟨[], [0, 1, 2, 7, 8, 9], []⟩) (aCode Tryd.prog cl0 ⟨true, bs h_ ++ (bs [(26, false)])⟩ (lpBy ([])) 60 (lbody Tryd.prog 6 6) (eaS a b q x i))

theorem eaZ_1 (a b x : List UInt8) (q : UInt8) (i : Nat) : eaZ_X a b x q i [] = some (.exit 0, ⟨frame 83 [(0, (AV.c ((str (a))))), (1, (AV.c ((str (b))))), (2, (AV.c ((Value.int .u8 ((↑q.toNat : Int)))))), (7, (AV.c ((Value.bool true)))), (8, (AV.c ((str (x))))), (9, (AV.c ((Value.int .i64 ((↑i : Int))))))], []⟩, [decide ((↑i : Int) < ↑x.length) = false]) := by kernel_rfl

theorem eaZ_all (a b x : List UInt8) (q : UInt8) (i : Nat) (hi : i = x.length) (hl : x.length ≤ 1000000000) : Round Ext0 Tryd.prog cl0 (lbody Tryd.prog 6 6) (eaS a b q x i) (.exit 0) (eaS a b q x i) := by
  refine ⟨_, _, _, _, _, lpBy_nil, by decide, (eaZ_1 a b x q i).trans (congrArg (fun S : St => some ((.exit 0 : Exit), S, _)) (by first | rfl | (simp (disch := omega) only [std]; done))), ?_⟩
  all_goals try simp (disch := omega) only [std]
  all_goals repeat' apply And.intro
  all_goals first | exact True.intro | omega | with_reducible rfl | with_reducible assumption | exact hi | rfl

theorem ea_walk (a b x : List UInt8) (q : UInt8) (hl : x.length ≤ 1000000000) (hx : ∀ j, j < x.length → x.getD j 0 ≠ q) : Tri Ext0 Tryd.prog (.loop (lbody Tryd.prog 6 6)) (eaS a b q x 0) (.exit 0) (eaS a b q x x.length) :=
  loop_up mixed cl0_ok (eaS a b q x) x.length (by simp) (fun i hi => eaA_all a b x q i hi (fun e => hx i hi (u8_eq_iff.1 e)) hl) (eaZ_all a b x q x.length rfl hl) 0 (Nat.zero_le _)

noncomputable def eaLp (a b x : List UInt8) (q : UInt8) : List (Nat × Lp) := [(6, ⟨lbody Tryd.prog 6 6, ⟨[], [0, 1, 2, 7, 8, 9], []⟩, eaS a b q x 0, .exit 0, eaS a b q x x.length⟩)]

noncomputable def ahead0_X (a b : List UInt8) (q : UInt8) (h_ : List (Nat × Bool)) := lawOut (aBody Tryd.prog clT ⟨true, bs h_ ++ ([])⟩ (lpBy ([])) 60 6 ([.c (str a), .c (str b), byteC q]) ([]))

theorem ahead0_1 (a b : List UInt8) (q : UInt8) : ahead0_X a b q [(13, true)] = some ((AV.c ((Value.bool true))), [decide ((↑a.length : Int) > 300) = true]) := by kernel_rfl

theorem ahead0_2 (a b : List UInt8) (q : UInt8) : ahead0_X a b q [(13, false), (17, true)] = some ((AV.c ((Value.bool true))), [decide ((↑a.length : Int) > 300) = false,
 decide ((↑b.length : Int) > 300) = true]) := by kernel_rfl

theorem ahead0_all (a b : List UInt8) (q : UInt8) (h0 : (a.length : Int) > 300 ∨ (b.length : Int) > 300) : ∃ (h : Hints) (p : List Prop), lawOut (aBody Tryd.prog clT h (lpBy ([])) 60 6 ([.c (str a), .c (str b), byteC q]) ([])) = some (.c (.bool true), p) ∧ allP p := by
  refine bcase (decide ((↑a.length : Int) > (300 : Int))) (fun hc13 => ⟨_, _, (ahead0_1 a b q).trans (congrArg (fun r => some (r, _)) rfl), ?_⟩)
    (fun hc13 => ⟨_, _, (ahead0_2 a b q).trans (congrArg (fun r => some (r, _)) rfl), ?_⟩)
  all_goals try simp only [dz] at hc13
  all_goals try simp (disch := omega) only [std]
  all_goals repeat' apply And.intro
  all_goals first | exact True.intro | omega | with_reducible rfl | with_reducible assumption | rfl

noncomputable def ahead1_X (a b x w : List UInt8) (q : UInt8) (h_ : List (Nat × Bool)) := lawOut (aBody Tryd.prog clT ⟨true, bs h_ ++ (bs [(13, false), (17, false), (38, false), (45, false), (59, false), (74, true), (81, true)] ++ [(22, ⟨.c (str x), none⟩), (43, ⟨.c (str x), none⟩), (57, ⟨byteC q, none⟩), (67, ⟨.c (str [q]), none⟩), (70, ⟨.c (str w), none⟩), (72, ⟨.c (str x), none⟩), (79, ⟨.c (str x), none⟩)])⟩ (lpBy (eaLp a b x q)) 60 6 ([.c (str a), .c (str b), byteC q]) ([]))

theorem ahead1_1 (a b x w : List UInt8) (q : UInt8) : ahead1_X a b x w q [(52, true)] = some ((AV.c ((Value.bool true))), [decide ((↑a.length : Int) > 300) = false,
 decide ((↑b.length : Int) > 300) = false,
 (((0 : Int) : Int) ≤ ((↑q.toNat : Int))),
 (((↑q.toNat : Int) : Int) < ((256 : Int))),
 ((a.length : Nat) ≤ ((1000000000 : Nat))),
 ((aheadF (UInt8.ofNat q.toNat) a : List UInt8)) = (x),
 ((lbody Tryd.prog (6 : FuncId) (6 : Nat) : Go.Code)) = (lbody Tryd.prog (6 : FuncId) (6 : Nat)),
 ((eaS a b q x (0 : Nat) : Go.Proofs.YtfnappdgiomiiaaDoor.St)) = (eaS a b q x (0 : Nat)),
 decide ((↑x.length : Int) > ↑a.length) = false,
 (0 : Int) ≤ 0,
 (0 : Int) ≤ ↑x.length,
 (↑x.length : Int) ≤ ↑a.length,
 ((List.drop (Int.toNat (0 : Int)) (List.take x.length a) : List UInt8)) = (x),
 (!x == x) = false,
 decide ((↑x.length : Int) < ↑a.length) = true,
 (0 : Int) ≤ ↑x.length,
 (↑x.length : Int) < ↑a.length,
 (((↑(a.getD x.length 0).toNat : Int) : Int)) = ((↑q.toNat : Int)),
 ((↑q.toNat : Int) != (↑q.toNat : Int)) = false,
 (((1 : Nat) : Nat) ≤ ((1 : Nat))),
 bytesOK ([(AV.c ((Value.int .u8 ((↑q.toNat : Int)))))]),
 (([UInt8.ofNat (Int.toNat ((↑q.toNat : Int)))] : List UInt8)) = ([q]),
 ((a.length + (1 : Nat) : Nat) ≤ ((9223372036854775807 : Nat))),
 (((a ++ [q]).length + b.length : Nat) ≤ ((9223372036854775807 : Nat))),
 ((a ++ [q] ++ b : List UInt8)) = (w),
 (((0 : Int) : Int) ≤ ((↑q.toNat : Int))),
 (((↑q.toNat : Int) : Int) < ((256 : Int))),
 ((w.length : Nat) ≤ ((1000000000 : Nat))),
 ((aheadF (UInt8.ofNat q.toNat) w : List UInt8)) = (x),
 (x == x) = true,
 (((0 : Int) : Int) ≤ ((↑q.toNat : Int))),
 (((↑q.toNat : Int) : Int) < ((256 : Int))),
 ((x.length : Nat) ≤ ((1000000000 : Nat))),
 ((aheadF (UInt8.ofNat q.toNat) x : List UInt8)) = (x),
 (x == x) = true]) := by kernel_rfl

theorem ahead1_2 (a b x w : List UInt8) (q : UInt8) : ahead1_X a b x w q [(52, false)] = some ((AV.c ((Value.bool true))), [decide ((↑a.length : Int) > 300) = false,
 decide ((↑b.length : Int) > 300) = false,
 (((0 : Int) : Int) ≤ ((↑q.toNat : Int))),
 (((↑q.toNat : Int) : Int) < ((256 : Int))),
 ((a.length : Nat) ≤ ((1000000000 : Nat))),
 ((aheadF (UInt8.ofNat q.toNat) a : List UInt8)) = (x),
 ((lbody Tryd.prog (6 : FuncId) (6 : Nat) : Go.Code)) = (lbody Tryd.prog (6 : FuncId) (6 : Nat)),
 ((eaS a b q x (0 : Nat) : Go.Proofs.YtfnappdgiomiiaaDoor.St)) = (eaS a b q x (0 : Nat)),
 decide ((↑x.length : Int) > ↑a.length) = false,
 (0 : Int) ≤ 0,
 (0 : Int) ≤ ↑x.length,
 (↑x.length : Int) ≤ ↑a.length,
 ((List.drop (Int.toNat (0 : Int)) (List.take x.length a) : List UInt8)) = (x),
 (!x == x) = false,
 decide ((↑x.length : Int) < ↑a.length) = false,
 (((1 : Nat) : Nat) ≤ ((1 : Nat))),
 bytesOK ([(AV.c ((Value.int .u8 ((↑q.toNat : Int)))))]),
 (([UInt8.ofNat (Int.toNat ((↑q.toNat : Int)))] : List UInt8)) = ([q]),
 ((a.length + (1 : Nat) : Nat) ≤ ((9223372036854775807 : Nat))),
 (((a ++ [q]).length + b.length : Nat) ≤ ((9223372036854775807 : Nat))),
 ((a ++ [q] ++ b : List UInt8)) = (w),
 (((0 : Int) : Int) ≤ ((↑q.toNat : Int))),
 (((↑q.toNat : Int) : Int) < ((256 : Int))),
 ((w.length : Nat) ≤ ((1000000000 : Nat))),
 ((aheadF (UInt8.ofNat q.toNat) w : List UInt8)) = (x),
 (x == x) = true,
 (((0 : Int) : Int) ≤ ((↑q.toNat : Int))),
 (((↑q.toNat : Int) : Int) < ((256 : Int))),
 ((x.length : Nat) ≤ ((1000000000 : Nat))),
 ((aheadF (UInt8.ofNat q.toNat) x : List UInt8)) = (x),
 (x == x) = true]) := by kernel_rfl

theorem ahead1_all (a b x w : List UInt8) (q : UInt8) (h0 : a.length ≤ 300) (h1 : b.length ≤ 300) (h5 : q.toNat < 256) (hx : aheadF q a = x) (hxl : x.length ≤ a.length) (ht : a.take x.length = x) (hg : x.length < a.length → (((a.getD x.length 0).toNat : Nat) : Int) = ((q.toNat : Nat) : Int)) (hw : (a ++ [q]) ++ b = w) (hwl : w.length ≤ 601) (e1 : aheadF q w = x) (e2 : aheadF q x = x) : ∃ (h : Hints) (p : List Prop), lawOut (aBody Tryd.prog clT h (lpBy (eaLp a b x q)) 60 6 ([.c (str a), .c (str b), byteC q]) ([])) = some (.c (.bool true), p) ∧ allP p := by
  refine bcase (decide ((↑x.length : Int) < (↑a.length : Int))) (fun hc52 => ⟨_, _, (ahead1_1 a b x w q).trans (congrArg (fun r => some (r, _)) rfl), ?_⟩)
    (fun hc52 => ⟨_, _, (ahead1_2 a b x w q).trans (congrArg (fun r => some (r, _)) rfl), ?_⟩)
  all_goals try simp only [dz] at hc52
  all_goals try simp (disch := omega) only [std, beq_self_eq_true, Bool.not_true, UInt8.ofNat_toNat]
  all_goals repeat' apply And.intro
  all_goals first | exact True.intro | omega | with_reducible rfl | with_reducible assumption | (simp only [List.length_append, List.length_cons, List.length_nil]; omega) | with_reducible exact bytesOK1 q | exact hg (by omega) | exact hx | exact ht | exact hw | exact e1 | exact e2 | rfl

theorem tells_law (l : List UInt8) (c : UInt8) : ∃ hs lp fuel p, LpOK Ext0 Tryd.prog lp ∧ lawOut (aBody Tryd.prog clT hs lp fuel 3 [.c (str l), byteC c] []) = some (.c (.bool true), p) ∧ allP p := by
  obtain ⟨hh, p, e, hp⟩ := tells_all l c c.toNat_lt
  exact ⟨_, _, _, _, lpBy_nil, e, hp⟩

theorem back_law (a b : List UInt8) : ∃ hs lp fuel p, LpOK Ext0 Tryd.prog lp ∧ lawOut (aBody Tryd.prog clT hs lp fuel 4 [.c (str a), .c (str b)] []) = some (.c (.bool true), p) ∧ allP p := by
  by_cases h : (a.length : Int) > 300 ∨ (b.length : Int) > 300
  · obtain ⟨hh, p, e, hp⟩ := back0_all a b h
    exact ⟨_, _, _, _, lpBy_nil, e, hp⟩
  · have h1 := esc_len a
    have h2 := esc_len b
    obtain ⟨hh, p, e, hp⟩ := back1_all a b _ _ _ (by omega) (by omega) rfl rfl rfl h1.2 h1.1 h2.2 (by rw [List.length_append]; omega) (ent_esc0 a) (settled_esc a) (esc_app a b) (by rw [ent_esc, ent_esc0])
    exact ⟨_, _, _, _, lpBy_nil, e, hp⟩

theorem plain_law (l : List UInt8) : ∃ hs lp fuel p, LpOK Ext0 Tryd.prog lp ∧ lawOut (aBody Tryd.prog clT hs lp fuel 5 [.c (str l)] []) = some (.c (.bool true), p) ∧ allP p := by
  by_cases h : (l.length : Int) > 300
  · obtain ⟨hh, p, e, hp⟩ := plain0_all l h
    exact ⟨_, _, _, _, lpBy_nil, e, hp⟩
  · have h1 := esc_len l
    have h2 := ent_len l
    obtain ⟨hh, p, e, hp⟩ := plain1_all l _ _ (l.all fairE) _ _ (by omega) rfl (by omega) (plain_esc l) (ahead_esc (.inl rfl) l) (ahead_esc (.inr (.inl rfl)) l) (ahead_esc (.inr (.inr rfl)) l) rfl rfl (by omega) (fun hq => beq_iff_eq.1 hq) rfl (fun hr => (plain_ahead hr).1) (fun hr => (plain_ahead hr).2)
    exact ⟨_, _, _, _, lpBy_cons lpBy_nil List.nodup_nil (ep_walk l (by omega)), e, hp⟩

theorem ahead_law (a b : List UInt8) (q : UInt8) : ∃ hs lp fuel p, LpOK Ext0 Tryd.prog lp ∧ lawOut (aBody Tryd.prog clT hs lp fuel 6 [.c (str a), .c (str b), byteC q] []) = some (.c (.bool true), p) ∧ allP p := by
  by_cases h : (a.length : Int) > 300 ∨ (b.length : Int) > 300
  · obtain ⟨hh, p, e, hp⟩ := ahead0_all a b q h
    exact ⟨_, _, _, _, lpBy_nil, e, hp⟩
  · obtain ⟨k1, k2, k3, k4⟩ := ahead_drop q a
    have kx : ∀ j, j < (aheadF q a).length → (aheadF q a).getD j 0 ≠ q := fun j hj => by
      have := ahead_no q a ((aheadF q a).getD j 0) (by
        have e : (aheadF q a)[j] = (aheadF q a).getD j 0 := by simp [List.getD, hj]
        rw [← e]
        exact List.getElem_mem _)
      exact this
    obtain ⟨hh, p, e, hp⟩ := ahead1_all a b _ _ q (by omega) (by omega) q.toNat_lt rfl k1 k4 (fun hlt => u8_eq_iff.2 (k3 hlt)) rfl (by simp only [List.length_append, List.length_singleton]; omega) (by rw [List.append_assoc]; exact ahead_app a b) (ahead_twice q a)
    exact ⟨_, _, _, _, lpBy_cons lpBy_nil List.nodup_nil (ea_walk a b _ q (by omega) kx), e, hp⟩

end Go.Proofs.YtfnappdgiomiiaaDoor
