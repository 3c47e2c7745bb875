/- Values that may be written: the program's own. -/
import Derived.Test.YtfnappdgiomiiaaDoorEscA
import Derived.Test.YtfnappdgiomiiaaDoorCln
namespace Go.Proofs.YtfnappdgiomiiaaDoor
open Go.RowKit Ent
set_option linter.unusedVariables false
set_option linter.unusedSimpArgs false

/-- What stands in place of a byte; nothing, if it stands as it is. -/
def refE (c : UInt8) : List UInt8 := if spE c = true then oneE c else []
def refV (n : Int) : Value := str (refE (UInt8.ofNat n.toNat))

theorem prf_ok : SpecOK Tryd.prog 19 (byteSpec refV) := byteMap_ok cl0_ok (by kernel_rfl)

theorem refV_at (c : UInt8) : refV ((c.toNat : Nat) : Int) = str (refE c) := by
  unfold refV
  rw [Int.toNat_natCast, UInt8.ofNat_toNat]


/-! Escape. -/
noncomputable def clPe : CallT := aCallH Tryd.prog (sgBy [(19, byteSpec refV)]) (hsgBy [(20, wsSpec), (21, wbSpec), (18, groSpec), (22, bstSpec)]) 500 8

theorem clPe_ok : CallOK Tryd.prog clPe := aCallH_ok mixed (sgBy_cons prf_ok sgBy_nil) (hsgBy_cons ws_ok (hsgBy_cons wb_ok (hsgBy_cons gro_ok (hsgBy_cons bst_ok hsgBy_nil)))) 500 8

def peG (l : List UInt8) (i n : Nat) (L : List AV) : St := ⟨frame 28 [(0, .c (str l)), (3, .pt 0 0), (4, .c (.int .i64 i))], [some ⟨32, true, [.pt 0 0, .sl 1 0 n]⟩, some ⟨5, false, L⟩]⟩
def peS (l out : List UInt8) (i : Nat) : St := peG l i out.length (byts out)

theorem peS_add (l out x : List UInt8) (i : Nat) : peG l i (out.length + x.length) (List.take out.length (byts out) ++ byts x) = peS l (out ++ x) i := by
  unfold peS
  rw [byts_put, List.length_append]

noncomputable def peA_X (l out x : List UInt8) (i : Nat) (h_ : List (Nat × Bool)) := roundOut (⟨[], [0, 3, 4], [0, 2]⟩) (aCode Tryd.prog clPe ⟨true, bs h_ ++ (bs [(12, true), (20, true)] ++ [(18, ⟨.c (str x), none⟩)])⟩ (lpBy ([])) 60 (lbody Tryd.prog 9 4) (peS l out i))

theorem peA_1 (l out x : List UInt8) (i : Nat) : peA_X l out x i [] = some (.normal, ⟨frame 28 [(0, (AV.c ((str (l))))), (3, (AV.pt 0 0)), (4, (AV.c ((Value.int .i64 ((↑i : Int) + (1 : Int))))))], [(.some ⟨32, true, [(AV.pt 0 0),
 (AV.sl 1 0 (out.length + x.length))]⟩),
 (.some ⟨5, false, (List.take out.length (byts out) ++ byts x)⟩)]⟩, [decide ((↑i : Int) < ↑l.length) = true,
 (0 : Int) ≤ ↑i,
 (↑i : Int) < ↑l.length,
 (((0 : Int) : Int) ≤ ((↑(l.getD i 0).toNat : Int))),
 (((↑(l.getD i 0).toNat : Int) : Int) < ((256 : Int))),
 ((refE (UInt8.ofNat (l.getD i 0).toNat) : List UInt8)) = (x),
 (!x == []) = true,
 ((out.length : Nat) ≤ ((byts out).length)),
 ((out.length + x.length : Nat) ≤ ((140737488355328 : Nat))),
 (IntKind.i64.min : Int) ≤ ↑i + 1,
 (↑i + 1 : Int) ≤ IntKind.i64.max]) := by kernel_rfl

theorem peA_all (l out x : List UInt8) (i : Nat) (hi : i < l.length) (hx : refE (l.getD i 0) = x) (hn : (!x == []) = true) (hl : l.length ≤ 1000000000) (hol : out.length ≤ 5000000000) (hxl : x.length ≤ 5) (h5 : (l.getD i 0).toNat < 256) : Round Ext0 Tryd.prog clPe (lbody Tryd.prog 9 4) (peS l out i) (.normal) (peS l (out ++ x) (i + 1)) := by
  refine ⟨_, _, _, _, _, lpBy_nil, by decide, (peA_1 l out x i).trans (congrArg (fun S : St => some ((.normal : Exit), S, _)) ?_), ?_⟩
  any_goals (
    exact peS_add l out x (i + 1)
    done)
  all_goals try simp (disch := omega) only [std, UInt8.ofNat_toNat, byts_length]
  all_goals repeat' apply And.intro
  all_goals first | exact True.intro | omega | with_reducible rfl | with_reducible assumption | exact hx | exact hn | rfl


noncomputable def peB_X (l out x : List UInt8) (i : Nat) (h_ : List (Nat × Bool)) := roundOut (⟨[], [0, 3, 4], [0, 3]⟩) (aCode Tryd.prog clPe ⟨true, bs h_ ++ (bs [(12, true), (20, false)] ++ [(18, ⟨.c (str x), none⟩)])⟩ (lpBy ([])) 60 (lbody Tryd.prog 9 4) (peS l out i))

theorem peB_1 (l out x : List UInt8) (i : Nat) : peB_X l out x i [] = some (.normal, ⟨frame 28 [(0, (AV.c ((str (l))))), (3, (AV.pt 0 0)), (4, (AV.c ((Value.int .i64 ((↑i : Int) + (1 : Int))))))], [(.some ⟨32, true, [(AV.pt 0 0),
 (AV.sl 1 0 (out.length + (1 : Nat)))]⟩),
 (.some ⟨5, false, (List.take out.length (byts out) ++ byts [UInt8.ofNat (l.getD i (0 : UInt8)).toNat])⟩)]⟩, [decide ((↑i : Int) < ↑l.length) = true,
 (0 : Int) ≤ ↑i,
 (↑i : Int) < ↑l.length,
 (((0 : Int) : Int) ≤ ((↑(l.getD i 0).toNat : Int))),
 (((↑(l.getD i 0).toNat : Int) : Int) < ((256 : Int))),
 ((refE (UInt8.ofNat (l.getD i 0).toNat) : List UInt8)) = (x),
 (!x == []) = false,
 (0 : Int) ≤ ↑i,
 (↑i : Int) < ↑l.length,
 (((0 : Int) : Int) ≤ ((↑(l.getD i 0).toNat : Int))),
 (((↑(l.getD i 0).toNat : Int) : Int) < ((256 : Int))),
 ((out.length : Nat) ≤ ((byts out).length)),
 ((out.length + (1 : Nat) : Nat) ≤ ((140737488355328 : Nat))),
 (IntKind.i64.min : Int) ≤ ↑i + 1,
 (↑i + 1 : Int) ≤ IntKind.i64.max]) := by kernel_rfl

theorem peB_all (l out x : List UInt8) (i : Nat) (hi : i < l.length) (hx : refE (l.getD i 0) = x) (hn : (!x == []) = false) (hl : l.length ≤ 1000000000) (hol : out.length ≤ 5000000000) (hxl : x.length ≤ 5) (h5 : (l.getD i 0).toNat < 256) : Round Ext0 Tryd.prog clPe (lbody Tryd.prog 9 4) (peS l out i) (.normal) (peS l (out ++ [l.getD i 0]) (i + 1)) := by
  refine ⟨_, _, _, _, _, lpBy_nil, by decide, (peB_1 l out x i).trans (congrArg (fun S : St => some ((.normal : Exit), S, _)) ?_), ?_⟩
  any_goals (
    (rw [UInt8.ofNat_toNat]; exact peS_add l out [l.getD i 0] (i + 1))
    done)
  all_goals try simp (disch := omega) only [std, UInt8.ofNat_toNat, byts_length]
  all_goals repeat' apply And.intro
  all_goals first | exact True.intro | omega | with_reducible rfl | with_reducible assumption | exact hx | exact hn | rfl


noncomputable def peZ_X (l out x : List UInt8) (i : Nat) (h_ : List (Nat × Bool)) := roundOut (⟨[], [0, 3, 4], [0, 1]⟩) (aCode Tryd.prog clPe ⟨true, bs h_ ++ (bs [(12, false)] ++ [(18, ⟨.c (str x), none⟩)])⟩ (lpBy ([])) 60 (lbody Tryd.prog 9 4) (peS l out i))

theorem peZ_1 (l out x : List UInt8) (i : Nat) : peZ_X l out x i [] = some (.exit 0, ⟨frame 28 [(0, (AV.c ((str (l))))), (3, (AV.pt 0 0)), (4, (AV.c ((Value.int .i64 ((↑i : Int))))))], [(.some ⟨32, true, [(AV.pt 0 0),
 (AV.sl 1 0 out.length)]⟩),
 (.some ⟨5, false, (byts out)⟩)]⟩, [decide ((↑i : Int) < ↑l.length) = false]) := by kernel_rfl

theorem peZ_all (l out x : List UInt8) (i : Nat) (hi : i = l.length) (hl : l.length ≤ 1000000000) (hol : out.length ≤ 5000000000) (hxl : x.length ≤ 5) (h5 : (l.getD i 0).toNat < 256) : Round Ext0 Tryd.prog clPe (lbody Tryd.prog 9 4) (peS l out i) (.exit 0) (peS l out i) := by
  refine ⟨_, _, _, _, _, lpBy_nil, by decide, (peZ_1 l out x i).trans (congrArg (fun S : St => some ((.exit 0 : Exit), S, _)) ?_), ?_⟩
  any_goals (
    rfl
    done)
  all_goals try simp (disch := omega) only [std, UInt8.ofNat_toNat, byts_length]
  all_goals repeat' apply And.intro
  all_goals first | exact True.intro | omega | with_reducible rfl | with_reducible assumption | exact hi | rfl

theorem refE_sp {c : UInt8} (h : spE c = true) : refE c = oneE c := if_pos h
theorem refE_no {c : UInt8} (h : spE c = false) : refE c = [] := if_neg (by rw [h]; decide)
theorem refE_len (c : UInt8) : (refE c).length ≤ 5 := by
  have := one_len c
  cases h : spE c with
  | true => rw [refE_sp h]; omega
  | false => rw [refE_no h]; decide

theorem one_ne (c : UInt8) : (oneE c == []) = false := beq_eq_false_iff_ne.2 fun e => by
  have := one_len c
  rw [e] at this
  simp at this

theorem pe_walk (l : List UInt8) (hl : l.length ≤ 1000000000) : Tri Ext0 Tryd.prog (.loop (lbody Tryd.prog 9 4)) (peS l [] 0) (.exit 0) (peS l (escF l) l.length) := by
  have h := loop_up mixed clPe_ok (b := lbody Tryd.prog 9 4) (fun i => peS l (escF (l.take i)) i) l.length (e := .exit 0) (R := peS l (escF l) l.length) (by simp) (fun i hi => by
    have h5 := esc_take_len l i
    rw [esc_snoc l i hi]
    cases hs : spE (l.getD i 0) with
    | true =>
      rw [← refE_sp hs]
      exact peA_all l _ _ i hi rfl (by rw [refE_sp hs, one_ne]; rfl) hl (by omega) (refE_len _) (UInt8.toNat_lt _)
    | false =>
      rw [((one_sp _).2 hs).1]
      exact peB_all l _ _ i hi rfl (by rw [refE_no hs]; rfl) hl (by omega) (refE_len _) (UInt8.toNat_lt _)) (by
    have := esc_take_len l l.length
    rw [List.take_length] at this ⊢
    exact peZ_all l _ (refE (l.getD l.length 0)) l.length rfl hl (by omega) (refE_len _) (UInt8.toNat_lt _)) 0 (Nat.zero_le _)
  exact h

noncomputable def peLp (l : List UInt8) : List (Nat × Lp) := [(4, ⟨lbody Tryd.prog 9 4, ⟨[], [0, 3, 4], [0, 1]⟩, peS l [] 0, .exit 0, peS l (escF l) l.length⟩)]

noncomputable def pee_X (l : List UInt8) (h_ : List (Nat × Bool)) := outcome Tryd.prog 9 (aBody Tryd.prog clPe ⟨true, bs h_ ++ ([])⟩ (lpBy (peLp l)) 60 9 ([.c (str l)]) ([]))

theorem pee_1 (l : List UInt8) : pee_X l [] = some ((AV.c ((str (unbyts (List.take (escF l).length (byts (escF l))))))), [(0 : Int) < ↑l.length,
 (↑l.length : Int) ≤ 281474976710656,
 ((lbody Tryd.prog (9 : FuncId) (4 : Nat) : Go.Code)) = (lbody Tryd.prog (9 : FuncId) (4 : Nat)),
 ((peS l [] (0 : Nat) : Go.Proofs.YtfnappdgiomiiaaDoor.St)) = (peS l [] (0 : Nat)),
 (((0 : Nat) : Nat) < ((escF l).length)),
 (((escF l).length : Nat) ≤ ((byts (escF l)).length)),
 bytesOK (List.take (escF l).length (byts (escF l))),
 (((escF l).length : Nat) ≤ ((4611686018427387904 : Nat)))]) := by kernel_rfl

theorem pee_all (l : List UInt8) (h0 : 0 < l.length) (h1 : l.length ≤ 1000000000) (h2 : (escF l).length ≤ 5 * l.length) (h3 : l.length ≤ (escF l).length) : ∃ (h : Hints) (p : List Prop), outcome Tryd.prog 9 (aBody Tryd.prog clPe h (lpBy (peLp l)) 60 9 ([.c (str l)]) ([])) = some (.c (str (escF l)), p) ∧ allP p := by
  refine ⟨_, _, (pee_1 l).trans (congrArg (fun r => some (r, _)) ?_), ?_⟩
  any_goals (
    rw [byts_tk, unbyts_byts]
    done)
  all_goals try simp (disch := omega) only [std, byts_tk, byts_length]
  all_goals repeat' apply And.intro
  all_goals first | exact True.intro | omega | with_reducible rfl | with_reducible assumption | exact bytesOK_byts _ | rfl

/-! Of nothing. -/
noncomputable def clPz : CallT := aCallH Tryd.prog (sgBy []) (hsgBy [(18, gro0Spec), (22, bstSpec)]) 500 8

theorem clPz_ok : CallOK Tryd.prog clPz := aCallH_ok mixed sgBy_nil (hsgBy_cons gro0_ok (hsgBy_cons bst_ok hsgBy_nil)) 500 8

noncomputable def pez_X  (h_ : List (Nat × Bool)) := outcome Tryd.prog 9 (aBody Tryd.prog clPz ⟨true, bs h_ ++ ([])⟩ (lpBy ([])) 60 9 ([.c (str [])]) ([]))

theorem pez_1  : pez_X  [] = some ((AV.c ((str ([])))), []) := by kernel_rfl

theorem pez_all   : ∃ (h : Hints) (p : List Prop), outcome Tryd.prog 9 (aBody Tryd.prog clPz h (lpBy ([])) 60 9 ([.c (str [])]) ([])) = some (.c (str []), p) ∧ allP p := by
  refine ⟨_, _, (pez_1 ).trans (congrArg (fun r => some (r, _)) (by first | rfl | (simp (disch := omega) only [std]; done))), ?_⟩
  all_goals try simp (disch := omega) only [std]
  all_goals repeat' apply And.intro
  all_goals first | exact True.intro | omega | with_reducible rfl | with_reducible assumption | rfl

/-- A contract of a function of one text, at this text. -/
def atSpec (l : List UInt8) (r : AV) : Spec
  | [.c (.string s)] => if sb s = l then some (r, []) else none
  | _ => none

theorem at_ok {f : FuncId} {cl : CallT} (hcl : CallOK Tryd.prog cl) {l : List UInt8} {r : AV} (h : ∃ hs lp fuel q, LpOK Ext0 Tryd.prog lp ∧ outcome Tryd.prog f (aBody Tryd.prog cl hs lp fuel f [.c (str l)] []) = some (r, q) ∧ allP q) : SpecOK Tryd.prog f (atSpec l r) := by
  refine spec_of mixed hcl fun args r' q hs hq => ?_
  unfold atSpec at hs
  split at hs
  · rename_i s
    obtain ⟨⟨⟨k⟩⟩, rfl⟩ : ∃ b : ByteArray, b = s := ⟨s, rfl⟩
    split at hs
    · rename_i ha
      have ha : k = l := ha
      subst ha
      simp only [Option.some.injEq, Prod.mk.injEq] at hs
      obtain ⟨rfl, rfl⟩ := hs
      exact h
    · simp at hs
  · simp at hs

theorem escOf_ok (l : List UInt8) (hl : l.length ≤ 1000000000) : SpecOK Tryd.prog 9 (atSpec l (.c (str (escF l)))) := by
  by_cases h : 0 < l.length
  · obtain ⟨hh, p, e, hp⟩ := pee_all l h hl (esc_len l).2 (esc_len l).1
    exact at_ok clPe_ok ⟨_, _, _, _, lpBy_cons lpBy_nil (by simp) (pe_walk l hl), e, hp⟩
  · have hl0 : l = [] := List.length_eq_zero_iff.1 (by omega)
    subst hl0
    obtain ⟨hh, p, e, hp⟩ := pez_all
    exact at_ok clPz_ok ⟨_, _, _, _, lpBy_nil, e, hp⟩

theorem pesc_ok : SpecOK Tryd.prog 9 escSpec := by
  refine spec_by fun args r q hs hq => ?_
  unfold escSpec at hs
  split at hs
  · rename_i s
    simp only [Option.some.injEq, Prod.mk.injEq] at hs
    obtain ⟨rfl, rfl⟩ := hs
    exact ⟨_, escOf_ok (sb s) hq.1, [], if_pos rfl, trivial⟩
  · simp at hs


/-! Does one of the six stand there? -/
noncomputable def clBg : CallT := aCall Tryd.prog (sgBy [(19, byteSpec refV), (43, preSpec)]) 500 8
theorem clBg_ok : CallOK Tryd.prog clBg := aCall_ok mixed (sgBy_cons prf_ok (sgBy_cons pre_ok sgBy_nil)) 500 8

def rk : List UInt8 := [38, 34, 39, 60, 62, 96]
def bgS (l : List UInt8) (i : Nat) : St := ⟨frame 13 [(0, .c (str l)), (3, .c (.int .i64 i))], []⟩
def bgR : St := ⟨frame 13 [(2, .c (.bool true))], []⟩

noncomputable def bgA_X (l x : List UInt8) (i : Nat) (c : UInt8) (h_ : List (Nat × Bool)) := roundOut (⟨[], [0, 3], []⟩) (aCode Tryd.prog clBg ⟨true, bs h_ ++ (bs [(5, true), (12, false)] ++ [(10, ⟨byteC c, none⟩), (11, ⟨.c (str x), none⟩)])⟩ (lpBy ([])) 60 (lbody Tryd.prog 24 2) (bgS l i))

theorem bgA_1 (l x : List UInt8) (i : Nat) (c : UInt8) : bgA_X l x i c [] = some (.normal, ⟨frame 13 [(0, (AV.c ((str (l))))), (3, (AV.c ((Value.int .i64 ((↑i : Int) + (1 : Int))))))], []⟩, [decide ((↑i : Int) < 6) = true,
 (0 : Int) ≤ ↑i,
 (↑i : Int) < ↑(6 : Nat),
 (((↑([(38 : UInt8), (34 : UInt8), (39 : UInt8), (60 : UInt8), (62 : UInt8), (96 : UInt8)].getD i 0).toNat : Int) : Int)) = ((↑c.toNat : Int)),
 (((0 : Int) : Int) ≤ ((↑c.toNat : Int))),
 (((↑c.toNat : Int) : Int) < ((256 : Int))),
 ((refE (UInt8.ofNat c.toNat) : List UInt8)) = (x),
 ((l.length : Nat) ≤ ((9223372036854775807 : Nat))),
 (preB x l) = false,
 (IntKind.i64.min : Int) ≤ ↑i + 1,
 (↑i + 1 : Int) ≤ IntKind.i64.max]) := by kernel_rfl

theorem bgA_all (l x : List UInt8) (i : Nat) (c : UInt8) (hi : i < 6) (hp : preB x l = false) (hl : l.length ≤ 1000000000) (hc : rk.getD i 0 = c) (hx : refE c = x) (h5 : c.toNat < 256) : Round Ext0 Tryd.prog clBg (lbody Tryd.prog 24 2) (bgS l i) (.normal) (bgS l (i + 1)) := by
  refine ⟨_, _, _, _, _, lpBy_nil, by decide, (bgA_1 l x i c).trans (congrArg (fun S : St => some ((.normal : Exit), S, _)) (by first | rfl | (simp (disch := omega) only [std, UInt8.ofNat_toNat]; done))), ?_⟩
  all_goals try simp (disch := omega) only [std, UInt8.ofNat_toNat]
  all_goals repeat' apply And.intro
  all_goals first | exact True.intro | omega | with_reducible rfl | with_reducible assumption | exact congrArg (fun c : UInt8 => ((c.toNat : Nat) : Int)) hc | exact hp | exact hc | exact hx | rfl


noncomputable def bgB_X (l x : List UInt8) (i : Nat) (c : UInt8) (h_ : List (Nat × Bool)) := roundOut (⟨[], [2], []⟩) (aCode Tryd.prog clBg ⟨true, bs h_ ++ (bs [(5, true), (12, true)] ++ [(10, ⟨byteC c, none⟩), (11, ⟨.c (str x), none⟩)])⟩ (lpBy ([])) 60 (lbody Tryd.prog 24 2) (bgS l i))

theorem bgB_1 (l x : List UInt8) (i : Nat) (c : UInt8) : bgB_X l x i c [] = some (.ret, ⟨frame 13 [(2, (AV.c ((Value.bool true))))], []⟩, [decide ((↑i : Int) < 6) = true,
 (0 : Int) ≤ ↑i,
 (↑i : Int) < ↑(6 : Nat),
 (((↑([(38 : UInt8), (34 : UInt8), (39 : UInt8), (60 : UInt8), (62 : UInt8), (96 : UInt8)].getD i 0).toNat : Int) : Int)) = ((↑c.toNat : Int)),
 (((0 : Int) : Int) ≤ ((↑c.toNat : Int))),
 (((↑c.toNat : Int) : Int) < ((256 : Int))),
 ((refE (UInt8.ofNat c.toNat) : List UInt8)) = (x),
 ((l.length : Nat) ≤ ((9223372036854775807 : Nat))),
 (preB x l) = true]) := by kernel_rfl

theorem bgB_all (l x : List UInt8) (i : Nat) (c : UInt8) (hi : i < 6) (hp : preB x l = true) (hl : l.length ≤ 1000000000) (hc : rk.getD i 0 = c) (hx : refE c = x) (h5 : c.toNat < 256) : Round Ext0 Tryd.prog clBg (lbody Tryd.prog 24 2) (bgS l i) (.ret) (bgR) := by
  refine ⟨_, _, _, _, _, lpBy_nil, by decide, (bgB_1 l x i c).trans (congrArg (fun S : St => some ((.ret : Exit), S, _)) (by first | rfl | (simp (disch := omega) only [std, UInt8.ofNat_toNat]; done))), ?_⟩
  all_goals try simp (disch := omega) only [std, UInt8.ofNat_toNat]
  all_goals repeat' apply And.intro
  all_goals first | exact True.intro | omega | with_reducible rfl | with_reducible assumption | exact congrArg (fun c : UInt8 => ((c.toNat : Nat) : Int)) hc | exact hp | exact hc | exact hx | rfl


noncomputable def bgZ_X (l x : List UInt8) (i : Nat) (c : UInt8) (h_ : List (Nat × Bool)) := roundOut (⟨[], [0, 3], []⟩) (aCode Tryd.prog clBg ⟨true, bs h_ ++ (bs [(5, false)] ++ [(10, ⟨byteC c, none⟩), (11, ⟨.c (str x), none⟩)])⟩ (lpBy ([])) 60 (lbody Tryd.prog 24 2) (bgS l i))

theorem bgZ_1 (l x : List UInt8) (i : Nat) (c : UInt8) : bgZ_X l x i c [] = some (.exit 0, ⟨frame 13 [(0, (AV.c ((str (l))))), (3, (AV.c ((Value.int .i64 ((↑i : Int))))))], []⟩, [decide ((↑i : Int) < 6) = false]) := by kernel_rfl

theorem bgZ_all (l x : List UInt8) (i : Nat) (c : UInt8) (hi : i = 6) (hl : l.length ≤ 1000000000) (hc : rk.getD i 0 = c) (hx : refE c = x) (h5 : c.toNat < 256) : Round Ext0 Tryd.prog clBg (lbody Tryd.prog 24 2) (bgS l i) (.exit 0) (bgS l i) := by
  refine ⟨_, _, _, _, _, lpBy_nil, by decide, (bgZ_1 l x i c).trans (congrArg (fun S : St => some ((.exit 0 : Exit), S, _)) (by first | rfl | (simp (disch := omega) only [std, UInt8.ofNat_toNat]; done))), ?_⟩
  all_goals try simp (disch := omega) only [std, UInt8.ofNat_toNat]
  all_goals repeat' apply And.intro
  all_goals first | exact True.intro | omega | with_reducible rfl | with_reducible assumption | exact congrArg (fun c : UInt8 => ((c.toNat : Nat) : Int)) hc | exact hi | exact hc | exact hx | rfl

theorem pre_five {t l : List UInt8} (h : t.length = 5) : preB t l = (l.take 5 == t) := by
  unfold preB
  rw [h]
  cases hb : (l.take 5 == t) with
  | false => rw [Bool.and_false]
  | true =>
    rw [beq_iff_eq] at hb
    have := congrArg List.length hb
    rw [List.length_take] at this
    rw [decide_eq_true (by omega)]
    rfl

theorem bg_at (i : Nat) (hi : i < 6) : refE (rk.getD i 0) = sixT.getD i [] ∧ (sixT.getD i []).length = 5 ∧ sixT.drop i = sixT.getD i [] :: sixT.drop (i + 1) := by
  have key : ∀ k : Fin 6, refE (rk.getD k.val 0) = sixT.getD k.val [] ∧ (sixT.getD k.val []).length = 5 ∧ sixT.drop k.val = sixT.getD k.val [] :: sixT.drop (k.val + 1) := by decide +kernel
  exact key ⟨i, hi⟩

theorem bg_walk (l : List UInt8) (hl : l.length ≤ 1000000000) : Tri Ext0 Tryd.prog (.loop (lbody Tryd.prog 24 2)) (bgS l 0) (if standsF l = true then .ret else .exit 0) (if standsF l = true then bgR else bgS l 6) := by
  refine loop_inv mixed clBg_ok (fun i => bgS l i) (fun i => i ≤ 6 ∧ ((sixT.drop i).any fun t => l.take 5 == t) = standsF l) (fun i => 6 - i) (fun i hx => ?_) 0 ⟨by omega, rfl⟩
  obtain ⟨h1, h2⟩ := hx
  by_cases hi : i < 6
  · obtain ⟨k1, k2, k3⟩ := bg_at i hi
    rw [k3, List.any_cons, ← pre_five k2] at h2
    cases hp : preB (sixT.getD i []) l with
    | true =>
      rw [hp, Bool.true_or] at h2
      rw [← h2]
      exact .inr ⟨by simp, bgB_all l _ i _ hi hp hl rfl k1 (UInt8.toNat_lt _)⟩
    | false =>
      rw [hp, Bool.false_or] at h2
      exact .inl ⟨i + 1, ⟨hi, h2⟩, by omega, bgA_all l _ i _ hi hp hl rfl k1 (UInt8.toNat_lt _)⟩
  · have he : i = 6 := by omega
    subst he
    have h2 : standsF l = false := h2.symm
    rw [h2]
    exact .inr ⟨by simp, bgZ_all l _ 6 _ rfl hl rfl rfl (UInt8.toNat_lt _)⟩

noncomputable def bgLp (l : List UInt8) (e : Exit) (R : St) : List (Nat × Lp) := [(2, ⟨lbody Tryd.prog 24 2, ⟨[], [0, 3], []⟩, bgS l 0, e, R⟩)]

noncomputable def bgl1_X (l : List UInt8) (h_ : List (Nat × Bool)) := outcome Tryd.prog 24 (aBody Tryd.prog clBg ⟨true, bs h_ ++ ([])⟩ (lpBy (bgLp l (.exit 0) (bgS l 6))) 60 24 ([.c (str l)]) ([]))

theorem bgl1_1 (l : List UInt8) : bgl1_X l [] = some ((AV.c ((Value.bool false))), [((lbody Tryd.prog (24 : FuncId) (2 : Nat) : Go.Code)) = (lbody Tryd.prog (24 : FuncId) (2 : Nat)),
 ((bgS l (0 : Nat) : Go.Proofs.YtfnappdgiomiiaaDoor.St)) = (bgS l (0 : Nat))]) := by kernel_rfl

theorem bgl1_all (l : List UInt8)  : ∃ (h : Hints) (p : List Prop), outcome Tryd.prog 24 (aBody Tryd.prog clBg h (lpBy (bgLp l (.exit 0) (bgS l 6))) 60 24 ([.c (str l)]) ([])) = some (.c (.bool false), p) ∧ allP p := by
  have eR := bgl1_1 l
  refine ⟨_, _, eR.trans (congrArg (fun r => some (r, _)) ?_), ?_⟩
  · rfl
  · try simp only [dz] at *
    try simp (disch := omega) only [std, bytesOK_cons, bytesOK_nil]
    repeat' apply And.intro
    all_goals first | exact True.intro | omega | assumption | rfl | exact avEq_refl _


noncomputable def bgl2_X (l : List UInt8) (h_ : List (Nat × Bool)) := outcome Tryd.prog 24 (aBody Tryd.prog clBg ⟨true, bs h_ ++ ([])⟩ (lpBy (bgLp l .ret bgR)) 60 24 ([.c (str l)]) ([]))

theorem bgl2_1 (l : List UInt8) : bgl2_X l [] = some ((AV.c ((Value.bool true))), [((lbody Tryd.prog (24 : FuncId) (2 : Nat) : Go.Code)) = (lbody Tryd.prog (24 : FuncId) (2 : Nat)),
 ((bgS l (0 : Nat) : Go.Proofs.YtfnappdgiomiiaaDoor.St)) = (bgS l (0 : Nat))]) := by kernel_rfl

theorem bgl2_all (l : List UInt8)  : ∃ (h : Hints) (p : List Prop), outcome Tryd.prog 24 (aBody Tryd.prog clBg h (lpBy (bgLp l .ret bgR)) 60 24 ([.c (str l)]) ([])) = some (.c (.bool true), p) ∧ allP p := by
  have eR := bgl2_1 l
  refine ⟨_, _, eR.trans (congrArg (fun r => some (r, _)) ?_), ?_⟩
  · rfl
  · try simp only [dz] at *
    try simp (disch := omega) only [std, bytesOK_cons, bytesOK_nil]
    repeat' apply And.intro
    all_goals first | exact True.intro | omega | assumption | rfl | exact avEq_refl _

def beginsSpec : Spec
  | [.c (.string s)] => some (.c (.bool (standsF (sb s))), [(sb s).length ≤ 1000000000])
  | _ => none

theorem pbeg_ok : SpecOK Tryd.prog 24 beginsSpec := by
  refine spec_of mixed clBg_ok fun args r q hs hq => ?_
  unfold beginsSpec at hs
  split at hs
  · rename_i l
    simp only [Option.some.injEq, Prod.mk.injEq] at hs
    obtain ⟨rfl, rfl⟩ := hs
    obtain ⟨⟨⟨l⟩⟩, rfl⟩ : ∃ b : ByteArray, b = l := ⟨l, rfl⟩
    simp only [sb_mk, allP, and_true] at hq ⊢
    have hw := bg_walk l hq
    cases hb : standsF l with
    | true =>
      rw [hb] at hw
      obtain ⟨hh, q, e, hp⟩ := bgl2_all l
      exact ⟨_, _, _, _, lpBy_cons lpBy_nil (by simp) hw, e, hp⟩
    | false =>
      rw [hb] at hw
      obtain ⟨hh, q, e, hp⟩ := bgl1_all l
      exact ⟨_, _, _, _, lpBy_cons lpBy_nil (by simp) hw, e, hp⟩
  · simp at hs

/-! Plain. -/
noncomputable def clPp : CallT := aCall Tryd.prog (sgBy [(19, (byteSpec refV)), (24, beginsSpec)]) 500 8
theorem clPp_ok : CallOK Tryd.prog clPp := aCall_ok mixed (sgBy_cons prf_ok (sgBy_cons pbeg_ok sgBy_nil)) 500 8

def ppS (l : List UInt8) (i : Nat) : St := ⟨frame 33 [(0, .c (str l)), (3, .c (.int .i64 i))], []⟩
def ppR : St := ⟨frame 33 [(2, .c (.bool false))], []⟩

noncomputable def ppA_X (l x : List UInt8) (i : Nat) (h_ : List (Nat × Bool)) := roundOut (⟨[], [2], []⟩) (aCode Tryd.prog clPp ⟨true, bs h_ ++ (bs [(8, true)] ++ [(31, ⟨.c (str x), none⟩)])⟩ (lpBy ([])) 60 (lbody Tryd.prog 11 2) (ppS l i))

theorem ppA_1 (l x : List UInt8) (i : Nat) : ppA_X l x i [(16, true)] = some (.ret, ⟨frame 33 [(2, (AV.c ((Value.bool false))))], []⟩, [decide ((↑i : Int) < ↑l.length) = true,
 (0 : Int) ≤ ↑i,
 (↑i : Int) < ↑l.length,
 (decide ((↑(l.getD i 0).toNat : Int) < (32 : Int))) = true]) := by kernel_rfl

theorem ppA_2 (l x : List UInt8) (i : Nat) : ppA_X l x i [(16, false), (19, true)] = some (.ret, ⟨frame 33 [(2, (AV.c ((Value.bool false))))], []⟩, [decide ((↑i : Int) < ↑l.length) = true,
 (0 : Int) ≤ ↑i,
 (↑i : Int) < ↑l.length,
 (decide ((↑(l.getD i 0).toNat : Int) < (32 : Int))) = false,
 (decide ((↑(l.getD i 0).toNat : Int) > (126 : Int))) = true]) := by kernel_rfl

theorem ppA_all (l x : List UInt8) (i : Nat) (hi : i < l.length) (hn : (((l.getD i 0).toNat : Nat) : Int) < 32 ∨ (((l.getD i 0).toNat : Nat) : Int) > 126) (hl : l.length ≤ 1000000000) (hx : refE (l.getD i 0) = x) (h5 : (l.getD i 0).toNat < 256) : Round Ext0 Tryd.prog clPp (lbody Tryd.prog 11 2) (ppS l i) (.ret) (ppR) := by
  refine bcase (decide ((↑(l.getD i (0 : UInt8)).toNat : Int) < (32 : Int))) (fun hc16 => ⟨_, _, _, _, _, lpBy_nil, by decide, (ppA_1 l x i).trans (congrArg (fun S : St => some ((.ret : Exit), S, _)) (by first | rfl | (simp (disch := omega) only [std, UInt8.ofNat_toNat, List.length_drop]; done))), ?_⟩)
    (fun hc16 => ⟨_, _, _, _, _, lpBy_nil, by decide, (ppA_2 l x i).trans (congrArg (fun S : St => some ((.ret : Exit), S, _)) (by first | rfl | (simp (disch := omega) only [std, UInt8.ofNat_toNat, List.length_drop]; done))), ?_⟩)
  all_goals try simp only [dz] at hc16
  all_goals try simp (disch := omega) only [std, UInt8.ofNat_toNat, List.length_drop]
  all_goals repeat' apply And.intro
  all_goals first | exact True.intro | omega | with_reducible rfl | with_reducible assumption | exact hx | rfl


noncomputable def ppB_X (l x : List UInt8) (i : Nat) (h_ : List (Nat × Bool)) := roundOut (⟨[], [2], []⟩) (aCode Tryd.prog clPp ⟨true, bs h_ ++ (bs [(8, true), (27, false)] ++ [(31, ⟨.c (str x), none⟩)])⟩ (lpBy ([])) 60 (lbody Tryd.prog 11 2) (ppS l i))

theorem ppB_1 (l x : List UInt8) (i : Nat) : ppB_X l x i [(16, false), (19, false), (23, true)] = some (.ret, ⟨frame 33 [(2, (AV.c ((Value.bool false))))], []⟩, [decide ((↑i : Int) < ↑l.length) = true,
 (0 : Int) ≤ ↑i,
 (↑i : Int) < ↑l.length,
 (decide ((↑(l.getD i 0).toNat : Int) < (32 : Int))) = false,
 (decide ((↑(l.getD i 0).toNat : Int) > (126 : Int))) = false,
 ((↑(l.getD i 0).toNat : Int) == (38 : Int)) = true,
 (0 : Int) ≤ ↑i,
 (↑i : Int) ≤ ↑l.length,
 (↑l.length : Int) ≤ ↑l.length,
 (((List.drop i (List.take l.length l)).length : Nat) ≤ ((1000000000 : Nat))),
 (standsF (List.drop i (List.take l.length l))) = false]) := by kernel_rfl

theorem ppB_all (l x : List UInt8) (i : Nat) (hi : i < l.length) (hn : (((l.getD i 0).toNat : Nat) : Int) = 38) (hs : standsF (l.drop i) = false) (hl : l.length ≤ 1000000000) (hx : refE (l.getD i 0) = x) (h5 : (l.getD i 0).toNat < 256) : Round Ext0 Tryd.prog clPp (lbody Tryd.prog 11 2) (ppS l i) (.ret) (ppR) := by
  refine ⟨_, _, _, _, _, lpBy_nil, by decide, (ppB_1 l x i).trans (congrArg (fun S : St => some ((.ret : Exit), S, _)) (by first | rfl | (simp (disch := omega) only [std, UInt8.ofNat_toNat, List.length_drop]; done))), ?_⟩
  all_goals try simp (disch := omega) only [std, UInt8.ofNat_toNat, List.length_drop]
  all_goals repeat' apply And.intro
  all_goals first | exact True.intro | omega | with_reducible rfl | with_reducible assumption | exact hn | exact hs | exact hx | rfl


noncomputable def ppC_X (l x : List UInt8) (i : Nat) (h_ : List (Nat × Bool)) := roundOut (⟨[], [0, 3], []⟩) (aCode Tryd.prog clPp ⟨true, bs h_ ++ (bs [(8, true), (27, true)] ++ [(31, ⟨.c (str x), none⟩)])⟩ (lpBy ([])) 60 (lbody Tryd.prog 11 2) (ppS l i))

theorem ppC_1 (l x : List UInt8) (i : Nat) : ppC_X l x i [(16, false), (19, false), (23, true)] = some (.normal, ⟨frame 33 [(0, (AV.c ((str (l))))), (3, (AV.c ((Value.int .i64 ((↑i : Int) + (1 : Int))))))], []⟩, [decide ((↑i : Int) < ↑l.length) = true,
 (0 : Int) ≤ ↑i,
 (↑i : Int) < ↑l.length,
 (decide ((↑(l.getD i 0).toNat : Int) < (32 : Int))) = false,
 (decide ((↑(l.getD i 0).toNat : Int) > (126 : Int))) = false,
 ((↑(l.getD i 0).toNat : Int) == (38 : Int)) = true,
 (0 : Int) ≤ ↑i,
 (↑i : Int) ≤ ↑l.length,
 (↑l.length : Int) ≤ ↑l.length,
 (((List.drop i (List.take l.length l)).length : Nat) ≤ ((1000000000 : Nat))),
 (standsF (List.drop i (List.take l.length l))) = true,
 (IntKind.i64.min : Int) ≤ ↑i + 1,
 (↑i + 1 : Int) ≤ IntKind.i64.max]) := by kernel_rfl

theorem ppC_all (l x : List UInt8) (i : Nat) (hi : i < l.length) (hn : (((l.getD i 0).toNat : Nat) : Int) = 38) (hs : standsF (l.drop i) = true) (hl : l.length ≤ 1000000000) (hx : refE (l.getD i 0) = x) (h5 : (l.getD i 0).toNat < 256) : Round Ext0 Tryd.prog clPp (lbody Tryd.prog 11 2) (ppS l i) (.normal) (ppS l (i + 1)) := by
  refine ⟨_, _, _, _, _, lpBy_nil, by decide, (ppC_1 l x i).trans (congrArg (fun S : St => some ((.normal : Exit), S, _)) (by first | rfl | (simp (disch := omega) only [std, UInt8.ofNat_toNat, List.length_drop]; done))), ?_⟩
  all_goals try simp (disch := omega) only [std, UInt8.ofNat_toNat, List.length_drop]
  all_goals repeat' apply And.intro
  all_goals first | exact True.intro | omega | with_reducible rfl | with_reducible assumption | exact hn | exact hs | exact hx | rfl


noncomputable def ppD_X (l x : List UInt8) (i : Nat) (h_ : List (Nat × Bool)) := roundOut (⟨[], [2], []⟩) (aCode Tryd.prog clPp ⟨true, bs h_ ++ (bs [(8, true), (32, true)] ++ [(31, ⟨.c (str x), none⟩)])⟩ (lpBy ([])) 60 (lbody Tryd.prog 11 2) (ppS l i))

theorem ppD_1 (l x : List UInt8) (i : Nat) : ppD_X l x i [(16, false), (19, false), (23, false)] = some (.ret, ⟨frame 33 [(2, (AV.c ((Value.bool false))))], []⟩, [decide ((↑i : Int) < ↑l.length) = true,
 (0 : Int) ≤ ↑i,
 (↑i : Int) < ↑l.length,
 (decide ((↑(l.getD i 0).toNat : Int) < (32 : Int))) = false,
 (decide ((↑(l.getD i 0).toNat : Int) > (126 : Int))) = false,
 ((↑(l.getD i 0).toNat : Int) == (38 : Int)) = false,
 (((0 : Int) : Int) ≤ ((↑(l.getD i 0).toNat : Int))),
 (((↑(l.getD i 0).toNat : Int) : Int) < ((256 : Int))),
 ((refE (UInt8.ofNat (l.getD i 0).toNat) : List UInt8)) = (x),
 (!x == []) = true]) := by kernel_rfl

theorem ppD_all (l x : List UInt8) (i : Nat) (hi : i < l.length) (hn : ¬ ((((l.getD i 0).toNat : Nat) : Int) < 32 ∨ (((l.getD i 0).toNat : Nat) : Int) > 126)) (hm : ¬ (((l.getD i 0).toNat : Nat) : Int) = 38) (hxn : (!x == []) = true) (hl : l.length ≤ 1000000000) (hx : refE (l.getD i 0) = x) (h5 : (l.getD i 0).toNat < 256) : Round Ext0 Tryd.prog clPp (lbody Tryd.prog 11 2) (ppS l i) (.ret) (ppR) := by
  refine ⟨_, _, _, _, _, lpBy_nil, by decide, (ppD_1 l x i).trans (congrArg (fun S : St => some ((.ret : Exit), S, _)) (by first | rfl | (simp (disch := omega) only [std, UInt8.ofNat_toNat, List.length_drop]; done))), ?_⟩
  all_goals try simp (disch := omega) only [std, UInt8.ofNat_toNat, List.length_drop]
  all_goals repeat' apply And.intro
  all_goals first | exact True.intro | omega | with_reducible rfl | with_reducible assumption | exact hm | exact hxn | exact hx | rfl


noncomputable def ppF_X (l x : List UInt8) (i : Nat) (h_ : List (Nat × Bool)) := roundOut (⟨[], [0, 3], []⟩) (aCode Tryd.prog clPp ⟨true, bs h_ ++ (bs [(8, true), (32, false)] ++ [(31, ⟨.c (str x), none⟩)])⟩ (lpBy ([])) 60 (lbody Tryd.prog 11 2) (ppS l i))

theorem ppF_1 (l x : List UInt8) (i : Nat) : ppF_X l x i [(16, false), (19, false), (23, false)] = some (.normal, ⟨frame 33 [(0, (AV.c ((str (l))))), (3, (AV.c ((Value.int .i64 ((↑i : Int) + (1 : Int))))))], []⟩, [decide ((↑i : Int) < ↑l.length) = true,
 (0 : Int) ≤ ↑i,
 (↑i : Int) < ↑l.length,
 (decide ((↑(l.getD i 0).toNat : Int) < (32 : Int))) = false,
 (decide ((↑(l.getD i 0).toNat : Int) > (126 : Int))) = false,
 ((↑(l.getD i 0).toNat : Int) == (38 : Int)) = false,
 (((0 : Int) : Int) ≤ ((↑(l.getD i 0).toNat : Int))),
 (((↑(l.getD i 0).toNat : Int) : Int) < ((256 : Int))),
 ((refE (UInt8.ofNat (l.getD i 0).toNat) : List UInt8)) = (x),
 (!x == []) = false,
 (IntKind.i64.min : Int) ≤ ↑i + 1,
 (↑i + 1 : Int) ≤ IntKind.i64.max]) := by kernel_rfl

theorem ppF_all (l x : List UInt8) (i : Nat) (hi : i < l.length) (hn : ¬ ((((l.getD i 0).toNat : Nat) : Int) < 32 ∨ (((l.getD i 0).toNat : Nat) : Int) > 126)) (hm : ¬ (((l.getD i 0).toNat : Nat) : Int) = 38) (hxn : (!x == []) = false) (hl : l.length ≤ 1000000000) (hx : refE (l.getD i 0) = x) (h5 : (l.getD i 0).toNat < 256) : Round Ext0 Tryd.prog clPp (lbody Tryd.prog 11 2) (ppS l i) (.normal) (ppS l (i + 1)) := by
  refine ⟨_, _, _, _, _, lpBy_nil, by decide, (ppF_1 l x i).trans (congrArg (fun S : St => some ((.normal : Exit), S, _)) (by first | rfl | (simp (disch := omega) only [std, UInt8.ofNat_toNat, List.length_drop]; done))), ?_⟩
  all_goals try simp (disch := omega) only [std, UInt8.ofNat_toNat, List.length_drop]
  all_goals repeat' apply And.intro
  all_goals first | exact True.intro | omega | with_reducible rfl | with_reducible assumption | exact hm | exact hxn | exact hx | rfl


noncomputable def ppZ_X (l x : List UInt8) (i : Nat) (h_ : List (Nat × Bool)) := roundOut (⟨[], [0, 3], []⟩) (aCode Tryd.prog clPp ⟨true, bs h_ ++ (bs [(8, false)] ++ [(31, ⟨.c (str x), none⟩)])⟩ (lpBy ([])) 60 (lbody Tryd.prog 11 2) (ppS l i))

theorem ppZ_1 (l x : List UInt8) (i : Nat) : ppZ_X l x i [] = some (.exit 0, ⟨frame 33 [(0, (AV.c ((str (l))))), (3, (AV.c ((Value.int .i64 ((↑i : Int))))))], []⟩, [decide ((↑i : Int) < ↑l.length) = false]) := by kernel_rfl

theorem ppZ_all (l x : List UInt8) (i : Nat) (hi : i = l.length) (hl : l.length ≤ 1000000000) (hx : refE (l.getD i 0) = x) (h5 : (l.getD i 0).toNat < 256) : Round Ext0 Tryd.prog clPp (lbody Tryd.prog 11 2) (ppS l i) (.exit 0) (ppS l i) := by
  refine ⟨_, _, _, _, _, lpBy_nil, by decide, (ppZ_1 l x i).trans (congrArg (fun S : St => some ((.exit 0 : Exit), S, _)) (by first | rfl | (simp (disch := omega) only [std, UInt8.ofNat_toNat, List.length_drop]; done))), ?_⟩
  all_goals try simp (disch := omega) only [std, UInt8.ofNat_toNat, List.length_drop]
  all_goals repeat' apply And.intro
  all_goals first | exact True.intro | omega | with_reducible rfl | with_reducible assumption | exact hi | exact hx | rfl

/-- A byte that is not plain is not seen, or is one of the risky ones. -/
theorem bad_ref (c : UInt8) (h : c ≠ 38) : badE c = (decide (((c.toNat : Nat) : Int) < 32 ∨ ((c.toNat : Nat) : Int) > 126) || !(refE c == [])) := by
  revert c
  refine byte_all ?_
  decide +kernel

theorem pp_walk (l : List UInt8) (hl : l.length ≤ 1000000000) : Tri Ext0 Tryd.prog (.loop (lbody Tryd.prog 11 2)) (ppS l 0) (if plainF l = true then .exit 0 else .ret) (if plainF l = true then ppS l l.length else ppR) := by
  refine loop_inv mixed clPp_ok (fun i => ppS l i) (fun i => i ≤ l.length ∧ plainF (l.drop i) = plainF l) (fun i => l.length - i) (fun i hx => ?_) 0 ⟨Nat.zero_le _, rfl⟩
  obtain ⟨h1, h2⟩ := hx
  by_cases hi : i < l.length
  · have hd := drop_cons l i hi
    rw [hd, plainF_cons, ← hd] at h2
    by_cases hc : l.getD i 0 = 38
    · have hcc : (((l.getD i 0).toNat : Nat) : Int) = 38 := by rw [hc]; rfl
      rw [hc] at h2
      cases hs : standsF (l.drop i) with
      | false =>
        rw [hs] at h2
        have h2 : plainF l = false := by rw [← h2]; rfl
        rw [h2]
        exact .inr ⟨by simp, ppB_all l _ i hi hcc hs hl rfl (UInt8.toNat_lt _)⟩
      | true =>
        rw [hs] at h2
        exact .inl ⟨i + 1, ⟨hi, by rw [← h2]; rfl⟩, by omega, ppC_all l _ i hi hcc hs hl rfl (UInt8.toNat_lt _)⟩
    · have hbr := bad_ref _ hc
      have hm := u8_ne (k := 38) (by decide) hc
      rw [beq_eq_false_iff_ne.2 hc] at h2
      by_cases hn : (((l.getD i 0).toNat : Nat) : Int) < 32 ∨ (((l.getD i 0).toNat : Nat) : Int) > 126
      · rw [hbr, decide_eq_true hn] at h2
        have h2 : plainF l = false := by rw [← h2]; rfl
        rw [h2]
        exact .inr ⟨by simp, ppA_all l _ i hi hn hl rfl (UInt8.toNat_lt _)⟩
      · rw [hbr, decide_eq_false hn, Bool.false_or] at h2
        cases hr : (refE (l.getD i 0) == []) with
        | false =>
          rw [hr] at h2
          have h2 : plainF l = false := by rw [← h2]; rfl
          rw [h2]
          exact .inr ⟨by simp, ppD_all l _ i hi hn hm (by rw [hr]; rfl) hl rfl (UInt8.toNat_lt _)⟩
        | true =>
          rw [hr] at h2
          exact .inl ⟨i + 1, ⟨hi, by rw [← h2]; rfl⟩, by omega, ppF_all l _ i hi hn hm (by rw [hr]; rfl) hl rfl (UInt8.toNat_lt _)⟩
  · have he : i = l.length := by omega
    subst he
    rw [List.drop_length] at h2
    have h2 : plainF l = true := by rw [← h2]; rfl
    rw [h2]
    exact .inr ⟨by simp, ppZ_all l _ l.length rfl hl rfl (UInt8.toNat_lt _)⟩

noncomputable def ppLp (l : List UInt8) (e : Exit) (R : St) : List (Nat × Lp) := [(2, ⟨lbody Tryd.prog 11 2, ⟨[], [0, 3], []⟩, ppS l 0, e, R⟩)]

noncomputable def ppl1_X (l : List UInt8) (h_ : List (Nat × Bool)) := outcome Tryd.prog 11 (aBody Tryd.prog clPp ⟨true, bs h_ ++ ([])⟩ (lpBy (ppLp l (.exit 0) (ppS l l.length))) 60 11 ([.c (str l)]) ([]))

theorem ppl1_1 (l : List UInt8) : ppl1_X l [] = some ((AV.c ((Value.bool true))), [((lbody Tryd.prog (11 : FuncId) (2 : Nat) : Go.Code)) = (lbody Tryd.prog (11 : FuncId) (2 : Nat)),
 ((ppS l (0 : Nat) : Go.Proofs.YtfnappdgiomiiaaDoor.St)) = (ppS l (0 : Nat))]) := by kernel_rfl

theorem ppl1_all (l : List UInt8)  : ∃ (h : Hints) (p : List Prop), outcome Tryd.prog 11 (aBody Tryd.prog clPp h (lpBy (ppLp l (.exit 0) (ppS l l.length))) 60 11 ([.c (str l)]) ([])) = some (.c (.bool true), p) ∧ allP p := by
  have eR := ppl1_1 l
  refine ⟨_, _, eR.trans (congrArg (fun r => some (r, _)) ?_), ?_⟩
  · rfl
  · try simp only [dz] at *
    try simp (disch := omega) only [std, bytesOK_cons, bytesOK_nil]
    repeat' apply And.intro
    all_goals first | exact True.intro | omega | assumption | rfl | exact avEq_refl _


noncomputable def ppl2_X (l : List UInt8) (h_ : List (Nat × Bool)) := outcome Tryd.prog 11 (aBody Tryd.prog clPp ⟨true, bs h_ ++ ([])⟩ (lpBy (ppLp l .ret ppR)) 60 11 ([.c (str l)]) ([]))

theorem ppl2_1 (l : List UInt8) : ppl2_X l [] = some ((AV.c ((Value.bool false))), [((lbody Tryd.prog (11 : FuncId) (2 : Nat) : Go.Code)) = (lbody Tryd.prog (11 : FuncId) (2 : Nat)),
 ((ppS l (0 : Nat) : Go.Proofs.YtfnappdgiomiiaaDoor.St)) = (ppS l (0 : Nat))]) := by kernel_rfl

theorem ppl2_all (l : List UInt8)  : ∃ (h : Hints) (p : List Prop), outcome Tryd.prog 11 (aBody Tryd.prog clPp h (lpBy (ppLp l .ret ppR)) 60 11 ([.c (str l)]) ([])) = some (.c (.bool false), p) ∧ allP p := by
  have eR := ppl2_1 l
  refine ⟨_, _, eR.trans (congrArg (fun r => some (r, _)) ?_), ?_⟩
  · rfl
  · try simp only [dz] at *
    try simp (disch := omega) only [std, bytesOK_cons, bytesOK_nil]
    repeat' apply And.intro
    all_goals first | exact True.intro | omega | assumption | rfl | exact avEq_refl _

theorem pplain_ok : SpecOK Tryd.prog 11 plainSpec := by
  refine spec_of mixed clPp_ok fun args r q hs hq => ?_
  unfold plainSpec at hs
  split at hs
  · rename_i l
    simp only [Option.some.injEq, Prod.mk.injEq] at hs
    obtain ⟨rfl, rfl⟩ := hs
    obtain ⟨⟨⟨l⟩⟩, rfl⟩ : ∃ b : ByteArray, b = l := ⟨l, rfl⟩
    simp only [sb_mk, allP, and_true] at hq ⊢
    have hw := pp_walk l hq
    cases hb : plainF l with
    | true =>
      rw [hb] at hw
      obtain ⟨hh, q, e, hp⟩ := ppl1_all l
      exact ⟨_, _, _, _, lpBy_cons lpBy_nil List.nodup_nil hw, e, hp⟩
    | false =>
      rw [hb] at hw
      obtain ⟨hh, q, e, hp⟩ := ppl2_all l
      exact ⟨_, _, _, _, lpBy_cons lpBy_nil List.nodup_nil hw, e, hp⟩
  · simp at hs

/-! Settled; ahead of a byte. -/
noncomputable def clPs : CallT := aCall Tryd.prog (sgBy [(9, escSpec), (17, entSpec)]) 500 8
theorem clPs_ok : CallOK Tryd.prog clPs := aCall_ok mixed (sgBy_cons pesc_ok (sgBy_cons ent_ok sgBy_nil)) 500 8

noncomputable def pse_X (l : List UInt8) (h_ : List (Nat × Bool)) := outcome Tryd.prog 13 (aBody Tryd.prog clPs ⟨true, bs h_ ++ ([])⟩ (lpBy ([])) 60 13 ([.c (str l)]) ([]))

theorem pse_1 (l : List UInt8) : pse_X l [] = some ((AV.c ((Value.bool (escF (entF l) == l)))), [((l.length : Nat) ≤ ((1000000000 : Nat))),
 (((entF l).length : Nat) ≤ ((1000000000 : Nat)))]) := by kernel_rfl

theorem pse_all (l : List UInt8) (hl : l.length ≤ 1000000000) (he : (entF l).length ≤ l.length) : ∃ (h : Hints) (p : List Prop), outcome Tryd.prog 13 (aBody Tryd.prog clPs h (lpBy ([])) 60 13 ([.c (str l)]) ([])) = some (.c (.bool (settledF l)), p) ∧ allP p := by
  refine ⟨_, _, (pse_1 l).trans (congrArg (fun r => some (r, _)) (by first | rfl | (simp (disch := omega) only [std]; done))), ?_⟩
  all_goals try simp (disch := omega) only [std]
  all_goals repeat' apply And.intro
  all_goals first | exact True.intro | omega | with_reducible rfl | with_reducible assumption | rfl

theorem pset_ok : SpecOK Tryd.prog 13 setSpec := by
  refine spec_of mixed clPs_ok fun args r q hs hq => ?_
  unfold setSpec at hs
  split at hs
  · rename_i l
    simp only [Option.some.injEq, Prod.mk.injEq] at hs
    obtain ⟨rfl, rfl⟩ := hs
    obtain ⟨⟨⟨l⟩⟩, rfl⟩ : ∃ b : ByteArray, b = l := ⟨l, rfl⟩
    simp only [sb_mk, allP, and_true] at hq ⊢
    obtain ⟨hh, q, e, hp⟩ := pse_all l hq (ent_len l)
    exact ⟨_, _, _, _, lpBy_nil, e, hp⟩
  · simp at hs

noncomputable def clPa : CallT := aCall Tryd.prog (sgBy [(37, cloneSpec)]) 500 8
theorem clPa_ok : CallOK Tryd.prog clPa := aCall_ok mixed (sgBy_cons clone_ok sgBy_nil) 500 8

noncomputable def pah1_X (l a : List UInt8) (q : UInt8) (k : Nat) (h_ : List (Nat × Bool)) := outcome Tryd.prog 15 (aBody Tryd.prog clPa ⟨true, bs h_ ++ (bs [(10, true)] ++ [(8, ⟨.c (.int .i64 k), none⟩), (13, ⟨.c (str a), none⟩)])⟩ (lpBy ([])) 60 15 ([.c (str l), byteC q]) ([]))

theorem pah1_1 (l a : List UInt8) (q : UInt8) (k : Nat) : pah1_X l a q k [] = some ((AV.c ((str (a)))), [((Lib.indexByte l q.toNat.toUInt8 : Int)) = ((↑k : Int)),
 (true) = true,
 (0 : Int) ≤ 0,
 (0 : Int) ≤ ↑k,
 (↑k : Int) ≤ ↑l.length,
 ((List.drop (Int.toNat (0 : Int)) (List.take k l) : List UInt8)) = (a),
 ((a.length : Nat) ≤ ((140737488355328 : Nat)))]) := by kernel_rfl

theorem pah1_all (l a : List UInt8) (q : UInt8) (k : Nat) (hl : l.length ≤ 1000000000) (hk : Lib.indexByte l q = (k : Nat)) (hc : q.toNat.toUInt8 = q) (hle : k ≤ l.length) (ha : l.take k = a) (hal : a.length ≤ l.length) : ∃ (h : Hints) (p : List Prop), outcome Tryd.prog 15 (aBody Tryd.prog clPa h (lpBy ([])) 60 15 ([.c (str l), byteC q]) ([])) = some (.c (str a), p) ∧ allP p := by
  refine ⟨_, _, (pah1_1 l a q k).trans (congrArg (fun r => some (r, _)) (by first | rfl | (simp (disch := omega) only [std]; done))), ?_⟩
  all_goals try simp (disch := omega) only [std]
  all_goals repeat' apply And.intro
  all_goals first | exact True.intro | omega | with_reducible rfl | with_reducible assumption | exact (congrArg (Lib.indexByte l) hc).trans hk | exact hk | exact hc | exact ha | rfl

noncomputable def pah2_X (l : List UInt8) (q : UInt8) (h_ : List (Nat × Bool)) := outcome Tryd.prog 15 (aBody Tryd.prog clPa ⟨true, bs h_ ++ (bs [(10, false)] ++ [(8, ⟨.c (.int .i64 (-1)), none⟩)])⟩ (lpBy ([])) 60 15 ([.c (str l), byteC q]) ([]))

theorem pah2_1 (l : List UInt8) (q : UInt8) : pah2_X l q [] = some ((AV.c ((str (l)))), [((Lib.indexByte l q.toNat.toUInt8 : Int)) = (-1),
 (false) = false,
 ((l.length : Nat) ≤ ((140737488355328 : Nat)))]) := by kernel_rfl

theorem pah2_all (l : List UInt8) (q : UInt8) (hl : l.length ≤ 1000000000) (hk : Lib.indexByte l q = -1) (hc : q.toNat.toUInt8 = q) : ∃ (h : Hints) (p : List Prop), outcome Tryd.prog 15 (aBody Tryd.prog clPa h (lpBy ([])) 60 15 ([.c (str l), byteC q]) ([])) = some (.c (str l), p) ∧ allP p := by
  refine ⟨_, _, (pah2_1 l q).trans (congrArg (fun r => some (r, _)) (by first | rfl | (simp (disch := omega) only [std]; done))), ?_⟩
  all_goals try simp (disch := omega) only [std]
  all_goals repeat' apply And.intro
  all_goals first | exact True.intro | omega | with_reducible rfl | with_reducible assumption | exact (congrArg (Lib.indexByte l) hc).trans hk | exact hk | exact hc | rfl

theorem ahead_cutF (q : UInt8) : ∀ l : List UInt8, aheadF q l = (cutF q l).1
  | [] => rfl
  | c :: r => by
    have ih := ahead_cutF q r
    unfold aheadF at ih ⊢
    unfold cutF
    rw [List.takeWhile_cons]
    by_cases h : c = q
    · subst h
      rw [if_neg (by simp), if_pos rfl]
    · rw [if_pos (bne_iff_ne.2 h), if_neg h, ih]

theorem pah_ok : SpecOK Tryd.prog 15 ahSpec := by
  refine spec_of mixed clPa_ok fun args r q hs hq => ?_
  unfold ahSpec at hs
  split at hs
  · rename_i l n
    simp only [Option.some.injEq, Prod.mk.injEq] at hs
    obtain ⟨rfl, rfl⟩ := hs
    obtain ⟨⟨⟨l⟩⟩, rfl⟩ : ∃ b : ByteArray, b = l := ⟨l, rfl⟩
    simp only [sb_mk, allP, and_true] at hq ⊢
    obtain ⟨h0, h1, h2⟩ := hq
    obtain ⟨q, rfl⟩ := u8_cast h0 h1
    rw [Int.toNat_natCast, UInt8.ofNat_toNat, ahead_cutF]
    obtain ⟨k1, k2⟩ := cutF_idx q l
    cases hb : (cutF q l).2.2 with
    | true =>
      obtain ⟨e1, e2⟩ := k1 hb
      generalize (cutF q l).1 = a at *
      generalize (cutF q l).2.1 = r at *
      subst e2
      obtain ⟨hh, p, e, hp⟩ := pah1_all (a ++ q :: r) a q a.length h2 e1 (UInt8.ofNat_toNat) (by simp) List.take_left (by simp)
      exact ⟨_, _, _, _, lpBy_nil, e, hp⟩
    | false =>
      obtain ⟨e1, e2, e3⟩ := k2 hb
      rw [e2]
      obtain ⟨hh, p, e, hp⟩ := pah2_all l q h2 e1 (UInt8.ofNat_toNat)
      exact ⟨_, _, _, _, lpBy_nil, e, hp⟩
  · simp at hs

end Go.Proofs.YtfnappdgiomiiaaDoor
