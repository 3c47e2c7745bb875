/- Values that may be written: the document's own. -/
import Derived.Test.YtfnappdgiomiiaaDoorEsc
import Derived.Test.YtfnappdgiomiiaaDoorEntG
namespace Go.Proofs.YtfnappdgiomiiaaDoor
open Go.RowKit Ent
set_option linter.unusedVariables false
set_option linter.unusedSimpArgs false

def oneV (n : Int) : Value := str (oneE (UInt8.ofNat n.toNat))

theorem rone_ok : SpecOK Tryd.prog 23 (byteSpec oneV) := byteMap_ok cl0_ok (by kernel_rfl)

theorem oneV_at (c : UInt8) : oneV ((c.toNat : Nat) : Int) = str (oneE c) := by
  unfold oneV
  rw [Int.toNat_natCast, UInt8.ofNat_toNat]

noncomputable def clRo : CallT := aCall Tryd.prog (sgBy [(23, byteSpec oneV)]) 500 8

theorem clRo_ok : CallOK Tryd.prog clRo := aCall_ok mixed (sgBy_cons rone_ok sgBy_nil) 500 8

def reS (l out : List UInt8) (i : Nat) : St := ⟨frame 18 [(0, .c (str l)), (3, .c (str out)), (4, .c (.int .i64 i))], []⟩

noncomputable def reA_X (l out x : List UInt8) (i : Nat) (h_ : List (Nat × Bool)) := roundOut (⟨[], [0, 3, 4], []⟩) (aCode Tryd.prog clRo ⟨true, bs h_ ++ (bs [(8, true)] ++ [(15, ⟨.c (str x), none⟩)])⟩ (lpBy ([])) 60 (lbody Tryd.prog 10 3) (reS l out i))

theorem reA_1 (l out x : List UInt8) (i : Nat) : reA_X l out x i [] = some (.normal, ⟨frame 18 [(0, (AV.c ((str (l))))), (3, (AV.c ((str (out ++ x))))), (4, (AV.c ((Value.int .i64 ((↑i : Int) + (1 : Int))))))], []⟩, [decide ((↑i : Int) < ↑l.length) = true,
 (0 : Int) ≤ ↑i,
 (↑i : Int) < ↑l.length,
 (((0 : Int) : Int) ≤ ((↑(l.getD i 0).toNat : Int))),
 (((↑(l.getD i 0).toNat : Int) : Int) < ((256 : Int))),
 ((oneE (UInt8.ofNat (l.getD i 0).toNat) : List UInt8)) = (x),
 ((out.length + x.length : Nat) ≤ ((9223372036854775807 : Nat))),
 (IntKind.i64.min : Int) ≤ ↑i + 1,
 (↑i + 1 : Int) ≤ IntKind.i64.max]) := by kernel_rfl

theorem reA_all (l out x : List UInt8) (i : Nat) (hi : i < l.length) (hl : l.length ≤ 1000000000) (hol : out.length ≤ 5000000000) (hx : oneE (l.getD i 0) = x) (hxl : x.length ≤ 5) (h5 : (l.getD i 0).toNat < 256) : Round Ext0 Tryd.prog clRo (lbody Tryd.prog 10 3) (reS l out i) (.normal) (reS l (out ++ x) (i + 1)) := by
  refine ⟨_, _, _, _, _, lpBy_nil, by decide, (reA_1 l out x i).trans (congrArg (fun S : St => some ((.normal : Exit), S, _)) (by first | rfl | (simp (disch := omega) only [std, UInt8.ofNat_toNat]; done))), ?_⟩
  all_goals try simp (disch := omega) only [std, UInt8.ofNat_toNat]
  all_goals repeat' apply And.intro
  all_goals first | exact True.intro | omega | with_reducible rfl | with_reducible assumption | exact hx | rfl


noncomputable def reZ_X (l out x : List UInt8) (i : Nat) (h_ : List (Nat × Bool)) := roundOut (⟨[], [0, 3, 4], []⟩) (aCode Tryd.prog clRo ⟨true, bs h_ ++ (bs [(8, false)] ++ [(15, ⟨.c (str x), none⟩)])⟩ (lpBy ([])) 60 (lbody Tryd.prog 10 3) (reS l out i))

theorem reZ_1 (l out x : List UInt8) (i : Nat) : reZ_X l out x i [] = some (.exit 0, ⟨frame 18 [(0, (AV.c ((str (l))))), (3, (AV.c ((str (out))))), (4, (AV.c ((Value.int .i64 ((↑i : Int))))))], []⟩, [decide ((↑i : Int) < ↑l.length) = false]) := by kernel_rfl

theorem reZ_all (l out x : List UInt8) (i : Nat) (hi : i = l.length) (hl : l.length ≤ 1000000000) (hol : out.length ≤ 5000000000) (hx : oneE (l.getD i 0) = x) (hxl : x.length ≤ 5) (h5 : (l.getD i 0).toNat < 256) : Round Ext0 Tryd.prog clRo (lbody Tryd.prog 10 3) (reS l out i) (.exit 0) (reS l out i) := by
  refine ⟨_, _, _, _, _, lpBy_nil, by decide, (reZ_1 l out x i).trans (congrArg (fun S : St => some ((.exit 0 : Exit), S, _)) (by first | rfl | (simp (disch := omega) only [std, UInt8.ofNat_toNat]; done))), ?_⟩
  all_goals try simp (disch := omega) only [std, UInt8.ofNat_toNat]
  all_goals repeat' apply And.intro
  all_goals first | exact True.intro | omega | with_reducible rfl | with_reducible assumption | exact hi | exact hx | rfl

theorem esc_snoc (l : List UInt8) (i : Nat) (h : i < l.length) : escF (l.take (i + 1)) = escF (l.take i) ++ oneE (l.getD i 0) := by
  rw [show l.take (i + 1) = l.take i ++ [l.getD i 0] by
    rw [List.take_succ_eq_append_getElem h]
    simp [List.getD, h], esc_app, esc_cons, esc_nil, List.append_nil]
theorem esc_take_len (l : List UInt8) (i : Nat) : (escF (l.take i)).length ≤ 5 * l.length := by
  have h1 := (esc_len (l.take i)).2
  have h2 : (l.take i).length ≤ l.length := List.length_take_le' ..
  omega

theorem re_walk (l : List UInt8) (hl : l.length ≤ 1000000000) : Tri Ext0 Tryd.prog (.loop (lbody Tryd.prog 10 3)) (reS l [] 0) (.exit 0) (reS l (escF l) l.length) := by
  have h := loop_up mixed clRo_ok (b := lbody Tryd.prog 10 3) (fun i => reS l (escF (l.take i)) i) l.length (e := .exit 0) (R := reS l (escF l) l.length) (by simp) (fun i hi => by
    have := esc_take_len l i
    rw [esc_snoc l i hi]
    exact reA_all l _ _ i hi hl (by omega) rfl (one_len _).2 (UInt8.toNat_lt _)) (by
    have := esc_take_len l l.length
    rw [List.take_length] at this ⊢
    exact reZ_all l _ (oneE (l.getD l.length 0)) l.length rfl hl (by omega) rfl (one_len _).2 (UInt8.toNat_lt _)) 0 (Nat.zero_le _)
  exact h

noncomputable def reLp (l : List UInt8) : List (Nat × Lp) := [(3, ⟨lbody Tryd.prog 10 3, ⟨[], [0, 3, 4], []⟩, reS l [] 0, .exit 0, reS l (escF l) l.length⟩)]

noncomputable def ree_X (l : List UInt8) (h_ : List (Nat × Bool)) := outcome Tryd.prog 10 (aBody Tryd.prog clRo ⟨true, bs h_ ++ ([])⟩ (lpBy (reLp l)) 60 10 ([.c (str l)]) ([]))

theorem ree_1 (l : List UInt8) : ree_X l [] = some ((AV.c ((str (escF l)))), [((lbody Tryd.prog (10 : FuncId) (3 : Nat) : Go.Code)) = (lbody Tryd.prog (10 : FuncId) (3 : Nat)),
 ((reS l [] (0 : Nat) : Go.Proofs.YtfnappdgiomiiaaDoor.St)) = (reS l [] (0 : Nat))]) := by kernel_rfl

theorem ree_all (l : List UInt8)  : ∃ (h : Hints) (p : List Prop), outcome Tryd.prog 10 (aBody Tryd.prog clRo h (lpBy (reLp l)) 60 10 ([.c (str l)]) ([])) = some (.c (str (escF l)), p) ∧ allP p := by
  have eR := ree_1 l
  refine ⟨_, _, eR.trans (congrArg (fun r => some (r, _)) ?_), ?_⟩
  · rfl
  · try simp only [dz] at *
    try simp (disch := omega) only [std, bytesOK_cons, bytesOK_nil]
    repeat' apply And.intro
    all_goals first | exact True.intro | omega | assumption | rfl | exact avEq_refl _

def escSpec : Spec
  | [.c (.string s)] => some (.c (str (escF (sb s))), [(sb s).length ≤ 1000000000])
  | _ => none

theorem resc_ok : SpecOK Tryd.prog 10 escSpec := by
  refine spec_of mixed clRo_ok fun args r q hs hq => ?_
  unfold escSpec at hs
  split at hs
  · rename_i l
    simp only [Option.some.injEq, Prod.mk.injEq] at hs
    obtain ⟨rfl, rfl⟩ := hs
    obtain ⟨⟨⟨l⟩⟩, rfl⟩ : ∃ b : ByteArray, b = l := ⟨l, rfl⟩
    simp only [sb_mk, allP, and_true] at hq ⊢
    obtain ⟨hh, q, e, hp⟩ := ree_all l
    exact ⟨_, _, _, _, lpBy_cons lpBy_nil List.nodup_nil (re_walk l hq), e, hp⟩
  · simp at hs

/-! Does one of the six stand there? -/
def standsSpec : Spec
  | [.c (.string s)] => some (.c (.bool (standsF (sb s))), [])
  | _ => none

noncomputable def rst0_X (l : List UInt8) (h_ : List (Nat × Bool)) := outcome Tryd.prog 25 (aBody Tryd.prog cl0 ⟨true, bs h_ ++ (bs [(6, true)])⟩ (lpBy ([])) 60 25 ([.c (str l)]) ([]))

theorem rst0_1 (l : List UInt8) : rst0_X l [] = some ((AV.c ((Value.bool false))), [decide ((↑l.length : Int) < 5) = true]) := by kernel_rfl

theorem rst0_all (l : List UInt8) (h : l.length < 5) (hs : standsF l = false) : ∃ (h : Hints) (p : List Prop), outcome Tryd.prog 25 (aBody Tryd.prog cl0 h (lpBy ([])) 60 25 ([.c (str l)]) ([])) = some (.c (.bool (standsF l)), p) ∧ allP p := by
  refine ⟨_, _, (rst0_1 l).trans (congrArg (fun r => some (r, _)) ?_), ?_⟩
  any_goals (
    rw [hs]
    done)
  all_goals try simp (disch := omega) only [std]
  all_goals repeat' apply And.intro
  all_goals first | exact True.intro | omega | with_reducible rfl | with_reducible assumption | exact hs | rfl

noncomputable def rst1_X (l t : List UInt8) (h_ : List (Nat × Bool)) := outcome Tryd.prog 25 (aBody Tryd.prog cl0 ⟨true, bs h_ ++ (bs [(6, false)] ++ [(8, ⟨.c (str t), none⟩)])⟩ (lpBy ([])) 60 25 ([.c (str l)]) ([]))

theorem rst1_1 (l t : List UInt8) : rst1_X l t [(10, true)] = some ((AV.c ((Value.bool true))), [decide ((↑l.length : Int) < 5) = false,
 (0 : Int) ≤ 0,
 (0 : Int) ≤ 5,
 (5 : Int) ≤ ↑l.length,
 ((List.drop (Int.toNat (0 : Int)) (List.take (Int.toNat (5 : Int)) l) : List UInt8)) = (t),
 (t == [(38 : UInt8), (97 : UInt8), (109 : UInt8), (112 : UInt8), (59 : UInt8)]) = true]) := by kernel_rfl

theorem rst1_2 (l t : List UInt8) : rst1_X l t [(10, false), (13, true)] = some ((AV.c ((Value.bool true))), [decide ((↑l.length : Int) < 5) = false,
 (0 : Int) ≤ 0,
 (0 : Int) ≤ 5,
 (5 : Int) ≤ ↑l.length,
 ((List.drop (Int.toNat (0 : Int)) (List.take (Int.toNat (5 : Int)) l) : List UInt8)) = (t),
 (t == [(38 : UInt8), (97 : UInt8), (109 : UInt8), (112 : UInt8), (59 : UInt8)]) = false,
 (t == [(38 : UInt8), (35 : UInt8), (51 : UInt8), (52 : UInt8), (59 : UInt8)]) = true]) := by kernel_rfl

theorem rst1_3 (l t : List UInt8) : rst1_X l t [(10, false), (13, false), (17, true)] = some ((AV.c ((Value.bool true))), [decide ((↑l.length : Int) < 5) = false,
 (0 : Int) ≤ 0,
 (0 : Int) ≤ 5,
 (5 : Int) ≤ ↑l.length,
 ((List.drop (Int.toNat (0 : Int)) (List.take (Int.toNat (5 : Int)) l) : List UInt8)) = (t),
 (t == [(38 : UInt8), (97 : UInt8), (109 : UInt8), (112 : UInt8), (59 : UInt8)]) = false,
 (t == [(38 : UInt8), (35 : UInt8), (51 : UInt8), (52 : UInt8), (59 : UInt8)]) = false,
 (t == [(38 : UInt8), (35 : UInt8), (51 : UInt8), (57 : UInt8), (59 : UInt8)]) = true]) := by kernel_rfl

theorem rst1_4 (l t : List UInt8) : rst1_X l t [(10, false), (13, false), (17, false), (21, true)] = some ((AV.c ((Value.bool true))), [decide ((↑l.length : Int) < 5) = false,
 (0 : Int) ≤ 0,
 (0 : Int) ≤ 5,
 (5 : Int) ≤ ↑l.length,
 ((List.drop (Int.toNat (0 : Int)) (List.take (Int.toNat (5 : Int)) l) : List UInt8)) = (t),
 (t == [(38 : UInt8), (97 : UInt8), (109 : UInt8), (112 : UInt8), (59 : UInt8)]) = false,
 (t == [(38 : UInt8), (35 : UInt8), (51 : UInt8), (52 : UInt8), (59 : UInt8)]) = false,
 (t == [(38 : UInt8), (35 : UInt8), (51 : UInt8), (57 : UInt8), (59 : UInt8)]) = false,
 (t == [(38 : UInt8), (35 : UInt8), (54 : UInt8), (48 : UInt8), (59 : UInt8)]) = true]) := by kernel_rfl

theorem rst1_5 (l t : List UInt8) : rst1_X l t [(10, false), (13, false), (17, false), (21, false), (25, true)] = some ((AV.c ((Value.bool true))), [decide ((↑l.length : Int) < 5) = false,
 (0 : Int) ≤ 0,
 (0 : Int) ≤ 5,
 (5 : Int) ≤ ↑l.length,
 ((List.drop (Int.toNat (0 : Int)) (List.take (Int.toNat (5 : Int)) l) : List UInt8)) = (t),
 (t == [(38 : UInt8), (97 : UInt8), (109 : UInt8), (112 : UInt8), (59 : UInt8)]) = false,
 (t == [(38 : UInt8), (35 : UInt8), (51 : UInt8), (52 : UInt8), (59 : UInt8)]) = false,
 (t == [(38 : UInt8), (35 : UInt8), (51 : UInt8), (57 : UInt8), (59 : UInt8)]) = false,
 (t == [(38 : UInt8), (35 : UInt8), (54 : UInt8), (48 : UInt8), (59 : UInt8)]) = false,
 (t == [(38 : UInt8), (35 : UInt8), (54 : UInt8), (50 : UInt8), (59 : UInt8)]) = true]) := by kernel_rfl

theorem rst1_6 (l t : List UInt8) : rst1_X l t [(10, false), (13, false), (17, false), (21, false), (25, false)] = some ((AV.c ((Value.bool (t == [(38 : UInt8), (35 : UInt8), (57 : UInt8), (54 : UInt8), (59 : UInt8)])))), [decide ((↑l.length : Int) < 5) = false,
 (0 : Int) ≤ 0,
 (0 : Int) ≤ 5,
 (5 : Int) ≤ ↑l.length,
 ((List.drop (Int.toNat (0 : Int)) (List.take (Int.toNat (5 : Int)) l) : List UInt8)) = (t),
 (t == [(38 : UInt8), (97 : UInt8), (109 : UInt8), (112 : UInt8), (59 : UInt8)]) = false,
 (t == [(38 : UInt8), (35 : UInt8), (51 : UInt8), (52 : UInt8), (59 : UInt8)]) = false,
 (t == [(38 : UInt8), (35 : UInt8), (51 : UInt8), (57 : UInt8), (59 : UInt8)]) = false,
 (t == [(38 : UInt8), (35 : UInt8), (54 : UInt8), (48 : UInt8), (59 : UInt8)]) = false,
 (t == [(38 : UInt8), (35 : UInt8), (54 : UInt8), (50 : UInt8), (59 : UInt8)]) = false]) := by kernel_rfl

theorem rst1_all (l t : List UInt8) (h : ¬ l.length < 5) (ht : l.take 5 = t) (hs : standsF l = (t == [38, 97, 109, 112, 59] || (t == [38, 35, 51, 52, 59] || (t == [38, 35, 51, 57, 59] || (t == [38, 35, 54, 48, 59] || (t == [38, 35, 54, 50, 59] || (t == [38, 35, 57, 54, 59] || false))))))) : ∃ (h : Hints) (p : List Prop), outcome Tryd.prog 25 (aBody Tryd.prog cl0 h (lpBy ([])) 60 25 ([.c (str l)]) ([])) = some (.c (.bool (standsF l)), p) ∧ allP p := by
  refine bcase (t == [(38 : UInt8), (97 : UInt8), (109 : UInt8), (112 : UInt8), (59 : UInt8)]) (fun hc10 => ⟨_, _, (rst1_1 l t).trans (congrArg (fun r => some (r, _)) ?_), ?_⟩)
    (fun hc10 => bcase (t == [(38 : UInt8), (35 : UInt8), (51 : UInt8), (52 : UInt8), (59 : UInt8)]) (fun hc13 => ⟨_, _, (rst1_2 l t).trans (congrArg (fun r => some (r, _)) ?_), ?_⟩)
    (fun hc13 => bcase (t == [(38 : UInt8), (35 : UInt8), (51 : UInt8), (57 : UInt8), (59 : UInt8)]) (fun hc17 => ⟨_, _, (rst1_3 l t).trans (congrArg (fun r => some (r, _)) ?_), ?_⟩)
    (fun hc17 => bcase (t == [(38 : UInt8), (35 : UInt8), (54 : UInt8), (48 : UInt8), (59 : UInt8)]) (fun hc21 => ⟨_, _, (rst1_4 l t).trans (congrArg (fun r => some (r, _)) ?_), ?_⟩)
    (fun hc21 => bcase (t == [(38 : UInt8), (35 : UInt8), (54 : UInt8), (50 : UInt8), (59 : UInt8)]) (fun hc25 => ⟨_, _, (rst1_5 l t).trans (congrArg (fun r => some (r, _)) ?_), ?_⟩)
    (fun hc25 => ⟨_, _, (rst1_6 l t).trans (congrArg (fun r => some (r, _)) ?_), ?_⟩)))))
  all_goals try simp only [dz] at hc10
  all_goals try simp only [dz] at hc13
  all_goals try simp only [dz] at hc17
  all_goals try simp only [dz] at hc21
  all_goals try simp only [dz] at hc25
  any_goals (
    first
      | (rw [hs, hc10]; rfl)
      | (rw [hs, hc13]; rfl)
      | (rw [hs, hc17]; rfl)
      | (rw [hs, hc21]; rfl)
      | (rw [hs, hc25]; rfl)
      | (rw [hs, beq_eq_false_iff_ne.2 hc10, beq_eq_false_iff_ne.2 hc13, beq_eq_false_iff_ne.2 hc17, beq_eq_false_iff_ne.2 hc21, beq_eq_false_iff_ne.2 hc25, Bool.or_false]; rfl)
    done)
  all_goals try simp (disch := omega) only [std]
  all_goals repeat' apply And.intro
  all_goals first | exact True.intro | omega | with_reducible rfl | with_reducible assumption | exact ht | exact hs | rfl

theorem stands_short {l : List UInt8} (h : l.length < 5) : standsF l = false := by
  cases hs : standsF l with
  | false => rfl
  | true =>
    obtain ⟨t, ht, he⟩ := List.any_eq_true.1 hs
    have h5 : ∀ t ∈ sixT, t.length = 5 := by decide
    have hlen := h5 t ht
    rw [beq_iff_eq] at he
    rw [← he, List.length_take] at hlen
    omega

theorem rstands_ok : SpecOK Tryd.prog 25 standsSpec := by
  refine spec_of mixed cl0_ok fun args r q hs hq => ?_
  unfold standsSpec at hs
  split at hs
  · rename_i l
    simp only [Option.some.injEq, Prod.mk.injEq] at hs
    obtain ⟨rfl, rfl⟩ := hs
    obtain ⟨⟨⟨l⟩⟩, rfl⟩ : ∃ b : ByteArray, b = l := ⟨l, rfl⟩
    simp only [sb_mk, allP, and_true] at hq ⊢
    by_cases h : l.length < 5
    · obtain ⟨hh, q, e, hp⟩ := rst0_all l h (stands_short h)
      exact ⟨_, _, _, _, lpBy_nil, e, hp⟩
    · obtain ⟨hh, q, e, hp⟩ := rst1_all l _ h rfl rfl
      exact ⟨_, _, _, _, lpBy_nil, e, hp⟩
  · simp at hs

/-! Plain. -/
noncomputable def clRp : CallT := aCall Tryd.prog (sgBy [(25, standsSpec)]) 500 8

theorem clRp_ok : CallOK Tryd.prog clRp := aCall_ok mixed (sgBy_cons rstands_ok sgBy_nil) 500 8

def rpS (l : List UInt8) (i : Nat) : St := ⟨frame 51 [(0, .c (str l)), (3, .c (.int .i64 i))], []⟩
def rpR : St := ⟨frame 51 [(2, .c (.bool false))], []⟩
def badI (n : Int) : Prop := n < 32 ∨ n > 126 ∨ n = 34 ∨ n = 39 ∨ n = 60 ∨ n = 62 ∨ n = 96

noncomputable def rpA_X (l : List UInt8) (i : Nat) (h_ : List (Nat × Bool)) := roundOut (⟨[], [2], []⟩) (aCode Tryd.prog clRp ⟨true, bs h_ ++ (bs [(8, true)])⟩ (lpBy ([])) 60 (lbody Tryd.prog 12 2) (rpS l i))

theorem rpA_1 (l : List UInt8) (i : Nat) : rpA_X l i [(15, true)] = some (.ret, ⟨frame 51 [(2, (AV.c ((Value.bool false))))], []⟩, [decide ((↑i : Int) < ↑l.length) = true,
 (0 : Int) ≤ ↑i,
 (↑i : Int) < ↑l.length,
 (decide ((↑(l.getD i 0).toNat : Int) < (32 : Int))) = true]) := by kernel_rfl

theorem rpA_2 (l : List UInt8) (i : Nat) : rpA_X l i [(15, false), (18, true)] = some (.ret, ⟨frame 51 [(2, (AV.c ((Value.bool false))))], []⟩, [decide ((↑i : Int) < ↑l.length) = true,
 (0 : Int) ≤ ↑i,
 (↑i : Int) < ↑l.length,
 (decide ((↑(l.getD i 0).toNat : Int) < (32 : Int))) = false,
 (decide ((↑(l.getD i 0).toNat : Int) > (126 : Int))) = true]) := by kernel_rfl

theorem rpA_3 (l : List UInt8) (i : Nat) : rpA_X l i [(15, false), (18, false), (22, true)] = some (.ret, ⟨frame 51 [(2, (AV.c ((Value.bool false))))], []⟩, [decide ((↑i : Int) < ↑l.length) = true,
 (0 : Int) ≤ ↑i,
 (↑i : Int) < ↑l.length,
 (decide ((↑(l.getD i 0).toNat : Int) < (32 : Int))) = false,
 (decide ((↑(l.getD i 0).toNat : Int) > (126 : Int))) = false,
 ((↑(l.getD i 0).toNat : Int) == (34 : Int)) = true]) := by kernel_rfl

theorem rpA_4 (l : List UInt8) (i : Nat) : rpA_X l i [(15, false), (18, false), (22, false), (26, true)] = some (.ret, ⟨frame 51 [(2, (AV.c ((Value.bool false))))], []⟩, [decide ((↑i : Int) < ↑l.length) = true,
 (0 : Int) ≤ ↑i,
 (↑i : Int) < ↑l.length,
 (decide ((↑(l.getD i 0).toNat : Int) < (32 : Int))) = false,
 (decide ((↑(l.getD i 0).toNat : Int) > (126 : Int))) = false,
 ((↑(l.getD i 0).toNat : Int) == (34 : Int)) = false,
 ((↑(l.getD i 0).toNat : Int) == (39 : Int)) = true]) := by kernel_rfl

theorem rpA_5 (l : List UInt8) (i : Nat) : rpA_X l i [(15, false), (18, false), (22, false), (26, false), (30, true)] = some (.ret, ⟨frame 51 [(2, (AV.c ((Value.bool false))))], []⟩, [decide ((↑i : Int) < ↑l.length) = true,
 (0 : Int) ≤ ↑i,
 (↑i : Int) < ↑l.length,
 (decide ((↑(l.getD i 0).toNat : Int) < (32 : Int))) = false,
 (decide ((↑(l.getD i 0).toNat : Int) > (126 : Int))) = false,
 ((↑(l.getD i 0).toNat : Int) == (34 : Int)) = false,
 ((↑(l.getD i 0).toNat : Int) == (39 : Int)) = false,
 ((↑(l.getD i 0).toNat : Int) == (60 : Int)) = true]) := by kernel_rfl

theorem rpA_6 (l : List UInt8) (i : Nat) : rpA_X l i [(15, false), (18, false), (22, false), (26, false), (30, false), (34, true)] = some (.ret, ⟨frame 51 [(2, (AV.c ((Value.bool false))))], []⟩, [decide ((↑i : Int) < ↑l.length) = true,
 (0 : Int) ≤ ↑i,
 (↑i : Int) < ↑l.length,
 (decide ((↑(l.getD i 0).toNat : Int) < (32 : Int))) = false,
 (decide ((↑(l.getD i 0).toNat : Int) > (126 : Int))) = false,
 ((↑(l.getD i 0).toNat : Int) == (34 : Int)) = false,
 ((↑(l.getD i 0).toNat : Int) == (39 : Int)) = false,
 ((↑(l.getD i 0).toNat : Int) == (60 : Int)) = false,
 ((↑(l.getD i 0).toNat : Int) == (62 : Int)) = true]) := by kernel_rfl

theorem rpA_7 (l : List UInt8) (i : Nat) : rpA_X l i [(15, false), (18, false), (22, false), (26, false), (30, false), (34, false), (38, true)] = some (.ret, ⟨frame 51 [(2, (AV.c ((Value.bool false))))], []⟩, [decide ((↑i : Int) < ↑l.length) = true,
 (0 : Int) ≤ ↑i,
 (↑i : Int) < ↑l.length,
 (decide ((↑(l.getD i 0).toNat : Int) < (32 : Int))) = false,
 (decide ((↑(l.getD i 0).toNat : Int) > (126 : Int))) = false,
 ((↑(l.getD i 0).toNat : Int) == (34 : Int)) = false,
 ((↑(l.getD i 0).toNat : Int) == (39 : Int)) = false,
 ((↑(l.getD i 0).toNat : Int) == (60 : Int)) = false,
 ((↑(l.getD i 0).toNat : Int) == (62 : Int)) = false,
 ((↑(l.getD i 0).toNat : Int) == (96 : Int)) = true]) := by kernel_rfl

theorem rpA_all (l : List UInt8) (i : Nat) (hi : i < l.length) (hn : (((l.getD i 0).toNat : Nat) : Int) < 32 ∨ (((l.getD i 0).toNat : Nat) : Int) > 126 ∨ (((l.getD i 0).toNat : Nat) : Int) = 34 ∨ (((l.getD i 0).toNat : Nat) : Int) = 39 ∨ (((l.getD i 0).toNat : Nat) : Int) = 60 ∨ (((l.getD i 0).toNat : Nat) : Int) = 62 ∨ (((l.getD i 0).toNat : Nat) : Int) = 96) (hl : l.length ≤ 1000000000) : Round Ext0 Tryd.prog clRp (lbody Tryd.prog 12 2) (rpS l i) (.ret) (rpR) := by
  refine bcase (decide ((↑(l.getD i (0 : UInt8)).toNat : Int) < (32 : Int))) (fun hc15 => ⟨_, _, _, _, _, lpBy_nil, by decide, (rpA_1 l i).trans (congrArg (fun S : St => some ((.ret : Exit), S, _)) (by first | rfl | (simp (disch := omega) only [std]; done))), ?_⟩)
    (fun hc15 => bcase (decide ((↑(l.getD i (0 : UInt8)).toNat : Int) > (126 : Int))) (fun hc18 => ⟨_, _, _, _, _, lpBy_nil, by decide, (rpA_2 l i).trans (congrArg (fun S : St => some ((.ret : Exit), S, _)) (by first | rfl | (simp (disch := omega) only [std]; done))), ?_⟩)
    (fun hc18 => bcase ((↑(l.getD i (0 : UInt8)).toNat : Int) == (34 : Int)) (fun hc22 => ⟨_, _, _, _, _, lpBy_nil, by decide, (rpA_3 l i).trans (congrArg (fun S : St => some ((.ret : Exit), S, _)) (by first | rfl | (simp (disch := omega) only [std]; done))), ?_⟩)
    (fun hc22 => bcase ((↑(l.getD i (0 : UInt8)).toNat : Int) == (39 : Int)) (fun hc26 => ⟨_, _, _, _, _, lpBy_nil, by decide, (rpA_4 l i).trans (congrArg (fun S : St => some ((.ret : Exit), S, _)) (by first | rfl | (simp (disch := omega) only [std]; done))), ?_⟩)
    (fun hc26 => bcase ((↑(l.getD i (0 : UInt8)).toNat : Int) == (60 : Int)) (fun hc30 => ⟨_, _, _, _, _, lpBy_nil, by decide, (rpA_5 l i).trans (congrArg (fun S : St => some ((.ret : Exit), S, _)) (by first | rfl | (simp (disch := omega) only [std]; done))), ?_⟩)
    (fun hc30 => bcase ((↑(l.getD i (0 : UInt8)).toNat : Int) == (62 : Int)) (fun hc34 => ⟨_, _, _, _, _, lpBy_nil, by decide, (rpA_6 l i).trans (congrArg (fun S : St => some ((.ret : Exit), S, _)) (by first | rfl | (simp (disch := omega) only [std]; done))), ?_⟩)
    (fun hc34 => ⟨_, _, _, _, _, lpBy_nil, by decide, (rpA_7 l i).trans (congrArg (fun S : St => some ((.ret : Exit), S, _)) (by first | rfl | (simp (disch := omega) only [std]; done))), ?_⟩))))))
  all_goals try simp only [dz] at hc15
  all_goals try simp only [dz] at hc18
  all_goals try simp only [dz] at hc22
  all_goals try simp only [dz] at hc26
  all_goals try simp only [dz] at hc30
  all_goals try simp only [dz] at hc34
  all_goals try simp (disch := omega) only [std]
  all_goals repeat' apply And.intro
  all_goals first | exact True.intro | omega | with_reducible rfl | with_reducible assumption | rfl


noncomputable def rpB_X (l : List UInt8) (i : Nat) (h_ : List (Nat × Bool)) := roundOut (⟨[], [2], []⟩) (aCode Tryd.prog clRp ⟨true, bs h_ ++ (bs [(8, true), (47, false)])⟩ (lpBy ([])) 60 (lbody Tryd.prog 12 2) (rpS l i))

theorem rpB_1 (l : List UInt8) (i : Nat) : rpB_X l i [(15, false), (18, false), (22, false), (26, false), (30, false), (34, false), (38, false), (42, true)] = some (.ret, ⟨frame 51 [(2, (AV.c ((Value.bool false))))], []⟩, [decide ((↑i : Int) < ↑l.length) = true,
 (0 : Int) ≤ ↑i,
 (↑i : Int) < ↑l.length,
 (decide ((↑(l.getD i 0).toNat : Int) < (32 : Int))) = false,
 (decide ((↑(l.getD i 0).toNat : Int) > (126 : Int))) = false,
 ((↑(l.getD i 0).toNat : Int) == (34 : Int)) = false,
 ((↑(l.getD i 0).toNat : Int) == (39 : Int)) = false,
 ((↑(l.getD i 0).toNat : Int) == (60 : Int)) = false,
 ((↑(l.getD i 0).toNat : Int) == (62 : Int)) = false,
 ((↑(l.getD i 0).toNat : Int) == (96 : Int)) = false,
 ((↑(l.getD i 0).toNat : Int) == (38 : Int)) = true,
 (0 : Int) ≤ ↑i,
 (↑i : Int) ≤ ↑l.length,
 (↑l.length : Int) ≤ ↑l.length,
 (standsF (List.drop i (List.take l.length l))) = false]) := by kernel_rfl

theorem rpB_all (l : List UInt8) (i : Nat) (hi : i < l.length) (hn : (((l.getD i 0).toNat : Nat) : Int) = 38) (hs : standsF (l.drop i) = false) (hl : l.length ≤ 1000000000) : Round Ext0 Tryd.prog clRp (lbody Tryd.prog 12 2) (rpS l i) (.ret) (rpR) := by
  refine ⟨_, _, _, _, _, lpBy_nil, by decide, (rpB_1 l i).trans (congrArg (fun S : St => some ((.ret : Exit), S, _)) (by first | rfl | (simp (disch := omega) only [std]; done))), ?_⟩
  all_goals try simp (disch := omega) only [std]
  all_goals repeat' apply And.intro
  all_goals first | exact True.intro | omega | with_reducible rfl | with_reducible assumption | exact hn | exact hs | rfl


noncomputable def rpC_X (l : List UInt8) (i : Nat) (h_ : List (Nat × Bool)) := roundOut (⟨[], [0, 3], []⟩) (aCode Tryd.prog clRp ⟨true, bs h_ ++ (bs [(8, true), (47, true)])⟩ (lpBy ([])) 60 (lbody Tryd.prog 12 2) (rpS l i))

theorem rpC_1 (l : List UInt8) (i : Nat) : rpC_X l i [(15, false), (18, false), (22, false), (26, false), (30, false), (34, false), (38, false), (42, true)] = some (.normal, ⟨frame 51 [(0, (AV.c ((str (l))))), (3, (AV.c ((Value.int .i64 ((↑i : Int) + (1 : Int))))))], []⟩, [decide ((↑i : Int) < ↑l.length) = true,
 (0 : Int) ≤ ↑i,
 (↑i : Int) < ↑l.length,
 (decide ((↑(l.getD i 0).toNat : Int) < (32 : Int))) = false,
 (decide ((↑(l.getD i 0).toNat : Int) > (126 : Int))) = false,
 ((↑(l.getD i 0).toNat : Int) == (34 : Int)) = false,
 ((↑(l.getD i 0).toNat : Int) == (39 : Int)) = false,
 ((↑(l.getD i 0).toNat : Int) == (60 : Int)) = false,
 ((↑(l.getD i 0).toNat : Int) == (62 : Int)) = false,
 ((↑(l.getD i 0).toNat : Int) == (96 : Int)) = false,
 ((↑(l.getD i 0).toNat : Int) == (38 : Int)) = true,
 (0 : Int) ≤ ↑i,
 (↑i : Int) ≤ ↑l.length,
 (↑l.length : Int) ≤ ↑l.length,
 (standsF (List.drop i (List.take l.length l))) = true,
 (IntKind.i64.min : Int) ≤ ↑i + 1,
 (↑i + 1 : Int) ≤ IntKind.i64.max]) := by kernel_rfl

theorem rpC_all (l : List UInt8) (i : Nat) (hi : i < l.length) (hn : (((l.getD i 0).toNat : Nat) : Int) = 38) (hs : standsF (l.drop i) = true) (hl : l.length ≤ 1000000000) : Round Ext0 Tryd.prog clRp (lbody Tryd.prog 12 2) (rpS l i) (.normal) (rpS l (i + 1)) := by
  refine ⟨_, _, _, _, _, lpBy_nil, by decide, (rpC_1 l i).trans (congrArg (fun S : St => some ((.normal : Exit), S, _)) (by first | rfl | (simp (disch := omega) only [std]; done))), ?_⟩
  all_goals try simp (disch := omega) only [std]
  all_goals repeat' apply And.intro
  all_goals first | exact True.intro | omega | with_reducible rfl | with_reducible assumption | exact hn | exact hs | rfl


noncomputable def rpD_X (l : List UInt8) (i : Nat) (h_ : List (Nat × Bool)) := roundOut (⟨[], [0, 3], []⟩) (aCode Tryd.prog clRp ⟨true, bs h_ ++ (bs [(8, true)])⟩ (lpBy ([])) 60 (lbody Tryd.prog 12 2) (rpS l i))

theorem rpD_1 (l : List UInt8) (i : Nat) : rpD_X l i [(15, false), (18, false), (22, false), (26, false), (30, false), (34, false), (38, false), (42, false)] = some (.normal, ⟨frame 51 [(0, (AV.c ((str (l))))), (3, (AV.c ((Value.int .i64 ((↑i : Int) + (1 : Int))))))], []⟩, [decide ((↑i : Int) < ↑l.length) = true,
 (0 : Int) ≤ ↑i,
 (↑i : Int) < ↑l.length,
 (decide ((↑(l.getD i 0).toNat : Int) < (32 : Int))) = false,
 (decide ((↑(l.getD i 0).toNat : Int) > (126 : Int))) = false,
 ((↑(l.getD i 0).toNat : Int) == (34 : Int)) = false,
 ((↑(l.getD i 0).toNat : Int) == (39 : Int)) = false,
 ((↑(l.getD i 0).toNat : Int) == (60 : Int)) = false,
 ((↑(l.getD i 0).toNat : Int) == (62 : Int)) = false,
 ((↑(l.getD i 0).toNat : Int) == (96 : Int)) = false,
 ((↑(l.getD i 0).toNat : Int) == (38 : Int)) = false,
 (IntKind.i64.min : Int) ≤ ↑i + 1,
 (↑i + 1 : Int) ≤ IntKind.i64.max]) := by kernel_rfl

theorem rpD_all (l : List UInt8) (i : Nat) (hi : i < l.length) (hn : ¬ ((((l.getD i 0).toNat : Nat) : Int) < 32 ∨ (((l.getD i 0).toNat : Nat) : Int) > 126 ∨ (((l.getD i 0).toNat : Nat) : Int) = 34 ∨ (((l.getD i 0).toNat : Nat) : Int) = 39 ∨ (((l.getD i 0).toNat : Nat) : Int) = 60 ∨ (((l.getD i 0).toNat : Nat) : Int) = 62 ∨ (((l.getD i 0).toNat : Nat) : Int) = 96)) (hm : ¬ (((l.getD i 0).toNat : Nat) : Int) = 38) (hl : l.length ≤ 1000000000) : Round Ext0 Tryd.prog clRp (lbody Tryd.prog 12 2) (rpS l i) (.normal) (rpS l (i + 1)) := by
  refine ⟨_, _, _, _, _, lpBy_nil, by decide, (rpD_1 l i).trans (congrArg (fun S : St => some ((.normal : Exit), S, _)) (by first | rfl | (simp (disch := omega) only [std]; done))), ?_⟩
  all_goals try simp (disch := omega) only [std]
  all_goals repeat' apply And.intro
  all_goals first | exact True.intro | omega | with_reducible rfl | with_reducible assumption | exact hm | rfl


noncomputable def rpZ_X (l : List UInt8) (i : Nat) (h_ : List (Nat × Bool)) := roundOut (⟨[], [0, 3], []⟩) (aCode Tryd.prog clRp ⟨true, bs h_ ++ (bs [(8, false)])⟩ (lpBy ([])) 60 (lbody Tryd.prog 12 2) (rpS l i))

theorem rpZ_1 (l : List UInt8) (i : Nat) : rpZ_X l i [] = some (.exit 0, ⟨frame 51 [(0, (AV.c ((str (l))))), (3, (AV.c ((Value.int .i64 ((↑i : Int))))))], []⟩, [decide ((↑i : Int) < ↑l.length) = false]) := by kernel_rfl

theorem rpZ_all (l : List UInt8) (i : Nat) (hi : i = l.length) (hl : l.length ≤ 1000000000) : Round Ext0 Tryd.prog clRp (lbody Tryd.prog 12 2) (rpS l i) (.exit 0) (rpS l i) := by
  refine ⟨_, _, _, _, _, lpBy_nil, by decide, (rpZ_1 l i).trans (congrArg (fun S : St => some ((.exit 0 : Exit), S, _)) (by first | rfl | (simp (disch := omega) only [std]; done))), ?_⟩
  all_goals try simp (disch := omega) only [std]
  all_goals repeat' apply And.intro
  all_goals first | exact True.intro | omega | with_reducible rfl | with_reducible assumption | exact hi | rfl

theorem bad_iff (c : UInt8) : badE c = true ↔ (((c.toNat : Nat) : Int) < 32 ∨ ((c.toNat : Nat) : Int) > 126 ∨ ((c.toNat : Nat) : Int) = 34 ∨ ((c.toNat : Nat) : Int) = 39 ∨ ((c.toNat : Nat) : Int) = 60 ∨ ((c.toNat : Nat) : Int) = 62 ∨ ((c.toNat : Nat) : Int) = 96) := by
  revert c
  refine byte_all ?_
  decide +kernel

theorem plainF_cons (c : UInt8) (r : List UInt8) : plainF (c :: r) = (!badE c && !(c == 38 && !standsF (c :: r)) && plainF r) := rfl

theorem rp_walk (l : List UInt8) (hl : l.length ≤ 1000000000) : Tri Ext0 Tryd.prog (.loop (lbody Tryd.prog 12 2)) (rpS l 0) (if plainF l = true then .exit 0 else .ret) (if plainF l = true then rpS l l.length else rpR) := by
  refine loop_inv mixed clRp_ok (fun i => rpS l i) (fun i => i ≤ l.length ∧ plainF (l.drop i) = plainF l) (fun i => l.length - i) (fun i hx => ?_) 0 ⟨Nat.zero_le _, rfl⟩
  obtain ⟨h1, h2⟩ := hx
  by_cases hi : i < l.length
  · have hd := drop_cons l i hi
    rw [hd, plainF_cons, ← hd] at h2
    by_cases hb : badE (l.getD i 0) = true
    · rw [hb] at h2
      have h2 : plainF l = false := by rw [← h2]; rfl
      rw [h2]
      exact .inr ⟨by simp, rpA_all l i hi ((bad_iff _).1 hb) hl⟩
    · have hbn : ¬ _ := fun h => hb ((bad_iff (l.getD i 0)).2 h)
      rw [Bool.not_eq_true] at hb
      rw [hb] at h2
      by_cases hc : l.getD i 0 = 38
      · have hcc : (((l.getD i 0).toNat : Nat) : Int) = 38 := by rw [hc]; rfl
        rw [hc] at h2
        cases hs : standsF (l.drop i) with
        | false =>
          rw [hs] at h2
          have h2 : plainF l = false := by rw [← h2]; rfl
          rw [h2]
          exact .inr ⟨by simp, rpB_all l i hi hcc hs hl⟩
        | true =>
          rw [hs] at h2
          exact .inl ⟨i + 1, ⟨hi, by rw [← h2]; rfl⟩, by omega, rpC_all l i hi hcc hs hl⟩
      · rw [beq_eq_false_iff_ne.2 hc] at h2
        exact .inl ⟨i + 1, ⟨hi, by rw [← h2]; rfl⟩, by omega, rpD_all l i hi hbn (u8_ne (k := 38) (by decide) hc) hl⟩
  · have he : i = l.length := by omega
    subst he
    rw [List.drop_length] at h2
    have h2 : plainF l = true := by rw [← h2]; rfl
    rw [h2]
    exact .inr ⟨by simp, rpZ_all l l.length rfl hl⟩

noncomputable def rpLp (l : List UInt8) (e : Exit) (R : St) : List (Nat × Lp) := [(2, ⟨lbody Tryd.prog 12 2, ⟨[], [0, 3], []⟩, rpS l 0, e, R⟩)]

noncomputable def rpl1_X (l : List UInt8) (h_ : List (Nat × Bool)) := outcome Tryd.prog 12 (aBody Tryd.prog clRp ⟨true, bs h_ ++ ([])⟩ (lpBy (rpLp l (.exit 0) (rpS l l.length))) 60 12 ([.c (str l)]) ([]))

theorem rpl1_1 (l : List UInt8) : rpl1_X l [] = some ((AV.c ((Value.bool true))), [((lbody Tryd.prog (12 : FuncId) (2 : Nat) : Go.Code)) = (lbody Tryd.prog (12 : FuncId) (2 : Nat)),
 ((rpS l (0 : Nat) : Go.Proofs.YtfnappdgiomiiaaDoor.St)) = (rpS l (0 : Nat))]) := by kernel_rfl

theorem rpl1_all (l : List UInt8)  : ∃ (h : Hints) (p : List Prop), outcome Tryd.prog 12 (aBody Tryd.prog clRp h (lpBy (rpLp l (.exit 0) (rpS l l.length))) 60 12 ([.c (str l)]) ([])) = some (.c (.bool true), p) ∧ allP p := by
  have eR := rpl1_1 l
  refine ⟨_, _, eR.trans (congrArg (fun r => some (r, _)) ?_), ?_⟩
  · rfl
  · try simp only [dz] at *
    try simp (disch := omega) only [std, bytesOK_cons, bytesOK_nil]
    repeat' apply And.intro
    all_goals first | exact True.intro | omega | assumption | rfl | exact avEq_refl _


noncomputable def rpl2_X (l : List UInt8) (h_ : List (Nat × Bool)) := outcome Tryd.prog 12 (aBody Tryd.prog clRp ⟨true, bs h_ ++ ([])⟩ (lpBy (rpLp l .ret rpR)) 60 12 ([.c (str l)]) ([]))

theorem rpl2_1 (l : List UInt8) : rpl2_X l [] = some ((AV.c ((Value.bool false))), [((lbody Tryd.prog (12 : FuncId) (2 : Nat) : Go.Code)) = (lbody Tryd.prog (12 : FuncId) (2 : Nat)),
 ((rpS l (0 : Nat) : Go.Proofs.YtfnappdgiomiiaaDoor.St)) = (rpS l (0 : Nat))]) := by kernel_rfl

theorem rpl2_all (l : List UInt8)  : ∃ (h : Hints) (p : List Prop), outcome Tryd.prog 12 (aBody Tryd.prog clRp h (lpBy (rpLp l .ret rpR)) 60 12 ([.c (str l)]) ([])) = some (.c (.bool false), p) ∧ allP p := by
  have eR := rpl2_1 l
  refine ⟨_, _, eR.trans (congrArg (fun r => some (r, _)) ?_), ?_⟩
  · rfl
  · try simp only [dz] at *
    try simp (disch := omega) only [std, bytesOK_cons, bytesOK_nil]
    repeat' apply And.intro
    all_goals first | exact True.intro | omega | assumption | rfl | exact avEq_refl _

def plainSpec : Spec
  | [.c (.string s)] => some (.c (.bool (plainF (sb s))), [(sb s).length ≤ 1000000000])
  | _ => none

theorem rplain_ok : SpecOK Tryd.prog 12 plainSpec := by
  refine spec_of mixed clRp_ok fun args r q hs hq => ?_
  unfold plainSpec at hs
  split at hs
  · rename_i l
    simp only [Option.some.injEq, Prod.mk.injEq] at hs
    obtain ⟨rfl, rfl⟩ := hs
    obtain ⟨⟨⟨l⟩⟩, rfl⟩ : ∃ b : ByteArray, b = l := ⟨l, rfl⟩
    simp only [sb_mk, allP, and_true] at hq ⊢
    have hw := rp_walk l hq
    cases hb : plainF l with
    | true =>
      rw [hb] at hw
      obtain ⟨hh, q, e, hp⟩ := rpl1_all l
      exact ⟨_, _, _, _, lpBy_cons lpBy_nil List.nodup_nil hw, e, hp⟩
    | false =>
      rw [hb] at hw
      obtain ⟨hh, q, e, hp⟩ := rpl2_all l
      exact ⟨_, _, _, _, lpBy_cons lpBy_nil List.nodup_nil hw, e, hp⟩
  · simp at hs

/-! Settled; ahead of a byte. -/
noncomputable def clRs : CallT := aCall Tryd.prog (sgBy [(10, escSpec), (26, entSpec)]) 500 8

theorem clRs_ok : CallOK Tryd.prog clRs := aCall_ok mixed (sgBy_cons resc_ok (sgBy_cons rent_ok sgBy_nil)) 500 8

def setSpec : Spec
  | [.c (.string s)] => some (.c (.bool (settledF (sb s))), [(sb s).length ≤ 1000000000])
  | _ => none

noncomputable def rse_X (l : List UInt8) (h_ : List (Nat × Bool)) := outcome Tryd.prog 14 (aBody Tryd.prog clRs ⟨true, bs h_ ++ ([])⟩ (lpBy ([])) 60 14 ([.c (str l)]) ([]))

theorem rse_1 (l : List UInt8) : rse_X l [] = some ((AV.c ((Value.bool (escF (entF l) == l)))), [((l.length : Nat) ≤ ((1000000000 : Nat))),
 (((entF l).length : Nat) ≤ ((1000000000 : Nat)))]) := by kernel_rfl

theorem rse_all (l : List UInt8) (hl : l.length ≤ 1000000000) (he : (entF l).length ≤ l.length) : ∃ (h : Hints) (p : List Prop), outcome Tryd.prog 14 (aBody Tryd.prog clRs h (lpBy ([])) 60 14 ([.c (str l)]) ([])) = some (.c (.bool (settledF l)), p) ∧ allP p := by
  refine ⟨_, _, (rse_1 l).trans (congrArg (fun r => some (r, _)) (by first | rfl | (simp (disch := omega) only [std]; done))), ?_⟩
  all_goals try simp (disch := omega) only [std]
  all_goals repeat' apply And.intro
  all_goals first | exact True.intro | omega | with_reducible rfl | with_reducible assumption | rfl

theorem rset_ok : SpecOK Tryd.prog 14 setSpec := by
  refine spec_of mixed clRs_ok fun args r q hs hq => ?_
  unfold setSpec at hs
  split at hs
  · rename_i l
    simp only [Option.some.injEq, Prod.mk.injEq] at hs
    obtain ⟨rfl, rfl⟩ := hs
    obtain ⟨⟨⟨l⟩⟩, rfl⟩ : ∃ b : ByteArray, b = l := ⟨l, rfl⟩
    simp only [sb_mk, allP, and_true] at hq ⊢
    obtain ⟨hh, q, e, hp⟩ := rse_all l hq (ent_len l)
    exact ⟨_, _, _, _, lpBy_nil, e, hp⟩
  · simp at hs

def ahSpec : Spec
  | [.c (.string s), .c (.int .u8 n)] => some (.c (str (aheadF (UInt8.ofNat n.toNat) (sb s))), [0 ≤ n, n < 256, (sb s).length ≤ 1000000000])
  | _ => none

def raS (l : List UInt8) (q : UInt8) (i : Nat) : St := ⟨frame 21 [(0, .c (str l)), (1, byteC q), (5, .c (.int .i64 i))], []⟩
def raR (x : List UInt8) : St := ⟨frame 21 [(4, .c (str x))], []⟩

noncomputable def raA_X (l x : List UInt8) (q : UInt8) (i : Nat) (h_ : List (Nat × Bool)) := roundOut (⟨[], [4], []⟩) (aCode Tryd.prog cl0 ⟨true, bs h_ ++ (bs [(9, true), (16, true)] ++ [(19, ⟨.c (str x), none⟩)])⟩ (lpBy ([])) 60 (lbody Tryd.prog 16 2) (raS l q i))

theorem raA_1 (l x : List UInt8) (q : UInt8) (i : Nat) : raA_X l x q i [] = some (.ret, ⟨frame 21 [(4, (AV.c ((str (x)))))], []⟩, [decide ((↑i : Int) < ↑l.length) = true,
 (0 : Int) ≤ ↑i,
 (↑i : Int) < ↑l.length,
 ((↑(l.getD i 0).toNat : Int) == (↑q.toNat : Int)) = true,
 (0 : Int) ≤ 0,
 (0 : Int) ≤ ↑i,
 (↑i : Int) ≤ ↑l.length,
 ((List.drop (Int.toNat (0 : Int)) (List.take i l) : List UInt8)) = (x)]) := by kernel_rfl

theorem raA_all (l x : List UInt8) (q : UInt8) (i : Nat) (hi : i < l.length) (hq : l.getD i 0 = q) (hqn : (((l.getD i 0).toNat : Nat) : Int) = ((q.toNat : Nat) : Int)) (hl : l.length ≤ 9223372036854775807) (hx : l.take i = x) : Round Ext0 Tryd.prog cl0 (lbody Tryd.prog 16 2) (raS l q i) (.ret) (raR x) := by
  refine ⟨_, _, _, _, _, lpBy_nil, by decide, (raA_1 l x q i).trans (congrArg (fun S : St => some ((.ret : Exit), S, _)) (by first | rfl | (simp (disch := omega) only [std]; done))), ?_⟩
  all_goals try simp (disch := omega) only [std]
  all_goals repeat' apply And.intro
  all_goals first | exact True.intro | omega | with_reducible rfl | with_reducible assumption | exact hq | exact hqn | exact hx | rfl


noncomputable def raB_X (l x : List UInt8) (q : UInt8) (i : Nat) (h_ : List (Nat × Bool)) := roundOut (⟨[], [0, 1, 5], []⟩) (aCode Tryd.prog cl0 ⟨true, bs h_ ++ (bs [(9, true), (16, false)] ++ [(19, ⟨.c (str x), none⟩)])⟩ (lpBy ([])) 60 (lbody Tryd.prog 16 2) (raS l q i))

theorem raB_1 (l x : List UInt8) (q : UInt8) (i : Nat) : raB_X l x q i [] = some (.normal, ⟨frame 21 [(0, (AV.c ((str (l))))), (1, (AV.c ((Value.int .u8 ((↑q.toNat : Int)))))), (5, (AV.c ((Value.int .i64 ((↑i : Int) + (1 : Int))))))], []⟩, [decide ((↑i : Int) < ↑l.length) = true,
 (0 : Int) ≤ ↑i,
 (↑i : Int) < ↑l.length,
 ((↑(l.getD i 0).toNat : Int) == (↑q.toNat : Int)) = false,
 (IntKind.i64.min : Int) ≤ ↑i + 1,
 (↑i + 1 : Int) ≤ IntKind.i64.max]) := by kernel_rfl

theorem raB_all (l x : List UInt8) (q : UInt8) (i : Nat) (hi : i < l.length) (hq : ¬ l.getD i 0 = q) (hqn : ¬ (((l.getD i 0).toNat : Nat) : Int) = ((q.toNat : Nat) : Int)) (hl : l.length ≤ 9223372036854775807) (hx : l.take i = x) : Round Ext0 Tryd.prog cl0 (lbody Tryd.prog 16 2) (raS l q i) (.normal) (raS l q (i + 1)) := by
  refine ⟨_, _, _, _, _, lpBy_nil, by decide, (raB_1 l x q i).trans (congrArg (fun S : St => some ((.normal : Exit), S, _)) (by first | rfl | (simp (disch := omega) only [std]; done))), ?_⟩
  all_goals try simp (disch := omega) only [std]
  all_goals repeat' apply And.intro
  all_goals first | exact True.intro | omega | with_reducible rfl | with_reducible assumption | exact hq | exact hqn | exact hx | rfl


noncomputable def raZ_X (l x : List UInt8) (q : UInt8) (i : Nat) (h_ : List (Nat × Bool)) := roundOut (⟨[], [0, 1, 5], []⟩) (aCode Tryd.prog cl0 ⟨true, bs h_ ++ (bs [(9, false)] ++ [(19, ⟨.c (str x), none⟩)])⟩ (lpBy ([])) 60 (lbody Tryd.prog 16 2) (raS l q i))

theorem raZ_1 (l x : List UInt8) (q : UInt8) (i : Nat) : raZ_X l x q i [] = some (.exit 0, ⟨frame 21 [(0, (AV.c ((str (l))))), (1, (AV.c ((Value.int .u8 ((↑q.toNat : Int)))))), (5, (AV.c ((Value.int .i64 ((↑i : Int))))))], []⟩, [decide ((↑i : Int) < ↑l.length) = false]) := by kernel_rfl

theorem raZ_all (l x : List UInt8) (q : UInt8) (i : Nat) (hi : i = l.length) (hl : l.length ≤ 9223372036854775807) (hx : l.take i = x) : Round Ext0 Tryd.prog cl0 (lbody Tryd.prog 16 2) (raS l q i) (.exit 0) (raS l q i) := by
  refine ⟨_, _, _, _, _, lpBy_nil, by decide, (raZ_1 l x q i).trans (congrArg (fun S : St => some ((.exit 0 : Exit), S, _)) (by first | rfl | (simp (disch := omega) only [std]; done))), ?_⟩
  all_goals try simp (disch := omega) only [std]
  all_goals repeat' apply And.intro
  all_goals first | exact True.intro | omega | with_reducible rfl | with_reducible assumption | exact hi | exact hx | rfl

theorem u8_eq_iff {a b : UInt8} : ((a.toNat : Nat) : Int) = ((b.toNat : Nat) : Int) ↔ a = b := ⟨fun h => UInt8.toNat_inj.1 (by omega), fun h => by rw [h]⟩

theorem ahead_drop (q : UInt8) (l : List UInt8) : (aheadF q l).length ≤ l.length ∧ (∀ j, j < (aheadF q l).length → l.getD j 0 ≠ q) ∧ ((aheadF q l).length < l.length → l.getD (aheadF q l).length 0 = q) ∧ l.take (aheadF q l).length = aheadF q l := by
  have h1 := ahead_le q l
  have ht : l.take (aheadF q l).length = aheadF q l := by
    rcases ahead_cut (q := q) (l := l) with h | ⟨r, h⟩
    · rw [h, List.take_length]
    · generalize aheadF q l = a at h ⊢
      rw [h]
      exact List.take_left
  refine ⟨h1, fun j hj => ?_, fun h => ?_, ht⟩
  · have hm : l.getD j 0 ∈ aheadF q l := by
      rw [← ht]
      have : (l.take (aheadF q l).length)[j]'(by rw [List.length_take]; omega) = l.getD j 0 := by simp [List.getD, show j < l.length by omega]
      rw [← this]
      exact List.getElem_mem _
    exact ahead_no q l _ hm
  · rcases ahead_cut (q := q) (l := l) with h2 | ⟨r, h2⟩
    · rw [h2] at h; omega
    · generalize aheadF q l = a at h2
      subst h2
      simp [List.getD]

theorem ra_walk (l : List UInt8) (q : UInt8) (hl : l.length ≤ 9223372036854775807) : Tri Ext0 Tryd.prog (.loop (lbody Tryd.prog 16 2)) (raS l q 0) (if aheadF q l = l then .exit 0 else .ret) (if aheadF q l = l then raS l q l.length else raR (aheadF q l)) := by
  obtain ⟨h1, h2, h3, h4⟩ := ahead_drop q l
  by_cases h : aheadF q l = l
  · rw [if_pos h, if_pos h]
    rw [h] at h2
    exact loop_up mixed cl0_ok (raS l q) l.length (by simp) (fun i hi => raB_all l _ q i hi (h2 i hi) (fun e => h2 i hi (u8_eq_iff.1 e)) hl rfl) (raZ_all l _ q l.length rfl hl rfl) 0 (Nat.zero_le _)
  · rw [if_neg h, if_neg h]
    have hlt : (aheadF q l).length < l.length := by
      apply Classical.byContradiction
      intro hn
      have : (aheadF q l).length = l.length := by omega
      rw [this, List.take_length] at h4
      exact h h4.symm
    exact loop_up mixed cl0_ok (raS l q) (aheadF q l).length (by simp) (fun i hi => raB_all l _ q i (by omega) (h2 i hi) (fun e => h2 i hi (u8_eq_iff.1 e)) hl rfl) (raA_all l _ q _ hlt (h3 hlt) (u8_eq_iff.2 (h3 hlt)) hl h4) 0 (Nat.zero_le _)

noncomputable def raLp (l : List UInt8) (q : UInt8) (e : Exit) (R : St) : List (Nat × Lp) := [(2, ⟨lbody Tryd.prog 16 2, ⟨[], [0, 1, 5], []⟩, raS l q 0, e, R⟩)]

noncomputable def rah1_X (l x : List UInt8) (q : UInt8) (h_ : List (Nat × Bool)) := outcome Tryd.prog 16 (aBody Tryd.prog cl0 ⟨true, bs h_ ++ ([])⟩ (lpBy (raLp l q (.exit 0) (raS l q l.length))) 60 16 ([.c (str l), byteC q]) ([]))

theorem rah1_1 (l x : List UInt8) (q : UInt8) : rah1_X l x q [] = some ((AV.c ((str (l)))), [((lbody Tryd.prog (16 : FuncId) (2 : Nat) : Go.Code)) = (lbody Tryd.prog (16 : FuncId) (2 : Nat)),
 ((raS l q (0 : Nat) : Go.Proofs.YtfnappdgiomiiaaDoor.St)) = (raS l q (0 : Nat))]) := by kernel_rfl

theorem rah1_all (l x : List UInt8) (q : UInt8)  : ∃ (h : Hints) (p : List Prop), outcome Tryd.prog 16 (aBody Tryd.prog cl0 h (lpBy (raLp l q (.exit 0) (raS l q l.length))) 60 16 ([.c (str l), byteC q]) ([])) = some (.c (str l), p) ∧ allP p := by
  have eR := rah1_1 l x q
  refine ⟨_, _, eR.trans (congrArg (fun r => some (r, _)) ?_), ?_⟩
  · rfl
  · try simp only [dz] at *
    try simp (disch := omega) only [std, bytesOK_cons, bytesOK_nil]
    repeat' apply And.intro
    all_goals first | exact True.intro | omega | assumption | rfl | exact avEq_refl _


noncomputable def rah2_X (l x : List UInt8) (q : UInt8) (h_ : List (Nat × Bool)) := outcome Tryd.prog 16 (aBody Tryd.prog cl0 ⟨true, bs h_ ++ ([])⟩ (lpBy (raLp l q .ret (raR x))) 60 16 ([.c (str l), byteC q]) ([]))

theorem rah2_1 (l x : List UInt8) (q : UInt8) : rah2_X l x q [] = some ((AV.c ((str (x)))), [((lbody Tryd.prog (16 : FuncId) (2 : Nat) : Go.Code)) = (lbody Tryd.prog (16 : FuncId) (2 : Nat)),
 ((raS l q (0 : Nat) : Go.Proofs.YtfnappdgiomiiaaDoor.St)) = (raS l q (0 : Nat))]) := by kernel_rfl

theorem rah2_all (l x : List UInt8) (q : UInt8)  : ∃ (h : Hints) (p : List Prop), outcome Tryd.prog 16 (aBody Tryd.prog cl0 h (lpBy (raLp l q .ret (raR x))) 60 16 ([.c (str l), byteC q]) ([])) = some (.c (str x), p) ∧ allP p := by
  have eR := rah2_1 l x q
  refine ⟨_, _, eR.trans (congrArg (fun r => some (r, _)) ?_), ?_⟩
  · rfl
  · try simp only [dz] at *
    try simp (disch := omega) only [std, bytesOK_cons, bytesOK_nil]
    repeat' apply And.intro
    all_goals first | exact True.intro | omega | assumption | rfl | exact avEq_refl _

theorem rah_ok : SpecOK Tryd.prog 16 ahSpec := by
  refine spec_of mixed cl0_ok fun args r q hs hq => ?_
  unfold ahSpec at hs
  split at hs
  · rename_i l n
    simp only [Option.some.injEq, Prod.mk.injEq] at hs
    obtain ⟨rfl, rfl⟩ := hs
    obtain ⟨⟨⟨l⟩⟩, rfl⟩ : ∃ b : ByteArray, b = l := ⟨l, rfl⟩
    simp only [sb_mk, allP, and_true] at hq ⊢
    obtain ⟨h0, h1, h2⟩ := hq
    obtain ⟨q, rfl⟩ := u8_cast h0 h1
    rw [Int.toNat_natCast, UInt8.ofNat_toNat]
    have hw := ra_walk l q (by omega)
    by_cases h : aheadF q l = l
    · rw [if_pos h, if_pos h] at hw
      rw [h]
      obtain ⟨hh, p, e, hp⟩ := rah1_all l [] q
      exact ⟨_, _, _, _, lpBy_cons lpBy_nil List.nodup_nil hw, e, hp⟩
    · rw [if_neg h, if_neg h] at hw
      obtain ⟨hh, p, e, hp⟩ := rah2_all l (aheadF q l) q
      exact ⟨_, _, _, _, lpBy_cons lpBy_nil List.nodup_nil hw, e, hp⟩
  · simp at hs

end Go.Proofs.YtfnappdgiomiiaaDoor
