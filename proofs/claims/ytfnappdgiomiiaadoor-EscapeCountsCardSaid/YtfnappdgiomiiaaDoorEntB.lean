/- Names and numbers: the document's own; numbers: the program's own. -/
import Derived.Test.YtfnappdgiomiiaaDoorEntA
namespace Go.Proofs.YtfnappdgiomiiaaDoor
open Go.RowKit Ent
set_option linter.unusedVariables false
set_option linter.unusedSimpArgs false

/-! Two rows, the one looked up in, the other told. -/
def strC (l : List UInt8) : AV := .c (str l)
def keysA (T : List (List UInt8 × List UInt8)) : List AV := T.map fun kv => strC kv.1
def valsA (T : List (List UInt8 × List UInt8)) : List AV := T.map fun kv => strC kv.2
def unstr : AV → List UInt8
  | .c (.string s) => sb s
  | _ => []
def zipA : List AV → List AV → List (List UInt8 × List UInt8)
  | a :: k, b :: v => (unstr a, unstr b) :: zipA k v
  | _, _ => []
def hasT (T : List (List UInt8 × List UInt8)) (l : List UInt8) : Bool := T.any fun kv => kv.1 == l

theorem keys_at (T : List (List UInt8 × List UInt8)) (i : Nat) (h : i < T.length) : ((keysA T).drop i).headD .any = strC (T.getD i ([], [])).1 := by
  unfold keysA
  rw [← List.map_drop, List.drop_eq_getElem_cons h]
  simp [List.getD, h]
theorem vals_at (T : List (List UInt8 × List UInt8)) (i : Nat) (h : i < T.length) : ((valsA T).drop i).headD .any = strC (T.getD i ([], [])).2 := by
  unfold valsA
  rw [← List.map_drop, List.drop_eq_getElem_cons h]
  simp [List.getD, h]

def fdS (T : List (List UInt8 × List UInt8)) (l : List UInt8) (i : Nat) : St := ⟨frame 25 [(0, .fs 1 T.length (keysA T)), (1, .fs 1 T.length (valsA T)), (2, .c (str l)), (8, .c (.int .i64 i))], []⟩
def fdR (v : List UInt8) : St := ⟨frame 25 [(6, .c (str v)), (7, .c (.bool true))], []⟩

noncomputable def fdr_X (T : List (List UInt8 × List UInt8)) (l k v : List UInt8) (i : Nat) (h_ : List (Nat × Bool)) (fi_ : Fi) := roundOut (fi_) (aCode Tryd.prog cl0 ⟨true, bs h_ ++ ([(18, ⟨.c (str k), none⟩), (24, ⟨.c (str v), none⟩)])⟩ (lpBy ([])) 60 (lbody Tryd.prog 56 2) (fdS T l i))

theorem fdr_1 (T : List (List UInt8 × List UInt8)) (l k v : List UInt8) (i : Nat) : fdr_X T l k v i [(12, true), (20, true)] ⟨[], [6, 7], []⟩ = some (.ret, fdR v, [decide ((↑i : Int) < ↑T.length) = true,
 (0 : Int) ≤ ↑i,
 (↑i : Int) < ↑T.length,
 (((0 : Nat) : Nat) < ((List.drop i (keysA T)).length)),
 avEq ((List.drop i (keysA T)).headD AV.any) ((AV.c ((str (k))))),
 (k == l) = true,
 (0 : Int) ≤ ↑i,
 (↑i : Int) < ↑T.length,
 (((0 : Nat) : Nat) < ((List.drop i (valsA T)).length)),
 avEq ((List.drop i (valsA T)).headD AV.any) ((AV.c ((str (v)))))]) := by kernel_rfl

theorem fdr_2 (T : List (List UInt8 × List UInt8)) (l k v : List UInt8) (i : Nat) : fdr_X T l k v i [(12, true), (20, false)] (⟨[], [0, 1, 2, 8], []⟩) = some (.normal, fdS T l (i + 1), [decide ((↑i : Int) < ↑T.length) = true,
 (0 : Int) ≤ ↑i,
 (↑i : Int) < ↑T.length,
 (((0 : Nat) : Nat) < ((List.drop i (keysA T)).length)),
 avEq ((List.drop i (keysA T)).headD AV.any) ((AV.c ((str (k))))),
 (k == l) = false,
 (IntKind.i64.min : Int) ≤ ↑i + 1,
 (↑i + 1 : Int) ≤ IntKind.i64.max]) := by kernel_rfl

theorem fdr_3 (T : List (List UInt8 × List UInt8)) (l k v : List UInt8) (i : Nat) : fdr_X T l k v i [(12, false)] (⟨[], [0, 1, 2, 8], []⟩) = some (.exit 0, fdS T l i, [decide ((↑i : Int) < ↑T.length) = false]) := by kernel_rfl

theorem drop_at (T : List (List UInt8 × List UInt8)) (i : Nat) (h : i < T.length) : T.drop i = T.getD i ([], []) :: T.drop (i + 1) := by
  rw [List.drop_eq_getElem_cons h]
  simp [List.getD, h]

theorem fdr_go {T : List (List UInt8 × List UInt8)} {l : List UInt8} {i : Nat} (hT : T.length ≤ 1000000) (h : i < T.length) (hn : (T.getD i ([], [])).1 ≠ l) : Round Ext0 Tryd.prog cl0 (lbody Tryd.prog 56 2) (fdS T l i) .normal (fdS T l (i + 1)) := by
  refine ⟨_, _, _, _, _, lpBy_nil, by decide, fdr_2 T l (T.getD i ([], [])).1 [] i, ?_⟩
  have hk := keys_at T i h
  simp only [allP, and_true, decide_eq_true_eq, i64_min, i64_max, Int.toNat_natCast]
  have hkl : (keysA T).length = T.length := by simp [keysA]
  repeat' apply And.intro
  all_goals first | omega | (rw [hk]; rfl) | (rw [beq_eq_false_iff_ne]; exact hn) | (rw [List.length_drop, hkl]; omega)

theorem fd_none (T : List (List UInt8 × List UInt8)) (l : List UInt8) (hT : T.length ≤ 1000000) (hn : hasT T l = false) : Tri Ext0 Tryd.prog (.loop (lbody Tryd.prog 56 2)) (fdS T l 0) (.exit 0) (fdS T l T.length) := by
  refine loop_up mixed cl0_ok (fdS T l) T.length (by simp) (fun i hi => fdr_go hT hi ?_) ?_ 0 (Nat.zero_le _)
  · intro e
    have : hasT T l = true := List.any_eq_true.2 ⟨T.getD i ([], []), by simp [List.getD, hi], by rw [beq_iff_eq]; exact e⟩
    rw [hn] at this; cases this
  · refine ⟨_, _, _, _, _, lpBy_nil, by decide, fdr_3 T l [] [] T.length, ?_⟩
    simp only [allP, and_true, decide_eq_false_iff_not]
    omega

theorem fd_some (T : List (List UInt8 × List UInt8)) (l : List UInt8) (hT : T.length ≤ 1000000) (hn : hasT T l = true) : Tri Ext0 Tryd.prog (.loop (lbody Tryd.prog 56 2)) (fdS T l 0) .ret (fdR (lookT T l)) := by
  refine loop_inv mixed cl0_ok (fdS T l) (fun i => hasT (T.drop i) l = true ∧ lookT (T.drop i) l = lookT T l) (fun i => T.length - i) (fun i hi => ?_) 0 ⟨hn, rfl⟩
  obtain ⟨h1, h2⟩ := hi
  have hlt : i < T.length := by
    apply Classical.byContradiction
    intro h
    rw [List.drop_of_length_le (by omega)] at h1
    simp [hasT] at h1
  rw [drop_at T i hlt] at h1 h2
  rw [lookT_cons] at h2
  by_cases e : (T.getD i ([], [])).1 = l
  · rw [if_pos e] at h2
    rw [← h2]
    refine .inr ⟨by simp, ⟨_, _, _, _, _, lpBy_nil, by decide, fdr_1 T l (T.getD i ([], [])).1 (T.getD i ([], [])).2 i, ?_⟩⟩
    have hk := keys_at T i hlt
    have hv := vals_at T i hlt
    have hkl : (keysA T).length = T.length := by simp [keysA]
    have hvl : (valsA T).length = T.length := by simp [valsA]
    simp only [allP, and_true, decide_eq_true_eq, i64_min, i64_max, Int.toNat_natCast]
    repeat' apply And.intro
    all_goals first | omega | (rw [hk]; rfl) | (rw [hv]; rfl) | (rw [beq_iff_eq]; exact e) | (rw [List.length_drop, hkl]; omega) | (rw [List.length_drop, hvl]; omega)
  · rw [if_neg e] at h2
    refine .inl ⟨i + 1, ⟨?_, h2⟩, by omega, fdr_go hT hlt e⟩
    unfold hasT at h1 ⊢
    rw [List.any_cons, Bool.or_eq_true] at h1
    rcases h1 with h1 | h1
    · exact absurd (by simpa using h1) e
    · exact h1

noncomputable def fdLp1 (T : List (List UInt8 × List UInt8)) (l : List UInt8) : List (Nat × Lp) := [(2, ⟨lbody Tryd.prog 56 2, ⟨[], [0, 1, 2, 8], []⟩, fdS T l 0, .exit 0, fdS T l T.length⟩)]
noncomputable def fdLp2 (T : List (List UInt8 × List UInt8)) (l : List UInt8) : List (Nat × Lp) := [(2, ⟨lbody Tryd.prog 56 2, ⟨[], [0, 1, 2, 8], []⟩, fdS T l 0, .ret, fdR (lookT T l)⟩)]

noncomputable def fdh1_X (T : List (List UInt8 × List UInt8)) (l : List UInt8) (h_ : List (Nat × Bool)) := outcome Tryd.prog 56 (aBody Tryd.prog cl0 ⟨true, bs h_ ++ ([])⟩ (lpBy (fdLp1 T l)) 60 56 ([.fs 1 T.length (keysA T), .fs 1 T.length (valsA T), .c (str l)]) ([]))

theorem fdh1_1 (T : List (List UInt8 × List UInt8)) (l : List UInt8) : fdh1_X T l [] = some ((AV.tu [(AV.c ((str ([])))),
 (AV.c ((Value.bool false)))]), [((lbody Tryd.prog (56 : FuncId) (2 : Nat) : Go.Code)) = (lbody Tryd.prog (56 : FuncId) (2 : Nat)),
 ((fdS T l (0 : Nat) : Go.Proofs.YtfnappdgiomiiaaDoor.St)) = (fdS T l (0 : Nat))]) := by kernel_rfl

theorem fdh1_all (T : List (List UInt8 × List UInt8)) (l : List UInt8)  : ∃ (h : Hints) (p : List Prop), outcome Tryd.prog 56 (aBody Tryd.prog cl0 h (lpBy (fdLp1 T l)) 60 56 ([.fs 1 T.length (keysA T), .fs 1 T.length (valsA T), .c (str l)]) ([])) = some (.tu [.c (str []), .c (.bool false)], p) ∧ allP p := by
  have eR := fdh1_1 T l
  refine ⟨_, _, eR.trans (congrArg (fun r => some (r, _)) ?_), ?_⟩
  · rfl
  · try simp only [dz] at *
    try simp (disch := omega) only [std, bytesOK_cons, bytesOK_nil]
    repeat' apply And.intro
    all_goals first | exact True.intro | omega | assumption | rfl | exact avEq_refl _


noncomputable def fdh2_X (T : List (List UInt8 × List UInt8)) (l : List UInt8) (h_ : List (Nat × Bool)) := outcome Tryd.prog 56 (aBody Tryd.prog cl0 ⟨true, bs h_ ++ ([])⟩ (lpBy (fdLp2 T l)) 60 56 ([.fs 1 T.length (keysA T), .fs 1 T.length (valsA T), .c (str l)]) ([]))

theorem fdh2_1 (T : List (List UInt8 × List UInt8)) (l : List UInt8) : fdh2_X T l [] = some ((AV.tu [(AV.c ((str (lookT T l)))),
 (AV.c ((Value.bool true)))]), [((lbody Tryd.prog (56 : FuncId) (2 : Nat) : Go.Code)) = (lbody Tryd.prog (56 : FuncId) (2 : Nat)),
 ((fdS T l (0 : Nat) : Go.Proofs.YtfnappdgiomiiaaDoor.St)) = (fdS T l (0 : Nat))]) := by kernel_rfl

theorem fdh2_all (T : List (List UInt8 × List UInt8)) (l : List UInt8)  : ∃ (h : Hints) (p : List Prop), outcome Tryd.prog 56 (aBody Tryd.prog cl0 h (lpBy (fdLp2 T l)) 60 56 ([.fs 1 T.length (keysA T), .fs 1 T.length (valsA T), .c (str l)]) ([])) = some (.tu [.c (str (lookT T l)), .c (.bool true)], p) ∧ allP p := by
  have eR := fdh2_1 T l
  refine ⟨_, _, eR.trans (congrArg (fun r => some (r, _)) ?_), ?_⟩
  · rfl
  · try simp only [dz] at *
    try simp (disch := omega) only [std, bytesOK_cons, bytesOK_nil]
    repeat' apply And.intro
    all_goals first | exact True.intro | omega | assumption | rfl | exact avEq_refl _

def findSpec : Spec
  | [.fs s n k, .fs s' n' v, .c (.string l)] => some (.tu [.c (str (lookT (zipA k v) (sb l))), .c (.bool (hasT (zipA k v) (sb l)))], [s = 1, s' = 1, n = (zipA k v).length, n' = (zipA k v).length, k = keysA (zipA k v), v = valsA (zipA k v), (zipA k v).length ≤ 1000000])
  | _ => none

theorem look_has {T : List (List UInt8 × List UInt8)} {l : List UInt8} (h : hasT T l = false) : lookT T l = [] := by
  induction T with
  | nil => rfl
  | cons x r ih =>
    unfold hasT at h ih
    rw [List.any_cons, Bool.or_eq_false_iff] at h
    rw [lookT_cons, if_neg (by simpa using h.1)]
    exact ih h.2

theorem find_ok : SpecOK Tryd.prog 56 findSpec := by
  refine spec_of mixed cl0_ok fun args r q hs hq => ?_
  unfold findSpec at hs
  split at hs
  · rename_i s n k s' n' v b
    simp only [Option.some.injEq, Prod.mk.injEq] at hs
    obtain ⟨rfl, rfl⟩ := hs
    obtain ⟨rfl, rfl, h1, h2, h3, h4, h5, _⟩ := hq
    obtain ⟨⟨⟨l⟩⟩, rfl⟩ : ∃ c : ByteArray, c = b := ⟨b, rfl⟩
    generalize zipA k v = T at *
    subst h1 h2 h3 h4
    simp only [sb_mk]
    cases hb : hasT T l with
    | false =>
      rw [look_has hb]
      obtain ⟨hh, p, e, hp⟩ := fdh1_all T l
      exact ⟨_, _, _, _, lpBy_cons lpBy_nil List.nodup_nil (fd_none T l h5 hb), e, hp⟩
    | true =>
      obtain ⟨hh, p, e, hp⟩ := fdh2_all T l
      exact ⟨_, _, _, _, lpBy_cons lpBy_nil List.nodup_nil (fd_some T l h5 hb), e, hp⟩
  · simp at hs

theorem has_look {T : List (List UInt8 × List UInt8)} (hT : ∀ kv ∈ T, kv.2 ≠ []) (l : List UInt8) : hasT T l = !(lookT T l == []) := by
  cases h : hasT T l with
  | false => rw [look_has h]; rfl
  | true =>
    have : lookT T l ≠ [] := by
      intro e
      obtain ⟨kv, h1, h2⟩ := List.any_eq_true.1 h
      have := lookT_none T l hT e kv h1
      rw [beq_iff_eq] at h2
      subst h2
      simp at this
    simp [this]

noncomputable def nms_X  (h_ : List (Nat × Bool)) := outKill [] (aBody Tryd.prog cl0 ⟨true, bs h_ ++ ([])⟩ (lpBy ([])) 60 57 ([]) ([]))

theorem nms_1  : nms_X  [] = some ((AV.tu [(AV.sl 0 0 21),
 (AV.sl 1 0 21)]), [(.some ⟨9, false, [(AV.c ((str ([(97 : UInt8), (109 : UInt8), (112 : UInt8)])))),
 (AV.c ((str ([(65 : UInt8), (77 : UInt8), (80 : UInt8)])))),
 (AV.c ((str ([(108 : UInt8), (116 : UInt8)])))),
 (AV.c ((str ([(76 : UInt8), (84 : UInt8)])))),
 (AV.c ((str ([(103 : UInt8), (116 : UInt8)])))),
 (AV.c ((str ([(71 : UInt8), (84 : UInt8)])))),
 (AV.c ((str ([(113 : UInt8), (117 : UInt8), (111 : UInt8), (116 : UInt8)])))),
 (AV.c ((str ([(81 : UInt8), (85 : UInt8), (79 : UInt8), (84 : UInt8)])))),
 (AV.c ((str ([(110 : UInt8), (98 : UInt8), (115 : UInt8), (112 : UInt8)])))),
 (AV.c ((str ([(115 : UInt8), (104 : UInt8), (121 : UInt8)])))),
 (AV.c ((str ([(110 : UInt8), (111 : UInt8), (116 : UInt8)])))),
 (AV.c ((str ([(114 : UInt8), (101 : UInt8), (103 : UInt8)])))),
 (AV.c ((str ([(99 : UInt8), (111 : UInt8), (112 : UInt8), (121 : UInt8)])))),
 (AV.c ((str ([(112 : UInt8), (97 : UInt8), (114 : UInt8), (97 : UInt8)])))),
 (AV.c ((str ([(115 : UInt8), (101 : UInt8), (99 : UInt8), (116 : UInt8)])))),
 (AV.c ((str ([(121 : UInt8), (101 : UInt8), (110 : UInt8)])))),
 (AV.c ((str ([(100 : UInt8), (101 : UInt8), (103 : UInt8)])))),
 (AV.c ((str ([(116 : UInt8), (105 : UInt8), (109 : UInt8), (101 : UInt8), (115 : UInt8)])))),
 (AV.c ((str ([(101 : UInt8), (97 : UInt8), (99 : UInt8), (117 : UInt8), (116 : UInt8), (101 : UInt8)])))),
 (AV.c ((str ([(111 : UInt8), (117 : UInt8), (109 : UInt8), (108 : UInt8)])))),
 (AV.c ((str ([(115 : UInt8), (122 : UInt8), (108 : UInt8), (105 : UInt8), (103 : UInt8)]))))]⟩),
 (.some ⟨9, false, [(AV.c ((str ([(38 : UInt8)])))),
 (AV.c ((str ([(38 : UInt8)])))),
 (AV.c ((str ([(60 : UInt8)])))),
 (AV.c ((str ([(60 : UInt8)])))),
 (AV.c ((str ([(62 : UInt8)])))),
 (AV.c ((str ([(62 : UInt8)])))),
 (AV.c ((str ([(34 : UInt8)])))),
 (AV.c ((str ([(34 : UInt8)])))),
 (AV.c ((str ([(194 : UInt8), (160 : UInt8)])))),
 (AV.c ((str ([(194 : UInt8), (173 : UInt8)])))),
 (AV.c ((str ([(194 : UInt8), (172 : UInt8)])))),
 (AV.c ((str ([(194 : UInt8), (174 : UInt8)])))),
 (AV.c ((str ([(194 : UInt8), (169 : UInt8)])))),
 (AV.c ((str ([(194 : UInt8), (182 : UInt8)])))),
 (AV.c ((str ([(194 : UInt8), (167 : UInt8)])))),
 (AV.c ((str ([(194 : UInt8), (165 : UInt8)])))),
 (AV.c ((str ([(194 : UInt8), (176 : UInt8)])))),
 (AV.c ((str ([(195 : UInt8), (151 : UInt8)])))),
 (AV.c ((str ([(195 : UInt8), (169 : UInt8)])))),
 (AV.c ((str ([(195 : UInt8), (182 : UInt8)])))),
 (AV.c ((str ([(195 : UInt8), (159 : UInt8)]))))]⟩)], []) := by kernel_rfl

theorem nms_all   : ∃ (h : Hints) (p : List Prop), outKill [] (aBody Tryd.prog cl0 h (lpBy ([])) 60 57 ([]) ([])) = some (.tu [.sl 0 0 21, .sl 1 0 21], [some ⟨9, false, keysA looseT⟩, some ⟨9, false, valsA looseT⟩], p) ∧ allP p := by
  have eR := nms_1 
  refine ⟨_, _, eR.trans (congrArg (fun r : AV × Heap => some (r.1, r.2, _)) (a₁ := (_, _)) (a₂ := (_, _)) ?_), ?_⟩
  · kernel_rfl
  · try clear eR
    simp only [allP]
    repeat' apply And.intro
    all_goals first | exact True.intro | rfl | decide +kernel

def nmsSpec : HSpec
  | [], [] => some (.tu [.sl 0 0 21, .sl 1 0 21], [some ⟨9, false, keysA looseT⟩, some ⟨9, false, valsA looseT⟩], [])
  | _, _ => none

theorem nms_ok : HSpecOK Tryd.prog 57 nmsSpec := by
  refine hspec_kill mixed cl0_ok fun args hp r hp' q hs hq => ?_
  unfold nmsSpec at hs
  split at hs
  · simp only [Option.some.injEq, Prod.mk.injEq] at hs
    obtain ⟨rfl, rfl, rfl⟩ := hs
    obtain ⟨hh, p, e, hp⟩ := nms_all
    exact ⟨[], _, _, _, e, hp⟩
  · simp at hs


noncomputable def sts_X  (h_ : List (Nat × Bool)) := outKill [] (aBody Tryd.prog cl0 ⟨true, bs h_ ++ ([])⟩ (lpBy ([])) 60 55 ([]) ([]))

theorem sts_1  : sts_X  [] = some ((AV.tu [(AV.sl 0 0 38),
 (AV.sl 1 0 38)]), [(.some ⟨9, false, [(AV.c ((str ([(97 : UInt8), (112 : UInt8), (111 : UInt8), (115 : UInt8)])))),
 (AV.c ((str ([(99 : UInt8), (111 : UInt8), (108 : UInt8), (111 : UInt8), (110 : UInt8)])))),
 (AV.c ((str ([(115 : UInt8), (111 : UInt8), (108 : UInt8)])))),
 (AV.c ((str ([(98 : UInt8), (115 : UInt8), (111 : UInt8), (108 : UInt8)])))),
 (AV.c ((str ([(113 : UInt8), (117 : UInt8), (101 : UInt8), (115 : UInt8), (116 : UInt8)])))),
 (AV.c ((str ([(110 : UInt8), (117 : UInt8), (109 : UInt8)])))),
 (AV.c ((str ([(112 : UInt8), (101 : UInt8), (114 : UInt8), (99 : UInt8), (110 : UInt8), (116 : UInt8)])))),
 (AV.c ((str ([(99 : UInt8), (111 : UInt8), (109 : UInt8), (109 : UInt8), (97 : UInt8), (116 : UInt8)])))),
 (AV.c ((str ([(101 : UInt8), (113 : UInt8), (117 : UInt8), (97 : UInt8), (108 : UInt8), (115 : UInt8)])))),
 (AV.c ((str ([(112 : UInt8), (108 : UInt8), (117 : UInt8), (115 : UInt8)])))),
 (AV.c ((str ([(99 : UInt8), (111 : UInt8), (109 : UInt8), (109 : UInt8), (97 : UInt8)])))),
 (AV.c ((str ([(112 : UInt8), (101 : UInt8), (114 : UInt8), (105 : UInt8), (111 : UInt8), (100 : UInt8)])))),
 (AV.c ((str ([(115 : UInt8), (101 : UInt8), (109 : UInt8), (105 : UInt8)])))),
 (AV.c ((str ([(101 : UInt8), (120 : UInt8), (99 : UInt8), (108 : UInt8)])))),
 (AV.c ((str ([(100 : UInt8), (111 : UInt8), (108 : UInt8), (108 : UInt8), (97 : UInt8), (114 : UInt8)])))),
 (AV.c ((str ([(97 : UInt8), (115 : UInt8), (116 : UInt8)])))),
 (AV.c ((str ([(108 : UInt8), (111 : UInt8), (119 : UInt8), (98 : UInt8), (97 : UInt8), (114 : UInt8)])))),
 (AV.c ((str ([(103 : UInt8), (114 : UInt8), (97 : UInt8), (118 : UInt8), (101 : UInt8)])))),
 (AV.c ((str ([(72 : UInt8), (97 : UInt8), (116 : UInt8)])))),
 (AV.c ((str ([(108 : UInt8), (112 : UInt8), (97 : UInt8), (114 : UInt8)])))),
 (AV.c ((str ([(114 : UInt8), (112 : UInt8), (97 : UInt8), (114 : UInt8)])))),
 (AV.c ((str ([(108 : UInt8), (115 : UInt8), (113 : UInt8), (98 : UInt8)])))),
 (AV.c ((str ([(114 : UInt8), (115 : UInt8), (113 : UInt8), (98 : UInt8)])))),
 (AV.c ((str ([(108 : UInt8), (99 : UInt8), (117 : UInt8), (98 : UInt8)])))),
 (AV.c ((str ([(114 : UInt8), (99 : UInt8), (117 : UInt8), (98 : UInt8)])))),
 (AV.c ((str ([(118 : UInt8), (101 : UInt8), (114 : UInt8), (98 : UInt8), (97 : UInt8), (114 : UInt8)])))),
 (AV.c ((str ([(84 : UInt8), (97 : UInt8), (98 : UInt8)])))),
 (AV.c ((str ([(78 : UInt8), (101 : UInt8), (119 : UInt8), (76 : UInt8), (105 : UInt8), (110 : UInt8), (101 : UInt8)])))),
 (AV.c ((str ([(110 : UInt8), (111 : UInt8), (116 : UInt8), (105 : UInt8), (110 : UInt8)])))),
 (AV.c ((str ([(110 : UInt8), (118 : UInt8), (108 : UInt8), (116 : UInt8)])))),
 (AV.c ((str ([(110 : UInt8), (118 : UInt8), (103 : UInt8), (116 : UInt8)])))),
 (AV.c ((str ([(122 : UInt8), (119 : UInt8), (110 : UInt8), (106 : UInt8)])))),
 (AV.c ((str ([(122 : UInt8), (119 : UInt8), (106 : UInt8)])))),
 (AV.c ((str ([(90 : UInt8), (101 : UInt8), (114 : UInt8), (111 : UInt8), (87 : UInt8), (105 : UInt8), (100 : UInt8), (116 : UInt8), (104 : UInt8), (83 : UInt8), (112 : UInt8), (97 : UInt8), (99 : UInt8), (101 : UInt8)])))),
 (AV.c ((str ([(78 : UInt8), (111 : UInt8), (66 : UInt8), (114 : UInt8), (101 : UInt8), (97 : UInt8), (107 : UInt8)])))),
 (AV.c ((str ([(102 : UInt8), (106 : UInt8), (108 : UInt8), (105 : UInt8), (103 : UInt8)])))),
 (AV.c ((str ([(99 : UInt8), (111 : UInt8), (112 : UInt8), (121 : UInt8), (115 : UInt8), (114 : UInt8)])))),
 (AV.c ((str ([(116 : UInt8), (105 : UInt8), (109 : UInt8), (101 : UInt8), (115 : UInt8), (98 : UInt8), (97 : UInt8), (114 : UInt8)]))))]⟩),
 (.some ⟨9, false, [(AV.c ((str ([(39 : UInt8)])))),
 (AV.c ((str ([(58 : UInt8)])))),
 (AV.c ((str ([(47 : UInt8)])))),
 (AV.c ((str ([(92 : UInt8)])))),
 (AV.c ((str ([(63 : UInt8)])))),
 (AV.c ((str ([(35 : UInt8)])))),
 (AV.c ((str ([(37 : UInt8)])))),
 (AV.c ((str ([(64 : UInt8)])))),
 (AV.c ((str ([(61 : UInt8)])))),
 (AV.c ((str ([(43 : UInt8)])))),
 (AV.c ((str ([(44 : UInt8)])))),
 (AV.c ((str ([(46 : UInt8)])))),
 (AV.c ((str ([(59 : UInt8)])))),
 (AV.c ((str ([(33 : UInt8)])))),
 (AV.c ((str ([(36 : UInt8)])))),
 (AV.c ((str ([(42 : UInt8)])))),
 (AV.c ((str ([(95 : UInt8)])))),
 (AV.c ((str ([(96 : UInt8)])))),
 (AV.c ((str ([(94 : UInt8)])))),
 (AV.c ((str ([(40 : UInt8)])))),
 (AV.c ((str ([(41 : UInt8)])))),
 (AV.c ((str ([(91 : UInt8)])))),
 (AV.c ((str ([(93 : UInt8)])))),
 (AV.c ((str ([(123 : UInt8)])))),
 (AV.c ((str ([(125 : UInt8)])))),
 (AV.c ((str ([(124 : UInt8)])))),
 (AV.c ((str ([(9 : UInt8)])))),
 (AV.c ((str ([(10 : UInt8)])))),
 (AV.c ((str ([(226 : UInt8), (136 : UInt8), (137 : UInt8)])))),
 (AV.c ((str ([(60 : UInt8), (226 : UInt8), (131 : UInt8), (146 : UInt8)])))),
 (AV.c ((str ([(62 : UInt8), (226 : UInt8), (131 : UInt8), (146 : UInt8)])))),
 (AV.c ((str ([(226 : UInt8), (128 : UInt8), (140 : UInt8)])))),
 (AV.c ((str ([(226 : UInt8), (128 : UInt8), (141 : UInt8)])))),
 (AV.c ((str ([(226 : UInt8), (128 : UInt8), (139 : UInt8)])))),
 (AV.c ((str ([(226 : UInt8), (129 : UInt8), (160 : UInt8)])))),
 (AV.c ((str ([(102 : UInt8), (106 : UInt8)])))),
 (AV.c ((str ([(226 : UInt8), (132 : UInt8), (151 : UInt8)])))),
 (AV.c ((str ([(226 : UInt8), (168 : UInt8), (177 : UInt8)]))))]⟩)], []) := by kernel_rfl

theorem sts_all   : ∃ (h : Hints) (p : List Prop), outKill [] (aBody Tryd.prog cl0 h (lpBy ([])) 60 55 ([]) ([])) = some (.tu [.sl 0 0 38, .sl 1 0 38], [some ⟨9, false, keysA strictT⟩, some ⟨9, false, valsA strictT⟩], p) ∧ allP p := by
  have eR := sts_1 
  refine ⟨_, _, eR.trans (congrArg (fun r : AV × Heap => some (r.1, r.2, _)) (a₁ := (_, _)) (a₂ := (_, _)) ?_), ?_⟩
  · kernel_rfl
  · try clear eR
    simp only [allP]
    repeat' apply And.intro
    all_goals first | exact True.intro | rfl | decide +kernel

def stsSpec : HSpec
  | [], [] => some (.tu [.sl 0 0 38, .sl 1 0 38], [some ⟨9, false, keysA strictT⟩, some ⟨9, false, valsA strictT⟩], [])
  | _, _ => none

theorem sts_ok : HSpecOK Tryd.prog 55 stsSpec := by
  refine hspec_kill mixed cl0_ok fun args hp r hp' q hs hq => ?_
  unfold stsSpec at hs
  split at hs
  · simp only [Option.some.injEq, Prod.mk.injEq] at hs
    obtain ⟨rfl, rfl, rfl⟩ := hs
    obtain ⟨hh, p, e, hp⟩ := sts_all
    exact ⟨[], _, _, _, e, hp⟩
  · simp at hs

noncomputable def clRn : CallT := aCallH Tryd.prog (sgBy [(56, findSpec)]) (hsgBy [(57, nmsSpec), (55, stsSpec)]) 500 8

theorem clRn_ok : CallOK Tryd.prog clRn := aCallH_ok mixed (sgBy_cons find_ok sgBy_nil) (hsgBy_cons nms_ok (hsgBy_cons sts_ok hsgBy_nil)) 500 8

/-- They are as they were. -/
theorem zip_keys : ∀ T : List (List UInt8 × List UInt8), zipA (keysA T) (valsA T) = T
  | [] => rfl
  | kv :: r => by
    have := zip_keys r
    unfold keysA valsA at this ⊢
    simp only [List.map_cons, zipA, this]
    rfl

theorem last_at (b : List UInt8) (c : UInt8) : (b ++ [c]).getD b.length 0 = c := by simp [List.getD]

noncomputable def rnm0_X  (h_ : List (Nat × Bool)) := outcome Tryd.prog 46 (aBody Tryd.prog clRn ⟨true, bs h_ ++ ([])⟩ (lpBy ([])) 60 46 ([.c (str [])]) ([]))

theorem rnm0_1  : rnm0_X  [] = some ((AV.tu [(AV.c ((str ([])))),
 (AV.c ((Value.bool false)))]), [(((1 : Nat) : Nat)) = ((1 : Nat)),
 (((1 : Nat) : Nat)) = ((1 : Nat)),
 (((21 : Nat) : Nat)) = ((21 : Nat)),
 (((21 : Nat) : Nat)) = ((21 : Nat)),
 ((List.take (21 : Nat) (List.drop (0 : Nat) (keysA looseT)) : List AV)) = (keysA (zipA (List.take (21 : Nat) (List.drop (0 : Nat) (keysA looseT))) (List.take (21 : Nat) (List.drop (0 : Nat) (valsA looseT))))),
 ((List.take (21 : Nat) (List.drop (0 : Nat) (valsA looseT)) : List AV)) = (valsA (zipA (List.take (21 : Nat) (List.drop (0 : Nat) (keysA looseT))) (List.take (21 : Nat) (List.drop (0 : Nat) (valsA looseT))))),
 (((21 : Nat) : Nat) ≤ ((1000000 : Nat))),
 (flatV [] (AV.tu [AV.c (str (lookT (zipA (List.take (21 : Nat) (List.drop (0 : Nat) (keysA looseT))) (List.take (21 : Nat) (List.drop (0 : Nat) (valsA looseT)))) [])), AV.c (Value.bool (hasT (zipA (List.take (21 : Nat) (List.drop (0 : Nat) (keysA looseT))) (List.take (21 : Nat) (List.drop (0 : Nat) (valsA looseT)))) []))])) = true]) := by kernel_rfl

theorem rnm0_all   : ∃ (h : Hints) (p : List Prop), outcome Tryd.prog 46 (aBody Tryd.prog clRn h (lpBy ([])) 60 46 ([.c (str [])]) ([])) = some (nmT [], p) ∧ allP p := by
  have eR := rnm0_1 
  refine ⟨_, _, eR.trans (congrArg (fun r => some (r, _)) ?_), ?_⟩
  · kernel_rfl
  · try clear eR
    repeat' apply And.intro
    all_goals first | exact True.intro | rfl | decide +kernel

noncomputable def rnm1_X (b s t : List UInt8) (x y : Bool) (h_ : List (Nat × Bool)) := outcome Tryd.prog 46 (aBody Tryd.prog clRn ⟨true, bs h_ ++ (bs [(14, true), (20, true)] ++ [(12, ⟨.c (.int .i64 (b.length + 1 : Nat)), none⟩), (18, ⟨.c (.int .i64 b.length), none⟩), (19, ⟨.c (.int .u8 59), none⟩), (31, ⟨.c (.int .i64 b.length), none⟩), (32, ⟨.c (str b), none⟩), (34, ⟨.c (str s), none⟩), (35, ⟨.c (.bool x), none⟩), (40, ⟨.c (.int .i64 b.length), none⟩), (41, ⟨.c (str b), none⟩), (50, ⟨.c (str t), none⟩), (51, ⟨.c (.bool y), none⟩)])⟩ (lpBy ([])) 60 46 ([.c (str (b ++ [59]))]) ([]))

theorem rnm1_1 (b s t : List UInt8) (x y : Bool) : rnm1_X b s t x y [(35, true)] = some ((AV.tu [(AV.c ((str (s)))),
 (AV.c ((Value.bool true)))]), [(((↑(b ++ [(59 : UInt8)]).length : Int) : Int)) = ((↑(b.length + (1 : Nat)) : Int)),
 decide ((↑(b.length + 1) : Int) > 0) = true,
 (IntKind.i64.min : Int) ≤ ↑(b.length + 1) - 1,
 (↑(b.length + 1) - 1 : Int) ≤ IntKind.i64.max,
 (↑(b.length + 1) - 1 : Int) = ↑b.length,
 (0 : Int) ≤ ↑b.length,
 (((↑b.length : Int) : Int) < ((↑(b ++ [(59 : UInt8)]).length : Int))),
 (((↑((b ++ [(59 : UInt8)]).getD b.length 0).toNat : Int) : Int)) = (59),
 (true) = true,
 (IntKind.i64.min : Int) ≤ ↑(b.length + 1) - 1,
 (↑(b.length + 1) - 1 : Int) ≤ IntKind.i64.max,
 (↑(b.length + 1) - 1 : Int) = ↑b.length,
 (0 : Int) ≤ 0,
 (0 : Int) ≤ ↑b.length,
 (((↑b.length : Int) : Int) ≤ ((↑(b ++ [(59 : UInt8)]).length : Int))),
 ((List.drop (Int.toNat (0 : Int)) (List.take b.length (b ++ [(59 : UInt8)])) : List UInt8)) = (b),
 ((Tryd.prog.cellsOf (9 : TypeId) : Nat)) = ((1 : Nat)),
 ((Tryd.prog.cellsOf (9 : TypeId) : Nat)) = ((1 : Nat)),
 (((38 : Nat) : Nat)) = ((38 : Nat)),
 (((38 : Nat) : Nat)) = ((38 : Nat)),
 ((List.take (38 : Nat) (List.drop (0 : Nat) (keysA strictT)) : List AV)) = (keysA (zipA (List.take (38 : Nat) (List.drop (0 : Nat) (keysA strictT))) (List.take (38 : Nat) (List.drop (0 : Nat) (valsA strictT))))),
 ((List.take (38 : Nat) (List.drop (0 : Nat) (valsA strictT)) : List AV)) = (valsA (zipA (List.take (38 : Nat) (List.drop (0 : Nat) (keysA strictT))) (List.take (38 : Nat) (List.drop (0 : Nat) (valsA strictT))))),
 (((38 : Nat) : Nat) ≤ ((1000000 : Nat))),
 (flatV [] (AV.tu [AV.c (str (lookT (zipA (List.take (38 : Nat) (List.drop (0 : Nat) (keysA strictT))) (List.take (38 : Nat) (List.drop (0 : Nat) (valsA strictT)))) b)), AV.c (Value.bool (hasT (zipA (List.take (38 : Nat) (List.drop (0 : Nat) (keysA strictT))) (List.take (38 : Nat) (List.drop (0 : Nat) (valsA strictT)))) b))])) = true,
 ((lookT (zipA (List.take (38 : Nat) (List.drop (0 : Nat) (keysA strictT))) (List.take (38 : Nat) (List.drop (0 : Nat) (valsA strictT)))) b : List UInt8)) = (s),
 (hasT (zipA (List.take (38 : Nat) (List.drop (0 : Nat) (keysA strictT))) (List.take (38 : Nat) (List.drop (0 : Nat) (valsA strictT)))) b) = true]) := by kernel_rfl

theorem rnm1_2 (b s t : List UInt8) (x y : Bool) : rnm1_X b s t x y [(35, false)] = some ((AV.tu [(AV.c ((str (t)))),
 (AV.c ((Value.bool y)))]), [(((↑(b ++ [(59 : UInt8)]).length : Int) : Int)) = ((↑(b.length + (1 : Nat)) : Int)),
 decide ((↑(b.length + 1) : Int) > 0) = true,
 (IntKind.i64.min : Int) ≤ ↑(b.length + 1) - 1,
 (↑(b.length + 1) - 1 : Int) ≤ IntKind.i64.max,
 (↑(b.length + 1) - 1 : Int) = ↑b.length,
 (0 : Int) ≤ ↑b.length,
 (((↑b.length : Int) : Int) < ((↑(b ++ [(59 : UInt8)]).length : Int))),
 (((↑((b ++ [(59 : UInt8)]).getD b.length 0).toNat : Int) : Int)) = (59),
 (true) = true,
 (IntKind.i64.min : Int) ≤ ↑(b.length + 1) - 1,
 (↑(b.length + 1) - 1 : Int) ≤ IntKind.i64.max,
 (↑(b.length + 1) - 1 : Int) = ↑b.length,
 (0 : Int) ≤ 0,
 (0 : Int) ≤ ↑b.length,
 (((↑b.length : Int) : Int) ≤ ((↑(b ++ [(59 : UInt8)]).length : Int))),
 ((List.drop (Int.toNat (0 : Int)) (List.take b.length (b ++ [(59 : UInt8)])) : List UInt8)) = (b),
 ((Tryd.prog.cellsOf (9 : TypeId) : Nat)) = ((1 : Nat)),
 ((Tryd.prog.cellsOf (9 : TypeId) : Nat)) = ((1 : Nat)),
 (((38 : Nat) : Nat)) = ((38 : Nat)),
 (((38 : Nat) : Nat)) = ((38 : Nat)),
 ((List.take (38 : Nat) (List.drop (0 : Nat) (keysA strictT)) : List AV)) = (keysA (zipA (List.take (38 : Nat) (List.drop (0 : Nat) (keysA strictT))) (List.take (38 : Nat) (List.drop (0 : Nat) (valsA strictT))))),
 ((List.take (38 : Nat) (List.drop (0 : Nat) (valsA strictT)) : List AV)) = (valsA (zipA (List.take (38 : Nat) (List.drop (0 : Nat) (keysA strictT))) (List.take (38 : Nat) (List.drop (0 : Nat) (valsA strictT))))),
 (((38 : Nat) : Nat) ≤ ((1000000 : Nat))),
 (flatV [] (AV.tu [AV.c (str (lookT (zipA (List.take (38 : Nat) (List.drop (0 : Nat) (keysA strictT))) (List.take (38 : Nat) (List.drop (0 : Nat) (valsA strictT)))) b)), AV.c (Value.bool (hasT (zipA (List.take (38 : Nat) (List.drop (0 : Nat) (keysA strictT))) (List.take (38 : Nat) (List.drop (0 : Nat) (valsA strictT)))) b))])) = true,
 ((lookT (zipA (List.take (38 : Nat) (List.drop (0 : Nat) (keysA strictT))) (List.take (38 : Nat) (List.drop (0 : Nat) (valsA strictT)))) b : List UInt8)) = (s),
 (hasT (zipA (List.take (38 : Nat) (List.drop (0 : Nat) (keysA strictT))) (List.take (38 : Nat) (List.drop (0 : Nat) (valsA strictT)))) b) = false,
 (IntKind.i64.min : Int) ≤ ↑(b.length + 1) - 1,
 (↑(b.length + 1) - 1 : Int) ≤ IntKind.i64.max,
 (↑(b.length + 1) - 1 : Int) = ↑b.length,
 (0 : Int) ≤ 0,
 (0 : Int) ≤ ↑b.length,
 (((↑b.length : Int) : Int) ≤ ((↑(b ++ [(59 : UInt8)]).length : Int))),
 ((List.drop (Int.toNat (0 : Int)) (List.take b.length (b ++ [(59 : UInt8)])) : List UInt8)) = (b),
 ((Tryd.prog.cellsOf (9 : TypeId) : Nat)) = ((1 : Nat)),
 ((Tryd.prog.cellsOf (9 : TypeId) : Nat)) = ((1 : Nat)),
 (((21 : Nat) : Nat)) = ((21 : Nat)),
 (((21 : Nat) : Nat)) = ((21 : Nat)),
 ((List.take (21 : Nat) (List.drop (0 : Nat) (keysA looseT)) : List AV)) = (keysA (zipA (List.take (21 : Nat) (List.drop (0 : Nat) (keysA looseT))) (List.take (21 : Nat) (List.drop (0 : Nat) (valsA looseT))))),
 ((List.take (21 : Nat) (List.drop (0 : Nat) (valsA looseT)) : List AV)) = (valsA (zipA (List.take (21 : Nat) (List.drop (0 : Nat) (keysA looseT))) (List.take (21 : Nat) (List.drop (0 : Nat) (valsA looseT))))),
 (((21 : Nat) : Nat) ≤ ((1000000 : Nat))),
 (flatV [] (AV.tu [AV.c (str (lookT (zipA (List.take (21 : Nat) (List.drop (0 : Nat) (keysA looseT))) (List.take (21 : Nat) (List.drop (0 : Nat) (valsA looseT)))) b)), AV.c (Value.bool (hasT (zipA (List.take (21 : Nat) (List.drop (0 : Nat) (keysA looseT))) (List.take (21 : Nat) (List.drop (0 : Nat) (valsA looseT)))) b))])) = true,
 ((lookT (zipA (List.take (21 : Nat) (List.drop (0 : Nat) (keysA looseT))) (List.take (21 : Nat) (List.drop (0 : Nat) (valsA looseT)))) b : List UInt8)) = (t),
 ((hasT (zipA (List.take (21 : Nat) (List.drop (0 : Nat) (keysA looseT))) (List.take (21 : Nat) (List.drop (0 : Nat) (valsA looseT)))) b : Bool)) = (y)]) := by kernel_rfl

theorem rnm1_all (b s t : List UInt8) (x y : Bool) (hs : lookT strictT b = s) (hx : hasT strictT b = x) (ht : lookT looseT b = t) (hy : hasT looseT b = y) (hl : b.length ≤ 9223372036854775800) : ∃ (h : Hints) (p : List Prop), outcome Tryd.prog 46 (aBody Tryd.prog clRn h (lpBy ([])) 60 46 ([.c (str (b ++ [59]))]) ([])) = some (nmT (b ++ [59]), p) ∧ allP p := by
  cases hc35 : (x : Bool) with
  | true =>
    have eR := rnm1_1 b s t x y
    refine ⟨_, _, eR.trans (congrArg (fun r => some (r, _)) ?_), ?_⟩
    · try clear eR
      unfold nmT
      rw [named_semi]
      rw [has_look (vne_of strict_ok), hs] at hx
      rw [has_look (vne_of loose_ok), ht] at hy
      rw [hs, ht]
      first
        | (have hne : s ≠ [] := by intro e; subst e; rw [hc35] at hx; simp at hx
           have hl0 : t = [] := by rw [← ht]; exact apart (by rw [hs]; exact hne)
           rw [if_pos hl0, hx, hc35]; done)
        | (have he : s = [] := by rw [hc35] at hx; simpa using hx
           by_cases h2 : t = []
           · rw [if_pos h2, ← hy, he, h2]
           · rw [if_neg h2, ← hy])
    · try clear eR
      simp only [sb_mk]
      repeat' apply And.intro
      all_goals first | exact True.intro | omega | (simp only [i64_min, i64_max, decide_eq_true_eq, List.length_append, List.length_singleton]; omega) | (with_reducible assumption) | (rw [List.length_append]; rfl) | (rw [last_at]; done) | (rw [last_at]; rfl) | (rw [Int.toNat_natCast, last_at]; rfl) | exact hs | exact hx.trans hc35 | exact ht | exact hy | (rw [List.take_left]; rfl) | rfl
  | false =>
    have eR := rnm1_2 b s t x y
    refine ⟨_, _, eR.trans (congrArg (fun r => some (r, _)) ?_), ?_⟩
    · try clear eR
      unfold nmT
      rw [named_semi]
      rw [has_look (vne_of strict_ok), hs] at hx
      rw [has_look (vne_of loose_ok), ht] at hy
      rw [hs, ht]
      first
        | (have hne : s ≠ [] := by intro e; subst e; rw [hc35] at hx; simp at hx
           have hl0 : t = [] := by rw [← ht]; exact apart (by rw [hs]; exact hne)
           rw [if_pos hl0, hx, hc35]; done)
        | (have he : s = [] := by rw [hc35] at hx; simpa using hx
           by_cases h2 : t = []
           · rw [if_pos h2, ← hy, he, h2]
           · rw [if_neg h2, ← hy])
    · try clear eR
      simp only [sb_mk]
      repeat' apply And.intro
      all_goals first | exact True.intro | omega | (simp only [i64_min, i64_max, decide_eq_true_eq, List.length_append, List.length_singleton]; omega) | (with_reducible assumption) | (rw [List.length_append]; rfl) | (rw [last_at]; done) | (rw [last_at]; rfl) | (rw [Int.toNat_natCast, last_at]; rfl) | exact hs | exact hx.trans hc35 | exact ht | exact hy | (rw [List.take_left]; rfl) | rfl

noncomputable def rnm2_X (b t : List UInt8) (c : UInt8) (y : Bool) (h_ : List (Nat × Bool)) := outcome Tryd.prog 46 (aBody Tryd.prog clRn ⟨true, bs h_ ++ (bs [(14, true), (20, false)] ++ [(12, ⟨.c (.int .i64 (b.length + 1 : Nat)), none⟩), (18, ⟨.c (.int .i64 b.length), none⟩), (19, ⟨byteC c, none⟩), (50, ⟨.c (str t), none⟩), (51, ⟨.c (.bool y), none⟩)])⟩ (lpBy ([])) 60 46 ([.c (str (b ++ [c]))]) ([]))

theorem rnm2_1 (b t : List UInt8) (c : UInt8) (y : Bool) : rnm2_X b t c y [] = some ((AV.tu [(AV.c ((str (t)))),
 (AV.c ((Value.bool y)))]), [(↑(b ++ [c]).length : Int) = ↑(b.length + 1),
 decide ((↑(b.length + 1) : Int) > 0) = true,
 (IntKind.i64.min : Int) ≤ ↑(b.length + 1) - 1,
 (↑(b.length + 1) - 1 : Int) ≤ IntKind.i64.max,
 (↑(b.length + 1) - 1 : Int) = ↑b.length,
 (0 : Int) ≤ ↑b.length,
 (↑b.length : Int) < ↑(b ++ [c]).length,
 (((↑((b ++ [c]).getD b.length 0).toNat : Int) : Int)) = ((↑c.toNat : Int)),
 ((↑c.toNat : Int) == (59 : Int)) = false,
 ((Tryd.prog.cellsOf (9 : TypeId) : Nat)) = ((1 : Nat)),
 ((Tryd.prog.cellsOf (9 : TypeId) : Nat)) = ((1 : Nat)),
 (((21 : Nat) : Nat)) = ((21 : Nat)),
 (((21 : Nat) : Nat)) = ((21 : Nat)),
 ((List.take (21 : Nat) (List.drop (0 : Nat) (keysA looseT)) : List AV)) = (keysA (zipA (List.take (21 : Nat) (List.drop (0 : Nat) (keysA looseT))) (List.take (21 : Nat) (List.drop (0 : Nat) (valsA looseT))))),
 ((List.take (21 : Nat) (List.drop (0 : Nat) (valsA looseT)) : List AV)) = (valsA (zipA (List.take (21 : Nat) (List.drop (0 : Nat) (keysA looseT))) (List.take (21 : Nat) (List.drop (0 : Nat) (valsA looseT))))),
 (((21 : Nat) : Nat) ≤ ((1000000 : Nat))),
 (flatV [] (AV.tu [AV.c (str (lookT (zipA (List.take (21 : Nat) (List.drop (0 : Nat) (keysA looseT))) (List.take (21 : Nat) (List.drop (0 : Nat) (valsA looseT)))) (b ++ [c]))), AV.c (Value.bool (hasT (zipA (List.take (21 : Nat) (List.drop (0 : Nat) (keysA looseT))) (List.take (21 : Nat) (List.drop (0 : Nat) (valsA looseT)))) (b ++ [c])))])) = true,
 ((lookT (zipA (List.take (21 : Nat) (List.drop (0 : Nat) (keysA looseT))) (List.take (21 : Nat) (List.drop (0 : Nat) (valsA looseT)))) (b ++ [c]) : List UInt8)) = (t),
 ((hasT (zipA (List.take (21 : Nat) (List.drop (0 : Nat) (keysA looseT))) (List.take (21 : Nat) (List.drop (0 : Nat) (valsA looseT)))) (b ++ [c]) : Bool)) = (y)]) := by kernel_rfl

theorem rnm2_all (b t : List UInt8) (c : UInt8) (y : Bool) (ht : lookT looseT (b ++ [c]) = t) (hy : hasT looseT (b ++ [c]) = y) (hl : b.length ≤ 9223372036854775800) (hc : c ≠ 59) (hcn : ¬ (c.toNat : Int) = 59) : ∃ (h : Hints) (p : List Prop), outcome Tryd.prog 46 (aBody Tryd.prog clRn h (lpBy ([])) 60 46 ([.c (str (b ++ [c]))]) ([])) = some (nmT (b ++ [c]), p) ∧ allP p := by
  have eR := rnm2_1 b t c y
  refine ⟨_, _, eR.trans (congrArg (fun r => some (r, _)) ?_), ?_⟩
  · try clear eR
    unfold nmT
    rw [named_bare (by rw [endC_snoc]; simpa using hc)]
    rw [has_look (vne_of loose_ok), ht] at hy
    rw [ht, ← hy]
  · try clear eR
    simp only [sb_mk]
    repeat' apply And.intro
    all_goals first | exact True.intro | omega | (simp only [i64_min, i64_max, decide_eq_true_eq, List.length_append, List.length_singleton]; omega) | (rw [beq_eq_false_iff_ne]; exact hcn) | (with_reducible assumption) | (rw [List.length_append]; rfl) | (rw [last_at]; done) | (rw [last_at]; rfl) | (rw [Int.toNat_natCast, last_at]; rfl) | exact ht | exact hy | rfl

theorem rnamed_ok : SpecOK Tryd.prog 46 namedSpec := by
  refine spec_of mixed clRn_ok fun args r q hs hq => ?_
  unfold namedSpec at hs
  split at hs
  · rename_i l
    simp only [Option.some.injEq, Prod.mk.injEq] at hs
    obtain ⟨rfl, rfl⟩ := hs
    obtain ⟨⟨⟨l⟩⟩, rfl⟩ : ∃ b : ByteArray, b = l := ⟨l, rfl⟩
    simp only [sb_mk, allP, and_true] at hq ⊢
    rcases List.eq_nil_or_concat l with rfl | ⟨b, c, hbc⟩
    · obtain ⟨hh, q, e, hp⟩ := rnm0_all
      exact ⟨_, _, _, _, lpBy_nil, e, hp⟩
    · rw [List.concat_eq_append] at hbc
      subst hbc
      have hl : b.length ≤ 9223372036854775800 := by rw [List.length_append] at hq; simp only [List.length_singleton] at hq; omega
      by_cases hc : c = 59
      · subst hc
        obtain ⟨hh, q, e, hp⟩ := rnm1_all b _ _ _ _ rfl rfl rfl rfl hl
        exact ⟨_, _, _, _, lpBy_nil, e, hp⟩
      · obtain ⟨hh, q, e, hp⟩ := rnm2_all b _ c _ rfl rfl hl hc (by intro e; exact hc (UInt8.toNat_inj.1 (by rw [show (59 : UInt8).toNat = 59 from rfl]; omega)))
        exact ⟨_, _, _, _, lpBy_nil, e, hp⟩
  · simp at hs


/-! Numbers. -/
def movedN (n : Int) : Nat := movedT.getD (n.toNat - 128) 0
theorem movedZ_eq : movedZ = movedT.map fun (z : Nat) => (z : Int) := by decide +kernel
theorem moved_at {n : Int} (h1 : 128 ≤ n) (h2 : n ≤ 159) : ((numAV .u16 movedZ).drop (n - 128).toNat).headD .any = .c (.int .u16 (movedN n : Nat)) := by
  have hl : movedZ.length = 32 := by decide
  have h3 : (n - 128).toNat = n.toNat - 128 := by omega
  have h4 : n.toNat - 128 < 32 := by omega
  have h5 : (numAV .u16 movedZ).length = 32 := by unfold numAV; rw [List.length_map, hl]
  rw [h3, List.drop_eq_getElem_cons (by rw [h5]; exact h4)]
  unfold movedN
  simp only [List.headD_cons]
  have hz : (numAV .u16 movedZ)[n.toNat - 128]'(by rw [h5]; exact h4) = .c (.int .u16 (movedZ[n.toNat - 128]'(by rw [hl]; exact h4))) := by simp [numAV]
  have hlT : movedT.length = 32 := by decide
  have hz2 : movedZ[n.toNat - 128]'(by rw [hl]; exact h4) = (movedT[n.toNat - 128]'(by rw [hlT]; exact h4) : Nat) := by simp [movedZ_eq]
  rw [hz, hz2]
  simp [List.getD, hlT, h4]
theorem movedN_lt (n : Int) : movedN n < 65536 := by
  unfold movedN
  by_cases h : n.toNat - 128 < 32
  · exact moved_lt _ h
  · rw [List.getD_eq_getElem?_getD, List.getElem?_eq_none (by rw [show movedT.length = 32 by decide]; omega)]
    decide

noncomputable def clNo : CallT := aCall Tryd.prog (sgBy [(62, signSpec), (54, signSpec)]) 500 8
theorem clNo_ok : CallOK Tryd.prog clNo := aCall_ok mixed (sgBy_cons sign_ok (sgBy_cons rsign_ok sgBy_nil)) 500 8

def numberSpec : Spec
  | [.c (.int .i64 n)] => some (.c (str (numberF n)), [-9223372036854775808 ≤ n, n ≤ 9223372036854775807])
  | _ => none

theorem number_0 : numberF 0 = encN (sgn 65533) := rfl
theorem number_m {n : Int} (h1 : 128 ≤ n) (h2 : n ≤ 159) : numberF n = encN (sgn (if (movedN n : Int) = 0 then n else (movedN n : Nat))) := by
  unfold numberF numI
  rw [if_neg (by omega), if_pos ⟨h1, h2⟩]
  unfold movedN
  by_cases h : movedT.getD (n.toNat - 128) 0 = 0
  · rw [if_pos h, if_pos (by omega)]
  · rw [if_neg h, if_neg (by omega)]
theorem number_n {n : Int} (h0 : n ≠ 0) (h : ¬ (128 ≤ n ∧ n ≤ 159)) : numberF n = encN (sgn n) := by
  unfold numberF numI
  rw [if_neg h0, if_neg h]
theorem numAV_len (k : IntKind) (z : List Int) : (numAV k z).length = z.length := by simp [numAV]

noncomputable def pno_X (n : Int) (m : Nat) (h_ : List (Nat × Bool)) := outcome Tryd.prog 51 (aBody Tryd.prog clNo ⟨true, bs h_ ++ ([(16, ⟨.c (.int .u16 m), none⟩), (22, ⟨.c (.int .u16 m), none⟩), (23, ⟨.c (.int .i64 m), none⟩)])⟩ (lpBy ([])) 60 51 ([.c (.int .i64 n)]) ([]))

theorem pno_1 (n : Int) (m : Nat) : pno_X n m [(4, true)] = some ((AV.c ((str ([UInt8.ofNat (239 : Nat), UInt8.ofNat (191 : Nat), UInt8.ofNat (189 : Nat)])))), [(n == (0 : Int)) = true,
 (-9223372036854775808 : Int) ≤ 65533,
 (65533 : Int) ≤ 9223372036854775807]) := by kernel_rfl

theorem pno_2 (n : Int) (m : Nat) : pno_X n m [(4, false), (7, true), (10, true), (17, true)] = some ((AV.c ((str (encN (sgn (↑m : Int)))))), [(n == (0 : Int)) = false,
 decide ((128 : Int) ≤ n) = true,
 decide ((n : Int) ≤ 159) = true,
 (IntKind.i64.min : Int) ≤ n - 128,
 (n - 128 : Int) ≤ IntKind.i64.max,
 (0 : Int) ≤ n - 128,
 (n - 128 : Int) < ↑(32 : Nat),
 (((0 : Nat) : Nat) < ((List.drop (n - (128 : Int)).toNat (numAV IntKind.u16 movedZ)).length)),
 avEq ((List.drop (n - (128 : Int)).toNat (numAV IntKind.u16 movedZ)).headD AV.any) ((AV.c ((Value.int .u16 ((↑m : Int)))))),
 ((↑m : Int) != (0 : Int)) = true,
 (IntKind.i64.min : Int) ≤ n - 128,
 (n - 128 : Int) ≤ IntKind.i64.max,
 (0 : Int) ≤ n - 128,
 (n - 128 : Int) < ↑(32 : Nat),
 (((0 : Nat) : Nat) < ((List.drop (n - (128 : Int)).toNat (numAV IntKind.u16 movedZ)).length)),
 avEq ((List.drop (n - (128 : Int)).toNat (numAV IntKind.u16 movedZ)).headD AV.any) ((AV.c ((Value.int .u16 ((↑m : Int)))))),
 ((IntKind.i64.wrap (↑m : Int) : Int)) = ((↑m : Int)),
 (-9223372036854775808 : Int) ≤ ↑m,
 (↑m : Int) ≤ 9223372036854775807]) := by kernel_rfl

theorem pno_3 (n : Int) (m : Nat) : pno_X n m [(4, false), (7, true), (10, true), (17, false)] = some ((AV.c ((str (encN (sgn n))))), [(n == (0 : Int)) = false,
 decide ((128 : Int) ≤ n) = true,
 decide ((n : Int) ≤ 159) = true,
 (IntKind.i64.min : Int) ≤ n - 128,
 (n - 128 : Int) ≤ IntKind.i64.max,
 (0 : Int) ≤ n - 128,
 (n - 128 : Int) < ↑(32 : Nat),
 (((0 : Nat) : Nat) < ((List.drop (n - (128 : Int)).toNat (numAV IntKind.u16 movedZ)).length)),
 avEq ((List.drop (n - (128 : Int)).toNat (numAV IntKind.u16 movedZ)).headD AV.any) ((AV.c ((Value.int .u16 ((↑m : Int)))))),
 ((↑m : Int) != (0 : Int)) = false,
 (-9223372036854775808 : Int) ≤ n,
 (n : Int) ≤ 9223372036854775807]) := by kernel_rfl

theorem pno_4 (n : Int) (m : Nat) : pno_X n m [(4, false), (7, true), (10, false)] = some ((AV.c ((str (encN (sgn n))))), [(n == (0 : Int)) = false,
 decide ((128 : Int) ≤ n) = true,
 decide ((n : Int) ≤ 159) = false,
 (-9223372036854775808 : Int) ≤ n,
 (n : Int) ≤ 9223372036854775807]) := by kernel_rfl

theorem pno_5 (n : Int) (m : Nat) : pno_X n m [(4, false), (7, false)] = some ((AV.c ((str (encN (sgn n))))), [(n == (0 : Int)) = false,
 decide ((128 : Int) ≤ n) = false,
 (-9223372036854775808 : Int) ≤ n,
 (n : Int) ≤ 9223372036854775807]) := by kernel_rfl

theorem pno_all (n : Int) (m : Nat) (g0 : -9223372036854775808 ≤ n) (g1 : n ≤ 9223372036854775807) (hm : movedN n = m) (hlt : m < 65536) (hm1 : 128 ≤ n → n ≤ 159 → avEq (((numAV .u16 movedZ).drop (n - 128).toNat).headD .any) (.c (.int .u16 m))) (hl : (numAV .u16 movedZ).length = 32) : ∃ (h : Hints) (p : List Prop), outcome Tryd.prog 51 (aBody Tryd.prog clNo h (lpBy ([])) 60 51 ([.c (.int .i64 n)]) ([])) = some (.c (str (numberF n)), p) ∧ allP p := by
  refine bcase (n == (0 : Int)) (fun hc4 => ⟨_, _, (pno_1 n m).trans (congrArg (fun r => some (r, _)) ?_), ?_⟩)
    (fun hc4 => bcase (decide ((128 : Int) ≤ n)) (fun hc7 => bcase (decide (n ≤ (159 : Int))) (fun hc10 => bcase ((↑m : Int) != (0 : Int)) (fun hc17 => ⟨_, _, (pno_2 n m).trans (congrArg (fun r => some (r, _)) ?_), ?_⟩)
    (fun hc17 => ⟨_, _, (pno_3 n m).trans (congrArg (fun r => some (r, _)) ?_), ?_⟩))
    (fun hc10 => ⟨_, _, (pno_4 n m).trans (congrArg (fun r => some (r, _)) ?_), ?_⟩))
    (fun hc7 => ⟨_, _, (pno_5 n m).trans (congrArg (fun r => some (r, _)) ?_), ?_⟩))
  all_goals try simp only [dz] at hc4
  all_goals try simp only [dz] at hc7
  all_goals try simp only [dz] at hc10
  all_goals try simp only [dz] at hc17
  any_goals (
    first
      | (subst hc4; rfl)
      | (rw [number_m hc7 hc10, hm, if_neg hc17]; done)
      | (rw [number_m hc7 hc10, hm, if_pos hc17]; done)
      | (rw [number_n hc4 (by omega)]; done)
    done)
  all_goals try simp (disch := omega) only [std, List.length_drop, hl]
  all_goals repeat' apply And.intro
  all_goals first | exact True.intro | omega | with_reducible rfl | with_reducible assumption | exact hm1 hc7 hc10 | exact hc17 | exact i64_wrap (by omega) (by omega) | exact hm | exact hl | rfl

theorem number_ok : SpecOK Tryd.prog 51 numberSpec := by
  refine spec_of mixed clNo_ok fun args r q hs hq => ?_
  unfold numberSpec at hs
  split at hs
  · rename_i n
    simp only [Option.some.injEq, Prod.mk.injEq] at hs
    obtain ⟨rfl, rfl⟩ := hs
    simp only [allP, and_true] at hq ⊢
    obtain ⟨h0, h1⟩ := hq
    obtain ⟨hh, q, e, hp⟩ := pno_all n _ h0 h1 rfl (movedN_lt n) (fun a b => by rw [moved_at a b]; exact avEq_refl _) (by rw [numAV_len]; decide)
    exact ⟨_, _, _, _, lpBy_nil, e, hp⟩
  · simp at hs

def toZ : List Int := [8364, 129, 8218, 402, 8222, 8230, 8224, 8225, 710, 8240, 352, 8249, 338, 141, 381, 143, 144, 8216, 8217, 8220, 8221, 8226, 8211, 8212, 732, 8482, 353, 8250, 339, 157, 382, 376]
theorem to_at {n : Int} (h1 : 128 ≤ n) (h2 : n ≤ 159) : ((numAV .i64 toZ).drop (n - 128).toNat).headD .any = .c (.int .i64 (if (movedN n : Int) = 0 then n else (movedN n : Nat))) := by
  have key : ∀ i : Nat, i < 32 → ((numAV .i64 toZ).drop ((128 + i : Nat) - 128 : Int).toNat).headD .any = .c (.int .i64 (if (movedN (128 + i : Nat) : Int) = 0 then (128 + i : Nat) else (movedN (128 + i : Nat) : Nat))) := by
    intro i hi
    have hall : (List.range 32).map (fun i : Nat => ((numAV .i64 toZ).drop ((128 + i : Nat) - 128 : Int).toNat).headD .any) = (List.range 32).map (fun i : Nat => .c (.int .i64 (if (movedN (128 + i : Nat) : Int) = 0 then ((128 + i : Nat) : Int) else (movedN (128 + i : Nat) : Nat)))) := by kernel_rfl
    exact byAll 32 hall i hi
  have := key (n.toNat - 128) (by omega)
  rw [show ((128 + (n.toNat - 128) : Nat) : Int) = n by omega] at this
  exact this

noncomputable def rno_X (n : Int) (q : Int) (h_ : List (Nat × Bool)) := outcome Tryd.prog 45 (aBody Tryd.prog clNo ⟨true, bs h_ ++ ([(17, ⟨.c (.int .i64 q), none⟩)])⟩ (lpBy ([])) 60 45 ([.c (.int .i64 n)]) ([]))

theorem rno_1 (n : Int) (q : Int) : rno_X n q [(5, true)] = some ((AV.c ((str ([UInt8.ofNat (239 : Nat), UInt8.ofNat (191 : Nat), UInt8.ofNat (189 : Nat)])))), [(n == (0 : Int)) = true,
 (-9223372036854775808 : Int) ≤ 65533,
 (65533 : Int) ≤ 9223372036854775807]) := by kernel_rfl

theorem rno_2 (n : Int) (q : Int) : rno_X n q [(5, false), (7, true), (10, true)] = some ((AV.c ((str (encN (sgn q))))), [(n == (0 : Int)) = false,
 decide ((n : Int) ≥ 128) = true,
 decide ((n : Int) ≤ 159) = true,
 (IntKind.i64.min : Int) ≤ n - 128,
 (n - 128 : Int) ≤ IntKind.i64.max,
 (0 : Int) ≤ n - 128,
 (n - 128 : Int) < ↑(32 : Nat),
 (((0 : Nat) : Nat) < ((List.drop ((n - (128 : Int)).toNat + (0 : Nat)) ([AV.c (Value.int IntKind.i64 (8364 : Int))] ++ ([AV.c (Value.int IntKind.i64 (129 : Int))] ++ ([AV.c (Value.int IntKind.i64 (8218 : Int))] ++ ([AV.c (Value.int IntKind.i64 (402 : Int))] ++ ([AV.c (Value.int IntKind.i64 (8222 : Int))] ++ ([AV.c (Value.int IntKind.i64 (8230 : Int))] ++ ([AV.c (Value.int IntKind.i64 (8224 : Int))] ++ ([AV.c (Value.int IntKind.i64 (8225 : Int))] ++ ([AV.c (Value.int IntKind.i64 (710 : Int))] ++ ([AV.c (Value.int IntKind.i64 (8240 : Int))] ++ ([AV.c (Value.int IntKind.i64 (352 : Int))] ++ ([AV.c (Value.int IntKind.i64 (8249 : Int))] ++ ([AV.c (Value.int IntKind.i64 (338 : Int))] ++ ([AV.c (Value.int IntKind.i64 (141 : Int))] ++ ([AV.c (Value.int IntKind.i64 (381 : Int))] ++ ([AV.c (Value.int IntKind.i64 (143 : Int))] ++ ([AV.c (Value.int IntKind.i64 (144 : Int))] ++ ([AV.c (Value.int IntKind.i64 (8216 : Int))] ++ ([AV.c (Value.int IntKind.i64 (8217 : Int))] ++ ([AV.c (Value.int IntKind.i64 (8220 : Int))] ++ ([AV.c (Value.int IntKind.i64 (8221 : Int))] ++ ([AV.c (Value.int IntKind.i64 (8226 : Int))] ++ ([AV.c (Value.int IntKind.i64 (8211 : Int))] ++ ([AV.c (Value.int IntKind.i64 (8212 : Int))] ++ ([AV.c (Value.int IntKind.i64 (732 : Int))] ++ ([AV.c (Value.int IntKind.i64 (8482 : Int))] ++ ([AV.c (Value.int IntKind.i64 (353 : Int))] ++ ([AV.c (Value.int IntKind.i64 (8250 : Int))] ++ ([AV.c (Value.int IntKind.i64 (339 : Int))] ++ ([AV.c (Value.int IntKind.i64 (157 : Int))] ++ ([AV.c (Value.int IntKind.i64 (382 : Int))] ++ ([AV.c (Value.int IntKind.i64 (376 : Int))] ++ []))))))))))))))))))))))))))))))))).length)),
 avEq ((List.drop ((n - (128 : Int)).toNat + (0 : Nat)) ([AV.c (Value.int IntKind.i64 (8364 : Int))] ++ ([AV.c (Value.int IntKind.i64 (129 : Int))] ++ ([AV.c (Value.int IntKind.i64 (8218 : Int))] ++ ([AV.c (Value.int IntKind.i64 (402 : Int))] ++ ([AV.c (Value.int IntKind.i64 (8222 : Int))] ++ ([AV.c (Value.int IntKind.i64 (8230 : Int))] ++ ([AV.c (Value.int IntKind.i64 (8224 : Int))] ++ ([AV.c (Value.int IntKind.i64 (8225 : Int))] ++ ([AV.c (Value.int IntKind.i64 (710 : Int))] ++ ([AV.c (Value.int IntKind.i64 (8240 : Int))] ++ ([AV.c (Value.int IntKind.i64 (352 : Int))] ++ ([AV.c (Value.int IntKind.i64 (8249 : Int))] ++ ([AV.c (Value.int IntKind.i64 (338 : Int))] ++ ([AV.c (Value.int IntKind.i64 (141 : Int))] ++ ([AV.c (Value.int IntKind.i64 (381 : Int))] ++ ([AV.c (Value.int IntKind.i64 (143 : Int))] ++ ([AV.c (Value.int IntKind.i64 (144 : Int))] ++ ([AV.c (Value.int IntKind.i64 (8216 : Int))] ++ ([AV.c (Value.int IntKind.i64 (8217 : Int))] ++ ([AV.c (Value.int IntKind.i64 (8220 : Int))] ++ ([AV.c (Value.int IntKind.i64 (8221 : Int))] ++ ([AV.c (Value.int IntKind.i64 (8226 : Int))] ++ ([AV.c (Value.int IntKind.i64 (8211 : Int))] ++ ([AV.c (Value.int IntKind.i64 (8212 : Int))] ++ ([AV.c (Value.int IntKind.i64 (732 : Int))] ++ ([AV.c (Value.int IntKind.i64 (8482 : Int))] ++ ([AV.c (Value.int IntKind.i64 (353 : Int))] ++ ([AV.c (Value.int IntKind.i64 (8250 : Int))] ++ ([AV.c (Value.int IntKind.i64 (339 : Int))] ++ ([AV.c (Value.int IntKind.i64 (157 : Int))] ++ ([AV.c (Value.int IntKind.i64 (382 : Int))] ++ ([AV.c (Value.int IntKind.i64 (376 : Int))] ++ []))))))))))))))))))))))))))))))))).headD AV.any) ((AV.c ((Value.int .i64 q)))),
 (-9223372036854775808 : Int) ≤ q,
 (q : Int) ≤ 9223372036854775807]) := by kernel_rfl

theorem rno_3 (n : Int) (q : Int) : rno_X n q [(5, false), (7, true), (10, false)] = some ((AV.c ((str (encN (sgn n))))), [(n == (0 : Int)) = false,
 decide ((n : Int) ≥ 128) = true,
 decide ((n : Int) ≤ 159) = false,
 (-9223372036854775808 : Int) ≤ n,
 (n : Int) ≤ 9223372036854775807]) := by kernel_rfl

theorem rno_4 (n : Int) (q : Int) : rno_X n q [(5, false), (7, false)] = some ((AV.c ((str (encN (sgn n))))), [(n == (0 : Int)) = false,
 decide ((n : Int) ≥ 128) = false,
 (-9223372036854775808 : Int) ≤ n,
 (n : Int) ≤ 9223372036854775807]) := by kernel_rfl

theorem rno_all (n : Int) (q : Int) (g0 : -9223372036854775808 ≤ n) (g1 : n ≤ 9223372036854775807) (hq : 128 ≤ n → n ≤ 159 → numberF n = encN (sgn q)) (hq1 : 128 ≤ n → n ≤ 159 → avEq (((numAV .i64 toZ).drop (n - 128).toNat).headD .any) (.c (.int .i64 q))) (q0 : -9223372036854775808 ≤ q) (q1 : q ≤ 9223372036854775807) : ∃ (h : Hints) (p : List Prop), outcome Tryd.prog 45 (aBody Tryd.prog clNo h (lpBy ([])) 60 45 ([.c (.int .i64 n)]) ([])) = some (.c (str (numberF n)), p) ∧ allP p := by
  refine bcase (n == (0 : Int)) (fun hc5 => ⟨_, _, (rno_1 n q).trans (congrArg (fun r => some (r, _)) ?_), ?_⟩)
    (fun hc5 => bcase (decide (n ≥ (128 : Int))) (fun hc7 => bcase (decide (n ≤ (159 : Int))) (fun hc10 => ⟨_, _, (rno_2 n q).trans (congrArg (fun r => some (r, _)) ?_), ?_⟩)
    (fun hc10 => ⟨_, _, (rno_3 n q).trans (congrArg (fun r => some (r, _)) ?_), ?_⟩))
    (fun hc7 => ⟨_, _, (rno_4 n q).trans (congrArg (fun r => some (r, _)) ?_), ?_⟩))
  all_goals try simp only [dz] at hc5
  all_goals try simp only [dz] at hc7
  all_goals try simp only [dz] at hc10
  any_goals (
    first
      | (subst hc5; rfl)
      | (rw [hq hc7 hc10]; done)
      | (rw [number_n hc5 (by omega)]; done)
    done)
  all_goals try simp (disch := omega) only [std, List.length_drop]
  all_goals repeat' apply And.intro
  all_goals first | exact True.intro | omega | with_reducible rfl | with_reducible assumption | exact hq1 hc7 hc10 | (show 0 < 32 - ((n - 128).toNat + 0); omega) | rfl

theorem rnumber_ok : SpecOK Tryd.prog 45 numberSpec := by
  refine spec_of mixed clNo_ok fun args r q hs hq => ?_
  unfold numberSpec at hs
  split at hs
  · rename_i n
    simp only [Option.some.injEq, Prod.mk.injEq] at hs
    obtain ⟨rfl, rfl⟩ := hs
    simp only [allP, and_true] at hq ⊢
    obtain ⟨h0, h1⟩ := hq
    have hm := movedN_lt n
    obtain ⟨hh, q, e, hp⟩ := rno_all n (if (movedN n : Int) = 0 then n else (movedN n : Nat)) h0 h1 (fun a b => number_m a b) (fun a b => by rw [to_at a b]; exact avEq_refl _) (by split <;> omega) (by split <;> omega)
    exact ⟨_, _, _, _, lpBy_nil, e, hp⟩
  · simp at hs

end Go.Proofs.YtfnappdgiomiiaaDoor
