/- Names: the program's own, and the document's. -/
import Derived.Test.YtfnappdgiomiiaaDoorEnt
import Derived.Test.YtfnappdgiomiiaaDoorStr
import Derived.Test.YtfnappdgiomiiaaDoorDig
namespace Go.Proofs.YtfnappdgiomiiaaDoor
open Go.RowKit Ent
set_option linter.unusedVariables false
set_option linter.unusedSimpArgs false

theorem allP_map {α : Type} {p : α → Prop} : ∀ {T : List α}, (∀ x ∈ T, p x) → allP (T.map p)
  | [], _ => trivial
  | x :: r, h => ⟨h x List.mem_cons_self, allP_map fun y hy => h y (List.mem_cons_of_mem _ hy)⟩

def lookSpec (T : List (List UInt8 × List UInt8)) : Spec
  | [.c (.string s)] => some (.c (str (lookT T (sb s))), [])
  | _ => none

/-- A table told by comparisons, one behind the other. -/
theorem look_ok {f : FuncId} {cl : CallT} (hcl : CallOK Tryd.prog cl) {T : List (List UInt8 × List UInt8)} (hT : ∀ kv ∈ T, kv.2 ≠ []) {hs : Hints} {r : List UInt8 → List UInt8}
    (h1 : T.map (fun kv => outcome Tryd.prog f (aBody Tryd.prog cl {} (lpBy []) 100 f [.c (str kv.1)] [])) = T.map fun kv => some (.c (str kv.2), []))
    (h2 : ∀ l, lookT T l = [] → outcome Tryd.prog f (aBody Tryd.prog cl hs (lpBy []) 100 f [.c (str l)] []) = some (.c (str (r l)), T.map fun kv => ((l == kv.1) = false)))
    {spec : Spec} (h3 : ∀ args x q, spec args = some (x, q) → ∃ l, args = [.c (str l)] ∧ x = .c (str (if lookT T l = [] then r l else lookT T l))) : SpecOK Tryd.prog f spec := by
  refine spec_of mixed hcl fun args x q hsp hq => ?_
  obtain ⟨l, rfl, rfl⟩ := h3 args x q hsp
  by_cases h : lookT T l = []
  · rw [if_pos h]
    exact ⟨_, _, _, _, lpBy_nil, h2 l h, allP_map (lookT_none T l hT h)⟩
  · rw [if_neg h]
    have := List.map_inj_left.1 h1 _ (lookT_mem T l h)
    exact ⟨_, _, _, _, lpBy_nil, this, trivial⟩

theorem look_args {T : List (List UInt8 × List UInt8)} {args : List AV} {x : AV} {q : List Prop} (h : lookSpec T args = some (x, q)) : ∃ l, args = [.c (str l)] ∧ x = .c (str (lookT T l)) := by
  unfold lookSpec at h
  split at h
  · rename_i s
    simp only [Option.some.injEq, Prod.mk.injEq] at h
    obtain ⟨rfl, rfl⟩ := h
    obtain ⟨⟨⟨l⟩⟩, rfl⟩ : ∃ b : ByteArray, b = s := ⟨s, rfl⟩
    exact ⟨l, rfl, rfl⟩
  · simp at h

theorem loose_ok' : SpecOK Tryd.prog 64 (lookSpec looseT) :=
  look_ok cl0_ok (vne_of loose_ok) (hs := ⟨true, bs [(5, false), (6, false), (8, false), (9, false), (11, false), (12, false), (14, false), (15, false), (17, false), (19, false), (21, false), (23, false), (25, false), (27, false), (29, false), (31, false), (33, false), (35, false), (37, false), (39, false), (41, false)]⟩) (r := fun _ => [])
    (by kernel_rfl) (fun l _ => by kernel_rfl) (fun args x q h => by
      obtain ⟨l, h1, h2⟩ := look_args h
      refine ⟨l, h1, ?_⟩
      rw [h2]
      split
      · rename_i h; rw [h]
      · rfl)

theorem mark_ok' : SpecOK Tryd.prog 70 (lookSpec markT) :=
  look_ok cl0_ok (vne_of mark_ok) (hs := ⟨true, bs ((List.range 26).map fun i => (5 + 2 * i, false))⟩) (r := fun _ => [])
    (by kernel_rfl) (fun l _ => by kernel_rfl) (fun args x q h => by
      obtain ⟨l, h1, h2⟩ := look_args h
      refine ⟨l, h1, ?_⟩
      rw [h2]
      split
      · rename_i h; rw [h]
      · rfl)

noncomputable def clMark : CallT := aCall Tryd.prog (sgBy [(70, lookSpec markT)]) 500 8
theorem clMark_ok : CallOK Tryd.prog clMark := aCall_ok mixed (sgBy_cons mark_ok' sgBy_nil) 500 8

theorem strict_ok' : SpecOK Tryd.prog 65 (lookSpec strictT) :=
  look_ok clMark_ok (vne_of more_ok) (hs := ⟨true, bs ((List.range 12).map fun i => (5 + 2 * i, false))⟩) (r := fun l => lookT markT l)
    (by kernel_rfl) (fun l _ => by kernel_rfl) (fun args x q h => by
      obtain ⟨l, h1, h2⟩ := look_args h
      exact ⟨l, h1, by rw [h2, strict_prog]⟩)

noncomputable def clNm : CallT := aCall Tryd.prog (sgBy [(69, cutSufSpec), (64, lookSpec looseT), (65, lookSpec strictT)]) 500 8
theorem clNm_ok : CallOK Tryd.prog clNm := aCall_ok mixed (sgBy_cons cutSuf_ok (sgBy_cons loose_ok' (sgBy_cons strict_ok' sgBy_nil))) 500 8

def nmT (l : List UInt8) : AV := .tu [.c (str (namedF l)), .c (.bool (!(namedF l == [])))]
def namedSpec : Spec
  | [.c (.string s)] => some (nmT (sb s), [(sb s).length ≤ 9223372036854775800])
  | _ => none

noncomputable def pnm_X (l b s t : List UInt8) (e : Bool) (h_ : List (Nat × Bool)) := outcome Tryd.prog 52 (aBody Tryd.prog clNm ⟨true, bs h_ ++ ([(10, ⟨.c (str b), none⟩), (11, ⟨.c (.bool e), none⟩), (13, ⟨.c (str s), none⟩), (20, ⟨.c (str t), none⟩)])⟩ (lpBy ([])) 60 52 ([.c (str l)]) ([]))

theorem pnm_1 (l b s t : List UInt8) (e : Bool) : pnm_X l b s t e [(15, true), (11, true)] = some ((AV.tu [(AV.c ((str (t)))),
 (AV.c ((Value.bool (!t == []))))]), [((l.length : Nat) ≤ ((9223372036854775807 : Nat))),
 ((cutSF [(59 : UInt8)] l : List UInt8)) = (b),
 (sufB [(59 : UInt8)] l) = true,
 ((lookT looseT b : List UInt8)) = (s),
 (s == []) = true,
 ((lookT strictT b : List UInt8)) = (t)]) := by kernel_rfl

theorem pnm_2 (l b s t : List UInt8) (e : Bool) : pnm_X l b s t e [(15, true), (11, false)] = some ((AV.tu [(AV.c ((str (s)))),
 (AV.c ((Value.bool (!s == []))))]), [((l.length : Nat) ≤ ((9223372036854775807 : Nat))),
 ((cutSF [(59 : UInt8)] l : List UInt8)) = (b),
 (sufB [(59 : UInt8)] l) = false,
 ((lookT looseT b : List UInt8)) = (s),
 (s == []) = true]) := by kernel_rfl

theorem pnm_3 (l b s t : List UInt8) (e : Bool) : pnm_X l b s t e [(15, false)] = some ((AV.tu [(AV.c ((str (s)))),
 (AV.c ((Value.bool (!s == []))))]), [((l.length : Nat) ≤ ((9223372036854775807 : Nat))),
 ((cutSF [(59 : UInt8)] l : List UInt8)) = (b),
 ((sufB [(59 : UInt8)] l : Bool)) = (e),
 ((lookT looseT b : List UInt8)) = (s),
 (s == []) = false]) := by kernel_rfl

theorem pnm_all (l b s t : List UInt8) (e : Bool) (hl : l.length ≤ 9223372036854775807) (hb : cutSF [59] l = b) (he : sufB [59] l = e) (hs : lookT looseT b = s) (ht : lookT strictT b = t) (hn : namedF l = if s = [] then (if e = true then t else []) else s) : ∃ (h : Hints) (p : List Prop), outcome Tryd.prog 52 (aBody Tryd.prog clNm h (lpBy ([])) 60 52 ([.c (str l)]) ([])) = some (nmT l, p) ∧ allP p := by
  cases hc15 : (s == [] : Bool) with
  | true =>
    cases hc11 : (e : Bool) with
    | true =>
      have eR := pnm_1 l b s t e
      refine ⟨_, _, eR.trans (congrArg (fun r => some (r, _)) ?_), ?_⟩
      · try clear eR
        unfold nmT
        rw [hn]
        try simp only [beq_iff_eq, beq_eq_false_iff_ne, ne_eq] at hc15
        first
          | (rw [if_pos hc15, if_pos (by simpa using hc11)]; done)
          | (rw [if_pos hc15, if_neg (by simpa using hc11), hc15]; done)
          | (rw [if_neg hc15]; done)
          | (rw [if_pos hc15, if_pos (by simpa using hc11)]; rfl)
          | (rw [if_pos hc15, if_neg (by simpa using hc11), hc15]; rfl)
          | (rw [if_neg hc15]; rfl)
      · try clear eR
        simp only [allP, sb_mk]
        repeat' apply And.intro
        all_goals first | exact True.intro | assumption | omega | exact he.trans hc11 | rfl
    | false =>
      have eR := pnm_2 l b s t e
      refine ⟨_, _, eR.trans (congrArg (fun r => some (r, _)) ?_), ?_⟩
      · try clear eR
        unfold nmT
        rw [hn]
        try simp only [beq_iff_eq, beq_eq_false_iff_ne, ne_eq] at hc15
        first
          | (rw [if_pos hc15, if_pos (by simpa using hc11)]; done)
          | (rw [if_pos hc15, if_neg (by simpa using hc11), hc15]; done)
          | (rw [if_neg hc15]; done)
          | (rw [if_pos hc15, if_pos (by simpa using hc11)]; rfl)
          | (rw [if_pos hc15, if_neg (by simpa using hc11), hc15]; rfl)
          | (rw [if_neg hc15]; rfl)
      · try clear eR
        simp only [allP, sb_mk]
        repeat' apply And.intro
        all_goals first | exact True.intro | assumption | omega | exact he.trans hc11 | rfl
  | false =>
    have eR := pnm_3 l b s t e
    refine ⟨_, _, eR.trans (congrArg (fun r => some (r, _)) ?_), ?_⟩
    · try clear eR
      unfold nmT
      rw [hn]
      try simp only [beq_iff_eq, beq_eq_false_iff_ne, ne_eq] at hc15
      first
        | (rw [if_pos hc15, if_pos (by simpa using hc11)]; done)
        | (rw [if_pos hc15, if_neg (by simpa using hc11), hc15]; done)
        | (rw [if_neg hc15]; done)
        | (rw [if_pos hc15, if_pos (by simpa using hc11)]; rfl)
        | (rw [if_pos hc15, if_neg (by simpa using hc11), hc15]; rfl)
        | (rw [if_neg hc15]; rfl)
    · try clear eR
      simp only [allP, sb_mk]
      repeat' apply And.intro
      all_goals first | exact True.intro | assumption | omega | exact he.trans hc11 | rfl

theorem suf_semi (l : List UInt8) : sufB [59] l = endC l := by
  cases h : endC l with
  | true => exact sufB_iff.2 (endC_iff.1 h)
  | false =>
    cases h2 : sufB [59] l with
    | false => rfl
    | true => rw [endC_iff.2 (sufB_iff.1 h2)] at h; cases h
theorem cut_semi (l : List UInt8) : cutSF [59] l = if endC l = true then l.dropLast else l := by
  unfold cutSF
  rw [suf_semi]
  split
  · rw [List.dropLast_eq_take]; rfl
  · rfl

theorem named_ok : SpecOK Tryd.prog 52 namedSpec := by
  refine spec_of mixed clNm_ok fun args r q hs hq => ?_
  unfold namedSpec at hs
  split at hs
  · rename_i l
    simp only [Option.some.injEq, Prod.mk.injEq] at hs
    obtain ⟨rfl, rfl⟩ := hs
    obtain ⟨⟨⟨l⟩⟩, rfl⟩ : ∃ b : ByteArray, b = l := ⟨l, rfl⟩
    simp only [sb_mk, allP, and_true] at hq ⊢
    obtain ⟨hh, q, e, hp⟩ := pnm_all l _ _ _ _ (Nat.le_trans hq (by decide)) rfl rfl rfl rfl (by
      rw [cut_semi, suf_semi]
      unfold namedF
      cases he : endC l with
      | true => simp only [if_true]
      | false =>
        simp only [Bool.false_eq_true, if_false]
        split
        · assumption
        · rfl)
    exact ⟨_, _, _, _, lpBy_nil, e, hp⟩
  · simp at hs

end Go.Proofs.YtfnappdgiomiiaaDoor
