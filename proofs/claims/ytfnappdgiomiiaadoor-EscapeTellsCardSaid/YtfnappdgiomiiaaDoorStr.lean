/- Beginnings and ends of texts: contracts of the library's own. -/
import Derived.Test.YtfnappdgiomiiaaDoorBas
namespace Go.Proofs.YtfnappdgiomiiaaDoor
open Go.RowKit
set_option linter.unusedVariables false
set_option linter.unusedSimpArgs false

/-- Does l begin with p? -/
def preB (p l : List UInt8) : Bool := decide (p.length ≤ l.length) && (l.take p.length == p)

theorem preB_iff {p l : List UInt8} : preB p l = true ↔ ∃ r, l = p ++ r := by
  unfold preB
  rw [Bool.and_eq_true, decide_eq_true_eq, beq_iff_eq]
  constructor
  · rintro ⟨_, h⟩
    exact ⟨l.drop p.length, by conv => lhs; rw [← List.take_append_drop p.length l, h]⟩
  · rintro ⟨r, rfl⟩
    simp
theorem preB_one {c d : UInt8} {r : List UInt8} : preB [c] (d :: r) = decide (d = c) := by
  have h := preB_iff (p := [c]) (l := d :: r)
  by_cases hd : d = c
  · subst hd
    rw [decide_eq_true rfl]
    exact h.2 ⟨r, rfl⟩
  · rw [decide_eq_false hd]
    cases hb : preB [c] (d :: r) with
    | false => rfl
    | true =>
      obtain ⟨q, hq⟩ := h.1 hb
      exact absurd (List.cons.inj hq).1 hd
theorem preB_nil {c : UInt8} {p : List UInt8} : preB (c :: p) [] = false := by
  unfold preB
  rw [decide_eq_false (by simp)]
  rfl

def preSpec : Spec
  | [.c (.string s), .c (.string p)] => some (.c (.bool (preB (sb p) (sb s))), [(sb s).length ≤ 9223372036854775807])
  | _ => none

noncomputable def spr_X (l z : List UInt8) (h_ : List (Nat × Bool)) := outcome Tryd.prog 43 (aBody Tryd.prog cl0 ⟨true, bs h_ ++ ([])⟩ (lpBy ([])) 60 43 ([.c (str l), .c (str z)]) ([]))

theorem spr_1 (l z : List UInt8) : spr_X l z [(9, true)] = some ((AV.c ((Value.bool (List.drop (Int.toNat (0 : Int)) (List.take z.length l) == z)))), [decide ((↑l.length : Int) ≥ ↑z.length) = true,
 (0 : Int) ≤ 0,
 (0 : Int) ≤ ↑z.length,
 (↑z.length : Int) ≤ ↑l.length]) := by kernel_rfl

theorem spr_2 (l z : List UInt8) : spr_X l z [(9, false)] = some ((AV.c ((Value.bool false))), [decide ((↑l.length : Int) ≥ ↑z.length) = false]) := by kernel_rfl

theorem spr_all (l z : List UInt8) (hl : l.length ≤ 9223372036854775807) : ∃ (h : Hints) (p : List Prop), outcome Tryd.prog 43 (aBody Tryd.prog cl0 h (lpBy ([])) 60 43 ([.c (str l), .c (str z)]) ([])) = some (.c (.bool (preB z l)), p) ∧ allP p := by
  cases hc9 : (decide ((↑l.length : Int) ≥ (↑z.length : Int)) : Bool) with
  | true =>
    have eR := spr_1 l z
    refine ⟨_, _, eR.trans (congrArg (fun r => some (r, _)) ?_), ?_⟩
    · first
        | (unfold preB; rw [decide_eq_false (by simpa using hc9)]; rfl)
        | (unfold preB; rw [decide_eq_true (by simpa using hc9)]; rfl)
    · try simp only [decide_eq_true_eq, decide_eq_false_iff_not] at hc9
      simp only [allP, sb_mk, decide_eq_true_eq, decide_eq_false_iff_not]
      repeat' apply And.intro
      all_goals first | exact True.intro | omega
  | false =>
    have eR := spr_2 l z
    refine ⟨_, _, eR.trans (congrArg (fun r => some (r, _)) ?_), ?_⟩
    · first
        | (unfold preB; rw [decide_eq_false (by simpa using hc9)]; rfl)
        | (unfold preB; rw [decide_eq_true (by simpa using hc9)]; rfl)
    · try simp only [decide_eq_true_eq, decide_eq_false_iff_not] at hc9
      simp only [allP, sb_mk, decide_eq_true_eq, decide_eq_false_iff_not]
      repeat' apply And.intro
      all_goals first | exact True.intro | omega

theorem pre_ok : SpecOK Tryd.prog 43 preSpec := by
  refine spec_of mixed cl0_ok fun args r q hs hq => ?_
  unfold preSpec at hs
  split at hs
  · rename_i l p
    simp only [Option.some.injEq, Prod.mk.injEq] at hs
    obtain ⟨rfl, rfl⟩ := hs
    obtain ⟨⟨⟨l⟩⟩, rfl⟩ : ∃ b : ByteArray, b = l := ⟨l, rfl⟩
    obtain ⟨⟨⟨p⟩⟩, rfl⟩ : ∃ b : ByteArray, b = p := ⟨p, rfl⟩
    simp only [sb_mk, allP, and_true] at hq ⊢
    obtain ⟨hh, q, e, hp⟩ := spr_all l p hq
    exact ⟨_, _, _, _, lpBy_nil, e, hp⟩
  · simp at hs

noncomputable def clPre : CallT := aCall Tryd.prog (sgBy [(43, preSpec)]) 500 8
theorem clPre_ok : CallOK Tryd.prog clPre := aCall_ok mixed (sgBy_cons pre_ok sgBy_nil) 500 8



/-! Ends. -/
/-- Does l end in p? -/
def sufB (p l : List UInt8) : Bool := decide (p.length ≤ l.length) && (l.drop (l.length - p.length) == p)

theorem sufB_iff {p l : List UInt8} : sufB p l = true ↔ ∃ r, l = r ++ p := by
  unfold sufB
  rw [Bool.and_eq_true, decide_eq_true_eq, beq_iff_eq]
  constructor
  · rintro ⟨_, h⟩
    exact ⟨l.take (l.length - p.length), by conv => lhs; rw [← List.take_append_drop (l.length - p.length) l, h]⟩
  · rintro ⟨r, rfl⟩
    simp

def sufSpec : Spec
  | [.c (.string s), .c (.string p)] => some (.c (.bool (sufB (sb p) (sb s))), [(sb s).length ≤ 9223372036854775807])
  | _ => none

noncomputable def ssf_X (l z : List UInt8) (n : Nat) (h_ : List (Nat × Bool)) := outcome Tryd.prog 72 (aBody Tryd.prog cl0 ⟨true, bs h_ ++ ([(16, ⟨.c (.int .i64 n), none⟩), (17, ⟨.c (str (l.drop n)), none⟩)])⟩ (lpBy ([])) 60 72 ([.c (str l), .c (str z)]) ([]))

theorem ssf_1 (l z : List UInt8) (n : Nat) : ssf_X l z n [(9, true)] = some ((AV.c ((Value.bool (List.drop n l == z)))), [decide ((↑l.length : Int) ≥ ↑z.length) = true,
 (IntKind.i64.min : Int) ≤ ↑l.length - ↑z.length,
 (↑l.length - ↑z.length : Int) ≤ IntKind.i64.max,
 (↑l.length - ↑z.length : Int) = ↑n,
 (0 : Int) ≤ ↑n,
 (↑n : Int) ≤ ↑l.length,
 (↑l.length : Int) ≤ ↑l.length,
 ((List.drop n (List.take l.length l) : List UInt8)) = (List.drop n l)]) := by kernel_rfl

theorem ssf_2 (l z : List UInt8) (n : Nat) : ssf_X l z n [(9, false)] = some ((AV.c ((Value.bool false))), [decide ((↑l.length : Int) ≥ ↑z.length) = false]) := by kernel_rfl

theorem ssf_all (l z : List UInt8) (n : Nat) (hl : l.length ≤ 9223372036854775807) (hn : z.length ≤ l.length → l.length = n + z.length) : ∃ (h : Hints) (p : List Prop), outcome Tryd.prog 72 (aBody Tryd.prog cl0 h (lpBy ([])) 60 72 ([.c (str l), .c (str z)]) ([])) = some (.c (.bool (sufB z l)), p) ∧ allP p := by
  cases hc9 : (decide ((↑l.length : Int) ≥ (↑z.length : Int)) : Bool) with
  | true =>
    have eR := ssf_1 l z n
    refine ⟨_, _, eR.trans (congrArg (fun r => some (r, _)) ?_), ?_⟩
    · try clear eR
      first
        | (unfold sufB; rw [decide_eq_false (by simp only [decide_eq_false_iff_not] at hc9; omega)]; rfl)
        | (have hz : z.length ≤ l.length := by simp only [decide_eq_true_eq] at hc9; omega
           unfold sufB; rw [decide_eq_true hz, show l.length - z.length = n by have := hn hz; omega]; rfl)
    · try clear eR
      try simp only [decide_eq_true_eq, decide_eq_false_iff_not] at hc9
      simp only [allP, sb_mk, decide_eq_true_eq, decide_eq_false_iff_not, Int.toNat_natCast, List.take_length, i64_min, i64_max]
      repeat' apply And.intro
      all_goals first | exact True.intro | omega | exact avEq_refl _ | rfl
  | false =>
    have eR := ssf_2 l z n
    refine ⟨_, _, eR.trans (congrArg (fun r => some (r, _)) ?_), ?_⟩
    · try clear eR
      first
        | (unfold sufB; rw [decide_eq_false (by simp only [decide_eq_false_iff_not] at hc9; omega)]; rfl)
        | (have hz : z.length ≤ l.length := by simp only [decide_eq_true_eq] at hc9; omega
           unfold sufB; rw [decide_eq_true hz, show l.length - z.length = n by have := hn hz; omega]; rfl)
    · try clear eR
      try simp only [decide_eq_true_eq, decide_eq_false_iff_not] at hc9
      simp only [allP, sb_mk, decide_eq_true_eq, decide_eq_false_iff_not, Int.toNat_natCast, List.take_length, i64_min, i64_max]
      repeat' apply And.intro
      all_goals first | exact True.intro | omega | exact avEq_refl _ | rfl

theorem suf_ok : SpecOK Tryd.prog 72 sufSpec := by
  refine spec_of mixed cl0_ok fun args r q hs hq => ?_
  unfold sufSpec at hs
  split at hs
  · rename_i l p
    simp only [Option.some.injEq, Prod.mk.injEq] at hs
    obtain ⟨rfl, rfl⟩ := hs
    obtain ⟨⟨⟨l⟩⟩, rfl⟩ : ∃ b : ByteArray, b = l := ⟨l, rfl⟩
    obtain ⟨⟨⟨p⟩⟩, rfl⟩ : ∃ b : ByteArray, b = p := ⟨p, rfl⟩
    simp only [sb_mk, allP, and_true] at hq ⊢
    obtain ⟨hh, q, e, hp⟩ := ssf_all l p (l.length - p.length) hq (by omega)
    exact ⟨_, _, _, _, lpBy_nil, e, hp⟩
  · simp at hs

noncomputable def clSuf : CallT := aCall Tryd.prog (sgBy [(72, sufSpec)]) 500 8
theorem clSuf_ok : CallOK Tryd.prog clSuf := aCall_ok mixed (sgBy_cons suf_ok sgBy_nil) 500 8

def cutSF (p l : List UInt8) : List UInt8 := if sufB p l = true then l.take (l.length - p.length) else l
def cutST (p l : List UInt8) : AV := .tu [.c (str (cutSF p l)), .c (.bool (sufB p l))]
def cutSufSpec : Spec
  | [.c (.string s), .c (.string p)] => some (cutST (sb p) (sb s), [(sb s).length ≤ 9223372036854775807])
  | _ => none

noncomputable def scs_X (l z : List UInt8) (n : Nat) (x : Bool) (h_ : List (Nat × Bool)) := outcome Tryd.prog 69 (aBody Tryd.prog clSuf ⟨true, bs h_ ++ ([(8, ⟨.c (.bool x), none⟩), (16, ⟨.c (.int .i64 n), none⟩)])⟩ (lpBy ([])) 60 69 ([.c (str l), .c (str z)]) ([]))

theorem scs_1 (l z : List UInt8) (n : Nat) (x : Bool) : scs_X l z n x [(9, true)] = some ((AV.tu [(AV.c ((str (l)))),
 (AV.c ((Value.bool false)))]), [((l.length : Nat) ≤ ((9223372036854775807 : Nat))),
 ((sufB z l : Bool)) = (x),
 (!x) = true]) := by kernel_rfl

theorem scs_2 (l z : List UInt8) (n : Nat) (x : Bool) : scs_X l z n x [(9, false)] = some ((AV.tu [(AV.c ((str (List.drop (Int.toNat (0 : Int)) (List.take n l))))),
 (AV.c ((Value.bool true)))]), [((l.length : Nat) ≤ ((9223372036854775807 : Nat))),
 ((sufB z l : Bool)) = (x),
 (!x) = false,
 (IntKind.i64.min : Int) ≤ ↑l.length - ↑z.length,
 (↑l.length - ↑z.length : Int) ≤ IntKind.i64.max,
 (↑l.length - ↑z.length : Int) = ↑n,
 (0 : Int) ≤ 0,
 (0 : Int) ≤ ↑n,
 (↑n : Int) ≤ ↑l.length]) := by kernel_rfl

theorem scs_all (l z : List UInt8) (n : Nat) (x : Bool) (hl : l.length ≤ 9223372036854775807) (hx : sufB z l = x) (hle : x = true → l.length = n + z.length) : ∃ (h : Hints) (p : List Prop), outcome Tryd.prog 69 (aBody Tryd.prog clSuf h (lpBy ([])) 60 69 ([.c (str l), .c (str z)]) ([])) = some (cutST z l, p) ∧ allP p := by
  cases hc9 : (!x : Bool) with
  | true =>
    have eR := scs_1 l z n x
    refine ⟨_, _, eR.trans (congrArg (fun r => some (r, _)) ?_), ?_⟩
    · try clear eR
      first
        | (rw [show x = true by simpa using hc9] at hx hle; unfold cutST cutSF; rw [hx, if_pos rfl, show l.length - z.length = n by have := hle rfl; omega]; rfl)
        | (rw [show x = false by simpa using hc9] at hx; unfold cutST cutSF; rw [hx, if_neg (by simp)])
    · try clear eR
      simp only [allP, sb_mk, Int.toNat_natCast, i64_min, i64_max]
      repeat' apply And.intro
      all_goals first | exact True.intro | omega | exact hx | exact hc9 | rfl | (have := hle (by simpa using hc9); omega)
  | false =>
    have eR := scs_2 l z n x
    refine ⟨_, _, eR.trans (congrArg (fun r => some (r, _)) ?_), ?_⟩
    · try clear eR
      first
        | (rw [show x = true by simpa using hc9] at hx hle; unfold cutST cutSF; rw [hx, if_pos rfl, show l.length - z.length = n by have := hle rfl; omega]; rfl)
        | (rw [show x = false by simpa using hc9] at hx; unfold cutST cutSF; rw [hx, if_neg (by simp)])
    · try clear eR
      simp only [allP, sb_mk, Int.toNat_natCast, i64_min, i64_max]
      repeat' apply And.intro
      all_goals first | exact True.intro | omega | exact hx | exact hc9 | rfl | (have := hle (by simpa using hc9); omega)

theorem cutSuf_ok : SpecOK Tryd.prog 69 cutSufSpec := by
  refine spec_of mixed clSuf_ok fun args r q hs hq => ?_
  unfold cutSufSpec at hs
  split at hs
  · rename_i l p
    simp only [Option.some.injEq, Prod.mk.injEq] at hs
    obtain ⟨rfl, rfl⟩ := hs
    obtain ⟨⟨⟨l⟩⟩, rfl⟩ : ∃ b : ByteArray, b = l := ⟨l, rfl⟩
    obtain ⟨⟨⟨p⟩⟩, rfl⟩ : ∃ b : ByteArray, b = p := ⟨p, rfl⟩
    simp only [sb_mk, allP, and_true] at hq ⊢
    obtain ⟨hh, q, e, hp⟩ := scs_all l p (l.length - p.length) _ hq rfl (fun h => by unfold sufB at h; simp only [Bool.and_eq_true, decide_eq_true_eq] at h; omega)
    exact ⟨_, _, _, _, lpBy_nil, e, hp⟩
  · simp at hs

/-! Where a byte stands; what is ahead of it and behind it. -/
def idxOne (c : UInt8) : List UInt8 → Int := fun l => Lib.indexByte l c
def idxSpec : Spec
  | [.c (.string s), .c (.string p)] => some (.c (.int .i64 (Lib.indexByte (sb s) ((sb p).headD 0))), [(sb s).length ≤ 9223372036854775807, sb p = [(sb p).headD 0]])
  | _ => none

noncomputable def six_X (l : List UInt8) (c : UInt8) (k : Int) (h_ : List (Nat × Bool)) := outcome Tryd.prog 49 (aBody Tryd.prog cl0 ⟨true, bs h_ ++ ([(30, ⟨.c (.int .i64 k), none⟩)])⟩ (lpBy ([])) 60 49 ([.c (str l), .c (str [c])]) ([]))

theorem six_1 (l : List UInt8) (c : UInt8) (k : Int) : six_X l c k [(22, true)] = some ((AV.c ((Value.int .i64 0))), [([c] == l) = true]) := by kernel_rfl

theorem six_2 (l : List UInt8) (c : UInt8) (k : Int) : six_X l c k [(22, false)] = some ((AV.c ((Value.int .i64 k))), [([c] == l) = false,
 (0 : Int) ≤ 0,
 (0 : Int) < ↑(1 : Nat),
 ((Lib.indexByte l ([c].getD (Int.toNat (0 : Int)) (0 : UInt8)).toNat.toUInt8 : Int)) = (k)]) := by kernel_rfl

theorem six_all (l : List UInt8) (c : UInt8) (k : Int) (hk : Lib.indexByte l c = k) (hc : ((c.toNat : Nat) : Int).toNat.toUInt8 = c) : ∃ (h : Hints) (p : List Prop), outcome Tryd.prog 49 (aBody Tryd.prog cl0 h (lpBy ([])) 60 49 ([.c (str l), .c (str [c])]) ([])) = some (.c (.int .i64 k), p) ∧ allP p := by
  cases hc22 : ([c] == l : Bool) with
  | true =>
    have eR := six_1 l c k
    refine ⟨_, _, eR.trans (congrArg (fun r => some (r, _)) ?_), ?_⟩
    · try clear eR
      first
        | rfl
        | (rw [beq_iff_eq] at hc22
           rw [← hk, ← hc22]
           unfold Lib.indexByte
           rw [if_pos (by simp)])
    · try clear eR
      simp only [allP, sb_mk]
      repeat' apply And.intro
      all_goals first | exact True.intro | assumption | omega | exact (congrArg (Lib.indexByte l) hc).trans hk | rfl
  | false =>
    have eR := six_2 l c k
    refine ⟨_, _, eR.trans (congrArg (fun r => some (r, _)) ?_), ?_⟩
    · try clear eR
      first
        | rfl
        | (rw [beq_iff_eq] at hc22
           rw [← hk, ← hc22]
           unfold Lib.indexByte
           rw [if_pos (by simp)])
    · try clear eR
      simp only [allP, sb_mk]
      repeat' apply And.intro
      all_goals first | exact True.intro | assumption | omega | exact (congrArg (Lib.indexByte l) hc).trans hk | rfl

theorem idx_ok : SpecOK Tryd.prog 49 idxSpec := by
  refine spec_of mixed cl0_ok fun args r q hs hq => ?_
  unfold idxSpec at hs
  split at hs
  · rename_i l p
    simp only [Option.some.injEq, Prod.mk.injEq] at hs
    obtain ⟨rfl, rfl⟩ := hs
    obtain ⟨⟨⟨l⟩⟩, rfl⟩ : ∃ b : ByteArray, b = l := ⟨l, rfl⟩
    obtain ⟨⟨⟨p⟩⟩, rfl⟩ : ∃ b : ByteArray, b = p := ⟨p, rfl⟩
    simp only [sb_mk, allP, and_true] at hq ⊢
    obtain ⟨hl, hp1⟩ := hq
    generalize p.headD 0 = c at hp1 ⊢
    subst hp1
    obtain ⟨hh, q, e, hp⟩ := six_all l c _ rfl (by rw [Int.toNat_natCast]; exact UInt8.ofNat_toNat)
    exact ⟨_, _, _, _, lpBy_nil, e, hp⟩
  · simp at hs

/-- What stands ahead of the first c, and behind it; is there one? -/
def cutF (c : UInt8) : List UInt8 → List UInt8 × List UInt8 × Bool
  | [] => ([], [], false)
  | x :: r => if x = c then ([], r, true) else (x :: (cutF c r).1, (cutF c r).2.1, (cutF c r).2.2)

theorem cutF_idx (c : UInt8) : ∀ l : List UInt8, ((cutF c l).2.2 = true → Lib.indexByte l c = ((cutF c l).1.length : Nat) ∧ l = (cutF c l).1 ++ c :: (cutF c l).2.1) ∧ ((cutF c l).2.2 = false → Lib.indexByte l c = -1 ∧ (cutF c l).1 = l ∧ (cutF c l).2.1 = [])
  | [] => ⟨fun h => by simp [cutF] at h, fun _ => ⟨rfl, rfl, rfl⟩⟩
  | x :: r => by
    obtain ⟨h1, h2⟩ := cutF_idx c r
    unfold cutF Lib.indexByte
    by_cases hx : x = c
    · subst hx
      rw [if_pos rfl, if_pos (by simp)]
      exact ⟨fun _ => ⟨rfl, rfl⟩, fun h => by simp at h⟩
    · rw [if_neg hx, if_neg (by simpa using hx)]
      simp only
      constructor
      · intro h
        obtain ⟨e1, e2⟩ := h1 h
        refine ⟨?_, by rw [List.cons_append, ← e2]⟩
        rw [e1, if_neg (by simp), List.length_cons]
        omega
      · intro h
        obtain ⟨e1, e2, e3⟩ := h2 h
        refine ⟨?_, by rw [e2], e3⟩
        rw [e1]; rfl

theorem cutF_len (c : UInt8) (l : List UInt8) : (cutF c l).1.length + (cutF c l).2.1.length ≤ l.length ∧ ((cutF c l).2.2 = true → (cutF c l).1.length + (cutF c l).2.1.length + 1 = l.length) := by
  obtain ⟨h1, h2⟩ := cutF_idx c l
  cases h : (cutF c l).2.2 with
  | true =>
    obtain ⟨_, e⟩ := h1 h
    have := congrArg List.length e
    simp only [List.length_append, List.length_cons] at this
    exact ⟨by omega, fun _ => by omega⟩
  | false =>
    obtain ⟨_, e1, e2⟩ := h2 h
    rw [e1, e2]
    exact ⟨by simp, fun h => by simp at h⟩

noncomputable def clIdx : CallT := aCall Tryd.prog (sgBy [(49, idxSpec)]) 500 8
theorem clIdx_ok : CallOK Tryd.prog clIdx := aCall_ok mixed (sgBy_cons idx_ok sgBy_nil) 500 8

def cutT (c : UInt8) (l : List UInt8) : AV := .tu [.c (str (cutF c l).1), .c (str (cutF c l).2.1), .c (.bool (cutF c l).2.2)]
def cutSpec : Spec
  | [.c (.string s), .c (.string p)] => some (cutT ((sb p).headD 0) (sb s), [(sb s).length ≤ 9223372036854775807, sb p = [(sb p).headD 0]])
  | _ => none

noncomputable def sct_X (a r : List UInt8) (c : UInt8) (h_ : List (Nat × Bool)) := outcome Tryd.prog 38 (aBody Tryd.prog clIdx ⟨true, bs h_ ++ (bs [(12, true)] ++ [(10, ⟨.c (.int .i64 a.length), none⟩), (15, ⟨.c (str a), none⟩), (20, ⟨.c (.int .i64 (a.length + 1 : Nat)), none⟩), (21, ⟨.c (str r), none⟩)])⟩ (lpBy ([])) 60 38 ([.c (str (a ++ c :: r)), .c (str [c])]) ([]))

theorem sct_1 (a r : List UInt8) (c : UInt8) : sct_X a r c [] = some ((AV.tu [(AV.c ((str (a)))),
 (AV.c ((str (r)))),
 (AV.c ((Value.bool true)))]), [(((a ++ c :: r).length : Nat) ≤ ((9223372036854775807 : Nat))),
 (([c] : List UInt8)) = ([[c].headD (0 : UInt8)]),
 ((Lib.indexByte (a ++ c :: r) ([c].headD (0 : UInt8)) : Int)) = ((↑a.length : Int)),
 (true) = true,
 (0 : Int) ≤ 0,
 (0 : Int) ≤ ↑a.length,
 (↑a.length : Int) ≤ ↑(a ++ c :: r).length,
 ((List.drop (Int.toNat (0 : Int)) (List.take a.length (a ++ c :: r)) : List UInt8)) = (a),
 (IntKind.i64.min : Int) ≤ ↑a.length + ↑(1 : Nat),
 (↑a.length + ↑(1 : Nat) : Int) ≤ IntKind.i64.max,
 (↑a.length + ↑(1 : Nat) : Int) = ↑(a.length + 1),
 (0 : Int) ≤ ↑(a.length + 1),
 (↑(a.length + 1) : Int) ≤ ↑(a ++ c :: r).length,
 (↑(a ++ c :: r).length : Int) ≤ ↑(a ++ c :: r).length,
 ((List.drop (a.length + (1 : Nat)) (List.take (a ++ c :: r).length (a ++ c :: r)) : List UInt8)) = (r)]) := by kernel_rfl

theorem sct_all (a r : List UInt8) (c : UInt8) (hl : (a ++ c :: r).length ≤ 9223372036854775807) (hi : Lib.indexByte (a ++ c :: r) c = (a.length : Nat)) (e1 : List.drop 0 (List.take a.length (a ++ c :: r)) = a) (e2 : List.drop (a.length + 1) (a ++ c :: r) = r) (hl2 : a.length + (r.length + 1) ≤ 9223372036854775807) : ∃ (h : Hints) (p : List Prop), outcome Tryd.prog 38 (aBody Tryd.prog clIdx h (lpBy ([])) 60 38 ([.c (str (a ++ c :: r)), .c (str [c])]) ([])) = some (.tu [.c (str a), .c (str r), .c (.bool true)], p) ∧ allP p := by
  have eR := sct_1 a r c
  refine ⟨_, _, eR.trans (congrArg (fun r => some (r, _)) ?_), ?_⟩
  · rfl
  · try clear eR
    simp only [allP, sb_mk, Int.toNat_natCast, i64_min, i64_max, List.length_append, List.length_cons, List.take_length, decide_eq_true_eq]
    repeat' apply And.intro
    all_goals first | exact True.intro | omega | exact hi | exact e1 | exact e2 | rfl | (rw [show a.length + (r.length + 1) = (a ++ c :: r).length by simp, List.take_length]; exact e2)

noncomputable def scu_X (l : List UInt8) (c : UInt8) (h_ : List (Nat × Bool)) := outcome Tryd.prog 38 (aBody Tryd.prog clIdx ⟨true, bs h_ ++ (bs [(12, false)] ++ [(10, ⟨.c (.int .i64 (-1)), none⟩)])⟩ (lpBy ([])) 60 38 ([.c (str l), .c (str [c])]) ([]))

theorem scu_1 (l : List UInt8) (c : UInt8) : scu_X l c [] = some ((AV.tu [(AV.c ((str (l)))),
 (AV.c ((str ([])))),
 (AV.c ((Value.bool false)))]), [((l.length : Nat) ≤ ((9223372036854775807 : Nat))),
 (([c] : List UInt8)) = ([[c].headD (0 : UInt8)]),
 ((Lib.indexByte l ([c].headD (0 : UInt8)) : Int)) = (-1),
 (false) = false]) := by kernel_rfl

theorem scu_all (l : List UInt8) (c : UInt8) (hl : l.length ≤ 9223372036854775807) (hi : Lib.indexByte l c = -1) : ∃ (h : Hints) (p : List Prop), outcome Tryd.prog 38 (aBody Tryd.prog clIdx h (lpBy ([])) 60 38 ([.c (str l), .c (str [c])]) ([])) = some (.tu [.c (str l), .c (str []), .c (.bool false)], p) ∧ allP p := by
  have eR := scu_1 l c
  refine ⟨_, _, eR.trans (congrArg (fun r => some (r, _)) ?_), ?_⟩
  · rfl
  · try clear eR
    simp only [allP, sb_mk]
    repeat' apply And.intro
    all_goals first | exact True.intro | exact hi | exact hl | rfl

theorem cut_ok : SpecOK Tryd.prog 38 cutSpec := by
  refine spec_of mixed clIdx_ok fun args r q hs hq => ?_
  unfold cutSpec at hs
  split at hs
  · rename_i l p
    simp only [Option.some.injEq, Prod.mk.injEq] at hs
    obtain ⟨rfl, rfl⟩ := hs
    obtain ⟨⟨⟨l⟩⟩, rfl⟩ : ∃ b : ByteArray, b = l := ⟨l, rfl⟩
    obtain ⟨⟨⟨p⟩⟩, rfl⟩ : ∃ b : ByteArray, b = p := ⟨p, rfl⟩
    simp only [sb_mk, allP, and_true] at hq ⊢
    obtain ⟨hl, hp1⟩ := hq
    generalize p.headD 0 = c at hp1 ⊢
    subst hp1
    obtain ⟨h1, h2⟩ := cutF_idx c l
    unfold cutT
    cases hb : (cutF c l).2.2 with
    | true =>
      obtain ⟨e1, e2⟩ := h1 hb
      generalize (cutF c l).1 = a at *
      generalize (cutF c l).2.1 = r at *
      subst e2
      have hl2 := hl
      simp only [List.length_append, List.length_cons] at hl2
      obtain ⟨hh, q, e, hp⟩ := sct_all a r c hl e1 (by simp) (by rw [show a ++ c :: r = (a ++ [c]) ++ r by simp, show a.length + 1 = (a ++ [c]).length by simp, List.drop_left]) hl2
      exact ⟨_, _, _, _, lpBy_nil, e, hp⟩
    | false =>
      obtain ⟨e1, e2, e3⟩ := h2 hb
      rw [e2, e3]
      obtain ⟨hh, q, e, hp⟩ := scu_all l c hl e1
      exact ⟨_, _, _, _, lpBy_nil, e, hp⟩
  · simp at hs

end Go.Proofs.YtfnappdgiomiiaaDoor
