/- Beginnings and ends of texts: contracts of the library's own. -/
import Derived.Test.YtigglgobiofalaaBas
namespace Go.Proofs.Ytigglgobiofalaa
open Go.RowKit
set_option linter.unusedVariables false
set_option linter.unusedSimpArgs false

/-- Does l begin with p? -/
def preB (p l : List UInt8) : Bool := decide (p.length ≤ l.length) && (l.take p.length == p)

theorem preB_iff {p l : List UInt8} : preB p l = true ↔ ∃ r, l = p ++ r := by
  unfold preB
  rw [Bool.and_eq_true, decide_eq_true_eq, beq_iff_eq]
  constructor
  · rintro ⟨_, h⟩
    exact ⟨l.drop p.length, by conv => lhs; rw [← List.take_append_drop p.length l, h]⟩
  · rintro ⟨r, rfl⟩
    simp
theorem preB_one {c d : UInt8} {r : List UInt8} : preB [c] (d :: r) = decide (d = c) := by
  have h := preB_iff (p := [c]) (l := d :: r)
  by_cases hd : d = c
  · subst hd
    rw [decide_eq_true rfl]
    exact h.2 ⟨r, rfl⟩
  · rw [decide_eq_false hd]
    cases hb : preB [c] (d :: r) with
    | false => rfl
    | true =>
      obtain ⟨q, hq⟩ := h.1 hb
      exact absurd (List.cons.inj hq).1 hd
theorem preB_nil {c : UInt8} {p : List UInt8} : preB (c :: p) [] = false := by
  unfold preB
  rw [decide_eq_false (by simp)]
  rfl

def preSpec : Spec
  | [.c (.string s), .c (.string p)] => some (.c (.bool (preB (sb p) (sb s))), [(sb s).length ≤ 9223372036854775807])
  | _ => none

theorem spr_1 (l z : List UInt8) : outcome Try.prog 29 (aBody Try.prog cl0 ⟨true, bs [(9, true)] ++ ([])⟩ (lpBy ([])) 60 29 ([.c (str l), .c (str z)]) ([])) = some ((AV.c ((Value.bool (List.drop (Int.toNat (0 : Int)) (List.take z.length l) == z)))), [((decide ((↑l.length : Int) ≥ (↑z.length : Int)) : Bool)) = (true),
 (((0 : Int) : Int) ≤ ((0 : Int))),
 (((0 : Int) : Int) ≤ ((↑z.length : Int))),
 (((↑z.length : Int) : Int) ≤ ((↑l.length : Int)))]) := by kernel_rfl

theorem spr_2 (l z : List UInt8) : outcome Try.prog 29 (aBody Try.prog cl0 ⟨true, bs [(9, false)] ++ ([])⟩ (lpBy ([])) 60 29 ([.c (str l), .c (str z)]) ([])) = some ((AV.c ((Value.bool false))), [((decide ((↑l.length : Int) ≥ (↑z.length : Int)) : Bool)) = (false)]) := by kernel_rfl

theorem spr_all (l z : List UInt8) (hl : l.length ≤ 9223372036854775807) : ∃ (h : Hints) (p : List Prop), outcome Try.prog 29 (aBody Try.prog cl0 h (lpBy ([])) 60 29 ([.c (str l), .c (str z)]) ([])) = some (.c (.bool (preB z l)), p) ∧ allP p := by
  cases hc9 : (decide ((↑l.length : Int) ≥ (↑z.length : Int)) : Bool) with
  | true =>
    have eR := spr_1 l z
    refine ⟨_, _, eR.trans (congrArg (fun r => some (r, _)) ?_), ?_⟩
    · first
        | (unfold preB; rw [decide_eq_false (by simpa using hc9)]; rfl)
        | (unfold preB; rw [decide_eq_true (by simpa using hc9)]; rfl)
    · try simp only [decide_eq_true_eq, decide_eq_false_iff_not] at hc9
      simp only [allP, sb_mk, decide_eq_true_eq, decide_eq_false_iff_not]
      repeat' apply And.intro
      all_goals first | exact True.intro | omega
  | false =>
    have eR := spr_2 l z
    refine ⟨_, _, eR.trans (congrArg (fun r => some (r, _)) ?_), ?_⟩
    · first
        | (unfold preB; rw [decide_eq_false (by simpa using hc9)]; rfl)
        | (unfold preB; rw [decide_eq_true (by simpa using hc9)]; rfl)
    · try simp only [decide_eq_true_eq, decide_eq_false_iff_not] at hc9
      simp only [allP, sb_mk, decide_eq_true_eq, decide_eq_false_iff_not]
      repeat' apply And.intro
      all_goals first | exact True.intro | omega

theorem pre_ok : SpecOK Try.prog 29 preSpec := by
  refine spec_of mixed cl0_ok fun args r q hs hq => ?_
  unfold preSpec at hs
  split at hs
  · rename_i l p
    simp only [Option.some.injEq, Prod.mk.injEq] at hs
    obtain ⟨rfl, rfl⟩ := hs
    obtain ⟨⟨⟨l⟩⟩, rfl⟩ : ∃ b : ByteArray, b = l := ⟨l, rfl⟩
    obtain ⟨⟨⟨p⟩⟩, rfl⟩ : ∃ b : ByteArray, b = p := ⟨p, rfl⟩
    simp only [sb_mk, allP, and_true] at hq ⊢
    obtain ⟨hh, q, e, hp⟩ := spr_all l p hq
    exact ⟨_, _, _, _, lpBy_nil, e, hp⟩
  · simp at hs

noncomputable def clPre : CallT := aCall Try.prog (sgBy [(29, preSpec)]) 500 8
theorem clPre_ok : CallOK Try.prog clPre := aCall_ok mixed (sgBy_cons pre_ok sgBy_nil) 500 8

def cutPF (p l : List UInt8) : List UInt8 := if preB p l = true then l.drop p.length else l
def cutPT (p l : List UInt8) : AV := .tu [.c (str (cutPF p l)), .c (.bool (preB p l))]
def cutPreSpec : Spec
  | [.c (.string s), .c (.string p)] => some (cutPT (sb p) (sb s), [(sb s).length ≤ 9223372036854775807])
  | _ => none

theorem scp_1 (l z : List UInt8) (x : Bool) : outcome Try.prog 27 (aBody Try.prog clPre ⟨true, bs [(9, true)] ++ ([(8, ⟨.c (.bool x), none⟩)])⟩ (lpBy ([])) 60 27 ([.c (str l), .c (str z)]) ([])) = some ((AV.tu [(AV.c ((str (l)))),
 (AV.c ((Value.bool false)))]), [((l.length : Nat) ≤ ((9223372036854775807 : Nat))),
 ((preB z l : Bool)) = (x),
 ((!x : Bool)) = (true)]) := by kernel_rfl

theorem scp_2 (l z : List UInt8) (x : Bool) : outcome Try.prog 27 (aBody Try.prog clPre ⟨true, bs [(9, false)] ++ ([(8, ⟨.c (.bool x), none⟩)])⟩ (lpBy ([])) 60 27 ([.c (str l), .c (str z)]) ([])) = some ((AV.tu [(AV.c ((str (List.drop z.length (List.take l.length l))))),
 (AV.c ((Value.bool true)))]), [((l.length : Nat) ≤ ((9223372036854775807 : Nat))),
 ((preB z l : Bool)) = (x),
 ((!x : Bool)) = (false),
 (((0 : Int) : Int) ≤ ((↑z.length : Int))),
 (((↑z.length : Int) : Int) ≤ ((↑l.length : Int))),
 (((↑l.length : Int) : Int) ≤ ((↑l.length : Int)))]) := by kernel_rfl

theorem scp_all (l z : List UInt8) (x : Bool) (hl : l.length ≤ 9223372036854775807) (hx : preB z l = x) (hle : x = true → z.length ≤ l.length) : ∃ (h : Hints) (p : List Prop), outcome Try.prog 27 (aBody Try.prog clPre h (lpBy ([])) 60 27 ([.c (str l), .c (str z)]) ([])) = some (cutPT z l, p) ∧ allP p := by
  cases hc9 : (!x : Bool) with
  | true =>
    have eR := scp_1 l z x
    refine ⟨_, _, eR.trans (congrArg (fun r => some (r, _)) ?_), ?_⟩
    · first
        | (rw [show x = true by simpa using hc9] at hx; unfold cutPT cutPF; rw [hx, if_pos rfl]; simp only [sb_mk, List.take_length]; try rfl)
        | (rw [show x = false by simpa using hc9] at hx; unfold cutPT cutPF; rw [hx, if_neg (by simp)])
    · simp only [allP, sb_mk, List.take_length]
      repeat' apply And.intro
      all_goals first | exact True.intro | omega | exact hx | exact hx.trans (by simpa using hc9) | (have := hle (by simpa using hc9); omega)
  | false =>
    have eR := scp_2 l z x
    refine ⟨_, _, eR.trans (congrArg (fun r => some (r, _)) ?_), ?_⟩
    · first
        | (rw [show x = true by simpa using hc9] at hx; unfold cutPT cutPF; rw [hx, if_pos rfl]; simp only [sb_mk, List.take_length]; try rfl)
        | (rw [show x = false by simpa using hc9] at hx; unfold cutPT cutPF; rw [hx, if_neg (by simp)])
    · simp only [allP, sb_mk, List.take_length]
      repeat' apply And.intro
      all_goals first | exact True.intro | omega | exact hx | exact hx.trans (by simpa using hc9) | (have := hle (by simpa using hc9); omega)

theorem cutPre_ok : SpecOK Try.prog 27 cutPreSpec := by
  refine spec_of mixed clPre_ok fun args r q hs hq => ?_
  unfold cutPreSpec at hs
  split at hs
  · rename_i l p
    simp only [Option.some.injEq, Prod.mk.injEq] at hs
    obtain ⟨rfl, rfl⟩ := hs
    obtain ⟨⟨⟨l⟩⟩, rfl⟩ : ∃ b : ByteArray, b = l := ⟨l, rfl⟩
    obtain ⟨⟨⟨p⟩⟩, rfl⟩ : ∃ b : ByteArray, b = p := ⟨p, rfl⟩
    simp only [sb_mk, allP, and_true] at hq ⊢
    obtain ⟨hh, q, e, hp⟩ := scp_all l p _ hq rfl (fun h => by unfold preB at h; simp only [Bool.and_eq_true, decide_eq_true_eq] at h; exact h.1)
    exact ⟨_, _, _, _, lpBy_nil, e, hp⟩
  · simp at hs

theorem cutPF_le (p l : List UInt8) : (cutPF p l).length ≤ l.length := by
  unfold cutPF
  split
  · rw [List.length_drop]; omega
  · exact Nat.le_refl _

def trimPF (p l : List UInt8) : List UInt8 := if preB p l = true then l.drop p.length else l
def trimPreSpec : Spec
  | [.c (.string s), .c (.string p)] => some (.c (str (trimPF (sb p) (sb s))), [(sb s).length ≤ 9223372036854775807])
  | _ => none

theorem stp_1 (l z : List UInt8) (x : Bool) : outcome Try.prog 30 (aBody Try.prog clPre ⟨true, bs [(7, true)] ++ ([(7, ⟨.c (.bool x), none⟩)])⟩ (lpBy ([])) 60 30 ([.c (str l), .c (str z)]) ([])) = some ((AV.c ((str (List.drop z.length (List.take l.length l))))), [((l.length : Nat) ≤ ((9223372036854775807 : Nat))),
 ((preB z l : Bool)) = (true),
 (((0 : Int) : Int) ≤ ((↑z.length : Int))),
 (((↑z.length : Int) : Int) ≤ ((↑l.length : Int))),
 (((↑l.length : Int) : Int) ≤ ((↑l.length : Int)))]) := by kernel_rfl

theorem stp_2 (l z : List UInt8) (x : Bool) : outcome Try.prog 30 (aBody Try.prog clPre ⟨true, bs [(7, false)] ++ ([(7, ⟨.c (.bool x), none⟩)])⟩ (lpBy ([])) 60 30 ([.c (str l), .c (str z)]) ([])) = some ((AV.c ((str (l)))), [((l.length : Nat) ≤ ((9223372036854775807 : Nat))),
 ((preB z l : Bool)) = (false)]) := by kernel_rfl

theorem stp_all (l z : List UInt8) (x : Bool) (hl : l.length ≤ 9223372036854775807) (hx : preB z l = x) (hle : x = true → z.length ≤ l.length) : ∃ (h : Hints) (p : List Prop), outcome Try.prog 30 (aBody Try.prog clPre h (lpBy ([])) 60 30 ([.c (str l), .c (str z)]) ([])) = some (.c (str (trimPF z l)), p) ∧ allP p := by
  cases hc7 : (x : Bool) with
  | true =>
    have eR := stp_1 l z x
    refine ⟨_, _, eR.trans (congrArg (fun r => some (r, _)) ?_), ?_⟩
    · first
        | (rw [show x = true by simpa using hc7] at hx; unfold trimPF; rw [hx, if_pos rfl]; simp only [sb_mk, List.take_length]; try rfl)
        | (rw [show x = false by simpa using hc7] at hx; unfold trimPF; rw [hx, if_neg (by simp)])
    · simp only [allP, sb_mk, List.take_length]
      repeat' apply And.intro
      all_goals first | exact True.intro | omega | exact hx | exact hx.trans (by simpa using hc7) | (have := hle (by simpa using hc7); omega)
  | false =>
    have eR := stp_2 l z x
    refine ⟨_, _, eR.trans (congrArg (fun r => some (r, _)) ?_), ?_⟩
    · first
        | (rw [show x = true by simpa using hc7] at hx; unfold trimPF; rw [hx, if_pos rfl]; simp only [sb_mk, List.take_length]; try rfl)
        | (rw [show x = false by simpa using hc7] at hx; unfold trimPF; rw [hx, if_neg (by simp)])
    · simp only [allP, sb_mk, List.take_length]
      repeat' apply And.intro
      all_goals first | exact True.intro | omega | exact hx | exact hx.trans (by simpa using hc7) | (have := hle (by simpa using hc7); omega)

theorem trimPre_ok : SpecOK Try.prog 30 trimPreSpec := by
  refine spec_of mixed clPre_ok fun args r q hs hq => ?_
  unfold trimPreSpec at hs
  split at hs
  · rename_i l p
    simp only [Option.some.injEq, Prod.mk.injEq] at hs
    obtain ⟨rfl, rfl⟩ := hs
    obtain ⟨⟨⟨l⟩⟩, rfl⟩ : ∃ b : ByteArray, b = l := ⟨l, rfl⟩
    obtain ⟨⟨⟨p⟩⟩, rfl⟩ : ∃ b : ByteArray, b = p := ⟨p, rfl⟩
    simp only [sb_mk, allP, and_true] at hq ⊢
    obtain ⟨hh, q, e, hp⟩ := stp_all l p _ hq rfl (fun h => by unfold preB at h; simp only [Bool.and_eq_true, decide_eq_true_eq] at h; exact h.1)
    exact ⟨_, _, _, _, lpBy_nil, e, hp⟩
  · simp at hs

end Go.Proofs.Ytigglgobiofalaa
