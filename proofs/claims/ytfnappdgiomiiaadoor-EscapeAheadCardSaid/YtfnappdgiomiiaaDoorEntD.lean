/- What is decoded: the program's own. -/
import Derived.Test.YtfnappdgiomiiaaDoorEntC
import Derived.Test.YtfnappdgiomiiaaDoorBldB
namespace Go.Proofs.YtfnappdgiomiiaaDoor
open Go.RowKit Ent
set_option linter.unusedVariables false
set_option linter.unusedSimpArgs false

noncomputable def clDe : CallT := aCallH Tryd.prog (sgBy [(38, cutSpec), (30, refSpec)]) (hsgBy [(20, wsSpec), (18, groSpec), (22, bstSpec)]) 500 8

theorem clDe_ok : CallOK Tryd.prog clDe := aCallH_ok mixed (sgBy_cons cut_ok (sgBy_cons ref_ok sgBy_nil)) (hsgBy_cons ws_ok (hsgBy_cons gro_ok (hsgBy_cons bst_ok hsgBy_nil))) 500 8

def deG (l : List UInt8) (n : Nat) (L : List AV) : St := ⟨frame 33 [(0, .c (str l)), (3, .pt 0 0)], [some ⟨32, true, [.pt 0 0, .sl 1 0 n]⟩, some ⟨5, false, L⟩]⟩
def deS (l out : List UInt8) : St := deG l out.length (byts out)
def deR (out : List UInt8) : St := ⟨frame 33 [(2, .c (str out))], []⟩

noncomputable def der_X (l out a r x q z : List UInt8) (n : Nat) (b : Bool) (h_ : List (Nat × Bool)) (fi_ : Fi) := roundOut (fi_) (aCode Tryd.prog clDe ⟨true, bs h_ ++ ([(15, ⟨.c (str a), none⟩), (16, ⟨.c (str r), none⟩), (17, ⟨.c (.bool b), none⟩), (26, ⟨.c (str x), none⟩), (27, ⟨.c (.int .i64 n), none⟩), (32, ⟨.c (str q), none⟩), (22, ⟨.c (str z), none⟩)])⟩ (lpBy ([])) 60 (lbody Tryd.prog 17 3) (deS l out))

theorem der_1 (l out a r x q z : List UInt8) (n : Nat) (b : Bool) : der_X l out a r x q z n b [(21, true)] ⟨[], [2], []⟩ = some (.ret, deR z, [((l.length : Nat) ≤ ((9223372036854775807 : Nat))),
 (([(38 : UInt8)] : List UInt8)) = ([[(38 : UInt8)].headD (0 : UInt8)]),
 (((cutF ((sb { data := #[(38 : UInt8)] }).headD (0 : UInt8)) (sb { data := { toList := l } })).fst : List UInt8)) = (a),
 (((cutF ((sb { data := #[(38 : UInt8)] }).headD (0 : UInt8)) (sb { data := { toList := l } })).snd.fst : List UInt8)) = (r),
 (((cutF ((sb { data := #[(38 : UInt8)] }).headD (0 : UInt8)) (sb { data := { toList := l } })).snd.snd : Bool)) = (b),
 ((out.length : Nat) ≤ ((byts out).length)),
 ((out.length + a.length : Nat) ≤ ((140737488355328 : Nat))),
 (!b) = true,
 (((0 : Nat) : Nat) < (out.length + a.length)),
 ((out.length + a.length : Nat) ≤ ((List.take out.length (byts out) ++ byts a).length)),
 bytesOK (List.take (out.length + a.length) (List.take out.length (byts out) ++ byts a)),
 ((out.length + a.length : Nat) ≤ ((4611686018427387904 : Nat))),
 ((unbyts (List.take (out.length + a.length) (List.take out.length (byts out) ++ byts a)) : List UInt8)) = (z)]) := by kernel_rfl

theorem der_2 (l out a r x q z : List UInt8) (n : Nat) (b : Bool) : der_X l out a r x q z n b [(21, false)] (⟨[], [0, 3], [0, 3]⟩) = some (.normal, deG q (out.length + a.length + x.length) (List.take (out.length + a.length) (List.take out.length (byts out) ++ byts a) ++ byts x), [((l.length : Nat) ≤ ((9223372036854775807 : Nat))),
 (([(38 : UInt8)] : List UInt8)) = ([[(38 : UInt8)].headD (0 : UInt8)]),
 (((cutF ((sb { data := #[(38 : UInt8)] }).headD (0 : UInt8)) (sb { data := { toList := l } })).fst : List UInt8)) = (a),
 (((cutF ((sb { data := #[(38 : UInt8)] }).headD (0 : UInt8)) (sb { data := { toList := l } })).snd.fst : List UInt8)) = (r),
 (((cutF ((sb { data := #[(38 : UInt8)] }).headD (0 : UInt8)) (sb { data := { toList := l } })).snd.snd : Bool)) = (b),
 ((out.length : Nat) ≤ ((byts out).length)),
 ((out.length + a.length : Nat) ≤ ((140737488355328 : Nat))),
 (!b) = false,
 ((r.length : Nat) ≤ ((9223372036854775790 : Nat))),
 (((refF (sb { data := { toList := r } })).fst : List UInt8)) = (x),
 (((↑(refF (sb { data := { toList := r } })).snd : Int) : Int)) = ((↑n : Int)),
 ((out.length + a.length : Nat) ≤ ((List.take out.length (byts out) ++ byts a).length)),
 ((out.length + a.length + x.length : Nat) ≤ ((140737488355328 : Nat))),
 (0 : Int) ≤ ↑n,
 (↑n : Int) ≤ ↑r.length,
 (↑r.length : Int) ≤ ↑r.length,
 ((List.drop n (List.take r.length r) : List UInt8)) = (q)]) := by kernel_rfl

theorem deG_add (q out a x : List UInt8) : deG q (out.length + a.length + x.length) (List.take (out.length + a.length) (List.take out.length (byts out) ++ byts a) ++ byts x) = deS q (out ++ (a ++ x)) := by
  unfold deS
  rw [byts_put, ← List.length_append, byts_put, List.append_assoc, ← List.length_append, List.append_assoc]

theorem cutF_no (c : UInt8) : ∀ (l : List UInt8), ∀ x ∈ (cutF c l).1, x ≠ c
  | [], x, h => by simp [cutF] at h
  | y :: r, x, h => by
    unfold cutF at h
    by_cases hy : y = c
    · rw [if_pos hy] at h; simp at h
    · rw [if_neg hy] at h
      rcases List.mem_cons.1 h with rfl | h
      · exact hy
      · exact cutF_no c r x h

theorem ent_cut (l : List UInt8) : entF l = (cutF 38 l).1 ++ if (cutF 38 l).2.2 = true then (refF (cutF 38 l).2.1).1 ++ entF ((cutF 38 l).2.1.drop (refF (cutF 38 l).2.1).2) else [] := by
  obtain ⟨h1, h2⟩ := cutF_idx 38 l
  have hn := cutF_no 38 l
  cases h : (cutF 38 l).2.2 with
  | true =>
    obtain ⟨_, e⟩ := h1 h
    rw [if_pos rfl, ← ent_amp, ← ent_app _ _ hn, ← e]
  | false =>
    obtain ⟨_, e1, e2⟩ := h2 h
    rw [if_neg (by simp), e1, List.append_nil]
    rw [e1] at hn
    exact ent_low l hn

def DeI (l0 : List UInt8) (x : List UInt8 × List UInt8) : Prop := x.2 ++ entF x.1 = entF l0 ∧ x.2.length + x.1.length ≤ l0.length

theorem de_walk (l0 : List UInt8) (h0 : 0 < l0.length) (hl : l0.length ≤ 1000000000) : Tri Ext0 Tryd.prog (.loop (lbody Tryd.prog 17 3)) (deS l0 []) .ret (deR (entF l0)) := by
  refine loop_inv mixed clDe_ok (fun x : List UInt8 × List UInt8 => deS x.1 x.2) (DeI l0) (fun x => x.1.length) (fun x hx => ?_) (l0, []) ⟨rfl, by simp⟩
  obtain ⟨l, out⟩ := x
  obtain ⟨e1, e2⟩ := hx
  simp only at e1 e2 ⊢
  have hc := ent_cut l
  have hk := cutF_len 38 l
  have hr := ref_len (cutF 38 l).2.1
  generalize ha : (cutF 38 l).1 = a at *
  generalize hrr : (cutF 38 l).2.1 = r at *
  cases hb : (cutF 38 l).2.2 with
  | false =>
    rw [hb, if_neg (by simp), List.append_nil] at hc
    rw [hc] at e1
    refine .inr ⟨by simp, ?_⟩
    rw [← e1]
    have hp : 0 < (out ++ a).length := by rw [e1]; exact ent_pos h0
    have hll : (out ++ a).length ≤ 1000000000 := by rw [e1]; exact Nat.le_trans (ent_len l0) hl
    refine ⟨_, _, _, _, _, lpBy_nil, by decide, der_1 l out a r [] [] (out ++ a) 0 false, ?_⟩
    have hu : unbyts (List.take (out.length + a.length) (List.take out.length (byts out) ++ byts a)) = out ++ a := by
      rw [byts_put, ← List.length_append, byts_tk, unbyts_byts]
    have hok : bytesOK (List.take (out.length + a.length) (List.take out.length (byts out) ++ byts a)) := by
      rw [byts_put, ← List.length_append, byts_tk]; exact bytesOK_byts _
    rw [List.length_append] at hp hll
    simp only [allP, and_true, sb_mk, List.headD_cons, Bool.not_false, List.length_append, List.length_take, byts_length]
    repeat' apply And.intro
    all_goals first | exact True.intro | omega | exact ha | exact hrr | exact hb | exact hu | exact hok | rfl
  | true =>
    rw [hb, if_pos rfl, ← List.append_assoc] at hc
    have hk2 := hk.2 hb
    refine .inl ⟨(r.drop (refF r).2, out ++ (a ++ (refF r).1)), ⟨?_, ?_⟩, ?_, ?_⟩
    · simp only
      rw [← e1, hc]
      simp
    · simp only [List.length_append, List.length_drop]
      omega
    · simp only [List.length_drop]
      omega
    · simp only
      rw [← deG_add]
      refine ⟨_, _, _, _, _, lpBy_nil, by decide, der_2 l out a r (refF r).1 (r.drop (refF r).2) [] (refF r).2 true, ?_⟩
      simp only [allP, and_true, sb_mk, List.headD_cons, Bool.not_true, List.length_append, List.length_take, byts_length, Int.toNat_natCast, List.take_length]
      repeat' apply And.intro
      all_goals first | exact True.intro | omega | exact ha | exact hrr | exact hb | rfl

noncomputable def deLp (l : List UInt8) : List (Nat × Lp) := [(3, ⟨lbody Tryd.prog 17 3, ⟨[], [0, 3], [0, 1]⟩, deS l [], .ret, deR (entF l)⟩)]

noncomputable def de_X (l : List UInt8) (h_ : List (Nat × Bool)) := outcome Tryd.prog 17 (aBody Tryd.prog clDe ⟨true, bs h_ ++ ([])⟩ (lpBy (deLp l)) 60 17 ([.c (str l)]) ([]))

theorem de_1 (l : List UInt8) : de_X l [] = some ((AV.c ((str (entF l)))), [(0 : Int) < ↑l.length,
 (↑l.length : Int) ≤ 281474976710656,
 ((lbody Tryd.prog (17 : FuncId) (3 : Nat) : Go.Code)) = (lbody Tryd.prog (17 : FuncId) (3 : Nat)),
 ((deS l [] : Go.Proofs.YtfnappdgiomiiaaDoor.St)) = (deS l [])]) := by kernel_rfl

theorem de_all (l : List UInt8) (h0 : 0 < l.length) (h1 : l.length ≤ 1000000000) : ∃ (h : Hints) (p : List Prop), outcome Tryd.prog 17 (aBody Tryd.prog clDe h (lpBy (deLp l)) 60 17 ([.c (str l)]) ([])) = some (.c (str (entF l)), p) ∧ allP p := by
  refine ⟨_, _, (de_1 l).trans (congrArg (fun r => some (r, _)) (by first | rfl | (simp (disch := omega) only [std]; done))), ?_⟩
  all_goals try simp (disch := omega) only [std]
  all_goals repeat' apply And.intro
  all_goals first | exact True.intro | omega | with_reducible rfl | with_reducible assumption | rfl

/-! Of nothing. -/
noncomputable def clDz : CallT := aCallH Tryd.prog (sgBy [(38, cutSpec)]) (hsgBy [(20, ws0Spec), (18, gro0Spec), (22, bstSpec)]) 500 8

theorem clDz_ok : CallOK Tryd.prog clDz := aCallH_ok mixed (sgBy_cons cut_ok sgBy_nil) (hsgBy_cons ws0_ok (hsgBy_cons gro0_ok (hsgBy_cons bst_ok hsgBy_nil))) 500 8

def dzS : St := ⟨frame 33 [(0, .c (str [])), (3, .pt 0 0)], [some ⟨32, true, [.pt 0 0, .c (.slice none 0 0)]⟩]⟩

noncomputable def dzr_X  (h_ : List (Nat × Bool)) := roundOut (⟨[], [2], []⟩) (aCode Tryd.prog clDz ⟨true, bs h_ ++ ([])⟩ (lpBy ([])) 60 (lbody Tryd.prog 17 3) (dzS))

theorem dzr_1  : dzr_X  [] = some (.ret, deR [], [(((0 : Nat) : Nat) ≤ ((9223372036854775807 : Nat))),
 (([(38 : UInt8)] : List UInt8)) = ([[(38 : UInt8)].headD (0 : UInt8)]),
 (([] : List UInt8)) = ([])]) := by kernel_rfl

theorem dz_walk : Tri Ext0 Tryd.prog (.loop (lbody Tryd.prog 17 3)) dzS .ret (deR []) :=
  loop_ok mixed clDz_ok (α := Unit) (fun _ => dzS) (fun _ => 0) (fun _ => .inr ⟨by simp, _, _, _, _, _, lpBy_nil, by decide, dzr_1, by
    simp only [allP]
    repeat' apply And.intro
    all_goals first | exact True.intro | decide | rfl⟩) ()

noncomputable def dzLp : List (Nat × Lp) := [(3, ⟨lbody Tryd.prog 17 3, ⟨[], [0, 3], [0]⟩, dzS, .ret, deR []⟩)]

noncomputable def dz_X  (h_ : List (Nat × Bool)) := outcome Tryd.prog 17 (aBody Tryd.prog clDz ⟨true, bs h_ ++ ([])⟩ (lpBy (dzLp)) 60 17 ([.c (str [])]) ([]))

theorem dz_1  : dz_X  [] = some ((AV.c ((str ([])))), [((lbody Tryd.prog (17 : FuncId) (3 : Nat) : Go.Code)) = (lbody Tryd.prog (17 : FuncId) (3 : Nat)),
 ((dzS : Go.Proofs.YtfnappdgiomiiaaDoor.St)) = (dzS)]) := by kernel_rfl

theorem dz_all   : ∃ (h : Hints) (p : List Prop), outcome Tryd.prog 17 (aBody Tryd.prog clDz h (lpBy (dzLp)) 60 17 ([.c (str [])]) ([])) = some (.c (str (entF [])), p) ∧ allP p := by
  have eR := dz_1 
  refine ⟨_, _, eR.trans (congrArg (fun r => some (r, _)) ?_), ?_⟩
  · rfl
  · try simp only [dz] at *
    try simp (disch := omega) only [std, bytesOK_cons, bytesOK_nil]
    repeat' apply And.intro
    all_goals first | exact True.intro | omega | assumption | rfl | exact avEq_refl _

def entSpec : Spec
  | [.c (.string s)] => some (.c (str (entF (sb s))), [(sb s).length ≤ 1000000000])
  | _ => none

def entOf (l : List UInt8) : Spec
  | [.c (.string s)] => if sb s = l then some (.c (str (entF l)), []) else none
  | _ => none

theorem entOf_ok (l : List UInt8) (hl : l.length ≤ 1000000000) : SpecOK Tryd.prog 17 (entOf l) := by
  by_cases h : 0 < l.length
  · refine spec_of mixed clDe_ok fun args r q hs hq => ?_
    unfold entOf at hs
    split at hs
    · rename_i s
      obtain ⟨⟨⟨k⟩⟩, rfl⟩ : ∃ b : ByteArray, b = s := ⟨s, rfl⟩
      split at hs
      · rename_i ha
        have ha : k = l := ha
        subst ha
        simp only [Option.some.injEq, Prod.mk.injEq] at hs
        obtain ⟨rfl, rfl⟩ := hs
        obtain ⟨hh, p, e, hp⟩ := de_all k h hl
        exact ⟨_, _, _, _, lpBy_cons lpBy_nil (by simp) (de_walk k h hl), e, hp⟩
      · simp at hs
    · simp at hs
  · have hl0 : l = [] := List.length_eq_zero_iff.1 (by omega)
    subst hl0
    refine spec_of mixed clDz_ok fun args r q hs hq => ?_
    unfold entOf at hs
    split at hs
    · rename_i s
      obtain ⟨⟨⟨k⟩⟩, rfl⟩ : ∃ b : ByteArray, b = s := ⟨s, rfl⟩
      split at hs
      · rename_i ha
        have ha : k = [] := ha
        subst ha
        simp only [Option.some.injEq, Prod.mk.injEq] at hs
        obtain ⟨rfl, rfl⟩ := hs
        obtain ⟨hh, p, e, hp⟩ := dz_all
        exact ⟨_, _, _, _, lpBy_cons lpBy_nil (by simp) dz_walk, e, hp⟩
      · simp at hs
    · simp at hs

theorem ent_ok : SpecOK Tryd.prog 17 entSpec := by
  refine spec_by fun args r q hs hq => ?_
  unfold entSpec at hs
  split at hs
  · rename_i s
    simp only [Option.some.injEq, Prod.mk.injEq] at hs
    obtain ⟨rfl, rfl⟩ := hs
    exact ⟨_, entOf_ok (sb s) hq.1, [], if_pos rfl, trivial⟩
  · simp at hs

end Go.Proofs.YtfnappdgiomiiaaDoor
