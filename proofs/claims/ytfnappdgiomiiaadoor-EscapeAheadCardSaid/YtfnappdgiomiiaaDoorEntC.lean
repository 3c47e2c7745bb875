/- References by numbers: the program's own, and the document's. -/
import Derived.Test.YtfnappdgiomiiaaDoorEntB
namespace Go.Proofs.YtfnappdgiomiiaaDoor
open Go.RowKit Ent
set_option linter.unusedVariables false
set_option linter.unusedSimpArgs false

noncomputable def clWo : CallT := aCall Tryd.prog (sgBy [(61, digitSpec), (44, digitSpec)]) 500 8

theorem clWo_ok : CallOK Tryd.prog clWo := aCall_ok mixed (sgBy_cons digit_ok (sgBy_cons rdigit_ok sgBy_nil)) 500 8

theorem dg_bd (b : Int) (c : UInt8) : -1 ≤ dg b c ∧ dg b c ≤ 35 := by
  unfold dg digitI worthI
  repeat' split
  all_goals omega

/-- The worth so far, and how it goes on. -/
def wkS (b : Int) (l : List UInt8) (n : Int) (i : Nat) : St := ⟨frame 28 [(0, .c (str l)), (1, .c (.int .i64 b)), (4, .c (.int .i64 n)), (5, .c (.int .i64 i))], []⟩

noncomputable def wkr_X (b n d m : Int) (l : List UInt8) (i : Nat) (h_ : List (Nat × Bool)) := roundOut (⟨[], [0, 1, 4, 5], []⟩) (aCode Tryd.prog clWo ⟨true, bs h_ ++ ([(15, ⟨.c (.int .i64 d), none⟩), (23, ⟨.c (.int .i64 m), none⟩)])⟩ (lpBy ([])) 60 (lbody Tryd.prog 50 1) (wkS b l n i))

theorem wkr_1 (b n d m : Int) (l : List UInt8) (i : Nat) : wkr_X b n d m l i [(10, true), (17, true)] = some (.exit 0, wkS b l n i, [decide ((↑i : Int) < ↑l.length) = true,
 (0 : Int) ≤ ↑i,
 (↑i : Int) < ↑l.length,
 (((0 : Int) : Int) ≤ ((↑(l.getD i 0).toNat : Int))),
 (((↑(l.getD i 0).toNat : Int) : Int) < ((256 : Int))),
 ((digitI (↑(l.getD i 0).toNat : Int) b : Int)) = (d),
 decide ((d : Int) < 0) = true]) := by kernel_rfl

theorem wkr_2 (b n d m : Int) (l : List UInt8) (i : Nat) : wkr_X b n d m l i [(10, true), (17, false)] = some (.normal, wkS b l m (i + 1), [decide ((↑i : Int) < ↑l.length) = true,
 (0 : Int) ≤ ↑i,
 (↑i : Int) < ↑l.length,
 (((0 : Int) : Int) ≤ ((↑(l.getD i 0).toNat : Int))),
 (((↑(l.getD i 0).toNat : Int) : Int) < ((256 : Int))),
 ((digitI (↑(l.getD i 0).toNat : Int) b : Int)) = (d),
 decide ((d : Int) < 0) = false,
 (IntKind.i64.min : Int) ≤ b * n,
 (b * n : Int) ≤ IntKind.i64.max,
 (IntKind.i64.min : Int) ≤ b * n + d,
 (b * n + d : Int) ≤ IntKind.i64.max,
 ((if (1114112 : Int) < b * n + d then (1114112 : Int) else b * n + d : Int)) = (m),
 (IntKind.i64.min : Int) ≤ ↑i + 1,
 (↑i + 1 : Int) ≤ IntKind.i64.max]) := by kernel_rfl

theorem wkr_3 (b n d m : Int) (l : List UInt8) (i : Nat) : wkr_X b n d m l i [(10, false)] = some (.exit 0, wkS b l n i, [decide ((↑i : Int) < ↑l.length) = false]) := by kernel_rfl

theorem runW_cons (b : Int) (c : UInt8) (r : List UInt8) (n : Int) : runW b (c :: r) n = if dg b c < 0 then (n, 0) else ((runW b r (min (b * n + dg b c) 1114112)).1, (runW b r (min (b * n + dg b c) 1114112)).2 + 1) := rfl

def WkI (b : Int) (l : List UInt8) (x : Int × Nat) : Prop := 0 ≤ x.1 ∧ x.1 ≤ 1114112 ∧ x.2 ≤ l.length ∧ (runW b (l.drop x.2) x.1).1 = (runW b l 0).1 ∧ x.2 + (runW b (l.drop x.2) x.1).2 = (runW b l 0).2

theorem mulB {b n : Int} (h1 : 2 ≤ b) (h2 : b ≤ 36) (h3 : 0 ≤ n) (h4 : n ≤ 1114112) : 0 ≤ b * n ∧ b * n ≤ 40108032 :=
  ⟨Int.mul_nonneg (by omega) h3, Int.le_trans (Int.mul_le_mul h2 h4 h3 (by omega)) (by decide)⟩

theorem wkI_step {b : Int} {l : List UInt8} {n : Int} {i : Nat} (h1 : 2 ≤ b) (h2 : b ≤ 36) (hx : WkI b l (n, i)) (hi : i < l.length) :
    (dg b (l.getD i 0) < 0 → n = (runW b l 0).1 ∧ i = (runW b l 0).2) ∧ (¬ dg b (l.getD i 0) < 0 → WkI b l (min (b * n + dg b (l.getD i 0)) 1114112, i + 1)) := by
  obtain ⟨a1, a2, a3, a4, a5⟩ := hx
  simp only at a1 a2 a3 a4 a5
  rw [drop_cons l i hi, runW_cons] at a4 a5
  have hb := mulB h1 h2 a1 a2
  have hd := dg_bd b (l.getD i 0)
  constructor
  · intro h
    rw [if_pos h] at a4 a5
    exact ⟨a4, a5⟩
  · intro h
    rw [if_neg h] at a4 a5
    simp only at a4 a5
    refine ⟨?_, ?_, by simp only; omega, a4, by simp only; omega⟩ <;> simp only <;> omega
theorem wkI_end {b : Int} {l : List UInt8} {n : Int} {i : Nat} (hx : WkI b l (n, i)) (hi : ¬ i < l.length) : n = (runW b l 0).1 ∧ i = (runW b l 0).2 := by
  obtain ⟨a1, a2, a3, a4, a5⟩ := hx
  simp only at a1 a2 a3 a4 a5
  rw [List.drop_of_length_le (by omega)] at a4 a5
  exact ⟨a4, a5⟩

theorem wk_walk (b : Int) (h1 : 2 ≤ b) (h2 : b ≤ 36) (l : List UInt8) (hl : l.length ≤ 9223372036854775807) : Tri Ext0 Tryd.prog (.loop (lbody Tryd.prog 50 1)) (wkS b l 0 0) (.exit 0) (wkS b l (runW b l 0).1 (runW b l 0).2) := by
  refine loop_inv mixed clWo_ok (fun x : Int × Nat => wkS b l x.1 x.2) (WkI b l) (fun x => l.length - x.2) (fun x hx => ?_) (0, 0) ⟨by simp, by simp, by simp, by simp, by simp⟩
  obtain ⟨n, i⟩ := x
  by_cases hi : i < l.length
  · obtain ⟨s1, s2⟩ := wkI_step h1 h2 hx hi
    have hd := dg_bd b (l.getD i 0)
    have h5 := (l.getD i 0).toNat_lt
    have hb := mulB h1 h2 hx.1 hx.2.1
    by_cases h : dg b (l.getD i 0) < 0
    · obtain ⟨e1, e2⟩ := s1 h
      refine .inr ⟨by simp, ?_⟩
      rw [← e1, ← e2]
      refine ⟨_, _, _, _, _, lpBy_nil, by decide, wkr_1 b n (dg b (l.getD i 0)) 0 l i, ?_⟩
      simp only [allP, and_true, decide_eq_true_eq, Int.toNat_natCast]
      exact ⟨by omega, by omega, by omega, by omega, by omega, rfl, h⟩
    · refine .inl ⟨(min (b * n + dg b (l.getD i 0)) 1114112, i + 1), s2 h, by simp only; omega, ?_⟩
      refine ⟨_, _, _, _, _, lpBy_nil, by decide, wkr_2 b n (dg b (l.getD i 0)) _ l i, ?_⟩
      simp only [allP, and_true, decide_eq_true_eq, decide_eq_false_iff_not, i64_min, i64_max, Int.toNat_natCast] at hb ⊢
      repeat' apply And.intro
      all_goals first | omega | rfl | (split <;> omega)
  · obtain ⟨e1, e2⟩ := wkI_end hx hi
    refine .inr ⟨by simp, ?_⟩
    rw [← e1, ← e2]
    refine ⟨_, _, _, _, _, lpBy_nil, by decide, wkr_3 b n 0 0 l i, ?_⟩
    simp only [allP, and_true, decide_eq_false_iff_not]
    omega

noncomputable def wkLp (b : Int) (l : List UInt8) : List (Nat × Lp) := [(1, ⟨lbody Tryd.prog 50 1, ⟨[], [0, 1, 4, 5], []⟩, wkS b l 0 0, .exit 0, wkS b l (runW b l 0).1 (runW b l 0).2⟩)]

noncomputable def wk_X (b : Int) (l : List UInt8) (h_ : List (Nat × Bool)) := outcome Tryd.prog 50 (aBody Tryd.prog clWo ⟨true, bs h_ ++ ([])⟩ (lpBy (wkLp b l)) 60 50 ([.c (str l), .c (.int .i64 b)]) ([]))

theorem wk_1 (b : Int) (l : List UInt8) : wk_X b l [] = some ((AV.tu [(AV.c ((Value.int .i64 ((runW b l (0 : Int)).fst)))),
 (AV.c ((Value.int .i64 ((↑(runW b l (0 : Int)).snd : Int)))))]), [((lbody Tryd.prog (50 : FuncId) (1 : Nat) : Go.Code)) = (lbody Tryd.prog (50 : FuncId) (1 : Nat)),
 ((wkS b l (0 : Int) (0 : Nat) : Go.Proofs.YtfnappdgiomiiaaDoor.St)) = (wkS b l (0 : Int) (0 : Nat))]) := by kernel_rfl

theorem wk_all (b : Int) (l : List UInt8)  : ∃ (h : Hints) (p : List Prop), outcome Tryd.prog 50 (aBody Tryd.prog clWo h (lpBy (wkLp b l)) 60 50 ([.c (str l), .c (.int .i64 b)]) ([])) = some (.tu [.c (.int .i64 (runW b l 0).1), .c (.int .i64 (runW b l 0).2)], p) ∧ allP p := by
  have eR := wk_1 b l
  refine ⟨_, _, eR.trans (congrArg (fun r => some (r, _)) ?_), ?_⟩
  · rfl
  · try simp only [dz] at *
    try simp (disch := omega) only [std, bytesOK_cons, bytesOK_nil]
    repeat' apply And.intro
    all_goals first | exact True.intro | omega | assumption | rfl | exact avEq_refl _

def pworthSpec : Spec
  | [.c (.string s), .c (.int .i64 b)] => some (.tu [.c (.int .i64 (runW b (sb s) 0).1), .c (.int .i64 (runW b (sb s) 0).2)], [2 ≤ b, b ≤ 36, (sb s).length ≤ 9223372036854775807])
  | _ => none

theorem pworth_ok : SpecOK Tryd.prog 50 pworthSpec := by
  refine spec_of mixed clWo_ok fun args r q hs hq => ?_
  unfold pworthSpec at hs
  split at hs
  · rename_i l b
    simp only [Option.some.injEq, Prod.mk.injEq] at hs
    obtain ⟨rfl, rfl⟩ := hs
    obtain ⟨⟨⟨l⟩⟩, rfl⟩ : ∃ b : ByteArray, b = l := ⟨l, rfl⟩
    simp only [sb_mk, allP, and_true] at hq ⊢
    obtain ⟨h1, h2, h3⟩ := hq
    obtain ⟨hh, q, e, hp⟩ := wk_all b l
    exact ⟨_, _, _, _, lpBy_cons lpBy_nil List.nodup_nil (wk_walk b h1 h2 l h3), e, hp⟩
  · simp at hs

/-! A reference by a number. -/
def refT (x : List UInt8 × Nat) : AV := .tu [.c (str x.1), .c (.int .i64 x.2)]

noncomputable def clBn : CallT := aCall Tryd.prog (sgBy [(50, pworthSpec), (43, preSpec), (51, numberSpec)]) 500 8

theorem clBn_ok : CallOK Tryd.prog clBn := aCall_ok mixed (sgBy_cons pworth_ok (sgBy_cons pre_ok (sgBy_cons number_ok sgBy_nil))) 500 8

theorem runW_bd {b : Int} (h1 : 2 ≤ b) (h2 : b ≤ 36) : ∀ (l : List UInt8) (n : Int), 0 ≤ n → n ≤ 1114112 → 0 ≤ (runW b l n).1 ∧ (runW b l n).1 ≤ 1114112
  | [], n, h, h' => ⟨h, h'⟩
  | c :: r, n, h, h' => by
    rw [runW_cons]
    have hb := mulB h1 h2 h h'
    have hd := dg_bd b c
    split
    · exact ⟨h, h'⟩
    · exact runW_bd h1 h2 r _ (by omega) (by omega)

theorem pre_semi (u : List UInt8) : preB [59] u = true ↔ u.head? = some 59 := by
  cases u with
  | nil => rw [preB_nil]; simp
  | cons d r => rw [preB_one]; simp

theorem tailR_eq {b : Int} {ahead : Nat} {l u : List UInt8} {n : Int} {k : Nat} {p : Bool} (hn : (runW b l 0).1 = n) (hk : (runW b l 0).2 = k) (hu : l.drop k = u) (hp : preB [59] u = p) :
    tailR b ahead l = if k = 0 then ([38], 0) else if p = true then (numberF n, ahead + k + 1) else (numberF n, ahead + k) := by
  unfold tailR
  rw [hn, hk, hu]
  by_cases h0 : k = 0
  · rw [if_pos h0, if_pos h0]
  · rw [if_neg h0, if_neg h0]
    cases p with
    | true =>
      rw [(pre_semi u).1 hp]
      rfl
    | false =>
      have e : ¬ u.head? = some 59 := by
        intro e
        rw [(pre_semi u).2 e] at hp; cases hp
      rw [if_neg e]
      rfl

noncomputable def pbnA_X (q u : List UInt8) (n : Int) (k : Nat) (p : Bool) (h_ : List (Nat × Bool)) := outcome Tryd.prog 39 (aBody Tryd.prog clBn ⟨true, bs h_ ++ (bs [(12, true)] ++ [(30, ⟨.c (str (q)), none⟩), (33, ⟨.c (.int .i64 n), none⟩), (34, ⟨.c (.int .i64 k), none⟩), (39, ⟨.c (.int .i64 (2 + k : Nat)), none⟩), (45, ⟨.c (.int .i64 (2 + k + 1 : Nat)), none⟩), (42, ⟨.c (str u), none⟩), (43, ⟨.c (.bool p), none⟩)])⟩ (lpBy ([])) 60 39 ([.c (str (35 :: 120 :: q))]) ([]))

theorem pbnA_1 (q u : List UInt8) (n : Int) (k : Nat) (p : Bool) : pbnA_X q u n k p [(36, true)] = some ((AV.tu [(AV.c ((str ([(38 : UInt8)])))),
 (AV.c ((Value.int .i64 0)))]), [decide ((1 : Int) < ↑(35 :: 120 :: q).length) = true,
 (0 : Int) ≤ 1,
 (1 : Int) < ↑(35 :: 120 :: q).length,
 (IntKind.i64.min : Int) ≤ 1 + 1,
 (1 + 1 : Int) ≤ IntKind.i64.max,
 (0 : Int) ≤ 1 + 1,
 (1 + 1 : Int) ≤ ↑(35 :: 120 :: q).length,
 (↑(35 :: 120 :: q).length : Int) ≤ ↑(35 :: 120 :: q).length,
 ((List.drop ((1 : Int) + (1 : Int)).toNat (List.take (35 :: 120 :: q).length (35 :: 120 :: q)) : List UInt8)) = (q),
 (2 : Int) ≤ 16,
 (16 : Int) ≤ 36,
 ((q.length : Nat) ≤ ((9223372036854775807 : Nat))),
 (((runW (16 : Int) (sb { data := { toList := q } }) (0 : Int)).fst : Int)) = (n),
 (((↑(runW (16 : Int) (sb { data := { toList := q } }) (0 : Int)).snd : Int) : Int)) = ((↑k : Int)),
 ((↑k : Int) == (0 : Int)) = true]) := by kernel_rfl

theorem pbnA_2 (q u : List UInt8) (n : Int) (k : Nat) (p : Bool) : pbnA_X q u n k p [(36, false), (43, true)] = some ((AV.tu [(AV.c ((str (numberF n)))),
 (AV.c ((Value.int .i64 ((↑((2 : Nat) + k + (1 : Nat)) : Int)))))]), [decide ((1 : Int) < ↑(35 :: 120 :: q).length) = true,
 (0 : Int) ≤ 1,
 (1 : Int) < ↑(35 :: 120 :: q).length,
 (IntKind.i64.min : Int) ≤ 1 + 1,
 (1 + 1 : Int) ≤ IntKind.i64.max,
 (0 : Int) ≤ 1 + 1,
 (1 + 1 : Int) ≤ ↑(35 :: 120 :: q).length,
 (↑(35 :: 120 :: q).length : Int) ≤ ↑(35 :: 120 :: q).length,
 ((List.drop ((1 : Int) + (1 : Int)).toNat (List.take (35 :: 120 :: q).length (35 :: 120 :: q)) : List UInt8)) = (q),
 (2 : Int) ≤ 16,
 (16 : Int) ≤ 36,
 ((q.length : Nat) ≤ ((9223372036854775807 : Nat))),
 (((runW (16 : Int) (sb { data := { toList := q } }) (0 : Int)).fst : Int)) = (n),
 (((↑(runW (16 : Int) (sb { data := { toList := q } }) (0 : Int)).snd : Int) : Int)) = ((↑k : Int)),
 ((↑k : Int) == (0 : Int)) = false,
 (IntKind.i64.min : Int) ≤ 1 + 1 + ↑k,
 (1 + 1 + ↑k : Int) ≤ IntKind.i64.max,
 (1 + 1 + ↑k : Int) = ↑(2 + k),
 (0 : Int) ≤ ↑(2 + k),
 (↑(2 + k) : Int) ≤ ↑(35 :: 120 :: q).length,
 (↑(35 :: 120 :: q).length : Int) ≤ ↑(35 :: 120 :: q).length,
 ((List.drop ((2 : Nat) + k) (List.take (35 :: 120 :: q).length (35 :: 120 :: q)) : List UInt8)) = (u),
 ((u.length : Nat) ≤ ((9223372036854775807 : Nat))),
 (preB [(59 : UInt8)] u) = true,
 (IntKind.i64.min : Int) ≤ ↑(2 + k) + 1,
 (↑(2 + k) + 1 : Int) ≤ IntKind.i64.max,
 (↑(2 + k) + 1 : Int) = ↑(2 + k + 1),
 (-9223372036854775808 : Int) ≤ n,
 (n : Int) ≤ 9223372036854775807]) := by kernel_rfl

theorem pbnA_3 (q u : List UInt8) (n : Int) (k : Nat) (p : Bool) : pbnA_X q u n k p [(36, false), (43, false)] = some ((AV.tu [(AV.c ((str (numberF n)))),
 (AV.c ((Value.int .i64 ((↑((2 : Nat) + k) : Int)))))]), [decide ((1 : Int) < ↑(35 :: 120 :: q).length) = true,
 (0 : Int) ≤ 1,
 (1 : Int) < ↑(35 :: 120 :: q).length,
 (IntKind.i64.min : Int) ≤ 1 + 1,
 (1 + 1 : Int) ≤ IntKind.i64.max,
 (0 : Int) ≤ 1 + 1,
 (1 + 1 : Int) ≤ ↑(35 :: 120 :: q).length,
 (↑(35 :: 120 :: q).length : Int) ≤ ↑(35 :: 120 :: q).length,
 ((List.drop ((1 : Int) + (1 : Int)).toNat (List.take (35 :: 120 :: q).length (35 :: 120 :: q)) : List UInt8)) = (q),
 (2 : Int) ≤ 16,
 (16 : Int) ≤ 36,
 ((q.length : Nat) ≤ ((9223372036854775807 : Nat))),
 (((runW (16 : Int) (sb { data := { toList := q } }) (0 : Int)).fst : Int)) = (n),
 (((↑(runW (16 : Int) (sb { data := { toList := q } }) (0 : Int)).snd : Int) : Int)) = ((↑k : Int)),
 ((↑k : Int) == (0 : Int)) = false,
 (IntKind.i64.min : Int) ≤ 1 + 1 + ↑k,
 (1 + 1 + ↑k : Int) ≤ IntKind.i64.max,
 (1 + 1 + ↑k : Int) = ↑(2 + k),
 (0 : Int) ≤ ↑(2 + k),
 (↑(2 + k) : Int) ≤ ↑(35 :: 120 :: q).length,
 (↑(35 :: 120 :: q).length : Int) ≤ ↑(35 :: 120 :: q).length,
 ((List.drop ((2 : Nat) + k) (List.take (35 :: 120 :: q).length (35 :: 120 :: q)) : List UInt8)) = (u),
 ((u.length : Nat) ≤ ((9223372036854775807 : Nat))),
 (preB [(59 : UInt8)] u) = false,
 (-9223372036854775808 : Int) ≤ n,
 (n : Int) ≤ 9223372036854775807]) := by kernel_rfl

theorem pbnA_all (q u : List UInt8) (n : Int) (k : Nat) (p : Bool) (hn : (runW 16 (q) 0).1 = n) (hk : (runW 16 (q) 0).2 = k) (hu : (q).drop k = u) (hp : preB [59] u = p) (n0 : 0 ≤ n) (n1 : n ≤ 1114112) (hkl : k ≤ q.length) (hl : q.length ≤ 9223372036854775790) (hu2 : List.drop (2 + k) (35 :: 120 :: q) = u) (ul : u.length ≤ 9223372036854775790) : ∃ (h : Hints) (p : List Prop), outcome Tryd.prog 39 (aBody Tryd.prog clBn h (lpBy ([])) 60 39 ([.c (str (35 :: 120 :: q))]) ([])) = some (refT (tailR 16 2 (q)), p) ∧ allP p := by
  refine bcase ((↑k : Int) == (0 : Int)) (fun hc36 => ⟨_, _, (pbnA_1 q u n k p).trans (congrArg (fun r => some (r, _)) ?_), ?_⟩)
    (fun hc36 => bcase (p) (fun hc43 => ⟨_, _, (pbnA_2 q u n k p).trans (congrArg (fun r => some (r, _)) ?_), ?_⟩)
    (fun hc43 => ⟨_, _, (pbnA_3 q u n k p).trans (congrArg (fun r => some (r, _)) ?_), ?_⟩))
  all_goals try simp only [dz] at hc36
  all_goals try simp only [dz] at hc43
  any_goals (
    rw [tailR_eq hn hk hu hp]
    first
      | (rw [if_pos (by omega)]; done)
      | (rw [if_neg (by omega), if_pos hc43]; done)
      | (rw [if_neg (by omega), if_neg (by rw [hc43]; simp)]; done)
      | (rw [if_pos (by omega)]; rfl)
      | (rw [if_neg (by omega), if_pos hc43]; rfl)
      | (rw [if_neg (by omega), if_neg (by rw [hc43]; simp)]; rfl)
    done)
  all_goals try simp (disch := omega) only [std, List.length_drop]
  all_goals repeat' apply And.intro
  all_goals first | exact True.intro | omega | with_reducible rfl | with_reducible assumption | exact hp.trans hc43 | exact hn | exact hk | exact hu | exact hp | exact hu2 | rfl


noncomputable def pbnB_X (q u : List UInt8) (n : Int) (k : Nat) (p : Bool) (h_ : List (Nat × Bool)) := outcome Tryd.prog 39 (aBody Tryd.prog clBn ⟨true, bs h_ ++ (bs [(12, true)] ++ [(30, ⟨.c (str (q)), none⟩), (33, ⟨.c (.int .i64 n), none⟩), (34, ⟨.c (.int .i64 k), none⟩), (39, ⟨.c (.int .i64 (2 + k : Nat)), none⟩), (45, ⟨.c (.int .i64 (2 + k + 1 : Nat)), none⟩), (42, ⟨.c (str u), none⟩), (43, ⟨.c (.bool p), none⟩)])⟩ (lpBy ([])) 60 39 ([.c (str (35 :: 88 :: q))]) ([]))

theorem pbnB_1 (q u : List UInt8) (n : Int) (k : Nat) (p : Bool) : pbnB_X q u n k p [(36, true)] = some ((AV.tu [(AV.c ((str ([(38 : UInt8)])))),
 (AV.c ((Value.int .i64 0)))]), [decide ((1 : Int) < ↑(35 :: 88 :: q).length) = true,
 (0 : Int) ≤ 1,
 (1 : Int) < ↑(35 :: 88 :: q).length,
 (0 : Int) ≤ 1,
 (1 : Int) < ↑(35 :: 88 :: q).length,
 (IntKind.i64.min : Int) ≤ 1 + 1,
 (1 + 1 : Int) ≤ IntKind.i64.max,
 (0 : Int) ≤ 1 + 1,
 (1 + 1 : Int) ≤ ↑(35 :: 88 :: q).length,
 (↑(35 :: 88 :: q).length : Int) ≤ ↑(35 :: 88 :: q).length,
 ((List.drop ((1 : Int) + (1 : Int)).toNat (List.take (35 :: 88 :: q).length (35 :: 88 :: q)) : List UInt8)) = (q),
 (2 : Int) ≤ 16,
 (16 : Int) ≤ 36,
 ((q.length : Nat) ≤ ((9223372036854775807 : Nat))),
 (((runW (16 : Int) (sb { data := { toList := q } }) (0 : Int)).fst : Int)) = (n),
 (((↑(runW (16 : Int) (sb { data := { toList := q } }) (0 : Int)).snd : Int) : Int)) = ((↑k : Int)),
 ((↑k : Int) == (0 : Int)) = true]) := by kernel_rfl

theorem pbnB_2 (q u : List UInt8) (n : Int) (k : Nat) (p : Bool) : pbnB_X q u n k p [(36, false), (43, true)] = some ((AV.tu [(AV.c ((str (numberF n)))),
 (AV.c ((Value.int .i64 ((↑((2 : Nat) + k + (1 : Nat)) : Int)))))]), [decide ((1 : Int) < ↑(35 :: 88 :: q).length) = true,
 (0 : Int) ≤ 1,
 (1 : Int) < ↑(35 :: 88 :: q).length,
 (0 : Int) ≤ 1,
 (1 : Int) < ↑(35 :: 88 :: q).length,
 (IntKind.i64.min : Int) ≤ 1 + 1,
 (1 + 1 : Int) ≤ IntKind.i64.max,
 (0 : Int) ≤ 1 + 1,
 (1 + 1 : Int) ≤ ↑(35 :: 88 :: q).length,
 (↑(35 :: 88 :: q).length : Int) ≤ ↑(35 :: 88 :: q).length,
 ((List.drop ((1 : Int) + (1 : Int)).toNat (List.take (35 :: 88 :: q).length (35 :: 88 :: q)) : List UInt8)) = (q),
 (2 : Int) ≤ 16,
 (16 : Int) ≤ 36,
 ((q.length : Nat) ≤ ((9223372036854775807 : Nat))),
 (((runW (16 : Int) (sb { data := { toList := q } }) (0 : Int)).fst : Int)) = (n),
 (((↑(runW (16 : Int) (sb { data := { toList := q } }) (0 : Int)).snd : Int) : Int)) = ((↑k : Int)),
 ((↑k : Int) == (0 : Int)) = false,
 (IntKind.i64.min : Int) ≤ 1 + 1 + ↑k,
 (1 + 1 + ↑k : Int) ≤ IntKind.i64.max,
 (1 + 1 + ↑k : Int) = ↑(2 + k),
 (0 : Int) ≤ ↑(2 + k),
 (↑(2 + k) : Int) ≤ ↑(35 :: 88 :: q).length,
 (↑(35 :: 88 :: q).length : Int) ≤ ↑(35 :: 88 :: q).length,
 ((List.drop ((2 : Nat) + k) (List.take (35 :: 88 :: q).length (35 :: 88 :: q)) : List UInt8)) = (u),
 ((u.length : Nat) ≤ ((9223372036854775807 : Nat))),
 (preB [(59 : UInt8)] u) = true,
 (IntKind.i64.min : Int) ≤ ↑(2 + k) + 1,
 (↑(2 + k) + 1 : Int) ≤ IntKind.i64.max,
 (↑(2 + k) + 1 : Int) = ↑(2 + k + 1),
 (-9223372036854775808 : Int) ≤ n,
 (n : Int) ≤ 9223372036854775807]) := by kernel_rfl

theorem pbnB_3 (q u : List UInt8) (n : Int) (k : Nat) (p : Bool) : pbnB_X q u n k p [(36, false), (43, false)] = some ((AV.tu [(AV.c ((str (numberF n)))),
 (AV.c ((Value.int .i64 ((↑((2 : Nat) + k) : Int)))))]), [decide ((1 : Int) < ↑(35 :: 88 :: q).length) = true,
 (0 : Int) ≤ 1,
 (1 : Int) < ↑(35 :: 88 :: q).length,
 (0 : Int) ≤ 1,
 (1 : Int) < ↑(35 :: 88 :: q).length,
 (IntKind.i64.min : Int) ≤ 1 + 1,
 (1 + 1 : Int) ≤ IntKind.i64.max,
 (0 : Int) ≤ 1 + 1,
 (1 + 1 : Int) ≤ ↑(35 :: 88 :: q).length,
 (↑(35 :: 88 :: q).length : Int) ≤ ↑(35 :: 88 :: q).length,
 ((List.drop ((1 : Int) + (1 : Int)).toNat (List.take (35 :: 88 :: q).length (35 :: 88 :: q)) : List UInt8)) = (q),
 (2 : Int) ≤ 16,
 (16 : Int) ≤ 36,
 ((q.length : Nat) ≤ ((9223372036854775807 : Nat))),
 (((runW (16 : Int) (sb { data := { toList := q } }) (0 : Int)).fst : Int)) = (n),
 (((↑(runW (16 : Int) (sb { data := { toList := q } }) (0 : Int)).snd : Int) : Int)) = ((↑k : Int)),
 ((↑k : Int) == (0 : Int)) = false,
 (IntKind.i64.min : Int) ≤ 1 + 1 + ↑k,
 (1 + 1 + ↑k : Int) ≤ IntKind.i64.max,
 (1 + 1 + ↑k : Int) = ↑(2 + k),
 (0 : Int) ≤ ↑(2 + k),
 (↑(2 + k) : Int) ≤ ↑(35 :: 88 :: q).length,
 (↑(35 :: 88 :: q).length : Int) ≤ ↑(35 :: 88 :: q).length,
 ((List.drop ((2 : Nat) + k) (List.take (35 :: 88 :: q).length (35 :: 88 :: q)) : List UInt8)) = (u),
 ((u.length : Nat) ≤ ((9223372036854775807 : Nat))),
 (preB [(59 : UInt8)] u) = false,
 (-9223372036854775808 : Int) ≤ n,
 (n : Int) ≤ 9223372036854775807]) := by kernel_rfl

theorem pbnB_all (q u : List UInt8) (n : Int) (k : Nat) (p : Bool) (hn : (runW 16 (q) 0).1 = n) (hk : (runW 16 (q) 0).2 = k) (hu : (q).drop k = u) (hp : preB [59] u = p) (n0 : 0 ≤ n) (n1 : n ≤ 1114112) (hkl : k ≤ q.length) (hl : q.length ≤ 9223372036854775790) (hu2 : List.drop (2 + k) (35 :: 88 :: q) = u) (ul : u.length ≤ 9223372036854775790) : ∃ (h : Hints) (p : List Prop), outcome Tryd.prog 39 (aBody Tryd.prog clBn h (lpBy ([])) 60 39 ([.c (str (35 :: 88 :: q))]) ([])) = some (refT (tailR 16 2 (q)), p) ∧ allP p := by
  refine bcase ((↑k : Int) == (0 : Int)) (fun hc36 => ⟨_, _, (pbnB_1 q u n k p).trans (congrArg (fun r => some (r, _)) ?_), ?_⟩)
    (fun hc36 => bcase (p) (fun hc43 => ⟨_, _, (pbnB_2 q u n k p).trans (congrArg (fun r => some (r, _)) ?_), ?_⟩)
    (fun hc43 => ⟨_, _, (pbnB_3 q u n k p).trans (congrArg (fun r => some (r, _)) ?_), ?_⟩))
  all_goals try simp only [dz] at hc36
  all_goals try simp only [dz] at hc43
  any_goals (
    rw [tailR_eq hn hk hu hp]
    first
      | (rw [if_pos (by omega)]; done)
      | (rw [if_neg (by omega), if_pos hc43]; done)
      | (rw [if_neg (by omega), if_neg (by rw [hc43]; simp)]; done)
      | (rw [if_pos (by omega)]; rfl)
      | (rw [if_neg (by omega), if_pos hc43]; rfl)
      | (rw [if_neg (by omega), if_neg (by rw [hc43]; simp)]; rfl)
    done)
  all_goals try simp (disch := omega) only [std, List.length_drop]
  all_goals repeat' apply And.intro
  all_goals first | exact True.intro | omega | with_reducible rfl | with_reducible assumption | exact hp.trans hc43 | exact hn | exact hk | exact hu | exact hp | exact hu2 | rfl


noncomputable def pbnC_X (q u : List UInt8) (n : Int) (k : Nat) (p : Bool)(c : UInt8) (h_ : List (Nat × Bool)) := outcome Tryd.prog 39 (aBody Tryd.prog clBn ⟨true, bs h_ ++ (bs [(12, true), (17, false), (22, false)] ++ [(30, ⟨.c (str (c :: q)), none⟩), (33, ⟨.c (.int .i64 n), none⟩), (34, ⟨.c (.int .i64 k), none⟩), (39, ⟨.c (.int .i64 (1 + k : Nat)), none⟩), (45, ⟨.c (.int .i64 (1 + k + 1 : Nat)), none⟩), (42, ⟨.c (str u), none⟩), (43, ⟨.c (.bool p), none⟩)])⟩ (lpBy ([])) 60 39 ([.c (str (35 :: c :: q))]) ([]))

theorem pbnC_1 (q u : List UInt8) (n : Int) (k : Nat) (p : Bool)(c : UInt8) : pbnC_X q u n k p c [(36, true)] = some ((AV.tu [(AV.c ((str ([(38 : UInt8)])))),
 (AV.c ((Value.int .i64 0)))]), [decide ((1 : Int) < ↑(35 :: c :: q).length) = true,
 (0 : Int) ≤ 1,
 (1 : Int) < ↑(35 :: c :: q).length,
 ((↑((35 :: c :: q).getD (Int.toNat (1 : Int)) (0 : UInt8)).toNat : Int) == (120 : Int)) = false,
 (0 : Int) ≤ 1,
 (1 : Int) < ↑(35 :: c :: q).length,
 ((↑((35 :: c :: q).getD (Int.toNat (1 : Int)) (0 : UInt8)).toNat : Int) == (88 : Int)) = false,
 (0 : Int) ≤ 1,
 (1 : Int) ≤ ↑(35 :: c :: q).length,
 (↑(35 :: c :: q).length : Int) ≤ ↑(35 :: c :: q).length,
 ((List.drop (Int.toNat (1 : Int)) (List.take (35 :: c :: q).length (35 :: c :: q)) : List UInt8)) = (c :: q),
 (2 : Int) ≤ 10,
 (10 : Int) ≤ 36,
 (((c :: q).length : Nat) ≤ ((9223372036854775807 : Nat))),
 (((runW (10 : Int) (sb { data := { toList := c :: q } }) (0 : Int)).fst : Int)) = (n),
 (((↑(runW (10 : Int) (sb { data := { toList := c :: q } }) (0 : Int)).snd : Int) : Int)) = ((↑k : Int)),
 ((↑k : Int) == (0 : Int)) = true]) := by kernel_rfl

theorem pbnC_2 (q u : List UInt8) (n : Int) (k : Nat) (p : Bool)(c : UInt8) : pbnC_X q u n k p c [(36, false), (43, true)] = some ((AV.tu [(AV.c ((str (numberF n)))),
 (AV.c ((Value.int .i64 ((↑((1 : Nat) + k + (1 : Nat)) : Int)))))]), [decide ((1 : Int) < ↑(35 :: c :: q).length) = true,
 (0 : Int) ≤ 1,
 (1 : Int) < ↑(35 :: c :: q).length,
 ((↑((35 :: c :: q).getD (Int.toNat (1 : Int)) (0 : UInt8)).toNat : Int) == (120 : Int)) = false,
 (0 : Int) ≤ 1,
 (1 : Int) < ↑(35 :: c :: q).length,
 ((↑((35 :: c :: q).getD (Int.toNat (1 : Int)) (0 : UInt8)).toNat : Int) == (88 : Int)) = false,
 (0 : Int) ≤ 1,
 (1 : Int) ≤ ↑(35 :: c :: q).length,
 (↑(35 :: c :: q).length : Int) ≤ ↑(35 :: c :: q).length,
 ((List.drop (Int.toNat (1 : Int)) (List.take (35 :: c :: q).length (35 :: c :: q)) : List UInt8)) = (c :: q),
 (2 : Int) ≤ 10,
 (10 : Int) ≤ 36,
 (((c :: q).length : Nat) ≤ ((9223372036854775807 : Nat))),
 (((runW (10 : Int) (sb { data := { toList := c :: q } }) (0 : Int)).fst : Int)) = (n),
 (((↑(runW (10 : Int) (sb { data := { toList := c :: q } }) (0 : Int)).snd : Int) : Int)) = ((↑k : Int)),
 ((↑k : Int) == (0 : Int)) = false,
 (IntKind.i64.min : Int) ≤ 1 + ↑k,
 (1 + ↑k : Int) ≤ IntKind.i64.max,
 (1 + ↑k : Int) = ↑(1 + k),
 (0 : Int) ≤ ↑(1 + k),
 (↑(1 + k) : Int) ≤ ↑(35 :: c :: q).length,
 (↑(35 :: c :: q).length : Int) ≤ ↑(35 :: c :: q).length,
 ((List.drop ((1 : Nat) + k) (List.take (35 :: c :: q).length (35 :: c :: q)) : List UInt8)) = (u),
 ((u.length : Nat) ≤ ((9223372036854775807 : Nat))),
 (preB [(59 : UInt8)] u) = true,
 (IntKind.i64.min : Int) ≤ ↑(1 + k) + 1,
 (↑(1 + k) + 1 : Int) ≤ IntKind.i64.max,
 (↑(1 + k) + 1 : Int) = ↑(1 + k + 1),
 (-9223372036854775808 : Int) ≤ n,
 (n : Int) ≤ 9223372036854775807]) := by kernel_rfl

theorem pbnC_3 (q u : List UInt8) (n : Int) (k : Nat) (p : Bool)(c : UInt8) : pbnC_X q u n k p c [(36, false), (43, false)] = some ((AV.tu [(AV.c ((str (numberF n)))),
 (AV.c ((Value.int .i64 ((↑((1 : Nat) + k) : Int)))))]), [decide ((1 : Int) < ↑(35 :: c :: q).length) = true,
 (0 : Int) ≤ 1,
 (1 : Int) < ↑(35 :: c :: q).length,
 ((↑((35 :: c :: q).getD (Int.toNat (1 : Int)) (0 : UInt8)).toNat : Int) == (120 : Int)) = false,
 (0 : Int) ≤ 1,
 (1 : Int) < ↑(35 :: c :: q).length,
 ((↑((35 :: c :: q).getD (Int.toNat (1 : Int)) (0 : UInt8)).toNat : Int) == (88 : Int)) = false,
 (0 : Int) ≤ 1,
 (1 : Int) ≤ ↑(35 :: c :: q).length,
 (↑(35 :: c :: q).length : Int) ≤ ↑(35 :: c :: q).length,
 ((List.drop (Int.toNat (1 : Int)) (List.take (35 :: c :: q).length (35 :: c :: q)) : List UInt8)) = (c :: q),
 (2 : Int) ≤ 10,
 (10 : Int) ≤ 36,
 (((c :: q).length : Nat) ≤ ((9223372036854775807 : Nat))),
 (((runW (10 : Int) (sb { data := { toList := c :: q } }) (0 : Int)).fst : Int)) = (n),
 (((↑(runW (10 : Int) (sb { data := { toList := c :: q } }) (0 : Int)).snd : Int) : Int)) = ((↑k : Int)),
 ((↑k : Int) == (0 : Int)) = false,
 (IntKind.i64.min : Int) ≤ 1 + ↑k,
 (1 + ↑k : Int) ≤ IntKind.i64.max,
 (1 + ↑k : Int) = ↑(1 + k),
 (0 : Int) ≤ ↑(1 + k),
 (↑(1 + k) : Int) ≤ ↑(35 :: c :: q).length,
 (↑(35 :: c :: q).length : Int) ≤ ↑(35 :: c :: q).length,
 ((List.drop ((1 : Nat) + k) (List.take (35 :: c :: q).length (35 :: c :: q)) : List UInt8)) = (u),
 ((u.length : Nat) ≤ ((9223372036854775807 : Nat))),
 (preB [(59 : UInt8)] u) = false,
 (-9223372036854775808 : Int) ≤ n,
 (n : Int) ≤ 9223372036854775807]) := by kernel_rfl

theorem pbnC_all (q u : List UInt8) (n : Int) (k : Nat) (p : Bool)(c : UInt8) (hn : (runW 10 (c :: q) 0).1 = n) (hk : (runW 10 (c :: q) 0).2 = k) (hu : (c :: q).drop k = u) (hp : preB [59] u = p) (hc1 : ¬ (c.toNat : Int) = 120) (hc2 : ¬ (c.toNat : Int) = 88) (n0 : 0 ≤ n) (n1 : n ≤ 1114112) (hkl : k ≤ q.length + 1) (hl : q.length + 1 ≤ 9223372036854775790) (hu2 : List.drop (1 + k) (35 :: c :: q) = u) (ul : u.length ≤ 9223372036854775790) : ∃ (h : Hints) (p : List Prop), outcome Tryd.prog 39 (aBody Tryd.prog clBn h (lpBy ([])) 60 39 ([.c (str (35 :: c :: q))]) ([])) = some (refT (tailR 10 1 (c :: q)), p) ∧ allP p := by
  refine bcase ((↑k : Int) == (0 : Int)) (fun hc36 => ⟨_, _, (pbnC_1 q u n k p c).trans (congrArg (fun r => some (r, _)) ?_), ?_⟩)
    (fun hc36 => bcase (p) (fun hc43 => ⟨_, _, (pbnC_2 q u n k p c).trans (congrArg (fun r => some (r, _)) ?_), ?_⟩)
    (fun hc43 => ⟨_, _, (pbnC_3 q u n k p c).trans (congrArg (fun r => some (r, _)) ?_), ?_⟩))
  all_goals try simp only [dz] at hc36
  all_goals try simp only [dz] at hc43
  any_goals (
    rw [tailR_eq hn hk hu hp]
    first
      | (rw [if_pos (by omega)]; done)
      | (rw [if_neg (by omega), if_pos hc43]; done)
      | (rw [if_neg (by omega), if_neg (by rw [hc43]; simp)]; done)
      | (rw [if_pos (by omega)]; rfl)
      | (rw [if_neg (by omega), if_pos hc43]; rfl)
      | (rw [if_neg (by omega), if_neg (by rw [hc43]; simp)]; rfl)
    done)
  all_goals try simp (disch := omega) only [std, List.length_drop]
  all_goals repeat' apply And.intro
  all_goals first | exact True.intro | omega | with_reducible rfl | with_reducible assumption | exact hp.trans hc43 | exact hn | exact hk | exact hu | exact hp | exact hc1 | exact hc2 | exact hu2 | rfl




noncomputable def pbnD_X  (h_ : List (Nat × Bool)) := outcome Tryd.prog 39 (aBody Tryd.prog clBn ⟨true, bs h_ ++ ([])⟩ (lpBy ([])) 60 39 ([.c (str [35])]) ([]))

theorem pbnD_1  : pbnD_X  [] = some ((AV.tu [(AV.c ((str ([(38 : UInt8)])))),
 (AV.c ((Value.int .i64 0)))]), [(0 : Int) ≤ 1,
 (1 : Int) ≤ ↑(1 : Nat),
 (↑(1 : Nat) : Int) ≤ ↑(1 : Nat),
 (2 : Int) ≤ 10,
 (10 : Int) ≤ 36,
 (((0 : Nat) : Nat) ≤ ((9223372036854775807 : Nat)))]) := by kernel_rfl

theorem pbnD_all   : ∃ (h : Hints) (p : List Prop), outcome Tryd.prog 39 (aBody Tryd.prog clBn h (lpBy ([])) 60 39 ([.c (str [35])]) ([])) = some (refT (tailR 10 1 []), p) ∧ allP p := by
  refine ⟨_, _, (pbnD_1 ).trans (congrArg (fun r => some (r, _)) (by first | rfl | (simp (disch := omega) only [std]; done))), ?_⟩
  all_goals try simp (disch := omega) only [std]
  all_goals repeat' apply And.intro
  all_goals first | exact True.intro | omega | with_reducible rfl | with_reducible assumption | decide +kernel | rfl

def byNumSpec : Spec
  | [.c (.string s)] => some (refT (byNum ((sb s).drop 1)), [sb s = 35 :: (sb s).drop 1, (sb s).length ≤ 9223372036854775790])
  | _ => none

theorem u8_ne {c : UInt8} {k : Nat} (hk : k < 256) (h : c ≠ UInt8.ofNat k) : ¬ (c.toNat : Int) = (k : Nat) := by
  intro e
  apply h
  apply UInt8.toNat_inj.1
  rw [UInt8.toNat_ofNat']
  omega

theorem byNum_other {c : UInt8} {q : List UInt8} (h1 : c ≠ 120) (h2 : c ≠ 88) : byNum (c :: q) = tailR 10 1 (c :: q) := by
  unfold byNum
  split
  · rename_i h; exact absurd (List.cons.inj h).1 h1
  · rename_i h; exact absurd (List.cons.inj h).1 h2
  · rfl

theorem byNum_ok : SpecOK Tryd.prog 39 byNumSpec := by
  refine spec_of mixed clBn_ok fun args r q hs hq => ?_
  unfold byNumSpec at hs
  split at hs
  · rename_i l
    simp only [Option.some.injEq, Prod.mk.injEq] at hs
    obtain ⟨rfl, rfl⟩ := hs
    obtain ⟨⟨⟨l⟩⟩, rfl⟩ : ∃ b : ByteArray, b = l := ⟨l, rfl⟩
    simp only [sb_mk, allP, and_true] at hq ⊢
    obtain ⟨h1, h2⟩ := hq
    generalize l.drop 1 = r at h1 ⊢
    subst h1
    have bd10 := fun l : List UInt8 => runW_bd (b := 10) (by omega) (by omega) l 0 (by omega) (by omega)
    have bd16 := fun l : List UInt8 => runW_bd (b := 16) (by omega) (by omega) l 0 (by omega) (by omega)
    match r, h2 with
    | [], _ =>
      obtain ⟨hh, q, e, hp⟩ := pbnD_all
      exact ⟨_, _, _, _, lpBy_nil, e, hp⟩
    | c :: q, h2 =>
      simp only [List.length_cons] at h2
      by_cases c1 : c = 120
      · subst c1
        have hk := runW_le 16 q 0
        obtain ⟨hh, p, e, hp⟩ := pbnA_all q _ _ _ _ rfl rfl rfl rfl (bd16 q).1 (bd16 q).2 hk (by omega) (by rw [Nat.add_comm]; rfl) (by rw [List.length_drop]; omega)
        exact ⟨_, _, _, _, lpBy_nil, e, hp⟩
      · by_cases c2 : c = 88
        · subst c2
          have hk := runW_le 16 q 0
          obtain ⟨hh, p, e, hp⟩ := pbnB_all q _ _ _ _ rfl rfl rfl rfl (bd16 q).1 (bd16 q).2 hk (by omega) (by rw [Nat.add_comm]; rfl) (by rw [List.length_drop]; omega)
          exact ⟨_, _, _, _, lpBy_nil, e, hp⟩
        · rw [byNum_other c1 c2]
          have hk := runW_le 10 (c :: q) 0
          obtain ⟨hh, p, e, hp⟩ := pbnC_all q _ _ _ _ c rfl rfl rfl rfl (u8_ne (k := 120) (by decide) c1) (u8_ne (k := 88) (by decide) c2) (bd10 (c :: q)).1 (bd10 (c :: q)).2 hk (by omega) (by rw [Nat.add_comm]; rfl) (by rw [List.length_drop, List.length_cons]; omega)
          exact ⟨_, _, _, _, lpBy_nil, e, hp⟩
  · simp at hs

/-! A reference by a name. -/
noncomputable def clGo : CallT := aCall Tryd.prog (sgBy [(66, byteSpec fun n => .bool (letterI n)), (61, digitSpec)]) 500 8

theorem clGo_ok : CallOK Tryd.prog clGo := aCall_ok mixed (sgBy_cons letter_ok (sgBy_cons digit_ok sgBy_nil)) 500 8

def goSpec : Spec
  | [.c (.string s)] => some (.c (.bool (goesOn (sb s))), [])
  | _ => none

noncomputable def go0_X  (h_ : List (Nat × Bool)) := outcome Tryd.prog 53 (aBody Tryd.prog clGo ⟨true, bs h_ ++ ([])⟩ (lpBy ([])) 60 53 ([.c (str [])]) ([]))

theorem go0_1  : go0_X  [] = some ((AV.c ((Value.bool false))), []) := by kernel_rfl

theorem go0_all   : ∃ (h : Hints) (p : List Prop), outcome Tryd.prog 53 (aBody Tryd.prog clGo h (lpBy ([])) 60 53 ([.c (str [])]) ([])) = some (.c (.bool (goesOn [])), p) ∧ allP p := by
  have eR := go0_1 
  refine ⟨_, _, eR.trans (congrArg (fun r => some (r, _)) ?_), ?_⟩
  · rfl
  · try simp only [dz] at *
    try simp (disch := omega) only [std, bytesOK_cons, bytesOK_nil]
    repeat' apply And.intro
    all_goals first | exact True.intro | omega | assumption | rfl | exact avEq_refl _

noncomputable def go1_X (c : UInt8) (r : List UInt8) (x : Bool) (d : Int) (h_ : List (Nat × Bool)) := outcome Tryd.prog 53 (aBody Tryd.prog clGo ⟨true, bs h_ ++ ([(8, ⟨.c (.bool x), none⟩), (12, ⟨.c (.int .i64 d), none⟩)])⟩ (lpBy ([])) 60 53 ([.c (str (c :: r))]) ([]))

theorem go1_1 (c : UInt8) (r : List UInt8) (x : Bool) (d : Int) : go1_X c r x d [(8, true)] = some ((AV.c ((Value.bool true))), [(0 : Int) ≤ 0,
 (0 : Int) < ↑(c :: r).length,
 (((0 : Int) : Int) ≤ ((↑((c :: r).getD (Int.toNat (0 : Int)) (0 : UInt8)).toNat : Int))),
 (((↑((c :: r).getD (Int.toNat (0 : Int)) (0 : UInt8)).toNat : Int) : Int) < ((256 : Int))),
 (letterI (↑((c :: r).getD (Int.toNat (0 : Int)) (0 : UInt8)).toNat : Int)) = true]) := by kernel_rfl

theorem go1_2 (c : UInt8) (r : List UInt8) (x : Bool) (d : Int) : go1_X c r x d [(8, false), (13, true)] = some ((AV.c ((Value.bool true))), [(0 : Int) ≤ 0,
 (0 : Int) < ↑(c :: r).length,
 (((0 : Int) : Int) ≤ ((↑((c :: r).getD (Int.toNat (0 : Int)) (0 : UInt8)).toNat : Int))),
 (((↑((c :: r).getD (Int.toNat (0 : Int)) (0 : UInt8)).toNat : Int) : Int) < ((256 : Int))),
 (letterI (↑((c :: r).getD (Int.toNat (0 : Int)) (0 : UInt8)).toNat : Int)) = false,
 (0 : Int) ≤ 0,
 (0 : Int) < ↑(c :: r).length,
 (((0 : Int) : Int) ≤ ((↑((c :: r).getD (Int.toNat (0 : Int)) (0 : UInt8)).toNat : Int))),
 (((↑((c :: r).getD (Int.toNat (0 : Int)) (0 : UInt8)).toNat : Int) : Int) < ((256 : Int))),
 ((digitI (↑((c :: r).getD (Int.toNat (0 : Int)) (0 : UInt8)).toNat : Int) (10 : Int) : Int)) = (d),
 decide ((d : Int) ≥ 0) = true]) := by kernel_rfl

theorem go1_3 (c : UInt8) (r : List UInt8) (x : Bool) (d : Int) : go1_X c r x d [(8, false), (13, false)] = some ((AV.c ((Value.bool ((↑((c :: r).getD (Int.toNat (0 : Int)) (0 : UInt8)).toNat : Int) == (61 : Int))))), [(0 : Int) ≤ 0,
 (0 : Int) < ↑(c :: r).length,
 (((0 : Int) : Int) ≤ ((↑((c :: r).getD (Int.toNat (0 : Int)) (0 : UInt8)).toNat : Int))),
 (((↑((c :: r).getD (Int.toNat (0 : Int)) (0 : UInt8)).toNat : Int) : Int) < ((256 : Int))),
 (letterI (↑((c :: r).getD (Int.toNat (0 : Int)) (0 : UInt8)).toNat : Int)) = false,
 (0 : Int) ≤ 0,
 (0 : Int) < ↑(c :: r).length,
 (((0 : Int) : Int) ≤ ((↑((c :: r).getD (Int.toNat (0 : Int)) (0 : UInt8)).toNat : Int))),
 (((↑((c :: r).getD (Int.toNat (0 : Int)) (0 : UInt8)).toNat : Int) : Int) < ((256 : Int))),
 ((digitI (↑((c :: r).getD (Int.toNat (0 : Int)) (0 : UInt8)).toNat : Int) (10 : Int) : Int)) = (d),
 decide ((d : Int) ≥ 0) = false,
 (0 : Int) ≤ 0,
 (0 : Int) < ↑(c :: r).length]) := by kernel_rfl

theorem go1_all (c : UInt8) (r : List UInt8) (x : Bool) (d : Int) (hx : isL c = x) (hd : dg 10 c = d) (h5 : c.toNat < 256) (heq : (((c.toNat : Nat) : Int) == 61) = (c == 61)) : ∃ (h : Hints) (p : List Prop), outcome Tryd.prog 53 (aBody Tryd.prog clGo h (lpBy ([])) 60 53 ([.c (str (c :: r))]) ([])) = some (.c (.bool (goesOn (c :: r))), p) ∧ allP p := by
  refine bcase (x) (fun hc8 => ⟨_, _, (go1_1 c r x d).trans (congrArg (fun r => some (r, _)) ?_), ?_⟩)
    (fun hc8 => bcase (decide (d ≥ (0 : Int))) (fun hc13 => ⟨_, _, (go1_2 c r x d).trans (congrArg (fun r => some (r, _)) ?_), ?_⟩)
    (fun hc13 => ⟨_, _, (go1_3 c r x d).trans (congrArg (fun r => some (r, _)) ?_), ?_⟩))
  all_goals try simp only [dz] at hc8
  all_goals try simp only [dz] at hc13
  any_goals (
    have e : goesOn (c :: r) = (isL c || decide (0 ≤ dg 10 c) || c == 61) := rfl
    rw [e, hx, hd]
    first
      | (rw [hc8]; rfl)
      | (rw [hc8, decide_eq_true (show 0 ≤ d by omega)]; rfl)
      | (rw [hc8, decide_eq_false (show ¬ 0 ≤ d by omega)]; exact congrArg (fun b => AV.c (Value.bool b)) heq)
    done)
  all_goals try simp (disch := omega) only [std]
  all_goals repeat' apply And.intro
  all_goals first | exact True.intro | omega | with_reducible rfl | with_reducible assumption | exact hx.trans hc8 | exact hx | exact hd | exact heq | rfl

theorem u8_eqB (c : UInt8) {k : Nat} (hk : k < 256) : (((c.toNat : Nat) : Int) == (k : Nat)) = (c == UInt8.ofNat k) := by
  by_cases h : c = UInt8.ofNat k
  · subst h
    rw [UInt8.toNat_ofNat', Nat.mod_eq_of_lt hk]
    simp
  · have := u8_ne hk h
    rw [beq_eq_false_iff_ne.2 this, beq_eq_false_iff_ne.2 h]

theorem go_ok : SpecOK Tryd.prog 53 goSpec := by
  refine spec_of mixed clGo_ok fun args r q hs hq => ?_
  unfold goSpec at hs
  split at hs
  · rename_i l
    simp only [Option.some.injEq, Prod.mk.injEq] at hs
    obtain ⟨rfl, rfl⟩ := hs
    obtain ⟨⟨⟨l⟩⟩, rfl⟩ : ∃ b : ByteArray, b = l := ⟨l, rfl⟩
    simp only [sb_mk, allP, and_true] at hq ⊢
    match l with
    | [] =>
      obtain ⟨hh, q, e, hp⟩ := go0_all
      exact ⟨_, _, _, _, lpBy_nil, e, hp⟩
    | c :: r =>
      obtain ⟨hh, q, e, hp⟩ := go1_all c r _ _ rfl rfl c.toNat_lt (u8_eqB c (k := 61) (by decide))
      exact ⟨_, _, _, _, lpBy_nil, e, hp⟩
  · simp at hs

noncomputable def clBy : CallT := aCall Tryd.prog (sgBy [(52, namedSpec), (53, goSpec)]) 500 8

theorem clBy_ok : CallOK Tryd.prog clBy := aCall_ok mixed (sgBy_cons named_ok (sgBy_cons go_ok sgBy_nil)) 500 8

def byS (l : List UInt8) (n : Nat) : St := ⟨frame 36 [(0, .c (str l)), (4, .c (.int .i64 n))], []⟩
def byN : St := ⟨frame 36 [], []⟩
def byY (x : List UInt8 × Nat) : St := ⟨frame 36 [(2, .c (str x.1)), (3, .c (.int .i64 x.2))], []⟩

noncomputable def byr_X (l v : List UInt8) (n : Nat) (x g : Bool) (h_ : List (Nat × Bool)) (fi_ : Fi) := roundOut (fi_) (aCode Tryd.prog clBy ⟨true, bs h_ ++ ([(13, ⟨.c (.int .i64 n), none⟩), (25, ⟨.c (.int .i64 n), none⟩), (19, ⟨.c (str v), none⟩), (20, ⟨.c (.bool x), none⟩), (32, ⟨.c (.bool g), none⟩)])⟩ (lpBy ([])) 60 (lbody Tryd.prog 40 2) (byS l (n + 1)))

theorem byr_1 (l v : List UInt8) (n : Nat) (x g : Bool) : byr_X l v n x g [(11, true), (22, true)] (⟨[], [0, 4], []⟩) = some (.normal, byS l n, [decide ((↑(n + 1) : Int) > 0) = true,
 (0 : Int) ≤ 0,
 (0 : Int) ≤ ↑(n + 1),
 (↑(n + 1) : Int) ≤ ↑l.length,
 (((List.drop (Int.toNat (0 : Int)) (List.take (n + (1 : Nat)) l)).length : Nat) ≤ ((9223372036854775800 : Nat))),
 ((namedF (List.drop (Int.toNat (0 : Int)) (List.take (n + (1 : Nat)) l)) : List UInt8)) = (v),
 ((!namedF (List.drop (Int.toNat (0 : Int)) (List.take (n + (1 : Nat)) l)) == [] : Bool)) = (x),
 (!x) = true,
 (IntKind.i64.min : Int) ≤ ↑(n + 1) - 1,
 (↑(n + 1) - 1 : Int) ≤ IntKind.i64.max,
 (↑(n + 1) - 1 : Int) = ↑n]) := by kernel_rfl

theorem byr_2 (l v : List UInt8) (n : Nat) (x g : Bool) : byr_X l v n x g [(11, true), (22, false), (27, true), (32, true)] ⟨[], [], []⟩ = some (.exit 0, byN, [decide ((↑(n + 1) : Int) > 0) = true,
 (0 : Int) ≤ 0,
 (0 : Int) ≤ ↑(n + 1),
 (↑(n + 1) : Int) ≤ ↑l.length,
 (((List.drop (Int.toNat (0 : Int)) (List.take (n + (1 : Nat)) l)).length : Nat) ≤ ((9223372036854775800 : Nat))),
 ((namedF (List.drop (Int.toNat (0 : Int)) (List.take (n + (1 : Nat)) l)) : List UInt8)) = (v),
 ((!namedF (List.drop (Int.toNat (0 : Int)) (List.take (n + (1 : Nat)) l)) == [] : Bool)) = (x),
 (!x) = false,
 (IntKind.i64.min : Int) ≤ ↑(n + 1) - 1,
 (↑(n + 1) - 1 : Int) ≤ IntKind.i64.max,
 (↑(n + 1) - 1 : Int) = ↑n,
 (0 : Int) ≤ ↑n,
 (↑n : Int) < ↑l.length,
 ((↑(l.getD n 0).toNat : Int) != (59 : Int)) = true,
 (0 : Int) ≤ ↑(n + 1),
 (↑(n + 1) : Int) ≤ ↑l.length,
 (↑l.length : Int) ≤ ↑l.length,
 (goesOn (List.drop (n + (1 : Nat)) (List.take l.length l))) = true]) := by kernel_rfl

theorem byr_3 (l v : List UInt8) (n : Nat) (x g : Bool) : byr_X l v n x g [(11, true), (22, false), (27, true), (32, false)] ⟨[], [2, 3], []⟩ = some (.ret, byY (v, n + 1), [decide ((↑(n + 1) : Int) > 0) = true,
 (0 : Int) ≤ 0,
 (0 : Int) ≤ ↑(n + 1),
 (↑(n + 1) : Int) ≤ ↑l.length,
 (((List.drop (Int.toNat (0 : Int)) (List.take (n + (1 : Nat)) l)).length : Nat) ≤ ((9223372036854775800 : Nat))),
 ((namedF (List.drop (Int.toNat (0 : Int)) (List.take (n + (1 : Nat)) l)) : List UInt8)) = (v),
 ((!namedF (List.drop (Int.toNat (0 : Int)) (List.take (n + (1 : Nat)) l)) == [] : Bool)) = (x),
 (!x) = false,
 (IntKind.i64.min : Int) ≤ ↑(n + 1) - 1,
 (↑(n + 1) - 1 : Int) ≤ IntKind.i64.max,
 (↑(n + 1) - 1 : Int) = ↑n,
 (0 : Int) ≤ ↑n,
 (↑n : Int) < ↑l.length,
 ((↑(l.getD n 0).toNat : Int) != (59 : Int)) = true,
 (0 : Int) ≤ ↑(n + 1),
 (↑(n + 1) : Int) ≤ ↑l.length,
 (↑l.length : Int) ≤ ↑l.length,
 (goesOn (List.drop (n + (1 : Nat)) (List.take l.length l))) = false]) := by kernel_rfl

theorem byr_4 (l v : List UInt8) (n : Nat) (x g : Bool) : byr_X l v n x g [(11, true), (22, false), (27, false)] ⟨[], [2, 3], []⟩ = some (.ret, byY (v, n + 1), [decide ((↑(n + 1) : Int) > 0) = true,
 (0 : Int) ≤ 0,
 (0 : Int) ≤ ↑(n + 1),
 (↑(n + 1) : Int) ≤ ↑l.length,
 (((List.drop (Int.toNat (0 : Int)) (List.take (n + (1 : Nat)) l)).length : Nat) ≤ ((9223372036854775800 : Nat))),
 ((namedF (List.drop (Int.toNat (0 : Int)) (List.take (n + (1 : Nat)) l)) : List UInt8)) = (v),
 ((!namedF (List.drop (Int.toNat (0 : Int)) (List.take (n + (1 : Nat)) l)) == [] : Bool)) = (x),
 (!x) = false,
 (IntKind.i64.min : Int) ≤ ↑(n + 1) - 1,
 (↑(n + 1) - 1 : Int) ≤ IntKind.i64.max,
 (↑(n + 1) - 1 : Int) = ↑n,
 (0 : Int) ≤ ↑n,
 (↑n : Int) < ↑l.length,
 ((↑(l.getD n 0).toNat : Int) != (59 : Int)) = false]) := by kernel_rfl

noncomputable def byz_X (l : List UInt8) (h_ : List (Nat × Bool)) := roundOut (⟨[], [], []⟩) (aCode Tryd.prog clBy ⟨true, bs h_ ++ ([])⟩ (lpBy ([])) 60 (lbody Tryd.prog 40 2) (byS l 0))

theorem byz_1 (l : List UInt8) : byz_X l [] = some (.exit 0, byN, []) := by kernel_rfl

theorem byName_cons (l : List UInt8) (n : Nat) : byName l (n + 1) = if namedF (l.take (n + 1)) = [] then byName l n
    else if l.getD n 0 ≠ 59 ∧ goesOn (l.drop (n + 1)) = true then ([38], 0)
    else (namedF (l.take (n + 1)), n + 1) := rfl

theorem byName_zero (l : List UInt8) : ∀ n, (byName l n).2 = 0 → byName l n = ([38], 0)
  | 0, _ => rfl
  | n + 1, h => by
    rw [byName_cons] at h ⊢
    split at h
    · rename_i hv; rw [if_pos hv]; exact byName_zero l n h
    · rename_i hv
      rw [if_neg hv]
      split at h
      · rename_i hg; rw [if_pos hg]
      · simp at h

def byE (x : List UInt8 × Nat) : Exit := if x.2 = 0 then .exit 0 else .ret
def byR (x : List UInt8 × Nat) : St := if x.2 = 0 then byN else byY x

theorem by_walk (l : List UInt8) (hl : l.length ≤ 9223372036854775790) (n0 : Nat) (hn : n0 ≤ l.length) : Tri Ext0 Tryd.prog (.loop (lbody Tryd.prog 40 2)) (byS l n0) (byE (byName l n0)) (byR (byName l n0)) := by
  refine loop_inv mixed clBy_ok (fun n => byS l n) (fun n => byName l n = byName l n0 ∧ n ≤ l.length) (fun n => n) (fun n hx => ?_) n0 ⟨rfl, hn⟩
  obtain ⟨h1, h2⟩ := hx
  match n, h1, h2 with
  | 0, h1, h2 =>
    rw [← h1]
    refine .inr ⟨by simp [byE, byName], _, _, _, _, _, lpBy_nil, by decide, byz_1 l, ?_⟩
    simp only [allP, and_true]
  | n + 1, h1, h2 =>
    rw [byName_cons] at h1
    have hlen : (List.take (n + 1) l).length ≤ 9223372036854775800 := by rw [List.length_take]; omega
    have h5 := (l.getD n 0).toNat_lt
    have key : ((((l.getD n 0).toNat : Nat) : Int) != (59 : Int)) = (l.getD n 0 != 59) := congrArg (fun b => !b) (u8_eqB (l.getD n 0) (k := 59) (by decide))
    by_cases hv : namedF (l.take (n + 1)) = []
    · rw [if_pos hv] at h1
      refine .inl ⟨n, ⟨h1, by omega⟩, by omega, _, _, _, _, _, lpBy_nil, by decide, byr_1 l [] n false false, ?_⟩
      have e : List.drop (Int.toNat 0) (List.take (n + 1) l) = l.take (n + 1) := List.drop_zero
      simp only [allP, and_true, decide_eq_true_eq, i64_min, i64_max, sb_mk, Int.toNat_natCast, e, hv] at hlen ⊢
      repeat' apply And.intro
      all_goals first | exact True.intro | omega | rfl
    · rw [if_neg hv] at h1
      refine .inr ?_
      by_cases hg : l.getD n 0 ≠ 59 ∧ goesOn (l.drop (n + 1)) = true
      · rw [if_pos hg] at h1
        rw [← h1]
        refine ⟨by simp [byE], _, _, _, _, _, lpBy_nil, by decide, byr_2 l (namedF (l.take (n + 1))) n true true, ?_⟩
        have e : List.drop (Int.toNat 0) (List.take (n + 1) l) = l.take (n + 1) := List.drop_zero
        simp only [allP, and_true, decide_eq_true_eq, i64_min, i64_max, sb_mk, Int.toNat_natCast, e, key, List.take_length] at hlen ⊢
        repeat' apply And.intro
        all_goals first | exact True.intro | omega | exact bne_iff_ne.2 hg.1 | exact hg.2 | (simp only [Bool.not_eq_true', beq_eq_false_iff_ne]; exact hv) | rfl
      · rw [if_neg hg] at h1
        rw [← h1]
        refine ⟨by simp [byE], ?_⟩
        have e : List.drop (Int.toNat 0) (List.take (n + 1) l) = l.take (n + 1) := List.drop_zero
        by_cases hc : l.getD n 0 = 59
        · refine ⟨_, _, _, _, _, lpBy_nil, by decide, byr_4 l (namedF (l.take (n + 1))) n true false, ?_⟩
          simp only [allP, and_true, decide_eq_true_eq, i64_min, i64_max, sb_mk, Int.toNat_natCast, e, key, List.take_length] at hlen ⊢
          repeat' apply And.intro
          all_goals first | exact True.intro | omega | exact bne_eq_false_iff_eq.2 hc | (simp only [Bool.not_eq_true', beq_eq_false_iff_ne]; exact hv) | rfl
        · have hgo : goesOn (l.drop (n + 1)) = false := by
            cases h : goesOn (l.drop (n + 1)) with
            | false => rfl
            | true => exact absurd ⟨hc, h⟩ hg
          refine ⟨_, _, _, _, _, lpBy_nil, by decide, byr_3 l (namedF (l.take (n + 1))) n true false, ?_⟩
          simp only [allP, and_true, decide_eq_true_eq, i64_min, i64_max, sb_mk, Int.toNat_natCast, e, key, List.take_length] at hlen ⊢
          repeat' apply And.intro
          all_goals first | exact True.intro | omega | exact bne_iff_ne.2 hc | exact hgo | (simp only [Bool.not_eq_true', beq_eq_false_iff_ne]; exact hv) | rfl

noncomputable def byLp0 (l : List UInt8) (n : Nat) : List (Nat × Lp) := [(2, ⟨lbody Tryd.prog 40 2, ⟨[], [0, 4], []⟩, byS l n, .exit 0, byN⟩)]
noncomputable def byLp1 (l : List UInt8) (n : Nat) (x : List UInt8 × Nat) : List (Nat × Lp) := [(2, ⟨lbody Tryd.prog 40 2, ⟨[], [0, 4], []⟩, byS l n, .ret, byY x⟩)]

noncomputable def bym0_X (l : List UInt8) (n : Nat) (h_ : List (Nat × Bool)) := outcome Tryd.prog 40 (aBody Tryd.prog clBy ⟨true, bs h_ ++ ([(9, ⟨.c (.int .i64 n), none⟩)])⟩ (lpBy (byLp0 l n )) 60 40 ([.c (str l)]) ([]))

theorem bym0_1 (l : List UInt8) (n : Nat) : bym0_X l n [] = some ((AV.tu [(AV.c ((str ([(38 : UInt8)])))),
 (AV.c ((Value.int .i64 0)))]), [((if (15 : Int) < (↑l.length : Int) then (15 : Int) else (↑l.length : Int) : Int)) = ((↑n : Int)),
 ((lbody Tryd.prog (40 : FuncId) (2 : Nat) : Go.Code)) = (lbody Tryd.prog (40 : FuncId) (2 : Nat)),
 ((byS l n : Go.Proofs.YtfnappdgiomiiaaDoor.St)) = (byS l n)]) := by kernel_rfl

theorem bym0_all (l : List UInt8) (n : Nat) (hn : n = min l.length 15) : ∃ (h : Hints) (p : List Prop), outcome Tryd.prog 40 (aBody Tryd.prog clBy h (lpBy (byLp0 l n )) 60 40 ([.c (str l)]) ([])) = some (.tu [.c (str [38]), .c (.int .i64 0)], p) ∧ allP p := by
  have eR := bym0_1 l n
  refine ⟨_, _, eR.trans (congrArg (fun r => some (r, _)) ?_), ?_⟩
  · rfl
  · try clear eR
    simp only [allP, sb_mk]
    repeat' apply And.intro
    all_goals first | exact True.intro | omega | rfl | (show (if _ then _ else _ : Int) = _; split <;> omega)


noncomputable def bym1_X (l : List UInt8) (n : Nat)(x : List UInt8 × Nat) (h_ : List (Nat × Bool)) := outcome Tryd.prog 40 (aBody Tryd.prog clBy ⟨true, bs h_ ++ ([(9, ⟨.c (.int .i64 n), none⟩)])⟩ (lpBy (byLp1 l n x)) 60 40 ([.c (str l)]) ([]))

theorem bym1_1 (l : List UInt8) (n : Nat)(x : List UInt8 × Nat) : bym1_X l n x [] = some ((AV.tu [(AV.c ((str (x.fst)))),
 (AV.c ((Value.int .i64 ((↑x.snd : Int)))))]), [((if (15 : Int) < (↑l.length : Int) then (15 : Int) else (↑l.length : Int) : Int)) = ((↑n : Int)),
 ((lbody Tryd.prog (40 : FuncId) (2 : Nat) : Go.Code)) = (lbody Tryd.prog (40 : FuncId) (2 : Nat)),
 ((byS l n : Go.Proofs.YtfnappdgiomiiaaDoor.St)) = (byS l n)]) := by kernel_rfl

theorem bym1_all (l : List UInt8) (n : Nat)(x : List UInt8 × Nat) (hn : n = min l.length 15) : ∃ (h : Hints) (p : List Prop), outcome Tryd.prog 40 (aBody Tryd.prog clBy h (lpBy (byLp1 l n x)) 60 40 ([.c (str l)]) ([])) = some (refT x, p) ∧ allP p := by
  have eR := bym1_1 l n x
  refine ⟨_, _, eR.trans (congrArg (fun r => some (r, _)) ?_), ?_⟩
  · rfl
  · try clear eR
    simp only [allP, sb_mk]
    repeat' apply And.intro
    all_goals first | exact True.intro | omega | rfl | (show (if _ then _ else _ : Int) = _; split <;> omega)


def byNameSpec : Spec
  | [.c (.string s)] => some (refT (byName (sb s) (min (sb s).length 15)), [(sb s).length ≤ 9223372036854775790])
  | _ => none

theorem byName_ok : SpecOK Tryd.prog 40 byNameSpec := by
  refine spec_of mixed clBy_ok fun args r q hs hq => ?_
  unfold byNameSpec at hs
  split at hs
  · rename_i l
    simp only [Option.some.injEq, Prod.mk.injEq] at hs
    obtain ⟨rfl, rfl⟩ := hs
    obtain ⟨⟨⟨l⟩⟩, rfl⟩ : ∃ b : ByteArray, b = l := ⟨l, rfl⟩
    simp only [sb_mk, allP, and_true] at hq ⊢
    have hw := by_walk l hq (min l.length 15) (by omega)
    by_cases h : (byName l (min l.length 15)).2 = 0
    · obtain ⟨hh, q, e, hp⟩ := bym0_all l _ rfl
      have hx : byName l (min l.length 15) = ([38], 0) := byName_zero l _ h
      rw [hx] at hw
      rw [hx]
      exact ⟨_, _, _, _, lpBy_cons lpBy_nil List.nodup_nil hw, e, hp⟩
    · obtain ⟨hh, q, e, hp⟩ := bym1_all l _ (byName l (min l.length 15)) rfl
      have e1 : byE (byName l (min l.length 15)) = .ret := if_neg h
      have e2 : byR (byName l (min l.length 15)) = byY (byName l (min l.length 15)) := if_neg h
      rw [e1, e2] at hw
      exact ⟨_, _, _, _, lpBy_cons lpBy_nil List.nodup_nil hw, e, hp⟩
  · simp at hs

/-! A reference. -/
noncomputable def clRf : CallT := aCall Tryd.prog (sgBy [(43, preSpec), (39, byNumSpec), (40, byNameSpec)]) 500 8

theorem clRf_ok : CallOK Tryd.prog clRf := aCall_ok mixed (sgBy_cons pre_ok (sgBy_cons byNum_ok (sgBy_cons byName_ok sgBy_nil))) 500 8

noncomputable def prf1_X (r : List UInt8) (h_ : List (Nat × Bool)) := outcome Tryd.prog 30 (aBody Tryd.prog clRf ⟨true, bs h_ ++ (bs [(5, true)])⟩ (lpBy ([])) 60 30 ([.c (str (35 :: r))]) ([]))

theorem prf1_1 (r : List UInt8) : prf1_X r [] = some ((AV.tu [(AV.c ((str ((byNum (List.drop (1 : Nat) (sb { data := { toList := (35 : UInt8) :: r } }))).fst)))),
 (AV.c ((Value.int .i64 ((↑(byNum (List.drop (1 : Nat) (sb { data := { toList := (35 : UInt8) :: r } }))).snd : Int)))))]), [(((35 :: r).length : Nat) ≤ ((9223372036854775807 : Nat))),
 (true) = true,
 ((35 :: r : List UInt8)) = ((35 : UInt8) :: List.drop (1 : Nat) (35 :: r)),
 (((35 :: r).length : Nat) ≤ ((9223372036854775790 : Nat)))]) := by kernel_rfl

theorem prf1_all (r : List UInt8) (hp : preB [35] (35 :: r) = true) (hl : r.length ≤ 9223372036854775789) : ∃ (h : Hints) (p : List Prop), outcome Tryd.prog 30 (aBody Tryd.prog clRf h (lpBy ([])) 60 30 ([.c (str (35 :: r))]) ([])) = some (refT (byNum r), p) ∧ allP p := by
  refine ⟨_, _, (prf1_1 r).trans (congrArg (fun r => some (r, _)) (by first | rfl | (simp (disch := omega) only [std, List.drop_one, List.tail_cons]; done))), ?_⟩
  all_goals try simp (disch := omega) only [std, List.drop_one, List.tail_cons]
  all_goals repeat' apply And.intro
  all_goals first | exact True.intro | omega | with_reducible rfl | with_reducible assumption | exact hp | rfl

noncomputable def prf2_X (l : List UInt8) (h_ : List (Nat × Bool)) := outcome Tryd.prog 30 (aBody Tryd.prog clRf ⟨true, bs h_ ++ (bs [(5, false)])⟩ (lpBy ([])) 60 30 ([.c (str l)]) ([]))

theorem prf2_1 (l : List UInt8) : prf2_X l [] = some ((AV.tu [(AV.c ((str ((byName (sb { data := { toList := l } }) (min (sb { data := { toList := l } }).length (15 : Nat))).fst)))),
 (AV.c ((Value.int .i64 ((↑(byName (sb { data := { toList := l } }) (min (sb { data := { toList := l } }).length (15 : Nat))).snd : Int)))))]), [((l.length : Nat) ≤ ((9223372036854775807 : Nat))),
 (preB [(35 : UInt8)] l) = false,
 ((l.length : Nat) ≤ ((9223372036854775790 : Nat)))]) := by kernel_rfl

theorem prf2_all (l : List UInt8) (hp : preB [35] l = false) (hl : l.length ≤ 9223372036854775790) : ∃ (h : Hints) (p : List Prop), outcome Tryd.prog 30 (aBody Tryd.prog clRf h (lpBy ([])) 60 30 ([.c (str l)]) ([])) = some (refT (byName l (min l.length 15)), p) ∧ allP p := by
  refine ⟨_, _, (prf2_1 l).trans (congrArg (fun r => some (r, _)) (by first | rfl | (simp (disch := omega) only [std]; done))), ?_⟩
  all_goals try simp (disch := omega) only [std]
  all_goals repeat' apply And.intro
  all_goals first | exact True.intro | omega | with_reducible rfl | with_reducible assumption | exact hp | rfl

def refSpec : Spec
  | [.c (.string s)] => some (refT (refF (sb s)), [(sb s).length ≤ 9223372036854775790])
  | _ => none

theorem ref_35 (r : List UInt8) : refF (35 :: r) = byNum r := rfl
theorem ref_other {l : List UInt8} (h : preB [35] l = false) : refF l = byName l (min l.length 15) := by
  unfold refF
  split
  · rw [preB_one] at h; simp at h
  · rfl

theorem ref_ok : SpecOK Tryd.prog 30 refSpec := by
  refine spec_of mixed clRf_ok fun args r q hs hq => ?_
  unfold refSpec at hs
  split at hs
  · rename_i l
    simp only [Option.some.injEq, Prod.mk.injEq] at hs
    obtain ⟨rfl, rfl⟩ := hs
    obtain ⟨⟨⟨l⟩⟩, rfl⟩ : ∃ b : ByteArray, b = l := ⟨l, rfl⟩
    simp only [sb_mk, allP, and_true] at hq ⊢
    cases hb : preB [35] l with
    | true =>
      obtain ⟨r, rfl⟩ := preB_iff.1 hb
      obtain ⟨hh, q, e, hp⟩ := prf1_all r hb (by rw [List.length_append] at hq; simp only [List.length_singleton] at hq; omega)
      exact ⟨_, _, _, _, lpBy_nil, e, hp⟩
    | false =>
      rw [ref_other hb]
      obtain ⟨hh, q, e, hp⟩ := prf2_all l hb hq
      exact ⟨_, _, _, _, lpBy_nil, e, hp⟩
  · simp at hs

end Go.Proofs.YtfnappdgiomiiaaDoor
