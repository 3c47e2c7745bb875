/- References: the document's own. -/
import Derived.Test.YtfnappdgiomiiaaDoorEntD
namespace Go.Proofs.YtfnappdgiomiiaaDoor
open Go.RowKit Ent
set_option linter.unusedVariables false
set_option linter.unusedSimpArgs false

noncomputable def clRw : CallT := aCall Tryd.prog (sgBy [(44, digitSpec), (45, numberSpec)]) 500 8

theorem clRw_ok : CallOK Tryd.prog clRw := aCall_ok mixed (sgBy_cons rdigit_ok (sgBy_cons rnumber_ok sgBy_nil)) 500 8

def rwS (b : Int) (l : List UInt8) (o n : Int) (i : Nat) : St := ⟨frame 71 [(0, .c (str l)), (4, .c (.int .i64 i)), (5, .c (.int .i64 b)), (6, .c (.int .i64 o)), (7, .c (.int .i64 n))], []⟩

noncomputable def rwr_X (b o n d m : Int) (l : List UInt8) (i : Nat) (h_ : List (Nat × Bool)) := roundOut (⟨[], [0, 4, 5, 6, 7], []⟩) (aCode Tryd.prog clRw ⟨true, bs h_ ++ ([(38, ⟨.c (.int .i64 d), none⟩), (48, ⟨.c (.int .i64 d), none⟩), (50, ⟨.c (.int .i64 m), none⟩)])⟩ (lpBy ([])) 60 (lbody Tryd.prog 34 10) (rwS b l o n i))

theorem rwr_1 (b o n d m : Int) (l : List UInt8) (i : Nat) : rwr_X b o n d m l i [(32, true), (39, true)] = some (.normal, rwS b l o m (i + 1), [decide ((↑i : Int) < ↑l.length) = true,
 (0 : Int) ≤ ↑i,
 (↑i : Int) < ↑l.length,
 (((0 : Int) : Int) ≤ ((↑(l.getD i 0).toNat : Int))),
 (((↑(l.getD i 0).toNat : Int) : Int) < ((256 : Int))),
 ((digitI (↑(l.getD i 0).toNat : Int) b : Int)) = (d),
 decide ((d : Int) ≥ 0) = true,
 (IntKind.i64.min : Int) ≤ n * b,
 (n * b : Int) ≤ IntKind.i64.max,
 (0 : Int) ≤ ↑i,
 (↑i : Int) < ↑l.length,
 (((0 : Int) : Int) ≤ ((↑(l.getD i 0).toNat : Int))),
 (((↑(l.getD i 0).toNat : Int) : Int) < ((256 : Int))),
 ((digitI (↑(l.getD i 0).toNat : Int) b : Int)) = (d),
 (IntKind.i64.min : Int) ≤ n * b + d,
 (n * b + d : Int) ≤ IntKind.i64.max,
 ((if (1114112 : Int) < n * b + d then (1114112 : Int) else n * b + d : Int)) = (m),
 (IntKind.i64.min : Int) ≤ ↑i + 1,
 (↑i + 1 : Int) ≤ IntKind.i64.max]) := by kernel_rfl

theorem rwr_2 (b o n d m : Int) (l : List UInt8) (i : Nat) : rwr_X b o n d m l i [(32, true), (39, false)] = some (.exit 0, rwS b l o n i, [decide ((↑i : Int) < ↑l.length) = true,
 (0 : Int) ≤ ↑i,
 (↑i : Int) < ↑l.length,
 (((0 : Int) : Int) ≤ ((↑(l.getD i 0).toNat : Int))),
 (((↑(l.getD i 0).toNat : Int) : Int) < ((256 : Int))),
 ((digitI (↑(l.getD i 0).toNat : Int) b : Int)) = (d),
 decide ((d : Int) ≥ 0) = false]) := by kernel_rfl

theorem rwr_3 (b o n d m : Int) (l : List UInt8) (i : Nat) : rwr_X b o n d m l i [(32, false)] = some (.exit 0, rwS b l o n i, [decide ((↑i : Int) < ↑l.length) = false]) := by kernel_rfl

def RkI (b : Int) (l : List UInt8) (o : Nat) (x : Int × Nat) : Prop := 0 ≤ x.1 ∧ x.1 ≤ 1114112 ∧ x.2 ≤ l.length ∧ (runW b (l.drop x.2) x.1).1 = (runW b (l.drop o) 0).1 ∧ x.2 + (runW b (l.drop x.2) x.1).2 = o + (runW b (l.drop o) 0).2

theorem rkI_step {b : Int} {l : List UInt8} {o : Nat} {n : Int} {i : Nat} (h1 : 2 ≤ b) (h2 : b ≤ 36) (hx : RkI b l o (n, i)) (hi : i < l.length) :
    (dg b (l.getD i 0) < 0 → n = (runW b (l.drop o) 0).1 ∧ i = o + (runW b (l.drop o) 0).2) ∧ (¬ dg b (l.getD i 0) < 0 → RkI b l o (min (b * n + dg b (l.getD i 0)) 1114112, i + 1)) := by
  obtain ⟨a1, a2, a3, a4, a5⟩ := hx
  simp only at a1 a2 a3 a4 a5
  rw [drop_cons l i hi, runW_cons] at a4 a5
  have hb := mulB h1 h2 a1 a2
  have hd := dg_bd b (l.getD i 0)
  constructor
  · intro h
    rw [if_pos h] at a4 a5
    exact ⟨a4, a5⟩
  · intro h
    rw [if_neg h] at a4 a5
    simp only at a4 a5
    refine ⟨?_, ?_, by simp only; omega, a4, by simp only; omega⟩ <;> simp only <;> omega
theorem rkI_end {b : Int} {l : List UInt8} {o : Nat} {n : Int} {i : Nat} (hx : RkI b l o (n, i)) (hi : ¬ i < l.length) : n = (runW b (l.drop o) 0).1 ∧ i = o + (runW b (l.drop o) 0).2 := by
  obtain ⟨a1, a2, a3, a4, a5⟩ := hx
  simp only at a1 a2 a3 a4 a5
  rw [List.drop_of_length_le (by omega)] at a4 a5
  exact ⟨a4, a5⟩

theorem rw_walk (b : Int) (h1 : 2 ≤ b) (h2 : b ≤ 36) (l : List UInt8) (o : Nat) (ho : o ≤ l.length) (hl : l.length ≤ 9223372036854775807) : Tri Ext0 Tryd.prog (.loop (lbody Tryd.prog 34 10)) (rwS b l o 0 o) (.exit 0) (rwS b l o (runW b (l.drop o) 0).1 (o + (runW b (l.drop o) 0).2)) := by
  refine loop_inv mixed clRw_ok (fun x : Int × Nat => rwS b l o x.1 x.2) (RkI b l o) (fun x => l.length - x.2) (fun x hx => ?_) (0, o) ⟨by simp, by simp, ho, rfl, rfl⟩
  obtain ⟨n, i⟩ := x
  by_cases hi : i < l.length
  · obtain ⟨s1, s2⟩ := rkI_step h1 h2 hx hi
    have hd := dg_bd b (l.getD i 0)
    have h5 := (l.getD i 0).toNat_lt
    have hb := mulB h1 h2 hx.1 hx.2.1
    have hbc : n * b = b * n := Int.mul_comm n b
    by_cases h : dg b (l.getD i 0) < 0
    · obtain ⟨e1, e2⟩ := s1 h
      refine .inr ⟨by simp, ?_⟩
      rw [← e1, ← e2]
      refine ⟨_, _, _, _, _, lpBy_nil, by decide, rwr_2 b o n (dg b (l.getD i 0)) 0 l i, ?_⟩
      simp only [allP, and_true, decide_eq_true_eq, decide_eq_false_iff_not, Int.toNat_natCast]
      repeat' apply And.intro
      all_goals first | omega | rfl
    · refine .inl ⟨(min (b * n + dg b (l.getD i 0)) 1114112, i + 1), s2 h, by simp only; omega, ?_⟩
      refine ⟨_, _, _, _, _, lpBy_nil, by decide, rwr_1 b o n (dg b (l.getD i 0)) _ l i, ?_⟩
      simp only [allP, and_true, decide_eq_true_eq, decide_eq_false_iff_not, i64_min, i64_max, Int.toNat_natCast, hbc] at hb ⊢
      repeat' apply And.intro
      all_goals first | omega | rfl | (split <;> omega)
  · obtain ⟨e1, e2⟩ := rkI_end hx hi
    refine .inr ⟨by simp, ?_⟩
    rw [← e1, ← e2]
    refine ⟨_, _, _, _, _, lpBy_nil, by decide, rwr_3 b o n 0 0 l i, ?_⟩
    simp only [allP, and_true, decide_eq_false_iff_not]
    omega

noncomputable def rwLp (b : Int) (l : List UInt8) (o : Nat) (n : Int) (i : Nat) : List (Nat × Lp) := [(10, ⟨lbody Tryd.prog 34 10, ⟨[], [0, 4, 5, 6, 7], []⟩, rwS b l o 0 o, .exit 0, rwS b l o n i⟩)]

/-- As the document tells that there is none. -/
def rv (x : List UInt8 × Nat) : List UInt8 := if x.2 = 0 then [] else x.1
def rT (x : List UInt8 × Nat) : AV := .tu [.c (str (rv x)), .c (.int .i64 x.2)]

theorem rT_zero {x : List UInt8 × Nat} (h : x.2 = 0) : rT x = .tu [.c (str []), .c (.int .i64 0)] := by
  unfold rT rv; rw [if_pos h, h]; rfl

theorem rT_some {x : List UInt8 × Nat} (h : x.2 ≠ 0) : rT x = refT x := by
  unfold rT rv; rw [if_neg h]; rfl

theorem rT_pos {v : List UInt8} {n : Nat} (h : 0 < n) : rT (v, n) = .tu [.c (str v), .c (.int .i64 n)] := rT_some (x := (v, n)) (show ¬ n = 0 by omega)

theorem getD_drop0 (l : List UInt8) (i : Nat) : l.getD i 0 = (l.drop i).getD 0 0 := by simp [List.getD]

theorem semi_at {l u : List UInt8} {i : Nat} {p : Bool} (hu : l.drop i = u) (hp : preB [59] u = p) : (i < l.length → ((((l.getD i 0).toNat : Nat) : Int) == 59) = p) ∧ (¬ i < l.length → p = false) := by
  subst hu
  subst hp
  constructor
  · intro h
    rw [drop_cons l i h, preB_one]
    exact (u8_eqB (l.getD i 0) (k := 59) (by decide)).trans rfl
  · intro h
    rw [List.drop_of_length_le (by omega), preB_nil]

noncomputable def rbnA_X (q u : List UInt8) (n : Int) (k : Nat) (p : Bool)  (h_ : List (Nat × Bool)) := outcome Tryd.prog 34 (aBody Tryd.prog clRw ⟨true, bs h_ ++ (bs [(17, true), (21, true)] ++ [(67, ⟨.c (.int .i64 (2 + k + 1 : Nat)), none⟩)])⟩ (lpBy (rwLp 16 (35 :: 120 :: q) 2 n (2 + k))) 60 34 ([.c (str (35 :: 120 :: q))]) ([]))

theorem rbnA_1 (q u : List UInt8) (n : Int) (k : Nat) (p : Bool)  : rbnA_X q u n k p [(55, true)] = some ((AV.tu [(AV.c ((str ([])))),
 (AV.c ((Value.int .i64 0)))]), [(0 : Int) ≤ 0,
 (0 : Int) < ↑(35 :: 120 :: q).length,
 decide ((↑(35 :: 120 :: q).length : Int) > 1) = true,
 (0 : Int) ≤ 1,
 (1 : Int) < ↑(35 :: 120 :: q).length,
 (true) = true,
 ((lbody Tryd.prog (34 : FuncId) (10 : Nat) : Go.Code)) = (lbody Tryd.prog (34 : FuncId) (10 : Nat)),
 ((rwS (16 : Int) (35 :: 120 :: q) (↑(2 : Nat) : Int) (0 : Int) (2 : Nat) : Go.Proofs.YtfnappdgiomiiaaDoor.St)) = (rwS (16 : Int) (35 :: 120 :: q) (↑(2 : Nat) : Int) (0 : Int) (2 : Nat)),
 ((↑((2 : Nat) + k) : Int) == (↑(2 : Nat) : Int)) = true]) := by kernel_rfl

theorem rbnA_2 (q u : List UInt8) (n : Int) (k : Nat) (p : Bool)  : rbnA_X q u n k p [(55, false), (59, true), (64, true)] = some ((AV.tu [(AV.c ((str (numberF n)))),
 (AV.c ((Value.int .i64 ((↑((2 : Nat) + k + (1 : Nat)) : Int)))))]), [(0 : Int) ≤ 0,
 (0 : Int) < ↑(35 :: 120 :: q).length,
 decide ((↑(35 :: 120 :: q).length : Int) > 1) = true,
 (0 : Int) ≤ 1,
 (1 : Int) < ↑(35 :: 120 :: q).length,
 (true) = true,
 ((lbody Tryd.prog (34 : FuncId) (10 : Nat) : Go.Code)) = (lbody Tryd.prog (34 : FuncId) (10 : Nat)),
 ((rwS (16 : Int) (35 :: 120 :: q) (↑(2 : Nat) : Int) (0 : Int) (2 : Nat) : Go.Proofs.YtfnappdgiomiiaaDoor.St)) = (rwS (16 : Int) (35 :: 120 :: q) (↑(2 : Nat) : Int) (0 : Int) (2 : Nat)),
 ((↑((2 : Nat) + k) : Int) == (↑(2 : Nat) : Int)) = false,
 decide ((↑(2 + k) : Int) < ↑(35 :: 120 :: q).length) = true,
 (0 : Int) ≤ ↑(2 + k),
 (↑(2 + k) : Int) < ↑(35 :: 120 :: q).length,
 ((↑((35 :: 120 :: q).getD ((2 : Nat) + k) (0 : UInt8)).toNat : Int) == (59 : Int)) = true,
 (IntKind.i64.min : Int) ≤ ↑(2 + k) + 1,
 (↑(2 + k) + 1 : Int) ≤ IntKind.i64.max,
 (↑(2 + k) + 1 : Int) = ↑(2 + k + 1),
 (-9223372036854775808 : Int) ≤ n,
 (n : Int) ≤ 9223372036854775807]) := by kernel_rfl

theorem rbnA_3 (q u : List UInt8) (n : Int) (k : Nat) (p : Bool)  : rbnA_X q u n k p [(55, false), (59, true), (64, false)] = some ((AV.tu [(AV.c ((str (numberF n)))),
 (AV.c ((Value.int .i64 ((↑((2 : Nat) + k) : Int)))))]), [(0 : Int) ≤ 0,
 (0 : Int) < ↑(35 :: 120 :: q).length,
 decide ((↑(35 :: 120 :: q).length : Int) > 1) = true,
 (0 : Int) ≤ 1,
 (1 : Int) < ↑(35 :: 120 :: q).length,
 (true) = true,
 ((lbody Tryd.prog (34 : FuncId) (10 : Nat) : Go.Code)) = (lbody Tryd.prog (34 : FuncId) (10 : Nat)),
 ((rwS (16 : Int) (35 :: 120 :: q) (↑(2 : Nat) : Int) (0 : Int) (2 : Nat) : Go.Proofs.YtfnappdgiomiiaaDoor.St)) = (rwS (16 : Int) (35 :: 120 :: q) (↑(2 : Nat) : Int) (0 : Int) (2 : Nat)),
 ((↑((2 : Nat) + k) : Int) == (↑(2 : Nat) : Int)) = false,
 decide ((↑(2 + k) : Int) < ↑(35 :: 120 :: q).length) = true,
 (0 : Int) ≤ ↑(2 + k),
 (↑(2 + k) : Int) < ↑(35 :: 120 :: q).length,
 ((↑((35 :: 120 :: q).getD ((2 : Nat) + k) (0 : UInt8)).toNat : Int) == (59 : Int)) = false,
 (-9223372036854775808 : Int) ≤ n,
 (n : Int) ≤ 9223372036854775807]) := by kernel_rfl

theorem rbnA_4 (q u : List UInt8) (n : Int) (k : Nat) (p : Bool)  : rbnA_X q u n k p [(55, false), (59, false)] = some ((AV.tu [(AV.c ((str (numberF n)))),
 (AV.c ((Value.int .i64 ((↑((2 : Nat) + k) : Int)))))]), [(0 : Int) ≤ 0,
 (0 : Int) < ↑(35 :: 120 :: q).length,
 decide ((↑(35 :: 120 :: q).length : Int) > 1) = true,
 (0 : Int) ≤ 1,
 (1 : Int) < ↑(35 :: 120 :: q).length,
 (true) = true,
 ((lbody Tryd.prog (34 : FuncId) (10 : Nat) : Go.Code)) = (lbody Tryd.prog (34 : FuncId) (10 : Nat)),
 ((rwS (16 : Int) (35 :: 120 :: q) (↑(2 : Nat) : Int) (0 : Int) (2 : Nat) : Go.Proofs.YtfnappdgiomiiaaDoor.St)) = (rwS (16 : Int) (35 :: 120 :: q) (↑(2 : Nat) : Int) (0 : Int) (2 : Nat)),
 ((↑((2 : Nat) + k) : Int) == (↑(2 : Nat) : Int)) = false,
 decide ((↑(2 + k) : Int) < ↑(35 :: 120 :: q).length) = false,
 (-9223372036854775808 : Int) ≤ n,
 (n : Int) ≤ 9223372036854775807]) := by kernel_rfl

theorem rbnA_all (q u : List UInt8) (n : Int) (k : Nat) (p : Bool)  (hn : (runW 16 (q) 0).1 = n) (hk : (runW 16 (q) 0).2 = k) (hu : (q).drop k = u) (hp : preB [59] u = p) (n0 : 0 ≤ n) (n1 : n ≤ 1114112) (hkl : k ≤ q.length) (hl : q.length ≤ 9223372036854775790) (hu2 : List.drop (2 + k) (35 :: 120 :: q) = u) (hpt : k < q.length → ((((35 :: 120 :: q : List UInt8).getD (2 + k) 0).toNat : Int) == 59) = p) (hpf : ¬ k < q.length → p = false) (lL : (35 :: 120 :: q : List UInt8).length = q.length + 2) : ∃ (h : Hints) (p : List Prop), outcome Tryd.prog 34 (aBody Tryd.prog clRw h (lpBy (rwLp 16 (35 :: 120 :: q) 2 n (2 + k))) 60 34 ([.c (str (35 :: 120 :: q))]) ([])) = some (rT (tailR 16 2 (q)), p) ∧ allP p := by
  refine bcase ((↑((2 : Nat) + k) : Int) == (↑(2 : Nat) : Int)) (fun hc55 => ⟨_, _, (rbnA_1 q u n k p).trans (congrArg (fun r => some (r, _)) ?_), ?_⟩)
    (fun hc55 => bcase (decide ((↑((2 : Nat) + k) : Int) < (↑((35 : UInt8) :: (120 : UInt8) :: q).length : Int))) (fun hc59 => bcase ((↑(((35 : UInt8) :: (120 : UInt8) :: q).getD ((2 : Nat) + k) (0 : UInt8)).toNat : Int) == (59 : Int)) (fun hc64 => ⟨_, _, (rbnA_2 q u n k p).trans (congrArg (fun r => some (r, _)) ?_), ?_⟩)
    (fun hc64 => ⟨_, _, (rbnA_3 q u n k p).trans (congrArg (fun r => some (r, _)) ?_), ?_⟩))
    (fun hc59 => ⟨_, _, (rbnA_4 q u n k p).trans (congrArg (fun r => some (r, _)) ?_), ?_⟩))
  all_goals try simp only [dz] at hc55
  all_goals try simp only [dz] at hc59
  all_goals try simp only [dz] at hc64
  any_goals (
    rw [tailR_eq hn hk hu hp]
    first
      | (rw [if_pos (by omega)]; rfl)
      | (have e1 : p = true := by rw [← hpt (by omega)]; exact beq_iff_eq.2 hc64
         rw [if_neg (by omega), if_pos e1, rT_pos (by omega)])
      | (have e1 : p = false := by rw [← hpt (by omega)]; exact beq_eq_false_iff_ne.2 hc64
         rw [if_neg (by omega), e1, if_neg (by simp), rT_pos (by omega)])
      | (rw [if_neg (by omega), hpf (by omega), if_neg (by simp), rT_pos (by omega)])
    done)
  all_goals try simp (disch := omega) only [std]
  all_goals repeat' apply And.intro
  all_goals first | exact True.intro | omega | with_reducible rfl | with_reducible assumption | exact hn | exact hk | exact hu | exact hp | exact hu2 | exact lL | rfl


noncomputable def rbnB_X (q u : List UInt8) (n : Int) (k : Nat) (p : Bool)  (h_ : List (Nat × Bool)) := outcome Tryd.prog 34 (aBody Tryd.prog clRw ⟨true, bs h_ ++ (bs [(17, true), (21, false), (25, true)] ++ [(67, ⟨.c (.int .i64 (2 + k + 1 : Nat)), none⟩)])⟩ (lpBy (rwLp 16 (35 :: 88 :: q) 2 n (2 + k))) 60 34 ([.c (str (35 :: 88 :: q))]) ([]))

theorem rbnB_1 (q u : List UInt8) (n : Int) (k : Nat) (p : Bool)  : rbnB_X q u n k p [(55, true)] = some ((AV.tu [(AV.c ((str ([])))),
 (AV.c ((Value.int .i64 0)))]), [(0 : Int) ≤ 0,
 (0 : Int) < ↑(35 :: 88 :: q).length,
 decide ((↑(35 :: 88 :: q).length : Int) > 1) = true,
 (0 : Int) ≤ 1,
 (1 : Int) < ↑(35 :: 88 :: q).length,
 (false) = false,
 (0 : Int) ≤ 1,
 (1 : Int) < ↑(35 :: 88 :: q).length,
 (true) = true,
 ((lbody Tryd.prog (34 : FuncId) (10 : Nat) : Go.Code)) = (lbody Tryd.prog (34 : FuncId) (10 : Nat)),
 ((rwS (16 : Int) (35 :: 88 :: q) (↑(2 : Nat) : Int) (0 : Int) (2 : Nat) : Go.Proofs.YtfnappdgiomiiaaDoor.St)) = (rwS (16 : Int) (35 :: 88 :: q) (↑(2 : Nat) : Int) (0 : Int) (2 : Nat)),
 ((↑((2 : Nat) + k) : Int) == (↑(2 : Nat) : Int)) = true]) := by kernel_rfl

theorem rbnB_2 (q u : List UInt8) (n : Int) (k : Nat) (p : Bool)  : rbnB_X q u n k p [(55, false), (59, true), (64, true)] = some ((AV.tu [(AV.c ((str (numberF n)))),
 (AV.c ((Value.int .i64 ((↑((2 : Nat) + k + (1 : Nat)) : Int)))))]), [(0 : Int) ≤ 0,
 (0 : Int) < ↑(35 :: 88 :: q).length,
 decide ((↑(35 :: 88 :: q).length : Int) > 1) = true,
 (0 : Int) ≤ 1,
 (1 : Int) < ↑(35 :: 88 :: q).length,
 (false) = false,
 (0 : Int) ≤ 1,
 (1 : Int) < ↑(35 :: 88 :: q).length,
 (true) = true,
 ((lbody Tryd.prog (34 : FuncId) (10 : Nat) : Go.Code)) = (lbody Tryd.prog (34 : FuncId) (10 : Nat)),
 ((rwS (16 : Int) (35 :: 88 :: q) (↑(2 : Nat) : Int) (0 : Int) (2 : Nat) : Go.Proofs.YtfnappdgiomiiaaDoor.St)) = (rwS (16 : Int) (35 :: 88 :: q) (↑(2 : Nat) : Int) (0 : Int) (2 : Nat)),
 ((↑((2 : Nat) + k) : Int) == (↑(2 : Nat) : Int)) = false,
 decide ((↑(2 + k) : Int) < ↑(35 :: 88 :: q).length) = true,
 (0 : Int) ≤ ↑(2 + k),
 (↑(2 + k) : Int) < ↑(35 :: 88 :: q).length,
 ((↑((35 :: 88 :: q).getD ((2 : Nat) + k) (0 : UInt8)).toNat : Int) == (59 : Int)) = true,
 (IntKind.i64.min : Int) ≤ ↑(2 + k) + 1,
 (↑(2 + k) + 1 : Int) ≤ IntKind.i64.max,
 (↑(2 + k) + 1 : Int) = ↑(2 + k + 1),
 (-9223372036854775808 : Int) ≤ n,
 (n : Int) ≤ 9223372036854775807]) := by kernel_rfl

theorem rbnB_3 (q u : List UInt8) (n : Int) (k : Nat) (p : Bool)  : rbnB_X q u n k p [(55, false), (59, true), (64, false)] = some ((AV.tu [(AV.c ((str (numberF n)))),
 (AV.c ((Value.int .i64 ((↑((2 : Nat) + k) : Int)))))]), [(0 : Int) ≤ 0,
 (0 : Int) < ↑(35 :: 88 :: q).length,
 decide ((↑(35 :: 88 :: q).length : Int) > 1) = true,
 (0 : Int) ≤ 1,
 (1 : Int) < ↑(35 :: 88 :: q).length,
 (false) = false,
 (0 : Int) ≤ 1,
 (1 : Int) < ↑(35 :: 88 :: q).length,
 (true) = true,
 ((lbody Tryd.prog (34 : FuncId) (10 : Nat) : Go.Code)) = (lbody Tryd.prog (34 : FuncId) (10 : Nat)),
 ((rwS (16 : Int) (35 :: 88 :: q) (↑(2 : Nat) : Int) (0 : Int) (2 : Nat) : Go.Proofs.YtfnappdgiomiiaaDoor.St)) = (rwS (16 : Int) (35 :: 88 :: q) (↑(2 : Nat) : Int) (0 : Int) (2 : Nat)),
 ((↑((2 : Nat) + k) : Int) == (↑(2 : Nat) : Int)) = false,
 decide ((↑(2 + k) : Int) < ↑(35 :: 88 :: q).length) = true,
 (0 : Int) ≤ ↑(2 + k),
 (↑(2 + k) : Int) < ↑(35 :: 88 :: q).length,
 ((↑((35 :: 88 :: q).getD ((2 : Nat) + k) (0 : UInt8)).toNat : Int) == (59 : Int)) = false,
 (-9223372036854775808 : Int) ≤ n,
 (n : Int) ≤ 9223372036854775807]) := by kernel_rfl

theorem rbnB_4 (q u : List UInt8) (n : Int) (k : Nat) (p : Bool)  : rbnB_X q u n k p [(55, false), (59, false)] = some ((AV.tu [(AV.c ((str (numberF n)))),
 (AV.c ((Value.int .i64 ((↑((2 : Nat) + k) : Int)))))]), [(0 : Int) ≤ 0,
 (0 : Int) < ↑(35 :: 88 :: q).length,
 decide ((↑(35 :: 88 :: q).length : Int) > 1) = true,
 (0 : Int) ≤ 1,
 (1 : Int) < ↑(35 :: 88 :: q).length,
 (false) = false,
 (0 : Int) ≤ 1,
 (1 : Int) < ↑(35 :: 88 :: q).length,
 (true) = true,
 ((lbody Tryd.prog (34 : FuncId) (10 : Nat) : Go.Code)) = (lbody Tryd.prog (34 : FuncId) (10 : Nat)),
 ((rwS (16 : Int) (35 :: 88 :: q) (↑(2 : Nat) : Int) (0 : Int) (2 : Nat) : Go.Proofs.YtfnappdgiomiiaaDoor.St)) = (rwS (16 : Int) (35 :: 88 :: q) (↑(2 : Nat) : Int) (0 : Int) (2 : Nat)),
 ((↑((2 : Nat) + k) : Int) == (↑(2 : Nat) : Int)) = false,
 decide ((↑(2 + k) : Int) < ↑(35 :: 88 :: q).length) = false,
 (-9223372036854775808 : Int) ≤ n,
 (n : Int) ≤ 9223372036854775807]) := by kernel_rfl

theorem rbnB_all (q u : List UInt8) (n : Int) (k : Nat) (p : Bool)  (hn : (runW 16 (q) 0).1 = n) (hk : (runW 16 (q) 0).2 = k) (hu : (q).drop k = u) (hp : preB [59] u = p) (n0 : 0 ≤ n) (n1 : n ≤ 1114112) (hkl : k ≤ q.length) (hl : q.length ≤ 9223372036854775790) (hu2 : List.drop (2 + k) (35 :: 88 :: q) = u) (hpt : k < q.length → ((((35 :: 88 :: q : List UInt8).getD (2 + k) 0).toNat : Int) == 59) = p) (hpf : ¬ k < q.length → p = false) (lL : (35 :: 88 :: q : List UInt8).length = q.length + 2) : ∃ (h : Hints) (p : List Prop), outcome Tryd.prog 34 (aBody Tryd.prog clRw h (lpBy (rwLp 16 (35 :: 88 :: q) 2 n (2 + k))) 60 34 ([.c (str (35 :: 88 :: q))]) ([])) = some (rT (tailR 16 2 (q)), p) ∧ allP p := by
  refine bcase ((↑((2 : Nat) + k) : Int) == (↑(2 : Nat) : Int)) (fun hc55 => ⟨_, _, (rbnB_1 q u n k p).trans (congrArg (fun r => some (r, _)) ?_), ?_⟩)
    (fun hc55 => bcase (decide ((↑((2 : Nat) + k) : Int) < (↑((35 : UInt8) :: (88 : UInt8) :: q).length : Int))) (fun hc59 => bcase ((↑(((35 : UInt8) :: (88 : UInt8) :: q).getD ((2 : Nat) + k) (0 : UInt8)).toNat : Int) == (59 : Int)) (fun hc64 => ⟨_, _, (rbnB_2 q u n k p).trans (congrArg (fun r => some (r, _)) ?_), ?_⟩)
    (fun hc64 => ⟨_, _, (rbnB_3 q u n k p).trans (congrArg (fun r => some (r, _)) ?_), ?_⟩))
    (fun hc59 => ⟨_, _, (rbnB_4 q u n k p).trans (congrArg (fun r => some (r, _)) ?_), ?_⟩))
  all_goals try simp only [dz] at hc55
  all_goals try simp only [dz] at hc59
  all_goals try simp only [dz] at hc64
  any_goals (
    rw [tailR_eq hn hk hu hp]
    first
      | (rw [if_pos (by omega)]; rfl)
      | (have e1 : p = true := by rw [← hpt (by omega)]; exact beq_iff_eq.2 hc64
         rw [if_neg (by omega), if_pos e1, rT_pos (by omega)])
      | (have e1 : p = false := by rw [← hpt (by omega)]; exact beq_eq_false_iff_ne.2 hc64
         rw [if_neg (by omega), e1, if_neg (by simp), rT_pos (by omega)])
      | (rw [if_neg (by omega), hpf (by omega), if_neg (by simp), rT_pos (by omega)])
    done)
  all_goals try simp (disch := omega) only [std]
  all_goals repeat' apply And.intro
  all_goals first | exact True.intro | omega | with_reducible rfl | with_reducible assumption | exact hn | exact hk | exact hu | exact hp | exact hu2 | exact lL | rfl


noncomputable def rbnC_X (q u : List UInt8) (n : Int) (k : Nat) (p : Bool) (c : UInt8) (h_ : List (Nat × Bool)) := outcome Tryd.prog 34 (aBody Tryd.prog clRw ⟨true, bs h_ ++ (bs [(17, true), (21, false), (25, false)] ++ [(67, ⟨.c (.int .i64 (1 + k + 1 : Nat)), none⟩)])⟩ (lpBy (rwLp 10 (35 :: c :: q) 1 n (1 + k))) 60 34 ([.c (str (35 :: c :: q))]) ([]))

theorem rbnC_1 (q u : List UInt8) (n : Int) (k : Nat) (p : Bool) (c : UInt8) : rbnC_X q u n k p c [(55, true)] = some ((AV.tu [(AV.c ((str ([])))),
 (AV.c ((Value.int .i64 0)))]), [(0 : Int) ≤ 0,
 (0 : Int) < ↑(35 :: c :: q).length,
 decide ((↑(35 :: c :: q).length : Int) > 1) = true,
 (0 : Int) ≤ 1,
 (1 : Int) < ↑(35 :: c :: q).length,
 ((↑((35 :: c :: q).getD (Int.toNat (1 : Int)) (0 : UInt8)).toNat : Int) == (120 : Int)) = false,
 (0 : Int) ≤ 1,
 (1 : Int) < ↑(35 :: c :: q).length,
 ((↑((35 :: c :: q).getD (Int.toNat (1 : Int)) (0 : UInt8)).toNat : Int) == (88 : Int)) = false,
 ((lbody Tryd.prog (34 : FuncId) (10 : Nat) : Go.Code)) = (lbody Tryd.prog (34 : FuncId) (10 : Nat)),
 ((rwS (10 : Int) (35 :: c :: q) (↑(1 : Nat) : Int) (0 : Int) (1 : Nat) : Go.Proofs.YtfnappdgiomiiaaDoor.St)) = (rwS (10 : Int) (35 :: c :: q) (↑(1 : Nat) : Int) (0 : Int) (1 : Nat)),
 ((↑((1 : Nat) + k) : Int) == (↑(1 : Nat) : Int)) = true]) := by kernel_rfl

theorem rbnC_2 (q u : List UInt8) (n : Int) (k : Nat) (p : Bool) (c : UInt8) : rbnC_X q u n k p c [(55, false), (59, true), (64, true)] = some ((AV.tu [(AV.c ((str (numberF n)))),
 (AV.c ((Value.int .i64 ((↑((1 : Nat) + k + (1 : Nat)) : Int)))))]), [(0 : Int) ≤ 0,
 (0 : Int) < ↑(35 :: c :: q).length,
 decide ((↑(35 :: c :: q).length : Int) > 1) = true,
 (0 : Int) ≤ 1,
 (1 : Int) < ↑(35 :: c :: q).length,
 ((↑((35 :: c :: q).getD (Int.toNat (1 : Int)) (0 : UInt8)).toNat : Int) == (120 : Int)) = false,
 (0 : Int) ≤ 1,
 (1 : Int) < ↑(35 :: c :: q).length,
 ((↑((35 :: c :: q).getD (Int.toNat (1 : Int)) (0 : UInt8)).toNat : Int) == (88 : Int)) = false,
 ((lbody Tryd.prog (34 : FuncId) (10 : Nat) : Go.Code)) = (lbody Tryd.prog (34 : FuncId) (10 : Nat)),
 ((rwS (10 : Int) (35 :: c :: q) (↑(1 : Nat) : Int) (0 : Int) (1 : Nat) : Go.Proofs.YtfnappdgiomiiaaDoor.St)) = (rwS (10 : Int) (35 :: c :: q) (↑(1 : Nat) : Int) (0 : Int) (1 : Nat)),
 ((↑((1 : Nat) + k) : Int) == (↑(1 : Nat) : Int)) = false,
 decide ((↑(1 + k) : Int) < ↑(35 :: c :: q).length) = true,
 (0 : Int) ≤ ↑(1 + k),
 (↑(1 + k) : Int) < ↑(35 :: c :: q).length,
 ((↑((35 :: c :: q).getD ((1 : Nat) + k) (0 : UInt8)).toNat : Int) == (59 : Int)) = true,
 (IntKind.i64.min : Int) ≤ ↑(1 + k) + 1,
 (↑(1 + k) + 1 : Int) ≤ IntKind.i64.max,
 (↑(1 + k) + 1 : Int) = ↑(1 + k + 1),
 (-9223372036854775808 : Int) ≤ n,
 (n : Int) ≤ 9223372036854775807]) := by kernel_rfl

theorem rbnC_3 (q u : List UInt8) (n : Int) (k : Nat) (p : Bool) (c : UInt8) : rbnC_X q u n k p c [(55, false), (59, true), (64, false)] = some ((AV.tu [(AV.c ((str (numberF n)))),
 (AV.c ((Value.int .i64 ((↑((1 : Nat) + k) : Int)))))]), [(0 : Int) ≤ 0,
 (0 : Int) < ↑(35 :: c :: q).length,
 decide ((↑(35 :: c :: q).length : Int) > 1) = true,
 (0 : Int) ≤ 1,
 (1 : Int) < ↑(35 :: c :: q).length,
 ((↑((35 :: c :: q).getD (Int.toNat (1 : Int)) (0 : UInt8)).toNat : Int) == (120 : Int)) = false,
 (0 : Int) ≤ 1,
 (1 : Int) < ↑(35 :: c :: q).length,
 ((↑((35 :: c :: q).getD (Int.toNat (1 : Int)) (0 : UInt8)).toNat : Int) == (88 : Int)) = false,
 ((lbody Tryd.prog (34 : FuncId) (10 : Nat) : Go.Code)) = (lbody Tryd.prog (34 : FuncId) (10 : Nat)),
 ((rwS (10 : Int) (35 :: c :: q) (↑(1 : Nat) : Int) (0 : Int) (1 : Nat) : Go.Proofs.YtfnappdgiomiiaaDoor.St)) = (rwS (10 : Int) (35 :: c :: q) (↑(1 : Nat) : Int) (0 : Int) (1 : Nat)),
 ((↑((1 : Nat) + k) : Int) == (↑(1 : Nat) : Int)) = false,
 decide ((↑(1 + k) : Int) < ↑(35 :: c :: q).length) = true,
 (0 : Int) ≤ ↑(1 + k),
 (↑(1 + k) : Int) < ↑(35 :: c :: q).length,
 ((↑((35 :: c :: q).getD ((1 : Nat) + k) (0 : UInt8)).toNat : Int) == (59 : Int)) = false,
 (-9223372036854775808 : Int) ≤ n,
 (n : Int) ≤ 9223372036854775807]) := by kernel_rfl

theorem rbnC_4 (q u : List UInt8) (n : Int) (k : Nat) (p : Bool) (c : UInt8) : rbnC_X q u n k p c [(55, false), (59, false)] = some ((AV.tu [(AV.c ((str (numberF n)))),
 (AV.c ((Value.int .i64 ((↑((1 : Nat) + k) : Int)))))]), [(0 : Int) ≤ 0,
 (0 : Int) < ↑(35 :: c :: q).length,
 decide ((↑(35 :: c :: q).length : Int) > 1) = true,
 (0 : Int) ≤ 1,
 (1 : Int) < ↑(35 :: c :: q).length,
 ((↑((35 :: c :: q).getD (Int.toNat (1 : Int)) (0 : UInt8)).toNat : Int) == (120 : Int)) = false,
 (0 : Int) ≤ 1,
 (1 : Int) < ↑(35 :: c :: q).length,
 ((↑((35 :: c :: q).getD (Int.toNat (1 : Int)) (0 : UInt8)).toNat : Int) == (88 : Int)) = false,
 ((lbody Tryd.prog (34 : FuncId) (10 : Nat) : Go.Code)) = (lbody Tryd.prog (34 : FuncId) (10 : Nat)),
 ((rwS (10 : Int) (35 :: c :: q) (↑(1 : Nat) : Int) (0 : Int) (1 : Nat) : Go.Proofs.YtfnappdgiomiiaaDoor.St)) = (rwS (10 : Int) (35 :: c :: q) (↑(1 : Nat) : Int) (0 : Int) (1 : Nat)),
 ((↑((1 : Nat) + k) : Int) == (↑(1 : Nat) : Int)) = false,
 decide ((↑(1 + k) : Int) < ↑(35 :: c :: q).length) = false,
 (-9223372036854775808 : Int) ≤ n,
 (n : Int) ≤ 9223372036854775807]) := by kernel_rfl

theorem rbnC_all (q u : List UInt8) (n : Int) (k : Nat) (p : Bool) (c : UInt8) (hn : (runW 10 (c :: q) 0).1 = n) (hk : (runW 10 (c :: q) 0).2 = k) (hu : (c :: q).drop k = u) (hp : preB [59] u = p) (hc1 : ¬ (c.toNat : Int) = 120) (hc2 : ¬ (c.toNat : Int) = 88) (n0 : 0 ≤ n) (n1 : n ≤ 1114112) (hkl : k ≤ q.length + 1) (hl : q.length + 1 ≤ 9223372036854775790) (hu2 : List.drop (1 + k) (35 :: c :: q) = u) (hpt : k < q.length + 1 → ((((35 :: c :: q : List UInt8).getD (1 + k) 0).toNat : Int) == 59) = p) (hpf : ¬ k < q.length + 1 → p = false) (lL : (35 :: c :: q : List UInt8).length = q.length + 1 + 1) : ∃ (h : Hints) (p : List Prop), outcome Tryd.prog 34 (aBody Tryd.prog clRw h (lpBy (rwLp 10 (35 :: c :: q) 1 n (1 + k))) 60 34 ([.c (str (35 :: c :: q))]) ([])) = some (rT (tailR 10 1 (c :: q)), p) ∧ allP p := by
  refine bcase ((↑((1 : Nat) + k) : Int) == (↑(1 : Nat) : Int)) (fun hc55 => ⟨_, _, (rbnC_1 q u n k p c).trans (congrArg (fun r => some (r, _)) ?_), ?_⟩)
    (fun hc55 => bcase (decide ((↑((1 : Nat) + k) : Int) < (↑((35 : UInt8) :: c :: q).length : Int))) (fun hc59 => bcase ((↑(((35 : UInt8) :: c :: q).getD ((1 : Nat) + k) (0 : UInt8)).toNat : Int) == (59 : Int)) (fun hc64 => ⟨_, _, (rbnC_2 q u n k p c).trans (congrArg (fun r => some (r, _)) ?_), ?_⟩)
    (fun hc64 => ⟨_, _, (rbnC_3 q u n k p c).trans (congrArg (fun r => some (r, _)) ?_), ?_⟩))
    (fun hc59 => ⟨_, _, (rbnC_4 q u n k p c).trans (congrArg (fun r => some (r, _)) ?_), ?_⟩))
  all_goals try simp only [dz] at hc55
  all_goals try simp only [dz] at hc59
  all_goals try simp only [dz] at hc64
  any_goals (
    rw [tailR_eq hn hk hu hp]
    first
      | (rw [if_pos (by omega)]; rfl)
      | (have e1 : p = true := by rw [← hpt (by omega)]; exact beq_iff_eq.2 hc64
         rw [if_neg (by omega), if_pos e1, rT_pos (by omega)])
      | (have e1 : p = false := by rw [← hpt (by omega)]; exact beq_eq_false_iff_ne.2 hc64
         rw [if_neg (by omega), e1, if_neg (by simp), rT_pos (by omega)])
      | (rw [if_neg (by omega), hpf (by omega), if_neg (by simp), rT_pos (by omega)])
    done)
  all_goals try simp (disch := omega) only [std]
  all_goals repeat' apply And.intro
  all_goals first | exact True.intro | omega | with_reducible rfl | with_reducible assumption | exact hn | exact hk | exact hu | exact hp | exact hc1 | exact hc2 | exact hu2 | exact lL | rfl


noncomputable def rbnD_X (q u : List UInt8) (n : Int) (k : Nat) (p : Bool)  (h_ : List (Nat × Bool)) := outcome Tryd.prog 34 (aBody Tryd.prog clRw ⟨true, bs h_ ++ (bs [] ++ [(67, ⟨.c (.int .i64 (1 + k + 1 : Nat)), none⟩)])⟩ (lpBy (rwLp 10 ([35]) 1 n (1 + k))) 60 34 ([.c (str ([35]))]) ([]))

theorem rbnD_1 (q u : List UInt8) (n : Int) (k : Nat) (p : Bool)  : rbnD_X q u n k p [(55, true)] = some ((AV.tu [(AV.c ((str ([])))),
 (AV.c ((Value.int .i64 0)))]), [(0 : Int) ≤ 0,
 (0 : Int) < ↑(1 : Nat),
 ((lbody Tryd.prog (34 : FuncId) (10 : Nat) : Go.Code)) = (lbody Tryd.prog (34 : FuncId) (10 : Nat)),
 ((rwS (10 : Int) [(35 : UInt8)] (↑(1 : Nat) : Int) (0 : Int) (1 : Nat) : Go.Proofs.YtfnappdgiomiiaaDoor.St)) = (rwS (10 : Int) [(35 : UInt8)] (↑(1 : Nat) : Int) (0 : Int) (1 : Nat)),
 ((↑((1 : Nat) + k) : Int) == (↑(1 : Nat) : Int)) = true]) := by kernel_rfl

theorem rbnD_all (q u : List UInt8) (n : Int) (k : Nat) (p : Bool)  (hn : (runW 10 ([]) 0).1 = n) (hk : (runW 10 ([]) 0).2 = k) (hu : ([]).drop k = u) (hp : preB [59] u = p) (n0 : 0 ≤ n) (n1 : n ≤ 1114112) (hkl : k ≤ 0) (hl : 0 ≤ 9223372036854775790) (hu2 : List.drop (1 + k) ([35]) = u) (hpt : k < 0 → (((([35] : List UInt8).getD (1 + k) 0).toNat : Int) == 59) = p) (hpf : ¬ k < 0 → p = false) (lL : ([35] : List UInt8).length = 0 + 1) : ∃ (h : Hints) (p : List Prop), outcome Tryd.prog 34 (aBody Tryd.prog clRw h (lpBy (rwLp 10 ([35]) 1 n (1 + k))) 60 34 ([.c (str ([35]))]) ([])) = some (rT (tailR 10 1 ([])), p) ∧ allP p := by
  refine ⟨_, _, (rbnD_1 q u n k p).trans (congrArg (fun r => some (r, _)) ?_), ?_⟩
  any_goals (
    rw [tailR_eq hn hk hu hp]
    first
      | (rw [if_pos (by omega)]; rfl)
      | (have e1 : p = true := by rw [← hpt (by omega)]; exact beq_iff_eq.2 hc64
         rw [if_neg (by omega), if_pos e1, rT_pos (by omega)])
      | (have e1 : p = false := by rw [← hpt (by omega)]; exact beq_eq_false_iff_ne.2 hc64
         rw [if_neg (by omega), e1, if_neg (by simp), rT_pos (by omega)])
      | (rw [if_neg (by omega), hpf (by omega), if_neg (by simp), rT_pos (by omega)])
    done)
  all_goals try simp (disch := omega) only [std]
  all_goals repeat' apply And.intro
  all_goals first | exact True.intro | omega | with_reducible rfl | with_reducible assumption | exact hn | exact hk | exact hu | exact hp | exact hu2 | exact lL | rfl


def rnumSpec : Spec
  | [.c (.string s)] => some (rT (if (sb s).headD 0 = 35 then byNum ((sb s).drop 1) else ([], 0)), [(sb s).length ≤ 9223372036854775790])
  | _ => none

noncomputable def rbn0_X  (h_ : List (Nat × Bool)) := outcome Tryd.prog 34 (aBody Tryd.prog clRw ⟨true, bs h_ ++ ([])⟩ (lpBy ([])) 60 34 ([.c (str [])]) ([]))

theorem rbn0_1  : rbn0_X  [] = some ((AV.tu [(AV.c ((str ([])))),
 (AV.c ((Value.int .i64 0)))]), []) := by kernel_rfl

theorem rbn0_all   : ∃ (h : Hints) (p : List Prop), outcome Tryd.prog 34 (aBody Tryd.prog clRw h (lpBy ([])) 60 34 ([.c (str [])]) ([])) = some (rT ([], 0), p) ∧ allP p := by
  refine ⟨_, _, (rbn0_1 ).trans (congrArg (fun r => some (r, _)) (by first | rfl | (simp (disch := omega) only [std]; done))), ?_⟩
  all_goals try simp (disch := omega) only [std]
  all_goals repeat' apply And.intro
  all_goals first | exact True.intro | omega | with_reducible rfl | with_reducible assumption | rfl

noncomputable def rbn1_X (c : UInt8) (r : List UInt8) (h_ : List (Nat × Bool)) := outcome Tryd.prog 34 (aBody Tryd.prog clRw ⟨true, bs h_ ++ (bs [(9, false), (13, true)])⟩ (lpBy ([])) 60 34 ([.c (str (c :: r))]) ([]))

theorem rbn1_1 (c : UInt8) (r : List UInt8) : rbn1_X c r [] = some ((AV.tu [(AV.c ((str ([])))),
 (AV.c ((Value.int .i64 0)))]), [(false) = false,
 (0 : Int) ≤ 0,
 (0 : Int) < ↑(c :: r).length,
 ((↑((c :: r).getD (Int.toNat (0 : Int)) (0 : UInt8)).toNat : Int) != (35 : Int)) = true]) := by kernel_rfl

theorem rbn1_all (c : UInt8) (r : List UInt8) (hc : ¬ (c.toNat : Int) = 35) : ∃ (h : Hints) (p : List Prop), outcome Tryd.prog 34 (aBody Tryd.prog clRw h (lpBy ([])) 60 34 ([.c (str (c :: r))]) ([])) = some (rT ([], 0), p) ∧ allP p := by
  refine ⟨_, _, (rbn1_1 c r).trans (congrArg (fun r => some (r, _)) (by first | rfl | (simp (disch := omega) only [std]; done))), ?_⟩
  all_goals try simp (disch := omega) only [std]
  all_goals repeat' apply And.intro
  all_goals first | exact True.intro | omega | with_reducible rfl | with_reducible assumption | decide | exact hc | rfl

theorem rnum_ok : SpecOK Tryd.prog 34 rnumSpec := by
  refine spec_of mixed clRw_ok fun args r q hs hq => ?_
  unfold rnumSpec at hs
  split at hs
  · rename_i l
    simp only [Option.some.injEq, Prod.mk.injEq] at hs
    obtain ⟨rfl, rfl⟩ := hs
    obtain ⟨⟨⟨l⟩⟩, rfl⟩ : ∃ b : ByteArray, b = l := ⟨l, rfl⟩
    simp only [sb_mk, allP, and_true] at hq ⊢
    have bd10 := fun l : List UInt8 => runW_bd (b := 10) (by omega) (by omega) l 0 (by omega) (by omega)
    have bd16 := fun l : List UInt8 => runW_bd (b := 16) (by omega) (by omega) l 0 (by omega) (by omega)
    match l, hq with
    | [], _ =>
      obtain ⟨hh, q, e, hp⟩ := rbn0_all
      exact ⟨_, _, _, _, lpBy_nil, e, hp⟩
    | d :: r, h2 =>
      simp only [List.headD_cons, List.drop_one, List.tail_cons]
      by_cases hd : d = 35
      · subst hd
        rw [if_pos rfl]
        match r, h2 with
        | [], _ =>
          obtain ⟨hh, p, e, hp⟩ := rbnD_all [] [] 0 0 false rfl rfl rfl rfl (by omega) (by omega) (by omega) (by omega) rfl (fun h => absurd h (by omega)) (fun _ => rfl) rfl
          exact ⟨_, _, _, _, lpBy_cons lpBy_nil List.nodup_nil (rw_walk 10 (by omega) (by omega) [35] 1 (by simp) (by simp)), e, hp⟩
        | c :: q, h2 =>
          simp only [List.length_cons] at h2
          by_cases c1 : c = 120
          · subst c1
            have hk := runW_le 16 q 0
            have hs := semi_at (l := 35 :: 120 :: q) (i := 2 + (runW 16 q 0).2) rfl rfl
            simp only [List.length_cons] at hs
            obtain ⟨hh, p, e, hp⟩ := rbnA_all q _ _ _ _ rfl rfl (by rw [Nat.add_comm]; rfl) rfl (bd16 q).1 (bd16 q).2 hk (by omega) rfl (fun h => hs.1 (by omega)) (fun h => hs.2 (by omega)) rfl
            exact ⟨_, _, _, _, lpBy_cons lpBy_nil List.nodup_nil (rw_walk 16 (by omega) (by omega) (35 :: 120 :: q) 2 (by simp) (by simp only [List.length_cons]; omega)), e, hp⟩
          · by_cases c2 : c = 88
            · subst c2
              have hk := runW_le 16 q 0
              have hs := semi_at (l := 35 :: 88 :: q) (i := 2 + (runW 16 q 0).2) rfl rfl
              simp only [List.length_cons] at hs
              obtain ⟨hh, p, e, hp⟩ := rbnB_all q _ _ _ _ rfl rfl (by rw [Nat.add_comm]; rfl) rfl (bd16 q).1 (bd16 q).2 hk (by omega) rfl (fun h => hs.1 (by omega)) (fun h => hs.2 (by omega)) rfl
              exact ⟨_, _, _, _, lpBy_cons lpBy_nil List.nodup_nil (rw_walk 16 (by omega) (by omega) (35 :: 88 :: q) 2 (by simp) (by simp only [List.length_cons]; omega)), e, hp⟩
            · rw [byNum_other c1 c2]
              have hk := runW_le 10 (c :: q) 0
              have hs := semi_at (l := 35 :: c :: q) (i := 1 + (runW 10 (c :: q) 0).2) rfl rfl
              simp only [List.length_cons] at hs hk
              obtain ⟨hh, p, e, hp⟩ := rbnC_all q _ _ _ _ c rfl rfl (by rw [Nat.add_comm]; rfl) rfl (u8_ne (k := 120) (by decide) c1) (u8_ne (k := 88) (by decide) c2) (bd10 (c :: q)).1 (bd10 (c :: q)).2 hk (by omega) rfl (fun h => hs.1 (by omega)) (fun h => hs.2 (by omega)) rfl
              exact ⟨_, _, _, _, lpBy_cons lpBy_nil List.nodup_nil (rw_walk 10 (by omega) (by omega) (35 :: c :: q) 1 (by simp) (by simp only [List.length_cons]; omega)), e, hp⟩
      · rw [if_neg hd]
        obtain ⟨hh, q, e, hp⟩ := rbn1_all d r (u8_ne (k := 35) (by decide) hd)
        exact ⟨_, _, _, _, lpBy_nil, e, hp⟩
  · simp at hs

end Go.Proofs.YtfnappdgiomiiaaDoor
