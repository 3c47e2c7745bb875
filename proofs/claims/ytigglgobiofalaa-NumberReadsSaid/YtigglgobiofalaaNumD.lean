/- Powers of ten; the float's ways: the document's own. -/
import Derived.Test.YtigglgobiofalaaNumC
namespace Go.Proofs.Ytigglgobiofalaa
open Go.RowKit Num
set_option linter.unusedVariables false
set_option linter.unusedSimpArgs false

/-- The word of 10^i. -/
def pwB : Nat → Nat
  | 0 => 4607182418800017408
  | i + 1 => (floatBits .mul .f64 (pwB i) 4621819117588971520).getD 0

theorem pw_inf : ∀ j : Nat, pwB (309 + j) = 9218868437227405312
  | 0 => by decide +kernel
  | j + 1 => by
    show (floatBits .mul .f64 (pwB (309 + j)) 4621819117588971520).getD 0 = _
    rw [pw_inf j]
    decide +kernel

theorem pw_some (i : Nat) : (floatBits .mul .f64 (pwB i) 4621819117588971520).isSome = true := by
  by_cases h : i < 309
  · have : ∀ i : Fin 309, (floatBits .mul .f64 (pwB i.val) 4621819117588971520).isSome = true := by decide +kernel
    exact this ⟨i, h⟩
  · have e : i = 309 + (i - 309) := by omega
    rw [e, pw_inf]
    decide +kernel

noncomputable def clF : CallT := aCall Try.prog (sgBy [(10, wholeSpec), (20, digitsSpec), (21, expoSpec)]) 500 8
theorem clF_ok : CallOK Try.prog clF := aCall_ok mixed (sgBy_cons rwhole_ok (sgBy_cons rdigits_ok (sgBy_cons rexpo_ok sgBy_nil))) 500 8

def pwS (m : Bool) (v e : Int) (x i : Nat) : St := ⟨frame 119 [(4, .c (.bool m)), (8, .c (.int .i64 v)), (12, .c (.int .i64 e)), (13, .c (.float .f64 x)), (14, .c (.int .i64 i))], []⟩

theorem rp_1 (m : Bool) (v e : Int) (x i : Nat) : roundOut (⟨[], [4, 8, 12, 13, 14], []⟩) (aCode Try.prog clF ⟨true, bs [(90, true)] ++ ([])⟩ (lpBy ([])) 60 (lbody Try.prog 12 21) (pwS m v e x i)) = some (.normal, pwS m v e ((floatBits .mul .f64 x 4621819117588971520).getD 0) (i + 1), [((decide ((↑i : Int) < e) : Bool)) = (true),
 (((floatBits BinOp.mul FloatKind.f64 x (4621819117588971520 : Nat)).isSome : Bool)) = (true),
 ((IntKind.i64.min : Int) ≤ ((↑i : Int) + (1 : Int))),
 (((↑i : Int) + (1 : Int) : Int) ≤ (IntKind.i64.max))]) := by kernel_rfl

theorem rp_2 (m : Bool) (v e : Int) (x i : Nat) : roundOut (⟨[], [4, 8, 12, 13, 14], []⟩) (aCode Try.prog clF ⟨true, bs [(90, false), (95, true)] ++ ([])⟩ (lpBy ([])) 60 (lbody Try.prog 12 21) (pwS m v e x i)) = some (.normal, pwS m v e ((floatBits .mul .f64 x 4621819117588971520).getD 0) (i + 1), [((decide ((↑i : Int) < e) : Bool)) = (false),
 ((decide ((↑i : Int) < IntKind.i64.wrap ((0 : Int) - e)) : Bool)) = (true),
 (((floatBits BinOp.mul FloatKind.f64 x (4621819117588971520 : Nat)).isSome : Bool)) = (true),
 ((IntKind.i64.min : Int) ≤ ((↑i : Int) + (1 : Int))),
 (((↑i : Int) + (1 : Int) : Int) ≤ (IntKind.i64.max))]) := by kernel_rfl

theorem rp_3 (m : Bool) (v e : Int) (x i : Nat) : roundOut (⟨[], [4, 8, 12, 13, 14], []⟩) (aCode Try.prog clF ⟨true, bs [(90, false), (95, false)] ++ ([])⟩ (lpBy ([])) 60 (lbody Try.prog 12 21) (pwS m v e x i)) = some (.exit 0, pwS m v e x i, [((decide ((↑i : Int) < e) : Bool)) = (false),
 ((decide ((↑i : Int) < IntKind.i64.wrap ((0 : Int) - e)) : Bool)) = (false)]) := by kernel_rfl

theorem rp_walk (m : Bool) (v e : Int) (h : e.natAbs ≤ 2000000000) : Tri Ext0 Try.prog (.loop (lbody Try.prog 12 21)) (pwS m v e (pwB 0) 0) (.exit 0) (pwS m v e (pwB e.natAbs) e.natAbs) := by
  have hw : IntKind.i64.wrap (0 - e) = 0 - e := i64_wrap (by omega) (by omega)
  refine loop_up mixed clF_ok (fun i => pwS m v e (pwB i) i) e.natAbs (by simp) (fun i hi => ?_) ?_ 0 (Nat.zero_le _)
  · have h1 := pw_some i
    by_cases hc : (i : Int) < e
    · refine ⟨_, _, _, _, _, lpBy_nil, List.nodup_nil, rp_1 m v e (pwB i) i, ?_⟩
      simp only [allP, and_true, decide_eq_true_eq, decide_eq_false_iff_not, i64_min, i64_max, hw]
      repeat' apply And.intro
      all_goals first | exact h1 | omega
    · refine ⟨_, _, _, _, _, lpBy_nil, List.nodup_nil, rp_2 m v e (pwB i) i, ?_⟩
      simp only [allP, and_true, decide_eq_true_eq, decide_eq_false_iff_not, i64_min, i64_max, hw]
      repeat' apply And.intro
      all_goals first | exact h1 | omega
  · refine ⟨_, _, _, _, _, lpBy_nil, List.nodup_nil, rp_3 m v e (pwB e.natAbs) e.natAbs, ?_⟩
    simp only [allP, and_true, decide_eq_true_eq, decide_eq_false_iff_not, i64_min, i64_max, hw]
    repeat' apply And.intro
    all_goals omega

noncomputable def rfLp (m : Bool) (v e : Int) : List (Nat × Lp) := [(21, ⟨lbody Try.prog 12 21, ⟨[], [4, 8, 12, 13, 14], []⟩, pwS m v e (pwB 0) 0, .exit 0, pwS m v e (pwB e.natAbs) e.natAbs⟩)]

def wordF (m : Bool) (v e : Int) : Nat :=
  if m = true ∧ v ≠ 0 then Op.negFloat .f64 (if e < 0 then (floatBits .quo .f64 (floatOfInt .f64 v) (pwB e.natAbs)).getD 0 else (floatBits .mul .f64 (floatOfInt .f64 v) (pwB e.natAbs)).getD 0)
  else if e < 0 then (floatBits .quo .f64 (floatOfInt .f64 v) (pwB e.natAbs)).getD 0 else (floatBits .mul .f64 (floatOfInt .f64 v) (pwB e.natAbs)).getD 0
/-- No step on the way is a NaN. -/
def wOKs (v e : Int) : Prop := -22 ≤ e → e ≤ 22 → (e < 0 → (floatBits .quo .f64 (floatOfInt .f64 v) (pwB e.natAbs)).isSome = true) ∧ (¬ e < 0 → (floatBits .mul .f64 (floatOfInt .f64 v) (pwB e.natAbs)).isSome = true)
def fltG (m ok ox : Bool) (len : Nat) (v e : Int) : AV := if ok = true ∧ ox = true ∧ len ≤ 15 ∧ -22 ≤ e ∧ e ≤ 22 then .tu [.c (.float .f64 (wordF m v e)), .c (.bool true)] else .tu [.c (.float .f64 0), .c (.bool false)]

theorem rfPt_1 (b d z a w : List UInt8) (v x e : Int) (k n : Nat) (ok ox : Bool) : outcome Try.prog 12 (aBody Try.prog clF ⟨true, bs [(70, true)] ++ (bs [(35, true), (39, true), (45, false)] ++ [(25, ⟨.c (str b), none⟩),(27, ⟨.c (.int .i64 n), none⟩), (30, ⟨.c (str d), none⟩), (33, ⟨.c (str (46 :: z)), none⟩), (42, ⟨.c (str z), none⟩), (43, ⟨.c (.int .i64 k), none⟩), (51, ⟨.c (str a), none⟩), (55, ⟨.c (str w), none⟩), (59, ⟨.c (.int .i64 v), none⟩), (60, ⟨.c (.bool ok), none⟩), (64, ⟨.c (.int .i64 x), none⟩), (65, ⟨.c (.bool ox), none⟩), (68, ⟨.c (.int .i64 e), none⟩)])⟩ (lpBy (rfLp true v e)) 60 12 ([.c (str (45 :: b))]) ([])) = some ((AV.tu [(AV.c ((Value.float .f64 0))),
 (AV.c ((Value.bool false)))]), [(((0 : Int) : Int) ≤ ((0 : Int))),
 (((0 : Int) : Int) < ((↑((45 : UInt8) :: b).length : Int))),
 (((0 : Int) : Int) ≤ ((1 : Int))),
 (((1 : Int) : Int) ≤ ((↑((45 : UInt8) :: b).length : Int))),
 (((↑((45 : UInt8) :: b).length : Int) : Int) ≤ ((↑((45 : UInt8) :: b).length : Int))),
 ((List.drop (Int.toNat (1 : Int)) (List.take ((45 : UInt8) :: b).length ((45 : UInt8) :: b)) : List UInt8)) = (b),
 ((b.length : Nat) ≤ ((1000000000 : Nat))),
 (((↑(ldD b) : Int) : Int)) = ((↑n : Int)),
 (((0 : Int) : Int) ≤ ((0 : Int))),
 (((0 : Int) : Int) ≤ ((↑n : Int))),
 (((↑n : Int) : Int) ≤ ((↑b.length : Int))),
 ((List.drop (Int.toNat (0 : Int)) (List.take n b) : List UInt8)) = (d),
 (((0 : Int) : Int) ≤ ((↑n : Int))),
 (((↑n : Int) : Int) ≤ ((↑b.length : Int))),
 (((↑b.length : Int) : Int) ≤ ((↑b.length : Int))),
 ((List.drop n (List.take b.length b) : List UInt8)) = ((46 : UInt8) :: z),
 ((true : Bool)) = (true),
 (((0 : Int) : Int) ≤ ((0 : Int))),
 (((0 : Int) : Int) < ((↑((46 : UInt8) :: z).length : Int))),
 ((true : Bool)) = (true),
 (((0 : Int) : Int) ≤ ((1 : Int))),
 (((1 : Int) : Int) ≤ ((↑((46 : UInt8) :: z).length : Int))),
 (((↑((46 : UInt8) :: z).length : Int) : Int) ≤ ((↑((46 : UInt8) :: z).length : Int))),
 ((List.drop (Int.toNat (1 : Int)) (List.take ((46 : UInt8) :: z).length ((46 : UInt8) :: z)) : List UInt8)) = (z),
 ((z.length : Nat) ≤ ((1000000000 : Nat))),
 (((↑(ldD z) : Int) : Int)) = ((↑k : Int)),
 (((↑k : Int) == (0 : Int) : Bool)) = (false),
 ((IntKind.i64.min : Int) ≤ ((1 : Int) + (↑k : Int))),
 (((1 : Int) + (↑k : Int) : Int) ≤ (IntKind.i64.max)),
 (((0 : Int) : Int) ≤ ((1 : Int))),
 (((1 : Int) : Int) ≤ ((1 : Int) + (↑k : Int))),
 (((1 : Int) + (↑k : Int) : Int) ≤ ((↑((46 : UInt8) :: z).length : Int))),
 ((d.length + (List.drop (Int.toNat (1 : Int)) (List.take ((1 : Int) + (↑k : Int)).toNat ((46 : UInt8) :: z))).length : Nat) ≤ ((9223372036854775807 : Nat))),
 ((d ++ List.drop (Int.toNat (1 : Int)) (List.take ((1 : Int) + (↑k : Int)).toNat ((46 : UInt8) :: z)) : List UInt8)) = (a),
 ((IntKind.i64.min : Int) ≤ ((1 : Int) + (↑k : Int))),
 (((1 : Int) + (↑k : Int) : Int) ≤ (IntKind.i64.max)),
 (((0 : Int) : Int) ≤ ((1 : Int) + (↑k : Int))),
 (((1 : Int) + (↑k : Int) : Int) ≤ ((↑((46 : UInt8) :: z).length : Int))),
 (((↑((46 : UInt8) :: z).length : Int) : Int) ≤ ((↑((46 : UInt8) :: z).length : Int))),
 ((List.drop ((1 : Int) + (↑k : Int)).toNat (List.take ((46 : UInt8) :: z).length ((46 : UInt8) :: z)) : List UInt8)) = (w),
 ((a.length : Nat) ≤ ((1000000000 : Nat))),
 (((↑(wV a) : Int) : Int)) = (v),
 ((wOK a : Bool)) = (ok),
 ((w.length : Nat) ≤ ((999999990 : Nat))),
 (((expoF (sb { data := { toList := w } })).getD (0 : Int) : Int)) = (x),
 (((expoF (sb { data := { toList := w } })).isSome : Bool)) = (ox),
 ((IntKind.i64.min : Int) ≤ (x - (↑k : Int))),
 ((x - (↑k : Int) : Int) ≤ (IntKind.i64.max)),
 ((x - (↑k : Int) : Int)) = (e),
 ((!ok : Bool)) = (true)]) := by kernel_rfl

theorem rfPt_2 (b d z a w : List UInt8) (v x e : Int) (k n : Nat) (ok ox : Bool) : outcome Try.prog 12 (aBody Try.prog clF ⟨true, bs [(70, false), (73, true)] ++ (bs [(35, true), (39, true), (45, false)] ++ [(25, ⟨.c (str b), none⟩),(27, ⟨.c (.int .i64 n), none⟩), (30, ⟨.c (str d), none⟩), (33, ⟨.c (str (46 :: z)), none⟩), (42, ⟨.c (str z), none⟩), (43, ⟨.c (.int .i64 k), none⟩), (51, ⟨.c (str a), none⟩), (55, ⟨.c (str w), none⟩), (59, ⟨.c (.int .i64 v), none⟩), (60, ⟨.c (.bool ok), none⟩), (64, ⟨.c (.int .i64 x), none⟩), (65, ⟨.c (.bool ox), none⟩), (68, ⟨.c (.int .i64 e), none⟩)])⟩ (lpBy (rfLp true v e)) 60 12 ([.c (str (45 :: b))]) ([])) = some ((AV.tu [(AV.c ((Value.float .f64 0))),
 (AV.c ((Value.bool false)))]), [(((0 : Int) : Int) ≤ ((0 : Int))),
 (((0 : Int) : Int) < ((↑((45 : UInt8) :: b).length : Int))),
 (((0 : Int) : Int) ≤ ((1 : Int))),
 (((1 : Int) : Int) ≤ ((↑((45 : UInt8) :: b).length : Int))),
 (((↑((45 : UInt8) :: b).length : Int) : Int) ≤ ((↑((45 : UInt8) :: b).length : Int))),
 ((List.drop (Int.toNat (1 : Int)) (List.take ((45 : UInt8) :: b).length ((45 : UInt8) :: b)) : List UInt8)) = (b),
 ((b.length : Nat) ≤ ((1000000000 : Nat))),
 (((↑(ldD b) : Int) : Int)) = ((↑n : Int)),
 (((0 : Int) : Int) ≤ ((0 : Int))),
 (((0 : Int) : Int) ≤ ((↑n : Int))),
 (((↑n : Int) : Int) ≤ ((↑b.length : Int))),
 ((List.drop (Int.toNat (0 : Int)) (List.take n b) : List UInt8)) = (d),
 (((0 : Int) : Int) ≤ ((↑n : Int))),
 (((↑n : Int) : Int) ≤ ((↑b.length : Int))),
 (((↑b.length : Int) : Int) ≤ ((↑b.length : Int))),
 ((List.drop n (List.take b.length b) : List UInt8)) = ((46 : UInt8) :: z),
 ((true : Bool)) = (true),
 (((0 : Int) : Int) ≤ ((0 : Int))),
 (((0 : Int) : Int) < ((↑((46 : UInt8) :: z).length : Int))),
 ((true : Bool)) = (true),
 (((0 : Int) : Int) ≤ ((1 : Int))),
 (((1 : Int) : Int) ≤ ((↑((46 : UInt8) :: z).length : Int))),
 (((↑((46 : UInt8) :: z).length : Int) : Int) ≤ ((↑((46 : UInt8) :: z).length : Int))),
 ((List.drop (Int.toNat (1 : Int)) (List.take ((46 : UInt8) :: z).length ((46 : UInt8) :: z)) : List UInt8)) = (z),
 ((z.length : Nat) ≤ ((1000000000 : Nat))),
 (((↑(ldD z) : Int) : Int)) = ((↑k : Int)),
 (((↑k : Int) == (0 : Int) : Bool)) = (false),
 ((IntKind.i64.min : Int) ≤ ((1 : Int) + (↑k : Int))),
 (((1 : Int) + (↑k : Int) : Int) ≤ (IntKind.i64.max)),
 (((0 : Int) : Int) ≤ ((1 : Int))),
 (((1 : Int) : Int) ≤ ((1 : Int) + (↑k : Int))),
 (((1 : Int) + (↑k : Int) : Int) ≤ ((↑((46 : UInt8) :: z).length : Int))),
 ((d.length + (List.drop (Int.toNat (1 : Int)) (List.take ((1 : Int) + (↑k : Int)).toNat ((46 : UInt8) :: z))).length : Nat) ≤ ((9223372036854775807 : Nat))),
 ((d ++ List.drop (Int.toNat (1 : Int)) (List.take ((1 : Int) + (↑k : Int)).toNat ((46 : UInt8) :: z)) : List UInt8)) = (a),
 ((IntKind.i64.min : Int) ≤ ((1 : Int) + (↑k : Int))),
 (((1 : Int) + (↑k : Int) : Int) ≤ (IntKind.i64.max)),
 (((0 : Int) : Int) ≤ ((1 : Int) + (↑k : Int))),
 (((1 : Int) + (↑k : Int) : Int) ≤ ((↑((46 : UInt8) :: z).length : Int))),
 (((↑((46 : UInt8) :: z).length : Int) : Int) ≤ ((↑((46 : UInt8) :: z).length : Int))),
 ((List.drop ((1 : Int) + (↑k : Int)).toNat (List.take ((46 : UInt8) :: z).length ((46 : UInt8) :: z)) : List UInt8)) = (w),
 ((a.length : Nat) ≤ ((1000000000 : Nat))),
 (((↑(wV a) : Int) : Int)) = (v),
 ((wOK a : Bool)) = (ok),
 ((w.length : Nat) ≤ ((999999990 : Nat))),
 (((expoF (sb { data := { toList := w } })).getD (0 : Int) : Int)) = (x),
 (((expoF (sb { data := { toList := w } })).isSome : Bool)) = (ox),
 ((IntKind.i64.min : Int) ≤ (x - (↑k : Int))),
 ((x - (↑k : Int) : Int) ≤ (IntKind.i64.max)),
 ((x - (↑k : Int) : Int)) = (e),
 ((!ok : Bool)) = (false),
 ((!ox : Bool)) = (true)]) := by kernel_rfl

theorem rfPt_3 (b d z a w : List UInt8) (v x e : Int) (k n : Nat) (ok ox : Bool) : outcome Try.prog 12 (aBody Try.prog clF ⟨true, bs [(70, false), (73, false), (78, true)] ++ (bs [(35, true), (39, true), (45, false)] ++ [(25, ⟨.c (str b), none⟩),(27, ⟨.c (.int .i64 n), none⟩), (30, ⟨.c (str d), none⟩), (33, ⟨.c (str (46 :: z)), none⟩), (42, ⟨.c (str z), none⟩), (43, ⟨.c (.int .i64 k), none⟩), (51, ⟨.c (str a), none⟩), (55, ⟨.c (str w), none⟩), (59, ⟨.c (.int .i64 v), none⟩), (60, ⟨.c (.bool ok), none⟩), (64, ⟨.c (.int .i64 x), none⟩), (65, ⟨.c (.bool ox), none⟩), (68, ⟨.c (.int .i64 e), none⟩)])⟩ (lpBy (rfLp true v e)) 60 12 ([.c (str (45 :: b))]) ([])) = some ((AV.tu [(AV.c ((Value.float .f64 0))),
 (AV.c ((Value.bool false)))]), [(((0 : Int) : Int) ≤ ((0 : Int))),
 (((0 : Int) : Int) < ((↑((45 : UInt8) :: b).length : Int))),
 (((0 : Int) : Int) ≤ ((1 : Int))),
 (((1 : Int) : Int) ≤ ((↑((45 : UInt8) :: b).length : Int))),
 (((↑((45 : UInt8) :: b).length : Int) : Int) ≤ ((↑((45 : UInt8) :: b).length : Int))),
 ((List.drop (Int.toNat (1 : Int)) (List.take ((45 : UInt8) :: b).length ((45 : UInt8) :: b)) : List UInt8)) = (b),
 ((b.length : Nat) ≤ ((1000000000 : Nat))),
 (((↑(ldD b) : Int) : Int)) = ((↑n : Int)),
 (((0 : Int) : Int) ≤ ((0 : Int))),
 (((0 : Int) : Int) ≤ ((↑n : Int))),
 (((↑n : Int) : Int) ≤ ((↑b.length : Int))),
 ((List.drop (Int.toNat (0 : Int)) (List.take n b) : List UInt8)) = (d),
 (((0 : Int) : Int) ≤ ((↑n : Int))),
 (((↑n : Int) : Int) ≤ ((↑b.length : Int))),
 (((↑b.length : Int) : Int) ≤ ((↑b.length : Int))),
 ((List.drop n (List.take b.length b) : List UInt8)) = ((46 : UInt8) :: z),
 ((true : Bool)) = (true),
 (((0 : Int) : Int) ≤ ((0 : Int))),
 (((0 : Int) : Int) < ((↑((46 : UInt8) :: z).length : Int))),
 ((true : Bool)) = (true),
 (((0 : Int) : Int) ≤ ((1 : Int))),
 (((1 : Int) : Int) ≤ ((↑((46 : UInt8) :: z).length : Int))),
 (((↑((46 : UInt8) :: z).length : Int) : Int) ≤ ((↑((46 : UInt8) :: z).length : Int))),
 ((List.drop (Int.toNat (1 : Int)) (List.take ((46 : UInt8) :: z).length ((46 : UInt8) :: z)) : List UInt8)) = (z),
 ((z.length : Nat) ≤ ((1000000000 : Nat))),
 (((↑(ldD z) : Int) : Int)) = ((↑k : Int)),
 (((↑k : Int) == (0 : Int) : Bool)) = (false),
 ((IntKind.i64.min : Int) ≤ ((1 : Int) + (↑k : Int))),
 (((1 : Int) + (↑k : Int) : Int) ≤ (IntKind.i64.max)),
 (((0 : Int) : Int) ≤ ((1 : Int))),
 (((1 : Int) : Int) ≤ ((1 : Int) + (↑k : Int))),
 (((1 : Int) + (↑k : Int) : Int) ≤ ((↑((46 : UInt8) :: z).length : Int))),
 ((d.length + (List.drop (Int.toNat (1 : Int)) (List.take ((1 : Int) + (↑k : Int)).toNat ((46 : UInt8) :: z))).length : Nat) ≤ ((9223372036854775807 : Nat))),
 ((d ++ List.drop (Int.toNat (1 : Int)) (List.take ((1 : Int) + (↑k : Int)).toNat ((46 : UInt8) :: z)) : List UInt8)) = (a),
 ((IntKind.i64.min : Int) ≤ ((1 : Int) + (↑k : Int))),
 (((1 : Int) + (↑k : Int) : Int) ≤ (IntKind.i64.max)),
 (((0 : Int) : Int) ≤ ((1 : Int) + (↑k : Int))),
 (((1 : Int) + (↑k : Int) : Int) ≤ ((↑((46 : UInt8) :: z).length : Int))),
 (((↑((46 : UInt8) :: z).length : Int) : Int) ≤ ((↑((46 : UInt8) :: z).length : Int))),
 ((List.drop ((1 : Int) + (↑k : Int)).toNat (List.take ((46 : UInt8) :: z).length ((46 : UInt8) :: z)) : List UInt8)) = (w),
 ((a.length : Nat) ≤ ((1000000000 : Nat))),
 (((↑(wV a) : Int) : Int)) = (v),
 ((wOK a : Bool)) = (ok),
 ((w.length : Nat) ≤ ((999999990 : Nat))),
 (((expoF (sb { data := { toList := w } })).getD (0 : Int) : Int)) = (x),
 (((expoF (sb { data := { toList := w } })).isSome : Bool)) = (ox),
 ((IntKind.i64.min : Int) ≤ (x - (↑k : Int))),
 ((x - (↑k : Int) : Int) ≤ (IntKind.i64.max)),
 ((x - (↑k : Int) : Int)) = (e),
 ((!ok : Bool)) = (false),
 ((!ox : Bool)) = (false),
 ((decide ((↑a.length : Int) > (15 : Int)) : Bool)) = (true)]) := by kernel_rfl

theorem rfPt_4 (b d z a w : List UInt8) (v x e : Int) (k n : Nat) (ok ox : Bool) : outcome Try.prog 12 (aBody Try.prog clF ⟨true, bs [(70, false), (73, false), (78, false), (82, true)] ++ (bs [(35, true), (39, true), (45, false)] ++ [(25, ⟨.c (str b), none⟩),(27, ⟨.c (.int .i64 n), none⟩), (30, ⟨.c (str d), none⟩), (33, ⟨.c (str (46 :: z)), none⟩), (42, ⟨.c (str z), none⟩), (43, ⟨.c (.int .i64 k), none⟩), (51, ⟨.c (str a), none⟩), (55, ⟨.c (str w), none⟩), (59, ⟨.c (.int .i64 v), none⟩), (60, ⟨.c (.bool ok), none⟩), (64, ⟨.c (.int .i64 x), none⟩), (65, ⟨.c (.bool ox), none⟩), (68, ⟨.c (.int .i64 e), none⟩)])⟩ (lpBy (rfLp true v e)) 60 12 ([.c (str (45 :: b))]) ([])) = some ((AV.tu [(AV.c ((Value.float .f64 0))),
 (AV.c ((Value.bool false)))]), [(((0 : Int) : Int) ≤ ((0 : Int))),
 (((0 : Int) : Int) < ((↑((45 : UInt8) :: b).length : Int))),
 (((0 : Int) : Int) ≤ ((1 : Int))),
 (((1 : Int) : Int) ≤ ((↑((45 : UInt8) :: b).length : Int))),
 (((↑((45 : UInt8) :: b).length : Int) : Int) ≤ ((↑((45 : UInt8) :: b).length : Int))),
 ((List.drop (Int.toNat (1 : Int)) (List.take ((45 : UInt8) :: b).length ((45 : UInt8) :: b)) : List UInt8)) = (b),
 ((b.length : Nat) ≤ ((1000000000 : Nat))),
 (((↑(ldD b) : Int) : Int)) = ((↑n : Int)),
 (((0 : Int) : Int) ≤ ((0 : Int))),
 (((0 : Int) : Int) ≤ ((↑n : Int))),
 (((↑n : Int) : Int) ≤ ((↑b.length : Int))),
 ((List.drop (Int.toNat (0 : Int)) (List.take n b) : List UInt8)) = (d),
 (((0 : Int) : Int) ≤ ((↑n : Int))),
 (((↑n : Int) : Int) ≤ ((↑b.length : Int))),
 (((↑b.length : Int) : Int) ≤ ((↑b.length : Int))),
 ((List.drop n (List.take b.length b) : List UInt8)) = ((46 : UInt8) :: z),
 ((true : Bool)) = (true),
 (((0 : Int) : Int) ≤ ((0 : Int))),
 (((0 : Int) : Int) < ((↑((46 : UInt8) :: z).length : Int))),
 ((true : Bool)) = (true),
 (((0 : Int) : Int) ≤ ((1 : Int))),
 (((1 : Int) : Int) ≤ ((↑((46 : UInt8) :: z).length : Int))),
 (((↑((46 : UInt8) :: z).length : Int) : Int) ≤ ((↑((46 : UInt8) :: z).length : Int))),
 ((List.drop (Int.toNat (1 : Int)) (List.take ((46 : UInt8) :: z).length ((46 : UInt8) :: z)) : List UInt8)) = (z),
 ((z.length : Nat) ≤ ((1000000000 : Nat))),
 (((↑(ldD z) : Int) : Int)) = ((↑k : Int)),
 (((↑k : Int) == (0 : Int) : Bool)) = (false),
 ((IntKind.i64.min : Int) ≤ ((1 : Int) + (↑k : Int))),
 (((1 : Int) + (↑k : Int) : Int) ≤ (IntKind.i64.max)),
 (((0 : Int) : Int) ≤ ((1 : Int))),
 (((1 : Int) : Int) ≤ ((1 : Int) + (↑k : Int))),
 (((1 : Int) + (↑k : Int) : Int) ≤ ((↑((46 : UInt8) :: z).length : Int))),
 ((d.length + (List.drop (Int.toNat (1 : Int)) (List.take ((1 : Int) + (↑k : Int)).toNat ((46 : UInt8) :: z))).length : Nat) ≤ ((9223372036854775807 : Nat))),
 ((d ++ List.drop (Int.toNat (1 : Int)) (List.take ((1 : Int) + (↑k : Int)).toNat ((46 : UInt8) :: z)) : List UInt8)) = (a),
 ((IntKind.i64.min : Int) ≤ ((1 : Int) + (↑k : Int))),
 (((1 : Int) + (↑k : Int) : Int) ≤ (IntKind.i64.max)),
 (((0 : Int) : Int) ≤ ((1 : Int) + (↑k : Int))),
 (((1 : Int) + (↑k : Int) : Int) ≤ ((↑((46 : UInt8) :: z).length : Int))),
 (((↑((46 : UInt8) :: z).length : Int) : Int) ≤ ((↑((46 : UInt8) :: z).length : Int))),
 ((List.drop ((1 : Int) + (↑k : Int)).toNat (List.take ((46 : UInt8) :: z).length ((46 : UInt8) :: z)) : List UInt8)) = (w),
 ((a.length : Nat) ≤ ((1000000000 : Nat))),
 (((↑(wV a) : Int) : Int)) = (v),
 ((wOK a : Bool)) = (ok),
 ((w.length : Nat) ≤ ((999999990 : Nat))),
 (((expoF (sb { data := { toList := w } })).getD (0 : Int) : Int)) = (x),
 (((expoF (sb { data := { toList := w } })).isSome : Bool)) = (ox),
 ((IntKind.i64.min : Int) ≤ (x - (↑k : Int))),
 ((x - (↑k : Int) : Int) ≤ (IntKind.i64.max)),
 ((x - (↑k : Int) : Int)) = (e),
 ((!ok : Bool)) = (false),
 ((!ox : Bool)) = (false),
 ((decide ((↑a.length : Int) > (15 : Int)) : Bool)) = (false),
 ((decide (e < (-22 : Int)) : Bool)) = (true)]) := by kernel_rfl

theorem rfPt_5 (b d z a w : List UInt8) (v x e : Int) (k n : Nat) (ok ox : Bool) : outcome Try.prog 12 (aBody Try.prog clF ⟨true, bs [(70, false), (73, false), (78, false), (82, false), (86, true)] ++ (bs [(35, true), (39, true), (45, false)] ++ [(25, ⟨.c (str b), none⟩),(27, ⟨.c (.int .i64 n), none⟩), (30, ⟨.c (str d), none⟩), (33, ⟨.c (str (46 :: z)), none⟩), (42, ⟨.c (str z), none⟩), (43, ⟨.c (.int .i64 k), none⟩), (51, ⟨.c (str a), none⟩), (55, ⟨.c (str w), none⟩), (59, ⟨.c (.int .i64 v), none⟩), (60, ⟨.c (.bool ok), none⟩), (64, ⟨.c (.int .i64 x), none⟩), (65, ⟨.c (.bool ox), none⟩), (68, ⟨.c (.int .i64 e), none⟩)])⟩ (lpBy (rfLp true v e)) 60 12 ([.c (str (45 :: b))]) ([])) = some ((AV.tu [(AV.c ((Value.float .f64 0))),
 (AV.c ((Value.bool false)))]), [(((0 : Int) : Int) ≤ ((0 : Int))),
 (((0 : Int) : Int) < ((↑((45 : UInt8) :: b).length : Int))),
 (((0 : Int) : Int) ≤ ((1 : Int))),
 (((1 : Int) : Int) ≤ ((↑((45 : UInt8) :: b).length : Int))),
 (((↑((45 : UInt8) :: b).length : Int) : Int) ≤ ((↑((45 : UInt8) :: b).length : Int))),
 ((List.drop (Int.toNat (1 : Int)) (List.take ((45 : UInt8) :: b).length ((45 : UInt8) :: b)) : List UInt8)) = (b),
 ((b.length : Nat) ≤ ((1000000000 : Nat))),
 (((↑(ldD b) : Int) : Int)) = ((↑n : Int)),
 (((0 : Int) : Int) ≤ ((0 : Int))),
 (((0 : Int) : Int) ≤ ((↑n : Int))),
 (((↑n : Int) : Int) ≤ ((↑b.length : Int))),
 ((List.drop (Int.toNat (0 : Int)) (List.take n b) : List UInt8)) = (d),
 (((0 : Int) : Int) ≤ ((↑n : Int))),
 (((↑n : Int) : Int) ≤ ((↑b.length : Int))),
 (((↑b.length : Int) : Int) ≤ ((↑b.length : Int))),
 ((List.drop n (List.take b.length b) : List UInt8)) = ((46 : UInt8) :: z),
 ((true : Bool)) = (true),
 (((0 : Int) : Int) ≤ ((0 : Int))),
 (((0 : Int) : Int) < ((↑((46 : UInt8) :: z).length : Int))),
 ((true : Bool)) = (true),
 (((0 : Int) : Int) ≤ ((1 : Int))),
 (((1 : Int) : Int) ≤ ((↑((46 : UInt8) :: z).length : Int))),
 (((↑((46 : UInt8) :: z).length : Int) : Int) ≤ ((↑((46 : UInt8) :: z).length : Int))),
 ((List.drop (Int.toNat (1 : Int)) (List.take ((46 : UInt8) :: z).length ((46 : UInt8) :: z)) : List UInt8)) = (z),
 ((z.length : Nat) ≤ ((1000000000 : Nat))),
 (((↑(ldD z) : Int) : Int)) = ((↑k : Int)),
 (((↑k : Int) == (0 : Int) : Bool)) = (false),
 ((IntKind.i64.min : Int) ≤ ((1 : Int) + (↑k : Int))),
 (((1 : Int) + (↑k : Int) : Int) ≤ (IntKind.i64.max)),
 (((0 : Int) : Int) ≤ ((1 : Int))),
 (((1 : Int) : Int) ≤ ((1 : Int) + (↑k : Int))),
 (((1 : Int) + (↑k : Int) : Int) ≤ ((↑((46 : UInt8) :: z).length : Int))),
 ((d.length + (List.drop (Int.toNat (1 : Int)) (List.take ((1 : Int) + (↑k : Int)).toNat ((46 : UInt8) :: z))).length : Nat) ≤ ((9223372036854775807 : Nat))),
 ((d ++ List.drop (Int.toNat (1 : Int)) (List.take ((1 : Int) + (↑k : Int)).toNat ((46 : UInt8) :: z)) : List UInt8)) = (a),
 ((IntKind.i64.min : Int) ≤ ((1 : Int) + (↑k : Int))),
 (((1 : Int) + (↑k : Int) : Int) ≤ (IntKind.i64.max)),
 (((0 : Int) : Int) ≤ ((1 : Int) + (↑k : Int))),
 (((1 : Int) + (↑k : Int) : Int) ≤ ((↑((46 : UInt8) :: z).length : Int))),
 (((↑((46 : UInt8) :: z).length : Int) : Int) ≤ ((↑((46 : UInt8) :: z).length : Int))),
 ((List.drop ((1 : Int) + (↑k : Int)).toNat (List.take ((46 : UInt8) :: z).length ((46 : UInt8) :: z)) : List UInt8)) = (w),
 ((a.length : Nat) ≤ ((1000000000 : Nat))),
 (((↑(wV a) : Int) : Int)) = (v),
 ((wOK a : Bool)) = (ok),
 ((w.length : Nat) ≤ ((999999990 : Nat))),
 (((expoF (sb { data := { toList := w } })).getD (0 : Int) : Int)) = (x),
 (((expoF (sb { data := { toList := w } })).isSome : Bool)) = (ox),
 ((IntKind.i64.min : Int) ≤ (x - (↑k : Int))),
 ((x - (↑k : Int) : Int) ≤ (IntKind.i64.max)),
 ((x - (↑k : Int) : Int)) = (e),
 ((!ok : Bool)) = (false),
 ((!ox : Bool)) = (false),
 ((decide ((↑a.length : Int) > (15 : Int)) : Bool)) = (false),
 ((decide (e < (-22 : Int)) : Bool)) = (false),
 ((decide (e > (22 : Int)) : Bool)) = (true)]) := by kernel_rfl

theorem rfPt_6 (b d z a w : List UInt8) (v x e : Int) (k n : Nat) (ok ox : Bool) : outcome Try.prog 12 (aBody Try.prog clF ⟨true, bs [(70, false), (73, false), (78, false), (82, false), (86, false), (104, true), (114, true)] ++ (bs [(35, true), (39, true), (45, false)] ++ [(25, ⟨.c (str b), none⟩),(27, ⟨.c (.int .i64 n), none⟩), (30, ⟨.c (str d), none⟩), (33, ⟨.c (str (46 :: z)), none⟩), (42, ⟨.c (str z), none⟩), (43, ⟨.c (.int .i64 k), none⟩), (51, ⟨.c (str a), none⟩), (55, ⟨.c (str w), none⟩), (59, ⟨.c (.int .i64 v), none⟩), (60, ⟨.c (.bool ok), none⟩), (64, ⟨.c (.int .i64 x), none⟩), (65, ⟨.c (.bool ox), none⟩), (68, ⟨.c (.int .i64 e), none⟩)])⟩ (lpBy (rfLp true v e)) 60 12 ([.c (str (45 :: b))]) ([])) = some ((AV.tu [(AV.c ((Value.float .f64 (Op.negFloat FloatKind.f64
  ((floatBits BinOp.quo FloatKind.f64 (floatOfInt FloatKind.f64 v) (pwB e.natAbs)).getD (0 : Nat)))))),
 (AV.c ((Value.bool true)))]), [(((0 : Int) : Int) ≤ ((0 : Int))),
 (((0 : Int) : Int) < ((↑((45 : UInt8) :: b).length : Int))),
 (((0 : Int) : Int) ≤ ((1 : Int))),
 (((1 : Int) : Int) ≤ ((↑((45 : UInt8) :: b).length : Int))),
 (((↑((45 : UInt8) :: b).length : Int) : Int) ≤ ((↑((45 : UInt8) :: b).length : Int))),
 ((List.drop (Int.toNat (1 : Int)) (List.take ((45 : UInt8) :: b).length ((45 : UInt8) :: b)) : List UInt8)) = (b),
 ((b.length : Nat) ≤ ((1000000000 : Nat))),
 (((↑(ldD b) : Int) : Int)) = ((↑n : Int)),
 (((0 : Int) : Int) ≤ ((0 : Int))),
 (((0 : Int) : Int) ≤ ((↑n : Int))),
 (((↑n : Int) : Int) ≤ ((↑b.length : Int))),
 ((List.drop (Int.toNat (0 : Int)) (List.take n b) : List UInt8)) = (d),
 (((0 : Int) : Int) ≤ ((↑n : Int))),
 (((↑n : Int) : Int) ≤ ((↑b.length : Int))),
 (((↑b.length : Int) : Int) ≤ ((↑b.length : Int))),
 ((List.drop n (List.take b.length b) : List UInt8)) = ((46 : UInt8) :: z),
 ((true : Bool)) = (true),
 (((0 : Int) : Int) ≤ ((0 : Int))),
 (((0 : Int) : Int) < ((↑((46 : UInt8) :: z).length : Int))),
 ((true : Bool)) = (true),
 (((0 : Int) : Int) ≤ ((1 : Int))),
 (((1 : Int) : Int) ≤ ((↑((46 : UInt8) :: z).length : Int))),
 (((↑((46 : UInt8) :: z).length : Int) : Int) ≤ ((↑((46 : UInt8) :: z).length : Int))),
 ((List.drop (Int.toNat (1 : Int)) (List.take ((46 : UInt8) :: z).length ((46 : UInt8) :: z)) : List UInt8)) = (z),
 ((z.length : Nat) ≤ ((1000000000 : Nat))),
 (((↑(ldD z) : Int) : Int)) = ((↑k : Int)),
 (((↑k : Int) == (0 : Int) : Bool)) = (false),
 ((IntKind.i64.min : Int) ≤ ((1 : Int) + (↑k : Int))),
 (((1 : Int) + (↑k : Int) : Int) ≤ (IntKind.i64.max)),
 (((0 : Int) : Int) ≤ ((1 : Int))),
 (((1 : Int) : Int) ≤ ((1 : Int) + (↑k : Int))),
 (((1 : Int) + (↑k : Int) : Int) ≤ ((↑((46 : UInt8) :: z).length : Int))),
 ((d.length + (List.drop (Int.toNat (1 : Int)) (List.take ((1 : Int) + (↑k : Int)).toNat ((46 : UInt8) :: z))).length : Nat) ≤ ((9223372036854775807 : Nat))),
 ((d ++ List.drop (Int.toNat (1 : Int)) (List.take ((1 : Int) + (↑k : Int)).toNat ((46 : UInt8) :: z)) : List UInt8)) = (a),
 ((IntKind.i64.min : Int) ≤ ((1 : Int) + (↑k : Int))),
 (((1 : Int) + (↑k : Int) : Int) ≤ (IntKind.i64.max)),
 (((0 : Int) : Int) ≤ ((1 : Int) + (↑k : Int))),
 (((1 : Int) + (↑k : Int) : Int) ≤ ((↑((46 : UInt8) :: z).length : Int))),
 (((↑((46 : UInt8) :: z).length : Int) : Int) ≤ ((↑((46 : UInt8) :: z).length : Int))),
 ((List.drop ((1 : Int) + (↑k : Int)).toNat (List.take ((46 : UInt8) :: z).length ((46 : UInt8) :: z)) : List UInt8)) = (w),
 ((a.length : Nat) ≤ ((1000000000 : Nat))),
 (((↑(wV a) : Int) : Int)) = (v),
 ((wOK a : Bool)) = (ok),
 ((w.length : Nat) ≤ ((999999990 : Nat))),
 (((expoF (sb { data := { toList := w } })).getD (0 : Int) : Int)) = (x),
 (((expoF (sb { data := { toList := w } })).isSome : Bool)) = (ox),
 ((IntKind.i64.min : Int) ≤ (x - (↑k : Int))),
 ((x - (↑k : Int) : Int) ≤ (IntKind.i64.max)),
 ((x - (↑k : Int) : Int)) = (e),
 ((!ok : Bool)) = (false),
 ((!ox : Bool)) = (false),
 ((decide ((↑a.length : Int) > (15 : Int)) : Bool)) = (false),
 ((decide (e < (-22 : Int)) : Bool)) = (false),
 ((decide (e > (22 : Int)) : Bool)) = (false),
 ((lbody Try.prog (12 : FuncId) (21 : Nat) : Go.Code)) = (lbody Try.prog (12 : FuncId) (21 : Nat)),
 ((pwS true v e (4607182418800017408 : Nat) (0 : Nat) : Go.Proofs.Ytigglgobiofalaa.St)) = (pwS true v e (4607182418800017408 : Nat) (0 : Nat)),
 ((decide (e < (0 : Int)) : Bool)) = (true),
 (((floatBits BinOp.quo FloatKind.f64 (floatOfInt FloatKind.f64 v) (pwB e.natAbs)).isSome : Bool)) = (true),
 ((v != (0 : Int) : Bool)) = (true)]) := by kernel_rfl

theorem rfPt_7 (b d z a w : List UInt8) (v x e : Int) (k n : Nat) (ok ox : Bool) : outcome Try.prog 12 (aBody Try.prog clF ⟨true, bs [(70, false), (73, false), (78, false), (82, false), (86, false), (104, true), (114, false)] ++ (bs [(35, true), (39, true), (45, false)] ++ [(25, ⟨.c (str b), none⟩),(27, ⟨.c (.int .i64 n), none⟩), (30, ⟨.c (str d), none⟩), (33, ⟨.c (str (46 :: z)), none⟩), (42, ⟨.c (str z), none⟩), (43, ⟨.c (.int .i64 k), none⟩), (51, ⟨.c (str a), none⟩), (55, ⟨.c (str w), none⟩), (59, ⟨.c (.int .i64 v), none⟩), (60, ⟨.c (.bool ok), none⟩), (64, ⟨.c (.int .i64 x), none⟩), (65, ⟨.c (.bool ox), none⟩), (68, ⟨.c (.int .i64 e), none⟩)])⟩ (lpBy (rfLp true v e)) 60 12 ([.c (str (45 :: b))]) ([])) = some ((AV.tu [(AV.c ((Value.float .f64 ((floatBits BinOp.quo FloatKind.f64 (floatOfInt FloatKind.f64 v) (pwB e.natAbs)).getD (0 : Nat))))),
 (AV.c ((Value.bool true)))]), [(((0 : Int) : Int) ≤ ((0 : Int))),
 (((0 : Int) : Int) < ((↑((45 : UInt8) :: b).length : Int))),
 (((0 : Int) : Int) ≤ ((1 : Int))),
 (((1 : Int) : Int) ≤ ((↑((45 : UInt8) :: b).length : Int))),
 (((↑((45 : UInt8) :: b).length : Int) : Int) ≤ ((↑((45 : UInt8) :: b).length : Int))),
 ((List.drop (Int.toNat (1 : Int)) (List.take ((45 : UInt8) :: b).length ((45 : UInt8) :: b)) : List UInt8)) = (b),
 ((b.length : Nat) ≤ ((1000000000 : Nat))),
 (((↑(ldD b) : Int) : Int)) = ((↑n : Int)),
 (((0 : Int) : Int) ≤ ((0 : Int))),
 (((0 : Int) : Int) ≤ ((↑n : Int))),
 (((↑n : Int) : Int) ≤ ((↑b.length : Int))),
 ((List.drop (Int.toNat (0 : Int)) (List.take n b) : List UInt8)) = (d),
 (((0 : Int) : Int) ≤ ((↑n : Int))),
 (((↑n : Int) : Int) ≤ ((↑b.length : Int))),
 (((↑b.length : Int) : Int) ≤ ((↑b.length : Int))),
 ((List.drop n (List.take b.length b) : List UInt8)) = ((46 : UInt8) :: z),
 ((true : Bool)) = (true),
 (((0 : Int) : Int) ≤ ((0 : Int))),
 (((0 : Int) : Int) < ((↑((46 : UInt8) :: z).length : Int))),
 ((true : Bool)) = (true),
 (((0 : Int) : Int) ≤ ((1 : Int))),
 (((1 : Int) : Int) ≤ ((↑((46 : UInt8) :: z).length : Int))),
 (((↑((46 : UInt8) :: z).length : Int) : Int) ≤ ((↑((46 : UInt8) :: z).length : Int))),
 ((List.drop (Int.toNat (1 : Int)) (List.take ((46 : UInt8) :: z).length ((46 : UInt8) :: z)) : List UInt8)) = (z),
 ((z.length : Nat) ≤ ((1000000000 : Nat))),
 (((↑(ldD z) : Int) : Int)) = ((↑k : Int)),
 (((↑k : Int) == (0 : Int) : Bool)) = (false),
 ((IntKind.i64.min : Int) ≤ ((1 : Int) + (↑k : Int))),
 (((1 : Int) + (↑k : Int) : Int) ≤ (IntKind.i64.max)),
 (((0 : Int) : Int) ≤ ((1 : Int))),
 (((1 : Int) : Int) ≤ ((1 : Int) + (↑k : Int))),
 (((1 : Int) + (↑k : Int) : Int) ≤ ((↑((46 : UInt8) :: z).length : Int))),
 ((d.length + (List.drop (Int.toNat (1 : Int)) (List.take ((1 : Int) + (↑k : Int)).toNat ((46 : UInt8) :: z))).length : Nat) ≤ ((9223372036854775807 : Nat))),
 ((d ++ List.drop (Int.toNat (1 : Int)) (List.take ((1 : Int) + (↑k : Int)).toNat ((46 : UInt8) :: z)) : List UInt8)) = (a),
 ((IntKind.i64.min : Int) ≤ ((1 : Int) + (↑k : Int))),
 (((1 : Int) + (↑k : Int) : Int) ≤ (IntKind.i64.max)),
 (((0 : Int) : Int) ≤ ((1 : Int) + (↑k : Int))),
 (((1 : Int) + (↑k : Int) : Int) ≤ ((↑((46 : UInt8) :: z).length : Int))),
 (((↑((46 : UInt8) :: z).length : Int) : Int) ≤ ((↑((46 : UInt8) :: z).length : Int))),
 ((List.drop ((1 : Int) + (↑k : Int)).toNat (List.take ((46 : UInt8) :: z).length ((46 : UInt8) :: z)) : List UInt8)) = (w),
 ((a.length : Nat) ≤ ((1000000000 : Nat))),
 (((↑(wV a) : Int) : Int)) = (v),
 ((wOK a : Bool)) = (ok),
 ((w.length : Nat) ≤ ((999999990 : Nat))),
 (((expoF (sb { data := { toList := w } })).getD (0 : Int) : Int)) = (x),
 (((expoF (sb { data := { toList := w } })).isSome : Bool)) = (ox),
 ((IntKind.i64.min : Int) ≤ (x - (↑k : Int))),
 ((x - (↑k : Int) : Int) ≤ (IntKind.i64.max)),
 ((x - (↑k : Int) : Int)) = (e),
 ((!ok : Bool)) = (false),
 ((!ox : Bool)) = (false),
 ((decide ((↑a.length : Int) > (15 : Int)) : Bool)) = (false),
 ((decide (e < (-22 : Int)) : Bool)) = (false),
 ((decide (e > (22 : Int)) : Bool)) = (false),
 ((lbody Try.prog (12 : FuncId) (21 : Nat) : Go.Code)) = (lbody Try.prog (12 : FuncId) (21 : Nat)),
 ((pwS true v e (4607182418800017408 : Nat) (0 : Nat) : Go.Proofs.Ytigglgobiofalaa.St)) = (pwS true v e (4607182418800017408 : Nat) (0 : Nat)),
 ((decide (e < (0 : Int)) : Bool)) = (true),
 (((floatBits BinOp.quo FloatKind.f64 (floatOfInt FloatKind.f64 v) (pwB e.natAbs)).isSome : Bool)) = (true),
 ((v != (0 : Int) : Bool)) = (false)]) := by kernel_rfl

theorem rfPt_8 (b d z a w : List UInt8) (v x e : Int) (k n : Nat) (ok ox : Bool) : outcome Try.prog 12 (aBody Try.prog clF ⟨true, bs [(70, false), (73, false), (78, false), (82, false), (86, false), (104, false), (114, true)] ++ (bs [(35, true), (39, true), (45, false)] ++ [(25, ⟨.c (str b), none⟩),(27, ⟨.c (.int .i64 n), none⟩), (30, ⟨.c (str d), none⟩), (33, ⟨.c (str (46 :: z)), none⟩), (42, ⟨.c (str z), none⟩), (43, ⟨.c (.int .i64 k), none⟩), (51, ⟨.c (str a), none⟩), (55, ⟨.c (str w), none⟩), (59, ⟨.c (.int .i64 v), none⟩), (60, ⟨.c (.bool ok), none⟩), (64, ⟨.c (.int .i64 x), none⟩), (65, ⟨.c (.bool ox), none⟩), (68, ⟨.c (.int .i64 e), none⟩)])⟩ (lpBy (rfLp true v e)) 60 12 ([.c (str (45 :: b))]) ([])) = some ((AV.tu [(AV.c ((Value.float .f64 (Op.negFloat FloatKind.f64
  ((floatBits BinOp.mul FloatKind.f64 (floatOfInt FloatKind.f64 v) (pwB e.natAbs)).getD (0 : Nat)))))),
 (AV.c ((Value.bool true)))]), [(((0 : Int) : Int) ≤ ((0 : Int))),
 (((0 : Int) : Int) < ((↑((45 : UInt8) :: b).length : Int))),
 (((0 : Int) : Int) ≤ ((1 : Int))),
 (((1 : Int) : Int) ≤ ((↑((45 : UInt8) :: b).length : Int))),
 (((↑((45 : UInt8) :: b).length : Int) : Int) ≤ ((↑((45 : UInt8) :: b).length : Int))),
 ((List.drop (Int.toNat (1 : Int)) (List.take ((45 : UInt8) :: b).length ((45 : UInt8) :: b)) : List UInt8)) = (b),
 ((b.length : Nat) ≤ ((1000000000 : Nat))),
 (((↑(ldD b) : Int) : Int)) = ((↑n : Int)),
 (((0 : Int) : Int) ≤ ((0 : Int))),
 (((0 : Int) : Int) ≤ ((↑n : Int))),
 (((↑n : Int) : Int) ≤ ((↑b.length : Int))),
 ((List.drop (Int.toNat (0 : Int)) (List.take n b) : List UInt8)) = (d),
 (((0 : Int) : Int) ≤ ((↑n : Int))),
 (((↑n : Int) : Int) ≤ ((↑b.length : Int))),
 (((↑b.length : Int) : Int) ≤ ((↑b.length : Int))),
 ((List.drop n (List.take b.length b) : List UInt8)) = ((46 : UInt8) :: z),
 ((true : Bool)) = (true),
 (((0 : Int) : Int) ≤ ((0 : Int))),
 (((0 : Int) : Int) < ((↑((46 : UInt8) :: z).length : Int))),
 ((true : Bool)) = (true),
 (((0 : Int) : Int) ≤ ((1 : Int))),
 (((1 : Int) : Int) ≤ ((↑((46 : UInt8) :: z).length : Int))),
 (((↑((46 : UInt8) :: z).length : Int) : Int) ≤ ((↑((46 : UInt8) :: z).length : Int))),
 ((List.drop (Int.toNat (1 : Int)) (List.take ((46 : UInt8) :: z).length ((46 : UInt8) :: z)) : List UInt8)) = (z),
 ((z.length : Nat) ≤ ((1000000000 : Nat))),
 (((↑(ldD z) : Int) : Int)) = ((↑k : Int)),
 (((↑k : Int) == (0 : Int) : Bool)) = (false),
 ((IntKind.i64.min : Int) ≤ ((1 : Int) + (↑k : Int))),
 (((1 : Int) + (↑k : Int) : Int) ≤ (IntKind.i64.max)),
 (((0 : Int) : Int) ≤ ((1 : Int))),
 (((1 : Int) : Int) ≤ ((1 : Int) + (↑k : Int))),
 (((1 : Int) + (↑k : Int) : Int) ≤ ((↑((46 : UInt8) :: z).length : Int))),
 ((d.length + (List.drop (Int.toNat (1 : Int)) (List.take ((1 : Int) + (↑k : Int)).toNat ((46 : UInt8) :: z))).length : Nat) ≤ ((9223372036854775807 : Nat))),
 ((d ++ List.drop (Int.toNat (1 : Int)) (List.take ((1 : Int) + (↑k : Int)).toNat ((46 : UInt8) :: z)) : List UInt8)) = (a),
 ((IntKind.i64.min : Int) ≤ ((1 : Int) + (↑k : Int))),
 (((1 : Int) + (↑k : Int) : Int) ≤ (IntKind.i64.max)),
 (((0 : Int) : Int) ≤ ((1 : Int) + (↑k : Int))),
 (((1 : Int) + (↑k : Int) : Int) ≤ ((↑((46 : UInt8) :: z).length : Int))),
 (((↑((46 : UInt8) :: z).length : Int) : Int) ≤ ((↑((46 : UInt8) :: z).length : Int))),
 ((List.drop ((1 : Int) + (↑k : Int)).toNat (List.take ((46 : UInt8) :: z).length ((46 : UInt8) :: z)) : List UInt8)) = (w),
 ((a.length : Nat) ≤ ((1000000000 : Nat))),
 (((↑(wV a) : Int) : Int)) = (v),
 ((wOK a : Bool)) = (ok),
 ((w.length : Nat) ≤ ((999999990 : Nat))),
 (((expoF (sb { data := { toList := w } })).getD (0 : Int) : Int)) = (x),
 (((expoF (sb { data := { toList := w } })).isSome : Bool)) = (ox),
 ((IntKind.i64.min : Int) ≤ (x - (↑k : Int))),
 ((x - (↑k : Int) : Int) ≤ (IntKind.i64.max)),
 ((x - (↑k : Int) : Int)) = (e),
 ((!ok : Bool)) = (false),
 ((!ox : Bool)) = (false),
 ((decide ((↑a.length : Int) > (15 : Int)) : Bool)) = (false),
 ((decide (e < (-22 : Int)) : Bool)) = (false),
 ((decide (e > (22 : Int)) : Bool)) = (false),
 ((lbody Try.prog (12 : FuncId) (21 : Nat) : Go.Code)) = (lbody Try.prog (12 : FuncId) (21 : Nat)),
 ((pwS true v e (4607182418800017408 : Nat) (0 : Nat) : Go.Proofs.Ytigglgobiofalaa.St)) = (pwS true v e (4607182418800017408 : Nat) (0 : Nat)),
 ((decide (e < (0 : Int)) : Bool)) = (false),
 (((floatBits BinOp.mul FloatKind.f64 (floatOfInt FloatKind.f64 v) (pwB e.natAbs)).isSome : Bool)) = (true),
 ((v != (0 : Int) : Bool)) = (true)]) := by kernel_rfl

theorem rfPt_9 (b d z a w : List UInt8) (v x e : Int) (k n : Nat) (ok ox : Bool) : outcome Try.prog 12 (aBody Try.prog clF ⟨true, bs [(70, false), (73, false), (78, false), (82, false), (86, false), (104, false), (114, false)] ++ (bs [(35, true), (39, true), (45, false)] ++ [(25, ⟨.c (str b), none⟩),(27, ⟨.c (.int .i64 n), none⟩), (30, ⟨.c (str d), none⟩), (33, ⟨.c (str (46 :: z)), none⟩), (42, ⟨.c (str z), none⟩), (43, ⟨.c (.int .i64 k), none⟩), (51, ⟨.c (str a), none⟩), (55, ⟨.c (str w), none⟩), (59, ⟨.c (.int .i64 v), none⟩), (60, ⟨.c (.bool ok), none⟩), (64, ⟨.c (.int .i64 x), none⟩), (65, ⟨.c (.bool ox), none⟩), (68, ⟨.c (.int .i64 e), none⟩)])⟩ (lpBy (rfLp true v e)) 60 12 ([.c (str (45 :: b))]) ([])) = some ((AV.tu [(AV.c ((Value.float .f64 ((floatBits BinOp.mul FloatKind.f64 (floatOfInt FloatKind.f64 v) (pwB e.natAbs)).getD (0 : Nat))))),
 (AV.c ((Value.bool true)))]), [(((0 : Int) : Int) ≤ ((0 : Int))),
 (((0 : Int) : Int) < ((↑((45 : UInt8) :: b).length : Int))),
 (((0 : Int) : Int) ≤ ((1 : Int))),
 (((1 : Int) : Int) ≤ ((↑((45 : UInt8) :: b).length : Int))),
 (((↑((45 : UInt8) :: b).length : Int) : Int) ≤ ((↑((45 : UInt8) :: b).length : Int))),
 ((List.drop (Int.toNat (1 : Int)) (List.take ((45 : UInt8) :: b).length ((45 : UInt8) :: b)) : List UInt8)) = (b),
 ((b.length : Nat) ≤ ((1000000000 : Nat))),
 (((↑(ldD b) : Int) : Int)) = ((↑n : Int)),
 (((0 : Int) : Int) ≤ ((0 : Int))),
 (((0 : Int) : Int) ≤ ((↑n : Int))),
 (((↑n : Int) : Int) ≤ ((↑b.length : Int))),
 ((List.drop (Int.toNat (0 : Int)) (List.take n b) : List UInt8)) = (d),
 (((0 : Int) : Int) ≤ ((↑n : Int))),
 (((↑n : Int) : Int) ≤ ((↑b.length : Int))),
 (((↑b.length : Int) : Int) ≤ ((↑b.length : Int))),
 ((List.drop n (List.take b.length b) : List UInt8)) = ((46 : UInt8) :: z),
 ((true : Bool)) = (true),
 (((0 : Int) : Int) ≤ ((0 : Int))),
 (((0 : Int) : Int) < ((↑((46 : UInt8) :: z).length : Int))),
 ((true : Bool)) = (true),
 (((0 : Int) : Int) ≤ ((1 : Int))),
 (((1 : Int) : Int) ≤ ((↑((46 : UInt8) :: z).length : Int))),
 (((↑((46 : UInt8) :: z).length : Int) : Int) ≤ ((↑((46 : UInt8) :: z).length : Int))),
 ((List.drop (Int.toNat (1 : Int)) (List.take ((46 : UInt8) :: z).length ((46 : UInt8) :: z)) : List UInt8)) = (z),
 ((z.length : Nat) ≤ ((1000000000 : Nat))),
 (((↑(ldD z) : Int) : Int)) = ((↑k : Int)),
 (((↑k : Int) == (0 : Int) : Bool)) = (false),
 ((IntKind.i64.min : Int) ≤ ((1 : Int) + (↑k : Int))),
 (((1 : Int) + (↑k : Int) : Int) ≤ (IntKind.i64.max)),
 (((0 : Int) : Int) ≤ ((1 : Int))),
 (((1 : Int) : Int) ≤ ((1 : Int) + (↑k : Int))),
 (((1 : Int) + (↑k : Int) : Int) ≤ ((↑((46 : UInt8) :: z).length : Int))),
 ((d.length + (List.drop (Int.toNat (1 : Int)) (List.take ((1 : Int) + (↑k : Int)).toNat ((46 : UInt8) :: z))).length : Nat) ≤ ((9223372036854775807 : Nat))),
 ((d ++ List.drop (Int.toNat (1 : Int)) (List.take ((1 : Int) + (↑k : Int)).toNat ((46 : UInt8) :: z)) : List UInt8)) = (a),
 ((IntKind.i64.min : Int) ≤ ((1 : Int) + (↑k : Int))),
 (((1 : Int) + (↑k : Int) : Int) ≤ (IntKind.i64.max)),
 (((0 : Int) : Int) ≤ ((1 : Int) + (↑k : Int))),
 (((1 : Int) + (↑k : Int) : Int) ≤ ((↑((46 : UInt8) :: z).length : Int))),
 (((↑((46 : UInt8) :: z).length : Int) : Int) ≤ ((↑((46 : UInt8) :: z).length : Int))),
 ((List.drop ((1 : Int) + (↑k : Int)).toNat (List.take ((46 : UInt8) :: z).length ((46 : UInt8) :: z)) : List UInt8)) = (w),
 ((a.length : Nat) ≤ ((1000000000 : Nat))),
 (((↑(wV a) : Int) : Int)) = (v),
 ((wOK a : Bool)) = (ok),
 ((w.length : Nat) ≤ ((999999990 : Nat))),
 (((expoF (sb { data := { toList := w } })).getD (0 : Int) : Int)) = (x),
 (((expoF (sb { data := { toList := w } })).isSome : Bool)) = (ox),
 ((IntKind.i64.min : Int) ≤ (x - (↑k : Int))),
 ((x - (↑k : Int) : Int) ≤ (IntKind.i64.max)),
 ((x - (↑k : Int) : Int)) = (e),
 ((!ok : Bool)) = (false),
 ((!ox : Bool)) = (false),
 ((decide ((↑a.length : Int) > (15 : Int)) : Bool)) = (false),
 ((decide (e < (-22 : Int)) : Bool)) = (false),
 ((decide (e > (22 : Int)) : Bool)) = (false),
 ((lbody Try.prog (12 : FuncId) (21 : Nat) : Go.Code)) = (lbody Try.prog (12 : FuncId) (21 : Nat)),
 ((pwS true v e (4607182418800017408 : Nat) (0 : Nat) : Go.Proofs.Ytigglgobiofalaa.St)) = (pwS true v e (4607182418800017408 : Nat) (0 : Nat)),
 ((decide (e < (0 : Int)) : Bool)) = (false),
 (((floatBits BinOp.mul FloatKind.f64 (floatOfInt FloatKind.f64 v) (pwB e.natAbs)).isSome : Bool)) = (true),
 ((v != (0 : Int) : Bool)) = (false)]) := by kernel_rfl

theorem rfPt_all (b d z a w : List UInt8) (v x e : Int) (k n : Nat) (ok ox : Bool) (hn : ldD b = n) (hd : List.take n b = d) (hz : List.drop n b = 46 :: z) (hk : ldD z = k) (hk0 : ¬ k = 0) (ha : d ++ List.take k z = a) (hw : List.drop k z = w) (hv : (wV a : Int) = v) (hok : wOK a = ok) (hx : (expoF w).getD 0 = x) (hox : (expoF w).isSome = ox) (he : x - (k : Int) = e) (hl : b.length ≤ 999999980) (hnl : n ≤ b.length) (hkl : k ≤ z.length) (hzl : z.length < b.length) (hal : a.length ≤ b.length) (hdl : d.length ≤ b.length) (hwl : w.length ≤ b.length) (hx1 : -9999 ≤ x) (hx2 : x ≤ 9999) (hs : wOKs v e) : ∃ (h : Hints) (p : List Prop), outcome Try.prog 12 (aBody Try.prog clF h (lpBy (rfLp true v e)) 60 12 ([.c (str (45 :: b))]) ([])) = some (fltG true ok ox a.length v e, p) ∧ allP p := by
  cases hc70 : (!ok : Bool) with
  | true =>
    have eR := rfPt_1 b d z a w v x e k n ok ox
    refine ⟨_, _, eR.trans (congrArg (fun r => some (r, _)) ?_), ?_⟩
    · try clear eR
      unfold fltG wordF
      try simp only [decide_eq_true_eq, decide_eq_false_iff_not] at hc78
      try simp only [decide_eq_true_eq, decide_eq_false_iff_not] at hc82
      try simp only [decide_eq_true_eq, decide_eq_false_iff_not] at hc86
      try simp only [decide_eq_true_eq, decide_eq_false_iff_not] at hc104
      try simp only [bne_iff_ne, bne_eq_false_iff_eq, ne_eq] at hc114
      first
        | rw [if_neg (by rintro ⟨a1, a2, a3, a4, a5⟩; omega)]
        | rw [if_neg (by rintro ⟨a1, a2, a3, a4, a5⟩; rw [a1] at hc70; exact absurd hc70 (by decide))]
        | rw [if_neg (by rintro ⟨a1, a2, a3, a4, a5⟩; rw [a2] at hc73; exact absurd hc73 (by decide))]
        | (rw [if_pos ⟨by simpa using hc70, by simpa using hc73, by omega, by omega, by omega⟩]
           first
             | simp only [hc104, hc114, if_true, if_false, Bool.false_eq_true, false_and, true_and, ne_eq, not_true_eq_false, not_false_eq_true]
             | simp only [hc104, if_true, if_false, Bool.false_eq_true, false_and, true_and])
    · try simp only [decide_eq_true_eq, decide_eq_false_iff_not] at hc78
      try simp only [decide_eq_true_eq, decide_eq_false_iff_not] at hc82
      try simp only [decide_eq_true_eq, decide_eq_false_iff_not] at hc86
      try simp only [decide_eq_true_eq, decide_eq_false_iff_not] at hc104
      have ht : ((1 : Int) + (k : Nat)).toNat = k + 1 := by omega
      simp only [allP, List.take_length, toNat0, toNat1, ht, List.take_succ_cons, List.drop_succ_cons, List.drop_zero, sb_mk]
      simp only [List.length_cons, List.length_take, i64_min, i64_max, and_true, true_and, decide_eq_true_eq, decide_eq_false_iff_not, beq_eq_false_iff_ne, bne_iff_ne, bne_eq_false_iff_eq, ne_eq]
      repeat' apply And.intro
      all_goals first | omega | exact hd | exact hz | exact ha | exact hw | exact hok | exact hox | exact hx | exact hc70 | exact hc73 | exact (hs (by omega) (by omega)).1 hc104 | exact (hs (by omega) (by omega)).2 hc104 | (simpa using hc114)
  | false =>
    cases hc73 : (!ox : Bool) with
    | true =>
      have eR := rfPt_2 b d z a w v x e k n ok ox
      refine ⟨_, _, eR.trans (congrArg (fun r => some (r, _)) ?_), ?_⟩
      · try clear eR
        unfold fltG wordF
        try simp only [decide_eq_true_eq, decide_eq_false_iff_not] at hc78
        try simp only [decide_eq_true_eq, decide_eq_false_iff_not] at hc82
        try simp only [decide_eq_true_eq, decide_eq_false_iff_not] at hc86
        try simp only [decide_eq_true_eq, decide_eq_false_iff_not] at hc104
        try simp only [bne_iff_ne, bne_eq_false_iff_eq, ne_eq] at hc114
        first
          | rw [if_neg (by rintro ⟨a1, a2, a3, a4, a5⟩; omega)]
          | rw [if_neg (by rintro ⟨a1, a2, a3, a4, a5⟩; rw [a1] at hc70; exact absurd hc70 (by decide))]
          | rw [if_neg (by rintro ⟨a1, a2, a3, a4, a5⟩; rw [a2] at hc73; exact absurd hc73 (by decide))]
          | (rw [if_pos ⟨by simpa using hc70, by simpa using hc73, by omega, by omega, by omega⟩]
             first
               | simp only [hc104, hc114, if_true, if_false, Bool.false_eq_true, false_and, true_and, ne_eq, not_true_eq_false, not_false_eq_true]
               | simp only [hc104, if_true, if_false, Bool.false_eq_true, false_and, true_and])
      · try simp only [decide_eq_true_eq, decide_eq_false_iff_not] at hc78
        try simp only [decide_eq_true_eq, decide_eq_false_iff_not] at hc82
        try simp only [decide_eq_true_eq, decide_eq_false_iff_not] at hc86
        try simp only [decide_eq_true_eq, decide_eq_false_iff_not] at hc104
        have ht : ((1 : Int) + (k : Nat)).toNat = k + 1 := by omega
        simp only [allP, List.take_length, toNat0, toNat1, ht, List.take_succ_cons, List.drop_succ_cons, List.drop_zero, sb_mk]
        simp only [List.length_cons, List.length_take, i64_min, i64_max, and_true, true_and, decide_eq_true_eq, decide_eq_false_iff_not, beq_eq_false_iff_ne, bne_iff_ne, bne_eq_false_iff_eq, ne_eq]
        repeat' apply And.intro
        all_goals first | omega | exact hd | exact hz | exact ha | exact hw | exact hok | exact hox | exact hx | exact hc70 | exact hc73 | exact (hs (by omega) (by omega)).1 hc104 | exact (hs (by omega) (by omega)).2 hc104 | (simpa using hc114)
    | false =>
      cases hc78 : (decide ((↑a.length : Int) > (15 : Int)) : Bool) with
      | true =>
        have eR := rfPt_3 b d z a w v x e k n ok ox
        refine ⟨_, _, eR.trans (congrArg (fun r => some (r, _)) ?_), ?_⟩
        · try clear eR
          unfold fltG wordF
          try simp only [decide_eq_true_eq, decide_eq_false_iff_not] at hc78
          try simp only [decide_eq_true_eq, decide_eq_false_iff_not] at hc82
          try simp only [decide_eq_true_eq, decide_eq_false_iff_not] at hc86
          try simp only [decide_eq_true_eq, decide_eq_false_iff_not] at hc104
          try simp only [bne_iff_ne, bne_eq_false_iff_eq, ne_eq] at hc114
          first
            | rw [if_neg (by rintro ⟨a1, a2, a3, a4, a5⟩; omega)]
            | rw [if_neg (by rintro ⟨a1, a2, a3, a4, a5⟩; rw [a1] at hc70; exact absurd hc70 (by decide))]
            | rw [if_neg (by rintro ⟨a1, a2, a3, a4, a5⟩; rw [a2] at hc73; exact absurd hc73 (by decide))]
            | (rw [if_pos ⟨by simpa using hc70, by simpa using hc73, by omega, by omega, by omega⟩]
               first
                 | simp only [hc104, hc114, if_true, if_false, Bool.false_eq_true, false_and, true_and, ne_eq, not_true_eq_false, not_false_eq_true]
                 | simp only [hc104, if_true, if_false, Bool.false_eq_true, false_and, true_and])
        · try simp only [decide_eq_true_eq, decide_eq_false_iff_not] at hc78
          try simp only [decide_eq_true_eq, decide_eq_false_iff_not] at hc82
          try simp only [decide_eq_true_eq, decide_eq_false_iff_not] at hc86
          try simp only [decide_eq_true_eq, decide_eq_false_iff_not] at hc104
          have ht : ((1 : Int) + (k : Nat)).toNat = k + 1 := by omega
          simp only [allP, List.take_length, toNat0, toNat1, ht, List.take_succ_cons, List.drop_succ_cons, List.drop_zero, sb_mk]
          simp only [List.length_cons, List.length_take, i64_min, i64_max, and_true, true_and, decide_eq_true_eq, decide_eq_false_iff_not, beq_eq_false_iff_ne, bne_iff_ne, bne_eq_false_iff_eq, ne_eq]
          repeat' apply And.intro
          all_goals first | omega | exact hd | exact hz | exact ha | exact hw | exact hok | exact hox | exact hx | exact hc70 | exact hc73 | exact (hs (by omega) (by omega)).1 hc104 | exact (hs (by omega) (by omega)).2 hc104 | (simpa using hc114)
      | false =>
        cases hc82 : (decide (e < (-22 : Int)) : Bool) with
        | true =>
          have eR := rfPt_4 b d z a w v x e k n ok ox
          refine ⟨_, _, eR.trans (congrArg (fun r => some (r, _)) ?_), ?_⟩
          · try clear eR
            unfold fltG wordF
            try simp only [decide_eq_true_eq, decide_eq_false_iff_not] at hc78
            try simp only [decide_eq_true_eq, decide_eq_false_iff_not] at hc82
            try simp only [decide_eq_true_eq, decide_eq_false_iff_not] at hc86
            try simp only [decide_eq_true_eq, decide_eq_false_iff_not] at hc104
            try simp only [bne_iff_ne, bne_eq_false_iff_eq, ne_eq] at hc114
            first
              | rw [if_neg (by rintro ⟨a1, a2, a3, a4, a5⟩; omega)]
              | rw [if_neg (by rintro ⟨a1, a2, a3, a4, a5⟩; rw [a1] at hc70; exact absurd hc70 (by decide))]
              | rw [if_neg (by rintro ⟨a1, a2, a3, a4, a5⟩; rw [a2] at hc73; exact absurd hc73 (by decide))]
              | (rw [if_pos ⟨by simpa using hc70, by simpa using hc73, by omega, by omega, by omega⟩]
                 first
                   | simp only [hc104, hc114, if_true, if_false, Bool.false_eq_true, false_and, true_and, ne_eq, not_true_eq_false, not_false_eq_true]
                   | simp only [hc104, if_true, if_false, Bool.false_eq_true, false_and, true_and])
          · try simp only [decide_eq_true_eq, decide_eq_false_iff_not] at hc78
            try simp only [decide_eq_true_eq, decide_eq_false_iff_not] at hc82
            try simp only [decide_eq_true_eq, decide_eq_false_iff_not] at hc86
            try simp only [decide_eq_true_eq, decide_eq_false_iff_not] at hc104
            have ht : ((1 : Int) + (k : Nat)).toNat = k + 1 := by omega
            simp only [allP, List.take_length, toNat0, toNat1, ht, List.take_succ_cons, List.drop_succ_cons, List.drop_zero, sb_mk]
            simp only [List.length_cons, List.length_take, i64_min, i64_max, and_true, true_and, decide_eq_true_eq, decide_eq_false_iff_not, beq_eq_false_iff_ne, bne_iff_ne, bne_eq_false_iff_eq, ne_eq]
            repeat' apply And.intro
            all_goals first | omega | exact hd | exact hz | exact ha | exact hw | exact hok | exact hox | exact hx | exact hc70 | exact hc73 | exact (hs (by omega) (by omega)).1 hc104 | exact (hs (by omega) (by omega)).2 hc104 | (simpa using hc114)
        | false =>
          cases hc86 : (decide (e > (22 : Int)) : Bool) with
          | true =>
            have eR := rfPt_5 b d z a w v x e k n ok ox
            refine ⟨_, _, eR.trans (congrArg (fun r => some (r, _)) ?_), ?_⟩
            · try clear eR
              unfold fltG wordF
              try simp only [decide_eq_true_eq, decide_eq_false_iff_not] at hc78
              try simp only [decide_eq_true_eq, decide_eq_false_iff_not] at hc82
              try simp only [decide_eq_true_eq, decide_eq_false_iff_not] at hc86
              try simp only [decide_eq_true_eq, decide_eq_false_iff_not] at hc104
              try simp only [bne_iff_ne, bne_eq_false_iff_eq, ne_eq] at hc114
              first
                | rw [if_neg (by rintro ⟨a1, a2, a3, a4, a5⟩; omega)]
                | rw [if_neg (by rintro ⟨a1, a2, a3, a4, a5⟩; rw [a1] at hc70; exact absurd hc70 (by decide))]
                | rw [if_neg (by rintro ⟨a1, a2, a3, a4, a5⟩; rw [a2] at hc73; exact absurd hc73 (by decide))]
                | (rw [if_pos ⟨by simpa using hc70, by simpa using hc73, by omega, by omega, by omega⟩]
                   first
                     | simp only [hc104, hc114, if_true, if_false, Bool.false_eq_true, false_and, true_and, ne_eq, not_true_eq_false, not_false_eq_true]
                     | simp only [hc104, if_true, if_false, Bool.false_eq_true, false_and, true_and])
            · try simp only [decide_eq_true_eq, decide_eq_false_iff_not] at hc78
              try simp only [decide_eq_true_eq, decide_eq_false_iff_not] at hc82
              try simp only [decide_eq_true_eq, decide_eq_false_iff_not] at hc86
              try simp only [decide_eq_true_eq, decide_eq_false_iff_not] at hc104
              have ht : ((1 : Int) + (k : Nat)).toNat = k + 1 := by omega
              simp only [allP, List.take_length, toNat0, toNat1, ht, List.take_succ_cons, List.drop_succ_cons, List.drop_zero, sb_mk]
              simp only [List.length_cons, List.length_take, i64_min, i64_max, and_true, true_and, decide_eq_true_eq, decide_eq_false_iff_not, beq_eq_false_iff_ne, bne_iff_ne, bne_eq_false_iff_eq, ne_eq]
              repeat' apply And.intro
              all_goals first | omega | exact hd | exact hz | exact ha | exact hw | exact hok | exact hox | exact hx | exact hc70 | exact hc73 | exact (hs (by omega) (by omega)).1 hc104 | exact (hs (by omega) (by omega)).2 hc104 | (simpa using hc114)
          | false =>
            cases hc104 : (decide (e < (0 : Int)) : Bool) with
            | true =>
              cases hc114 : (v != (0 : Int) : Bool) with
              | true =>
                have eR := rfPt_6 b d z a w v x e k n ok ox
                refine ⟨_, _, eR.trans (congrArg (fun r => some (r, _)) ?_), ?_⟩
                · try clear eR
                  unfold fltG wordF
                  try simp only [decide_eq_true_eq, decide_eq_false_iff_not] at hc78
                  try simp only [decide_eq_true_eq, decide_eq_false_iff_not] at hc82
                  try simp only [decide_eq_true_eq, decide_eq_false_iff_not] at hc86
                  try simp only [decide_eq_true_eq, decide_eq_false_iff_not] at hc104
                  try simp only [bne_iff_ne, bne_eq_false_iff_eq, ne_eq] at hc114
                  first
                    | rw [if_neg (by rintro ⟨a1, a2, a3, a4, a5⟩; omega)]
                    | rw [if_neg (by rintro ⟨a1, a2, a3, a4, a5⟩; rw [a1] at hc70; exact absurd hc70 (by decide))]
                    | rw [if_neg (by rintro ⟨a1, a2, a3, a4, a5⟩; rw [a2] at hc73; exact absurd hc73 (by decide))]
                    | (rw [if_pos ⟨by simpa using hc70, by simpa using hc73, by omega, by omega, by omega⟩]
                       first
                         | simp only [hc104, hc114, if_true, if_false, Bool.false_eq_true, false_and, true_and, ne_eq, not_true_eq_false, not_false_eq_true]
                         | simp only [hc104, if_true, if_false, Bool.false_eq_true, false_and, true_and])
                · try simp only [decide_eq_true_eq, decide_eq_false_iff_not] at hc78
                  try simp only [decide_eq_true_eq, decide_eq_false_iff_not] at hc82
                  try simp only [decide_eq_true_eq, decide_eq_false_iff_not] at hc86
                  try simp only [decide_eq_true_eq, decide_eq_false_iff_not] at hc104
                  have ht : ((1 : Int) + (k : Nat)).toNat = k + 1 := by omega
                  simp only [allP, List.take_length, toNat0, toNat1, ht, List.take_succ_cons, List.drop_succ_cons, List.drop_zero, sb_mk]
                  simp only [List.length_cons, List.length_take, i64_min, i64_max, and_true, true_and, decide_eq_true_eq, decide_eq_false_iff_not, beq_eq_false_iff_ne, bne_iff_ne, bne_eq_false_iff_eq, ne_eq]
                  repeat' apply And.intro
                  all_goals first | omega | exact hd | exact hz | exact ha | exact hw | exact hok | exact hox | exact hx | exact hc70 | exact hc73 | exact (hs (by omega) (by omega)).1 hc104 | exact (hs (by omega) (by omega)).2 hc104 | (simpa using hc114)
              | false =>
                have eR := rfPt_7 b d z a w v x e k n ok ox
                refine ⟨_, _, eR.trans (congrArg (fun r => some (r, _)) ?_), ?_⟩
                · try clear eR
                  unfold fltG wordF
                  try simp only [decide_eq_true_eq, decide_eq_false_iff_not] at hc78
                  try simp only [decide_eq_true_eq, decide_eq_false_iff_not] at hc82
                  try simp only [decide_eq_true_eq, decide_eq_false_iff_not] at hc86
                  try simp only [decide_eq_true_eq, decide_eq_false_iff_not] at hc104
                  try simp only [bne_iff_ne, bne_eq_false_iff_eq, ne_eq] at hc114
                  first
                    | rw [if_neg (by rintro ⟨a1, a2, a3, a4, a5⟩; omega)]
                    | rw [if_neg (by rintro ⟨a1, a2, a3, a4, a5⟩; rw [a1] at hc70; exact absurd hc70 (by decide))]
                    | rw [if_neg (by rintro ⟨a1, a2, a3, a4, a5⟩; rw [a2] at hc73; exact absurd hc73 (by decide))]
                    | (rw [if_pos ⟨by simpa using hc70, by simpa using hc73, by omega, by omega, by omega⟩]
                       first
                         | simp only [hc104, hc114, if_true, if_false, Bool.false_eq_true, false_and, true_and, ne_eq, not_true_eq_false, not_false_eq_true]
                         | simp only [hc104, if_true, if_false, Bool.false_eq_true, false_and, true_and])
                · try simp only [decide_eq_true_eq, decide_eq_false_iff_not] at hc78
                  try simp only [decide_eq_true_eq, decide_eq_false_iff_not] at hc82
                  try simp only [decide_eq_true_eq, decide_eq_false_iff_not] at hc86
                  try simp only [decide_eq_true_eq, decide_eq_false_iff_not] at hc104
                  have ht : ((1 : Int) + (k : Nat)).toNat = k + 1 := by omega
                  simp only [allP, List.take_length, toNat0, toNat1, ht, List.take_succ_cons, List.drop_succ_cons, List.drop_zero, sb_mk]
                  simp only [List.length_cons, List.length_take, i64_min, i64_max, and_true, true_and, decide_eq_true_eq, decide_eq_false_iff_not, beq_eq_false_iff_ne, bne_iff_ne, bne_eq_false_iff_eq, ne_eq]
                  repeat' apply And.intro
                  all_goals first | omega | exact hd | exact hz | exact ha | exact hw | exact hok | exact hox | exact hx | exact hc70 | exact hc73 | exact (hs (by omega) (by omega)).1 hc104 | exact (hs (by omega) (by omega)).2 hc104 | (simpa using hc114)
            | false =>
              cases hc114 : (v != (0 : Int) : Bool) with
              | true =>
                have eR := rfPt_8 b d z a w v x e k n ok ox
                refine ⟨_, _, eR.trans (congrArg (fun r => some (r, _)) ?_), ?_⟩
                · try clear eR
                  unfold fltG wordF
                  try simp only [decide_eq_true_eq, decide_eq_false_iff_not] at hc78
                  try simp only [decide_eq_true_eq, decide_eq_false_iff_not] at hc82
                  try simp only [decide_eq_true_eq, decide_eq_false_iff_not] at hc86
                  try simp only [decide_eq_true_eq, decide_eq_false_iff_not] at hc104
                  try simp only [bne_iff_ne, bne_eq_false_iff_eq, ne_eq] at hc114
                  first
                    | rw [if_neg (by rintro ⟨a1, a2, a3, a4, a5⟩; omega)]
                    | rw [if_neg (by rintro ⟨a1, a2, a3, a4, a5⟩; rw [a1] at hc70; exact absurd hc70 (by decide))]
                    | rw [if_neg (by rintro ⟨a1, a2, a3, a4, a5⟩; rw [a2] at hc73; exact absurd hc73 (by decide))]
                    | (rw [if_pos ⟨by simpa using hc70, by simpa using hc73, by omega, by omega, by omega⟩]
                       first
                         | simp only [hc104, hc114, if_true, if_false, Bool.false_eq_true, false_and, true_and, ne_eq, not_true_eq_false, not_false_eq_true]
                         | simp only [hc104, if_true, if_false, Bool.false_eq_true, false_and, true_and])
                · try simp only [decide_eq_true_eq, decide_eq_false_iff_not] at hc78
                  try simp only [decide_eq_true_eq, decide_eq_false_iff_not] at hc82
                  try simp only [decide_eq_true_eq, decide_eq_false_iff_not] at hc86
                  try simp only [decide_eq_true_eq, decide_eq_false_iff_not] at hc104
                  have ht : ((1 : Int) + (k : Nat)).toNat = k + 1 := by omega
                  simp only [allP, List.take_length, toNat0, toNat1, ht, List.take_succ_cons, List.drop_succ_cons, List.drop_zero, sb_mk]
                  simp only [List.length_cons, List.length_take, i64_min, i64_max, and_true, true_and, decide_eq_true_eq, decide_eq_false_iff_not, beq_eq_false_iff_ne, bne_iff_ne, bne_eq_false_iff_eq, ne_eq]
                  repeat' apply And.intro
                  all_goals first | omega | exact hd | exact hz | exact ha | exact hw | exact hok | exact hox | exact hx | exact hc70 | exact hc73 | exact (hs (by omega) (by omega)).1 hc104 | exact (hs (by omega) (by omega)).2 hc104 | (simpa using hc114)
              | false =>
                have eR := rfPt_9 b d z a w v x e k n ok ox
                refine ⟨_, _, eR.trans (congrArg (fun r => some (r, _)) ?_), ?_⟩
                · try clear eR
                  unfold fltG wordF
                  try simp only [decide_eq_true_eq, decide_eq_false_iff_not] at hc78
                  try simp only [decide_eq_true_eq, decide_eq_false_iff_not] at hc82
                  try simp only [decide_eq_true_eq, decide_eq_false_iff_not] at hc86
                  try simp only [decide_eq_true_eq, decide_eq_false_iff_not] at hc104
                  try simp only [bne_iff_ne, bne_eq_false_iff_eq, ne_eq] at hc114
                  first
                    | rw [if_neg (by rintro ⟨a1, a2, a3, a4, a5⟩; omega)]
                    | rw [if_neg (by rintro ⟨a1, a2, a3, a4, a5⟩; rw [a1] at hc70; exact absurd hc70 (by decide))]
                    | rw [if_neg (by rintro ⟨a1, a2, a3, a4, a5⟩; rw [a2] at hc73; exact absurd hc73 (by decide))]
                    | (rw [if_pos ⟨by simpa using hc70, by simpa using hc73, by omega, by omega, by omega⟩]
                       first
                         | simp only [hc104, hc114, if_true, if_false, Bool.false_eq_true, false_and, true_and, ne_eq, not_true_eq_false, not_false_eq_true]
                         | simp only [hc104, if_true, if_false, Bool.false_eq_true, false_and, true_and])
                · try simp only [decide_eq_true_eq, decide_eq_false_iff_not] at hc78
                  try simp only [decide_eq_true_eq, decide_eq_false_iff_not] at hc82
                  try simp only [decide_eq_true_eq, decide_eq_false_iff_not] at hc86
                  try simp only [decide_eq_true_eq, decide_eq_false_iff_not] at hc104
                  have ht : ((1 : Int) + (k : Nat)).toNat = k + 1 := by omega
                  simp only [allP, List.take_length, toNat0, toNat1, ht, List.take_succ_cons, List.drop_succ_cons, List.drop_zero, sb_mk]
                  simp only [List.length_cons, List.length_take, i64_min, i64_max, and_true, true_and, decide_eq_true_eq, decide_eq_false_iff_not, beq_eq_false_iff_ne, bne_iff_ne, bne_eq_false_iff_eq, ne_eq]
                  repeat' apply And.intro
                  all_goals first | omega | exact hd | exact hz | exact ha | exact hw | exact hok | exact hox | exact hx | exact hc70 | exact hc73 | exact (hs (by omega) (by omega)).1 hc104 | exact (hs (by omega) (by omega)).2 hc104 | (simpa using hc114)


theorem rfPf_1 (b d z a w : List UInt8) (v x e : Int) (k n : Nat) (ok ox : Bool) : outcome Try.prog 12 (aBody Try.prog clF ⟨true, bs [(70, true)] ++ (bs [(17, true), (21, false),(35, true), (39, true), (45, false)] ++ [(27, ⟨.c (.int .i64 n), none⟩), (30, ⟨.c (str d), none⟩), (33, ⟨.c (str (46 :: z)), none⟩), (42, ⟨.c (str z), none⟩), (43, ⟨.c (.int .i64 k), none⟩), (51, ⟨.c (str a), none⟩), (55, ⟨.c (str w), none⟩), (59, ⟨.c (.int .i64 v), none⟩), (60, ⟨.c (.bool ok), none⟩), (64, ⟨.c (.int .i64 x), none⟩), (65, ⟨.c (.bool ox), none⟩), (68, ⟨.c (.int .i64 e), none⟩)])⟩ (lpBy (rfLp false v e)) 60 12 ([.c (str (b))]) ([])) = some ((AV.tu [(AV.c ((Value.float .f64 0))),
 (AV.c ((Value.bool false)))]), [((!b == [] : Bool)) = (true),
 (((0 : Int) : Int) ≤ ((0 : Int))),
 (((0 : Int) : Int) < ((↑b.length : Int))),
 (((↑(b.getD (Int.toNat (0 : Int)) (0 : UInt8)).toNat : Int) == (45 : Int) : Bool)) = (false),
 ((b.length : Nat) ≤ ((1000000000 : Nat))),
 (((↑(ldD b) : Int) : Int)) = ((↑n : Int)),
 (((0 : Int) : Int) ≤ ((0 : Int))),
 (((0 : Int) : Int) ≤ ((↑n : Int))),
 (((↑n : Int) : Int) ≤ ((↑b.length : Int))),
 ((List.drop (Int.toNat (0 : Int)) (List.take n b) : List UInt8)) = (d),
 (((0 : Int) : Int) ≤ ((↑n : Int))),
 (((↑n : Int) : Int) ≤ ((↑b.length : Int))),
 (((↑b.length : Int) : Int) ≤ ((↑b.length : Int))),
 ((List.drop n (List.take b.length b) : List UInt8)) = ((46 : UInt8) :: z),
 ((true : Bool)) = (true),
 (((0 : Int) : Int) ≤ ((0 : Int))),
 (((0 : Int) : Int) < ((↑((46 : UInt8) :: z).length : Int))),
 ((true : Bool)) = (true),
 (((0 : Int) : Int) ≤ ((1 : Int))),
 (((1 : Int) : Int) ≤ ((↑((46 : UInt8) :: z).length : Int))),
 (((↑((46 : UInt8) :: z).length : Int) : Int) ≤ ((↑((46 : UInt8) :: z).length : Int))),
 ((List.drop (Int.toNat (1 : Int)) (List.take ((46 : UInt8) :: z).length ((46 : UInt8) :: z)) : List UInt8)) = (z),
 ((z.length : Nat) ≤ ((1000000000 : Nat))),
 (((↑(ldD z) : Int) : Int)) = ((↑k : Int)),
 (((↑k : Int) == (0 : Int) : Bool)) = (false),
 ((IntKind.i64.min : Int) ≤ ((1 : Int) + (↑k : Int))),
 (((1 : Int) + (↑k : Int) : Int) ≤ (IntKind.i64.max)),
 (((0 : Int) : Int) ≤ ((1 : Int))),
 (((1 : Int) : Int) ≤ ((1 : Int) + (↑k : Int))),
 (((1 : Int) + (↑k : Int) : Int) ≤ ((↑((46 : UInt8) :: z).length : Int))),
 ((d.length + (List.drop (Int.toNat (1 : Int)) (List.take ((1 : Int) + (↑k : Int)).toNat ((46 : UInt8) :: z))).length : Nat) ≤ ((9223372036854775807 : Nat))),
 ((d ++ List.drop (Int.toNat (1 : Int)) (List.take ((1 : Int) + (↑k : Int)).toNat ((46 : UInt8) :: z)) : List UInt8)) = (a),
 ((IntKind.i64.min : Int) ≤ ((1 : Int) + (↑k : Int))),
 (((1 : Int) + (↑k : Int) : Int) ≤ (IntKind.i64.max)),
 (((0 : Int) : Int) ≤ ((1 : Int) + (↑k : Int))),
 (((1 : Int) + (↑k : Int) : Int) ≤ ((↑((46 : UInt8) :: z).length : Int))),
 (((↑((46 : UInt8) :: z).length : Int) : Int) ≤ ((↑((46 : UInt8) :: z).length : Int))),
 ((List.drop ((1 : Int) + (↑k : Int)).toNat (List.take ((46 : UInt8) :: z).length ((46 : UInt8) :: z)) : List UInt8)) = (w),
 ((a.length : Nat) ≤ ((1000000000 : Nat))),
 (((↑(wV a) : Int) : Int)) = (v),
 ((wOK a : Bool)) = (ok),
 ((w.length : Nat) ≤ ((999999990 : Nat))),
 (((expoF (sb { data := { toList := w } })).getD (0 : Int) : Int)) = (x),
 (((expoF (sb { data := { toList := w } })).isSome : Bool)) = (ox),
 ((IntKind.i64.min : Int) ≤ (x - (↑k : Int))),
 ((x - (↑k : Int) : Int) ≤ (IntKind.i64.max)),
 ((x - (↑k : Int) : Int)) = (e),
 ((!ok : Bool)) = (true)]) := by kernel_rfl

theorem rfPf_2 (b d z a w : List UInt8) (v x e : Int) (k n : Nat) (ok ox : Bool) : outcome Try.prog 12 (aBody Try.prog clF ⟨true, bs [(70, false), (73, true)] ++ (bs [(17, true), (21, false),(35, true), (39, true), (45, false)] ++ [(27, ⟨.c (.int .i64 n), none⟩), (30, ⟨.c (str d), none⟩), (33, ⟨.c (str (46 :: z)), none⟩), (42, ⟨.c (str z), none⟩), (43, ⟨.c (.int .i64 k), none⟩), (51, ⟨.c (str a), none⟩), (55, ⟨.c (str w), none⟩), (59, ⟨.c (.int .i64 v), none⟩), (60, ⟨.c (.bool ok), none⟩), (64, ⟨.c (.int .i64 x), none⟩), (65, ⟨.c (.bool ox), none⟩), (68, ⟨.c (.int .i64 e), none⟩)])⟩ (lpBy (rfLp false v e)) 60 12 ([.c (str (b))]) ([])) = some ((AV.tu [(AV.c ((Value.float .f64 0))),
 (AV.c ((Value.bool false)))]), [((!b == [] : Bool)) = (true),
 (((0 : Int) : Int) ≤ ((0 : Int))),
 (((0 : Int) : Int) < ((↑b.length : Int))),
 (((↑(b.getD (Int.toNat (0 : Int)) (0 : UInt8)).toNat : Int) == (45 : Int) : Bool)) = (false),
 ((b.length : Nat) ≤ ((1000000000 : Nat))),
 (((↑(ldD b) : Int) : Int)) = ((↑n : Int)),
 (((0 : Int) : Int) ≤ ((0 : Int))),
 (((0 : Int) : Int) ≤ ((↑n : Int))),
 (((↑n : Int) : Int) ≤ ((↑b.length : Int))),
 ((List.drop (Int.toNat (0 : Int)) (List.take n b) : List UInt8)) = (d),
 (((0 : Int) : Int) ≤ ((↑n : Int))),
 (((↑n : Int) : Int) ≤ ((↑b.length : Int))),
 (((↑b.length : Int) : Int) ≤ ((↑b.length : Int))),
 ((List.drop n (List.take b.length b) : List UInt8)) = ((46 : UInt8) :: z),
 ((true : Bool)) = (true),
 (((0 : Int) : Int) ≤ ((0 : Int))),
 (((0 : Int) : Int) < ((↑((46 : UInt8) :: z).length : Int))),
 ((true : Bool)) = (true),
 (((0 : Int) : Int) ≤ ((1 : Int))),
 (((1 : Int) : Int) ≤ ((↑((46 : UInt8) :: z).length : Int))),
 (((↑((46 : UInt8) :: z).length : Int) : Int) ≤ ((↑((46 : UInt8) :: z).length : Int))),
 ((List.drop (Int.toNat (1 : Int)) (List.take ((46 : UInt8) :: z).length ((46 : UInt8) :: z)) : List UInt8)) = (z),
 ((z.length : Nat) ≤ ((1000000000 : Nat))),
 (((↑(ldD z) : Int) : Int)) = ((↑k : Int)),
 (((↑k : Int) == (0 : Int) : Bool)) = (false),
 ((IntKind.i64.min : Int) ≤ ((1 : Int) + (↑k : Int))),
 (((1 : Int) + (↑k : Int) : Int) ≤ (IntKind.i64.max)),
 (((0 : Int) : Int) ≤ ((1 : Int))),
 (((1 : Int) : Int) ≤ ((1 : Int) + (↑k : Int))),
 (((1 : Int) + (↑k : Int) : Int) ≤ ((↑((46 : UInt8) :: z).length : Int))),
 ((d.length + (List.drop (Int.toNat (1 : Int)) (List.take ((1 : Int) + (↑k : Int)).toNat ((46 : UInt8) :: z))).length : Nat) ≤ ((9223372036854775807 : Nat))),
 ((d ++ List.drop (Int.toNat (1 : Int)) (List.take ((1 : Int) + (↑k : Int)).toNat ((46 : UInt8) :: z)) : List UInt8)) = (a),
 ((IntKind.i64.min : Int) ≤ ((1 : Int) + (↑k : Int))),
 (((1 : Int) + (↑k : Int) : Int) ≤ (IntKind.i64.max)),
 (((0 : Int) : Int) ≤ ((1 : Int) + (↑k : Int))),
 (((1 : Int) + (↑k : Int) : Int) ≤ ((↑((46 : UInt8) :: z).length : Int))),
 (((↑((46 : UInt8) :: z).length : Int) : Int) ≤ ((↑((46 : UInt8) :: z).length : Int))),
 ((List.drop ((1 : Int) + (↑k : Int)).toNat (List.take ((46 : UInt8) :: z).length ((46 : UInt8) :: z)) : List UInt8)) = (w),
 ((a.length : Nat) ≤ ((1000000000 : Nat))),
 (((↑(wV a) : Int) : Int)) = (v),
 ((wOK a : Bool)) = (ok),
 ((w.length : Nat) ≤ ((999999990 : Nat))),
 (((expoF (sb { data := { toList := w } })).getD (0 : Int) : Int)) = (x),
 (((expoF (sb { data := { toList := w } })).isSome : Bool)) = (ox),
 ((IntKind.i64.min : Int) ≤ (x - (↑k : Int))),
 ((x - (↑k : Int) : Int) ≤ (IntKind.i64.max)),
 ((x - (↑k : Int) : Int)) = (e),
 ((!ok : Bool)) = (false),
 ((!ox : Bool)) = (true)]) := by kernel_rfl

theorem rfPf_3 (b d z a w : List UInt8) (v x e : Int) (k n : Nat) (ok ox : Bool) : outcome Try.prog 12 (aBody Try.prog clF ⟨true, bs [(70, false), (73, false), (78, true)] ++ (bs [(17, true), (21, false),(35, true), (39, true), (45, false)] ++ [(27, ⟨.c (.int .i64 n), none⟩), (30, ⟨.c (str d), none⟩), (33, ⟨.c (str (46 :: z)), none⟩), (42, ⟨.c (str z), none⟩), (43, ⟨.c (.int .i64 k), none⟩), (51, ⟨.c (str a), none⟩), (55, ⟨.c (str w), none⟩), (59, ⟨.c (.int .i64 v), none⟩), (60, ⟨.c (.bool ok), none⟩), (64, ⟨.c (.int .i64 x), none⟩), (65, ⟨.c (.bool ox), none⟩), (68, ⟨.c (.int .i64 e), none⟩)])⟩ (lpBy (rfLp false v e)) 60 12 ([.c (str (b))]) ([])) = some ((AV.tu [(AV.c ((Value.float .f64 0))),
 (AV.c ((Value.bool false)))]), [((!b == [] : Bool)) = (true),
 (((0 : Int) : Int) ≤ ((0 : Int))),
 (((0 : Int) : Int) < ((↑b.length : Int))),
 (((↑(b.getD (Int.toNat (0 : Int)) (0 : UInt8)).toNat : Int) == (45 : Int) : Bool)) = (false),
 ((b.length : Nat) ≤ ((1000000000 : Nat))),
 (((↑(ldD b) : Int) : Int)) = ((↑n : Int)),
 (((0 : Int) : Int) ≤ ((0 : Int))),
 (((0 : Int) : Int) ≤ ((↑n : Int))),
 (((↑n : Int) : Int) ≤ ((↑b.length : Int))),
 ((List.drop (Int.toNat (0 : Int)) (List.take n b) : List UInt8)) = (d),
 (((0 : Int) : Int) ≤ ((↑n : Int))),
 (((↑n : Int) : Int) ≤ ((↑b.length : Int))),
 (((↑b.length : Int) : Int) ≤ ((↑b.length : Int))),
 ((List.drop n (List.take b.length b) : List UInt8)) = ((46 : UInt8) :: z),
 ((true : Bool)) = (true),
 (((0 : Int) : Int) ≤ ((0 : Int))),
 (((0 : Int) : Int) < ((↑((46 : UInt8) :: z).length : Int))),
 ((true : Bool)) = (true),
 (((0 : Int) : Int) ≤ ((1 : Int))),
 (((1 : Int) : Int) ≤ ((↑((46 : UInt8) :: z).length : Int))),
 (((↑((46 : UInt8) :: z).length : Int) : Int) ≤ ((↑((46 : UInt8) :: z).length : Int))),
 ((List.drop (Int.toNat (1 : Int)) (List.take ((46 : UInt8) :: z).length ((46 : UInt8) :: z)) : List UInt8)) = (z),
 ((z.length : Nat) ≤ ((1000000000 : Nat))),
 (((↑(ldD z) : Int) : Int)) = ((↑k : Int)),
 (((↑k : Int) == (0 : Int) : Bool)) = (false),
 ((IntKind.i64.min : Int) ≤ ((1 : Int) + (↑k : Int))),
 (((1 : Int) + (↑k : Int) : Int) ≤ (IntKind.i64.max)),
 (((0 : Int) : Int) ≤ ((1 : Int))),
 (((1 : Int) : Int) ≤ ((1 : Int) + (↑k : Int))),
 (((1 : Int) + (↑k : Int) : Int) ≤ ((↑((46 : UInt8) :: z).length : Int))),
 ((d.length + (List.drop (Int.toNat (1 : Int)) (List.take ((1 : Int) + (↑k : Int)).toNat ((46 : UInt8) :: z))).length : Nat) ≤ ((9223372036854775807 : Nat))),
 ((d ++ List.drop (Int.toNat (1 : Int)) (List.take ((1 : Int) + (↑k : Int)).toNat ((46 : UInt8) :: z)) : List UInt8)) = (a),
 ((IntKind.i64.min : Int) ≤ ((1 : Int) + (↑k : Int))),
 (((1 : Int) + (↑k : Int) : Int) ≤ (IntKind.i64.max)),
 (((0 : Int) : Int) ≤ ((1 : Int) + (↑k : Int))),
 (((1 : Int) + (↑k : Int) : Int) ≤ ((↑((46 : UInt8) :: z).length : Int))),
 (((↑((46 : UInt8) :: z).length : Int) : Int) ≤ ((↑((46 : UInt8) :: z).length : Int))),
 ((List.drop ((1 : Int) + (↑k : Int)).toNat (List.take ((46 : UInt8) :: z).length ((46 : UInt8) :: z)) : List UInt8)) = (w),
 ((a.length : Nat) ≤ ((1000000000 : Nat))),
 (((↑(wV a) : Int) : Int)) = (v),
 ((wOK a : Bool)) = (ok),
 ((w.length : Nat) ≤ ((999999990 : Nat))),
 (((expoF (sb { data := { toList := w } })).getD (0 : Int) : Int)) = (x),
 (((expoF (sb { data := { toList := w } })).isSome : Bool)) = (ox),
 ((IntKind.i64.min : Int) ≤ (x - (↑k : Int))),
 ((x - (↑k : Int) : Int) ≤ (IntKind.i64.max)),
 ((x - (↑k : Int) : Int)) = (e),
 ((!ok : Bool)) = (false),
 ((!ox : Bool)) = (false),
 ((decide ((↑a.length : Int) > (15 : Int)) : Bool)) = (true)]) := by kernel_rfl

theorem rfPf_4 (b d z a w : List UInt8) (v x e : Int) (k n : Nat) (ok ox : Bool) : outcome Try.prog 12 (aBody Try.prog clF ⟨true, bs [(70, false), (73, false), (78, false), (82, true)] ++ (bs [(17, true), (21, false),(35, true), (39, true), (45, false)] ++ [(27, ⟨.c (.int .i64 n), none⟩), (30, ⟨.c (str d), none⟩), (33, ⟨.c (str (46 :: z)), none⟩), (42, ⟨.c (str z), none⟩), (43, ⟨.c (.int .i64 k), none⟩), (51, ⟨.c (str a), none⟩), (55, ⟨.c (str w), none⟩), (59, ⟨.c (.int .i64 v), none⟩), (60, ⟨.c (.bool ok), none⟩), (64, ⟨.c (.int .i64 x), none⟩), (65, ⟨.c (.bool ox), none⟩), (68, ⟨.c (.int .i64 e), none⟩)])⟩ (lpBy (rfLp false v e)) 60 12 ([.c (str (b))]) ([])) = some ((AV.tu [(AV.c ((Value.float .f64 0))),
 (AV.c ((Value.bool false)))]), [((!b == [] : Bool)) = (true),
 (((0 : Int) : Int) ≤ ((0 : Int))),
 (((0 : Int) : Int) < ((↑b.length : Int))),
 (((↑(b.getD (Int.toNat (0 : Int)) (0 : UInt8)).toNat : Int) == (45 : Int) : Bool)) = (false),
 ((b.length : Nat) ≤ ((1000000000 : Nat))),
 (((↑(ldD b) : Int) : Int)) = ((↑n : Int)),
 (((0 : Int) : Int) ≤ ((0 : Int))),
 (((0 : Int) : Int) ≤ ((↑n : Int))),
 (((↑n : Int) : Int) ≤ ((↑b.length : Int))),
 ((List.drop (Int.toNat (0 : Int)) (List.take n b) : List UInt8)) = (d),
 (((0 : Int) : Int) ≤ ((↑n : Int))),
 (((↑n : Int) : Int) ≤ ((↑b.length : Int))),
 (((↑b.length : Int) : Int) ≤ ((↑b.length : Int))),
 ((List.drop n (List.take b.length b) : List UInt8)) = ((46 : UInt8) :: z),
 ((true : Bool)) = (true),
 (((0 : Int) : Int) ≤ ((0 : Int))),
 (((0 : Int) : Int) < ((↑((46 : UInt8) :: z).length : Int))),
 ((true : Bool)) = (true),
 (((0 : Int) : Int) ≤ ((1 : Int))),
 (((1 : Int) : Int) ≤ ((↑((46 : UInt8) :: z).length : Int))),
 (((↑((46 : UInt8) :: z).length : Int) : Int) ≤ ((↑((46 : UInt8) :: z).length : Int))),
 ((List.drop (Int.toNat (1 : Int)) (List.take ((46 : UInt8) :: z).length ((46 : UInt8) :: z)) : List UInt8)) = (z),
 ((z.length : Nat) ≤ ((1000000000 : Nat))),
 (((↑(ldD z) : Int) : Int)) = ((↑k : Int)),
 (((↑k : Int) == (0 : Int) : Bool)) = (false),
 ((IntKind.i64.min : Int) ≤ ((1 : Int) + (↑k : Int))),
 (((1 : Int) + (↑k : Int) : Int) ≤ (IntKind.i64.max)),
 (((0 : Int) : Int) ≤ ((1 : Int))),
 (((1 : Int) : Int) ≤ ((1 : Int) + (↑k : Int))),
 (((1 : Int) + (↑k : Int) : Int) ≤ ((↑((46 : UInt8) :: z).length : Int))),
 ((d.length + (List.drop (Int.toNat (1 : Int)) (List.take ((1 : Int) + (↑k : Int)).toNat ((46 : UInt8) :: z))).length : Nat) ≤ ((9223372036854775807 : Nat))),
 ((d ++ List.drop (Int.toNat (1 : Int)) (List.take ((1 : Int) + (↑k : Int)).toNat ((46 : UInt8) :: z)) : List UInt8)) = (a),
 ((IntKind.i64.min : Int) ≤ ((1 : Int) + (↑k : Int))),
 (((1 : Int) + (↑k : Int) : Int) ≤ (IntKind.i64.max)),
 (((0 : Int) : Int) ≤ ((1 : Int) + (↑k : Int))),
 (((1 : Int) + (↑k : Int) : Int) ≤ ((↑((46 : UInt8) :: z).length : Int))),
 (((↑((46 : UInt8) :: z).length : Int) : Int) ≤ ((↑((46 : UInt8) :: z).length : Int))),
 ((List.drop ((1 : Int) + (↑k : Int)).toNat (List.take ((46 : UInt8) :: z).length ((46 : UInt8) :: z)) : List UInt8)) = (w),
 ((a.length : Nat) ≤ ((1000000000 : Nat))),
 (((↑(wV a) : Int) : Int)) = (v),
 ((wOK a : Bool)) = (ok),
 ((w.length : Nat) ≤ ((999999990 : Nat))),
 (((expoF (sb { data := { toList := w } })).getD (0 : Int) : Int)) = (x),
 (((expoF (sb { data := { toList := w } })).isSome : Bool)) = (ox),
 ((IntKind.i64.min : Int) ≤ (x - (↑k : Int))),
 ((x - (↑k : Int) : Int) ≤ (IntKind.i64.max)),
 ((x - (↑k : Int) : Int)) = (e),
 ((!ok : Bool)) = (false),
 ((!ox : Bool)) = (false),
 ((decide ((↑a.length : Int) > (15 : Int)) : Bool)) = (false),
 ((decide (e < (-22 : Int)) : Bool)) = (true)]) := by kernel_rfl

theorem rfPf_5 (b d z a w : List UInt8) (v x e : Int) (k n : Nat) (ok ox : Bool) : outcome Try.prog 12 (aBody Try.prog clF ⟨true, bs [(70, false), (73, false), (78, false), (82, false), (86, true)] ++ (bs [(17, true), (21, false),(35, true), (39, true), (45, false)] ++ [(27, ⟨.c (.int .i64 n), none⟩), (30, ⟨.c (str d), none⟩), (33, ⟨.c (str (46 :: z)), none⟩), (42, ⟨.c (str z), none⟩), (43, ⟨.c (.int .i64 k), none⟩), (51, ⟨.c (str a), none⟩), (55, ⟨.c (str w), none⟩), (59, ⟨.c (.int .i64 v), none⟩), (60, ⟨.c (.bool ok), none⟩), (64, ⟨.c (.int .i64 x), none⟩), (65, ⟨.c (.bool ox), none⟩), (68, ⟨.c (.int .i64 e), none⟩)])⟩ (lpBy (rfLp false v e)) 60 12 ([.c (str (b))]) ([])) = some ((AV.tu [(AV.c ((Value.float .f64 0))),
 (AV.c ((Value.bool false)))]), [((!b == [] : Bool)) = (true),
 (((0 : Int) : Int) ≤ ((0 : Int))),
 (((0 : Int) : Int) < ((↑b.length : Int))),
 (((↑(b.getD (Int.toNat (0 : Int)) (0 : UInt8)).toNat : Int) == (45 : Int) : Bool)) = (false),
 ((b.length : Nat) ≤ ((1000000000 : Nat))),
 (((↑(ldD b) : Int) : Int)) = ((↑n : Int)),
 (((0 : Int) : Int) ≤ ((0 : Int))),
 (((0 : Int) : Int) ≤ ((↑n : Int))),
 (((↑n : Int) : Int) ≤ ((↑b.length : Int))),
 ((List.drop (Int.toNat (0 : Int)) (List.take n b) : List UInt8)) = (d),
 (((0 : Int) : Int) ≤ ((↑n : Int))),
 (((↑n : Int) : Int) ≤ ((↑b.length : Int))),
 (((↑b.length : Int) : Int) ≤ ((↑b.length : Int))),
 ((List.drop n (List.take b.length b) : List UInt8)) = ((46 : UInt8) :: z),
 ((true : Bool)) = (true),
 (((0 : Int) : Int) ≤ ((0 : Int))),
 (((0 : Int) : Int) < ((↑((46 : UInt8) :: z).length : Int))),
 ((true : Bool)) = (true),
 (((0 : Int) : Int) ≤ ((1 : Int))),
 (((1 : Int) : Int) ≤ ((↑((46 : UInt8) :: z).length : Int))),
 (((↑((46 : UInt8) :: z).length : Int) : Int) ≤ ((↑((46 : UInt8) :: z).length : Int))),
 ((List.drop (Int.toNat (1 : Int)) (List.take ((46 : UInt8) :: z).length ((46 : UInt8) :: z)) : List UInt8)) = (z),
 ((z.length : Nat) ≤ ((1000000000 : Nat))),
 (((↑(ldD z) : Int) : Int)) = ((↑k : Int)),
 (((↑k : Int) == (0 : Int) : Bool)) = (false),
 ((IntKind.i64.min : Int) ≤ ((1 : Int) + (↑k : Int))),
 (((1 : Int) + (↑k : Int) : Int) ≤ (IntKind.i64.max)),
 (((0 : Int) : Int) ≤ ((1 : Int))),
 (((1 : Int) : Int) ≤ ((1 : Int) + (↑k : Int))),
 (((1 : Int) + (↑k : Int) : Int) ≤ ((↑((46 : UInt8) :: z).length : Int))),
 ((d.length + (List.drop (Int.toNat (1 : Int)) (List.take ((1 : Int) + (↑k : Int)).toNat ((46 : UInt8) :: z))).length : Nat) ≤ ((9223372036854775807 : Nat))),
 ((d ++ List.drop (Int.toNat (1 : Int)) (List.take ((1 : Int) + (↑k : Int)).toNat ((46 : UInt8) :: z)) : List UInt8)) = (a),
 ((IntKind.i64.min : Int) ≤ ((1 : Int) + (↑k : Int))),
 (((1 : Int) + (↑k : Int) : Int) ≤ (IntKind.i64.max)),
 (((0 : Int) : Int) ≤ ((1 : Int) + (↑k : Int))),
 (((1 : Int) + (↑k : Int) : Int) ≤ ((↑((46 : UInt8) :: z).length : Int))),
 (((↑((46 : UInt8) :: z).length : Int) : Int) ≤ ((↑((46 : UInt8) :: z).length : Int))),
 ((List.drop ((1 : Int) + (↑k : Int)).toNat (List.take ((46 : UInt8) :: z).length ((46 : UInt8) :: z)) : List UInt8)) = (w),
 ((a.length : Nat) ≤ ((1000000000 : Nat))),
 (((↑(wV a) : Int) : Int)) = (v),
 ((wOK a : Bool)) = (ok),
 ((w.length : Nat) ≤ ((999999990 : Nat))),
 (((expoF (sb { data := { toList := w } })).getD (0 : Int) : Int)) = (x),
 (((expoF (sb { data := { toList := w } })).isSome : Bool)) = (ox),
 ((IntKind.i64.min : Int) ≤ (x - (↑k : Int))),
 ((x - (↑k : Int) : Int) ≤ (IntKind.i64.max)),
 ((x - (↑k : Int) : Int)) = (e),
 ((!ok : Bool)) = (false),
 ((!ox : Bool)) = (false),
 ((decide ((↑a.length : Int) > (15 : Int)) : Bool)) = (false),
 ((decide (e < (-22 : Int)) : Bool)) = (false),
 ((decide (e > (22 : Int)) : Bool)) = (true)]) := by kernel_rfl

theorem rfPf_6 (b d z a w : List UInt8) (v x e : Int) (k n : Nat) (ok ox : Bool) : outcome Try.prog 12 (aBody Try.prog clF ⟨true, bs [(70, false), (73, false), (78, false), (82, false), (86, false), (104, true)] ++ (bs [(17, true), (21, false),(35, true), (39, true), (45, false)] ++ [(27, ⟨.c (.int .i64 n), none⟩), (30, ⟨.c (str d), none⟩), (33, ⟨.c (str (46 :: z)), none⟩), (42, ⟨.c (str z), none⟩), (43, ⟨.c (.int .i64 k), none⟩), (51, ⟨.c (str a), none⟩), (55, ⟨.c (str w), none⟩), (59, ⟨.c (.int .i64 v), none⟩), (60, ⟨.c (.bool ok), none⟩), (64, ⟨.c (.int .i64 x), none⟩), (65, ⟨.c (.bool ox), none⟩), (68, ⟨.c (.int .i64 e), none⟩)])⟩ (lpBy (rfLp false v e)) 60 12 ([.c (str (b))]) ([])) = some ((AV.tu [(AV.c ((Value.float .f64 ((floatBits BinOp.quo FloatKind.f64 (floatOfInt FloatKind.f64 v) (pwB e.natAbs)).getD (0 : Nat))))),
 (AV.c ((Value.bool true)))]), [((!b == [] : Bool)) = (true),
 (((0 : Int) : Int) ≤ ((0 : Int))),
 (((0 : Int) : Int) < ((↑b.length : Int))),
 (((↑(b.getD (Int.toNat (0 : Int)) (0 : UInt8)).toNat : Int) == (45 : Int) : Bool)) = (false),
 ((b.length : Nat) ≤ ((1000000000 : Nat))),
 (((↑(ldD b) : Int) : Int)) = ((↑n : Int)),
 (((0 : Int) : Int) ≤ ((0 : Int))),
 (((0 : Int) : Int) ≤ ((↑n : Int))),
 (((↑n : Int) : Int) ≤ ((↑b.length : Int))),
 ((List.drop (Int.toNat (0 : Int)) (List.take n b) : List UInt8)) = (d),
 (((0 : Int) : Int) ≤ ((↑n : Int))),
 (((↑n : Int) : Int) ≤ ((↑b.length : Int))),
 (((↑b.length : Int) : Int) ≤ ((↑b.length : Int))),
 ((List.drop n (List.take b.length b) : List UInt8)) = ((46 : UInt8) :: z),
 ((true : Bool)) = (true),
 (((0 : Int) : Int) ≤ ((0 : Int))),
 (((0 : Int) : Int) < ((↑((46 : UInt8) :: z).length : Int))),
 ((true : Bool)) = (true),
 (((0 : Int) : Int) ≤ ((1 : Int))),
 (((1 : Int) : Int) ≤ ((↑((46 : UInt8) :: z).length : Int))),
 (((↑((46 : UInt8) :: z).length : Int) : Int) ≤ ((↑((46 : UInt8) :: z).length : Int))),
 ((List.drop (Int.toNat (1 : Int)) (List.take ((46 : UInt8) :: z).length ((46 : UInt8) :: z)) : List UInt8)) = (z),
 ((z.length : Nat) ≤ ((1000000000 : Nat))),
 (((↑(ldD z) : Int) : Int)) = ((↑k : Int)),
 (((↑k : Int) == (0 : Int) : Bool)) = (false),
 ((IntKind.i64.min : Int) ≤ ((1 : Int) + (↑k : Int))),
 (((1 : Int) + (↑k : Int) : Int) ≤ (IntKind.i64.max)),
 (((0 : Int) : Int) ≤ ((1 : Int))),
 (((1 : Int) : Int) ≤ ((1 : Int) + (↑k : Int))),
 (((1 : Int) + (↑k : Int) : Int) ≤ ((↑((46 : UInt8) :: z).length : Int))),
 ((d.length + (List.drop (Int.toNat (1 : Int)) (List.take ((1 : Int) + (↑k : Int)).toNat ((46 : UInt8) :: z))).length : Nat) ≤ ((9223372036854775807 : Nat))),
 ((d ++ List.drop (Int.toNat (1 : Int)) (List.take ((1 : Int) + (↑k : Int)).toNat ((46 : UInt8) :: z)) : List UInt8)) = (a),
 ((IntKind.i64.min : Int) ≤ ((1 : Int) + (↑k : Int))),
 (((1 : Int) + (↑k : Int) : Int) ≤ (IntKind.i64.max)),
 (((0 : Int) : Int) ≤ ((1 : Int) + (↑k : Int))),
 (((1 : Int) + (↑k : Int) : Int) ≤ ((↑((46 : UInt8) :: z).length : Int))),
 (((↑((46 : UInt8) :: z).length : Int) : Int) ≤ ((↑((46 : UInt8) :: z).length : Int))),
 ((List.drop ((1 : Int) + (↑k : Int)).toNat (List.take ((46 : UInt8) :: z).length ((46 : UInt8) :: z)) : List UInt8)) = (w),
 ((a.length : Nat) ≤ ((1000000000 : Nat))),
 (((↑(wV a) : Int) : Int)) = (v),
 ((wOK a : Bool)) = (ok),
 ((w.length : Nat) ≤ ((999999990 : Nat))),
 (((expoF (sb { data := { toList := w } })).getD (0 : Int) : Int)) = (x),
 (((expoF (sb { data := { toList := w } })).isSome : Bool)) = (ox),
 ((IntKind.i64.min : Int) ≤ (x - (↑k : Int))),
 ((x - (↑k : Int) : Int) ≤ (IntKind.i64.max)),
 ((x - (↑k : Int) : Int)) = (e),
 ((!ok : Bool)) = (false),
 ((!ox : Bool)) = (false),
 ((decide ((↑a.length : Int) > (15 : Int)) : Bool)) = (false),
 ((decide (e < (-22 : Int)) : Bool)) = (false),
 ((decide (e > (22 : Int)) : Bool)) = (false),
 ((lbody Try.prog (12 : FuncId) (21 : Nat) : Go.Code)) = (lbody Try.prog (12 : FuncId) (21 : Nat)),
 ((pwS false v e (4607182418800017408 : Nat) (0 : Nat) : Go.Proofs.Ytigglgobiofalaa.St)) = (pwS false v e (4607182418800017408 : Nat) (0 : Nat)),
 ((decide (e < (0 : Int)) : Bool)) = (true),
 (((floatBits BinOp.quo FloatKind.f64 (floatOfInt FloatKind.f64 v) (pwB e.natAbs)).isSome : Bool)) = (true)]) := by kernel_rfl

theorem rfPf_7 (b d z a w : List UInt8) (v x e : Int) (k n : Nat) (ok ox : Bool) : outcome Try.prog 12 (aBody Try.prog clF ⟨true, bs [(70, false), (73, false), (78, false), (82, false), (86, false), (104, false)] ++ (bs [(17, true), (21, false),(35, true), (39, true), (45, false)] ++ [(27, ⟨.c (.int .i64 n), none⟩), (30, ⟨.c (str d), none⟩), (33, ⟨.c (str (46 :: z)), none⟩), (42, ⟨.c (str z), none⟩), (43, ⟨.c (.int .i64 k), none⟩), (51, ⟨.c (str a), none⟩), (55, ⟨.c (str w), none⟩), (59, ⟨.c (.int .i64 v), none⟩), (60, ⟨.c (.bool ok), none⟩), (64, ⟨.c (.int .i64 x), none⟩), (65, ⟨.c (.bool ox), none⟩), (68, ⟨.c (.int .i64 e), none⟩)])⟩ (lpBy (rfLp false v e)) 60 12 ([.c (str (b))]) ([])) = some ((AV.tu [(AV.c ((Value.float .f64 ((floatBits BinOp.mul FloatKind.f64 (floatOfInt FloatKind.f64 v) (pwB e.natAbs)).getD (0 : Nat))))),
 (AV.c ((Value.bool true)))]), [((!b == [] : Bool)) = (true),
 (((0 : Int) : Int) ≤ ((0 : Int))),
 (((0 : Int) : Int) < ((↑b.length : Int))),
 (((↑(b.getD (Int.toNat (0 : Int)) (0 : UInt8)).toNat : Int) == (45 : Int) : Bool)) = (false),
 ((b.length : Nat) ≤ ((1000000000 : Nat))),
 (((↑(ldD b) : Int) : Int)) = ((↑n : Int)),
 (((0 : Int) : Int) ≤ ((0 : Int))),
 (((0 : Int) : Int) ≤ ((↑n : Int))),
 (((↑n : Int) : Int) ≤ ((↑b.length : Int))),
 ((List.drop (Int.toNat (0 : Int)) (List.take n b) : List UInt8)) = (d),
 (((0 : Int) : Int) ≤ ((↑n : Int))),
 (((↑n : Int) : Int) ≤ ((↑b.length : Int))),
 (((↑b.length : Int) : Int) ≤ ((↑b.length : Int))),
 ((List.drop n (List.take b.length b) : List UInt8)) = ((46 : UInt8) :: z),
 ((true : Bool)) = (true),
 (((0 : Int) : Int) ≤ ((0 : Int))),
 (((0 : Int) : Int) < ((↑((46 : UInt8) :: z).length : Int))),
 ((true : Bool)) = (true),
 (((0 : Int) : Int) ≤ ((1 : Int))),
 (((1 : Int) : Int) ≤ ((↑((46 : UInt8) :: z).length : Int))),
 (((↑((46 : UInt8) :: z).length : Int) : Int) ≤ ((↑((46 : UInt8) :: z).length : Int))),
 ((List.drop (Int.toNat (1 : Int)) (List.take ((46 : UInt8) :: z).length ((46 : UInt8) :: z)) : List UInt8)) = (z),
 ((z.length : Nat) ≤ ((1000000000 : Nat))),
 (((↑(ldD z) : Int) : Int)) = ((↑k : Int)),
 (((↑k : Int) == (0 : Int) : Bool)) = (false),
 ((IntKind.i64.min : Int) ≤ ((1 : Int) + (↑k : Int))),
 (((1 : Int) + (↑k : Int) : Int) ≤ (IntKind.i64.max)),
 (((0 : Int) : Int) ≤ ((1 : Int))),
 (((1 : Int) : Int) ≤ ((1 : Int) + (↑k : Int))),
 (((1 : Int) + (↑k : Int) : Int) ≤ ((↑((46 : UInt8) :: z).length : Int))),
 ((d.length + (List.drop (Int.toNat (1 : Int)) (List.take ((1 : Int) + (↑k : Int)).toNat ((46 : UInt8) :: z))).length : Nat) ≤ ((9223372036854775807 : Nat))),
 ((d ++ List.drop (Int.toNat (1 : Int)) (List.take ((1 : Int) + (↑k : Int)).toNat ((46 : UInt8) :: z)) : List UInt8)) = (a),
 ((IntKind.i64.min : Int) ≤ ((1 : Int) + (↑k : Int))),
 (((1 : Int) + (↑k : Int) : Int) ≤ (IntKind.i64.max)),
 (((0 : Int) : Int) ≤ ((1 : Int) + (↑k : Int))),
 (((1 : Int) + (↑k : Int) : Int) ≤ ((↑((46 : UInt8) :: z).length : Int))),
 (((↑((46 : UInt8) :: z).length : Int) : Int) ≤ ((↑((46 : UInt8) :: z).length : Int))),
 ((List.drop ((1 : Int) + (↑k : Int)).toNat (List.take ((46 : UInt8) :: z).length ((46 : UInt8) :: z)) : List UInt8)) = (w),
 ((a.length : Nat) ≤ ((1000000000 : Nat))),
 (((↑(wV a) : Int) : Int)) = (v),
 ((wOK a : Bool)) = (ok),
 ((w.length : Nat) ≤ ((999999990 : Nat))),
 (((expoF (sb { data := { toList := w } })).getD (0 : Int) : Int)) = (x),
 (((expoF (sb { data := { toList := w } })).isSome : Bool)) = (ox),
 ((IntKind.i64.min : Int) ≤ (x - (↑k : Int))),
 ((x - (↑k : Int) : Int) ≤ (IntKind.i64.max)),
 ((x - (↑k : Int) : Int)) = (e),
 ((!ok : Bool)) = (false),
 ((!ox : Bool)) = (false),
 ((decide ((↑a.length : Int) > (15 : Int)) : Bool)) = (false),
 ((decide (e < (-22 : Int)) : Bool)) = (false),
 ((decide (e > (22 : Int)) : Bool)) = (false),
 ((lbody Try.prog (12 : FuncId) (21 : Nat) : Go.Code)) = (lbody Try.prog (12 : FuncId) (21 : Nat)),
 ((pwS false v e (4607182418800017408 : Nat) (0 : Nat) : Go.Proofs.Ytigglgobiofalaa.St)) = (pwS false v e (4607182418800017408 : Nat) (0 : Nat)),
 ((decide (e < (0 : Int)) : Bool)) = (false),
 (((floatBits BinOp.mul FloatKind.f64 (floatOfInt FloatKind.f64 v) (pwB e.natAbs)).isSome : Bool)) = (true)]) := by kernel_rfl

theorem rfPf_all (b d z a w : List UInt8) (v x e : Int) (k n : Nat) (ok ox : Bool) (hn : ldD b = n) (hd : List.take n b = d) (hz : List.drop n b = 46 :: z) (hk : ldD z = k) (hk0 : ¬ k = 0) (ha : d ++ List.take k z = a) (hw : List.drop k z = w) (hv : (wV a : Int) = v) (hok : wOK a = ok) (hx : (expoF w).getD 0 = x) (hox : (expoF w).isSome = ox) (he : x - (k : Int) = e) (hl : b.length ≤ 999999980) (hnl : n ≤ b.length) (hkl : k ≤ z.length) (hzl : z.length < b.length) (hal : a.length ≤ b.length) (hdl : d.length ≤ b.length) (hwl : w.length ≤ b.length) (hx1 : -9999 ≤ x) (hx2 : x ≤ 9999) (hs : wOKs v e) (hb0 : b ≠ []) (hb1 : ¬ ((b.getD 0 0).toNat : Int) = 45) : ∃ (h : Hints) (p : List Prop), outcome Try.prog 12 (aBody Try.prog clF h (lpBy (rfLp false v e)) 60 12 ([.c (str (b))]) ([])) = some (fltG false ok ox a.length v e, p) ∧ allP p := by
  cases hc70 : (!ok : Bool) with
  | true =>
    have eR := rfPf_1 b d z a w v x e k n ok ox
    refine ⟨_, _, eR.trans (congrArg (fun r => some (r, _)) ?_), ?_⟩
    · try clear eR
      unfold fltG wordF
      try simp only [decide_eq_true_eq, decide_eq_false_iff_not] at hc78
      try simp only [decide_eq_true_eq, decide_eq_false_iff_not] at hc82
      try simp only [decide_eq_true_eq, decide_eq_false_iff_not] at hc86
      try simp only [decide_eq_true_eq, decide_eq_false_iff_not] at hc104
      try simp only [bne_iff_ne, bne_eq_false_iff_eq, ne_eq] at hc114
      first
        | rw [if_neg (by rintro ⟨a1, a2, a3, a4, a5⟩; omega)]
        | rw [if_neg (by rintro ⟨a1, a2, a3, a4, a5⟩; rw [a1] at hc70; exact absurd hc70 (by decide))]
        | rw [if_neg (by rintro ⟨a1, a2, a3, a4, a5⟩; rw [a2] at hc73; exact absurd hc73 (by decide))]
        | (rw [if_pos ⟨by simpa using hc70, by simpa using hc73, by omega, by omega, by omega⟩]
           first
             | simp only [hc104, hc114, if_true, if_false, Bool.false_eq_true, false_and, true_and, ne_eq, not_true_eq_false, not_false_eq_true]
             | simp only [hc104, if_true, if_false, Bool.false_eq_true, false_and, true_and])
    · try simp only [decide_eq_true_eq, decide_eq_false_iff_not] at hc78
      try simp only [decide_eq_true_eq, decide_eq_false_iff_not] at hc82
      try simp only [decide_eq_true_eq, decide_eq_false_iff_not] at hc86
      try simp only [decide_eq_true_eq, decide_eq_false_iff_not] at hc104
      have ht : ((1 : Int) + (k : Nat)).toNat = k + 1 := by omega
      simp only [allP, List.take_length, toNat0, toNat1, ht, List.take_succ_cons, List.drop_succ_cons, List.drop_zero, sb_mk]
      simp only [List.length_cons, List.length_take, i64_min, i64_max, and_true, true_and, decide_eq_true_eq, decide_eq_false_iff_not, beq_eq_false_iff_ne, bne_iff_ne, bne_eq_false_iff_eq, ne_eq]
      repeat' apply And.intro
      all_goals first | omega | exact hd | exact hz | exact ha | exact hw | exact hok | exact hox | exact hx | exact hc70 | exact hc73 | exact (hs (by omega) (by omega)).1 hc104 | exact (hs (by omega) (by omega)).2 hc104 | exact hb1 | (simpa using hb0)
  | false =>
    cases hc73 : (!ox : Bool) with
    | true =>
      have eR := rfPf_2 b d z a w v x e k n ok ox
      refine ⟨_, _, eR.trans (congrArg (fun r => some (r, _)) ?_), ?_⟩
      · try clear eR
        unfold fltG wordF
        try simp only [decide_eq_true_eq, decide_eq_false_iff_not] at hc78
        try simp only [decide_eq_true_eq, decide_eq_false_iff_not] at hc82
        try simp only [decide_eq_true_eq, decide_eq_false_iff_not] at hc86
        try simp only [decide_eq_true_eq, decide_eq_false_iff_not] at hc104
        try simp only [bne_iff_ne, bne_eq_false_iff_eq, ne_eq] at hc114
        first
          | rw [if_neg (by rintro ⟨a1, a2, a3, a4, a5⟩; omega)]
          | rw [if_neg (by rintro ⟨a1, a2, a3, a4, a5⟩; rw [a1] at hc70; exact absurd hc70 (by decide))]
          | rw [if_neg (by rintro ⟨a1, a2, a3, a4, a5⟩; rw [a2] at hc73; exact absurd hc73 (by decide))]
          | (rw [if_pos ⟨by simpa using hc70, by simpa using hc73, by omega, by omega, by omega⟩]
             first
               | simp only [hc104, hc114, if_true, if_false, Bool.false_eq_true, false_and, true_and, ne_eq, not_true_eq_false, not_false_eq_true]
               | simp only [hc104, if_true, if_false, Bool.false_eq_true, false_and, true_and])
      · try simp only [decide_eq_true_eq, decide_eq_false_iff_not] at hc78
        try simp only [decide_eq_true_eq, decide_eq_false_iff_not] at hc82
        try simp only [decide_eq_true_eq, decide_eq_false_iff_not] at hc86
        try simp only [decide_eq_true_eq, decide_eq_false_iff_not] at hc104
        have ht : ((1 : Int) + (k : Nat)).toNat = k + 1 := by omega
        simp only [allP, List.take_length, toNat0, toNat1, ht, List.take_succ_cons, List.drop_succ_cons, List.drop_zero, sb_mk]
        simp only [List.length_cons, List.length_take, i64_min, i64_max, and_true, true_and, decide_eq_true_eq, decide_eq_false_iff_not, beq_eq_false_iff_ne, bne_iff_ne, bne_eq_false_iff_eq, ne_eq]
        repeat' apply And.intro
        all_goals first | omega | exact hd | exact hz | exact ha | exact hw | exact hok | exact hox | exact hx | exact hc70 | exact hc73 | exact (hs (by omega) (by omega)).1 hc104 | exact (hs (by omega) (by omega)).2 hc104 | exact hb1 | (simpa using hb0)
    | false =>
      cases hc78 : (decide ((↑a.length : Int) > (15 : Int)) : Bool) with
      | true =>
        have eR := rfPf_3 b d z a w v x e k n ok ox
        refine ⟨_, _, eR.trans (congrArg (fun r => some (r, _)) ?_), ?_⟩
        · try clear eR
          unfold fltG wordF
          try simp only [decide_eq_true_eq, decide_eq_false_iff_not] at hc78
          try simp only [decide_eq_true_eq, decide_eq_false_iff_not] at hc82
          try simp only [decide_eq_true_eq, decide_eq_false_iff_not] at hc86
          try simp only [decide_eq_true_eq, decide_eq_false_iff_not] at hc104
          try simp only [bne_iff_ne, bne_eq_false_iff_eq, ne_eq] at hc114
          first
            | rw [if_neg (by rintro ⟨a1, a2, a3, a4, a5⟩; omega)]
            | rw [if_neg (by rintro ⟨a1, a2, a3, a4, a5⟩; rw [a1] at hc70; exact absurd hc70 (by decide))]
            | rw [if_neg (by rintro ⟨a1, a2, a3, a4, a5⟩; rw [a2] at hc73; exact absurd hc73 (by decide))]
            | (rw [if_pos ⟨by simpa using hc70, by simpa using hc73, by omega, by omega, by omega⟩]
               first
                 | simp only [hc104, hc114, if_true, if_false, Bool.false_eq_true, false_and, true_and, ne_eq, not_true_eq_false, not_false_eq_true]
                 | simp only [hc104, if_true, if_false, Bool.false_eq_true, false_and, true_and])
        · try simp only [decide_eq_true_eq, decide_eq_false_iff_not] at hc78
          try simp only [decide_eq_true_eq, decide_eq_false_iff_not] at hc82
          try simp only [decide_eq_true_eq, decide_eq_false_iff_not] at hc86
          try simp only [decide_eq_true_eq, decide_eq_false_iff_not] at hc104
          have ht : ((1 : Int) + (k : Nat)).toNat = k + 1 := by omega
          simp only [allP, List.take_length, toNat0, toNat1, ht, List.take_succ_cons, List.drop_succ_cons, List.drop_zero, sb_mk]
          simp only [List.length_cons, List.length_take, i64_min, i64_max, and_true, true_and, decide_eq_true_eq, decide_eq_false_iff_not, beq_eq_false_iff_ne, bne_iff_ne, bne_eq_false_iff_eq, ne_eq]
          repeat' apply And.intro
          all_goals first | omega | exact hd | exact hz | exact ha | exact hw | exact hok | exact hox | exact hx | exact hc70 | exact hc73 | exact (hs (by omega) (by omega)).1 hc104 | exact (hs (by omega) (by omega)).2 hc104 | exact hb1 | (simpa using hb0)
      | false =>
        cases hc82 : (decide (e < (-22 : Int)) : Bool) with
        | true =>
          have eR := rfPf_4 b d z a w v x e k n ok ox
          refine ⟨_, _, eR.trans (congrArg (fun r => some (r, _)) ?_), ?_⟩
          · try clear eR
            unfold fltG wordF
            try simp only [decide_eq_true_eq, decide_eq_false_iff_not] at hc78
            try simp only [decide_eq_true_eq, decide_eq_false_iff_not] at hc82
            try simp only [decide_eq_true_eq, decide_eq_false_iff_not] at hc86
            try simp only [decide_eq_true_eq, decide_eq_false_iff_not] at hc104
            try simp only [bne_iff_ne, bne_eq_false_iff_eq, ne_eq] at hc114
            first
              | rw [if_neg (by rintro ⟨a1, a2, a3, a4, a5⟩; omega)]
              | rw [if_neg (by rintro ⟨a1, a2, a3, a4, a5⟩; rw [a1] at hc70; exact absurd hc70 (by decide))]
              | rw [if_neg (by rintro ⟨a1, a2, a3, a4, a5⟩; rw [a2] at hc73; exact absurd hc73 (by decide))]
              | (rw [if_pos ⟨by simpa using hc70, by simpa using hc73, by omega, by omega, by omega⟩]
                 first
                   | simp only [hc104, hc114, if_true, if_false, Bool.false_eq_true, false_and, true_and, ne_eq, not_true_eq_false, not_false_eq_true]
                   | simp only [hc104, if_true, if_false, Bool.false_eq_true, false_and, true_and])
          · try simp only [decide_eq_true_eq, decide_eq_false_iff_not] at hc78
            try simp only [decide_eq_true_eq, decide_eq_false_iff_not] at hc82
            try simp only [decide_eq_true_eq, decide_eq_false_iff_not] at hc86
            try simp only [decide_eq_true_eq, decide_eq_false_iff_not] at hc104
            have ht : ((1 : Int) + (k : Nat)).toNat = k + 1 := by omega
            simp only [allP, List.take_length, toNat0, toNat1, ht, List.take_succ_cons, List.drop_succ_cons, List.drop_zero, sb_mk]
            simp only [List.length_cons, List.length_take, i64_min, i64_max, and_true, true_and, decide_eq_true_eq, decide_eq_false_iff_not, beq_eq_false_iff_ne, bne_iff_ne, bne_eq_false_iff_eq, ne_eq]
            repeat' apply And.intro
            all_goals first | omega | exact hd | exact hz | exact ha | exact hw | exact hok | exact hox | exact hx | exact hc70 | exact hc73 | exact (hs (by omega) (by omega)).1 hc104 | exact (hs (by omega) (by omega)).2 hc104 | exact hb1 | (simpa using hb0)
        | false =>
          cases hc86 : (decide (e > (22 : Int)) : Bool) with
          | true =>
            have eR := rfPf_5 b d z a w v x e k n ok ox
            refine ⟨_, _, eR.trans (congrArg (fun r => some (r, _)) ?_), ?_⟩
            · try clear eR
              unfold fltG wordF
              try simp only [decide_eq_true_eq, decide_eq_false_iff_not] at hc78
              try simp only [decide_eq_true_eq, decide_eq_false_iff_not] at hc82
              try simp only [decide_eq_true_eq, decide_eq_false_iff_not] at hc86
              try simp only [decide_eq_true_eq, decide_eq_false_iff_not] at hc104
              try simp only [bne_iff_ne, bne_eq_false_iff_eq, ne_eq] at hc114
              first
                | rw [if_neg (by rintro ⟨a1, a2, a3, a4, a5⟩; omega)]
                | rw [if_neg (by rintro ⟨a1, a2, a3, a4, a5⟩; rw [a1] at hc70; exact absurd hc70 (by decide))]
                | rw [if_neg (by rintro ⟨a1, a2, a3, a4, a5⟩; rw [a2] at hc73; exact absurd hc73 (by decide))]
                | (rw [if_pos ⟨by simpa using hc70, by simpa using hc73, by omega, by omega, by omega⟩]
                   first
                     | simp only [hc104, hc114, if_true, if_false, Bool.false_eq_true, false_and, true_and, ne_eq, not_true_eq_false, not_false_eq_true]
                     | simp only [hc104, if_true, if_false, Bool.false_eq_true, false_and, true_and])
            · try simp only [decide_eq_true_eq, decide_eq_false_iff_not] at hc78
              try simp only [decide_eq_true_eq, decide_eq_false_iff_not] at hc82
              try simp only [decide_eq_true_eq, decide_eq_false_iff_not] at hc86
              try simp only [decide_eq_true_eq, decide_eq_false_iff_not] at hc104
              have ht : ((1 : Int) + (k : Nat)).toNat = k + 1 := by omega
              simp only [allP, List.take_length, toNat0, toNat1, ht, List.take_succ_cons, List.drop_succ_cons, List.drop_zero, sb_mk]
              simp only [List.length_cons, List.length_take, i64_min, i64_max, and_true, true_and, decide_eq_true_eq, decide_eq_false_iff_not, beq_eq_false_iff_ne, bne_iff_ne, bne_eq_false_iff_eq, ne_eq]
              repeat' apply And.intro
              all_goals first | omega | exact hd | exact hz | exact ha | exact hw | exact hok | exact hox | exact hx | exact hc70 | exact hc73 | exact (hs (by omega) (by omega)).1 hc104 | exact (hs (by omega) (by omega)).2 hc104 | exact hb1 | (simpa using hb0)
          | false =>
            cases hc104 : (decide (e < (0 : Int)) : Bool) with
            | true =>
              have eR := rfPf_6 b d z a w v x e k n ok ox
              refine ⟨_, _, eR.trans (congrArg (fun r => some (r, _)) ?_), ?_⟩
              · try clear eR
                unfold fltG wordF
                try simp only [decide_eq_true_eq, decide_eq_false_iff_not] at hc78
                try simp only [decide_eq_true_eq, decide_eq_false_iff_not] at hc82
                try simp only [decide_eq_true_eq, decide_eq_false_iff_not] at hc86
                try simp only [decide_eq_true_eq, decide_eq_false_iff_not] at hc104
                try simp only [bne_iff_ne, bne_eq_false_iff_eq, ne_eq] at hc114
                first
                  | rw [if_neg (by rintro ⟨a1, a2, a3, a4, a5⟩; omega)]
                  | rw [if_neg (by rintro ⟨a1, a2, a3, a4, a5⟩; rw [a1] at hc70; exact absurd hc70 (by decide))]
                  | rw [if_neg (by rintro ⟨a1, a2, a3, a4, a5⟩; rw [a2] at hc73; exact absurd hc73 (by decide))]
                  | (rw [if_pos ⟨by simpa using hc70, by simpa using hc73, by omega, by omega, by omega⟩]
                     first
                       | simp only [hc104, hc114, if_true, if_false, Bool.false_eq_true, false_and, true_and, ne_eq, not_true_eq_false, not_false_eq_true]
                       | simp only [hc104, if_true, if_false, Bool.false_eq_true, false_and, true_and])
              · try simp only [decide_eq_true_eq, decide_eq_false_iff_not] at hc78
                try simp only [decide_eq_true_eq, decide_eq_false_iff_not] at hc82
                try simp only [decide_eq_true_eq, decide_eq_false_iff_not] at hc86
                try simp only [decide_eq_true_eq, decide_eq_false_iff_not] at hc104
                have ht : ((1 : Int) + (k : Nat)).toNat = k + 1 := by omega
                simp only [allP, List.take_length, toNat0, toNat1, ht, List.take_succ_cons, List.drop_succ_cons, List.drop_zero, sb_mk]
                simp only [List.length_cons, List.length_take, i64_min, i64_max, and_true, true_and, decide_eq_true_eq, decide_eq_false_iff_not, beq_eq_false_iff_ne, bne_iff_ne, bne_eq_false_iff_eq, ne_eq]
                repeat' apply And.intro
                all_goals first | omega | exact hd | exact hz | exact ha | exact hw | exact hok | exact hox | exact hx | exact hc70 | exact hc73 | exact (hs (by omega) (by omega)).1 hc104 | exact (hs (by omega) (by omega)).2 hc104 | exact hb1 | (simpa using hb0)
            | false =>
              have eR := rfPf_7 b d z a w v x e k n ok ox
              refine ⟨_, _, eR.trans (congrArg (fun r => some (r, _)) ?_), ?_⟩
              · try clear eR
                unfold fltG wordF
                try simp only [decide_eq_true_eq, decide_eq_false_iff_not] at hc78
                try simp only [decide_eq_true_eq, decide_eq_false_iff_not] at hc82
                try simp only [decide_eq_true_eq, decide_eq_false_iff_not] at hc86
                try simp only [decide_eq_true_eq, decide_eq_false_iff_not] at hc104
                try simp only [bne_iff_ne, bne_eq_false_iff_eq, ne_eq] at hc114
                first
                  | rw [if_neg (by rintro ⟨a1, a2, a3, a4, a5⟩; omega)]
                  | rw [if_neg (by rintro ⟨a1, a2, a3, a4, a5⟩; rw [a1] at hc70; exact absurd hc70 (by decide))]
                  | rw [if_neg (by rintro ⟨a1, a2, a3, a4, a5⟩; rw [a2] at hc73; exact absurd hc73 (by decide))]
                  | (rw [if_pos ⟨by simpa using hc70, by simpa using hc73, by omega, by omega, by omega⟩]
                     first
                       | simp only [hc104, hc114, if_true, if_false, Bool.false_eq_true, false_and, true_and, ne_eq, not_true_eq_false, not_false_eq_true]
                       | simp only [hc104, if_true, if_false, Bool.false_eq_true, false_and, true_and])
              · try simp only [decide_eq_true_eq, decide_eq_false_iff_not] at hc78
                try simp only [decide_eq_true_eq, decide_eq_false_iff_not] at hc82
                try simp only [decide_eq_true_eq, decide_eq_false_iff_not] at hc86
                try simp only [decide_eq_true_eq, decide_eq_false_iff_not] at hc104
                have ht : ((1 : Int) + (k : Nat)).toNat = k + 1 := by omega
                simp only [allP, List.take_length, toNat0, toNat1, ht, List.take_succ_cons, List.drop_succ_cons, List.drop_zero, sb_mk]
                simp only [List.length_cons, List.length_take, i64_min, i64_max, and_true, true_and, decide_eq_true_eq, decide_eq_false_iff_not, beq_eq_false_iff_ne, bne_iff_ne, bne_eq_false_iff_eq, ne_eq]
                repeat' apply And.intro
                all_goals first | omega | exact hd | exact hz | exact ha | exact hw | exact hok | exact hox | exact hx | exact hc70 | exact hc73 | exact (hs (by omega) (by omega)).1 hc104 | exact (hs (by omega) (by omega)).2 hc104 | exact hb1 | (simpa using hb0)


end Go.Proofs.Ytigglgobiofalaa
