/- The words of whole numbers, moved by powers of ten. -/
import Derived.Test.YtigglgobiofalaaNumF
namespace Go.Proofs.Ytigglgobiofalaa
open Go.RowKit Num Ieee
set_option linter.unusedVariables false
set_option linter.unusedSimpArgs false

/-- A power of ten, as its word tells it. -/
def pn (k : Nat) : Nat := match double.read (pwB k) with | .number _ n _ => n | _ => 0
def pj (k : Nat) : Int := match double.read (pwB k) with | .number _ _ j => j | _ => 0
theorem pw_read {k : Nat} (h : k ≤ 22) : double.read (pwB k) = .number false (pn k) (pj k) ∧ pn k ≠ 0 := by
  obtain ⟨n, j, e, hn⟩ := pw_number k h
  unfold pn pj
  rw [e]
  exact ⟨rfl, hn⟩

def sgI (s : Bool) (v : Nat) : Int := if s then -(v : Int) else v

theorem int_word (s : Bool) {v : Nat} (h0 : v ≠ 0) (h : v < 2 ^ 53) : floatOfInt .f64 (sgI s v) = double.word s (Flt.rung v 0) ∧ Flt.rung v 0 < 2047 * 2 ^ 52 := by
  have hr : Flt.rung v 0 < 2047 * 2 ^ 52 := Nat.lt_of_le_of_lt (Flt.rung_mono h0 (show v ≤ 2 ^ 53 by omega) 0) (by decide +kernel)
  refine ⟨?_, hr⟩
  have e : floatOfInt .f64 (sgI s v) = double.nearest s v 0 := by
    show double.write (.number (decide (sgI s v < 0)) (sgI s v).natAbs 0) = _
    have e1 : decide (sgI s v < 0) = s := by
      unfold sgI
      cases s with
      | true => exact decide_eq_true (by simp only [if_true]; omega)
      | false => exact decide_eq_false (by simp only [Bool.false_eq_true, if_false]; omega)
    have e2 : (sgI s v).natAbs = v := by
      unfold sgI
      split <;> omega
    rw [e1, e2]
    rfl
  rw [e, Flt.nearest_rung s h0 0, Nat.min_eq_left (by omega)]

theorem int_read (s : Bool) {v : Nat} (h0 : v ≠ 0) (h : v < 2 ^ 53) : double.read (floatOfInt .f64 (sgI s v)) = .number s (Flt.magR (Flt.rung v 0)) (-1074 + (Flt.plR (Flt.rung v 0) : Nat)) := by
  obtain ⟨e, hr⟩ := int_word s h0 h
  rw [e]
  exact Flt.read_word s hr

theorem log_53 {v : Nat} (h0 : v ≠ 0) (h : v < 2 ^ 53) : v.log2 ≤ 52 := by
  have := (Nat.log2_lt h0).2 h
  omega

/-- The rung of v * 10^k, and of v / 10^k. -/
def RM (v k : Nat) : Nat := Flt.rung (v * pn k) (pj k)
def RQ (v k : Nat) : Nat := Flt.rung (Flt.qS (v * 2 ^ (54 + (pn k).log2)) (pn k)) (-(pj k) - (54 + (pn k).log2 : Nat) - 1)

theorem RM_mono {u v k : Nat} (h0 : u ≠ 0) (hk : k ≤ 22) (h : u ≤ v) : RM u k ≤ RM v k :=
  Flt.rung_mono (Nat.mul_ne_zero h0 (pw_read hk).2) (Nat.mul_le_mul_right _ h) _
theorem RQ_mono {u v k : Nat} (h0 : u ≠ 0) (hk : k ≤ 22) (h : u ≤ v) : RQ u k ≤ RQ v k :=
  Flt.div_mono h0 (Nat.pos_of_ne_zero (pw_read hk).2) h _

theorem R_tops : ∀ k : Fin 23, RM (10 ^ 15) k.val < 2047 * 2 ^ 52 ∧ RQ (10 ^ 15) k.val < 2047 * 2 ^ 52 := by decide +kernel
theorem R_lows : ∀ k : Fin 23, 0 < RM 1 k.val ∧ 0 < RQ 1 k.val := by decide +kernel

theorem RM_fin {v k : Nat} (h0 : v ≠ 0) (hk : k ≤ 22) (h : v ≤ 10 ^ 15) : 0 < RM v k ∧ RM v k < 2047 * 2 ^ 52 :=
  ⟨Nat.lt_of_lt_of_le (R_lows ⟨k, by omega⟩).1 (RM_mono (by omega) hk (by omega)), Nat.lt_of_le_of_lt (RM_mono h0 hk h) (R_tops ⟨k, by omega⟩).1⟩
theorem RQ_fin {v k : Nat} (h0 : v ≠ 0) (hk : k ≤ 22) (h : v ≤ 10 ^ 15) : 0 < RQ v k ∧ RQ v k < 2047 * 2 ^ 52 :=
  ⟨Nat.lt_of_lt_of_le (R_lows ⟨k, by omega⟩).2 (RQ_mono (by omega) hk (by omega)), Nat.lt_of_le_of_lt (RQ_mono h0 hk h) (R_tops ⟨k, by omega⟩).2⟩

theorem p15 : (10 : Nat) ^ 15 < 2 ^ 53 := by decide

theorem write_num (s : Bool) (m : Nat) (p : Int) : double.write (.number s m p) = double.nearest s m p := rfl
theorem f_mul (x y : Nat) : floatBits .mul .f64 x y = double.mul x y := rfl
theorem f_quo (x y : Nat) : floatBits .quo .f64 x y = double.div x y := rfl

theorem W_mul (s : Bool) {v k : Nat} (h0 : v ≠ 0) (h : v ≤ 10 ^ 15) (hk : k ≤ 22) : floatBits .mul .f64 (floatOfInt .f64 (sgI s v)) (pwB k) = some (double.word s (RM v k)) := by
  obtain ⟨hp, hn⟩ := pw_read hk
  have hv := Nat.lt_of_le_of_lt h p15
  obtain ⟨f1, f2⟩ := RM_fin h0 hk h
  rw [f_mul]
  unfold Format.mul
  rw [hp, int_read s h0 hv]
  simp only [Datum.product, Option.map_some, Option.some.injEq]
  obtain ⟨g1, _, _, _, _⟩ := Flt.rung_norm h0 (log_53 h0 hv)
  have hr := Flt.rung_mul h0 0 g1 (by omega) hn (pj k)
  have hm : Flt.magR (Flt.rung v 0) * pn k ≠ 0 := by
    refine Nat.mul_ne_zero (Flt.magR_pos ?_) hn
    have := Flt.rung_zero_iff h0 0 (by omega)
    omega
  rw [write_num, Flt.nearest_rung _ hm, hr, Int.zero_add, Bool.xor_false]
  rw [show Flt.rung (v * pn k) (pj k) = RM v k from rfl, Nat.min_eq_left (Nat.le_of_lt f2)]

theorem W_quo (s : Bool) {v k : Nat} (h0 : v ≠ 0) (h : v ≤ 10 ^ 15) (hk : k ≤ 22) : floatBits .quo .f64 (floatOfInt .f64 (sgI s v)) (pwB k) = some (double.word s (RQ v k)) := by
  obtain ⟨hp, hn⟩ := pw_read hk
  have hv := Nat.lt_of_le_of_lt h p15
  obtain ⟨f1, f2⟩ := RQ_fin h0 hk h
  rw [f_quo]
  unfold Format.div
  rw [hp, int_read s h0 hv]
  simp only [Datum.quotient, if_neg hn, Option.map_some, Option.some.injEq]
  have hr := Flt.rung_div h0 (log_53 h0 hv) (Nat.pos_of_ne_zero hn) (pj k)
  have hq := Flt.qS_pos h0 (log_53 h0 hv) (Nat.pos_of_ne_zero hn)
  have e54 : double.fractionBits + 2 = 54 := rfl
  rw [e54, Nat.shiftLeft_eq]
  generalize 54 + (pn k).log2 - (Flt.magR (Flt.rung v 0)).log2 = more at hr hq ⊢
  generalize Flt.magR (Flt.rung v 0) * 2 ^ more = dv at hr hq ⊢
  have eq : 2 * (dv / pn k) + (dv % pn k != 0).toNat = Flt.qS dv (pn k) := by
    unfold Flt.qS
    by_cases hz : dv % pn k = 0
    · rw [if_pos hz, hz]; rfl
    · rw [if_neg hz, bne_iff_ne.2 hz]; rfl
  rw [eq]
  rw [write_num, Flt.nearest_rung _ hq, hr, Bool.xor_false]
  rw [show Flt.rung (Flt.qS (v * 2 ^ (54 + (pn k).log2)) (pn k)) (-(pj k) - (54 + (pn k).log2 : Nat) - 1) = RQ v k from rfl, Nat.min_eq_left (Nat.le_of_lt f2)]

/-- The rung of v * 10^e. -/
def RE (v : Nat) (e : Int) : Nat := if e < 0 then RQ v e.natAbs else RM v e.natAbs
/-- The word of it. -/
def WE (m : Bool) (v : Nat) (e : Int) : Nat := if v = 0 then 0 else double.word m (RE v e)

theorem RE_mono {u v : Nat} {e : Int} (h0 : u ≠ 0) (h1 : -22 ≤ e) (h2 : e ≤ 22) (h : u ≤ v) : RE u e ≤ RE v e := by
  unfold RE
  split
  · exact RQ_mono h0 (by omega) h
  · exact RM_mono h0 (by omega) h
theorem RE_fin {v : Nat} {e : Int} (h0 : v ≠ 0) (h1 : -22 ≤ e) (h2 : e ≤ 22) (h : v ≤ 10 ^ 15) : 0 < RE v e ∧ RE v e < 2047 * 2 ^ 52 := by
  unfold RE
  split
  · exact RQ_fin h0 (by omega) h
  · exact RM_fin h0 (by omega) h

theorem zero_ops : ∀ k : Fin 23, floatBits .mul .f64 (floatOfInt .f64 0) (pwB k.val) = some 0 ∧ floatBits .quo .f64 (floatOfInt .f64 0) (pwB k.val) = some 0 := by decide +kernel

theorem neg_word {r : Nat} (h : r < 2047 * 2 ^ 52) : Op.negFloat .f64 (double.word false r) = double.word true r := by
  show r ^^^ 2 ^ 63 = 2 ^ 63 + r
  have h63 : r < 2 ^ 63 := by omega
  rw [show 2 ^ 63 + r = 2 ^ 63 * 1 + r by omega, Nat.two_pow_add_eq_or_of_lt h63, Nat.mul_one]
  apply Nat.eq_of_testBit_eq
  intro i
  rw [Nat.testBit_xor, Nat.testBit_or, Nat.testBit_two_pow]
  by_cases hi : 63 = i
  · subst hi
    rw [Nat.testBit_lt_two_pow h63]
    rfl
  · rw [decide_eq_false hi]; simp

/-- One step from a whole number to the word. -/
theorem step_word (s : Bool) {v : Nat} {e : Int} (h0 : v ≠ 0) (h : v ≤ 10 ^ 15) (h1 : -22 ≤ e) (h2 : e ≤ 22) :
    (if e < 0 then (floatBits .quo .f64 (floatOfInt .f64 (sgI s v)) (pwB e.natAbs)).getD 0 else (floatBits .mul .f64 (floatOfInt .f64 (sgI s v)) (pwB e.natAbs)).getD 0) = double.word s (RE v e) := by
  unfold RE
  split
  · rw [W_quo s h0 h (by omega)]; rfl
  · rw [W_mul s h0 h (by omega)]; rfl

theorem step_zero {e : Int} (h1 : -22 ≤ e) (h2 : e ≤ 22) :
    (if e < 0 then (floatBits .quo .f64 (floatOfInt .f64 0) (pwB e.natAbs)).getD 0 else (floatBits .mul .f64 (floatOfInt .f64 0) (pwB e.natAbs)).getD 0) = 0 := by
  have := zero_ops ⟨e.natAbs, by omega⟩
  simp only at this
  split
  · rw [this.2]; rfl
  · rw [this.1]; rfl

theorem wordF_eq (m : Bool) {v : Nat} {e : Int} (h : v ≤ 10 ^ 15) (h1 : -22 ≤ e) (h2 : e ≤ 22) : wordF m v e = WE m v e := by
  unfold wordF WE
  by_cases h0 : v = 0
  · subst h0
    rw [if_neg (by simp), if_pos rfl]
    exact step_zero h1 h2
  · have hs := step_word false h0 h h1 h2
    have hf := RE_fin h0 h1 h2 h
    have e0 : sgI false v = (v : Int) := rfl
    rw [e0] at hs
    rw [if_neg h0, hs]
    cases m with
    | false => rw [if_neg (by simp)]
    | true => rw [if_pos ⟨rfl, by omega⟩, neg_word hf.2]

/-- The sign ahead of the step, as the program does it. -/
def wordP (m : Bool) (v e : Int) : Nat :=
  if e < 0 then (floatBits .quo .f64 (floatOfInt .f64 (if m then -v else v)) (pwB e.natAbs)).getD 0 else (floatBits .mul .f64 (floatOfInt .f64 (if m then -v else v)) (pwB e.natAbs)).getD 0
theorem wordP_eq (m : Bool) {v : Nat} {e : Int} (h : v ≤ 10 ^ 15) (h1 : -22 ≤ e) (h2 : e ≤ 22) : wordP m v e = WE m v e := by
  unfold wordP WE
  by_cases h0 : v = 0
  · subst h0
    rw [if_pos rfl, show (if m = true then -((0 : Nat) : Int) else ((0 : Nat) : Int)) = 0 by split <;> rfl]
    exact step_zero h1 h2
  · rw [if_neg h0]
    exact step_word m h0 h h1 h2
/-- No step is a NaN. -/
theorem stepP_ok (m : Bool) {v : Nat} {e : Int} (h : v ≤ 10 ^ 15) (h1 : -22 ≤ e) (h2 : e ≤ 22) :
    (floatBits .quo .f64 (floatOfInt .f64 (if m then -(v : Int) else v)) (pwB e.natAbs)).isSome = true ∧ (floatBits .mul .f64 (floatOfInt .f64 (if m then -(v : Int) else v)) (pwB e.natAbs)).isSome = true := by
  by_cases h0 : v = 0
  · subst h0
    have := zero_ops ⟨e.natAbs, by omega⟩
    simp only at this
    rw [show (if m = true then -((0 : Nat) : Int) else ((0 : Nat) : Int)) = 0 by split <;> rfl, this.1, this.2]
    exact ⟨rfl, rfl⟩
  · have h3 := W_quo m h0 h (k := e.natAbs) (by omega)
    have h4 := W_mul m h0 h (k := e.natAbs) (by omega)
    unfold sgI at h3 h4
    rw [h3, h4]
    exact ⟨rfl, rfl⟩

end Go.Proofs.Ytigglgobiofalaa
