/- Numbers of 64 bits as words: what is nearest, products and quotients with whole numbers, how words stand to each other. -/
import Ieee.Arith
namespace Go.Proofs.Ytigglgobiofalaa.Flt
open Ieee
set_option linter.unusedSimpArgs false
set_option linter.unusedVariables false

/-- n parts of which g make one, to the nearest whole, the even one of two. -/
def rE (n g : Nat) : Nat := n / g + if g < 2 * (n % g) ∨ (g = 2 * (n % g) ∧ n / g % 2 = 1) then 1 else 0

theorem rE_le (n g : Nat) : rE n g ≤ n / g + 1 := by unfold rE; split <;> omega
theorem rE_ge (n g : Nat) : n / g ≤ rE n g := by unfold rE; omega
theorem rE_one (n : Nat) : rE n 1 = n := by
  unfold rE
  rw [Nat.div_one, Nat.mod_one, if_neg (by omega)]
  rfl

theorem rE_mono {n m g : Nat} (h : n ≤ m) : rE n g ≤ rE m g := by
  have hd := Nat.div_le_div_right (c := g) h
  by_cases he : n / g = m / g
  · unfold rE
    rw [he]
    have h1 := Nat.div_add_mod n g
    have h2 := Nat.div_add_mod m g
    rw [he] at h1
    have hr : n % g ≤ m % g := by omega
    split
    · rename_i c
      rw [if_pos]
      · exact Nat.le_refl _
      · rcases c with c | ⟨c, c2⟩
        · left; omega
        · by_cases e : n % g = m % g
          · right; rw [← e]; exact ⟨c, c2⟩
          · left; omega
    · omega
  · have := rE_le n g
    have := rE_ge m g
    omega

theorem rE_scale (n g k : Nat) : rE (n * 2 ^ k) (g * 2 ^ k) = rE n g := by
  have hk : 0 < 2 ^ k := Nat.two_pow_pos k
  unfold rE
  rw [Nat.mul_div_mul_right _ _ hk, Nat.mul_mod_mul_right]
  have e : ∀ a b : Nat, (a * 2 ^ k < 2 * (b * 2 ^ k) ↔ a < 2 * b) := fun a b => by
    rw [← Nat.mul_assoc]; exact Nat.mul_lt_mul_right hk
  have e2 : ∀ a b : Nat, (a * 2 ^ k = 2 * (b * 2 ^ k) ↔ a = 2 * b) := fun a b => by
    rw [← Nat.mul_assoc]; exact Nat.mul_right_cancel_iff hk
  simp only [e, e2]

theorem cut_rE (neg : Bool) (n d : Nat) : Toward.even.cut neg n d = rE n (2 ^ d) := by
  unfold Toward.cut
  simp only
  have hlt : n < 2 ^ (n.log2 + 1) := Nat.lt_log2_self
  by_cases h : d ≤ n.log2 + 2
  · rw [Nat.min_eq_left h, Nat.shiftLeft_eq, Nat.one_mul]
    unfold rE
    congr 1
    by_cases c : 2 ^ d < 2 * (n % 2 ^ d)
    · simp [c]
    · by_cases c2 : 2 ^ d = 2 * (n % 2 ^ d) ∧ n / 2 ^ d % 2 = 1
      · simp [c2.1.symm, c2.2]
      · rw [if_neg (by rintro (h | h); exact c h; exact c2 h)]
        simp only [c, decide_false, Bool.false_or]
        rw [Bool.toNat_eq_zero]
        simp only [Bool.and_eq_false_imp, beq_iff_eq, beq_eq_false_iff_ne, ne_eq]
        exact fun a b => c2 ⟨a, b⟩
  · rw [Nat.min_eq_right (by omega), Nat.shiftLeft_eq, Nat.one_mul]
    have h1 : 2 ^ (n.log2 + 1) * 2 = 2 ^ (n.log2 + 2) := by rw [← Nat.pow_succ]
    have h2 : 2 ^ (n.log2 + 2) ≤ 2 ^ d := Nat.pow_le_pow_right (by omega) (by omega)
    have a1 : n / 2 ^ (n.log2 + 2) = 0 := Nat.div_eq_of_lt (by omega)
    have a2 : n % 2 ^ (n.log2 + 2) = n := Nat.mod_eq_of_lt (by omega)
    have a3 : n / 2 ^ d = 0 := Nat.div_eq_of_lt (by omega)
    have a4 : n % 2 ^ d = n := Nat.mod_eq_of_lt (by omega)
    have c1 : ¬ 2 ^ (n.log2 + 2) < 2 * n := by omega
    have c3 : ¬ 2 ^ d < 2 * n := by omega
    unfold rE
    rw [a1, a2, a3, a4]
    simp [c1, c3]

/-- The place of the last digit that is kept. -/
def lastP (m : Nat) (p : Int) : Int := max (p + m.log2 - 52) (-1074)
/-- The rung of 'm * 2 ^ p' before it is cut at infinity. -/
def rung (m : Nat) (p : Int) : Nat := (lastP m p + 1074).toNat * 2 ^ 52 + rE (m * 2 ^ (p - lastP m p).toNat) (2 ^ (lastP m p - p).toNat)

theorem nearest_rung (neg : Bool) {m : Nat} (h : m ≠ 0) (p : Int) : double.nearest neg m p = double.word neg (min (rung m p) (2047 * 2 ^ 52)) := by
  unfold Format.nearest
  rw [if_neg h]
  simp only
  have e1 : double.leastPlace = -1074 := by decide
  have e2 : double.binade = 2 ^ 52 := rfl
  have e3 : double.infRung = 2047 * 2 ^ 52 := by decide
  have e4 : ((double.fractionBits : Nat) : Int) = 52 := rfl
  rw [e1, e2, e3, cut_rE, Nat.shiftLeft_eq]
  unfold rung lastP
  rw [e4]
  have e5 : max (p + (m.log2 : Int) - 52) (-1074) - -1074 = max (p + (m.log2 : Int) - 52) (-1074) + 1074 := by omega
  rw [e5]

theorem log2_shift {m : Nat} (h : m ≠ 0) (k : Nat) : (m * 2 ^ k).log2 = m.log2 + k := by
  have hk : 0 < 2 ^ k := Nat.two_pow_pos k
  have hne : m * 2 ^ k ≠ 0 := Nat.mul_ne_zero h (by omega)
  rw [Nat.log2_eq_iff hne]
  have h1 := Nat.log2_self_le h
  have h2 : m < 2 ^ (m.log2 + 1) := Nat.lt_log2_self
  constructor
  · rw [Nat.pow_add]; exact Nat.mul_le_mul_right _ h1
  · rw [show m.log2 + k + 1 = (m.log2 + 1) + k by omega, Nat.pow_add]
    exact (Nat.mul_lt_mul_right hk).2 h2

/-- The same number told otherwise. -/
theorem rung_shift {m : Nat} (h : m ≠ 0) (p : Int) (k : Nat) : rung (m * 2 ^ k) (p - k) = rung m p := by
  have hl : lastP (m * 2 ^ k) (p - k) = lastP m p := by
    unfold lastP; rw [log2_shift h]; omega
  unfold rung
  rw [hl]
  generalize lastP m p = L
  congr 1
  by_cases h1 : L ≤ p
  · have e0 : (L - p).toNat = 0 := by omega
    rw [e0, Nat.pow_zero, rE_one]
    by_cases h2 : k ≤ (p - L).toNat
    · have e1 : (L - (p - k)).toNat = 0 := by omega
      have e2 : k + (p - k - L).toNat = (p - L).toNat := by omega
      rw [e1, Nat.pow_zero, rE_one, Nat.mul_assoc, ← Nat.pow_add, e2]
    · have e1 : (p - k - L).toNat = 0 := by omega
      obtain ⟨d, hd⟩ : ∃ d, k = (p - L).toNat + d := ⟨k - (p - L).toNat, by omega⟩
      have e2 : (L - (p - k)).toNat = d := by omega
      rw [e1, e2, Nat.pow_zero, Nat.mul_one]
      have := rE_scale (m * 2 ^ (p - L).toNat) 1 d
      rw [rE_one, Nat.one_mul, Nat.mul_assoc, ← Nat.pow_add, ← hd] at this
      exact this
  · have e0 : (p - L).toNat = 0 := by omega
    have e1 : (p - k - L).toNat = 0 := by omega
    have e2 : (L - (p - k)).toNat = (L - p).toNat + k := by omega
    rw [e0, e1, e2, Nat.pow_zero, Nat.mul_one, Nat.mul_one, Nat.pow_add]
    exact rE_scale m _ k

theorem kept_le (m : Nat) (p : Int) : rE (m * 2 ^ (p - lastP m p).toNat) (2 ^ (lastP m p - p).toNat) ≤ 2 ^ 53 := by
  have h2 : m < 2 ^ (m.log2 + 1) := Nat.lt_log2_self
  have hL : p + m.log2 - 52 ≤ lastP m p := by unfold lastP; omega
  generalize lastP m p = L at *
  have hle := rE_le (m * 2 ^ (p - L).toNat) (2 ^ (L - p).toNat)
  have hq : m * 2 ^ (p - L).toNat / 2 ^ (L - p).toNat < 2 ^ 53 := by
    rw [Nat.div_lt_iff_lt_mul (Nat.two_pow_pos _), ← Nat.pow_add]
    refine Nat.lt_of_lt_of_le ((Nat.mul_lt_mul_right (Nat.two_pow_pos _)).2 h2) ?_
    rw [← Nat.pow_add]
    exact Nat.pow_le_pow_right (by omega) (by omega)
  omega

theorem kept_ge {m : Nat} (h : m ≠ 0) (p : Int) (hL : lastP m p = p + m.log2 - 52) : 2 ^ 52 ≤ rE (m * 2 ^ (p - lastP m p).toNat) (2 ^ (lastP m p - p).toNat) := by
  have h1 := Nat.log2_self_le h
  refine Nat.le_trans ?_ (rE_ge _ _)
  rw [Nat.le_div_iff_mul_le (Nat.two_pow_pos _), ← Nat.pow_add, hL]
  refine Nat.le_trans ?_ (Nat.mul_le_mul_right _ h1)
  rw [← Nat.pow_add]
  exact Nat.pow_le_pow_right (by omega) (by omega)

/-- The greater number's rung is no less. -/
theorem rung_mono {m n : Nat} (h0 : m ≠ 0) (h : m ≤ n) (p : Int) : rung m p ≤ rung n p := by
  have hn0 : n ≠ 0 := by omega
  have hlog : m.log2 ≤ n.log2 := (Nat.le_log2 hn0).2 (Nat.le_trans (Nat.log2_self_le h0) h)
  by_cases he : lastP m p = lastP n p
  · unfold rung
    rw [he]
    exact Nat.add_le_add_left (rE_mono (Nat.mul_le_mul_right _ h)) _
  · have hlt : lastP m p < lastP n p := by unfold lastP at *; omega
    have hn : lastP n p = p + n.log2 - 52 := by unfold lastP at *; omega
    have hm : -1074 ≤ lastP m p := by unfold lastP; omega
    have k1 := kept_le m p
    have k2 := kept_ge hn0 p hn
    unfold rung
    have hstep : (lastP m p + 1074).toNat + 1 ≤ (lastP n p + 1074).toNat := by omega
    have := Nat.mul_le_mul_right (2 ^ 52) hstep
    rw [Nat.add_mul] at this
    omega

/-! Words and what they stand for. -/

/-- What a rung stands for, by the least place. -/
def valR (r : Nat) : Nat := if r < 2 ^ 52 then r else (2 ^ 52 + r % 2 ^ 52) * 2 ^ (r / 2 ^ 52 - 1)

/-- A finite rung. -/
def Fin64 (r : Nat) : Prop := r < 2047 * 2 ^ 52

def magR (r : Nat) : Nat := if r < 2 ^ 52 then r else 2 ^ 52 + r % 2 ^ 52
def plR (r : Nat) : Nat := if r < 2 ^ 52 then 0 else r / 2 ^ 52 - 1
theorem valR_eq (r : Nat) : valR r = magR r * 2 ^ plR r := by
  unfold valR magR plR
  split
  · simp
  · rfl

theorem read_word (neg : Bool) {r : Nat} (h : Fin64 r) : double.read (double.word neg r) = .number neg (magR r) (-1074 + (plR r : Nat)) := by
  unfold Fin64 at h
  have e1 : double.leastPlace = -1074 := by decide
  have e2 : double.binade = 2 ^ 52 := rfl
  have e3 : double.infRung = 2047 * 2 ^ 52 := by decide
  have e4 : double.signWeight = 2 ^ 63 := rfl
  have hn : ((double.word neg r) / double.signWeight % 2 == 1) = neg ∧ double.word neg r % double.signWeight = r := by
    unfold Format.word
    rw [e4]
    cases neg with
    | true =>
      simp only [if_true]
      refine ⟨?_, by omega⟩
      rw [beq_iff_eq]; omega
    | false =>
      simp only [Bool.false_eq_true, if_false]
      refine ⟨?_, by omega⟩
      rw [beq_eq_false_iff_ne]; omega
  unfold Format.read
  simp only [hn.1, hn.2, e1, e2, e3]
  unfold magR plR
  split
  · rfl
  · rfl

theorem valR_mono {r s : Nat} (h : r ≤ s) : valR r ≤ valR s := by
  unfold valR
  by_cases h1 : s < 2 ^ 52
  · rw [if_pos h1, if_pos (by omega)]; exact h
  · rw [if_neg h1]
    have hp : 1 ≤ 2 ^ (s / 2 ^ 52 - 1) := Nat.two_pow_pos _
    by_cases h2 : r < 2 ^ 52
    · rw [if_pos h2]
      have := Nat.mul_le_mul_left (2 ^ 52 + s % 2 ^ 52) hp
      omega
    · rw [if_neg h2]
      by_cases h3 : r / 2 ^ 52 = s / 2 ^ 52
      · rw [h3]
        exact Nat.mul_le_mul_right _ (by omega)
      · have h4 : r / 2 ^ 52 + 1 ≤ s / 2 ^ 52 := by omega
        have h5 : 2 ^ (r / 2 ^ 52 - 1) * 2 ≤ 2 ^ (s / 2 ^ 52 - 1) := by
          rw [← Nat.pow_succ]
          exact Nat.pow_le_pow_right (by omega) (by omega)
        calc (2 ^ 52 + r % 2 ^ 52) * 2 ^ (r / 2 ^ 52 - 1) ≤ (2 ^ 52 * 2) * 2 ^ (r / 2 ^ 52 - 1) := Nat.mul_le_mul_right _ (by omega)
          _ = 2 ^ 52 * (2 ^ (r / 2 ^ 52 - 1) * 2) := by rw [Nat.mul_assoc, Nat.mul_comm 2]
          _ ≤ 2 ^ 52 * 2 ^ (s / 2 ^ 52 - 1) := Nat.mul_le_mul_left _ h5
          _ ≤ _ := Nat.mul_le_mul_right _ (by omega)

/-- What is read of a word is written as that word. -/
theorem rung_valR {r : Nat} (h0 : r ≠ 0) : rung (magR r) (-1074 + (plR r : Nat)) = r := by
  unfold magR plR
  split
  · rename_i h
    have hl : lastP r (-1074 + ((0 : Nat) : Int)) = -1074 := by
      have : r.log2 < 52 := (Nat.log2_lt h0).2 h
      unfold lastP; omega
    unfold rung
    rw [hl]
    have e1 : (-1074 + ((0 : Nat) : Int) - -1074).toNat = 0 := by decide
    have e2 : (-1074 - (-1074 + ((0 : Nat) : Int))).toNat = 0 := by decide
    rw [e1, e2, Nat.pow_zero, rE_one]
    simp
  · rename_i h
    have hlog : (2 ^ 52 + r % 2 ^ 52).log2 = 52 := by
      rw [Nat.log2_eq_iff (by omega)]
      omega
    have hl : lastP (2 ^ 52 + r % 2 ^ 52) (-1074 + ((r / 2 ^ 52 - 1 : Nat) : Int)) = -1074 + ((r / 2 ^ 52 - 1 : Nat) : Int) := by
      unfold lastP; rw [hlog]; omega
    unfold rung
    rw [hl, Int.sub_self]
    have e1 : (0 : Int).toNat = 0 := rfl
    have e2 : (-1074 + ((r / 2 ^ 52 - 1 : Nat) : Int) + 1074).toNat = r / 2 ^ 52 - 1 := by omega
    rw [e1, e2, Nat.pow_zero, rE_one, Nat.mul_one]
    have := Nat.div_add_mod r (2 ^ 52)
    omega

/-- The rung of a number that is told by so many least places exactly. -/
theorem rung_zero_iff {m : Nat} (h : m ≠ 0) (p : Int) (hp : -1074 ≤ p) : 0 < rung m p := by
  have h1 : 1 ≤ m := by omega
  have h2 := rung_mono (m := 1) (by decide) h1 p
  have h3 : 0 < rung 1 p := by
    unfold rung
    have hl : (1 : Nat).log2 = 0 := by decide
    by_cases hc : p - 52 ≤ -1074
    · have e : lastP 1 p = -1074 := by unfold lastP; rw [hl]; omega
      rw [e]
      have e2 : (-1074 - p).toNat = 0 := by omega
      rw [e2, Nat.pow_zero, rE_one, Nat.one_mul]
      have := Nat.two_pow_pos (p - -1074).toNat
      omega
    · have e : lastP 1 p = p + (1 : Nat).log2 - 52 := by unfold lastP; rw [hl]; omega
      have := kept_ge (m := 1) (by decide) p e
      omega
  omega

/-- Exactly, where no digit is lost. -/
theorem valR_rung {m : Nat} (h : m ≠ 0) (p : Int) (hp : lastP m p ≤ p) : valR (rung m p) = m * 2 ^ (p + 1074).toNat := by
  have hL : -1074 ≤ lastP m p := by unfold lastP; omega
  have hk : p + m.log2 - 52 ≤ lastP m p := by unfold lastP; omega
  have hlt : m * 2 ^ (p - lastP m p).toNat < 2 ^ 53 := by
    have h2 : m < 2 ^ (m.log2 + 1) := Nat.lt_log2_self
    refine Nat.lt_of_lt_of_le ((Nat.mul_lt_mul_right (Nat.two_pow_pos _)).2 h2) ?_
    rw [← Nat.pow_add]
    exact Nat.pow_le_pow_right (by omega) (by omega)
  have hge : lastP m p ≠ -1074 → 2 ^ 52 ≤ m * 2 ^ (p - lastP m p).toNat := by
    intro hne
    have e : lastP m p = p + m.log2 - 52 := by unfold lastP at *; omega
    have h1 := Nat.log2_self_le h
    refine Nat.le_trans ?_ (Nat.mul_le_mul_right _ h1)
    rw [← Nat.pow_add]
    exact Nat.pow_le_pow_right (by omega) (by omega)
  have e0 : (lastP m p - p).toNat = 0 := by omega
  have e1 : (p - lastP m p).toNat + (lastP m p + 1074).toNat = (p + 1074).toNat := by omega
  have goal : valR ((lastP m p + 1074).toNat * 2 ^ 52 + m * 2 ^ (p - lastP m p).toNat) = (m * 2 ^ (p - lastP m p).toNat) * 2 ^ (lastP m p + 1074).toNat := by
    generalize m * 2 ^ (p - lastP m p).toNat = K at *
    by_cases hz : lastP m p = -1074
    · have e2 : (lastP m p + 1074).toNat = 0 := by omega
      rw [e2, Nat.zero_mul, Nat.zero_add, Nat.pow_zero, Nat.mul_one]
      unfold valR
      split
      · rfl
      · have e3 : K / 2 ^ 52 = 1 := by omega
        rw [e3, Nat.sub_self, Nat.pow_zero, Nat.mul_one]
        omega
    · have hg := hge hz
      generalize (lastP m p + 1074).toNat = t at *
      unfold valR
      rw [if_neg (by omega)]
      have e3 : (t * 2 ^ 52 + K) / 2 ^ 52 - 1 = t := by omega
      have e4 : (t * 2 ^ 52 + K) % 2 ^ 52 = K - 2 ^ 52 := by omega
      have e5 : 2 ^ 52 + (K - 2 ^ 52) = K := by omega
      rw [e3, e4, e5]
  unfold rung
  rw [e0, Nat.pow_zero, rE_one, goal, Nat.mul_assoc, ← Nat.pow_add, e1]

theorem magR_pos {r : Nat} (h : r ≠ 0) : magR r ≠ 0 := by
  unfold magR; split <;> omega

/-- A product with a number that is told exactly. -/
theorem rung_mul {m : Nat} (h : m ≠ 0) (p : Int) (hp : lastP m p ≤ p) (h1 : -1074 ≤ p) {P : Nat} (hP : P ≠ 0) (j : Int) : rung (magR (rung m p) * P) (-1074 + (plR (rung m p) : Nat) + j) = rung (m * P) (p + j) := by
  have hv := valR_rung h p hp
  rw [valR_eq] at hv
  have hr : rung m p ≠ 0 := by have := rung_zero_iff h p h1; omega
  have hm := magR_pos hr
  generalize magR (rung m p) = a at *
  generalize plR (rung m p) = k at *
  have s1 := rung_shift (m := a * P) (Nat.mul_ne_zero hm hP) (-1074 + (k : Nat) + j) k
  have e1 : a * P * 2 ^ k = m * P * 2 ^ (p + 1074).toNat := by
    rw [Nat.mul_right_comm, hv, Nat.mul_right_comm]
  have e2 : -1074 + (k : Int) + j - k = p + j - ((p + 1074).toNat : Nat) := by omega
  rw [e1, e2, rung_shift (Nat.mul_ne_zero h hP)] at s1
  exact s1.symm

/-! Quotients: a digit more tells that something is left over. -/

theorem rE_open {F H K X Y : Nat} (hX : F * H < X ∧ X < (F + 1) * H) (hY : F * H < Y ∧ Y < (F + 1) * H) : rE X (H * (2 * K)) = rE Y (H * (2 * K)) := by
  have one : ∀ Z, F * H < Z ∧ Z < (F + 1) * H → rE Z (H * (2 * K)) = F / (2 * K) + if K ≤ F % (2 * K) then 1 else 0 := by
    intro Z hZ
    have hH : 0 < H := by
      rcases Nat.eq_zero_or_pos H with h | h
      · subst h; omega
      · exact h
    rw [Nat.add_mul, Nat.one_mul] at hZ
    have hq : Z / H = F := by
      rw [Nat.div_eq_iff hH]
      have := Nat.mul_comm F H
      omega
    have hr : Z % H = Z - F * H := by
      have := Nat.div_add_mod Z H
      rw [hq, Nat.mul_comm] at this
      omega
    have e1 : Z / (H * (2 * K)) = F / (2 * K) := by rw [← Nat.div_div_eq_div_mul, hq]
    have e2 : Z % (H * (2 * K)) = Z % H + H * (F % (2 * K)) := by rw [Nat.mod_mul, hq]
    unfold rE
    rw [e1, e2, hr]
    congr 1
    generalize F % (2 * K) = c
    have hz1 : 0 < Z - F * H := by omega
    have hz2 : Z - F * H < H := by omega
    generalize Z - F * H = z at *
    by_cases hc : K ≤ c
    · rw [if_pos hc, if_pos]
      left
      have := Nat.mul_le_mul_left H hc
      have e : H * (2 * K) = 2 * (H * K) := by rw [← Nat.mul_assoc, Nat.mul_comm H 2, Nat.mul_assoc]
      rw [e]; omega
    · rw [if_neg hc, if_neg]
      have := Nat.mul_le_mul_left H (show c + 1 ≤ K by omega)
      rw [Nat.mul_add, Nat.mul_one] at this
      have e : H * (2 * K) = 2 * (H * K) := by rw [← Nat.mul_assoc, Nat.mul_comm H 2, Nat.mul_assoc]
      rw [e]
      rintro (h | ⟨h, _⟩) <;> omega
  rw [one X hX, one Y hY]

theorem log2_open {F e X : Nat} (hF : F ≠ 0) (hX : F * 2 ^ e ≤ X ∧ X < (F + 1) * 2 ^ e) : X.log2 = F.log2 + e := by
  have h1 := Nat.log2_self_le hF
  have h2 : F < 2 ^ (F.log2 + 1) := Nat.lt_log2_self
  have h3 : 0 < F * 2 ^ e := Nat.mul_pos (by omega) (Nat.two_pow_pos e)
  rw [Nat.log2_eq_iff (by omega)]
  constructor
  · rw [Nat.pow_add]
    exact Nat.le_trans (Nat.mul_le_mul_right _ h1) hX.1
  · refine Nat.lt_of_lt_of_le hX.2 ?_
    rw [show F.log2 + e + 1 = (F.log2 + 1) + e by omega, Nat.pow_add]
    exact Nat.mul_le_mul_right _ (by omega)

theorem rung_open {F e X Y : Nat} (hF : 2 ^ 53 ≤ F) (hX : F * 2 ^ (e + 1) < X ∧ X < (F + 1) * 2 ^ (e + 1)) (hY : F * 2 ^ (e + 1) < Y ∧ Y < (F + 1) * 2 ^ (e + 1)) (p : Int) : rung X p = rung Y p := by
  have lX := log2_open (by omega) ⟨Nat.le_of_lt hX.1, hX.2⟩
  have lY := log2_open (by omega) ⟨Nat.le_of_lt hY.1, hY.2⟩
  have hl : 53 ≤ F.log2 := (Nat.le_log2 (by omega)).2 hF
  have hL : lastP X p = lastP Y p := by unfold lastP; rw [lX, lY]
  have hd : p + ((e + 2 : Nat) : Int) ≤ lastP Y p := by unfold lastP; rw [lY]; omega
  unfold rung
  rw [hL]
  congr 1
  generalize lastP Y p = L at *
  have e0 : (p - L).toNat = 0 := by omega
  obtain ⟨d, hdd⟩ : ∃ d, (L - p).toNat = (e + 1) + (1 + d) := ⟨(L - p).toNat - (e + 2), by omega⟩
  rw [e0, hdd, Nat.pow_zero, Nat.mul_one, Nat.mul_one, Nat.pow_add, Nat.pow_add 2 1 d, Nat.pow_one]
  exact rE_open hX hY

/-- x / n, with a last digit that is 1 where anything is left over. -/
def qS (x n : Nat) : Nat := 2 * (x / n) + if x % n = 0 then 0 else 1

theorem qS_mono {x y n : Nat} (h : x ≤ y) : qS x n ≤ qS y n := by
  have hd := Nat.div_le_div_right (c := n) h
  unfold qS
  by_cases he : x / n = y / n
  · rw [he]
    have h1 := Nat.div_add_mod x n
    have h2 := Nat.div_add_mod y n
    rw [he] at h1
    split
    · omega
    · split <;> omega
  · split <;> split <;> omega

theorem rung_qS {x n : Nat} (hn : 0 < n) (hx : 2 ^ 53 ≤ x / n) (p : Int) (e : Nat) : rung (qS (x * 2 ^ e) n) (p - e) = rung (qS x n) p := by
  have hne : qS x n ≠ 0 := by unfold qS; omega
  rw [← rung_shift hne p e]
  have hdm := Nat.div_add_mod x n
  have hlt := Nat.mod_lt x hn
  have h2e : 0 < 2 ^ e := Nat.two_pow_pos e
  by_cases hz : x % n = 0
  · have hx2 : x * 2 ^ e = n * (x / n * 2 ^ e) := by
      rw [← Nat.mul_assoc]
      congr 1
      omega
    have : qS (x * 2 ^ e) n = qS x n * 2 ^ e := by
      unfold qS
      rw [if_pos hz, hx2, Nat.mul_div_cancel_left _ hn, Nat.mul_mod_right, if_pos rfl, Nat.add_zero, Nat.add_zero, Nat.mul_assoc]
    rw [this]
  · refine rung_open (F := x / n) (e := e) hx ?_ ?_ _
    · have hlo : x / n * 2 ^ e * n ≤ x * 2 ^ e := by
        rw [Nat.mul_right_comm]
        exact Nat.mul_le_mul_right _ (by rw [Nat.mul_comm]; omega)
      have hup : x * 2 ^ e < (x / n + 1) * 2 ^ e * n := by
        rw [Nat.mul_right_comm]
        refine (Nat.mul_lt_mul_right h2e).2 ?_
        rw [Nat.add_mul, Nat.one_mul, Nat.mul_comm]; omega
      have q1 : x / n * 2 ^ e ≤ x * 2 ^ e / n := (Nat.le_div_iff_mul_le hn).2 hlo
      have q2 : x * 2 ^ e / n < (x / n + 1) * 2 ^ e := (Nat.div_lt_iff_lt_mul hn).2 hup
      have q3 : x / n * 2 ^ e = x * 2 ^ e / n → x * 2 ^ e % n ≠ 0 := by
        intro h h0
        have h1 := Nat.div_add_mod (x * 2 ^ e) n
        rw [← h, h0, Nat.add_zero, ← Nat.mul_assoc] at h1
        have h2 := Nat.eq_of_mul_eq_mul_right h2e h1
        omega
      unfold qS
      rw [Nat.pow_succ, ← Nat.mul_assoc, ← Nat.mul_assoc]
      generalize x / n * 2 ^ e = A at *
      generalize (x / n + 1) * 2 ^ e = B at *
      split
      · rename_i h0
        have : A ≠ x * 2 ^ e / n := fun h => q3 h h0
        omega
      · omega
    · unfold qS
      rw [if_neg hz, Nat.pow_succ]
      have e1 : x / n * (2 ^ e * 2) = 2 * (x / n) * 2 ^ e := by rw [Nat.mul_comm (2 ^ e) 2, ← Nat.mul_assoc, Nat.mul_comm (x / n) 2]
      have e2 : (x / n + 1) * (2 ^ e * 2) = (2 * (x / n) + 2) * 2 ^ e := by rw [Nat.mul_comm (2 ^ e) 2, ← Nat.mul_assoc, Nat.add_mul (x / n) 1 2, Nat.mul_comm (x / n) 2]
      rw [e1, e2]
      exact ⟨(Nat.mul_lt_mul_right h2e).2 (by omega), (Nat.mul_lt_mul_right h2e).2 (by omega)⟩

theorem rung_norm {a : Nat} (h : a ≠ 0) (h2 : a.log2 ≤ 52) : lastP a 0 ≤ 0 ∧ lastP a 0 = (a.log2 : Int) - 52 ∧ plR (rung a 0) = 1022 + a.log2 ∧ (magR (rung a 0)).log2 = 52 ∧ magR (rung a 0) * 2 ^ plR (rung a 0) = a * 2 ^ 1074 := by
  have hl : lastP a 0 = (a.log2 : Int) - 52 := by unfold lastP; omega
  have hp : lastP a 0 ≤ 0 := by omega
  have hv := valR_rung h 0 hp
  have e1074 : ((0 : Int) + 1074).toNat = 1074 := rfl
  rw [valR_eq, e1074] at hv
  have k1 := kept_ge h 0 (by rw [hl]; omega)
  have h53 : a * 2 ^ (52 - a.log2) < 2 ^ 53 := by
    have h2' : a < 2 ^ (a.log2 + 1) := Nat.lt_log2_self
    refine Nat.lt_of_lt_of_le ((Nat.mul_lt_mul_right (Nat.two_pow_pos _)).2 h2') ?_
    rw [← Nat.pow_add]
    exact Nat.pow_le_pow_right (by omega) (by omega)
  have e0 : (lastP a 0 - 0).toNat = 0 := by omega
  have e1 : (0 - lastP a 0).toNat = 52 - a.log2 := by omega
  have e2 : (lastP a 0 + 1074).toNat = 1022 + a.log2 := by omega
  have hr : rung a 0 = (1022 + a.log2) * 2 ^ 52 + a * 2 ^ (52 - a.log2) := by
    unfold rung
    rw [e0, e1, e2, Nat.pow_zero, rE_one]
  rw [e0, e1, Nat.pow_zero, rE_one] at k1
  refine ⟨hp, hl, ?_, ?_, hv⟩
  · rw [hr]
    generalize a * 2 ^ (52 - a.log2) = K at *
    unfold plR
    rw [if_neg (by omega)]
    omega
  · rw [hr]
    generalize a * 2 ^ (52 - a.log2) = K at *
    unfold magR
    rw [if_neg (by omega)]
    rw [Nat.log2_eq_iff (by omega)]
    omega

theorem qS_pos {a : Nat} (h : a ≠ 0) (h2 : a.log2 ≤ 52) {n : Nat} (hn : 0 < n) : qS (magR (rung a 0) * 2 ^ (54 + n.log2 - (magR (rung a 0)).log2)) n ≠ 0 := by
  obtain ⟨_, _, _, hlog, _⟩ := rung_norm h h2
  rw [hlog]
  have hm0 : magR (rung a 0) ≠ 0 := by
    intro e; rw [e] at hlog; exact absurd hlog (by decide)
  have hml := Nat.log2_self_le hm0
  rw [hlog] at hml
  generalize magR (rung a 0) = m at *
  have hmore : 54 + n.log2 - 52 = (n.log2 + 1) + 1 := by omega
  rw [hmore]
  have hn2 : n < 2 ^ (n.log2 + 1) := Nat.lt_log2_self
  have hx : n ≤ m * 2 ^ (n.log2 + 1 + 1) := by
    refine Nat.le_trans (Nat.le_of_lt hn2) ?_
    rw [Nat.pow_succ]
    refine Nat.le_trans ?_ (Nat.le_mul_of_pos_left _ (show 0 < m by omega))
    omega
  have : 1 ≤ m * 2 ^ (n.log2 + 1 + 1) / n := (Nat.le_div_iff_mul_le hn).2 (by omega)
  unfold qS
  omega

/-- A quotient of a whole number that is told exactly. -/
theorem rung_div {a : Nat} (h : a ≠ 0) (h2 : a.log2 ≤ 52) {n : Nat} (hn : 0 < n) (j : Int) :
    rung (qS (magR (rung a 0) * 2 ^ (54 + n.log2 - (magR (rung a 0)).log2)) n) (-1074 + (plR (rung a 0) : Nat) - j - (54 + n.log2 - (magR (rung a 0)).log2 : Nat) - 1) = rung (qS (a * 2 ^ (54 + n.log2)) n) (-j - (54 + n.log2 : Nat) - 1) := by
  obtain ⟨_, _, hpl, hlog, hv⟩ := rung_norm h h2
  rw [hlog]
  rw [hpl] at hv ⊢
  have hm0 : magR (rung a 0) ≠ 0 := by
    intro e; rw [e] at hlog; exact absurd hlog (by decide)
  have hml := Nat.log2_self_le hm0
  rw [hlog] at hml
  generalize magR (rung a 0) = m at *
  have hmore : 54 + n.log2 - 52 = 2 + n.log2 := by omega
  rw [hmore]
  have hn2 : n < 2 ^ (n.log2 + 1) := Nat.lt_log2_self
  have hx : 2 ^ 53 ≤ m * 2 ^ (2 + n.log2) / n := by
    rw [Nat.le_div_iff_mul_le hn]
    refine Nat.le_trans (Nat.mul_le_mul_left _ (Nat.le_of_lt hn2)) ?_
    refine Nat.le_trans ?_ (Nat.mul_le_mul_right _ hml)
    rw [← Nat.pow_add, ← Nat.pow_add]
    exact Nat.pow_le_pow_right (by omega) (by omega)
  have key := rung_qS hn hx (-1074 + ((1022 + a.log2 : Nat) : Int) - j - ((2 + n.log2 : Nat) : Int) - 1) a.log2
  have hme : m = a * 2 ^ (52 - a.log2) := by
    have e : a * 2 ^ 1074 = (a * 2 ^ (52 - a.log2)) * 2 ^ (1022 + a.log2) := by
      rw [Nat.mul_assoc, ← Nat.pow_add]
      congr 2
      omega
    rw [e] at hv
    exact Nat.eq_of_mul_eq_mul_right (Nat.two_pow_pos _) hv
  have e1 : m * 2 ^ (2 + n.log2) * 2 ^ a.log2 = a * 2 ^ (54 + n.log2) := by
    rw [hme, Nat.mul_assoc, Nat.mul_assoc, ← Nat.pow_add, ← Nat.pow_add]
    congr 2
    omega
  have e2 : -1074 + ((1022 + a.log2 : Nat) : Int) - j - ((2 + n.log2 : Nat) : Int) - 1 - (a.log2 : Nat) = -j - ((54 + n.log2 : Nat) : Int) - 1 := by omega
  rw [e1, e2] at key
  exact key.symm

/-- The rung of a whole number divided is no less for a greater one. -/
theorem div_mono {a b n : Nat} (h : a ≠ 0) (hn : 0 < n) (hab : a ≤ b) (j : Int) : rung (qS (a * 2 ^ (54 + n.log2)) n) (-j - (54 + n.log2 : Nat) - 1) ≤ rung (qS (b * 2 ^ (54 + n.log2)) n) (-j - (54 + n.log2 : Nat) - 1) := by
  refine rung_mono ?_ (qS_mono (Nat.mul_le_mul_right _ hab)) _
  have h1 : 2 ^ 53 ≤ a * 2 ^ (54 + n.log2) / n := by
    have hn2 : n < 2 ^ (n.log2 + 1) := Nat.lt_log2_self
    rw [Nat.le_div_iff_mul_le hn]
    refine Nat.le_trans (Nat.mul_le_mul_left _ (Nat.le_of_lt hn2)) ?_
    refine Nat.le_trans ?_ (Nat.mul_le_mul_right _ (show 1 ≤ a by omega))
    rw [← Nat.pow_add, Nat.one_mul]
    exact Nat.pow_le_pow_right (by omega) (by omega)
  unfold qS
  omega

/-! How words stand to each other. -/

/-- What a word of a sign and a finite rung stands for, by the least place. -/
def sv (neg : Bool) (r : Nat) : Int := if neg then -(valR r : Int) else (valR r : Int)

theorem cmp_scale (x y : Int) {c : Int} (hc : 0 < c) : compare (x * c) (y * c) = compare x y := by
  simp only [compare, compareOfLessAndEq]
  have h1 : x * c < y * c ↔ x < y := Int.mul_lt_mul_right hc
  have h2 : x * c = y * c ↔ x = y := Int.mul_eq_mul_right_iff (by omega)
  simp only [h1, h2]

theorem signed_scale (neg : Bool) (m a k : Nat) (h : k ≤ a) : signed neg m (a - k) * ((2 ^ k : Nat) : Int) = if neg then -((m * 2 ^ a : Nat) : Int) else ((m * 2 ^ a : Nat) : Int) := by
  have e : m * 2 ^ (a - k) * 2 ^ k = m * 2 ^ a := by
    rw [Nat.mul_assoc, ← Nat.pow_add, Nat.sub_add_cancel h]
  unfold signed
  rw [Nat.shiftLeft_eq]
  cases neg with
  | true =>
    simp only [if_true]
    rw [Int.neg_mul, ← Int.natCast_mul, e]
  | false =>
    simp only [Bool.false_eq_true, if_false]
    rw [← Int.natCast_mul, e]

theorem order_word (s t : Bool) {r q : Nat} (hr : Fin64 r) (hq : Fin64 q) : double.order (double.word s r) (double.word t q) = some (compare (sv s r) (sv t q)) := by
  unfold Format.order
  rw [read_word s hr, read_word t hq]
  simp only [Datum.order, Option.some.injEq]
  have e1 : (-1074 + ((plR r : Nat) : Int) - min (-1074 + ((plR r : Nat) : Int)) (-1074 + ((plR q : Nat) : Int))).toNat = plR r - min (plR r) (plR q) := by omega
  have e2 : (-1074 + ((plR q : Nat) : Int) - min (-1074 + ((plR r : Nat) : Int)) (-1074 + ((plR q : Nat) : Int))).toNat = plR q - min (plR r) (plR q) := by omega
  rw [e1, e2]
  have hc : (0 : Int) < ((2 ^ min (plR r) (plR q) : Nat) : Int) := by
    have := Nat.two_pow_pos (min (plR r) (plR q)); omega
  rw [← cmp_scale _ _ hc, signed_scale s _ _ _ (Nat.min_le_left _ _), signed_scale t _ _ _ (Nat.min_le_right _ _)]
  unfold sv
  rw [valR_eq, valR_eq]

theorem valR_zero : valR 0 = 0 := by unfold valR; rw [if_pos (by omega)]
theorem valR_pos {r : Nat} (h : r ≠ 0) : 0 < valR r := by
  rw [valR_eq]
  exact Nat.mul_pos (Nat.pos_of_ne_zero (magR_pos h)) (Nat.two_pow_pos _)
end Go.Proofs.Ytigglgobiofalaa.Flt
