/- Signs as letters: plain lists. -/
import Derived.Test.YtljgmgbjfjhjmaaDig
namespace Go.Proofs.Ytljgmgbjfjhjmaa.Pny
open Go.RowKit
set_option linter.unusedVariables false
set_option linter.unusedSimpArgs false

/-! Digits. -/
/-- What a byte is worth as a digit (below 0: nothing). -/
def wo (c : UInt8) : Int := if digitI (c.toNat : Nat) 36 ≥ 10 then digitI (c.toNat : Nat) 36 - 10 else if digitI (c.toNat : Nat) 36 ≥ 0 then digitI (c.toNat : Nat) 36 + 26 else -1
/-- The letter of a digit. -/
def chr (d : Nat) : UInt8 := if d < 26 then UInt8.ofNat (97 + d) else UInt8.ofNat (22 + d)
/-- A byte, small. -/
def low (c : UInt8) : UInt8 := if 65 ≤ c.toNat ∧ c.toNat ≤ 90 then UInt8.ofNat (c.toNat + 32) else c

theorem wo_chr {d : Nat} (h : d < 36) : wo (chr d) = d := by
  have k : ∀ y : Fin 36, wo (chr y.val) = (y.val : Nat) := by decide +kernel
  exact k ⟨d, h⟩
theorem wo_bd : ∀ c : UInt8, -1 ≤ wo c ∧ wo c ≤ 35 := byte_all (by decide +kernel)
theorem chr_wo : ∀ c : UInt8, 0 ≤ wo c → chr (wo c).toNat = low c := byte_all (by decide +kernel)

/-- The bound of the j-th digit. -/
def bnd (j b : Nat) : Nat := max 1 (min 26 (36 * (j + 1) - b))
theorem bnd_bd (j b : Nat) : 1 ≤ bnd j b ∧ bnd j b ≤ 26 := by unfold bnd; omega

/-- A number's letters, from the j-th on. -/
def leB (b : Nat) : Nat → Nat → Nat → List UInt8
  | 0, _, _ => []
  | f + 1, j, d => if d < bnd j b then [chr d] else chr (bnd j b + (d - bnd j b) % (36 - bnd j b)) :: leB b f (j + 1) ((d - bnd j b) / (36 - bnd j b))

/-- The number whose digits stand first, and how many these are. -/
def rdB (b : Nat) : Nat → Nat → Nat → List UInt8 → Option (Nat × Nat)
  | _, _, _, [] => none
  | j, w, a, c :: r =>
    if wo c < 0 then none
    else if a + (wo c).toNat * w > 2147483647 then none
    else if (wo c).toNat < bnd j b then some (a + (wo c).toNat * w, 1)
    else match rdB b (j + 1) (w * (36 - bnd j b)) (a + (wo c).toNat * w) r with
      | some (v, k) => some (v, k + 1)
      | none => none

theorem leB_succ (b f j d : Nat) : leB b (f + 1) j d = if d < bnd j b then [chr d] else chr (bnd j b + (d - bnd j b) % (36 - bnd j b)) :: leB b f (j + 1) ((d - bnd j b) / (36 - bnd j b)) := rfl
theorem rdB_cons (b j w a : Nat) (c : UInt8) (r : List UInt8) : rdB b j w a (c :: r) = if wo c < 0 then none
    else if a + (wo c).toNat * w > 2147483647 then none
    else if (wo c).toNat < bnd j b then some (a + (wo c).toNat * w, 1)
    else match rdB b (j + 1) (w * (36 - bnd j b)) (a + (wo c).toNat * w) r with
      | some (v, k) => some (v, k + 1)
      | none => none := rfl

/-- Divided, a number is less than a tenth. -/
theorem quo_lt {t d m : Nat} (h1 : 1 ≤ t) (h2 : t ≤ 26) (h : d < 10 * m) : (d - t) / (36 - t) < m := by
  rw [Nat.div_lt_iff_lt_mul (by omega)]
  have : m * 10 ≤ m * (36 - t) := Nat.mul_le_mul_left _ (by omega)
  omega
theorem quo_eq {t d : Nat} (h2 : t ≤ 26) (h : t ≤ d) : t + (d - t) % (36 - t) + (36 - t) * ((d - t) / (36 - t)) = d := by
  have := Nat.mod_add_div (d - t) (36 - t)
  omega

/-- A number's letters are read as it. -/
theorem rd_le (b : Nat) : ∀ (f j w a d : Nat) (r : List UInt8), d < 10 ^ f → a + w * d ≤ 2147483647 → rdB b j w a (leB b (f + 1) j d ++ r) = some (a + w * d, (leB b (f + 1) j d).length)
  | f, j, w, a, d, r, hf, hv => by
    obtain ⟨t1, t2⟩ := bnd_bd j b
    rw [leB_succ]
    by_cases h : d < bnd j b
    · rw [if_pos h]
      show rdB b j w a (chr d :: r) = _
      rw [rdB_cons, wo_chr (by omega), if_neg (by omega), Int.toNat_natCast, if_neg (by rw [Nat.mul_comm]; omega), if_pos h, Nat.mul_comm]
      rfl
    · rw [if_neg h]
      have hq := quo_eq t2 (Nat.le_of_not_lt h)
      have hm : (d - bnd j b) % (36 - bnd j b) < 36 - bnd j b := Nat.mod_lt _ (by omega)
      match f, hf with
      | 0, hf => simp at hf; omega
      | f + 1, hf =>
        have hlt := quo_lt (m := 10 ^ f) t1 t2 (by rw [Nat.pow_succ] at hf; omega : d < 10 * 10 ^ f)
        generalize hc : bnd j b + (d - bnd j b) % (36 - bnd j b) = c at *
        generalize hd : (d - bnd j b) / (36 - bnd j b) = q at *
        have e : w * d = c * w + w * (36 - bnd j b) * q := by
          rw [← hq, Nat.mul_add, Nat.mul_comm w c, Nat.mul_assoc]
        have ih := rd_le b f (j + 1) (w * (36 - bnd j b)) (a + c * w) q r hlt (by omega)
        rw [List.cons_append, rdB_cons, wo_chr (by omega), if_neg (by omega), Int.toNat_natCast, if_neg (by omega), if_neg (by omega), ih]
        simp only [List.length_cons, Option.some.injEq, Prod.mk.injEq, and_true]
        omega

/-- What is read is a number's letters, but for large ones. -/
theorem le_rd (b : Nat) : ∀ (s : List UInt8) (f j w a v k : Nat), s.length ≤ f → rdB b j w a s = some (v, k) → ∃ d, v = a + w * d ∧ 1 ≤ k ∧ k ≤ s.length ∧ (s.take k).map low = leB b f j d ∧ (1 ≤ w → d ≤ 2147483647)
  | [], f, j, w, a, v, k, hf, h => by simp [rdB] at h
  | c :: r, f, j, w, a, v, k, hf, h => by
    obtain ⟨t1, t2⟩ := bnd_bd j b
    obtain ⟨w1, w2⟩ := wo_bd c
    rw [rdB_cons] at h
    split at h
    · cases h
    · rename_i h0
      have hlow := chr_wo c (by omega)
      obtain ⟨f, rfl⟩ : ∃ g, f = g + 1 := ⟨f - 1, by simp only [List.length_cons] at hf; omega⟩
      generalize hd : (wo c).toNat = d at *
      have hd35 : d ≤ 35 := by omega
      split at h
      · cases h
      · rename_i hv
        split at h
        · rename_i hlt
          simp only [Option.some.injEq, Prod.mk.injEq] at h
          obtain ⟨rfl, rfl⟩ := h
          refine ⟨d, by rw [Nat.mul_comm], by omega, by simp, ?_, fun _ => by omega⟩
          rw [leB_succ, if_pos hlt, hlow]
          rfl
        · rename_i hge
          split at h
          · rename_i v' k' hr
            simp only [Option.some.injEq, Prod.mk.injEq] at h
            obtain ⟨rfl, rfl⟩ := h
            obtain ⟨q, e1, e2, e3, e4, e5⟩ := le_rd b r f (j + 1) (w * (36 - bnd j b)) (a + d * w) v' k' (by simp only [List.length_cons] at hf; omega) hr
            have hsub : d - bnd j b < 36 - bnd j b := by omega
            have k1 : (d + (36 - bnd j b) * q - bnd j b) = (d - bnd j b) + (36 - bnd j b) * q := by omega
            have k2 : (d + (36 - bnd j b) * q - bnd j b) % (36 - bnd j b) = d - bnd j b := by
              rw [k1, Nat.add_mul_mod_self_left, Nat.mod_eq_of_lt hsub]
            have k3 : (d + (36 - bnd j b) * q - bnd j b) / (36 - bnd j b) = q := by
              rw [k1, Nat.add_mul_div_left _ _ (by omega), Nat.div_eq_of_lt hsub, Nat.zero_add]
            refine ⟨d + (36 - bnd j b) * q, ?_, by omega, by simp only [List.length_cons]; omega, ?_, ?_⟩
            · rw [e1, Nat.mul_add, Nat.mul_comm w d, ← Nat.mul_assoc, Nat.add_assoc]
            · rw [leB_succ, if_neg (by omega), k2, k3, ← e4, List.take_succ_cons, List.map_cons, show bnd j b + (d - bnd j b) = d by omega, hlow]
            · intro hw
              have hle : v' ≤ 2147483647 := rdB_le b r (j + 1) _ _ v' k' hr
              have : d + (36 - bnd j b) * q ≤ w * (d + (36 - bnd j b) * q) := Nat.le_mul_of_pos_left _ hw
              have e : w * (d + (36 - bnd j b) * q) = d * w + w * (36 - bnd j b) * q := by rw [Nat.mul_add, Nat.mul_comm w d, ← Nat.mul_assoc]
              omega
          · cases h
where
  rdB_le (b : Nat) : ∀ (s : List UInt8) (j w a v k : Nat), rdB b j w a s = some (v, k) → v ≤ 2147483647
  | [], j, w, a, v, k, h => by simp [rdB] at h
  | c :: r, j, w, a, v, k, h => by
    rw [rdB_cons] at h
    split at h
    · cases h
    · split at h
      · cases h
      · split at h
        · simp only [Option.some.injEq, Prod.mk.injEq] at h
          omega
        · split at h
          · rename_i v' k' hr
            simp only [Option.some.injEq, Prod.mk.injEq] at h
            rw [← h.1]
            exact rdB_le b r _ _ _ v' k' hr
          · cases h

end Go.Proofs.Ytljgmgbjfjhjmaa.Pny
