/- Numbers told in texts: digits, points, exponents; plain lists. -/
import Ieee.Arith
namespace Go.Proofs.Ytigglgobiofalaa.Num
open Ieee
set_option linter.unusedSimpArgs false
set_option linter.unusedVariables false
/-- Is a byte a digit, and what is it worth? -/
def isD (c : UInt8) : Bool := decide (48 ≤ c.toNat ∧ c.toNat ≤ 57)
def dV (c : UInt8) : Nat := c.toNat - 48
def decV (l : List UInt8) : Nat := l.foldl (fun n c => 10 * n + dV c) 0
def allD (l : List UInt8) : Bool := l.all isD

theorem decV_snoc (l : List UInt8) (c : UInt8) : decV (l ++ [c]) = 10 * decV l + dV c := by simp [decV]
theorem dV_le {c : UInt8} (h : isD c = true) : dV c ≤ 9 := by
  unfold isD at h; unfold dV
  simp only [decide_eq_true_eq] at h
  omega

/-- The exponent behind the digits: how great, and is it one? -/
def expoF (l : List UInt8) : Option Int :=
  match l with
  | [] => some 0
  | c :: r => if c = 101 ∨ c = 69 then
      match r with
      | 43 :: r' => if r' ≠ [] ∧ allD r' = true ∧ r'.length ≤ 4 then some (decV r' : Int) else none
      | 45 :: r' => if r' ≠ [] ∧ allD r' = true ∧ r'.length ≤ 4 then some (-(decV r' : Int)) else none
      | r' => if r' ≠ [] ∧ allD r' = true ∧ r'.length ≤ 4 then some (decV r' : Int) else none
    else none

/-- A float's digits and how far the point is moved, if it is short. -/
def finF (minus : Bool) (all : List UInt8) (f : Nat) (rest : List UInt8) : Option (Bool × List UInt8 × Int) :=
  match expoF rest with
  | some e => if all ≠ [] ∧ all.length ≤ 15 ∧ -22 ≤ e - f ∧ e - f ≤ 22 then some (minus, all, e - f) else none
  | none => none

def bodyF (minus : Bool) (l : List UInt8) : Option (Bool × List UInt8 × Int) :=
  match l.dropWhile isD with
  | 46 :: r => if r.takeWhile isD = [] then none else finF minus (l.takeWhile isD ++ r.takeWhile isD) (r.takeWhile isD).length (r.dropWhile isD)
  | r => finF minus (l.takeWhile isD) 0 r

def floatF (l : List UInt8) : Option (Bool × List UInt8 × Int) :=
  match l with
  | 45 :: r => bodyF true r
  | r => bodyF false r

/-! Which bytes are in a float's text. -/
def chF (c : UInt8) : Prop := isD c = true ∨ c = 46 ∨ c = 45 ∨ c = 43 ∨ c = 101 ∨ c = 69

theorem all_ch {l : List UInt8} (h : allD l = true) : ∀ x ∈ l, chF x := fun x hx => .inl (List.all_eq_true.1 h x hx)
theorem tw_all (l : List UInt8) : allD (l.takeWhile isD) = true := by
  unfold allD
  induction l with
  | nil => rfl
  | cons x r ih =>
    rw [List.takeWhile_cons]
    split
    · rename_i h; simp only [List.all_cons, h, ih, Bool.and_self]
    · rfl
theorem split_D (l : List UInt8) : l = l.takeWhile isD ++ l.dropWhile isD := (List.takeWhile_append_dropWhile ..).symm

/-- A row of bytes whose last one is a digit. -/
def endD (l : List UInt8) : Prop := ∃ a c, l = a ++ [c] ∧ isD c = true
theorem endD_all {l : List UInt8} (h : allD l = true) (hne : l ≠ []) : endD l := by
  refine ⟨l.dropLast, l.getLast hne, (List.dropLast_concat_getLast hne).symm, ?_⟩
  exact List.all_eq_true.1 h _ (List.getLast_mem hne)
theorem endD_app {a b : List UInt8} (h : endD b) : endD (a ++ b) := by
  obtain ⟨x, c, e, hc⟩ := h
  exact ⟨a ++ x, c, by rw [e, List.append_assoc], hc⟩

theorem expo_ok {l : List UInt8} {e : Int} (h : expoF l = some e) : (∀ x ∈ l, chF x) ∧ (l = [] ∨ endD l) := by
  unfold expoF at h
  split at h
  · exact ⟨fun x hx => by simp at hx, .inl rfl⟩
  · rename_i c r
    split at h
    · rename_i hc
      have hcc : chF c := by rcases hc with rfl | rfl <;> simp [chF]
      split at h
      · split at h
        · rename_i hh
          obtain ⟨h1, h2, h3⟩ := hh
          refine ⟨fun x hx => ?_, .inr (endD_app (a := [c, 43]) (endD_all h2 h1))⟩
          rcases List.mem_cons.1 hx with rfl | hx
          · exact hcc
          · rcases List.mem_cons.1 hx with rfl | hx
            · simp [chF]
            · exact all_ch h2 x hx
        · simp at h
      · split at h
        · rename_i hh
          obtain ⟨h1, h2, h3⟩ := hh
          refine ⟨fun x hx => ?_, .inr (endD_app (a := [c, 45]) (endD_all h2 h1))⟩
          rcases List.mem_cons.1 hx with rfl | hx
          · exact hcc
          · rcases List.mem_cons.1 hx with rfl | hx
            · simp [chF]
            · exact all_ch h2 x hx
        · simp at h
      · split at h
        · rename_i hh
          obtain ⟨h1, h2, h3⟩ := hh
          refine ⟨fun x hx => ?_, .inr (endD_app (a := [c]) (endD_all h2 h1))⟩
          rcases List.mem_cons.1 hx with rfl | hx
          · exact hcc
          · exact all_ch h2 x hx
        · simp at h
    · simp at h

theorem fin_ok {m : Bool} {all rest : List UInt8} {f : Nat} (h : finF m all f rest ≠ none) : all ≠ [] ∧ (∀ x ∈ rest, chF x) ∧ (rest = [] ∨ endD rest) := by
  unfold finF at h
  split at h
  · rename_i e he
    split at h
    · rename_i hh; exact ⟨hh.1, expo_ok he⟩
    · simp at h
  · simp at h

theorem body_ok {m : Bool} {l : List UInt8} (h : bodyF m l ≠ none) : (∀ x ∈ l, chF x) ∧ endD l := by
  have hs := split_D l
  have ht := tw_all l
  unfold bodyF at h
  split at h
  · rename_i r hr
    split at h
    · simp at h
    · rename_i hne
      obtain ⟨h1, h2, h3⟩ := fin_ok h
      have hs2 := split_D r
      have ht2 := tw_all r
      rw [hr, hs2] at hs
      constructor
      · intro x hx
        rw [hs] at hx
        simp only [List.mem_append, List.mem_cons] at hx
        rcases hx with hx | rfl | hx | hx
        · exact all_ch ht x hx
        · simp [chF]
        · exact all_ch ht2 x hx
        · exact h2 x hx
      · rw [hs]
        refine endD_app ?_
        rw [show (46 : UInt8) :: (r.takeWhile isD ++ r.dropWhile isD) = ([46] ++ r.takeWhile isD) ++ r.dropWhile isD by simp]
        rcases h3 with h3 | h3
        · rw [h3, List.append_nil]; exact endD_app (endD_all ht2 hne)
        · exact endD_app h3
  · obtain ⟨h1, h2, h3⟩ := fin_ok h
    constructor
    · intro x hx
      rw [hs] at hx
      rcases List.mem_append.1 hx with hx | hx
      · exact all_ch ht x hx
      · exact h2 x hx
    · rw [hs]
      rcases h3 with h3 | h3
      · rw [h3, List.append_nil]; exact endD_all ht h1
      · exact endD_app h3

theorem float_ok {l : List UInt8} (h : floatF l ≠ none) : (∀ x ∈ l, chF x) ∧ endD l := by
  unfold floatF at h
  split at h
  · obtain ⟨h1, h2⟩ := body_ok h
    refine ⟨fun x hx => ?_, endD_app (a := [45]) h2⟩
    rcases List.mem_cons.1 hx with rfl | hx
    · simp [chF]
    · exact h1 x hx
  · exact body_ok h

/-! What is none. -/
theorem body_none {m : Bool} {c : UInt8} {r : List UInt8} (h1 : isD c = false) (h2 : c ≠ 46) : bodyF m (c :: r) = none := by
  have e1 : (c :: r).dropWhile isD = c :: r := by rw [List.dropWhile_cons, h1]; rfl
  have e2 : (c :: r).takeWhile isD = [] := by rw [List.takeWhile_cons, h1]; rfl
  unfold bodyF
  rw [e1, e2]
  split
  · rename_i h; simp only [List.cons.injEq] at h; exact absurd h.1 h2
  · unfold finF
    split
    · rw [if_neg (by simp)]
    · rfl

theorem float_plus (s : List UInt8) : floatF (43 :: s) = none := by
  unfold floatF
  split
  · rename_i h; simp at h
  · exact body_none (by decide) (by decide)

theorem float_twice (s : List UInt8) : floatF (45 :: 45 :: s) = none := by
  unfold floatF
  exact body_none (by decide) (by decide)

theorem float_end (s : List UInt8) : floatF (s ++ [46]) = none := by
  by_cases h : floatF (s ++ [46]) = none
  · exact h
  · obtain ⟨_, a, c, e, hc⟩ := float_ok h
    have := List.append_inj_right' e rfl
    simp only [List.cons.injEq, and_true] at this
    subst this
    exact absurd hc (by decide)

theorem float_strange {a b : List UInt8} {c : UInt8} (h : ¬ chF c) : floatF (a ++ [c] ++ b) = none := by
  by_cases h2 : floatF (a ++ [c] ++ b) = none
  · exact h2
  · exact absurd ((float_ok h2).1 c (by simp)) h

theorem float_neg {s : List UInt8} (h : s.head? ≠ some 45) : floatF (45 :: s) = (floatF s).map fun x => (true, x.2) := by
  have hs : floatF s = bodyF false s := by
    unfold floatF
    split
    · simp at h
    · rfl
  rw [hs]
  show bodyF true s = _
  unfold bodyF
  split
  · split
    · rfl
    · unfold finF
      split
      · split <;> rfl
      · rfl
  · unfold finF
    split
    · split <;> rfl
    · rfl

theorem float_neg_ok {s : List UInt8} (h : floatF s ≠ none) : floatF (45 :: s) ≠ none ↔ s.head? ≠ some 45 := by
  constructor
  · intro h1 h2
    cases s with
    | nil => simp at h2
    | cons c r =>
      simp only [List.head?_cons, Option.some.injEq] at h2
      subst h2
      exact h1 (float_twice r)
  · intro h2
    rw [float_neg h2]
    cases he : floatF s with
    | none => exact absurd he h
    | some x => simp

/-! Digits. -/
theorem tw_app {a b : List UInt8} (h : allD a = true) : (a ++ b).takeWhile isD = a ++ b.takeWhile isD := by
  induction a with
  | nil => rfl
  | cons x r ih =>
    simp only [allD, List.all_cons, Bool.and_eq_true] at h
    rw [List.cons_append, List.takeWhile_cons, h.1, if_pos rfl, ih h.2, List.cons_append]
theorem dw_app {a b : List UInt8} (h : allD a = true) : (a ++ b).dropWhile isD = b.dropWhile isD := by
  induction a with
  | nil => rfl
  | cons x r ih =>
    simp only [allD, List.all_cons, Bool.and_eq_true] at h
    rw [List.cons_append, List.dropWhile_cons, h.1, if_pos rfl, ih h.2]
theorem tw_nil {b : List UInt8} (h : b = [] ∨ ∃ c r, b = c :: r ∧ isD c = false) : b.takeWhile isD = [] ∧ b.dropWhile isD = b := by
  rcases h with rfl | ⟨c, r, rfl, h⟩
  · exact ⟨rfl, rfl⟩
  · rw [List.takeWhile_cons, List.dropWhile_cons, h]; exact ⟨rfl, rfl⟩

/-- Digits, a point and digits, and what stands behind. -/
theorem body_point {m : Bool} {a b r : List UInt8} (ha : allD a = true) (hb : allD b = true) (hne : b ≠ []) (hr : r = [] ∨ ∃ c q, r = c :: q ∧ isD c = false) : bodyF m (a ++ 46 :: (b ++ r)) = finF m (a ++ b) b.length r := by
  obtain ⟨r1, r2⟩ := tw_nil hr
  have n46 : (46 :: (b ++ r)).takeWhile isD = [] ∧ (46 :: (b ++ r)).dropWhile isD = 46 :: (b ++ r) := tw_nil (.inr ⟨46, _, rfl, by decide⟩)
  unfold bodyF
  rw [dw_app ha, tw_app ha, n46.1, n46.2, List.append_nil]
  simp only
  rw [tw_app hb, dw_app hb, r1, r2, List.append_nil, if_neg hne]

/-- Digits, and what stands behind. -/
theorem body_plain {m : Bool} {a r : List UInt8} (ha : allD a = true) (hr : r = [] ∨ ∃ c q, r = c :: q ∧ isD c = false ∧ c ≠ 46) : bodyF m (a ++ r) = finF m a 0 r := by
  have hr' : r = [] ∨ ∃ c q, r = c :: q ∧ isD c = false := by
    rcases hr with h | ⟨c, q, h, h2, _⟩
    · exact .inl h
    · exact .inr ⟨c, q, h, h2⟩
  obtain ⟨r1, r2⟩ := tw_nil hr'
  unfold bodyF
  rw [dw_app ha, tw_app ha, r1, r2, List.append_nil]
  split
  · rename_i q
    rcases hr with h | ⟨c, q2, h, _, h3⟩
    · simp at h
    · simp only [List.cons.injEq] at h
      exact absurd h.1.symm h3
  · rfl

def sgnT (minus : Bool) (l : List UInt8) : List UInt8 := if minus then 45 :: l else l
theorem float_sgn {m : Bool} {l : List UInt8} (h : l.head? ≠ some 45) : floatF (sgnT m l) = bodyF m l := by
  unfold sgnT
  cases m with
  | true => rfl
  | false =>
    simp only [Bool.false_eq_true, if_false]
    unfold floatF
    split
    · simp at h
    · rfl

/-! A number's digits, with noughts ahead. -/
def digG : Nat → Nat → List UInt8
  | 0, n => [UInt8.ofNat (48 + n % 10)]
  | f + 1, n => if n < 10 then [UInt8.ofNat (48 + n)] else digG f (n / 10) ++ [UInt8.ofNat (48 + n % 10)]
/-- Of a number below 10^19. -/
def digF (n : Nat) : List UInt8 := digG 20 n
def digZ (n z : Nat) : List UInt8 := List.replicate z 48 ++ digF n

theorem isD_ofNat {k : Nat} (h : k < 10) : isD (UInt8.ofNat (48 + k)) = true ∧ dV (UInt8.ofNat (48 + k)) = k := by
  have : ∀ k : Fin 10, isD (UInt8.ofNat (48 + k.val)) = true ∧ dV (UInt8.ofNat (48 + k.val)) = k.val := by decide
  exact this ⟨k, h⟩

theorem allD_app {a b : List UInt8} : allD (a ++ b) = (allD a && allD b) := by simp [allD]

theorem digG_ok : ∀ (f n : Nat), n < 10 ^ (f + 1) → allD (digG f n) = true ∧ decV (digG f n) = n ∧ digG f n ≠ [] ∧ ∀ k, n < 10 ^ (k + 1) → (digG f n).length ≤ k + 1
  | 0, n, h => by
    have hn : n < 10 := by simpa using h
    obtain ⟨h1, h2⟩ := isD_ofNat (k := n % 10) (by omega)
    refine ⟨by simp only [digG, allD, List.all_cons, List.all_nil, h1, Bool.and_true], ?_, by simp [digG], fun k _ => by simp [digG]⟩
    simp only [digG, decV, List.foldl_cons, List.foldl_nil, h2]; omega
  | f + 1, n, h => by
    unfold digG
    split
    · rename_i hn
      obtain ⟨h1, h2⟩ := isD_ofNat hn
      refine ⟨by simp only [allD, List.all_cons, List.all_nil, h1, Bool.and_true], ?_, by simp, fun k _ => by simp⟩
      simp only [decV, List.foldl_cons, List.foldl_nil, h2]; omega
    · rename_i hn
      obtain ⟨h1, h2⟩ := isD_ofNat (k := n % 10) (by omega)
      obtain ⟨i1, i2, i3, i4⟩ := digG_ok f (n / 10) (by rw [Nat.div_lt_iff_lt_mul (by omega), ← Nat.pow_succ]; exact h)
      refine ⟨by rw [allD_app, i1]; simp only [allD, List.all_cons, List.all_nil, h1, Bool.and_true], by rw [decV_snoc, i2, h2]; omega, by simp, fun k hk => ?_⟩
      rw [List.length_append, List.length_cons, List.length_nil]
      cases k with
      | zero => simp at hk; omega
      | succ k =>
        have := i4 k (by rw [Nat.div_lt_iff_lt_mul (by omega), ← Nat.pow_succ]; exact hk)
        omega

theorem decV_zeros (z : Nat) (l : List UInt8) : decV (List.replicate z 48 ++ l) = decV l := by
  induction z with
  | zero => rfl
  | succ z ih =>
    rw [List.replicate_succ, List.cons_append]
    exact ih

theorem digZ_ok {n : Nat} (z : Nat) (h : n < 10 ^ 20) : allD (digZ n z) = true ∧ decV (digZ n z) = n ∧ digZ n z ≠ [] ∧ (∀ k, n < 10 ^ (k + 1) → (digZ n z).length ≤ z + k + 1) := by
  obtain ⟨h1, h2, h3, h4⟩ := digG_ok 20 n (Nat.lt_of_lt_of_le h (Nat.pow_le_pow_right (by omega) (by omega)))
  unfold digZ digF
  refine ⟨?_, by rw [decV_zeros, h2], by simp [h3], fun k hk => ?_⟩
  · rw [allD_app, h1, Bool.and_true]
    unfold allD
    rw [List.all_eq_true]
    intro x hx
    rw [(List.mem_replicate.1 hx).2]
    decide
  · have := h4 k hk
    rw [List.length_append, List.length_replicate]; omega

/-! The exponent. -/
theorem expo_nil : expoF [] = some 0 := rfl
theorem expo_plain {d : List UInt8} (h1 : allD d = true) (h2 : d ≠ []) (h3 : d.length ≤ 4) : expoF (101 :: d) = some (decV d : Int) := by
  have hd : d.head? ≠ some 43 ∧ d.head? ≠ some 45 := by
    cases d with
    | nil => exact absurd rfl h2
    | cons c r =>
      simp only [allD, List.all_cons, Bool.and_eq_true] at h1
      simp only [List.head?_cons, ne_eq, Option.some.injEq]
      constructor <;> (rintro rfl; exact absurd h1.1 (by decide))
  unfold expoF
  simp only [true_or, if_true]
  split
  · exact absurd rfl hd.1
  · exact absurd rfl hd.2
  · rw [if_pos ⟨h2, h1, h3⟩]
theorem expo_minus {c : UInt8} (hc : c = 101 ∨ c = 69) {d : List UInt8} (h1 : allD d = true) (h2 : d ≠ []) (h3 : d.length ≤ 4) : expoF (c :: 45 :: d) = some (-(decV d : Int)) := by
  unfold expoF
  simp only [hc, if_true]
  rw [if_pos ⟨h2, h1, h3⟩]
theorem expo_plus {c : UInt8} (hc : c = 101 ∨ c = 69) {d : List UInt8} (h1 : allD d = true) (h2 : d ≠ []) (h3 : d.length ≤ 4) : expoF (c :: 43 :: d) = some (decV d : Int) := by
  unfold expoF
  simp only [hc, if_true]
  rw [if_pos ⟨h2, h1, h3⟩]

theorem head_D {l r : List UInt8} (h : allD l = true) (hne : l ≠ []) : (l ++ r).head? ≠ some 45 := by
  cases l with
  | nil => exact absurd rfl hne
  | cons c q =>
    simp only [allD, List.all_cons, Bool.and_eq_true] at h
    simp only [List.cons_append, List.head?_cons, ne_eq, Option.some.injEq]
    rintro rfl
    exact absurd h.1 (by decide)

/-- The three texts of one number: with a point, with an exponent, with both. -/
theorem float_point {m : Bool} {a b : List UInt8} (ha : allD a = true) (hb : allD b = true) (hne : b ≠ []) (hl : a.length + b.length ≤ 15) : floatF (sgnT m (a ++ 46 :: b)) = some (m, a ++ b, -(b.length : Int)) := by
  have hh : (a ++ 46 :: b).head? ≠ some 45 := by
    cases a with
    | nil => simp
    | cons c q => exact head_D (l := c :: q) ha (by simp)
  rw [float_sgn hh]
  have e := body_point (m := m) (r := []) ha hb hne (.inl rfl)
  rw [List.append_nil] at e
  rw [e]
  unfold finF
  rw [expo_nil]
  simp only
  rw [if_pos ⟨by simp [hne], by rw [List.length_append]; omega, by omega, by omega⟩]
  simp
theorem float_expo {m : Bool} {a d : List UInt8} (ha : allD a = true) (hne : a ≠ []) (hl : a.length ≤ 15) (hd : allD d = true) (hd2 : d ≠ []) (hd3 : d.length ≤ 4) (hv : decV d ≤ 22) : floatF (sgnT m (a ++ 101 :: 45 :: d)) = some (m, a, -(decV d : Int)) := by
  rw [float_sgn (head_D ha hne), body_plain ha (.inr ⟨101, _, rfl, by decide, by decide⟩)]
  unfold finF
  rw [expo_minus (.inl rfl) hd hd2 hd3]
  simp only
  rw [if_pos ⟨hne, hl, by omega, by omega⟩]
  simp
theorem float_expoP {m : Bool} {a d : List UInt8} (ha : allD a = true) (hne : a ≠ []) (hl : a.length ≤ 15) (hd : allD d = true) (hd2 : d ≠ []) (hd3 : d.length ≤ 4) (hv : decV d ≤ 22) : floatF (sgnT m (a ++ 101 :: d)) = some (m, a, (decV d : Int)) := by
  rw [float_sgn (head_D ha hne), body_plain ha (.inr ⟨101, _, rfl, by decide, by decide⟩)]
  unfold finF
  rw [expo_plain hd hd2 hd3]
  simp only
  rw [if_pos ⟨hne, hl, by omega, by omega⟩]
  simp
theorem float_both {m : Bool} {a b d : List UInt8} (ha : allD a = true) (hb : allD b = true) (hne : b ≠ []) (hl : a.length + b.length ≤ 15) (hd : allD d = true) (hd2 : d ≠ []) (hd3 : d.length ≤ 4) (hv : decV d = b.length) : floatF (sgnT m (a ++ 46 :: (b ++ 69 :: 43 :: d))) = some (m, a ++ b, 0) := by
  have hh : (a ++ 46 :: (b ++ 69 :: 43 :: d)).head? ≠ some 45 := by
    cases a with
    | nil => simp
    | cons c q => exact head_D (l := c :: q) ha (by simp)
  rw [float_sgn hh, body_point ha hb hne (.inr ⟨69, _, rfl, by decide⟩)]
  unfold finF
  rw [expo_plus (.inr rfl) hd hd2 hd3]
  simp only
  rw [if_pos ⟨by simp [hne], by rw [List.length_append]; omega, by omega, by omega⟩]
  simp only [Option.some.injEq, Prod.mk.injEq, true_and]
  omega
/-- Digits alone. -/
theorem float_whole {a : List UInt8} (ha : allD a = true) (hne : a ≠ []) : floatF a = if a.length ≤ 15 then some (false, a, 0) else none := by
  have e := float_sgn (m := false) (head_D (r := []) ha hne)
  have e2 := body_plain (m := false) (r := []) ha (.inl rfl)
  rw [List.append_nil] at e e2
  have e3 : sgnT false a = a := rfl
  rw [e3] at e
  rw [e, e2]
  unfold finF
  rw [expo_nil]
  simp only
  by_cases h : a.length ≤ 15
  · rw [if_pos ⟨hne, h, by omega, by omega⟩, if_pos h]; rfl
  · rw [if_neg (by omega), if_neg h]

/-! Whole numbers, as far as they go. -/
def maxN : Nat := 9223372036854775807
def satV (l : List UInt8) : Nat := min maxN (decV l)
theorem sat_step {v d : Nat} (hd : d ≤ 9) : min maxN (10 * v + d) = if min maxN v > (maxN - d) / 10 then maxN else 10 * min maxN v + d := by
  unfold maxN
  split <;> omega
end Go.Proofs.Ytigglgobiofalaa.Num
