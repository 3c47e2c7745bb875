/- Signs as bytes: the signs of a row of bytes, as the document tells them; plain lists. -/
import Derived.Test.YtfaffnemfndkfaaDoorTextE
import Derived.Lib.DecodeN
import Derived.Lib.DecodeNEq
import Derived.Lib.ValidLaws
namespace Go.Proofs.YtfaffnemfndkfaaDoor.U8
open Go Go.RowKit
set_option linter.unusedVariables false
set_option linter.unusedSimpArgs false

/-- Is a number a sign? -/
def okC (c : Nat) : Prop := c < 55296 ∨ (57344 ≤ c ∧ c ≤ 1114111)

/-- A sign of sz bytes whose second one lies between lo and hi: the sign, how many bytes it takes, is it one; or fffd for its longest beginning. -/
def stepG (n b0 b1 b2 b3 sz lo hi : Nat) : Nat × Nat × Bool :=
  if n < 2 ∨ b1 < lo ∨ hi < b1 then (65533, 1, false)
  else if sz ≤ 2 then (b0 % 32 * 64 + b1 % 64, 2, true)
  else if n < 3 ∨ b2 < 128 ∨ 191 < b2 then (65533, 2, false)
  else if sz ≤ 3 then (b0 % 16 * 4096 + b1 % 64 * 64 + b2 % 64, 3, true)
  else if n < 4 ∨ b3 < 128 ∨ 191 < b3 then (65533, 3, false)
  else (b0 % 8 * 262144 + b1 % 64 * 4096 + b2 % 64 * 64 + b3 % 64, 4, true)

def stepN (n b0 b1 b2 b3 : Nat) : Nat × Nat × Bool :=
  if Lib.firstT b0 = 240 then (b0, 1, true)
  else if Lib.firstT b0 = 241 then (65533, 1, false)
  else stepG n b0 b1 b2 b3 (Lib.firstT b0 % 8) (Lib.accLo (Lib.firstT b0 / 16)) (Lib.accHi (Lib.firstT b0 / 16))

/-- The sign that stands first in a row of bytes. -/
def nx (l : List UInt8) : Nat × Nat × Bool := stepN l.length (bN l 0) (bN l 1) (bN l 2) (bN l 3)

theorem firstT_cls (b : Nat) : (b < 128 ∧ Lib.firstT b = 240) ∨ (((128 ≤ b ∧ b < 194) ∨ 244 < b) ∧ Lib.firstT b = 241) ∨ (Lib.firstT b < 240 ∧ 194 ≤ b ∧ b ≤ 244) := by
  unfold Lib.firstT
  repeat' split
  all_goals omega

theorem stepG_slow (n b0 b1 b2 b3 sz lo hi : Nat) (hs : sz = 2 ∨ sz = 3 ∨ sz = 4) :
    Lib.slowN n b0 b1 b2 b3 sz lo hi = if (stepG n b0 b1 b2 b3 sz lo hi).2.2 = true then ((stepG n b0 b1 b2 b3 sz lo hi).1, (stepG n b0 b1 b2 b3 sz lo hi).2.1) else (65533, 1) := by
  unfold Lib.slowN stepG
  rcases hs with rfl | rfl | rfl <;> simp only [Nat.le_refl, Nat.reduceLeDiff, if_true, if_false] <;> repeat' split
  all_goals first | rfl | (exfalso; omega) | (simp_all <;> omega)

theorem firstT_sz {b : Nat} (h : Lib.firstT b < 240) : Lib.firstT b % 8 = 2 ∨ Lib.firstT b % 8 = 3 ∨ Lib.firstT b % 8 = 4 := by
  unfold Lib.firstT at h ⊢
  repeat' split
  all_goals first | omega | (simp_all <;> omega)

theorem stepN_a {n b0 b1 b2 b3 : Nat} (e : Lib.firstT b0 = 240) : stepN n b0 b1 b2 b3 = (b0, 1, true) := if_pos e
theorem stepN_b {n b0 b1 b2 b3 : Nat} (e : Lib.firstT b0 = 241) : stepN n b0 b1 b2 b3 = (65533, 1, false) := by
  unfold stepN; rw [if_neg (by omega), if_pos e]
theorem stepN_c {n b0 b1 b2 b3 : Nat} (e : Lib.firstT b0 < 240) : stepN n b0 b1 b2 b3 = stepG n b0 b1 b2 b3 (Lib.firstT b0 % 8) (Lib.accLo (Lib.firstT b0 / 16)) (Lib.accHi (Lib.firstT b0 / 16)) := by
  unfold stepN; rw [if_neg (by omega), if_neg (by omega)]

theorem step_decode (n b0 b1 b2 b3 : Nat) (hn : 1 ≤ n) (h0 : b0 < 256) (h1 : b1 < 256) (h2 : b2 < 256) (h3 : b3 < 256) :
    Lib.decodeN n b0 b1 b2 b3 = if (stepN n b0 b1 b2 b3).2.2 = true then ((stepN n b0 b1 b2 b3).1, (stepN n b0 b1 b2 b3).2.1) else (65533, 1) := by
  rcases firstT_cls b0 with ⟨c, e⟩ | ⟨c, e⟩ | ⟨e, c⟩
  · rw [stepN_a e, Lib.ascii_eq _ _ _ _ _ e]; rfl
  · rw [stepN_b e, Lib.bad_eq _ _ _ _ _ h0 e]; rfl
  · rw [stepN_c e, ← Lib.slow_eq n b0 b1 b2 b3 hn h1 h2 h3 e]
    exact stepG_slow _ _ _ _ _ _ _ _ (firstT_sz e)

/-- What the tables say of a first byte of more than one. -/
theorem firstT_tab {b0 : Nat} (e : Lib.firstT b0 < 240) : ∃ sz lo hi, Lib.firstT b0 % 8 = sz ∧ Lib.accLo (Lib.firstT b0 / 16) = lo ∧ Lib.accHi (Lib.firstT b0 / 16) = hi ∧ 128 ≤ lo ∧ hi ≤ 191 ∧ (sz = 2 ∧ 194 ≤ b0 ∧ b0 < 224 ∧ lo = 128 ∧ hi = 191 ∨ sz = 3 ∧ 224 ≤ b0 ∧ b0 < 240 ∧ (b0 = 224 → lo = 160) ∧ (b0 ≠ 224 → lo = 128) ∧ (b0 = 237 → hi = 159) ∧ (b0 ≠ 237 → hi = 191) ∨ sz = 4 ∧ 240 ≤ b0 ∧ b0 ≤ 244 ∧ (b0 = 240 → lo = 144) ∧ (b0 ≠ 240 → lo = 128) ∧ (b0 = 244 → hi = 143) ∧ (b0 ≠ 244 → hi = 191)) := by
  rcases Lib.firstT_low e with h | h | h | h | h | h | h
  · exact ⟨2, 128, 191, by rw [Lib.firstT_C2 h], by rw [Lib.firstT_C2 h]; rfl, by rw [Lib.firstT_C2 h]; rfl, by omega, by omega, by omega⟩
  · exact ⟨3, 160, 191, by rw [Lib.firstT_E0 h], by rw [Lib.firstT_E0 h]; rfl, by rw [Lib.firstT_E0 h]; rfl, by omega, by omega, by omega⟩
  · exact ⟨3, 128, 191, by rw [Lib.firstT_E1 h], by rw [Lib.firstT_E1 h]; rfl, by rw [Lib.firstT_E1 h]; rfl, by omega, by omega, by omega⟩
  · exact ⟨3, 128, 159, by rw [Lib.firstT_ED h], by rw [Lib.firstT_ED h]; rfl, by rw [Lib.firstT_ED h]; rfl, by omega, by omega, by omega⟩
  · exact ⟨4, 144, 191, by rw [Lib.firstT_F0 h], by rw [Lib.firstT_F0 h]; rfl, by rw [Lib.firstT_F0 h]; rfl, by omega, by omega, by omega⟩
  · exact ⟨4, 128, 191, by rw [Lib.firstT_F1 h], by rw [Lib.firstT_F1 h]; rfl, by rw [Lib.firstT_F1 h]; rfl, by omega, by omega, by omega⟩
  · exact ⟨4, 128, 143, by rw [Lib.firstT_F4 h], by rw [Lib.firstT_F4 h]; rfl, by rw [Lib.firstT_F4 h]; rfl, by omega, by omega, by omega⟩

theorem nx_decodeL {l : List UInt8} (h : l ≠ []) : Lib.decodeL l = if (nx l).2.2 = true then ((nx l).1, (nx l).2.1) else (65533, 1) := by
  rw [Lib.decodeL_N]
  exact step_decode _ _ _ _ _ (List.length_pos_iff.2 h) (bN_lt l 0) (bN_lt l 1) (bN_lt l 2) (bN_lt l 3)

/-- What the step is, in six ways. -/
theorem step_shape (n b0 b1 b2 b3 : Nat) (hn : 1 ≤ n) (h0 : b0 < 256) :
    (stepN n b0 b1 b2 b3 = (b0, 1, true) ∧ b0 < 128)
    ∨ (∃ c, stepN n b0 b1 b2 b3 = (c, 2, true) ∧ 2 ≤ n ∧ 128 ≤ c ∧ c < 2048 ∧ b0 = 192 + c / 64 ∧ b1 = 128 + c % 64)
    ∨ (∃ c, stepN n b0 b1 b2 b3 = (c, 3, true) ∧ 3 ≤ n ∧ 2048 ≤ c ∧ c < 65536 ∧ okC c ∧ b0 = 224 + c / 4096 ∧ b1 = 128 + c / 64 % 64 ∧ b2 = 128 + c % 64)
    ∨ (∃ c, stepN n b0 b1 b2 b3 = (c, 4, true) ∧ 4 ≤ n ∧ 65536 ≤ c ∧ c ≤ 1114111 ∧ b0 = 240 + c / 262144 ∧ b1 = 128 + c / 4096 % 64 ∧ b2 = 128 + c / 64 % 64 ∧ b3 = 128 + c % 64)
    ∨ (∃ k, stepN n b0 b1 b2 b3 = (65533, k, false) ∧ 1 ≤ k ∧ k ≤ n ∧ k ≤ 3 ∧ 128 ≤ b0 ∧ (2 ≤ k → 128 ≤ b1 ∧ b1 ≤ 191) ∧ (3 ≤ k → 128 ≤ b2 ∧ b2 ≤ 191)) := by
  rcases firstT_cls b0 with ⟨c, e⟩ | ⟨c, e⟩ | ⟨e, c⟩
  · rw [stepN_a e]; exact .inl ⟨rfl, c⟩
  · rw [stepN_b e]
    exact .inr (.inr (.inr (.inr ⟨1, rfl, by omega⟩)))
  · rw [stepN_c e]
    obtain ⟨sz, lo, hi, e1, e2, e3, hlo, hhi, hs⟩ := firstT_tab e
    rw [e1, e2, e3]
    refine .inr ?_
    clear e1 e2 e3 e
    unfold stepG okC
    split
    · exact .inr (.inr (.inr ⟨1, rfl, by omega⟩))
    · split
      · exact .inl ⟨_, rfl, by omega⟩
      · split
        · exact .inr (.inr (.inr ⟨2, rfl, by omega⟩))
        · split
          · refine .inr (.inl ⟨_, rfl, ?_⟩)
            have hs' : 224 ≤ b0 ∧ b0 < 240 ∧ (b0 = 224 → 160 ≤ b1) ∧ (b0 = 237 → b1 ≤ 159) := by omega
            clear hs
            omega
          · split
            · exact .inr (.inr (.inr ⟨3, rfl, by omega⟩))
            · refine .inr (.inr (.inl ⟨_, rfl, ?_⟩))
              have hs' : 240 ≤ b0 ∧ b0 ≤ 244 ∧ (b0 = 240 → 144 ≤ b1) ∧ (b0 = 244 → b1 ≤ 143) := by omega
              clear hs
              omega

theorem u8_of {x : UInt8} {n : Nat} (h : x.toNat = n) : x = UInt8.ofNat n := by
  subst h; simp
theorem toNat_of {n : Nat} (h : n < 256) : (UInt8.ofNat n).toNat = n := by
  simp only [UInt8.toNat_ofNat']; omega

theorem e1 {n : Nat} (h : n < 128) : encN n = [UInt8.ofNat n] := if_pos h
theorem e2 {n : Nat} (h : 128 ≤ n) (h2 : n < 2048) : encN n = [UInt8.ofNat (192 + n / 64), UInt8.ofNat (128 + n % 64)] := by
  unfold encN; rw [if_neg (by omega), if_pos h2]
theorem e3 {n : Nat} (h : 2048 ≤ n) (h2 : n < 65536) : encN n = [UInt8.ofNat (224 + n / 4096), UInt8.ofNat (128 + n / 64 % 64), UInt8.ofNat (128 + n % 64)] := by
  unfold encN; rw [if_neg (by omega), if_neg (by omega), if_pos h2]
theorem e4 {n : Nat} (h : 65536 ≤ n) : encN n = [UInt8.ofNat (240 + n / 262144), UInt8.ofNat (128 + n / 4096 % 64), UInt8.ofNat (128 + n / 64 % 64), UInt8.ofNat (128 + n % 64)] := by
  unfold encN; rw [if_neg (by omega), if_neg (by omega), if_neg (by omega)]

/-- The front of a row of bytes: a sign's bytes, or the longest beginning of some. -/
theorem nx_shape {l : List UInt8} (h : l ≠ []) :
    (∃ c, nx l = (c, (encN c).length, true) ∧ okC c ∧ l = encN c ++ l.drop (encN c).length)
    ∨ (∃ k, nx l = (65533, k, false) ∧ 1 ≤ k ∧ k ≤ l.length ∧ k ≤ 3 ∧ (∀ i, i < k → 128 ≤ bN l i) ∧ ∀ i, 0 < i → i < k → bN l i ≤ 191) := by
  have hn : 1 ≤ l.length := List.length_pos_iff.2 h
  unfold nx
  rcases step_shape l.length (bN l 0) (bN l 1) (bN l 2) (bN l 3) hn (bN_lt l 0) with ⟨e, c0⟩ | ⟨c, e, c0, c1, c2, c3, c4⟩ | ⟨c, e, c0, c1, c2, c3, c4, c5, c6⟩ | ⟨c, e, c0, c1, c2, c3, c4, c5, c6⟩ | ⟨k, e, c0, c1, c2, c3, c4, c5⟩
  · refine .inl ⟨bN l 0, ?_⟩
    rw [e1 c0]
    refine ⟨e, .inl (by omega), ?_⟩
    match l, h with
    | x :: r, _ => simp [bN]
  · refine .inl ⟨c, ?_⟩
    rw [e2 c1 c2]
    refine ⟨e, .inl (by omega), ?_⟩
    match l, c0 with
    | x :: y :: r, _ =>
      simp only [List.length_cons, List.length_nil, List.drop_succ_cons, List.drop_zero, List.cons_append, List.nil_append]
      rw [← u8_of (x := x) c3, ← u8_of (x := y) c4]
  · refine .inl ⟨c, ?_⟩
    rw [e3 c1 c2]
    refine ⟨e, c3, ?_⟩
    match l, c0 with
    | x :: y :: z :: r, _ =>
      simp only [List.length_cons, List.length_nil, List.drop_succ_cons, List.drop_zero, List.cons_append, List.nil_append]
      rw [← u8_of (x := x) c4, ← u8_of (x := y) c5, ← u8_of (x := z) c6]
  · refine .inl ⟨c, ?_⟩
    rw [e4 c1]
    refine ⟨e, .inr (by omega), ?_⟩
    match l, c0 with
    | x :: y :: z :: u :: r, _ =>
      simp only [List.length_cons, List.length_nil, List.drop_succ_cons, List.drop_zero, List.cons_append, List.nil_append]
      rw [← u8_of (x := x) c3, ← u8_of (x := y) c4, ← u8_of (x := z) c5, ← u8_of (x := u) c6]
  · refine .inr ⟨k, e, c0, c1, c2, fun i hi => ?_, fun i h0 hi => ?_⟩
    · have : i = 0 ∨ i = 1 ∨ i = 2 := by omega
      rcases this with rfl | rfl | rfl
      · exact c3
      · exact (c4 (by omega)).1
      · exact (c5 (by omega)).1
    · have : i = 1 ∨ i = 2 := by omega
      rcases this with rfl | rfl
      · exact (c4 (by omega)).2
      · exact (c5 (by omega)).2

theorem firstT_hi {b : Nat} (h : 194 ≤ b) (h2 : b ≤ 244) : Lib.firstT b < 240 := by
  rcases firstT_cls b with h | h | h <;> omega

/-- Behind a sign's bytes, whatever stands there. -/
theorem nx_enc {c : Nat} (h : okC c) (r : List UInt8) : nx (encN c ++ r) = (c, (encN c).length, true) := by
  unfold okC at h
  by_cases c1 : c < 128
  · rw [e1 c1]
    unfold nx
    have hb : bN ([UInt8.ofNat c] ++ r) 0 = c := toNat_of (n := c) (by omega)
    rw [hb, stepN_a (by rcases firstT_cls c with h | h | h <;> omega)]
    rfl
  by_cases c2 : c < 2048
  · rw [e2 (by omega) c2]
    unfold nx
    have h0 : bN ([UInt8.ofNat (192 + c / 64), UInt8.ofNat (128 + c % 64)] ++ r) 0 = 192 + c / 64 := toNat_of (by omega)
    have h1 : bN ([UInt8.ofNat (192 + c / 64), UInt8.ofNat (128 + c % 64)] ++ r) 1 = 128 + c % 64 := toNat_of (by omega)
    have hl : ([UInt8.ofNat (192 + c / 64), UInt8.ofNat (128 + c % 64)] ++ r).length = 2 + r.length := by simp; omega
    have e := firstT_hi (b := 192 + c / 64) (by omega) (by omega)
    obtain ⟨sz, lo, hi, k1, k2, k3, hlo, hhi, hs⟩ := firstT_tab e
    rw [h0, h1, hl, stepN_c e, k1, k2, k3]
    unfold stepG
    rw [if_neg (by omega), if_pos (by omega)]
    simp only [List.length_cons, List.length_nil, Prod.mk.injEq, and_true]
    omega
  by_cases c3 : c < 65536
  · rw [e3 (by omega) c3]
    unfold nx
    have h0 : bN ([UInt8.ofNat (224 + c / 4096), UInt8.ofNat (128 + c / 64 % 64), UInt8.ofNat (128 + c % 64)] ++ r) 0 = 224 + c / 4096 := toNat_of (by omega)
    have h1 : bN ([UInt8.ofNat (224 + c / 4096), UInt8.ofNat (128 + c / 64 % 64), UInt8.ofNat (128 + c % 64)] ++ r) 1 = 128 + c / 64 % 64 := toNat_of (by omega)
    have h2 : bN ([UInt8.ofNat (224 + c / 4096), UInt8.ofNat (128 + c / 64 % 64), UInt8.ofNat (128 + c % 64)] ++ r) 2 = 128 + c % 64 := toNat_of (by omega)
    have hl : ([UInt8.ofNat (224 + c / 4096), UInt8.ofNat (128 + c / 64 % 64), UInt8.ofNat (128 + c % 64)] ++ r).length = 3 + r.length := by simp; omega
    have e := firstT_hi (b := 224 + c / 4096) (by omega) (by omega)
    obtain ⟨sz, lo, hi, k1, k2, k3, hlo, hhi, hs⟩ := firstT_tab e
    rw [h0, h1, h2, hl, stepN_c e, k1, k2, k3]
    unfold stepG
    rw [if_neg (by omega), if_neg (by omega), if_neg (by omega), if_pos (by omega)]
    simp only [List.length_cons, List.length_nil, Prod.mk.injEq, and_true]
    omega
  · rw [e4 (by omega)]
    unfold nx
    have h0 : bN ([UInt8.ofNat (240 + c / 262144), UInt8.ofNat (128 + c / 4096 % 64), UInt8.ofNat (128 + c / 64 % 64), UInt8.ofNat (128 + c % 64)] ++ r) 0 = 240 + c / 262144 := toNat_of (by omega)
    have h1 : bN ([UInt8.ofNat (240 + c / 262144), UInt8.ofNat (128 + c / 4096 % 64), UInt8.ofNat (128 + c / 64 % 64), UInt8.ofNat (128 + c % 64)] ++ r) 1 = 128 + c / 4096 % 64 := toNat_of (by omega)
    have h2 : bN ([UInt8.ofNat (240 + c / 262144), UInt8.ofNat (128 + c / 4096 % 64), UInt8.ofNat (128 + c / 64 % 64), UInt8.ofNat (128 + c % 64)] ++ r) 2 = 128 + c / 64 % 64 := toNat_of (by omega)
    have h3 : bN ([UInt8.ofNat (240 + c / 262144), UInt8.ofNat (128 + c / 4096 % 64), UInt8.ofNat (128 + c / 64 % 64), UInt8.ofNat (128 + c % 64)] ++ r) 3 = 128 + c % 64 := toNat_of (by omega)
    have hl : ([UInt8.ofNat (240 + c / 262144), UInt8.ofNat (128 + c / 4096 % 64), UInt8.ofNat (128 + c / 64 % 64), UInt8.ofNat (128 + c % 64)] ++ r).length = 4 + r.length := by simp; omega
    have e := firstT_hi (b := 240 + c / 262144) (by omega) (by omega)
    obtain ⟨sz, lo, hi, k1, k2, k3, hlo, hhi, hs⟩ := firstT_tab e
    rw [h0, h1, h2, h3, hl, stepN_c e, k1, k2, k3]
    unfold stepG
    rw [if_neg (by omega), if_neg (by omega), if_neg (by omega), if_neg (by omega), if_neg (by omega)]
    simp only [List.length_cons, List.length_nil, Prod.mk.injEq, and_true]
    omega

theorem enc_len (c : Nat) : 1 ≤ (encN c).length ∧ (encN c).length ≤ 4 := by
  unfold encN
  repeat' split
  all_goals simp

/-- The signs of a row of bytes, one behind the other. -/
def sgs : Nat → List UInt8 → List Nat
  | 0, _ => []
  | f + 1, l => if l = [] then [] else (nx l).1 :: sgs f (l.drop (nx l).2.1)
def signsN (l : List UInt8) : List Nat := sgs l.length l

theorem nx_pos {l : List UInt8} (h : l ≠ []) : 1 ≤ (nx l).2.1 ∧ (nx l).2.1 ≤ l.length ∧ okC (nx l).1 := by
  rcases nx_shape h with ⟨c, e, hc, hl⟩ | ⟨k, e, h1, h2, _⟩
  · rw [e]
    refine ⟨(enc_len c).1, ?_, hc⟩
    have := congrArg List.length hl
    rw [List.length_append] at this
    simp only; omega
  · rw [e]; exact ⟨h1, h2, .inr (by omega)⟩

theorem sgs_nil : ∀ f, sgs f [] = []
  | 0 => rfl
  | _ + 1 => rfl
theorem sgs_fuel : ∀ (f g : Nat) (l : List UInt8), l.length ≤ f → l.length ≤ g → sgs f l = sgs g l
  | 0, g, l, h, _ => by
    have : l = [] := List.eq_nil_of_length_eq_zero (by omega)
    subst this; rw [sgs_nil, sgs_nil]
  | f + 1, 0, l, _, h => by
    have : l = [] := List.eq_nil_of_length_eq_zero (by omega)
    subst this; rw [sgs_nil, sgs_nil]
  | f + 1, g + 1, l, h, h2 => by
    unfold sgs
    split
    · rfl
    · rename_i hne
      have hp := nx_pos hne
      rw [sgs_fuel f g _ (by rw [List.length_drop]; omega) (by rw [List.length_drop]; omega)]

theorem signsN_nil : signsN [] = [] := rfl
theorem signsN_step {l : List UInt8} (h : l ≠ []) : signsN l = (nx l).1 :: signsN (l.drop (nx l).2.1) := by
  have hp := nx_pos h
  unfold signsN
  obtain ⟨f, hf⟩ : ∃ f, l.length = f + 1 := ⟨l.length - 1, by omega⟩
  rw [hf]
  conv => lhs; unfold sgs
  rw [if_neg h, sgs_fuel f _ _ (by rw [List.length_drop]; omega) (Nat.le_refl _)]

/-- By the front, over and over. -/
theorem by_front {p : List UInt8 → Prop} (h0 : p []) (h1 : ∀ l, l ≠ [] → p (l.drop (nx l).2.1) → p l) : ∀ l, p l := by
  have key : ∀ n l, l.length ≤ n → p l := by
    intro n
    induction n with
    | zero => intro l h; have : l = [] := List.eq_nil_of_length_eq_zero (by omega); subst this; exact h0
    | succ n ih =>
      intro l h
      by_cases hne : l = []
      · subst hne; exact h0
      · have hp := nx_pos hne
        exact h1 l hne (ih _ (by rw [List.length_drop]; omega))
  exact fun l => key l.length l (Nat.le_refl _)

def join (cs : List Nat) : List UInt8 := cs.flatMap encN

theorem signs_ok (l : List UInt8) : ∀ c ∈ signsN l, okC c := by
  refine by_front (p := fun l => ∀ c ∈ signsN l, okC c) (by simp [signsN_nil]) (fun l hne ih => ?_) l
  rw [signsN_step hne]
  intro c hc
  rcases List.mem_cons.1 hc with rfl | hc
  · exact (nx_pos hne).2.2
  · exact ih c hc

theorem enc_ne (c : Nat) (r : List UInt8) : encN c ++ r ≠ [] := by
  intro h
  have h1 := congrArg List.length h
  have h2 := (enc_len c).1
  simp only [List.length_append, List.length_nil] at h1
  omega

theorem signs_enc {c : Nat} (h : okC c) (r : List UInt8) : signsN (encN c ++ r) = c :: signsN r := by
  rw [signsN_step (enc_ne c r), nx_enc h r]
  simp

theorem signs_app : ∀ (cs : List Nat) (_ : ∀ c ∈ cs, okC c) (r : List UInt8), signsN (join cs ++ r) = cs ++ signsN r
  | [], _, r => rfl
  | c :: cs, h, r => by
    have : join (c :: cs) ++ r = encN c ++ (join cs ++ r) := by simp [join]
    rw [this, signs_enc (h c (.head _)), signs_app cs (fun x hx => h x (.tail _ hx)) r]
    rfl

theorem signs_join (cs : List Nat) (h : ∀ c ∈ cs, okC c) : signsN (join cs) = cs := by
  have := signs_app cs h []
  simpa [signsN_nil] using this

theorem join_app (a b : List Nat) : join (a ++ b) = join a ++ join b := by simp [join]
theorem join_cons (c : Nat) (b : List Nat) : join (c :: b) = encN c ++ join b := by simp [join]

/-- Decoded: the bytes of the signs. -/
def fixF (l : List UInt8) : List UInt8 := join (signsN l)

theorem fix_app (cs : List Nat) (h : ∀ c ∈ cs, okC c) (r : List UInt8) : fixF (join cs ++ r) = join cs ++ fixF r := by
  unfold fixF
  rw [signs_app cs h, join_app]
theorem fix_join (cs : List Nat) (h : ∀ c ∈ cs, okC c) : fixF (join cs) = join cs := by
  unfold fixF
  rw [signs_join cs h]
theorem fix_fix (l : List UInt8) : fixF (fixF l) = fixF l := fix_join _ (signs_ok l)

theorem enc3_len : (encN 65533).length = 3 := rfl

theorem fix_len (l : List UInt8) : (fixF l).length ≤ 3 * l.length := by
  refine by_front (p := fun l => (fixF l).length ≤ 3 * l.length) (by simp [fixF, signsN_nil, join]) (fun l hne ih => ?_) l
  unfold fixF at *
  rw [signsN_step hne, join_cons, List.length_append]
  rw [List.length_drop] at ih
  rcases nx_shape hne with ⟨c, e, hc, hl⟩ | ⟨k, e, h1, h2, _⟩
  · have hp := nx_pos hne
    rw [e] at ih hp ⊢
    simp only at *
    omega
  · rw [e] at ih ⊢
    simp only [enc3_len] at *
    omega

theorem signs_len (l : List UInt8) : (signsN l).length ≤ l.length := by
  refine by_front (p := fun l => (signsN l).length ≤ l.length) (by simp [signsN_nil]) (fun l hne ih => ?_) l
  rw [signsN_step hne, List.length_cons]
  have hp := nx_pos hne
  rw [List.length_drop] at ih
  omega

/-- Right, if each front is a sign. -/
theorem valid_iff (l : List UInt8) : Lib.validD l = true ↔ fixF l = l := by
  constructor
  · refine by_front (p := fun l => Lib.validD l = true → fixF l = l) (fun _ => rfl) (fun l hne ih hv => ?_) l
    rw [Lib.validD_step l hne, nx_decodeL hne] at hv
    unfold fixF at *
    rw [signsN_step hne, join_cons]
    rcases nx_shape hne with ⟨c, e, hc, hl⟩ | ⟨k, e, h1, h2, _⟩
    · rw [e] at hv ih ⊢
      simp only [if_true] at hv ih ⊢
      split at hv
      · simp at hv
      · rw [ih hv]; exact hl.symm
    · rw [e] at hv
      simp at hv
  · intro h
    rw [← h]
    unfold fixF
    have key : ∀ cs : List Nat, (∀ c ∈ cs, okC c) → Lib.validD (join cs) = true := by
      intro cs
      induction cs with
      | nil => intro _; rfl
      | cons c cs ih =>
        intro hc
        rw [join_cons]
        have hn := nx_enc (hc c (.head _)) (join cs)
        have hne : encN c ++ join cs ≠ [] := enc_ne c _
        rw [Lib.validD_step _ hne, nx_decodeL hne, hn]
        simp only [if_true]
        rw [if_neg]
        · rw [List.drop_left]
          exact ih fun x hx => hc x (.tail _ hx)
        · rintro ⟨rfl, h⟩
          rw [enc3_len] at h
          omega
    exact key _ (signs_ok l)

/-- No byte that stands first here goes on with a sign's. -/
def fresh (Y : List UInt8) : Prop := Y = [] ∨ bN Y 0 < 128 ∨ 191 < bN Y 0

theorem step_more {n n' b0 b1 b2 b3 c1 c2 c3 k : Nat} (hn : n ≤ n') (h1 : 1 < n → c1 = b1) (h2 : 2 < n → c2 = b2) (h3 : 3 < n → c3 = b3)
    (g1 : n = 1 → n' < 2 ∨ c1 < 128 ∨ 191 < c1) (g2 : n = 2 → n' < 3 ∨ c2 < 128 ∨ 191 < c2) (g3 : n = 3 → n' < 4 ∨ c3 < 128 ∨ 191 < c3) (h0 : 1 ≤ n)
    (h : stepN n b0 b1 b2 b3 = (65533, k, false)) : stepN n' b0 c1 c2 c3 = (65533, k, false) := by
  rcases firstT_cls b0 with ⟨c, e⟩ | ⟨c, e⟩ | ⟨e, c⟩
  · rw [stepN_a e] at h; simp at h
  · rw [stepN_b e] at h ⊢; exact h
  · rw [stepN_c e] at h ⊢
    obtain ⟨sz, lo, hi, e1, e2, e3, hlo, hhi, hs⟩ := firstT_tab e
    rw [e1, e2, e3] at h ⊢
    clear e1 e2 e3 e hs
    unfold stepG at h ⊢
    by_cases q1 : n < 2 ∨ b1 < lo ∨ hi < b1
    · rw [if_pos q1] at h
      rw [if_pos (by omega)]; exact h
    · rw [if_neg q1] at h
      rw [if_neg (by omega)]
      have : c1 = b1 := by omega
      subst this
      by_cases q2 : sz ≤ 2
      · rw [if_pos q2] at h; simp at h
      · rw [if_neg q2] at h ⊢
        by_cases q3 : n < 3 ∨ b2 < 128 ∨ 191 < b2
        · rw [if_pos q3] at h
          rw [if_pos (by omega)]; exact h
        · rw [if_neg q3] at h
          rw [if_neg (by omega)]
          by_cases q4 : sz ≤ 3
          · rw [if_pos q4] at h; simp at h
          · rw [if_neg q4] at h ⊢
            by_cases q5 : n < 4 ∨ b3 < 128 ∨ 191 < b3
            · rw [if_pos q5] at h
              rw [if_pos (by omega)]; exact h
            · rw [if_neg q5] at h; simp at h

theorem bN_lt_app {a b : List UInt8} {i : Nat} (h : i < a.length) : bN (a ++ b) i = bN a i := by
  simp only [bN, List.getD, List.getElem?_append_left h]
theorem bN_ge_app {a b : List UInt8} {i : Nat} (h : a.length ≤ i) : bN (a ++ b) i = bN b (i - a.length) := by
  simp only [bN, List.getD, List.getElem?_append_right h]

theorem nx_app {b Y : List UInt8} (hne : b ≠ []) (hY : fresh Y) : nx (b ++ Y) = nx b := by
  rcases nx_shape hne with ⟨c, e, hc, hl⟩ | ⟨k, e, h1, h2, _⟩
  · rw [e, hl, List.append_assoc]; exact nx_enc hc _
  · rw [e]
    have hn : 1 ≤ b.length := List.length_pos_iff.2 hne
    unfold nx at e ⊢
    rw [bN_lt_app (by omega : 0 < b.length), List.length_append]
    have g : ∀ i, b.length = i → b.length + Y.length < i + 1 ∨ bN (b ++ Y) i < 128 ∨ 191 < bN (b ++ Y) i := by
      intro i hi
      rw [bN_ge_app (by omega), hi, Nat.sub_self]
      rcases hY with rfl | h
      · left; simp
      · exact .inr h
    exact step_more (by omega) (fun h => bN_lt_app h) (fun h => bN_lt_app h) (fun h => bN_lt_app h) (g 1) (g 2) (g 3) hn e

/-- A piece, and what stands behind it, if this begins afresh. -/
theorem fix_split {b Y : List UInt8} (hY : fresh Y) : fixF (b ++ Y) = fixF b ++ fixF Y := by
  refine by_front (p := fun b => fixF (b ++ Y) = fixF b ++ fixF Y) rfl (fun l hne ih => ?_) b
  unfold fixF at *
  have hne2 : l ++ Y ≠ [] := by simp [hne]
  have hp := nx_pos hne
  rw [signsN_step hne2, signsN_step hne, nx_app hne hY, join_cons, join_cons, List.append_assoc, ← ih, List.drop_append_of_le_length hp.2.1]

theorem fresh_join (cs : List Nat) (h : ∀ c ∈ cs, okC c) : fresh (join cs) := by
  cases cs with
  | nil => exact .inl rfl
  | cons c cs =>
    refine .inr ?_
    rw [join_cons, bN_lt_app (enc_len c).1]
    have hc := h c (.head _)
    unfold okC at hc
    unfold encN
    repeat' split
    · left; rw [show bN [UInt8.ofNat c] 0 = c from toNat_of (by omega)]; omega
    · right; show 191 < (UInt8.ofNat (192 + c / 64)).toNat; rw [toNat_of (by omega)]; omega
    · right; show 191 < (UInt8.ofNat (224 + c / 4096)).toNat; rw [toNat_of (by omega)]; omega
    · right; show 191 < (UInt8.ofNat (240 + c / 262144)).toNat; rw [toNat_of (by omega)]; omega

/-! Bytes below 128. -/
theorem enc_byte {x : UInt8} (h : x.toNat < 128) : encN x.toNat = [x] := by rw [e1 h]; simp
theorem plain_join : ∀ (l : List UInt8), (∀ x ∈ l, x.toNat < 128) → join (l.map UInt8.toNat) = l
  | [], _ => rfl
  | x :: r, h => by
    rw [List.map_cons, join_cons, enc_byte (h x (.head _)), plain_join r fun y hy => h y (.tail _ hy)]
    rfl
theorem plain_ok (l : List UInt8) (h : ∀ x ∈ l, x.toNat < 128) : ∀ c ∈ l.map UInt8.toNat, okC c := by
  intro c hc
  obtain ⟨x, hx, rfl⟩ := List.mem_map.1 hc
  have := h x hx
  exact .inl (by omega)
theorem plain_fix {l : List UInt8} (h : ∀ x ∈ l, x.toNat < 128) : fixF l = l := by
  have := fix_join _ (plain_ok l h)
  rwa [plain_join l h] at this
theorem plain_fresh {l : List UInt8} (h : ∀ x ∈ l, x.toNat < 128) : fresh l := by
  have := fresh_join _ (plain_ok l h)
  rwa [plain_join l h] at this

/-- A byte that begins no sign. -/
theorem nx_none {c : UInt8} {r : List UInt8} (h : (128 ≤ c.toNat ∧ c.toNat < 194) ∨ 244 < c.toNat) : nx (c :: r) = (65533, 1, false) := by
  unfold nx
  refine stepN_b ?_
  show Lib.firstT c.toNat = 241
  rcases firstT_cls c.toNat with ⟨c1, e⟩ | ⟨c1, e⟩ | ⟨e, c1⟩ <;> omega

theorem nx_lone {c : UInt8} {r : List UInt8} (h : 128 ≤ c.toNat) (hr : fresh r) : nx (c :: r) = (65533, 1, false) := by
  have e : nx ([c] ++ r) = nx [c] := nx_app (by simp) hr
  rw [show c :: r = [c] ++ r from rfl, e]
  rcases nx_shape (l := [c]) (by simp) with ⟨c', e, hc, hl⟩ | ⟨k, e, h1, h2, _⟩
  · have hlen := congrArg List.length hl
    rw [List.length_append] at hlen
    have hge := enc_len c'
    simp only [List.length_cons, List.length_nil] at hlen
    have h1 : (encN c').length = 1 := by omega
    have hd : List.drop (encN c').length [c] = [] := by rw [h1]; rfl
    rw [hd, List.append_nil] at hl
    exfalso
    unfold encN at hl h1
    split at hl
    · simp only [List.cons.injEq, and_true] at hl
      rw [hl, toNat_of (by omega)] at h
      omega
    · repeat' split at h1
      all_goals first | (simp at h1; done) | omega
  · simp only [List.length_cons, List.length_nil] at h2
    have : k = 1 := by omega
    subst this; exact e

theorem fix_lone {c : UInt8} {r : List UInt8} (h : 128 ≤ c.toNat) (hr : fresh r) : fixF (c :: r) = encN 65533 ++ fixF r := by
  unfold fixF
  rw [signsN_step (by simp), nx_lone h hr]
  rfl
theorem fix_none {c : UInt8} {r : List UInt8} (h : (128 ≤ c.toNat ∧ c.toNat < 194) ∨ 244 < c.toNat) : fixF (c :: r) = encN 65533 ++ fixF r := by
  unfold fixF
  rw [signsN_step (by simp), nx_none h]
  rfl

/-- Bytes below 128 among others. -/
def lowF (l : List UInt8) : List UInt8 := l.filter fun x => x.toNat < 128
theorem low_app (a b : List UInt8) : lowF (a ++ b) = lowF a ++ lowF b := List.filter_append ..
theorem low_none {l : List UInt8} (h : ∀ i, i < l.length → 128 ≤ bN l i) : lowF l = [] := by
  unfold lowF
  rw [List.filter_eq_nil_iff]
  intro x hx
  obtain ⟨i, hi, rfl⟩ := List.getElem_of_mem hx
  have := h i hi
  unfold bN at this
  simp only [List.getD, List.getElem?_eq_getElem hi, Option.getD_some] at this
  simp only [decide_eq_true_eq]; omega
theorem low_enc (c : Nat) (h : okC c) : lowF (encN c) = if c < 128 then [UInt8.ofNat c] else [] := by
  unfold okC at h
  unfold encN lowF
  by_cases h1 : c < 128
  · rw [if_pos h1, if_pos h1, List.filter_cons, toNat_of (by omega), if_pos (by simpa using h1), List.filter_nil]
  rw [if_neg h1, if_neg h1]
  rw [List.filter_eq_nil_iff]
  repeat' split
  all_goals intro x hx
  all_goals simp only [List.mem_cons, List.not_mem_nil, or_false] at hx
  · rcases hx with rfl | rfl <;> (rw [toNat_of (by omega)]; simp; try omega)
  · rcases hx with rfl | rfl | rfl <;> (rw [toNat_of (by omega)]; simp; try omega)
  · rcases hx with rfl | rfl | rfl | rfl <;> (rw [toNat_of (by omega)]; simp; try omega)
def lowS (cs : List Nat) : List UInt8 := (cs.filter fun c => c < 128).map UInt8.ofNat

theorem low_step {l : List UInt8} (hne : l ≠ []) : lowF l = (if (nx l).1 < 128 then [UInt8.ofNat (nx l).1] else []) ++ lowF (l.drop (nx l).2.1) := by
  rcases nx_shape hne with ⟨c, e, hc, hl⟩ | ⟨k, e, h1, h2, h3, h4, _⟩
  · rw [e]
    simp only
    rw [← low_enc c hc, ← low_app, ← hl]
  · rw [e]
    simp only
    rw [if_neg (by omega), List.nil_append]
    conv => lhs; rw [← List.take_append_drop k l, low_app]
    rw [low_none (l := l.take k), List.nil_append]
    intro i hi
    rw [List.length_take] at hi
    have := h4 i (by omega)
    unfold bN at this ⊢
    simp only [List.getD, List.getElem?_take, if_pos (by omega : i < k)] at this ⊢
    exact this

theorem low_signs (l : List UInt8) : lowF l = lowS (signsN l) := by
  refine by_front (p := fun l => lowF l = lowS (signsN l)) rfl (fun l hne ih => ?_) l
  rw [signsN_step hne, low_step hne, ih]
  unfold lowS
  rw [List.filter_cons]
  by_cases h : (nx l).1 < 128
  · simp [h]
  · simp [h]

theorem low_fix (l : List UInt8) : lowF (fixF l) = lowF l := by
  rw [low_signs (fixF l), low_signs l]
  unfold fixF
  rw [signs_join _ (signs_ok l)]

end Go.Proofs.YtfaffnemfndkfaaDoor.U8
