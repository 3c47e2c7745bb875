/- The laws of references: a number's digits, and what is read of them. -/
import Derived.Test.YtoikhiijgdkciaaDoorEntH
namespace Go.Proofs.YtoikhiijgdkciaaDoor
open Go.RowKit Ent
set_option linter.unusedVariables false
set_option linter.unusedSimpArgs false

def hexL : List UInt8 := [48, 49, 50, 51, 52, 53, 54, 55, 56, 57, 97, 98, 99, 100, 101, 102]
def hexC (d : Nat) : UInt8 := hexL.getD d 0
def digB (b : Nat) : Nat → Nat → List UInt8
  | 0, n => [hexC (n % b)]
  | f + 1, n => if n < b then [hexC n] else digB b f (n / b) ++ [hexC (n % b)]
def digF (b n : Nat) : List UInt8 := digB b 24 n

theorem digB_succ (b f n : Nat) : digB b (f + 1) n = if n < b then [hexC n] else digB b f (n / b) ++ [hexC (n % b)] := rfl
theorem div_lt2 {b n m : Nat} (hb : 2 ≤ b) (h : n < 2 * m) : n / b < m := by
  rw [Nat.div_lt_iff_lt_mul (by omega)]
  exact Nat.lt_of_lt_of_le h (by rw [Nat.mul_comm]; exact Nat.mul_le_mul_left _ hb)
theorem digB_more {b : Nat} (hb : 2 ≤ b) : ∀ (f n : Nat), n < 2 ^ f → digB b (f + 1) n = digB b f n
  | 0, n, h => by
    have hn : n = 0 := by simpa using h
    subst hn
    rw [digB_succ, if_pos (by omega)]
    rfl
  | f + 1, n, h => by
    rw [digB_succ b (f + 1) n, digB_succ b f n]
    by_cases hn : n < b
    · rw [if_pos hn, if_pos hn]
    · rw [if_neg hn, if_neg hn, digB_more hb f (n / b) (div_lt2 hb (by rw [Nat.mul_comm, ← Nat.pow_succ]; exact h))]
theorem digF_step {b n : Nat} (hb : 2 ≤ b) (h : n < 2 ^ 24) : digF b n = if n < b then [hexC n] else digF b (n / b) ++ [hexC (n % b)] := by
  unfold digF
  rw [digB]
  split
  · rfl
  · rw [digB_more hb 23 (n / b) (div_lt2 hb (by exact h))]
theorem digB_ne (b : Nat) : ∀ f n, digB b f n ≠ []
  | 0, n => by simp [digB]
  | f + 1, n => by rw [digB_succ]; split <;> simp
theorem digB_len (b : Nat) : ∀ f n, (digB b f n).length ≤ f + 1
  | 0, n => by simp [digB]
  | f + 1, n => by
    rw [digB_succ]
    split
    · simp
    · rw [List.length_append, List.length_singleton]
      have := digB_len b f (n / b)
      omega
theorem digF_len (b n : Nat) : (digF b n).length ≤ 25 ∧ digF b n ≠ [] := ⟨digB_len b 24 n, digB_ne b 24 n⟩

/-! The law's own digits. -/
def nuS (n b z : Int) (out : List UInt8) : St := ⟨frame 38 [(0, .c (.int .i64 n)), (1, .c (.int .i64 b)), (2, .c (.int .i64 z)), (7, .c (str hexL)), (8, .c (str out))], []⟩
def nuT (z i : Int) (out : List UInt8) : St := ⟨frame 38 [(2, .c (.int .i64 z)), (8, .c (str out)), (9, .c (.int .i64 i))], []⟩

theorem nurA_1 (n z q r : Int) (out u : List UInt8) (x : UInt8) : roundOut (⟨[], [0, 1, 2, 7, 8], []⟩) (aCode Tryd.prog cl0 ⟨true, bs [(11, true)] ++ ([(19, ⟨.c (.int .i64 r), none⟩), (22, ⟨.c (.int .i64 r), none⟩), (24, ⟨.c (str [x]), none⟩), (29, ⟨.c (.int .i64 q), none⟩)])⟩ (lpBy ([])) 60 (lbody Tryd.prog 15 3) (nuS n 10 z out)) = some (.normal, nuS q 10 z ([x] ++ out), [((decide (n > (0 : Int)) : Bool)) = (true),
 ((n.tmod (10 : Int) : Int)) = (r),
 ((n.tmod (10 : Int) : Int)) = (r),
 ((IntKind.i64.min : Int) ≤ (r + (1 : Int))),
 ((r + (1 : Int) : Int) ≤ (IntKind.i64.max)),
 (((0 : Int) : Int) ≤ (r)),
 ((r : Int) ≤ (r + (1 : Int))),
 ((r + (1 : Int) : Int) ≤ ((↑(16 : Nat) : Int))),
 ((List.drop r.toNat (List.take (r + (1 : Int)).toNat hexL) : List UInt8)) = ([x]),
 (((1 : Nat) + out.length : Nat) ≤ ((9223372036854775807 : Nat))),
 ((IntKind.i64.wrap (n.tdiv (10 : Int)) : Int)) = (q)]) := by kernel_rfl

theorem nurA_2 (n z q r : Int) (out u : List UInt8) (x : UInt8) : roundOut (⟨[], [0, 1, 2, 7, 8], []⟩) (aCode Tryd.prog cl0 ⟨true, bs [(11, false), (14, true)] ++ ([(19, ⟨.c (.int .i64 r), none⟩), (22, ⟨.c (.int .i64 r), none⟩), (24, ⟨.c (str [x]), none⟩), (29, ⟨.c (.int .i64 q), none⟩)])⟩ (lpBy ([])) 60 (lbody Tryd.prog 15 3) (nuS n 10 z out)) = some (.normal, nuS q 10 z ([x] ++ out), [((decide (n > (0 : Int)) : Bool)) = (false),
 ((out == [] : Bool)) = (true),
 ((n.tmod (10 : Int) : Int)) = (r),
 ((n.tmod (10 : Int) : Int)) = (r),
 ((IntKind.i64.min : Int) ≤ (r + (1 : Int))),
 ((r + (1 : Int) : Int) ≤ (IntKind.i64.max)),
 (((0 : Int) : Int) ≤ (r)),
 ((r : Int) ≤ (r + (1 : Int))),
 ((r + (1 : Int) : Int) ≤ ((↑(16 : Nat) : Int))),
 ((List.drop r.toNat (List.take (r + (1 : Int)).toNat hexL) : List UInt8)) = ([x]),
 (((1 : Nat) + out.length : Nat) ≤ ((9223372036854775807 : Nat))),
 ((IntKind.i64.wrap (n.tdiv (10 : Int)) : Int)) = (q)]) := by kernel_rfl

theorem nurA_3 (n z q r : Int) (out u : List UInt8) (x : UInt8) : roundOut (⟨[], [0, 1, 2, 7, 8], []⟩) (aCode Tryd.prog cl0 ⟨true, bs [(11, false), (14, false)] ++ ([(19, ⟨.c (.int .i64 r), none⟩), (22, ⟨.c (.int .i64 r), none⟩), (24, ⟨.c (str [x]), none⟩), (29, ⟨.c (.int .i64 q), none⟩)])⟩ (lpBy ([])) 60 (lbody Tryd.prog 15 3) (nuS n 10 z out)) = some (.exit 0, nuS n 10 z out, [((decide (n > (0 : Int)) : Bool)) = (false),
 ((out == [] : Bool)) = (false)]) := by kernel_rfl


theorem nurB_1 (n z q r : Int) (out u : List UInt8) (x : UInt8) : roundOut (⟨[], [0, 1, 2, 7, 8], []⟩) (aCode Tryd.prog cl0 ⟨true, bs [(11, true)] ++ ([(19, ⟨.c (.int .i64 r), none⟩), (22, ⟨.c (.int .i64 r), none⟩), (24, ⟨.c (str [x]), none⟩), (29, ⟨.c (.int .i64 q), none⟩)])⟩ (lpBy ([])) 60 (lbody Tryd.prog 15 3) (nuS n 16 z out)) = some (.normal, nuS q 16 z ([x] ++ out), [((decide (n > (0 : Int)) : Bool)) = (true),
 ((n.tmod (16 : Int) : Int)) = (r),
 ((n.tmod (16 : Int) : Int)) = (r),
 ((IntKind.i64.min : Int) ≤ (r + (1 : Int))),
 ((r + (1 : Int) : Int) ≤ (IntKind.i64.max)),
 (((0 : Int) : Int) ≤ (r)),
 ((r : Int) ≤ (r + (1 : Int))),
 ((r + (1 : Int) : Int) ≤ ((↑(16 : Nat) : Int))),
 ((List.drop r.toNat (List.take (r + (1 : Int)).toNat hexL) : List UInt8)) = ([x]),
 (((1 : Nat) + out.length : Nat) ≤ ((9223372036854775807 : Nat))),
 ((IntKind.i64.wrap (n.tdiv (16 : Int)) : Int)) = (q)]) := by kernel_rfl

theorem nurB_2 (n z q r : Int) (out u : List UInt8) (x : UInt8) : roundOut (⟨[], [0, 1, 2, 7, 8], []⟩) (aCode Tryd.prog cl0 ⟨true, bs [(11, false), (14, true)] ++ ([(19, ⟨.c (.int .i64 r), none⟩), (22, ⟨.c (.int .i64 r), none⟩), (24, ⟨.c (str [x]), none⟩), (29, ⟨.c (.int .i64 q), none⟩)])⟩ (lpBy ([])) 60 (lbody Tryd.prog 15 3) (nuS n 16 z out)) = some (.normal, nuS q 16 z ([x] ++ out), [((decide (n > (0 : Int)) : Bool)) = (false),
 ((out == [] : Bool)) = (true),
 ((n.tmod (16 : Int) : Int)) = (r),
 ((n.tmod (16 : Int) : Int)) = (r),
 ((IntKind.i64.min : Int) ≤ (r + (1 : Int))),
 ((r + (1 : Int) : Int) ≤ (IntKind.i64.max)),
 (((0 : Int) : Int) ≤ (r)),
 ((r : Int) ≤ (r + (1 : Int))),
 ((r + (1 : Int) : Int) ≤ ((↑(16 : Nat) : Int))),
 ((List.drop r.toNat (List.take (r + (1 : Int)).toNat hexL) : List UInt8)) = ([x]),
 (((1 : Nat) + out.length : Nat) ≤ ((9223372036854775807 : Nat))),
 ((IntKind.i64.wrap (n.tdiv (16 : Int)) : Int)) = (q)]) := by kernel_rfl

theorem nurB_3 (n z q r : Int) (out u : List UInt8) (x : UInt8) : roundOut (⟨[], [0, 1, 2, 7, 8], []⟩) (aCode Tryd.prog cl0 ⟨true, bs [(11, false), (14, false)] ++ ([(19, ⟨.c (.int .i64 r), none⟩), (22, ⟨.c (.int .i64 r), none⟩), (24, ⟨.c (str [x]), none⟩), (29, ⟨.c (.int .i64 q), none⟩)])⟩ (lpBy ([])) 60 (lbody Tryd.prog 15 3) (nuS n 16 z out)) = some (.exit 0, nuS n 16 z out, [((decide (n > (0 : Int)) : Bool)) = (false),
 ((out == [] : Bool)) = (false)]) := by kernel_rfl


theorem nuz_1 (z i : Int) (out : List UInt8) : roundOut (⟨[], [2, 8, 9], []⟩) (aCode Tryd.prog cl0 ⟨true, bs [(32, true)] ++ ([])⟩ (lpBy ([])) 60 (lbody Tryd.prog 15 7) (nuT z i out)) = some (.normal, nuT z (i + 1) ([48] ++ out), [((decide (i < z) : Bool)) = (true),
 (((1 : Nat) + out.length : Nat) ≤ ((9223372036854775807 : Nat))),
 ((IntKind.i64.min : Int) ≤ (i + (1 : Int))),
 ((i + (1 : Int) : Int) ≤ (IntKind.i64.max))]) := by kernel_rfl

theorem nuz_2 (z i : Int) (out : List UInt8) : roundOut (⟨[], [2, 8, 9], []⟩) (aCode Tryd.prog cl0 ⟨true, bs [(32, false)] ++ ([])⟩ (lpBy ([])) 60 (lbody Tryd.prog 15 7) (nuT z i out)) = some (.exit 2, nuT z i out, [((decide (i < z) : Bool)) = (false)]) := by kernel_rfl

theorem hex_at {d : Nat} (h : d < 16) : List.drop d (List.take (d + 1) hexL) = [hexC d] := by
  have k : ∀ y : Fin 16, List.drop y.val (List.take (y.val + 1) hexL) = [hexC y.val] := by decide
  exact k ⟨d, h⟩

def nuI (b n : Nat) (x : Nat × List UInt8) : Prop := (x.1 = 0 ∧ x.2 = digF b n) ∨ ((0 < x.1 ∨ x.2 = []) ∧ digF b x.1 ++ x.2 = digF b n ∧ x.1 < 2 ^ 24)

theorem nu_walkA {n : Nat} (z : Int) (hn : n ≤ 2097152) : Tri Ext0 Tryd.prog (.loop (lbody Tryd.prog 15 3)) (nuS n 10 z []) (.exit 0) (nuS 0 10 z (digF 10 n)) := by
  have hn24 : n < 2 ^ 24 := Nat.lt_of_le_of_lt hn (by decide)
  obtain ⟨hlen, hne⟩ := digF_len 10 n
  refine loop_inv mixed cl0_ok (fun x : Nat × List UInt8 => nuS (x.1 : Nat) 10 z x.2) (fun x => nuI 10 n x ∧ x.1 ≤ n) (fun x => 2 * x.1 + if x.2 = [] then 1 else 0) (fun x hx => ?_) (n, []) ⟨.inr ⟨.inr rfl, by simp, hn24⟩, Nat.le_refl _⟩
  obtain ⟨m, out⟩ := x
  obtain ⟨hx, hmn⟩ := hx
  simp only at hx hmn ⊢
  rcases hx with ⟨h1, h2⟩ | ⟨h1, h2, h3⟩
  · simp only at h1 h2
    subst h1; subst h2
    refine .inr ⟨by simp, ⟨_, _, _, _, _, lpBy_nil, by decide, nurA_3 0 z 0 0 (digF 10 n) [] 0, ?_⟩⟩
    simp only [allP, and_true, decide_eq_false_iff_not, beq_eq_false_iff_ne, sb_mk]
    exact ⟨by omega, hne⟩
  · simp only at h1 h2 h3
    refine .inl ⟨(m / 10, hexC (m % 10) :: out), ⟨?_, by simp only; omega⟩, ?_, ?_⟩
    · rw [digF_step (by omega) h3] at h2
      by_cases hm : m < 10
      · rw [if_pos hm] at h2
        refine .inl ⟨by simp only; omega, ?_⟩
        simp only
        rw [← h2, Nat.mod_eq_of_lt hm]
        rfl
      · rw [if_neg hm] at h2
        refine .inr ⟨.inl (by simp only; omega), by simp only; rw [← h2]; simp, by simp only; omega⟩
    · simp only [reduceCtorEq, if_false]
      rcases h1 with h1 | h1
      · omega
      · rw [if_pos h1]; omega
    · have hl : out.length ≤ 25 := by
        have := congrArg List.length h2
        rw [List.length_append] at this
        omega
      have ht : (m : Int).tmod 10 = ((m % 10 : Nat) : Int) := by rw [tmN (by omega)]; omega
      have hd : (m : Int).tdiv 10 = ((m / 10 : Nat) : Int) := by rw [tdN (by omega)]; omega
      have hlt : m % 10 < 16 := Nat.lt_of_lt_of_le (Nat.mod_lt _ (by omega)) (by omega)
      have hx := hex_at hlt
      have hq : IntKind.i64.wrap ((m / 10 : Nat) : Int) = ((m / 10 : Nat) : Int) := i64_wrap (by omega) (by omega)
      have hr : IntKind.i64.wrap ((m % 10 : Nat) : Int) = ((m % 10 : Nat) : Int) := i64_wrap (by omega) (by omega)
      have hxl : hexL.length = 16 := rfl
      rcases Nat.lt_or_ge 0 m with hp | hp
      · refine ⟨_, _, _, _, _, lpBy_nil, by decide, nurA_1 m z ((m / 10 : Nat) : Int) ((m % 10 : Nat) : Int) out [] (hexC (m % 10)), ?_⟩
        simp only [allP, ht, hd, hq, hr, sb_mk, and_true, true_and, decide_eq_true_eq, i64_min, i64_max, Int.toNat_natCast, toNat_succ, hx, hxl]
        repeat' apply And.intro
        all_goals first | exact True.intro | omega | rfl | (simp only [List.length_singleton]; omega)
      · have : m = 0 := by omega
        subst this
        have ho : out = [] := by
          rcases h1 with h1 | h1
          · omega
          · exact h1
        subst ho
        refine ⟨_, _, _, _, _, lpBy_nil, by decide, nurA_2 0 z 0 0 [] [] (hexC (0 % 10)), ?_⟩
        simp only [allP]
        repeat' apply And.intro
        all_goals first | exact True.intro | decide | rfl


theorem nu_walkB {n : Nat} (z : Int) (hn : n ≤ 2097152) : Tri Ext0 Tryd.prog (.loop (lbody Tryd.prog 15 3)) (nuS n 16 z []) (.exit 0) (nuS 0 16 z (digF 16 n)) := by
  have hn24 : n < 2 ^ 24 := Nat.lt_of_le_of_lt hn (by decide)
  obtain ⟨hlen, hne⟩ := digF_len 16 n
  refine loop_inv mixed cl0_ok (fun x : Nat × List UInt8 => nuS (x.1 : Nat) 16 z x.2) (fun x => nuI 16 n x ∧ x.1 ≤ n) (fun x => 2 * x.1 + if x.2 = [] then 1 else 0) (fun x hx => ?_) (n, []) ⟨.inr ⟨.inr rfl, by simp, hn24⟩, Nat.le_refl _⟩
  obtain ⟨m, out⟩ := x
  obtain ⟨hx, hmn⟩ := hx
  simp only at hx hmn ⊢
  rcases hx with ⟨h1, h2⟩ | ⟨h1, h2, h3⟩
  · simp only at h1 h2
    subst h1; subst h2
    refine .inr ⟨by simp, ⟨_, _, _, _, _, lpBy_nil, by decide, nurB_3 0 z 0 0 (digF 16 n) [] 0, ?_⟩⟩
    simp only [allP, and_true, decide_eq_false_iff_not, beq_eq_false_iff_ne, sb_mk]
    exact ⟨by omega, hne⟩
  · simp only at h1 h2 h3
    refine .inl ⟨(m / 16, hexC (m % 16) :: out), ⟨?_, by simp only; omega⟩, ?_, ?_⟩
    · rw [digF_step (by omega) h3] at h2
      by_cases hm : m < 16
      · rw [if_pos hm] at h2
        refine .inl ⟨by simp only; omega, ?_⟩
        simp only
        rw [← h2, Nat.mod_eq_of_lt hm]
        rfl
      · rw [if_neg hm] at h2
        refine .inr ⟨.inl (by simp only; omega), by simp only; rw [← h2]; simp, by simp only; omega⟩
    · simp only [reduceCtorEq, if_false]
      rcases h1 with h1 | h1
      · omega
      · rw [if_pos h1]; omega
    · have hl : out.length ≤ 25 := by
        have := congrArg List.length h2
        rw [List.length_append] at this
        omega
      have ht : (m : Int).tmod 16 = ((m % 16 : Nat) : Int) := by rw [tmN (by omega)]; omega
      have hd : (m : Int).tdiv 16 = ((m / 16 : Nat) : Int) := by rw [tdN (by omega)]; omega
      have hlt : m % 16 < 16 := Nat.lt_of_lt_of_le (Nat.mod_lt _ (by omega)) (by omega)
      have hx := hex_at hlt
      have hq : IntKind.i64.wrap ((m / 16 : Nat) : Int) = ((m / 16 : Nat) : Int) := i64_wrap (by omega) (by omega)
      have hr : IntKind.i64.wrap ((m % 16 : Nat) : Int) = ((m % 16 : Nat) : Int) := i64_wrap (by omega) (by omega)
      have hxl : hexL.length = 16 := rfl
      rcases Nat.lt_or_ge 0 m with hp | hp
      · refine ⟨_, _, _, _, _, lpBy_nil, by decide, nurB_1 m z ((m / 16 : Nat) : Int) ((m % 16 : Nat) : Int) out [] (hexC (m % 16)), ?_⟩
        simp only [allP, ht, hd, hq, hr, sb_mk, and_true, true_and, decide_eq_true_eq, i64_min, i64_max, Int.toNat_natCast, toNat_succ, hx, hxl]
        repeat' apply And.intro
        all_goals first | exact True.intro | omega | rfl | (simp only [List.length_singleton]; omega)
      · have : m = 0 := by omega
        subst this
        have ho : out = [] := by
          rcases h1 with h1 | h1
          · omega
          · exact h1
        subst ho
        refine ⟨_, _, _, _, _, lpBy_nil, by decide, nurB_2 0 z 0 0 [] [] (hexC (0 % 16)), ?_⟩
        simp only [allP]
        repeat' apply And.intro
        all_goals first | exact True.intro | decide | rfl

theorem nuz_walk {z : Nat} (hz : z ≤ 1000) (out : List UInt8) (hl : out.length ≤ 1000) : Tri Ext0 Tryd.prog (.loop (lbody Tryd.prog 15 7)) (nuT z 0 out) (.exit 2) (nuT z z (List.replicate z 48 ++ out)) := by
  refine loop_up mixed cl0_ok (fun i => nuT z i (List.replicate i 48 ++ out)) (e := .exit 2) z (by simp) (fun i hi => ?_) ?_ 0 (Nat.zero_le _)
  · have hll : (List.replicate i 48 ++ out).length ≤ 2000 := by rw [List.length_append, List.length_replicate]; omega
    have e : List.replicate (i + 1) (48 : UInt8) ++ out = [48] ++ (List.replicate i 48 ++ out) := by rw [List.replicate_succ]; rfl
    rw [e]
    generalize List.replicate i (48 : UInt8) ++ out = o at *
    refine ⟨_, _, _, _, _, lpBy_nil, by decide, nuz_1 z i o, ?_⟩
    simp only [allP, sb_mk, and_true, true_and, decide_eq_true_eq, i64_min, i64_max]
    repeat' apply And.intro
    all_goals first | exact True.intro | omega | (simp only [List.length_singleton]; omega)
  · refine ⟨_, _, _, _, _, lpBy_nil, by decide, nuz_2 z z _, ?_⟩
    simp only [allP, and_true, decide_eq_false_iff_not]
    omega

noncomputable def nuLp (n z b : Nat) : List (Nat × Lp) := [(3, ⟨lbody Tryd.prog 15 3, ⟨[], [0, 1, 2, 7, 8], []⟩, nuS n b z [], .exit 0, nuS 0 b z (digF b n)⟩), (7, ⟨lbody Tryd.prog 15 7, ⟨[], [2, 8, 9], []⟩, nuT z 0 (digF b n), .exit 2, nuT z z (List.replicate z 48 ++ digF b n)⟩)]

/-- A number's digits, noughts ahead. -/
def digZ (b n z : Nat) : List UInt8 := List.replicate z 48 ++ digF b n

theorem nudA_1 (n z : Nat) : outcome Tryd.prog 15 (aBody Tryd.prog cl0 ⟨true, bs [] ++ ([])⟩ (lpBy (nuLp n z 10)) 60 15 ([.c (.int .i64 n), .c (.int .i64 10), .c (.int .i64 z)]) ([])) = some ((AV.c ((str (List.replicate z (48 : UInt8) ++ digF (10 : Nat) n)))), [((lbody Tryd.prog (15 : FuncId) (3 : Nat) : Go.Code)) = (lbody Tryd.prog (15 : FuncId) (3 : Nat)),
 ((nuS (↑n : Int) (↑(10 : Nat) : Int) (↑z : Int) [] : Go.Proofs.YtoikhiijgdkciaaDoor.St)) = (nuS (↑n : Int) (↑(10 : Nat) : Int) (↑z : Int) []),
 ((lbody Tryd.prog (15 : FuncId) (7 : Nat) : Go.Code)) = (lbody Tryd.prog (15 : FuncId) (7 : Nat)),
 ((nuT (↑z : Int) (0 : Int) (digF (10 : Nat) n) : Go.Proofs.YtoikhiijgdkciaaDoor.St)) = (nuT (↑z : Int) (0 : Int) (digF (10 : Nat) n))]) := by kernel_rfl

theorem nudA_all (n z : Nat)  : ∃ (h : Hints) (p : List Prop), outcome Tryd.prog 15 (aBody Tryd.prog cl0 h (lpBy (nuLp n z 10)) 60 15 ([.c (.int .i64 n), .c (.int .i64 10), .c (.int .i64 z)]) ([])) = some (.c (str (digZ 10 n z)), p) ∧ allP p := by
  have eR := nudA_1 n z
  refine ⟨_, _, eR.trans (congrArg (fun r => some (r, _)) ?_), ?_⟩
  · try clear eR
    first | rfl | (simp (disch := omega) only [sb_mk, sl1, toNat0, toNat1, toNat2, Int.toNat_natCast, List.take_length, List.take_succ_cons, List.drop_succ_cons, List.drop_zero, List.take_zero, List.length_cons, List.length_nil, List.getD_cons_zero, i64_wrap, i32_wrap, u8_wrap, u32_wrap, tdN, tmN, i64_min, i64_max, u8_min, u8_max, decide_eq_true_eq, decide_eq_false_iff_not, beq_iff_eq, beq_eq_false_iff_ne, bne_iff_ne, bne_eq_false_iff_eq, ne_eq, not_false_eq_true, and_true, true_and, Int.zero_sub]; done)
  · try clear eR
    try simp (disch := omega) only [allP, sb_mk, sl1, toNat0, toNat1, toNat2, Int.toNat_natCast, List.take_length, List.take_succ_cons, List.drop_succ_cons, List.drop_zero, List.take_zero, List.length_cons, List.length_nil, List.getD_cons_zero, i64_wrap, i32_wrap, u8_wrap, u32_wrap, tdN, tmN, i64_min, i64_max, u8_min, u8_max, decide_eq_true_eq, decide_eq_false_iff_not, beq_iff_eq, beq_eq_false_iff_ne, bne_iff_ne, bne_eq_false_iff_eq, ne_eq, not_false_eq_true, and_true, true_and, Int.zero_sub]
    repeat' apply And.intro
    all_goals first | exact True.intro | omega | with_reducible rfl | with_reducible assumption | rfl


theorem nudB_1 (n z : Nat) : outcome Tryd.prog 15 (aBody Tryd.prog cl0 ⟨true, bs [] ++ ([])⟩ (lpBy (nuLp n z 16)) 60 15 ([.c (.int .i64 n), .c (.int .i64 16), .c (.int .i64 z)]) ([])) = some ((AV.c ((str (List.replicate z (48 : UInt8) ++ digF (16 : Nat) n)))), [((lbody Tryd.prog (15 : FuncId) (3 : Nat) : Go.Code)) = (lbody Tryd.prog (15 : FuncId) (3 : Nat)),
 ((nuS (↑n : Int) (↑(16 : Nat) : Int) (↑z : Int) [] : Go.Proofs.YtoikhiijgdkciaaDoor.St)) = (nuS (↑n : Int) (↑(16 : Nat) : Int) (↑z : Int) []),
 ((lbody Tryd.prog (15 : FuncId) (7 : Nat) : Go.Code)) = (lbody Tryd.prog (15 : FuncId) (7 : Nat)),
 ((nuT (↑z : Int) (0 : Int) (digF (16 : Nat) n) : Go.Proofs.YtoikhiijgdkciaaDoor.St)) = (nuT (↑z : Int) (0 : Int) (digF (16 : Nat) n))]) := by kernel_rfl

theorem nudB_all (n z : Nat)  : ∃ (h : Hints) (p : List Prop), outcome Tryd.prog 15 (aBody Tryd.prog cl0 h (lpBy (nuLp n z 16)) 60 15 ([.c (.int .i64 n), .c (.int .i64 16), .c (.int .i64 z)]) ([])) = some (.c (str (digZ 16 n z)), p) ∧ allP p := by
  have eR := nudB_1 n z
  refine ⟨_, _, eR.trans (congrArg (fun r => some (r, _)) ?_), ?_⟩
  · try clear eR
    first | rfl | (simp (disch := omega) only [sb_mk, sl1, toNat0, toNat1, toNat2, Int.toNat_natCast, List.take_length, List.take_succ_cons, List.drop_succ_cons, List.drop_zero, List.take_zero, List.length_cons, List.length_nil, List.getD_cons_zero, i64_wrap, i32_wrap, u8_wrap, u32_wrap, tdN, tmN, i64_min, i64_max, u8_min, u8_max, decide_eq_true_eq, decide_eq_false_iff_not, beq_iff_eq, beq_eq_false_iff_ne, bne_iff_ne, bne_eq_false_iff_eq, ne_eq, not_false_eq_true, and_true, true_and, Int.zero_sub]; done)
  · try clear eR
    try simp (disch := omega) only [allP, sb_mk, sl1, toNat0, toNat1, toNat2, Int.toNat_natCast, List.take_length, List.take_succ_cons, List.drop_succ_cons, List.drop_zero, List.take_zero, List.length_cons, List.length_nil, List.getD_cons_zero, i64_wrap, i32_wrap, u8_wrap, u32_wrap, tdN, tmN, i64_min, i64_max, u8_min, u8_max, decide_eq_true_eq, decide_eq_false_iff_not, beq_iff_eq, beq_eq_false_iff_ne, bne_iff_ne, bne_eq_false_iff_eq, ne_eq, not_false_eq_true, and_true, true_and, Int.zero_sub]
    repeat' apply And.intro
    all_goals first | exact True.intro | omega | with_reducible rfl | with_reducible assumption | rfl

def numeralSpec : Spec
  | [.c (.int .i64 n), .c (.int .i64 b), .c (.int .i64 z)] => some (.c (str (digZ b.toNat n.toNat z.toNat)), [0 ≤ n ∧ n ≤ 2097152, b = 10 ∨ b = 16, 0 ≤ z ∧ z ≤ 1000])
  | _ => none

theorem numeral_ok : SpecOK Tryd.prog 15 numeralSpec := by
  refine spec_of mixed cl0_ok fun args r q hs hq => ?_
  unfold numeralSpec at hs
  split at hs
  · rename_i n b z
    simp only [Option.some.injEq, Prod.mk.injEq] at hs
    obtain ⟨rfl, rfl⟩ := hs
    simp only [allP, and_true] at hq ⊢
    obtain ⟨⟨h0, h1⟩, hb, h2, h3⟩ := hq
    obtain ⟨n, rfl⟩ : ∃ k : Nat, n = (k : Int) := ⟨n.toNat, by omega⟩
    obtain ⟨z, rfl⟩ : ∃ k : Nat, z = (k : Int) := ⟨z.toNat, by omega⟩
    rcases hb with rfl | rfl
    · obtain ⟨hh, p, e, hp⟩ := nudA_all n z
      exact ⟨_, _, _, _, lpBy_cons (lpBy_cons lpBy_nil List.nodup_nil (nuz_walk (by omega) _ (by have := (digF_len 10 n).1; omega))) List.nodup_nil (nu_walkA z (by omega)), e, hp⟩
    · obtain ⟨hh, p, e, hp⟩ := nudB_all n z
      exact ⟨_, _, _, _, lpBy_cons (lpBy_cons lpBy_nil List.nodup_nil (nuz_walk (by omega) _ (by have := (digF_len 16 n).1; omega))) List.nodup_nil (nu_walkB z (by omega)), e, hp⟩
  · simp at hs

end Go.Proofs.YtoikhiijgdkciaaDoor
