/- What the laws make: a number's digits; two floats that are alike. -/
import Derived.Test.YtigglgobiofalaaNumI
namespace Go.Proofs.Ytigglgobiofalaa
open Go.RowKit Num Ieee
set_option linter.unusedVariables false
set_option linter.unusedSimpArgs false

def ldgS (n z : Int) (out : List UInt8) : St := ⟨frame 33 [(0, .c (.int .i64 n)), (1, .c (.int .i64 z)), (5, .sl 0 0 out.length)], [some ⟨5, false, byts out⟩]⟩
def ldgT (z i : Int) (out : List UInt8) : St := ⟨frame 33 [(1, .c (.int .i64 z)), (5, .sl 0 0 out.length), (6, .c (.int .i64 i))], [some ⟨5, false, byts out⟩]⟩

theorem ldg_1 (n z q : Int) (out : List UInt8) (x : UInt8) : roundOut (⟨[], [0, 1, 5], [2]⟩) (aCode Try.prog cl0 ⟨true, bs [(8, true)] ++ ([(20, ⟨.sl 2 0 (out.length + 1), some (byts (x :: out))⟩), (22, ⟨.c (.int .i64 q), none⟩)])⟩ (lpBy ([])) 60 (lbody Try.prog 14 2) (ldgS n z out)) = some (.normal, ldgS q z (x :: out), [((decide (n > (0 : Int)) : Bool)) = (true),
 ((IntKind.i64.min : Int) ≤ ((48 : Int) + n.tmod (10 : Int))),
 (((48 : Int) + n.tmod (10 : Int) : Int) ≤ (IntKind.i64.max)),
 ((out.length + (0 : Nat) : Nat) ≤ ((byts out).length)),
 ((((1 : Nat) + out.length) * (1 : Nat) : Nat) ≤ ((140737488355328 : Nat))),
 (((1 : Nat) + out.length : Nat) ≤ ((4611686018427387904 : Nat))),
 (((1 : Nat) : Nat) ≤ ((1 : Nat))),
 avEq ((AV.sl 2 0 ((1 : Nat) + out.length))) ((AV.sl 2 0 (out.length + (1 : Nat)))),
 ((List.take (1 : Nat) ([AV.c (Value.int IntKind.u8 (IntKind.u8.wrap ((48 : Int) + n.tmod (10 : Int))))] ++ []) ++
  List.take out.length (List.drop (0 : Nat) (byts out)) : List AV)) = (byts (x :: out)),
 ((IntKind.i64.wrap (n.tdiv (10 : Int)) : Int)) = (q)]) := by kernel_rfl

theorem ldg_2 (n z q : Int) (out : List UInt8) (x : UInt8) : roundOut (⟨[], [0, 1, 5], [2]⟩) (aCode Try.prog cl0 ⟨true, bs [(8, false), (12, true)] ++ ([(20, ⟨.sl 2 0 (out.length + 1), some (byts (x :: out))⟩), (22, ⟨.c (.int .i64 q), none⟩)])⟩ (lpBy ([])) 60 (lbody Try.prog 14 2) (ldgS n z out)) = some (.normal, ldgS q z (x :: out), [((decide (n > (0 : Int)) : Bool)) = (false),
 (((↑out.length : Int) == (0 : Int) : Bool)) = (true),
 ((IntKind.i64.min : Int) ≤ ((48 : Int) + n.tmod (10 : Int))),
 (((48 : Int) + n.tmod (10 : Int) : Int) ≤ (IntKind.i64.max)),
 ((out.length + (0 : Nat) : Nat) ≤ ((byts out).length)),
 ((((1 : Nat) + out.length) * (1 : Nat) : Nat) ≤ ((140737488355328 : Nat))),
 (((1 : Nat) + out.length : Nat) ≤ ((4611686018427387904 : Nat))),
 (((1 : Nat) : Nat) ≤ ((1 : Nat))),
 avEq ((AV.sl 2 0 ((1 : Nat) + out.length))) ((AV.sl 2 0 (out.length + (1 : Nat)))),
 ((List.take (1 : Nat) ([AV.c (Value.int IntKind.u8 (IntKind.u8.wrap ((48 : Int) + n.tmod (10 : Int))))] ++ []) ++
  List.take out.length (List.drop (0 : Nat) (byts out)) : List AV)) = (byts (x :: out)),
 ((IntKind.i64.wrap (n.tdiv (10 : Int)) : Int)) = (q)]) := by kernel_rfl

theorem ldg_3 (n z q : Int) (out : List UInt8) (x : UInt8) : roundOut (⟨[], [0, 1, 5], [0]⟩) (aCode Try.prog cl0 ⟨true, bs [(8, false), (12, false)] ++ ([(20, ⟨.sl 2 0 (out.length + 1), some (byts (x :: out))⟩), (22, ⟨.c (.int .i64 q), none⟩)])⟩ (lpBy ([])) 60 (lbody Try.prog 14 2) (ldgS n z out)) = some (.exit 0, ldgS n z out, [((decide (n > (0 : Int)) : Bool)) = (false),
 (((↑out.length : Int) == (0 : Int) : Bool)) = (false)]) := by kernel_rfl

theorem ldh_1 (z i : Int) (out : List UInt8) : roundOut (⟨[], [1, 5, 6], [2]⟩) (aCode Try.prog cl0 ⟨true, bs [(25, true)] ++ ([(30, ⟨.sl 2 0 (out.length + 1), some (byts (48 :: out))⟩)])⟩ (lpBy ([])) 60 (lbody Try.prog 14 6) (ldgT z i out)) = some (.normal, ldgT z (i + 1) (48 :: out), [((decide (i < z) : Bool)) = (true),
 ((out.length + (0 : Nat) : Nat) ≤ ((byts out).length)),
 ((((1 : Nat) + out.length) * (1 : Nat) : Nat) ≤ ((140737488355328 : Nat))),
 (((1 : Nat) + out.length : Nat) ≤ ((4611686018427387904 : Nat))),
 (((1 : Nat) : Nat) ≤ ((1 : Nat))),
 avEq ((AV.sl 2 0 ((1 : Nat) + out.length))) ((AV.sl 2 0 (out.length + (1 : Nat)))),
 ((List.take (1 : Nat) ([AV.c (Value.int IntKind.u8 (48 : Int))] ++ []) ++
  List.take out.length (List.drop (0 : Nat) (byts out)) : List AV)) = (byts ((48 : UInt8) :: out)),
 ((IntKind.i64.min : Int) ≤ (i + (1 : Int))),
 ((i + (1 : Int) : Int) ≤ (IntKind.i64.max))]) := by kernel_rfl

theorem ldh_2 (z i : Int) (out : List UInt8) : roundOut (⟨[], [1, 5, 6], [0]⟩) (aCode Try.prog cl0 ⟨true, bs [(25, false)] ++ ([(30, ⟨.sl 2 0 (out.length + 1), some (byts (48 :: out))⟩)])⟩ (lpBy ([])) 60 (lbody Try.prog 14 6) (ldgT z i out)) = some (.exit 2, ldgT z i out, [((decide (i < z) : Bool)) = (false)]) := by kernel_rfl

theorem front (v : Int) (x : UInt8) (out : List UInt8) (h : v = (x.toNat : Nat)) : List.take 1 ([AV.c (Value.int IntKind.u8 v)] ++ []) ++ List.take out.length (List.drop 0 (byts out)) = byts (x :: out) := by
  rw [byts_all, h]; rfl

theorem digG_succ (f n : Nat) : digG (f + 1) n = if n < 10 then [UInt8.ofNat (48 + n)] else digG f (n / 10) ++ [UInt8.ofNat (48 + n % 10)] := rfl
theorem digG_more : ∀ (f n : Nat), n < 10 ^ (f + 1) → digG (f + 1) n = digG f n
  | 0, n, h => by
    have hn : n < 10 := by simpa using h
    rw [digG_succ, if_pos hn]
    unfold digG
    rw [Nat.mod_eq_of_lt hn]
  | f + 1, n, h => by
    rw [digG_succ (f + 1) n, digG_succ f n]
    by_cases hn : n < 10
    · rw [if_pos hn, if_pos hn]
    · rw [if_neg hn, if_neg hn, digG_more f (n / 10) (by rw [Nat.div_lt_iff_lt_mul (by omega), ← Nat.pow_succ]; exact h)]
theorem digF_step {n : Nat} (h : n < 10 ^ 20) : digF n = if n < 10 then [UInt8.ofNat (48 + n)] else digF (n / 10) ++ [UInt8.ofNat (48 + n % 10)] := by
  unfold digF
  rw [digG]
  split
  · rfl
  · rw [digG_more 19 (n / 10) (by rw [Nat.div_lt_iff_lt_mul (by omega)]; exact Nat.lt_of_lt_of_le h (by decide))]
theorem digF_len {n : Nat} (h : n < 10 ^ 20) : (digF n).length ≤ 20 ∧ digF n ≠ [] := by
  have h2 : n < 10 ^ 21 := Nat.lt_of_lt_of_le h (Nat.pow_le_pow_right (by omega) (by omega))
  obtain ⟨_, _, h3, h4⟩ := digG_ok 20 n h2
  exact ⟨h4 19 h, h3⟩

def ldgI (n : Nat) (x : Nat × List UInt8) : Prop := (x.1 = 0 ∧ x.2 = digF n) ∨ ((0 < x.1 ∨ x.2 = []) ∧ digF x.1 ++ x.2 = digF n ∧ x.1 < 10 ^ 20)

theorem c48 {k : Nat} (h : k < 10) : ((UInt8.ofNat (48 + k)).toNat : Int) = 48 + (k : Nat) := by
  rw [UInt8.toNat_ofNat']; omega

theorem ldg_walk {n : Nat} (z : Int) (hn : n ≤ 9223372036854775807) : Tri Ext0 Try.prog (.loop (lbody Try.prog 14 2)) (ldgS n z []) (.exit 0) (ldgS 0 z (digF n)) := by
  have hn20 : n < 10 ^ 20 := Nat.lt_of_le_of_lt hn (by decide)
  obtain ⟨hlen, hne⟩ := digF_len hn20
  refine loop_inv mixed cl0_ok (fun x : Nat × List UInt8 => ldgS (x.1 : Nat) z x.2) (fun x => ldgI n x ∧ x.1 ≤ n) (fun x => 2 * x.1 + if x.2 = [] then 1 else 0) (fun x hx => ?_) (n, []) ⟨.inr ⟨.inr rfl, by simp, hn20⟩, Nat.le_refl _⟩
  obtain ⟨m, out⟩ := x
  obtain ⟨hx, hmn⟩ := hx
  simp only at hx hmn ⊢
  rcases hx with ⟨h1, h2⟩ | ⟨h1, h2, h3⟩
  · simp only at h1 h2
    subst h1; subst h2
    refine .inr ⟨by simp, ⟨_, _, _, _, _, lpBy_nil, by decide, ldg_3 0 z 0 (digF n) 0, ?_⟩⟩
    have hp := List.length_pos_iff.2 hne
    simp only [allP, and_true, decide_eq_false_iff_not, beq_eq_false_iff_ne]
    omega
  · simp only at h1 h2 h3
    refine .inl ⟨(m / 10, UInt8.ofNat (48 + m % 10) :: out), ⟨?_, by simp only; omega⟩, ?_, ?_⟩
    · rw [digF_step h3] at h2
      by_cases hm : m < 10
      · rw [if_pos hm] at h2
        refine .inl ⟨by simp only; omega, ?_⟩
        simp only
        rw [← h2, Nat.mod_eq_of_lt hm]
        rfl
      · rw [if_neg hm] at h2
        refine .inr ⟨.inl (by simp only; omega), by simp only; rw [← h2]; simp, by simp only; omega⟩
    · simp only [reduceCtorEq, if_false]
      rcases h1 with h1 | h1
      · omega
      · rw [if_pos h1]; omega
    · have hl : out.length ≤ 20 := by
        have := congrArg List.length h2
        rw [List.length_append] at this
        omega
      have ht : (m : Int).tmod 10 = ((m % 10 : Nat) : Int) := by rw [tmN (by omega)]; omega
      have hd : (m : Int).tdiv 10 = ((m / 10 : Nat) : Int) := by rw [tdN (by omega)]; omega
      have hw : IntKind.u8.wrap (48 + ((m % 10 : Nat) : Int)) = 48 + ((m % 10 : Nat) : Int) := u8_wrap (by omega) (by omega)
      have hf := front (48 + ((m % 10 : Nat) : Int)) (UInt8.ofNat (48 + m % 10)) out (c48 (by omega)).symm
      rcases Nat.lt_or_ge 0 m with hp | hp
      · refine ⟨_, _, _, _, _, lpBy_nil, by decide, ldg_1 m z ((m / 10 : Nat) : Int) out (UInt8.ofNat (48 + m % 10)), ?_⟩
        simp only [allP, ht, hd, hw, byts_length, and_true, true_and, decide_eq_true_eq, i64_min, i64_max, Nat.le_refl]
        refine ⟨by omega, by omega, by omega, by omega, by omega, by omega, sl_eq (by omega), hf, ?_⟩
        exact i64_wrap (by omega) (by omega)
      · have : m = 0 := by omega
        subst this
        have ho : out = [] := by
          rcases h1 with h1 | h1
          · omega
          · exact h1
        subst ho
        refine ⟨_, _, _, _, _, lpBy_nil, by decide, ldg_2 0 z 0 [] (UInt8.ofNat (48 + 0 % 10)), ?_⟩
        exact ⟨rfl, rfl, by decide, by decide, by decide, by decide, by decide, by decide, sl_eq rfl, rfl, rfl, trivial⟩

theorem ldh_walk {z : Nat} (hz : z ≤ 1000) (out : List UInt8) (hl : out.length ≤ 1000) : Tri Ext0 Try.prog (.loop (lbody Try.prog 14 6)) (ldgT z 0 out) (.exit 2) (ldgT z z (List.replicate z 48 ++ out)) := by
  refine loop_up mixed cl0_ok (fun i => ldgT z i (List.replicate i 48 ++ out)) (e := .exit 2) z (by simp) (fun i hi => ?_) ?_ 0 (Nat.zero_le _)
  · have hll : (List.replicate i 48 ++ out).length ≤ 2000 := by rw [List.length_append, List.length_replicate]; omega
    have e : List.replicate (i + 1) (48 : UInt8) ++ out = 48 :: (List.replicate i 48 ++ out) := by rw [List.replicate_succ, List.cons_append]
    rw [e]
    generalize List.replicate i (48 : UInt8) ++ out = o at *
    refine ⟨_, _, _, _, _, lpBy_nil, by decide, ldh_1 z i o, ?_⟩
    simp only [allP, byts_length, and_true, true_and, decide_eq_true_eq, i64_min, i64_max, Nat.le_refl]
    exact ⟨by omega, by omega, by omega, by omega, sl_eq (by omega), front 48 48 o rfl, by omega, by omega⟩
  · refine ⟨_, _, _, _, _, lpBy_nil, by decide, ldh_2 z z _, ?_⟩
    simp only [allP, and_true, decide_eq_false_iff_not]
    omega

noncomputable def ldgLp (n z : Nat) : List (Nat × Lp) := [(2, ⟨lbody Try.prog 14 2, ⟨[(5, 5)], [0, 1, 5], [0]⟩, ldgS n z [], .exit 0, ldgS 0 z (digF n)⟩), (6, ⟨lbody Try.prog 14 6, ⟨[], [1, 5, 6], [0]⟩, ldgT z 0 (digF n), .exit 2, ldgT z z (List.replicate z 48 ++ digF n)⟩)]

theorem ldd_1 (n z : Nat) : outcome Try.prog 14 (aBody Try.prog cl0 ⟨true, bs [] ++ ([])⟩ (lpBy (ldgLp n z)) 60 14 ([.c (.int .i64 n), .c (.int .i64 z)]) ([])) = some ((AV.c ((str (unbyts
  (List.take (List.replicate z (48 : UInt8) ++ digF n).length
    (List.drop (0 : Nat) (byts (List.replicate z (48 : UInt8) ++ digF n)))))))), [((lbody Try.prog (14 : FuncId) (2 : Nat) : Go.Code)) = (lbody Try.prog (14 : FuncId) (2 : Nat)),
 ((ldgS (↑n : Int) (↑z : Int) [] : Go.Proofs.Ytigglgobiofalaa.St)) = (ldgS (↑n : Int) (↑z : Int) []),
 ((lbody Try.prog (14 : FuncId) (6 : Nat) : Go.Code)) = (lbody Try.prog (14 : FuncId) (6 : Nat)),
 ((ldgT (↑z : Int) (0 : Int) (digF n) : Go.Proofs.Ytigglgobiofalaa.St)) = (ldgT (↑z : Int) (0 : Int) (digF n)),
 (((List.replicate z (48 : UInt8) ++ digF n).length + (0 : Nat) : Nat) ≤ ((byts (List.replicate z (48 : UInt8) ++ digF n)).length)),
 bytesOK (List.take (List.replicate z (48 : UInt8) ++ digF n).length
  (List.drop (0 : Nat) (byts (List.replicate z (48 : UInt8) ++ digF n))))]) := by kernel_rfl

theorem ldd_all (n z : Nat)  : ∃ (h : Hints) (p : List Prop), outcome Try.prog 14 (aBody Try.prog cl0 h (lpBy (ldgLp n z)) 60 14 ([.c (.int .i64 n), .c (.int .i64 z)]) ([])) = some (.c (str (List.replicate z 48 ++ digF n)), p) ∧ allP p := by
  have eR := ldd_1 n z
  refine ⟨_, _, eR.trans (congrArg (fun r => some (r, _)) ?_), ?_⟩
  · try clear eR
    rw [byts_all, unbyts_byts]
  · try clear eR
    simp (disch := omega) only [allP, sb_mk, sl1, toNat0, toNat1, toNat2, Int.toNat_natCast, List.take_length, List.take_succ_cons, List.drop_succ_cons, List.drop_zero, List.take_zero, List.length_cons, List.length_nil, List.getD_cons_zero, i64_wrap, i32_wrap, u8_wrap, u32_wrap, tdN, tmN, i64_min, i64_max, u8_min, u8_max, decide_eq_true_eq, decide_eq_false_iff_not, beq_iff_eq, beq_eq_false_iff_ne, bne_iff_ne, bne_eq_false_iff_eq, ne_eq, not_false_eq_true, and_true, true_and, Int.zero_sub, byts_tk, byts_length, Nat.add_zero, Nat.le_refl, byts_all]
    repeat' apply And.intro
    all_goals first | exact True.intro | omega | with_reducible rfl | with_reducible assumption | exact bytesOK_byts _ | rfl

def lawDigSpec : Spec
  | [.c (.int .i64 n), .c (.int .i64 z)] => some (.c (str (digZ n.toNat z.toNat)), [0 ≤ n ∧ n ≤ 9223372036854775807, 0 ≤ z ∧ z ≤ 1000])
  | _ => none

theorem lawDig_ok : SpecOK Try.prog 14 lawDigSpec := by
  refine spec_of mixed cl0_ok fun args r q hs hq => ?_
  unfold lawDigSpec at hs
  split at hs
  · rename_i n z
    simp only [Option.some.injEq, Prod.mk.injEq] at hs
    obtain ⟨rfl, rfl⟩ := hs
    simp only [allP, and_true] at hq ⊢
    obtain ⟨⟨h0, h1⟩, h2, h3⟩ := hq
    obtain ⟨n, rfl⟩ : ∃ k : Nat, n = (k : Int) := ⟨n.toNat, by omega⟩
    obtain ⟨z, rfl⟩ : ∃ k : Nat, z = (k : Int) := ⟨z.toNat, by omega⟩
    have hn20 : n < 10 ^ 20 := Nat.lt_of_le_of_lt (show n ≤ 9223372036854775807 by omega) (by decide)
    obtain ⟨hlen, hne⟩ := digF_len hn20
    obtain ⟨hh, p, e, hp⟩ := ldd_all n z
    exact ⟨_, _, _, _, lpBy_cons (lpBy_cons lpBy_nil (by simp) (ldh_walk (by omega) _ (by omega))) (by simp) (ldg_walk z (by omega)), e, hp⟩
  · simp at hs

/-! Floats that are alike. -/
/-- A word that a number below 10^15, moved by a power of ten, may have. -/
def NiceW (x : Nat) : Prop := ∃ m v e, v ≤ 10 ^ 15 ∧ -22 ≤ e ∧ e ≤ 22 ∧ x = WE m v e


theorem cmp_self (x : Int) : compare x x = .eq := by
  rw [Int.compare_eq_eq]
theorem order_self {s : Bool} {r : Nat} (h : r < 2047 * 2 ^ 52) : double.order (double.word s r) (double.word s r) = some .eq := by
  rw [Flt.order_word s s h h, cmp_self]
theorem order_zero {s : Bool} {r : Nat} (h0 : r ≠ 0) (h : r < 2047 * 2 ^ 52) : double.order (double.word s r) 0 = some (if s then .lt else .gt) := by
  have e : (0 : Nat) = double.word false 0 := rfl
  rw [e, Flt.order_word s false h (show (0 : Nat) < 2047 * 2 ^ 52 by decide)]
  have hv := Flt.valR_pos h0
  unfold Flt.sv
  rw [Flt.valR_zero]
  cases s with
  | true =>
    simp only [if_true, Bool.false_eq_true, if_false, Option.some.injEq]
    rw [Int.compare_eq_lt]; omega
  | false =>
    simp only [Bool.false_eq_true, if_false, Option.some.injEq]
    rw [Int.compare_eq_gt]; omega

def alikeSpec : Spec
  | [.c (.float .f64 x), .c (.float .f64 y)] => some (.c (.bool true), [x = y, NiceW x])
  | _ => none

theorem la0_1  : outcome Try.prog 13 (aBody Try.prog cl0 ⟨true, bs [] ++ ([])⟩ (lpBy ([])) 60 13 ([.c (.float .f64 0), .c (.float .f64 0)]) ([])) = some ((AV.c ((Value.bool true))), [(((floatBits BinOp.quo FloatKind.f64 (4607182418800017408 : Nat) (0 : Nat)).isSome : Bool)) = (true),
 (((floatBits BinOp.quo FloatKind.f64 (4607182418800017408 : Nat) (0 : Nat)).isSome : Bool)) = (true)]) := by kernel_rfl

theorem la0_all   : ∃ (h : Hints) (p : List Prop), outcome Try.prog 13 (aBody Try.prog cl0 h (lpBy ([])) 60 13 ([.c (.float .f64 0), .c (.float .f64 0)]) ([])) = some (.c (.bool true), p) ∧ allP p := by
  have eR := la0_1 
  refine ⟨_, _, eR.trans (congrArg (fun r => some (r, _)) ?_), ?_⟩
  · rfl
  · simp only [allP]
    repeat' apply And.intro
    all_goals first | exact True.intro | decide +kernel

theorem la1_1 (x : Nat) : outcome Try.prog 13 (aBody Try.prog cl0 ⟨true, bs [] ++ (bs [(7, true), (10, true)])⟩ (lpBy ([])) 60 13 ([.c (.float .f64 x), .c (.float .f64 x)]) ([])) = some ((AV.c ((Value.bool true))), [((FloatKind.f64.format.order x x == some Ordering.eq : Bool)) = (true),
 ((FloatKind.f64.format.order x (0 : Nat) != some Ordering.eq : Bool)) = (true)]) := by kernel_rfl

theorem la1_all (x : Nat) (h1 : Ieee.double.order x x = some .eq) (h2 : (Ieee.double.order x 0 != some .eq) = true) : ∃ (h : Hints) (p : List Prop), outcome Try.prog 13 (aBody Try.prog cl0 h (lpBy ([])) 60 13 ([.c (.float .f64 x), .c (.float .f64 x)]) ([])) = some (.c (.bool true), p) ∧ allP p := by
  have eR := la1_1 x
  refine ⟨_, _, eR.trans (congrArg (fun r => some (r, _)) ?_), ?_⟩
  · rfl
  · refine ⟨?_, ?_, trivial⟩
    · show (Ieee.double.order x x == some .eq) = true
      rw [h1]; rfl
    · exact h2

theorem alike_ok : SpecOK Try.prog 13 alikeSpec := by
  refine spec_of mixed cl0_ok fun args r q hs hq => ?_
  unfold alikeSpec at hs
  split at hs
  · rename_i x y
    simp only [Option.some.injEq, Prod.mk.injEq] at hs
    obtain ⟨rfl, rfl⟩ := hs
    simp only [allP, and_true] at hq ⊢
    obtain ⟨rfl, m, v, e, hv, h1, h2, rfl⟩ := hq
    by_cases h0 : v = 0
    · subst h0
      have e0 : WE m 0 e = 0 := rfl
      rw [e0]
      obtain ⟨hh, p, e, hp⟩ := la0_all
      exact ⟨_, _, _, _, lpBy_nil, e, hp⟩
    · have hf := RE_fin h0 h1 h2 hv
      have ew : WE m v e = Ieee.double.word m (RE v e) := if_neg h0
      rw [ew]
      obtain ⟨hh, p, e, hp⟩ := la1_all _ (order_self (s := m) hf.2) (by rw [order_zero (by omega) hf.2]; cases m <;> rfl)
      exact ⟨_, _, _, _, lpBy_nil, e, hp⟩
  · simp at hs

noncomputable def clS : CallT := aCall Try.prog (sgBy [(9, pwholeSpec), (11, pfloatSpec)]) 500 8
theorem clS_ok : CallOK Try.prog clS := aCall_ok mixed (sgBy_cons pwhole_ok (sgBy_cons pfloat_ok sgBy_nil)) 500 8

theorem lsm_1  : outcome Try.prog 8 (aBody Try.prog clS ⟨true, bs [] ++ ([])⟩ (lpBy ([])) 60 8 ([]) ([])) = some ((AV.c ((Value.bool true))), [(((4 : Nat) : Nat) ≤ ((9223372036854775807 : Nat))),
 (((20 : Nat) : Nat) ≤ ((9223372036854775807 : Nat))),
 (((0 : Nat) : Nat) ≤ ((9223372036854775807 : Nat))),
 (((5 : Nat) : Nat) ≤ ((9223372036854775807 : Nat))),
 (((2 : Nat) : Nat) ≤ ((9223372036854775807 : Nat))),
 (((2 : Nat) : Nat) ≤ ((9223372036854775807 : Nat))),
 (((2 : Nat) : Nat) ≤ ((9223372036854775807 : Nat))),
 (((4 : Nat) : Nat) ≤ ((9223372036854775807 : Nat))),
 (((3 : Nat) : Nat) ≤ ((9223372036854775807 : Nat))),
 (((floatBits BinOp.quo FloatKind.f64 (4607182418800017408 : Nat)
    (fltW (floatF (sb { data := #[(45 : UInt8), (48 : UInt8)] })))).isSome : Bool)) = (true)]) := by kernel_rfl

theorem lsm_all   : ∃ (h : Hints) (p : List Prop), outcome Try.prog 8 (aBody Try.prog clS h (lpBy ([])) 60 8 ([]) ([])) = some (.c (.bool true), p) ∧ allP p := by
  have eR := lsm_1 
  refine ⟨_, _, eR.trans (congrArg (fun r => some (r, _)) ?_), ?_⟩
  · rfl
  · simp only [allP]
    repeat' apply And.intro
    all_goals first | exact True.intro | decide +kernel

def smallSpec : Spec
  | [] => some (.c (.bool true), [])
  | _ => none

theorem small_ok : SpecOK Try.prog 8 smallSpec := by
  refine spec_of mixed clS_ok fun args r q hs hq => ?_
  unfold smallSpec at hs
  split at hs
  · simp only [Option.some.injEq, Prod.mk.injEq] at hs
    obtain ⟨rfl, rfl⟩ := hs
    obtain ⟨hh, p, e, hp⟩ := lsm_all
    exact ⟨_, _, _, _, lpBy_nil, e, hp⟩
  · simp at hs

end Go.Proofs.Ytigglgobiofalaa
