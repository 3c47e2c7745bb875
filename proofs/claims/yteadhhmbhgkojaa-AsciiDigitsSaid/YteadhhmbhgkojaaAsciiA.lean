/- Bytes: what they are, and are worth. -/
import Derived.Test.YteadhhmbhgkojaaLevL
import Derived.Test.YteadhhmbhgkojaaRows
namespace Go.Proofs.Yteadhhmbhgkojaa
open Go.RowKit

theorem mixed : Try.prog.follows .mixedOrders = true := by kernel_rfl

noncomputable def cl0 : CallT := aCall Try.prog (sgBy []) 500 8
theorem cl0_ok : CallOK Try.prog cl0 := aCall_ok mixed sgBy_nil 500 8

def blankI (n : Int) : Bool := n == 9 || n == 10 || n == 12 || n == 13 || n == 32
def letterI (n : Int) : Bool := decide (65 ≤ n ∧ n ≤ 90) || decide (97 ≤ n ∧ n ≤ 122)
def largeI (n : Int) : Bool := decide (65 ≤ n ∧ n ≤ 90)
def lowI (n : Int) : Bool := decide (n ≤ 32)
def worthI (n : Int) : Int := if 48 ≤ n ∧ n ≤ 57 then n - 48 else if 97 ≤ n ∧ n ≤ 122 then n - 87 else if 65 ≤ n ∧ n ≤ 90 then n - 55 else -1
def digitI (n b : Int) : Int := if worthI n < b then worthI n else -1

theorem blank_ok : SpecOK Try.prog 10 (byteSpec fun n => .bool (blankI n)) := byteSpec_ok mixed cl0_ok (by kernel_rfl)
theorem rblank_ok : SpecOK Try.prog 11 (byteSpec fun n => .bool (blankI n)) := byteSpec_ok mixed cl0_ok (by kernel_rfl)
theorem letter_ok : SpecOK Try.prog 12 (byteSpec fun n => .bool (letterI n)) := byteSpec_ok mixed cl0_ok (by kernel_rfl)
theorem rletter_ok : SpecOK Try.prog 13 (byteSpec fun n => .bool (letterI n)) := byteSpec_ok mixed cl0_ok (by kernel_rfl)
theorem large_ok : SpecOK Try.prog 27 (byteSpec fun n => .bool (largeI n)) := byteSpec_ok mixed cl0_ok (by kernel_rfl)
theorem low_ok : SpecOK Try.prog 30 (byteSpec fun n => .bool (lowI n)) := byteSpec_ok mixed cl0_ok (by kernel_rfl)
theorem worth_ok : SpecOK Try.prog 28 (byteSpec fun n => .int .i64 (worthI n)) := byteSpec_ok mixed cl0_ok (by kernel_rfl)

noncomputable def sg1 : Specs := sgBy [(10, byteSpec fun n => .bool (blankI n)), (11, byteSpec fun n => .bool (blankI n)), (12, byteSpec fun n => .bool (letterI n)), (13, byteSpec fun n => .bool (letterI n)), (27, byteSpec fun n => .bool (largeI n)), (30, byteSpec fun n => .bool (lowI n)), (28, byteSpec fun n => .int .i64 (worthI n))]
noncomputable def cl1 : CallT := aCall Try.prog sg1 500 8
theorem sg1_ok : ∀ f spec, sg1 f = some spec → SpecOK Try.prog f spec := sgBy_cons blank_ok (sgBy_cons rblank_ok (sgBy_cons letter_ok (sgBy_cons rletter_ok (sgBy_cons large_ok (sgBy_cons low_ok (sgBy_cons worth_ok sgBy_nil))))))
theorem cl1_ok : CallOK Try.prog cl1 := aCall_ok mixed sg1_ok 500 8

def digitSpec : Spec
  | [.c (.int .u8 n), .c (.int .i64 b)] => some (.c (.int .i64 (digitI n b)), [0 ≤ n, n < 256])
  | _ => none

theorem digit_ok : SpecOK Try.prog 14 digitSpec := by
  refine spec_of mixed cl1_ok fun args r q hs hq => ?_
  unfold digitSpec at hs
  split at hs
  · rename_i n b
    simp only [Option.some.injEq, Prod.mk.injEq] at hs
    obtain ⟨rfl, rfl⟩ := hs
    obtain ⟨h0, h1, _⟩ := hq
    by_cases hb : worthI n < b
    · have e : digitI n b = worthI n := if_pos hb
      rw [e]
      exact ⟨⟨true, bs [(10, true)]⟩, lpBy [], 60, [0 ≤ n, n < 256, decide (worthI n < b) = true], lpBy_nil, by kernel_rfl, h0, h1, decide_eq_true hb, trivial⟩
    · have e : digitI n b = -1 := if_neg hb
      rw [e]
      exact ⟨⟨true, bs [(10, false)]⟩, lpBy [], 60, [0 ≤ n, n < 256, decide (worthI n < b) = false], lpBy_nil, by kernel_rfl, h0, h1, decide_eq_false hb, trivial⟩
  · simp at hs

theorem rdigit_ok : SpecOK Try.prog 15 digitSpec := by
  refine spec_of mixed cl1_ok fun args r q hs hq => ?_
  unfold digitSpec at hs
  split at hs
  · rename_i n b
    simp only [Option.some.injEq, Prod.mk.injEq] at hs
    obtain ⟨rfl, rfl⟩ := hs
    obtain ⟨h0, h1, _⟩ := hq
    have en : Int.ofNat n.toNat = n := Int.toNat_of_nonneg h0
    by_cases hb : worthI n < b
    · have e : digitI n b = worthI n := if_pos hb
      rw [e]
      have hall : (List.range 256).map (fun n => outcome Try.prog 15 (aBody Try.prog cl1 ⟨false, bs [(37, false)]⟩ (lpBy []) 60 15 [.c (.int .u8 (Int.ofNat n)), .c (.int .i64 b)] [])) = (List.range 256).map (fun n => some (.c (.int .i64 (worthI (Int.ofNat n))), [decide (worthI (Int.ofNat n) ≥ b) = false])) := by kernel_rfl
      have hh := byAll 256 hall n.toNat (by omega)
      simp only [en] at hh
      exact ⟨_, lpBy [], 60, _, lpBy_nil, hh, decide_eq_false (by omega), trivial⟩
    · have e : digitI n b = -1 := if_neg hb
      rw [e]
      have hall : (List.range 256).map (fun n => outcome Try.prog 15 (aBody Try.prog cl1 ⟨false, bs [(37, true)]⟩ (lpBy []) 60 15 [.c (.int .u8 (Int.ofNat n)), .c (.int .i64 b)] [])) = (List.range 256).map (fun n => some (.c (.int .i64 (-1)), [decide (worthI (Int.ofNat n) ≥ b) = true])) := by kernel_rfl
      have hh := byAll 256 hall n.toNat (by omega)
      simp only [en] at hh
      exact ⟨_, lpBy [], 60, _, lpBy_nil, hh, decide_eq_true (by omega), trivial⟩
  · simp at hs

def smallSpec : Spec
  | [] => some (.c (.bool true), [])
  | _ => none

theorem small_ok : SpecOK Try.prog 9 smallSpec := by
  refine spec_of mixed cl0_ok fun args r q hs hq => ?_
  unfold smallSpec at hs
  split at hs
  · simp only [Option.some.injEq, Prod.mk.injEq] at hs
    obtain ⟨rfl, rfl⟩ := hs
    exact ⟨{}, lpBy [], 500, [], lpBy_nil, by kernel_rfl, trivial⟩
  · simp at hs

noncomputable def sg2 : Specs := sgBy [(9, smallSpec), (14, digitSpec), (15, digitSpec), (10, byteSpec fun n => .bool (blankI n)), (11, byteSpec fun n => .bool (blankI n)), (12, byteSpec fun n => .bool (letterI n)), (13, byteSpec fun n => .bool (letterI n))]
noncomputable def cl2 : CallT := aCall Try.prog sg2 500 8
theorem cl2_ok : CallOK Try.prog cl2 := aCall_ok mixed (sgBy_cons small_ok (sgBy_cons digit_ok (sgBy_cons rdigit_ok (sgBy_cons blank_ok (sgBy_cons rblank_ok (sgBy_cons letter_ok (sgBy_cons rletter_ok sgBy_nil))))))) 500 8

theorem u8_wf {a : Int} (h : (Lit.int .u8 a).wf = true) : 0 ≤ a ∧ a < 256 := by
  simp [Lit.wf, IntKind.min, IntKind.max, IntKind.signed, IntKind.bits] at h; omega

theorem classes_walk (a0 : Int) (a1 : Int) (w0 : (Lit.int .u8 a0).wf = true) (_ : (Lit.int .i64 a1).wf = true) (w : World) :
    Calls Try.prog 3 #[.int .u8 a0, .int .i64 a1] w fun e w' => e = .returned (.bool true) ∧ Below w.heap.size w w' := by
  obtain ⟨h0, h1⟩ := u8_wf w0
  refine law_conc mixed cl2_ok [.int .u8 a0, .int .i64 a1] ?_
  exact ⟨⟨true, bs [(11, true), (18, true), (27, true)]⟩, lpBy [], 60, [0 ≤ a0, a0 < 256, 0 ≤ a0, a0 < 256, (blankI a0 == blankI a0) = true, 0 ≤ a0, a0 < 256, 0 ≤ a0, a0 < 256, (letterI a0 == letterI a0) = true, 0 ≤ a0, a0 < 256, 0 ≤ a0, a0 < 256, (digitI a0 a1 == digitI a0 a1) = true], lpBy_nil, by kernel_rfl,
    h0, h1, h0, h1, by simp, h0, h1, h0, h1, by simp, h0, h1, h0, h1, by simp, trivial⟩

end Go.Proofs.Yteadhhmbhgkojaa
