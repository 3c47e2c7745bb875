/- Bytes as digits: the program's own, and the document's (no package variable is read). -/
import Derived.Test.YtljgmgbjfjhjmaaBas
namespace Go.Proofs.Ytljgmgbjfjhjmaa
open Go.RowKit
set_option linter.unusedVariables false
set_option linter.unusedSimpArgs false

def letterI (n : Int) : Bool := decide (65 ≤ n ∧ n ≤ 90) || decide (97 ≤ n ∧ n ≤ 122)
def largeI (n : Int) : Bool := decide (65 ≤ n ∧ n ≤ 90)
def worthI (n : Int) : Int := if 48 ≤ n ∧ n ≤ 57 then n - 48 else if 97 ≤ n ∧ n ≤ 122 then n - 87 else if 65 ≤ n ∧ n ≤ 90 then n - 55 else -1
def digitI (n b : Int) : Int := if worthI n < b then worthI n else -1

theorem large_ok : SpecOK Try.prog 33 (byteSpec fun n => .bool (largeI n)) := byteSpec_ok mixed cl0_ok (by kernel_rfl)
theorem worth_ok : SpecOK Try.prog 34 (byteSpec fun n => .int .i64 (worthI n)) := byteSpec_ok mixed cl0_ok (by kernel_rfl)


noncomputable def clW : CallT := aCall Try.prog (sgBy [(34, byteSpec fun n => .int .i64 (worthI n)), (33, byteSpec fun n => .bool (largeI n))]) 500 8
theorem clW_ok : CallOK Try.prog clW := aCall_ok mixed (sgBy_cons worth_ok (sgBy_cons large_ok sgBy_nil)) 500 8

def digitSpec : Spec
  | [.c (.int .u8 n), .c (.int .i64 b)] => some (.c (.int .i64 (digitI n b)), [0 ≤ n, n < 256])
  | _ => none

theorem digit_ok : SpecOK Try.prog 15 digitSpec := by
  refine spec_of mixed clW_ok fun args r q hs hq => ?_
  unfold digitSpec at hs
  split at hs
  · rename_i n b
    simp only [Option.some.injEq, Prod.mk.injEq] at hs
    obtain ⟨rfl, rfl⟩ := hs
    obtain ⟨h0, h1, _⟩ := hq
    by_cases hb : worthI n < b
    · have e : digitI n b = worthI n := if_pos hb
      rw [e]
      exact ⟨⟨true, bs [(10, true)]⟩, lpBy [], 60, [0 ≤ n, n < 256, decide (worthI n < b) = true], lpBy_nil, by kernel_rfl, h0, h1, decide_eq_true hb, trivial⟩
    · have e : digitI n b = -1 := if_neg hb
      rw [e]
      exact ⟨⟨true, bs [(10, false)]⟩, lpBy [], 60, [0 ≤ n, n < 256, decide (worthI n < b) = false], lpBy_nil, by kernel_rfl, h0, h1, decide_eq_false hb, trivial⟩
  · simp at hs

theorem rdigit_ok : SpecOK Try.prog 50 digitSpec := by
  refine spec_of mixed clW_ok fun args r q hs hq => ?_
  unfold digitSpec at hs
  split at hs
  · rename_i n b
    simp only [Option.some.injEq, Prod.mk.injEq] at hs
    obtain ⟨rfl, rfl⟩ := hs
    obtain ⟨h0, h1, _⟩ := hq
    have en : Int.ofNat n.toNat = n := Int.toNat_of_nonneg h0
    by_cases hb : worthI n < b
    · have e : digitI n b = worthI n := if_pos hb
      rw [e]
      have hall : (List.range 256).map (fun n => outcome Try.prog 50 (aBody Try.prog clW ⟨false, bs [(37, false)]⟩ (lpBy []) 60 50 [.c (.int .u8 (Int.ofNat n)), .c (.int .i64 b)] [])) = (List.range 256).map (fun n => some (.c (.int .i64 (worthI (Int.ofNat n))), [decide (worthI (Int.ofNat n) ≥ b) = false])) := by kernel_rfl
      have hh := byAll 256 hall n.toNat (by omega)
      simp only [en] at hh
      exact ⟨_, lpBy [], 60, _, lpBy_nil, hh, decide_eq_false (by omega), trivial⟩
    · have e : digitI n b = -1 := if_neg hb
      rw [e]
      have hall : (List.range 256).map (fun n => outcome Try.prog 50 (aBody Try.prog clW ⟨false, bs [(37, true)]⟩ (lpBy []) 60 50 [.c (.int .u8 (Int.ofNat n)), .c (.int .i64 b)] [])) = (List.range 256).map (fun n => some (.c (.int .i64 (-1)), [decide (worthI (Int.ofNat n) ≥ b) = true])) := by kernel_rfl
      have hh := byAll 256 hall n.toNat (by omega)
      simp only [en] at hh
      exact ⟨_, lpBy [], 60, _, lpBy_nil, hh, decide_eq_true (by omega), trivial⟩
  · simp at hs

end Go.Proofs.Ytljgmgbjfjhjmaa
