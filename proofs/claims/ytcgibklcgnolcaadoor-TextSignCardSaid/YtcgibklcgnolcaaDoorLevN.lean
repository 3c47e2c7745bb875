/- Numbers: wraps, quotients, bytes. -/
import Derived.Test.YtcgibklcgnolcaaDoorLevM
namespace Go.Proofs.YtcgibklcgnolcaaDoor
open Go.RowKit
set_option linter.unusedSimpArgs false
set_option linter.unusedVariables false

variable [Gv]

omit [Gv] in
theorem i32_wrap {c : Int} (h1 : -2147483648 ≤ c) (h2 : c ≤ 2147483647) : IntKind.i32.wrap c = c := wrap_in .i32 c h1 h2
omit [Gv] in
theorem u8_wrap {c : Int} (h1 : 0 ≤ c) (h2 : c ≤ 255) : IntKind.u8.wrap c = c := wrap_in .u8 c h1 h2
omit [Gv] in
theorem i64_wrap {c : Int} (h1 : -9223372036854775808 ≤ c) (h2 : c ≤ 9223372036854775807) : IntKind.i64.wrap c = c := wrap_in .i64 c h1 h2
omit [Gv] in
theorem u32_wrap {c : Int} (h1 : 0 ≤ c) (h2 : c ≤ 4294967295) : IntKind.u32.wrap c = c := wrap_in .u32 c h1 h2
omit [Gv] in
theorem u64_wrap {c : Int} (h1 : 0 ≤ c) (h2 : c ≤ 18446744073709551615) : IntKind.u64.wrap c = c := wrap_in .u64 c h1 h2

omit [Gv] in
/-- Go's quotient and rest of numbers that are not below 0. -/
theorem tdN {a : Int} {k : Int} (h : 0 ≤ a) : Int.tdiv a k = a / k := Int.tdiv_eq_ediv_of_nonneg h
omit [Gv] in
theorem tmN {a : Int} {k : Int} (h : 0 ≤ a) : Int.tmod a k = a % k := Int.tmod_eq_emod_of_nonneg h

omit [Gv] in
theorem bytesOK_nil : bytesOK [] ↔ True := ⟨fun _ => trivial, fun _ => rfl⟩
omit [Gv] in
theorem bytesOK_cons (z : Int) (r : List AV) : bytesOK (.c (.int .u8 z) :: r) ↔ (0 ≤ z ∧ z < 256) ∧ bytesOK r := by
  unfold bytesOK
  simp only [List.all_cons, isByte, Bool.and_eq_true, decide_eq_true_eq]

omit [Gv] in
theorem i32_min : IntKind.i32.min = -2147483648 := by decide
omit [Gv] in
theorem i32_max : IntKind.i32.max = 2147483647 := by decide

omit [Gv] in
theorem u8_ofNat_eq {a b : Nat} (h : a = b) : UInt8.ofNat a = UInt8.ofNat b := by rw [h]

end Go.Proofs.YtcgibklcgnolcaaDoor
