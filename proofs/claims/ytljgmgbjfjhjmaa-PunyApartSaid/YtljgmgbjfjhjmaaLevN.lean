/- Numbers: wraps, quotients, bytes. -/
import Derived.Test.YtljgmgbjfjhjmaaLevM
namespace Go.Proofs.Ytljgmgbjfjhjmaa
open Go.RowKit
set_option linter.unusedSimpArgs false
set_option linter.unusedVariables false

variable [Gv]

omit [Gv] in
theorem i32_wrap {c : Int} (h1 : -2147483648 ≤ c) (h2 : c ≤ 2147483647) : IntKind.i32.wrap c = c := wrap_in .i32 c h1 h2
omit [Gv] in
theorem u8_wrap {c : Int} (h1 : 0 ≤ c) (h2 : c ≤ 255) : IntKind.u8.wrap c = c := wrap_in .u8 c h1 h2
omit [Gv] in
theorem i64_wrap {c : Int} (h1 : -9223372036854775808 ≤ c) (h2 : c ≤ 9223372036854775807) : IntKind.i64.wrap c = c := wrap_in .i64 c h1 h2
omit [Gv] in
theorem u32_wrap {c : Int} (h1 : 0 ≤ c) (h2 : c ≤ 4294967295) : IntKind.u32.wrap c = c := wrap_in .u32 c h1 h2
omit [Gv] in
theorem u64_wrap {c : Int} (h1 : 0 ≤ c) (h2 : c ≤ 18446744073709551615) : IntKind.u64.wrap c = c := wrap_in .u64 c h1 h2

omit [Gv] in
/-- Go's quotient and rest of numbers that are not below 0. -/
theorem tdN {a : Int} {k : Int} (h : 0 ≤ a) : Int.tdiv a k = a / k := Int.tdiv_eq_ediv_of_nonneg h
omit [Gv] in
theorem tmN {a : Int} {k : Int} (h : 0 ≤ a) : Int.tmod a k = a % k := Int.tmod_eq_emod_of_nonneg h

omit [Gv] in
theorem bytesOK_nil : bytesOK [] ↔ True := ⟨fun _ => trivial, fun _ => rfl⟩
omit [Gv] in
theorem bytesOK_cons (z : Int) (r : List AV) : bytesOK (.c (.int .u8 z) :: r) ↔ (0 ≤ z ∧ z < 256) ∧ bytesOK r := by
  unfold bytesOK
  simp only [List.all_cons, isByte, Bool.and_eq_true, decide_eq_true_eq]

omit [Gv] in
theorem i32_min : IntKind.i32.min = -2147483648 := by decide
omit [Gv] in
theorem i32_max : IntKind.i32.max = 2147483647 := by decide

omit [Gv] in
theorem u8_ofNat_eq {a b : Nat} (h : a = b) : UInt8.ofNat a = UInt8.ofNat b := by rw [h]

variable {P : Program}

/-- A loop whose states keep a promise. -/
theorem loop_inv {α : Type} {cl : CallT} (hm : P.follows .mixedOrders = true) (hcl : CallOK P cl) {b : Code} (I : α → St) (Inv : α → Prop) (μ : α → Nat) {e : Exit} {R : St}
    (round : ∀ x, Inv x → (∃ x', Inv x' ∧ μ x' < μ x ∧ Round Ext0 P cl b (I x) .normal (I x')) ∨ (e ≠ .normal ∧ Round Ext0 P cl b (I x) e R)) (x0 : α) (h0 : Inv x0) : Tri Ext0 P (.loop b) (I x0) e R :=
  loop_ok hm hcl (α := {x : α // Inv x}) (fun x => I x.val) (fun x => μ x.val) (fun x => by
    rcases round x.val x.property with ⟨x', h, hm, hr⟩ | h
    · exact .inl ⟨⟨x', h⟩, hm, hr⟩
    · exact .inr h) ⟨x0, h0⟩

/-- A loop that goes up to n, its state told by how far it is. -/
theorem loop_up {cl : CallT} (hm : P.follows .mixedOrders = true) (hcl : CallOK P cl) {b : Code} (I : Nat → St) (n : Nat) {e : Exit} {R : St} (he : e ≠ .normal)
    (round : ∀ i, i < n → Round Ext0 P cl b (I i) .normal (I (i + 1))) (stop : Round Ext0 P cl b (I n) e R) (i : Nat) (hi : i ≤ n) : Tri Ext0 P (.loop b) (I i) e R :=
  loop_inv hm hcl I (fun i => i ≤ n) (fun i => n - i) (fun i hi => by
    by_cases h : i < n
    · exact .inl ⟨i + 1, h, by omega, round i h⟩
    · have : i = n := by omega
      subst this
      exact .inr ⟨he, stop⟩) i hi

omit [Gv] in
theorem drop_cons (l : List UInt8) (i : Nat) (h : i < l.length) : l.drop i = l.getD i 0 :: l.drop (i + 1) := by
  rw [List.drop_eq_getElem_cons h]
  simp [List.getD, h]

omit [Gv] in
theorem bcase {p : Prop} (b : Bool) (h1 : b = true → p) (h2 : b = false → p) : p := by
  cases b with
  | true => exact h1 rfl
  | false => exact h2 rfl

end Go.Proofs.Ytljgmgbjfjhjmaa
