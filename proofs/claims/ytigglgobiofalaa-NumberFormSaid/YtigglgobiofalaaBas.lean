/- What the package variables read as; calls without contracts. -/
import Derived.Test.YtigglgobiofalaaLevN
import Derived.Test.YtigglgobiofalaaRows
namespace Go.Proofs.Ytigglgobiofalaa
open Go.RowKit
set_option linter.unusedVariables false
set_option linter.unusedSimpArgs false

instance gvHere : Gv := ⟨fun _ => none⟩
theorem glOK_none (w : World) : GlOK Try.prog w := fun g l h => by cases h

theorem mixed : Try.prog.follows .mixedOrders = true := by kernel_rfl

noncomputable def cl0 : CallT := aCall Try.prog (sgBy []) 500 8
theorem cl0_ok : CallOK Try.prog cl0 := aCall_ok mixed sgBy_nil 500 8

theorem av_f {x y : Nat} (h : x = y) : avEq (.c (.float .f64 x)) (.c (.float .f64 y)) := by subst h; exact avEq_refl _
theorem bytesOK1 (c : UInt8) : bytesOK [AV.c (Value.int IntKind.u8 (c.toNat : Nat))] := bytesOK_byts [c]
theorem sl1 (c : UInt8) (r : List UInt8) : List.drop 1 (List.take (r.length + 1) (c :: r)) = r := by simp
theorem sb_mk (l : List UInt8) : sb ⟨⟨l⟩⟩ = l := rfl
theorem u8_wf {a : Int} (h : (Lit.int .u8 a).wf = true) : 0 ≤ a ∧ a < 256 := by
  simp [Lit.wf, IntKind.min, IntKind.max, IntKind.signed, IntKind.bits] at h; omega


theorem toNat0 : Int.toNat (0 : Int) = 0 := rfl
theorem toNat1 : Int.toNat (1 : Int) = 1 := rfl
theorem toNat2 : Int.toNat (2 : Int) = 2 := rfl
theorem drop_getB (l : List UInt8) (i j : Nat) : (l.drop i).getD j 0 = l.getD (i + j) 0 := by
  simp [List.getD, List.getElem?_drop]
theorem byts_tk (l : List UInt8) : List.take l.length (byts l) = byts l := List.take_of_length_le (by rw [byts_length]; exact Nat.le_refl _)
theorem byts_all (l : List UInt8) : List.take l.length (List.drop 0 (byts l)) = byts l := by rw [List.drop_zero, byts_tk]
theorem byts_put (out x : List UInt8) : (byts out).take out.length ++ byts x = byts (out ++ x) := by rw [byts_tk, byts_append]
theorem byte_all {p : UInt8 → Prop} (h : ∀ k : Fin 256, p (UInt8.ofNat k.val)) (c : UInt8) : p c := by
  have := h ⟨c.toNat, c.toNat_lt⟩
  simpa using this

theorem u8_cast {a : Int} (h0 : 0 ≤ a) (h1 : a < 256) : ∃ c : UInt8, a = (c.toNat : Nat) := ⟨UInt8.ofNat a.toNat, by
  rw [UInt8.toNat_ofNat']
  omega⟩

/-! What holds of any text. -/
theorem i64_wf {a : Int} (h : (Lit.int .i64 a).wf = true) : -9223372036854775808 ≤ a ∧ a ≤ 9223372036854775807 := by
  simp [Lit.wf, IntKind.min, IntKind.max, IntKind.signed, IntKind.bits] at h; omega
theorem str_wf {l : List UInt8} (h : (⟨⟨l⟩⟩ : ByteArray).size ≤ maxLen) : l.length ≤ 9223372036854775807 := h

end Go.Proofs.Ytigglgobiofalaa
