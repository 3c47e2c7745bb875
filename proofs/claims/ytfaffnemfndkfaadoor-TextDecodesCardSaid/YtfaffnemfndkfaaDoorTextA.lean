/- What the tables of signs' bytes read as; the contract of a beginning's test. -/
import Derived.Test.YtfaffnemfndkfaaDoorLevN
import Derived.Test.YtfaffnemfndkfaaDoorRows
import Derived.Lib.LaidU8T
import Derived.Lib.RuneBytes
namespace Go.Proofs.YtfaffnemfndkfaaDoor
open Go.RowKit
set_option linter.unusedVariables false
set_option linter.unusedSimpArgs false

def firstAV : List AV := (List.range 256).map fun c => .c (.int .u8 (Lib.firstT c : Nat))
def acceptAV : List AV := (List.range 16).flatMap fun i => [.c (.int .u8 (Lib.accLo i : Nat)), .c (.int .u8 (Lib.accHi i : Nat))]

instance gvHere : Gv := ⟨fun g => if g = 0 then some firstAV else if g = 1 then some acceptAV else none⟩

theorem glOK_of_tabs {w : World} (h : Lib.Utf8Tabs 0 1 w) : GlOK Tryd.prog w := by
  intro g l hg
  have hg : (if g = 0 then some firstAV else if g = 1 then some acceptAV else none) = some l := hg
  have un : ∀ g, Pl.none.un g := fun g => ⟨fun b hb => by simp [Pl.none] at hb, fun hh => hh.elim⟩
  split at hg
  · rename_i he
    subst he
    obtain rfl := Option.some.inj hg
    have hlen : firstAV.length = 256 := by simp [firstAV]
    have h0 := h.1 0 (by decide)
    refine .fp (us := fun j => .int .u8 (Lib.firstT j : Nat)) (World.block_lt_of_cell? w _ h0) (un _) (fun j hj => ?_) (fun j hj => rfl) (fun j hj => ?_)
    · rw [hlen] at hj; simpa using h.1 j hj
    · rw [hlen] at hj
      have : firstAV.getD j .any = .c (.int .u8 (Lib.firstT j : Nat)) := by simp [firstAV, List.getD, hj]
      rw [this]; exact .c
  · split at hg
    · rename_i he
      subst he
      obtain rfl := Option.some.inj hg
      have hlen : acceptAV.length = 32 := by decide
      have h0 := (h.2 0 (by decide)).1
      have key : ∀ j, j < 32 → acceptAV.getD j .any = .c (.int .u8 ((if j % 2 = 0 then Lib.accLo (j / 2) else Lib.accHi (j / 2) : Nat) : Int)) := by
        intro j hj
        have e : acceptAV = (List.range 32).map fun j => AV.c (.int .u8 ((if j % 2 = 0 then Lib.accLo (j / 2) else Lib.accHi (j / 2) : Nat) : Int)) := by kernel_rfl
        rw [e]
        simp [List.getD, hj]
      refine .fp (us := fun j => .int .u8 ((if j % 2 = 0 then Lib.accLo (j / 2) else Lib.accHi (j / 2) : Nat) : Int)) (World.block_lt_of_cell? w _ h0) (un _) (fun j hj => ?_) (fun j hj => rfl) (fun j hj => ?_)
      · rw [hlen] at hj
        have hk := h.2 (j / 2) (by omega)
        rcases Nat.mod_two_eq_zero_or_one j with hm | hm
        · rw [if_pos hm]
          have e : j = 2 * (j / 2) := by omega
          rw [Nat.zero_add, e]
          have e2 : 2 * (j / 2) / 2 = j / 2 := by omega
          rw [e2]
          exact hk.1
        · rw [if_neg (by omega)]
          have e : j = 2 * (j / 2) + 1 := by omega
          rw [Nat.zero_add, e]
          have e2 : (2 * (j / 2) + 1) / 2 = j / 2 := by omega
          rw [e2]
          exact hk.2
      · rw [hlen] at hj
        rw [key j hj]; exact .c
    · simp at hg

theorem mixed : Tryd.prog.follows .mixedOrders = true := by kernel_rfl

noncomputable def cl0 : CallT := aCall Tryd.prog (sgBy []) 500 8
theorem cl0_ok : CallOK Tryd.prog cl0 := aCall_ok mixed sgBy_nil 500 8

end Go.Proofs.YtfaffnemfndkfaaDoor
