/- The law of the sets, byte by byte: joined. -/
import Derived.Test.YtfaffnemfndkfaaPctS
namespace Go.Proofs.Ytfaffnemfndkfaa
open Go.RowKit
set_option linter.unusedVariables false
set_option linter.unusedSimpArgs false

theorem all_gen {F : Nat → Option (AV × List Prop)} {v : Value} (h : ((List.range 8).all fun n => isRes (F n) v) = true) {m : Nat} (hm : m < 8) : F m = some (.c v, []) := isRes_eq (List.all_eq_true.1 h m (List.mem_range.2 hm))

theorem sets_one {k : Nat} (h : ((List.range 8).all fun n => isRes (setsRun (Int.ofNat (8 * k + n))) (.bool true)) = true) {n : Nat} (hn : n / 8 = k) : setsRun (Int.ofNat n) = some (.c (.bool true), []) := by
  have hh := all_gen (F := fun n => setsRun (Int.ofNat (8 * k + n))) h (m := n % 8) (by omega)
  have e : 8 * k + n % 8 = n := by omega
  have h2 : setsRun (Int.ofNat (8 * k + n % 8)) = some (.c (.bool true), []) := hh
  rw [e] at h2
  exact h2

theorem sets_all {n : Int} (h0 : 0 ≤ n) (h1 : n < 256) : setsRun n = some (.c (.bool true), []) := by
  obtain ⟨m, rfl⟩ := Int.eq_ofNat_of_zero_le h0
  have hm : m / 8 < 32 := by omega
  match hk : m / 8, hm with
  | q + 32, hq => omega
  | 0, _ => exact sets_one sets_tab0 hk
  | 1, _ => exact sets_one sets_tab1 hk
  | 2, _ => exact sets_one sets_tab2 hk
  | 3, _ => exact sets_one sets_tab3 hk
  | 4, _ => exact sets_one sets_tab4 hk
  | 5, _ => exact sets_one sets_tab5 hk
  | 6, _ => exact sets_one sets_tab6 hk
  | 7, _ => exact sets_one sets_tab7 hk
  | 8, _ => exact sets_one sets_tab8 hk
  | 9, _ => exact sets_one sets_tab9 hk
  | 10, _ => exact sets_one sets_tab10 hk
  | 11, _ => exact sets_one sets_tab11 hk
  | 12, _ => exact sets_one sets_tab12 hk
  | 13, _ => exact sets_one sets_tab13 hk
  | 14, _ => exact sets_one sets_tab14 hk
  | 15, _ => exact sets_one sets_tab15 hk
  | 16, _ => exact sets_one sets_tab16 hk
  | 17, _ => exact sets_one sets_tab17 hk
  | 18, _ => exact sets_one sets_tab18 hk
  | 19, _ => exact sets_one sets_tab19 hk
  | 20, _ => exact sets_one sets_tab20 hk
  | 21, _ => exact sets_one sets_tab21 hk
  | 22, _ => exact sets_one sets_tab22 hk
  | 23, _ => exact sets_one sets_tab23 hk
  | 24, _ => exact sets_one sets_tab24 hk
  | 25, _ => exact sets_one sets_tab25 hk
  | 26, _ => exact sets_one sets_tab26 hk
  | 27, _ => exact sets_one sets_tab27 hk
  | 28, _ => exact sets_one sets_tab28 hk
  | 29, _ => exact sets_one sets_tab29 hk
  | 30, _ => exact sets_one sets_tab30 hk
  | 31, _ => exact sets_one sets_tab31 hk

theorem sets_walk (a0 : Int) (w0 : (Lit.int .u8 a0).wf = true) (w : World) :
    Calls Try.prog 6 #[.int .u8 a0] w fun e w' => e = .returned (.bool true) ∧ Below w.heap.size w w' := by
  obtain ⟨h0, h1⟩ := u8_wf w0
  exact law_conc mixed clD_ok [.int .u8 a0] (glOK_none w) ⟨_, _, _, _, lpBy_nil, sets_all h0 h1, trivial⟩

end Go.Proofs.Ytfaffnemfndkfaa
