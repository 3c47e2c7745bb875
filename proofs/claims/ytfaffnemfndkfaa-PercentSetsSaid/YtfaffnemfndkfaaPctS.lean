/- The law of the sets, byte by byte. -/
import Derived.Test.YtfaffnemfndkfaaPctH
namespace Go.Proofs.Ytfaffnemfndkfaa
open Go.RowKit
set_option linter.unusedVariables false
set_option linter.unusedSimpArgs false

theorem sets_tab0 : ((List.range 8).all fun n => isRes (setsRun (Int.ofNat (8 * 0 + n))) (.bool true)) = true := by kernel_rfl


theorem sets_tab1 : ((List.range 8).all fun n => isRes (setsRun (Int.ofNat (8 * 1 + n))) (.bool true)) = true := by kernel_rfl


theorem sets_tab2 : ((List.range 8).all fun n => isRes (setsRun (Int.ofNat (8 * 2 + n))) (.bool true)) = true := by kernel_rfl


theorem sets_tab3 : ((List.range 8).all fun n => isRes (setsRun (Int.ofNat (8 * 3 + n))) (.bool true)) = true := by kernel_rfl


theorem sets_tab4 : ((List.range 8).all fun n => isRes (setsRun (Int.ofNat (8 * 4 + n))) (.bool true)) = true := by kernel_rfl


theorem sets_tab5 : ((List.range 8).all fun n => isRes (setsRun (Int.ofNat (8 * 5 + n))) (.bool true)) = true := by kernel_rfl


theorem sets_tab6 : ((List.range 8).all fun n => isRes (setsRun (Int.ofNat (8 * 6 + n))) (.bool true)) = true := by kernel_rfl


theorem sets_tab7 : ((List.range 8).all fun n => isRes (setsRun (Int.ofNat (8 * 7 + n))) (.bool true)) = true := by kernel_rfl


theorem sets_tab8 : ((List.range 8).all fun n => isRes (setsRun (Int.ofNat (8 * 8 + n))) (.bool true)) = true := by kernel_rfl


theorem sets_tab9 : ((List.range 8).all fun n => isRes (setsRun (Int.ofNat (8 * 9 + n))) (.bool true)) = true := by kernel_rfl


theorem sets_tab10 : ((List.range 8).all fun n => isRes (setsRun (Int.ofNat (8 * 10 + n))) (.bool true)) = true := by kernel_rfl


theorem sets_tab11 : ((List.range 8).all fun n => isRes (setsRun (Int.ofNat (8 * 11 + n))) (.bool true)) = true := by kernel_rfl


theorem sets_tab12 : ((List.range 8).all fun n => isRes (setsRun (Int.ofNat (8 * 12 + n))) (.bool true)) = true := by kernel_rfl


theorem sets_tab13 : ((List.range 8).all fun n => isRes (setsRun (Int.ofNat (8 * 13 + n))) (.bool true)) = true := by kernel_rfl


theorem sets_tab14 : ((List.range 8).all fun n => isRes (setsRun (Int.ofNat (8 * 14 + n))) (.bool true)) = true := by kernel_rfl


theorem sets_tab15 : ((List.range 8).all fun n => isRes (setsRun (Int.ofNat (8 * 15 + n))) (.bool true)) = true := by kernel_rfl


theorem sets_tab16 : ((List.range 8).all fun n => isRes (setsRun (Int.ofNat (8 * 16 + n))) (.bool true)) = true := by kernel_rfl


theorem sets_tab17 : ((List.range 8).all fun n => isRes (setsRun (Int.ofNat (8 * 17 + n))) (.bool true)) = true := by kernel_rfl


theorem sets_tab18 : ((List.range 8).all fun n => isRes (setsRun (Int.ofNat (8 * 18 + n))) (.bool true)) = true := by kernel_rfl


theorem sets_tab19 : ((List.range 8).all fun n => isRes (setsRun (Int.ofNat (8 * 19 + n))) (.bool true)) = true := by kernel_rfl


theorem sets_tab20 : ((List.range 8).all fun n => isRes (setsRun (Int.ofNat (8 * 20 + n))) (.bool true)) = true := by kernel_rfl


theorem sets_tab21 : ((List.range 8).all fun n => isRes (setsRun (Int.ofNat (8 * 21 + n))) (.bool true)) = true := by kernel_rfl


theorem sets_tab22 : ((List.range 8).all fun n => isRes (setsRun (Int.ofNat (8 * 22 + n))) (.bool true)) = true := by kernel_rfl


theorem sets_tab23 : ((List.range 8).all fun n => isRes (setsRun (Int.ofNat (8 * 23 + n))) (.bool true)) = true := by kernel_rfl


theorem sets_tab24 : ((List.range 8).all fun n => isRes (setsRun (Int.ofNat (8 * 24 + n))) (.bool true)) = true := by kernel_rfl


theorem sets_tab25 : ((List.range 8).all fun n => isRes (setsRun (Int.ofNat (8 * 25 + n))) (.bool true)) = true := by kernel_rfl


theorem sets_tab26 : ((List.range 8).all fun n => isRes (setsRun (Int.ofNat (8 * 26 + n))) (.bool true)) = true := by kernel_rfl


theorem sets_tab27 : ((List.range 8).all fun n => isRes (setsRun (Int.ofNat (8 * 27 + n))) (.bool true)) = true := by kernel_rfl


theorem sets_tab28 : ((List.range 8).all fun n => isRes (setsRun (Int.ofNat (8 * 28 + n))) (.bool true)) = true := by kernel_rfl


theorem sets_tab29 : ((List.range 8).all fun n => isRes (setsRun (Int.ofNat (8 * 29 + n))) (.bool true)) = true := by kernel_rfl


theorem sets_tab30 : ((List.range 8).all fun n => isRes (setsRun (Int.ofNat (8 * 30 + n))) (.bool true)) = true := by kernel_rfl


theorem sets_tab31 : ((List.range 8).all fun n => isRes (setsRun (Int.ofNat (8 * 31 + n))) (.bool true)) = true := by kernel_rfl

end Go.Proofs.Ytfaffnemfndkfaa
