/- slices.Insert of one number: the operations that hang on how much room there is. -/
import Derived.Test.YtljgmgbjfjhjmaaInsA
import GoSem.Extern.SlicesOverlaps
namespace Go.Proofs.Ytljgmgbjfjhjmaa
open Go.RowKit
set_option linter.unusedVariables false
set_option linter.unusedSimpArgs false

/-- 'append(s, make([]T, k)...)' where there is no room. -/
theorem run_app_zeros {P : Program} {w : World} {t u ty e : TypeId} {i : TypeInfo} {z : Value} (ht : P.underlying t = some (.slice e)) (hu : P.underlying u = some (.int .i64)) (hi : P.info? e = some i) (hz : i.zero = some z)
    {base : Option Addr} {sLen sCap k : Nat} {olds : List Value} (hfo : (Builtin.firstCells i.size sLen (.slice base sLen sCap)).run P w.drew = .ok olds.toArray w.drew) (hs : i.size = 1)
    (hg : sCap < sLen + k) (h63 : sLen + k ≤ 1000) (hb : i.bytes = 8) (hk : 0 < k) :
    (Builtin.append_ #[t, u] ty #[.slice base sLen sCap, .int .i64 k]).run P w =
      .ok (.slice (some ⟨w.heap.size, 0, none⟩) (sLen + k) (grownCap w (sLen + k) sCap e))
        (w.drew.alloc (.cells (olds.toArray ++ Builtin.zeroCells z.cells k ++ Builtin.zeroCells z.cells (grownCap w (sLen + k) sCap e - (sLen + k))) e)) := by
  have hn : ¬ (sLen + k ≤ sCap) := by omega
  have hw : IntKind.i64.wrap (k : Int) = k := i64_wrap (by omega) (by omega)
  have hfit := growslice_fits (by omega : sCap < sLen + k) (by rw [hb]; omega : (sLen + k) * i.bytes ≤ 140737488355328)
  have h48 : ¬ (281474976710656 < Builtin.nextslicecap (sLen + k) sCap * i.bytes) := by omega
  have h63' : ¬ (9223372036854775807 < ((sLen : Int) + (k : Int))) := by omega
  have hk0 : ¬ ((k : Int) < 0) := by omega
  have hkb : ¬ (281474976710656 < (k : Int) * (i.bytes : Int)) := by rw [hb]; omega
  have hk2 : ¬ (k = 0) := by omega
  rw [hs] at hfo
  simp [Builtin.append_, run_underlying ht, run_underlying hu, sizeOf, typeInfo, zeroValue, hi, hz, asInt, asIntOf, hw, hn, hk0, hkb, hk2, hs, h63', h48, Question.forced, hfo, newRow, grownCap]

theorem frozen_row {w : World} {g o : Nat} {cur : Array Value} {e : TypeId} {fz : Nat × Nat} (hg : w.heap[g]? = some (.cells cur e fz)) (hf : ∀ off, ¬ (fz.1 ≤ off ∧ off < fz.2)) : w.frozen? ⟨g, o, none⟩ = false := by
  obtain ⟨f1, f2⟩ := fz
  have := hf o
  simp only [World.frozen?, hg]
  simp only [Bool.and_eq_false_iff, decide_eq_false_iff_not]
  simp only at this
  omega

theorem ov_match (a b : Option Addr) (la c lb d : Nat) (h1 : Option Addr → Nat → Nat → Option Addr → Nat → Nat → Sem Value) (h2 : Array Value → Sem Value) :
    Extern.SlicesOverlaps.overlaps.match_4 (fun _ => Sem Value) #[.slice a la c, .slice b lb d] h1 h2 = h1 a la c b lb d := rfl

/-- Rows in two places do not overlap. -/
theorem run_apart {P : Program} {w : World} {t e : TypeId} {rs : Array TypeId} {ps : Array TypeId} (hp : ps[0]? = some t) (ht : P.underlying t = some (.slice e)) {i : TypeInfo} (hi : P.info? e = some i)
    {g1 o1 l1 c1 g2 o2 l2 c2 : Nat} {r1 r2 : Array Value} {e1 e2 : TypeId} {f1 f2 : Nat × Nat} (h1 : w.heap[g1]? = some (.cells r1 e1 f1)) (h2 : w.heap[g2]? = some (.cells r2 e2 f2)) (hne : g1 ≠ g2)
    (n1 : ∀ off, ¬ (f1.1 ≤ off ∧ off < f1.2)) (n2 : ∀ off, ¬ (f2.1 ≤ off ∧ off < f2.2)) :
    (Extern.SlicesOverlaps.overlaps ps rs #[.slice (some ⟨g1, o1, none⟩) l1 c1, .slice (some ⟨g2, o2, none⟩) l2 c2]).run P w = .ok (.bool false) w := by
  have s1 : w.shape? g1 = some (e1, r1.size) := by simp [World.shape?, h1]
  have s2 : w.shape? g2 = some (e2, r2.size) := by simp [World.shape?, h2]
  have z1 : ∀ o, w.frozen? ⟨g1, o, none⟩ = false := fun o => frozen_row h1 n1
  have z2 : ∀ o, w.frozen? ⟨g2, o, none⟩ = false := fun o => frozen_row h2 n2
  delta Extern.SlicesOverlaps.overlaps
  rw [ov_match]
  simp only [hp]
  by_cases hz : l1 = 0 ∨ l2 = 0 ∨ i.size = 0
  · simp [run_underlying ht, sizeOf, typeInfo, hi, hz]
  · simp [run_underlying ht, sizeOf, typeInfo, hi, hz, hne, z1, z2, noView, viewAt, s1, s2, mayBeOne, stringish]

end Go.Proofs.Ytljgmgbjfjhjmaa
