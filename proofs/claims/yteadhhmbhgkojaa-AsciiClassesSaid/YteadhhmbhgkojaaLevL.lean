/- Helpers: contracts of byte functions by trying all bytes, states by their slots, laws over plain arguments. -/
import Derived.Test.YteadhhmbhgkojaaLevK
namespace Go.Proofs.Yteadhhmbhgkojaa
open Go.RowKit

variable {P : Program}

/-- A function of one byte. -/
def byteSpec (g : Int → Value) : Spec
  | [.c (.int .u8 n)] => some (.c (g n), [0 ≤ n, n < 256])
  | _ => none

theorem byteSpec_ok (hm : P.follows .mixedOrders = true) {cl : CallT} (hcl : CallOK P cl) {f : FuncId} {g : Int → Value}
    (h : (List.range 256).map (fun n => outcome P f (aBody P cl {} (lpBy []) 60 f [.c (.int .u8 (Int.ofNat n))] [])) = (List.range 256).map (fun n => some (.c (g (Int.ofNat n)), []))) : SpecOK P f (byteSpec g) := by
  refine spec_of hm hcl fun args r q hs hq => ?_
  unfold byteSpec at hs
  split at hs
  · rename_i n
    simp only [Option.some.injEq, Prod.mk.injEq] at hs
    obtain ⟨rfl, rfl⟩ := hs
    obtain ⟨h0, h1, _⟩ := hq
    have hh := byAll 256 h n.toNat (by omega)
    have e : Int.ofNat n.toNat = n := Int.toNat_of_nonneg h0
    simp only [e] at hh
    exact ⟨{}, lpBy [], 60, [], lpBy_nil, hh, trivial⟩
  · simp at hs

/-- A row of slots, some of them known. -/
def frame (n : Nat) (l : List (Nat × AV)) : List AV := (List.range n).map fun i => match l.find? (fun x => x.1 == i) with
  | some x => x.2
  | none => .any

/-- Hints by truth values. -/
def bs (l : List (Nat × Bool)) : List (Nat × Hint) := l.map fun x => (x.1, ⟨.c (.bool x.2), none⟩)

theorem conc_args {w : World} (l : List Value) (j : Nat) (_ : j < (l.map AV.c).length) : VR P w Pl.none true ((l.map AV.c).getD j .any) (l.toArray.getD j undef) := by
  have e : l.toArray.getD j undef = l.getD j undef := by simp [List.getD]
  rw [e]
  simp only [List.length_map] at *
  rename_i hj
  simp only [List.getD, List.getElem?_map, List.getElem?_eq_getElem hj, Option.map_some, Option.getD_some]
  exact .c

/-- A law of plain arguments. -/
theorem law_conc {cl : CallT} (hm : P.follows .mixedOrders = true) (hcl : CallOK P cl) {f : FuncId} (vs : List Value) {w : World} {v : Value}
    (h : ∃ hs lp fuel p, LpOK Ext0 P lp ∧ lawOut (aBody P cl hs lp fuel f (vs.map AV.c) []) = some (.c v, p) ∧ allP p) : Calls P f vs.toArray w fun e w' => e = .returned v ∧ Below w.heap.size w w' :=
  law_of hm hcl (by simp) (conc_args vs) h

end Go.Proofs.Yteadhhmbhgkojaa
