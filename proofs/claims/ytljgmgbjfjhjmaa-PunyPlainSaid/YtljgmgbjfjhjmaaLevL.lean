/- Helpers: contracts of byte functions by trying all bytes, states by their slots, laws over plain arguments. -/
import Derived.Test.YtljgmgbjfjhjmaaLevK
namespace Go.Proofs.Ytljgmgbjfjhjmaa
open Go.RowKit
set_option linter.unusedSimpArgs false
set_option linter.unusedVariables false

variable [Gv] {P : Program}

/-- A function of one byte. -/
def byteSpec (g : Int → Value) : Spec
  | [.c (.int .u8 n)] => some (.c (g n), [0 ≤ n, n < 256])
  | _ => none

/-- A test that an outcome is a plain value, and nothing must hold. -/
def isRes (o : Option (AV × List Prop)) (v : Value) : Bool :=
  match o, v with
  | some (.c (.int k z), []), .int k' z' => decide (k = k') && decide (z = z')
  | some (.c (.bool b), []), .bool b' => b == b'
  | _, _ => false

omit [Gv] in
theorem isRes_eq {o : Option (AV × List Prop)} {v : Value} (h : isRes o v = true) : o = some (.c v, []) := by
  unfold isRes at h
  split at h
  · simp only [Bool.and_eq_true, decide_eq_true_eq] at h
    obtain ⟨rfl, rfl⟩ := h
    rfl
  · simp only [beq_iff_eq] at h
    subst h; rfl
  · simp at h

theorem byteSpec_ok (hm : P.follows .mixedOrders = true) {cl : CallT} (hcl : CallOK P cl) {f : FuncId} {g : Int → Value}
    (h : ((List.range 256).all fun n => isRes (outcome P f (aBody P cl {} (lpBy []) 60 f [.c (.int .u8 (Int.ofNat n))] [])) (g (Int.ofNat n))) = true) : SpecOK P f (byteSpec g) := by
  refine spec_of hm hcl fun args r q hs hq => ?_
  unfold byteSpec at hs
  split at hs
  · rename_i n
    simp only [Option.some.injEq, Prod.mk.injEq] at hs
    obtain ⟨rfl, rfl⟩ := hs
    obtain ⟨h0, h1, _⟩ := hq
    have hh := isRes_eq (List.all_eq_true.1 h n.toNat (List.mem_range.2 (by omega)))
    have e : Int.ofNat n.toNat = n := Int.toNat_of_nonneg h0
    simp only [e] at hh
    exact ⟨{}, lpBy [], 60, [], lpBy_nil, hh, trivial⟩
  · simp at hs

/-- A row of slots, some of them known. -/
def frame (n : Nat) (l : List (Nat × AV)) : List AV := (List.range n).map fun i => match l.find? (fun x => x.1 == i) with
  | some x => x.2
  | none => .any

/-- Hints by truth values. -/
def bs (l : List (Nat × Bool)) : List (Nat × Hint) := l.map fun x => (x.1, ⟨.c (.bool x.2), none⟩)

omit [Gv] in
theorem conc_args {w : World} (l : List Value) (j : Nat) (_ : j < (l.map AV.c).length) : VR P w Pl.none true ((l.map AV.c).getD j .any) (l.toArray.getD j undef) := by
  have e : l.toArray.getD j undef = l.getD j undef := by simp [List.getD]
  rw [e]
  simp only [List.length_map] at *
  rename_i hj
  simp only [List.getD, List.getElem?_map, List.getElem?_eq_getElem hj, Option.map_some, Option.getD_some]
  exact .c

/-- A law of plain arguments. -/
theorem law_conc {cl : CallT} (hm : P.follows .mixedOrders = true) (hcl : CallOK P cl) {f : FuncId} (vs : List Value) {w : World} {v : Value} (hgl : GlOK P w)
    (h : ∃ hs lp fuel p, LpOK Ext0 P lp ∧ lawOut (aBody P cl hs lp fuel f (vs.map AV.c) []) = some (.c v, p) ∧ allP p) : Calls P f vs.toArray w fun e w' => e = .returned v ∧ Below w.heap.size w w' :=
  law_of hm hcl hgl (by simp) (conc_args vs) h

/-! Rows of bytes. -/

omit [Gv] in
theorem byts_length (l : List UInt8) : (byts l).length = l.length := by simp [byts]
omit [Gv] in
theorem byts_append (a b : List UInt8) : byts (a ++ b) = byts a ++ byts b := by simp [byts]
omit [Gv] in
theorem byts_take (l : List UInt8) (n : Nat) : (byts l).take n = byts (l.take n) := by simp [byts, List.map_take]
omit [Gv] in
theorem byts_drop (l : List UInt8) (n : Nat) : (byts l).drop n = byts (l.drop n) := by simp [byts, List.map_drop]
omit [Gv] in
theorem unbyte_byteC (x : UInt8) : unbyte (byteC x) = x := by
  simp only [byteC, unbyte]
  apply UInt8.toNat_inj.1
  have := x.toNat_lt
  simp
omit [Gv] in
theorem unbyts_byts (l : List UInt8) : unbyts (byts l) = l := by
  induction l with
  | nil => rfl
  | cons x r ih =>
    simp only [unbyts, byts, List.map_cons] at ih ⊢
    rw [ih, unbyte_byteC]
omit [Gv] in
theorem bytesOK_byts (l : List UInt8) : bytesOK (byts l) := by
  unfold bytesOK
  induction l with
  | nil => rfl
  | cons x r ih =>
    simp only [byts, List.map_cons, List.all_cons] at ih ⊢
    rw [ih]
    have := x.toNat_lt
    simp only [byteC, isByte, Bool.and_true, decide_eq_true_eq]
    omega
omit [Gv] in
theorem byts_single (x : UInt8) : [byteC x] = byts [x] := rfl
omit [Gv] in
theorem mulS_one (n : Nat) : mulS n 1 = n := by simp [mulS]
omit [Gv] in
theorem u8_lt (x : UInt8) : 0 ≤ (x.toNat : Int) ∧ (x.toNat : Int) < 256 := ⟨by omega, by have := x.toNat_lt; omega⟩

omit [Gv] in
theorem take_succ_getD {α : Type} (l : List α) (i : Nat) (d : α) (h : i < l.length) : l.take (i + 1) = l.take i ++ [l.getD i d] := by
  rw [List.take_add_one]
  simp [List.getD, h]

omit [Gv] in
theorem i64_min : IntKind.i64.min = -9223372036854775808 := by decide
omit [Gv] in
theorem i64_max : IntKind.i64.max = 9223372036854775807 := by decide
omit [Gv] in
theorem u8_min : IntKind.u8.min = 0 := by decide
omit [Gv] in
theorem u8_max : IntKind.u8.max = 255 := by decide

omit [Gv] in
theorem byts_headD (l : List UInt8) (i : Nat) (h : i < l.length) : ((byts l).drop i).headD .any = byteC (l.getD i 0) := by
  rw [byts_drop, List.drop_eq_getElem_cons h]
  simp [byts, List.getD, h]

omit [Gv] in
theorem byts_set (l : List UInt8) (i : Nat) (y : UInt8) (h : i < l.length) : (byts l).take i ++ [byteC y] ++ (byts l).drop (i + 1) = byts (l.set i y) := by
  rw [byts_take, byts_drop, byts_single, ← byts_append, ← byts_append, List.set_eq_take_append_cons_drop, if_pos h, List.append_assoc, List.singleton_append]

omit [Gv] in
theorem byts_snoc (M : List UInt8) (y : UInt8) : (byts M).take M.length ++ [byteC y] = byts (M ++ [y]) := by
  rw [byts_take, List.take_length, byts_single, byts_append]

omit [Gv] in
theorem sl_eq {b n m : Nat} (h : n = m) : avEq (.sl b 0 n) (.sl b 0 m) := by subst h; exact avEq_refl _

/-! Heads and tails of a row by a test of bytes. -/

def leadN (p : Int → Bool) (l : List UInt8) : Nat := (l.takeWhile fun x => p x.toNat).length
def trailN (p : Int → Bool) (l : List UInt8) : Nat := ((l.drop (leadN p l)).reverse.takeWhile fun x => p x.toNat).length
def stripF (p : Int → Bool) (l : List UInt8) : List UInt8 := (l.take (l.length - trailN p l)).drop (leadN p l)

omit [Gv] in
theorem tw_le {α : Type} (q : α → Bool) : ∀ l : List α, (l.takeWhile q).length ≤ l.length
  | [] => by simp
  | x :: r => by
    simp only [List.takeWhile_cons]
    split
    · have := tw_le q r; simp; omega
    · simp

omit [Gv] in
theorem tw_lt {α : Type} (q : α → Bool) (d : α) : ∀ (l : List α) (i : Nat), i < (l.takeWhile q).length → q (l.getD i d) = true
  | [], i, h => by simp at h
  | x :: r, i, h => by
    simp only [List.takeWhile_cons] at h
    split at h
    · cases i with
      | zero => simpa
      | succ i => simpa using tw_lt q d r i (by simpa using h)
    · simp at h

omit [Gv] in
theorem tw_stop {α : Type} (q : α → Bool) (d : α) : ∀ (l : List α), (l.takeWhile q).length < l.length → q (l.getD (l.takeWhile q).length d) = false
  | [], h => by simp at h
  | x :: r, h => by
    simp only [List.takeWhile_cons] at h ⊢
    split
    · rename_i hx
      rw [if_pos hx] at h
      simpa using tw_stop q d r (by simpa using h)
    · rename_i hx
      simpa using hx

omit [Gv] in
theorem lead_le (p : Int → Bool) (l : List UInt8) : leadN p l ≤ l.length := tw_le _ l
omit [Gv] in
theorem lead_lt {p : Int → Bool} {l : List UInt8} {i : Nat} (h : i < leadN p l) : p ((l.getD i 0).toNat : Int) = true := tw_lt (fun x : UInt8 => p x.toNat) 0 l i h
omit [Gv] in
theorem lead_stop {p : Int → Bool} {l : List UInt8} (h : leadN p l < l.length) : p ((l.getD (leadN p l) 0).toNat : Int) = false := tw_stop (fun x : UInt8 => p x.toNat) 0 l h

omit [Gv] in
theorem trail_le (p : Int → Bool) (l : List UInt8) : trailN p l ≤ l.length - leadN p l := by
  have := tw_le (fun x : UInt8 => p x.toNat) (l.drop (leadN p l)).reverse
  simpa [trailN] using this

omit [Gv] in
theorem rev_getD (l : List UInt8) (k j : Nat) (h : k + j < l.length) : (l.drop k).reverse.getD j 0 = l.getD (l.length - j - 1) 0 := by
  have h1 : j < (l.drop k).reverse.length := by simp; omega
  have h2 : l.length - j - 1 < l.length := by omega
  simp only [List.getD, List.getElem?_eq_getElem h1, List.getElem?_eq_getElem h2, Option.getD_some]
  rw [List.getElem_reverse, List.getElem_drop]
  congr 1
  simp only [List.length_drop]
  omega

omit [Gv] in
theorem trail_lt {p : Int → Bool} {l : List UInt8} {j : Nat} (h : j < trailN p l) : p ((l.getD (l.length - j - 1) 0).toNat : Int) = true := by
  have h1 := tw_lt (fun x : UInt8 => p x.toNat) 0 (l.drop (leadN p l)).reverse j h
  have h2 := trail_le p l
  rwa [rev_getD l (leadN p l) j (by omega)] at h1

omit [Gv] in
theorem trail_stop {p : Int → Bool} {l : List UInt8} (h : leadN p l + trailN p l < l.length) : p ((l.getD (l.length - trailN p l - 1) 0).toNat : Int) = false := by
  have h1 := tw_stop (fun x : UInt8 => p x.toNat) 0 (l.drop (leadN p l)).reverse (by simp [trailN] at h ⊢; omega)
  rwa [show ((l.drop (leadN p l)).reverse.takeWhile fun x : UInt8 => p x.toNat).length = trailN p l from rfl, rev_getD l (leadN p l) _ (by omega)] at h1

end Go.Proofs.Ytljgmgbjfjhjmaa
