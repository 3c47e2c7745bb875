/- Bytes that are encoded: the small case; what the document says of any text. -/
import Derived.Test.YtfaffnemfndkfabPctD
namespace Go.Proofs.Ytfaffnemfndkfab
open Go.RowKit
set_option linter.unusedVariables false
set_option linter.unusedSimpArgs false

def encSpec : Spec := fun args => match args with
  | [.c (.string t), .c (.int .i64 s)] => some (.c (str (encF s (sb t))), [(sb t).length ≤ 1000000000])
  | _ => none
def decSpec : Spec := fun args => match args with
  | [.c (.string t)] => some (.fs 1 (unescF (sb t)).length (byts (unescF (sb t))), [(sb t).length ≤ 1000000000])
  | _ => none

noncomputable def sg6 : Specs := sgBy [(7, inSpec), (8, encSpec), (6, decSpec)]
noncomputable def cl6 : CallT := aCall Try.prog sg6 500 8
theorem sg6_ok : ∀ f spec, sg6 f = some spec → SpecOK Try.prog f spec := sgBy_cons in_ok (sgBy_cons enc_ok (sgBy_cons dec_ok sgBy_nil))
theorem cl6_ok : CallOK Try.prog cl6 := aCall_ok mixed sg6_ok 500 8

noncomputable def smallRun : Option (AV × List Prop) := outcome Try.prog 4 (aBody Try.prog cl6 {} (lpBy []) 500 4 [] [])

theorem small_eq : smallRun = some (.c (.bool true), [(((0 : Int) : Int) ≤ ((127 : Int))),
 (((127 : Int) : Int) < ((256 : Int))),
 (((0 : Int) : Int) ≤ ((32 : Int))),
 (((32 : Int) : Int) < ((256 : Int))),
 (((0 : Int) : Int) ≤ ((96 : Int))),
 (((96 : Int) : Int) < ((256 : Int))),
 (((0 : Int) : Int) ≤ ((96 : Int))),
 (((96 : Int) : Int) < ((256 : Int))),
 (((0 : Int) : Int) ≤ ((35 : Int))),
 (((35 : Int) : Int) < ((256 : Int))),
 (((0 : Int) : Int) ≤ ((39 : Int))),
 (((39 : Int) : Int) < ((256 : Int))),
 (((0 : Int) : Int) ≤ ((39 : Int))),
 (((39 : Int) : Int) < ((256 : Int))),
 (((0 : Int) : Int) ≤ ((94 : Int))),
 (((94 : Int) : Int) < ((256 : Int))),
 (((0 : Int) : Int) ≤ ((124 : Int))),
 (((124 : Int) : Int) < ((256 : Int))),
 (((0 : Int) : Int) ≤ ((37 : Int))),
 (((37 : Int) : Int) < ((256 : Int))),
 (((0 : Int) : Int) ≤ ((32 : Int))),
 (((32 : Int) : Int) < ((256 : Int))),
 (((5 : Nat) : Nat) ≤ ((1000000000 : Nat))),
 (((13 : Nat) : Nat) ≤ ((1000000000 : Nat)))]) := by kernel_rfl

def smallSpec : Spec
  | [] => some (.c (.bool true), [])
  | _ => none

theorem small_ok : SpecOK Try.prog 4 smallSpec := by
  refine spec_of mixed cl6_ok fun args r q hs hq => ?_
  unfold smallSpec at hs
  split at hs
  · simp only [Option.some.injEq, Prod.mk.injEq] at hs
    obtain ⟨rfl, rfl⟩ := hs
    refine ⟨{}, lpBy [], 500, _, lpBy_nil, small_eq, ?_⟩
    repeat' apply And.intro
    all_goals first | decide | kernel_rfl | trivial
  · simp at hs

noncomputable def sgL : Specs := sgBy [(4, smallSpec), (7, inSpec), (8, encSpec), (6, decSpec)]
noncomputable def clL : CallT := aCall Try.prog sgL 500 8
theorem clL_ok : CallOK Try.prog clL := aCall_ok mixed (sgBy_cons small_ok (sgBy_cons in_ok (sgBy_cons enc_ok (sgBy_cons dec_ok sgBy_nil)))) 500 8

theorem u8_cast {a : Int} (h0 : 0 ≤ a) (h1 : a < 256) : ∃ c : UInt8, a = (c.toNat : Nat) := ⟨UInt8.ofNat a.toNat, by
  rw [UInt8.toNat_ofNat']
  omega⟩

/-! What holds of any text. -/

theorem enc_nil (s : Int) : encF s [] = [] := rfl
theorem enc_cons (s : Int) (c : UInt8) (r : List UInt8) : encF s (c :: r) = enc1F s c ++ encF s r := by simp [encF]
theorem enc_app (s : Int) (a b : List UInt8) : encF s (a ++ b) = encF s a ++ encF s b := by simp [encF]

theorem byte_all {p : UInt8 → Prop} (h : ∀ k : Fin 256, p (UInt8.ofNat k.val)) (c : UInt8) : p c := by
  have := h ⟨c.toNat, c.toNat_lt⟩
  simpa using this

theorem dg_hex {k : Nat} (h : k < 16) : dg (hexB k) = k := by
  have : ∀ k : Fin 16, dg (hexB k.val) = k.val := by decide +kernel
  exact this ⟨k, h⟩

theorem told_enc (c : UInt8) (r : List UInt8) : toldB (37 :: hexB (c.toNat / 16) :: hexB (c.toNat % 16) :: r) = true ∧ toldV (37 :: hexB (c.toNat / 16) :: hexB (c.toNat % 16) :: r) = (c.toNat : Nat) := by
  have hx := c.toNat_lt
  have h1 := dg_hex (k := c.toNat / 16) (by omega)
  have h2 := dg_hex (k := c.toNat % 16) (by omega)
  have ht : toldB (37 :: hexB (c.toNat / 16) :: hexB (c.toNat % 16) :: r) = true := told_if.2 ⟨by simp, rfl, by simp only [List.getD_cons_succ, List.getD_cons_zero, h1]; omega, by simp only [List.getD_cons_succ, List.getD_cons_zero, h2]; omega⟩
  refine ⟨ht, ?_⟩
  rw [toldV_yes ht]
  simp only [List.getD_cons_succ, List.getD_cons_zero, h1, h2]
  omega

theorem not_told {c : UInt8} {r : List UInt8} (h : c ≠ 37) : toldB (c :: r) = false := by
  rw [← Bool.not_eq_true, told_if]
  exact fun hh => h hh.2.1

/-- What was encoded is decoded as it was, if each % was encoded. -/
theorem unesc_enc (s : Int) : ∀ l : List UInt8, (∀ c ∈ l, c = 37 → inB s c = true) → unescF (encF s l) = l
  | [], _ => rfl
  | c :: r, h => by
    have ih := unesc_enc s r fun x hx => h x (.tail _ hx)
    rw [enc_cons]
    unfold enc1F
    split
    · obtain ⟨h1, h2⟩ := told_enc c (encF s r)
      show unescF (37 :: hexB (c.toNat / 16) :: hexB (c.toNat % 16) :: encF s r) = _
      rw [unesc_told h1, h2]
      show UInt8.ofNat ((c.toNat : Int)).toNat :: unescF (encF s r) = _
      rw [ih, Int.toNat_natCast, UInt8.ofNat_toNat]
    · rename_i hn
      show unescF (c :: encF s r) = _
      rw [unesc_not (not_told fun e => hn (h c (.head _) e)), ih]

theorem in6_37 : inB 6 37 = true := by decide

theorem unesc_plain : ∀ l : List UInt8, (∀ c ∈ l, c ≠ 37) → unescF l = l
  | [], _ => rfl
  | c :: r, h => by rw [unesc_not (not_told (h c (.head _))), unesc_plain r fun x hx => h x (.tail _ hx)]

/-- The signs that stand for others: % and digits are in no set but the last one. -/
theorem in_hex {s : Int} (h : s ≠ 6) {k : Nat} (hk : k < 16) : inB s (hexB k) = false := by
  by_cases hs : 0 ≤ s ∧ s ≤ 6
  · have : ∀ t : Fin 6, ∀ k : Fin 16, inB (t.val : Int) (hexB k.val) = false := by decide +kernel
    have := this ⟨s.toNat, by omega⟩ ⟨k, hk⟩
    have e : ((s.toNat : Nat) : Int) = s := Int.toNat_of_nonneg hs.1
    simpa only [e] using this
  · exact inI_out hs
theorem in_37 {s : Int} (h : s ≠ 6) : inB s 37 = false := by
  by_cases hs : 0 ≤ s ∧ s ≤ 6
  · have : ∀ t : Fin 6, inB (t.val : Int) 37 = false := by decide +kernel
    have := this ⟨s.toNat, by omega⟩
    have e : ((s.toNat : Nat) : Int) = s := Int.toNat_of_nonneg hs.1
    simpa only [e] using this
  · exact inI_out hs
theorem in_hexA (s : Int) {k : Nat} (hk : k < 16) : inB s (hexB k) = false := by
  by_cases h : s = 6
  · subst h
    have : ∀ k : Fin 16, inB 6 (hexB k.val) = false := by decide +kernel
    exact this ⟨k, hk⟩
  · exact in_hex h hk

theorem enc_left (s : Int) : ∀ l : List UInt8, ∀ x ∈ encF s l, x ≠ 37 → inB s x = false
  | [], x, hx, _ => by simp [encF] at hx
  | c :: r, x, hx, h => by
    rw [enc_cons, List.mem_append] at hx
    rcases hx with hx | hx
    · have hc := c.toNat_lt
      unfold enc1F at hx
      split at hx
      · simp only [List.mem_cons, List.not_mem_nil, or_false] at hx
        rcases hx with rfl | rfl | rfl
        · exact absurd rfl h
        · exact in_hexA s (by omega)
        · exact in_hexA s (by omega)
      · rename_i hn
        simp only [List.mem_cons, List.not_mem_nil, or_false] at hx
        subst hx
        simpa using hn
    · exact enc_left s r x hx h

theorem enc_id (s : Int) : ∀ l : List UInt8, (∀ x ∈ l, inB s x = false) → encF s l = l
  | [], _ => rfl
  | c :: r, h => by
    rw [enc_cons, enc_id s r fun x hx => h x (.tail _ hx)]
    unfold enc1F
    rw [h c (.head _)]
    rfl

theorem enc_enc {s : Int} (h : s ≠ 6) (l : List UInt8) : encF s (encF s l) = encF s l := by
  refine enc_id s _ fun x hx => ?_
  by_cases e : x = 37
  · subst e; exact in_37 h
  · exact enc_left s l x hx e

def cntF (s : Int) (l : List UInt8) : Nat := l.countP (inB s)
theorem enc_length (s : Int) : ∀ l : List UInt8, (encF s l).length = l.length + 2 * cntF s l
  | [] => rfl
  | c :: r => by
    rw [enc_cons, List.length_append, enc_length s r]
    unfold enc1F cntF
    rw [List.countP_cons]
    cases inB s c <;> simp <;> omega

end Go.Proofs.Ytfaffnemfndkfab
