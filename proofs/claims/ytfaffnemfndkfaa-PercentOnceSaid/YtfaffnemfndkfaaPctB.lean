/- Bytes that are encoded: digits, and the document's own sets. -/
import Derived.Test.YtfaffnemfndkfaaPctA
namespace Go.Proofs.Ytfaffnemfndkfaa
open Go.RowKit
set_option linter.unusedVariables false
set_option linter.unusedSimpArgs false

def letterI (n : Int) : Bool := decide (65 ≤ n ∧ n ≤ 90) || decide (97 ≤ n ∧ n ≤ 122)
def largeI (n : Int) : Bool := decide (65 ≤ n ∧ n ≤ 90)
def worthI (n : Int) : Int := if 48 ≤ n ∧ n ≤ 57 then n - 48 else if 97 ≤ n ∧ n ≤ 122 then n - 87 else if 65 ≤ n ∧ n ≤ 90 then n - 55 else -1
def digitI (n b : Int) : Int := if worthI n < b then worthI n else -1

theorem letter_ok : SpecOK Try.prog 15 (byteSpec fun n => .bool (letterI n)) := byteSpec_ok mixed cl0_ok (by kernel_rfl)
theorem large_ok : SpecOK Try.prog 21 (byteSpec fun n => .bool (largeI n)) := byteSpec_ok mixed cl0_ok (by kernel_rfl)
theorem worth_ok : SpecOK Try.prog 22 (byteSpec fun n => .int .i64 (worthI n)) := byteSpec_ok mixed cl0_ok (by kernel_rfl)

noncomputable def clW : CallT := aCall Try.prog (sgBy [(22, byteSpec fun n => .int .i64 (worthI n)), (21, byteSpec fun n => .bool (largeI n))]) 500 8
theorem clW_ok : CallOK Try.prog clW := aCall_ok mixed (sgBy_cons worth_ok (sgBy_cons large_ok sgBy_nil)) 500 8

def digitSpec : Spec
  | [.c (.int .u8 n), .c (.int .i64 b)] => some (.c (.int .i64 (digitI n b)), [0 ≤ n, n < 256])
  | _ => none

theorem digit_ok : SpecOK Try.prog 16 digitSpec := by
  refine spec_of mixed clW_ok fun args r q hs hq => ?_
  unfold digitSpec at hs
  split at hs
  · rename_i n b
    simp only [Option.some.injEq, Prod.mk.injEq] at hs
    obtain ⟨rfl, rfl⟩ := hs
    obtain ⟨h0, h1, _⟩ := hq
    by_cases hb : worthI n < b
    · have e : digitI n b = worthI n := if_pos hb
      rw [e]
      exact ⟨⟨true, bs [(10, true)]⟩, lpBy [], 60, [0 ≤ n, n < 256, decide (worthI n < b) = true], lpBy_nil, by kernel_rfl, h0, h1, decide_eq_true hb, trivial⟩
    · have e : digitI n b = -1 := if_neg hb
      rw [e]
      exact ⟨⟨true, bs [(10, false)]⟩, lpBy [], 60, [0 ≤ n, n < 256, decide (worthI n < b) = false], lpBy_nil, by kernel_rfl, h0, h1, decide_eq_false hb, trivial⟩
  · simp at hs

theorem rdigit_ok : SpecOK Try.prog 20 digitSpec := by
  refine spec_of mixed clW_ok fun args r q hs hq => ?_
  unfold digitSpec at hs
  split at hs
  · rename_i n b
    simp only [Option.some.injEq, Prod.mk.injEq] at hs
    obtain ⟨rfl, rfl⟩ := hs
    obtain ⟨h0, h1, _⟩ := hq
    have en : Int.ofNat n.toNat = n := Int.toNat_of_nonneg h0
    by_cases hb : worthI n < b
    · have e : digitI n b = worthI n := if_pos hb
      rw [e]
      have hall : (List.range 256).map (fun n => outcome Try.prog 20 (aBody Try.prog clW ⟨false, bs [(37, false)]⟩ (lpBy []) 60 20 [.c (.int .u8 (Int.ofNat n)), .c (.int .i64 b)] [])) = (List.range 256).map (fun n => some (.c (.int .i64 (worthI (Int.ofNat n))), [decide (worthI (Int.ofNat n) ≥ b) = false])) := by kernel_rfl
      have hh := byAll 256 hall n.toNat (by omega)
      simp only [en] at hh
      exact ⟨_, lpBy [], 60, _, lpBy_nil, hh, decide_eq_false (by omega), trivial⟩
    · have e : digitI n b = -1 := if_neg hb
      rw [e]
      have hall : (List.range 256).map (fun n => outcome Try.prog 20 (aBody Try.prog clW ⟨false, bs [(37, true)]⟩ (lpBy []) 60 20 [.c (.int .u8 (Int.ofNat n)), .c (.int .i64 b)] [])) = (List.range 256).map (fun n => some (.c (.int .i64 (-1)), [decide (worthI (Int.ofNat n) ≥ b) = true])) := by kernel_rfl
      have hh := byAll 256 hall n.toNat (by omega)
      simp only [en] at hh
      exact ⟨_, lpBy [], 60, _, lpBy_nil, hh, decide_eq_true (by omega), trivial⟩
  · simp at hs

theorem u8_wf {a : Int} (h : (Lit.int .u8 a).wf = true) : 0 ≤ a ∧ a < 256 := by
  simp [Lit.wf, IntKind.min, IntKind.max, IntKind.signed, IntKind.bits] at h; omega

/-! Is a byte among a text's? -/

def amK (l : List UInt8) (n : Int) : Nat := l.findIdx fun x => ((x.toNat : Nat) : Int) == n
def amB (l : List UInt8) (n : Int) : Bool := decide (amK l n < l.length)
def amS (l : List UInt8) (n : Int) (i : Nat) : St := ⟨frame 17 [(0, .c (str l)), (1, .c (.int .u8 n)), (5, .c (.int .i64 i))], []⟩
def amT (l : List UInt8) (n : Int) : St := ⟨frame 17 [(4, .c (.bool true))], []⟩

theorem amr_1 (l : List UInt8) (n : Int) (i : Nat) : roundOut (⟨[], [4], []⟩) (aCode Try.prog cl0 ⟨true, bs [(9, true), (16, true)] ++ ([])⟩ (lpBy ([])) 60 (lbody Try.prog 18 2) (amS l n i)) = some (.ret, amT l n, [((decide ((↑i : Int) < (↑l.length : Int)) : Bool)) = (true),
 (((0 : Int) : Int) ≤ ((↑i : Int))),
 (((↑i : Int) : Int) < ((↑l.length : Int))),
 (((↑(l.getD i (0 : UInt8)).toNat : Int) == n : Bool)) = (true)]) := by kernel_rfl

theorem amr_2 (l : List UInt8) (n : Int) (i : Nat) : roundOut (⟨[], [0, 1, 5], []⟩) (aCode Try.prog cl0 ⟨true, bs [(9, true), (16, false)] ++ ([])⟩ (lpBy ([])) 60 (lbody Try.prog 18 2) (amS l n i)) = some (.normal, amS l n (i + 1), [((decide ((↑i : Int) < (↑l.length : Int)) : Bool)) = (true),
 (((0 : Int) : Int) ≤ ((↑i : Int))),
 (((↑i : Int) : Int) < ((↑l.length : Int))),
 (((↑(l.getD i (0 : UInt8)).toNat : Int) == n : Bool)) = (false),
 ((IntKind.i64.min : Int) ≤ ((↑i : Int) + (1 : Int))),
 (((↑i : Int) + (1 : Int) : Int) ≤ (IntKind.i64.max))]) := by kernel_rfl

theorem amr_3 (l : List UInt8) (n : Int) (i : Nat) : roundOut (⟨[], [0, 1, 5], []⟩) (aCode Try.prog cl0 ⟨true, bs [(9, false)] ++ ([])⟩ (lpBy ([])) 60 (lbody Try.prog 18 2) (amS l n i)) = some (.exit 0, amS l n i, [((decide ((↑i : Int) < (↑l.length : Int)) : Bool)) = (false)]) := by kernel_rfl

theorem am_lt {l : List UInt8} {n : Int} {i : Nat} (h : i < amK l n) : ¬ ((l.getD i 0).toNat : Int) = n := by
  have := List.not_of_lt_findIdx h
  have hl : i < l.length := Nat.lt_of_lt_of_le h (List.findIdx_le_length)
  simpa [List.getD, hl] using this
theorem am_at {l : List UInt8} {n : Int} (h : amK l n < l.length) : ((l.getD (amK l n) 0).toNat : Int) = n := by
  have := List.findIdx_getElem (w := h)
  have e : l.getD (amK l n) 0 = l[amK l n] := by simp [List.getD, h]
  rw [e]
  exact eq_of_beq this
theorem am_le (l : List UInt8) (n : Int) : amK l n ≤ l.length := List.findIdx_le_length

theorem am_go (l : List UInt8) (n : Int) (hl : l.length ≤ 1000000000) (i : Nat) (h : i < amK l n) : Round Ext0 Try.prog cl0 (lbody Try.prog 18 2) (amS l n i) .normal (amS l n (i + 1)) := by
  have h1 := am_lt h
  have h2 := am_le l n
  refine ⟨_, _, _, _, _, lpBy_nil, List.nodup_nil, amr_2 l n i, ?_⟩
  simp only [allP, and_true, decide_eq_true_eq, beq_eq_false_iff_ne, ne_eq, i64_min, i64_max]
  omega
theorem am_yes (l : List UInt8) (n : Int) (hl : l.length ≤ 1000000000) (h : amK l n < l.length) : Tri Ext0 Try.prog (.loop (lbody Try.prog 18 2)) (amS l n 0) .ret (amT l n) := by
  refine loop_up mixed cl0_ok (amS l n) (amK l n) (by simp) (am_go l n hl) ?_ 0 (Nat.zero_le _)
  have h1 := am_at h
  refine ⟨_, _, _, _, _, lpBy_nil, List.nodup_nil, amr_1 l n (amK l n), ?_⟩
  simp only [allP, and_true, decide_eq_true_eq, beq_iff_eq]
  omega
theorem am_no (l : List UInt8) (n : Int) (hl : l.length ≤ 1000000000) (h : ¬ amK l n < l.length) : Tri Ext0 Try.prog (.loop (lbody Try.prog 18 2)) (amS l n 0) (.exit 0) (amS l n (amK l n)) := by
  refine loop_up mixed cl0_ok (amS l n) (amK l n) (by simp) (am_go l n hl) ?_ 0 (Nat.zero_le _)
  refine ⟨_, _, _, _, _, lpBy_nil, List.nodup_nil, amr_3 l n (amK l n), ?_⟩
  simp only [allP, and_true, decide_eq_false_iff_not]
  omega

noncomputable def amLp1 (l : List UInt8) (n : Int) : List (Nat × Lp) := [(2, ⟨lbody Try.prog 18 2, ⟨[], [0, 1, 5], []⟩, amS l n 0, .ret, amT l n⟩)]
noncomputable def amLp2 (l : List UInt8) (n : Int) : List (Nat × Lp) := [(2, ⟨lbody Try.prog 18 2, ⟨[], [0, 1, 5], []⟩, amS l n 0, .exit 0, amS l n (amK l n)⟩)]

theorem am1_1 (l : List UInt8) (n : Int) : outcome Try.prog 18 (aBody Try.prog cl0 ⟨true, bs [] ++ ([])⟩ (lpBy (amLp1 l n)) 60 18 ([.c (str l), .c (.int .u8 n)]) ([])) = some ((AV.c ((Value.bool true))), [((lbody Try.prog (18 : FuncId) (2 : Nat) : Go.Code)) = (lbody Try.prog (18 : FuncId) (2 : Nat)),
 ((amS l n (0 : Nat) : Go.Proofs.Ytfaffnemfndkfaa.St)) = (amS l n (0 : Nat))]) := by kernel_rfl

theorem am1_all (l : List UInt8) (n : Int)  : ∃ (h : Hints) (p : List Prop), outcome Try.prog 18 (aBody Try.prog cl0 h (lpBy (amLp1 l n)) 60 18 ([.c (str l), .c (.int .u8 n)]) ([])) = some (.c (.bool true), p) ∧ allP p := by
  have eR := am1_1 l n
  refine ⟨_, _, eR.trans (congrArg (fun r => some (r, _)) ?_), ?_⟩
  · rfl
  · simp [allP]


theorem am2_1 (l : List UInt8) (n : Int) : outcome Try.prog 18 (aBody Try.prog cl0 ⟨true, bs [] ++ ([])⟩ (lpBy (amLp2 l n)) 60 18 ([.c (str l), .c (.int .u8 n)]) ([])) = some ((AV.c ((Value.bool false))), [((lbody Try.prog (18 : FuncId) (2 : Nat) : Go.Code)) = (lbody Try.prog (18 : FuncId) (2 : Nat)),
 ((amS l n (0 : Nat) : Go.Proofs.Ytfaffnemfndkfaa.St)) = (amS l n (0 : Nat))]) := by kernel_rfl

theorem am2_all (l : List UInt8) (n : Int)  : ∃ (h : Hints) (p : List Prop), outcome Try.prog 18 (aBody Try.prog cl0 h (lpBy (amLp2 l n)) 60 18 ([.c (str l), .c (.int .u8 n)]) ([])) = some (.c (.bool false), p) ∧ allP p := by
  have eR := am2_1 l n
  refine ⟨_, _, eR.trans (congrArg (fun r => some (r, _)) ?_), ?_⟩
  · rfl
  · simp [allP]

def amSpec : Spec
  | [.c (.string s), .c (.int .u8 n)] => some (.c (.bool (amB (sb s) n)), [(sb s).length ≤ 1000000000])
  | _ => none

theorem am_ok : SpecOK Try.prog 18 amSpec := by
  refine spec_of mixed cl0_ok fun args r q hs hq => ?_
  unfold amSpec at hs
  split at hs
  · rename_i s n
    simp only [Option.some.injEq, Prod.mk.injEq] at hs
    obtain ⟨rfl, rfl⟩ := hs
    obtain ⟨⟨⟨l⟩⟩, rfl⟩ : ∃ b : ByteArray, b = s := ⟨s, rfl⟩
    have hl : l.length ≤ 1000000000 := hq.1
    by_cases h : amK l n < l.length
    · obtain ⟨hh, p, e, hp⟩ := am1_all l n
      have hb : amB l n = true := decide_eq_true h
      rw [show sb ⟨⟨l⟩⟩ = l from rfl, hb]
      exact ⟨_, _, _, _, lpBy_cons lpBy_nil List.nodup_nil (am_yes l n hl h), e, hp⟩
    · obtain ⟨hh, p, e, hp⟩ := am2_all l n
      have hb : amB l n = false := decide_eq_false h
      rw [show sb ⟨⟨l⟩⟩ = l from rfl, hb]
      exact ⟨_, _, _, _, lpBy_cons lpBy_nil List.nodup_nil (am_no l n hl h), e, hp⟩
  · simp at hs

theorem am_has {l : List UInt8} {n : Int} (h0 : 0 ≤ n) (h1 : n < 256) (m : List Int) (h : ∀ k : Fin 256, amB l (k.val : Int) = hasI m (k.val : Int)) : amB l n = hasI m n := by
  have e : ((n.toNat : Nat) : Int) = n := Int.toNat_of_nonneg h0
  have := h ⟨n.toNat, by omega⟩
  simp only [e] at this
  exact this

noncomputable def clM : CallT := aCall Try.prog (sgBy [(18, amSpec)]) 500 8
theorem clM_ok : CallOK Try.prog clM := aCall_ok mixed (sgBy_cons am_ok sgBy_nil) 500 8

theorem rin_1 (s n : Int) : outcome Try.prog 10 (aBody Try.prog clM ⟨true, bs [(7, true)] ++ ([])⟩ (lpBy ([])) 60 10 ([.c (.int .i64 s), .c (.int .u8 n)]) ([])) = some ((AV.c ((Value.bool false))), [((decide (s < (0 : Int)) : Bool)) = (true)]) := by kernel_rfl

theorem rin_2 (s n : Int) : outcome Try.prog 10 (aBody Try.prog clM ⟨true, bs [(7, false), (10, true)] ++ ([])⟩ (lpBy ([])) 60 10 ([.c (.int .i64 s), .c (.int .u8 n)]) ([])) = some ((AV.c ((Value.bool false))), [((decide (s < (0 : Int)) : Bool)) = (false),
 ((decide (s > (6 : Int)) : Bool)) = (true)]) := by kernel_rfl

theorem rin_3 (s n : Int) : outcome Try.prog 10 (aBody Try.prog clM ⟨true, bs [(7, false), (10, false), (13, true)] ++ ([])⟩ (lpBy ([])) 60 10 ([.c (.int .i64 s), .c (.int .u8 n)]) ([])) = some ((AV.c ((Value.bool true))), [((decide (s < (0 : Int)) : Bool)) = (false),
 ((decide (s > (6 : Int)) : Bool)) = (false),
 ((decide (n < (32 : Int)) : Bool)) = (true)]) := by kernel_rfl

theorem rin_4 (s n : Int) : outcome Try.prog 10 (aBody Try.prog clM ⟨true, bs [(7, false), (10, false), (13, false), (16, true)] ++ ([])⟩ (lpBy ([])) 60 10 ([.c (.int .i64 s), .c (.int .u8 n)]) ([])) = some ((AV.c ((Value.bool true))), [((decide (s < (0 : Int)) : Bool)) = (false),
 ((decide (s > (6 : Int)) : Bool)) = (false),
 ((decide (n < (32 : Int)) : Bool)) = (false),
 ((decide (n > (126 : Int)) : Bool)) = (true)]) := by kernel_rfl

theorem rin_5 (s n : Int) : outcome Try.prog 10 (aBody Try.prog clM ⟨true, bs [(7, false), (10, false), (13, false), (16, false), (20, true)] ++ ([])⟩ (lpBy ([])) 60 10 ([.c (.int .i64 s), .c (.int .u8 n)]) ([])) = some ((AV.c ((Value.bool (amB [(32 : UInt8), (34 : UInt8), (60 : UInt8), (62 : UInt8), (96 : UInt8)] n)))), [((decide (s < (0 : Int)) : Bool)) = (false),
 ((decide (s > (6 : Int)) : Bool)) = (false),
 ((decide (n < (32 : Int)) : Bool)) = (false),
 ((decide (n > (126 : Int)) : Bool)) = (false),
 ((s == (1 : Int) : Bool)) = (true),
 (((5 : Nat) : Nat) ≤ ((1000000000 : Nat)))]) := by kernel_rfl

theorem rin_6 (s n : Int) : outcome Try.prog 10 (aBody Try.prog clM ⟨true, bs [(7, false), (10, false), (13, false), (16, false), (20, false), (22, true)] ++ ([])⟩ (lpBy ([])) 60 10 ([.c (.int .i64 s), .c (.int .u8 n)]) ([])) = some ((AV.c ((Value.bool (amB [(32 : UInt8), (34 : UInt8), (35 : UInt8), (60 : UInt8), (62 : UInt8)] n)))), [((decide (s < (0 : Int)) : Bool)) = (false),
 ((decide (s > (6 : Int)) : Bool)) = (false),
 ((decide (n < (32 : Int)) : Bool)) = (false),
 ((decide (n > (126 : Int)) : Bool)) = (false),
 ((s == (1 : Int) : Bool)) = (false),
 ((s == (2 : Int) : Bool)) = (true),
 (((5 : Nat) : Nat) ≤ ((1000000000 : Nat)))]) := by kernel_rfl

theorem rin_7 (s n : Int) : outcome Try.prog 10 (aBody Try.prog clM ⟨true, bs [(7, false), (10, false), (13, false), (16, false), (20, false), (22, false), (24, true)] ++ ([])⟩ (lpBy ([])) 60 10 ([.c (.int .i64 s), .c (.int .u8 n)]) ([])) = some ((AV.c ((Value.bool (amB [(32 : UInt8), (34 : UInt8), (35 : UInt8), (60 : UInt8), (62 : UInt8), (39 : UInt8)] n)))), [((decide (s < (0 : Int)) : Bool)) = (false),
 ((decide (s > (6 : Int)) : Bool)) = (false),
 ((decide (n < (32 : Int)) : Bool)) = (false),
 ((decide (n > (126 : Int)) : Bool)) = (false),
 ((s == (1 : Int) : Bool)) = (false),
 ((s == (2 : Int) : Bool)) = (false),
 ((s == (3 : Int) : Bool)) = (true),
 (((6 : Nat) : Nat) ≤ ((1000000000 : Nat)))]) := by kernel_rfl

theorem rin_8 (s n : Int) : outcome Try.prog 10 (aBody Try.prog clM ⟨true, bs [(7, false), (10, false), (13, false), (16, false), (20, false), (22, false), (24, false), (26, true)] ++ ([])⟩ (lpBy ([])) 60 10 ([.c (.int .i64 s), .c (.int .u8 n)]) ([])) = some ((AV.c ((Value.bool (amB
  [(32 : UInt8), (34 : UInt8), (35 : UInt8), (60 : UInt8), (62 : UInt8), (63 : UInt8), (94 : UInt8), (96 : UInt8),
    (123 : UInt8), (125 : UInt8)]
  n)))), [((decide (s < (0 : Int)) : Bool)) = (false),
 ((decide (s > (6 : Int)) : Bool)) = (false),
 ((decide (n < (32 : Int)) : Bool)) = (false),
 ((decide (n > (126 : Int)) : Bool)) = (false),
 ((s == (1 : Int) : Bool)) = (false),
 ((s == (2 : Int) : Bool)) = (false),
 ((s == (3 : Int) : Bool)) = (false),
 ((s == (4 : Int) : Bool)) = (true),
 (((10 : Nat) : Nat) ≤ ((1000000000 : Nat)))]) := by kernel_rfl

theorem rin_9 (s n : Int) : outcome Try.prog 10 (aBody Try.prog clM ⟨true, bs [(7, false), (10, false), (13, false), (16, false), (20, false), (22, false), (24, false), (26, false), (28, true)] ++ ([])⟩ (lpBy ([])) 60 10 ([.c (.int .i64 s), .c (.int .u8 n)]) ([])) = some ((AV.c ((Value.bool (amB
  [(32 : UInt8), (34 : UInt8), (35 : UInt8), (60 : UInt8), (62 : UInt8), (63 : UInt8), (94 : UInt8), (96 : UInt8),
    (123 : UInt8), (125 : UInt8), (47 : UInt8), (58 : UInt8), (59 : UInt8), (61 : UInt8), (64 : UInt8), (91 : UInt8),
    (92 : UInt8), (93 : UInt8), (124 : UInt8)]
  n)))), [((decide (s < (0 : Int)) : Bool)) = (false),
 ((decide (s > (6 : Int)) : Bool)) = (false),
 ((decide (n < (32 : Int)) : Bool)) = (false),
 ((decide (n > (126 : Int)) : Bool)) = (false),
 ((s == (1 : Int) : Bool)) = (false),
 ((s == (2 : Int) : Bool)) = (false),
 ((s == (3 : Int) : Bool)) = (false),
 ((s == (4 : Int) : Bool)) = (false),
 ((s == (5 : Int) : Bool)) = (true),
 (((19 : Nat) : Nat) ≤ ((1000000000 : Nat)))]) := by kernel_rfl

theorem rin_10 (s n : Int) : outcome Try.prog 10 (aBody Try.prog clM ⟨true, bs [(7, false), (10, false), (13, false), (16, false), (20, false), (22, false), (24, false), (26, false), (28, false), (30, true)] ++ ([])⟩ (lpBy ([])) 60 10 ([.c (.int .i64 s), .c (.int .u8 n)]) ([])) = some ((AV.c ((Value.bool (amB
  [(32 : UInt8), (34 : UInt8), (35 : UInt8), (60 : UInt8), (62 : UInt8), (63 : UInt8), (94 : UInt8), (96 : UInt8),
    (123 : UInt8), (125 : UInt8), (47 : UInt8), (58 : UInt8), (59 : UInt8), (61 : UInt8), (64 : UInt8), (91 : UInt8),
    (92 : UInt8), (93 : UInt8), (124 : UInt8), (36 : UInt8), (37 : UInt8), (38 : UInt8), (43 : UInt8), (44 : UInt8)]
  n)))), [((decide (s < (0 : Int)) : Bool)) = (false),
 ((decide (s > (6 : Int)) : Bool)) = (false),
 ((decide (n < (32 : Int)) : Bool)) = (false),
 ((decide (n > (126 : Int)) : Bool)) = (false),
 ((s == (1 : Int) : Bool)) = (false),
 ((s == (2 : Int) : Bool)) = (false),
 ((s == (3 : Int) : Bool)) = (false),
 ((s == (4 : Int) : Bool)) = (false),
 ((s == (5 : Int) : Bool)) = (false),
 ((s == (6 : Int) : Bool)) = (true),
 (((24 : Nat) : Nat) ≤ ((1000000000 : Nat)))]) := by kernel_rfl

theorem rin_11 (s n : Int) : outcome Try.prog 10 (aBody Try.prog clM ⟨true, bs [(7, false), (10, false), (13, false), (16, false), (20, false), (22, false), (24, false), (26, false), (28, false), (30, false)] ++ ([])⟩ (lpBy ([])) 60 10 ([.c (.int .i64 s), .c (.int .u8 n)]) ([])) = some ((AV.c ((Value.bool false))), [((decide (s < (0 : Int)) : Bool)) = (false),
 ((decide (s > (6 : Int)) : Bool)) = (false),
 ((decide (n < (32 : Int)) : Bool)) = (false),
 ((decide (n > (126 : Int)) : Bool)) = (false),
 ((s == (1 : Int) : Bool)) = (false),
 ((s == (2 : Int) : Bool)) = (false),
 ((s == (3 : Int) : Bool)) = (false),
 ((s == (4 : Int) : Bool)) = (false),
 ((s == (5 : Int) : Bool)) = (false),
 ((s == (6 : Int) : Bool)) = (false),
 (((0 : Nat) : Nat) ≤ ((1000000000 : Nat)))]) := by kernel_rfl

theorem rin_all (s n : Int) (h0 : 0 ≤ n) (h1 : n < 256) : ∃ (h : Hints) (p : List Prop), outcome Try.prog 10 (aBody Try.prog clM h (lpBy ([])) 60 10 ([.c (.int .i64 s), .c (.int .u8 n)]) ([])) = some (.c (.bool (inI s n)), p) ∧ allP p := by
  cases hc7 : (decide (s < (0 : Int)) : Bool) with
  | true =>
    have eR := rin_1 s n
    refine ⟨_, _, eR.trans (congrArg (fun r => some (r, _)) ?_), ?_⟩
    · clear eR
      have f0 := am_has h0 h1 (l := []) [] (by decide +kernel)
      have f1 := am_has h0 h1 (l := [32, 34, 60, 62, 96]) [32, 34, 60, 62, 96] (by decide +kernel)
      have f2 := am_has h0 h1 (l := [32, 34, 35, 60, 62]) [32, 34, 35, 60, 62] (by decide +kernel)
      have f3 := am_has h0 h1 (l := [32, 34, 35, 60, 62, 39]) [32, 34, 35, 60, 62, 39] (by decide +kernel)
      have f4 := am_has h0 h1 (l := [32, 34, 35, 60, 62, 63, 94, 96, 123, 125]) [32, 34, 35, 60, 62, 63, 94, 96, 123, 125] (by decide +kernel)
      have f5 := am_has h0 h1 (l := [32, 34, 35, 60, 62, 63, 94, 96, 123, 125, 47, 58, 59, 61, 64, 91, 92, 93, 124]) [32, 34, 35, 60, 62, 63, 94, 96, 123, 125, 47, 58, 59, 61, 64, 91, 92, 93, 124] (by decide +kernel)
      have f6 := am_has h0 h1 (l := [32, 34, 35, 60, 62, 63, 94, 96, 123, 125, 47, 58, 59, 61, 64, 91, 92, 93, 124, 36, 37, 38, 43, 44]) [32, 34, 35, 60, 62, 63, 94, 96, 123, 125, 47, 58, 59, 61, 64, 91, 92, 93, 124, 36, 37, 38, 43, 44] (by decide +kernel)
      simp only [f0, f1, f2, f3, f4, f5, f6, beq_iff_eq, beq_eq_false_iff_ne, decide_eq_true_eq, decide_eq_false_iff_not, ne_eq] at *
      refine congrArg (fun b => AV.c (Value.bool b)) ?_
      clear f0 f1 f2 f3 f4 f5 f6
      first
        | (rw [inI_out (by omega)]; done)
        | (subst s; simp [inI, hasI, *, Bool.or_assoc]; done)
        | (subst s; simp [inI, hasI, *, Bool.or_assoc]; rw [show (n == (39 : Int)) = ((39 : Int) == n) from BEq.comm]; done)
        | (have : s = 0 := by omega
           subst s; simp [inI, hasI, *]; done)
        | (have q1 : 0 ≤ s ∧ s ≤ 6 := by omega
           have q2 : n < 32 ∨ 126 < n := by omega
           simp [inI, q1, q2]; done)
    · clear eR
      simp only [allP, *, and_self, and_true, true_and]
      try decide
  | false =>
    cases hc10 : (decide (s > (6 : Int)) : Bool) with
    | true =>
      have eR := rin_2 s n
      refine ⟨_, _, eR.trans (congrArg (fun r => some (r, _)) ?_), ?_⟩
      · clear eR
        have f0 := am_has h0 h1 (l := []) [] (by decide +kernel)
        have f1 := am_has h0 h1 (l := [32, 34, 60, 62, 96]) [32, 34, 60, 62, 96] (by decide +kernel)
        have f2 := am_has h0 h1 (l := [32, 34, 35, 60, 62]) [32, 34, 35, 60, 62] (by decide +kernel)
        have f3 := am_has h0 h1 (l := [32, 34, 35, 60, 62, 39]) [32, 34, 35, 60, 62, 39] (by decide +kernel)
        have f4 := am_has h0 h1 (l := [32, 34, 35, 60, 62, 63, 94, 96, 123, 125]) [32, 34, 35, 60, 62, 63, 94, 96, 123, 125] (by decide +kernel)
        have f5 := am_has h0 h1 (l := [32, 34, 35, 60, 62, 63, 94, 96, 123, 125, 47, 58, 59, 61, 64, 91, 92, 93, 124]) [32, 34, 35, 60, 62, 63, 94, 96, 123, 125, 47, 58, 59, 61, 64, 91, 92, 93, 124] (by decide +kernel)
        have f6 := am_has h0 h1 (l := [32, 34, 35, 60, 62, 63, 94, 96, 123, 125, 47, 58, 59, 61, 64, 91, 92, 93, 124, 36, 37, 38, 43, 44]) [32, 34, 35, 60, 62, 63, 94, 96, 123, 125, 47, 58, 59, 61, 64, 91, 92, 93, 124, 36, 37, 38, 43, 44] (by decide +kernel)
        simp only [f0, f1, f2, f3, f4, f5, f6, beq_iff_eq, beq_eq_false_iff_ne, decide_eq_true_eq, decide_eq_false_iff_not, ne_eq] at *
        refine congrArg (fun b => AV.c (Value.bool b)) ?_
        clear f0 f1 f2 f3 f4 f5 f6
        first
          | (rw [inI_out (by omega)]; done)
          | (subst s; simp [inI, hasI, *, Bool.or_assoc]; done)
          | (subst s; simp [inI, hasI, *, Bool.or_assoc]; rw [show (n == (39 : Int)) = ((39 : Int) == n) from BEq.comm]; done)
          | (have : s = 0 := by omega
             subst s; simp [inI, hasI, *]; done)
          | (have q1 : 0 ≤ s ∧ s ≤ 6 := by omega
             have q2 : n < 32 ∨ 126 < n := by omega
             simp [inI, q1, q2]; done)
      · clear eR
        simp only [allP, *, and_self, and_true, true_and]
        try decide
    | false =>
      cases hc13 : (decide (n < (32 : Int)) : Bool) with
      | true =>
        have eR := rin_3 s n
        refine ⟨_, _, eR.trans (congrArg (fun r => some (r, _)) ?_), ?_⟩
        · clear eR
          have f0 := am_has h0 h1 (l := []) [] (by decide +kernel)
          have f1 := am_has h0 h1 (l := [32, 34, 60, 62, 96]) [32, 34, 60, 62, 96] (by decide +kernel)
          have f2 := am_has h0 h1 (l := [32, 34, 35, 60, 62]) [32, 34, 35, 60, 62] (by decide +kernel)
          have f3 := am_has h0 h1 (l := [32, 34, 35, 60, 62, 39]) [32, 34, 35, 60, 62, 39] (by decide +kernel)
          have f4 := am_has h0 h1 (l := [32, 34, 35, 60, 62, 63, 94, 96, 123, 125]) [32, 34, 35, 60, 62, 63, 94, 96, 123, 125] (by decide +kernel)
          have f5 := am_has h0 h1 (l := [32, 34, 35, 60, 62, 63, 94, 96, 123, 125, 47, 58, 59, 61, 64, 91, 92, 93, 124]) [32, 34, 35, 60, 62, 63, 94, 96, 123, 125, 47, 58, 59, 61, 64, 91, 92, 93, 124] (by decide +kernel)
          have f6 := am_has h0 h1 (l := [32, 34, 35, 60, 62, 63, 94, 96, 123, 125, 47, 58, 59, 61, 64, 91, 92, 93, 124, 36, 37, 38, 43, 44]) [32, 34, 35, 60, 62, 63, 94, 96, 123, 125, 47, 58, 59, 61, 64, 91, 92, 93, 124, 36, 37, 38, 43, 44] (by decide +kernel)
          simp only [f0, f1, f2, f3, f4, f5, f6, beq_iff_eq, beq_eq_false_iff_ne, decide_eq_true_eq, decide_eq_false_iff_not, ne_eq] at *
          refine congrArg (fun b => AV.c (Value.bool b)) ?_
          clear f0 f1 f2 f3 f4 f5 f6
          first
            | (rw [inI_out (by omega)]; done)
            | (subst s; simp [inI, hasI, *, Bool.or_assoc]; done)
            | (subst s; simp [inI, hasI, *, Bool.or_assoc]; rw [show (n == (39 : Int)) = ((39 : Int) == n) from BEq.comm]; done)
            | (have : s = 0 := by omega
               subst s; simp [inI, hasI, *]; done)
            | (have q1 : 0 ≤ s ∧ s ≤ 6 := by omega
               have q2 : n < 32 ∨ 126 < n := by omega
               simp [inI, q1, q2]; done)
        · clear eR
          simp only [allP, *, and_self, and_true, true_and]
          try decide
      | false =>
        cases hc16 : (decide (n > (126 : Int)) : Bool) with
        | true =>
          have eR := rin_4 s n
          refine ⟨_, _, eR.trans (congrArg (fun r => some (r, _)) ?_), ?_⟩
          · clear eR
            have f0 := am_has h0 h1 (l := []) [] (by decide +kernel)
            have f1 := am_has h0 h1 (l := [32, 34, 60, 62, 96]) [32, 34, 60, 62, 96] (by decide +kernel)
            have f2 := am_has h0 h1 (l := [32, 34, 35, 60, 62]) [32, 34, 35, 60, 62] (by decide +kernel)
            have f3 := am_has h0 h1 (l := [32, 34, 35, 60, 62, 39]) [32, 34, 35, 60, 62, 39] (by decide +kernel)
            have f4 := am_has h0 h1 (l := [32, 34, 35, 60, 62, 63, 94, 96, 123, 125]) [32, 34, 35, 60, 62, 63, 94, 96, 123, 125] (by decide +kernel)
            have f5 := am_has h0 h1 (l := [32, 34, 35, 60, 62, 63, 94, 96, 123, 125, 47, 58, 59, 61, 64, 91, 92, 93, 124]) [32, 34, 35, 60, 62, 63, 94, 96, 123, 125, 47, 58, 59, 61, 64, 91, 92, 93, 124] (by decide +kernel)
            have f6 := am_has h0 h1 (l := [32, 34, 35, 60, 62, 63, 94, 96, 123, 125, 47, 58, 59, 61, 64, 91, 92, 93, 124, 36, 37, 38, 43, 44]) [32, 34, 35, 60, 62, 63, 94, 96, 123, 125, 47, 58, 59, 61, 64, 91, 92, 93, 124, 36, 37, 38, 43, 44] (by decide +kernel)
            simp only [f0, f1, f2, f3, f4, f5, f6, beq_iff_eq, beq_eq_false_iff_ne, decide_eq_true_eq, decide_eq_false_iff_not, ne_eq] at *
            refine congrArg (fun b => AV.c (Value.bool b)) ?_
            clear f0 f1 f2 f3 f4 f5 f6
            first
              | (rw [inI_out (by omega)]; done)
              | (subst s; simp [inI, hasI, *, Bool.or_assoc]; done)
              | (subst s; simp [inI, hasI, *, Bool.or_assoc]; rw [show (n == (39 : Int)) = ((39 : Int) == n) from BEq.comm]; done)
              | (have : s = 0 := by omega
                 subst s; simp [inI, hasI, *]; done)
              | (have q1 : 0 ≤ s ∧ s ≤ 6 := by omega
                 have q2 : n < 32 ∨ 126 < n := by omega
                 simp [inI, q1, q2]; done)
          · clear eR
            simp only [allP, *, and_self, and_true, true_and]
            try decide
        | false =>
          cases hc20 : (s == (1 : Int) : Bool) with
          | true =>
            have eR := rin_5 s n
            refine ⟨_, _, eR.trans (congrArg (fun r => some (r, _)) ?_), ?_⟩
            · clear eR
              have f0 := am_has h0 h1 (l := []) [] (by decide +kernel)
              have f1 := am_has h0 h1 (l := [32, 34, 60, 62, 96]) [32, 34, 60, 62, 96] (by decide +kernel)
              have f2 := am_has h0 h1 (l := [32, 34, 35, 60, 62]) [32, 34, 35, 60, 62] (by decide +kernel)
              have f3 := am_has h0 h1 (l := [32, 34, 35, 60, 62, 39]) [32, 34, 35, 60, 62, 39] (by decide +kernel)
              have f4 := am_has h0 h1 (l := [32, 34, 35, 60, 62, 63, 94, 96, 123, 125]) [32, 34, 35, 60, 62, 63, 94, 96, 123, 125] (by decide +kernel)
              have f5 := am_has h0 h1 (l := [32, 34, 35, 60, 62, 63, 94, 96, 123, 125, 47, 58, 59, 61, 64, 91, 92, 93, 124]) [32, 34, 35, 60, 62, 63, 94, 96, 123, 125, 47, 58, 59, 61, 64, 91, 92, 93, 124] (by decide +kernel)
              have f6 := am_has h0 h1 (l := [32, 34, 35, 60, 62, 63, 94, 96, 123, 125, 47, 58, 59, 61, 64, 91, 92, 93, 124, 36, 37, 38, 43, 44]) [32, 34, 35, 60, 62, 63, 94, 96, 123, 125, 47, 58, 59, 61, 64, 91, 92, 93, 124, 36, 37, 38, 43, 44] (by decide +kernel)
              simp only [f0, f1, f2, f3, f4, f5, f6, beq_iff_eq, beq_eq_false_iff_ne, decide_eq_true_eq, decide_eq_false_iff_not, ne_eq] at *
              refine congrArg (fun b => AV.c (Value.bool b)) ?_
              clear f0 f1 f2 f3 f4 f5 f6
              first
                | (rw [inI_out (by omega)]; done)
                | (subst s; simp [inI, hasI, *, Bool.or_assoc]; done)
                | (subst s; simp [inI, hasI, *, Bool.or_assoc]; rw [show (n == (39 : Int)) = ((39 : Int) == n) from BEq.comm]; done)
                | (have : s = 0 := by omega
                   subst s; simp [inI, hasI, *]; done)
                | (have q1 : 0 ≤ s ∧ s ≤ 6 := by omega
                   have q2 : n < 32 ∨ 126 < n := by omega
                   simp [inI, q1, q2]; done)
            · clear eR
              simp only [allP, *, and_self, and_true, true_and]
              try decide
          | false =>
            cases hc22 : (s == (2 : Int) : Bool) with
            | true =>
              have eR := rin_6 s n
              refine ⟨_, _, eR.trans (congrArg (fun r => some (r, _)) ?_), ?_⟩
              · clear eR
                have f0 := am_has h0 h1 (l := []) [] (by decide +kernel)
                have f1 := am_has h0 h1 (l := [32, 34, 60, 62, 96]) [32, 34, 60, 62, 96] (by decide +kernel)
                have f2 := am_has h0 h1 (l := [32, 34, 35, 60, 62]) [32, 34, 35, 60, 62] (by decide +kernel)
                have f3 := am_has h0 h1 (l := [32, 34, 35, 60, 62, 39]) [32, 34, 35, 60, 62, 39] (by decide +kernel)
                have f4 := am_has h0 h1 (l := [32, 34, 35, 60, 62, 63, 94, 96, 123, 125]) [32, 34, 35, 60, 62, 63, 94, 96, 123, 125] (by decide +kernel)
                have f5 := am_has h0 h1 (l := [32, 34, 35, 60, 62, 63, 94, 96, 123, 125, 47, 58, 59, 61, 64, 91, 92, 93, 124]) [32, 34, 35, 60, 62, 63, 94, 96, 123, 125, 47, 58, 59, 61, 64, 91, 92, 93, 124] (by decide +kernel)
                have f6 := am_has h0 h1 (l := [32, 34, 35, 60, 62, 63, 94, 96, 123, 125, 47, 58, 59, 61, 64, 91, 92, 93, 124, 36, 37, 38, 43, 44]) [32, 34, 35, 60, 62, 63, 94, 96, 123, 125, 47, 58, 59, 61, 64, 91, 92, 93, 124, 36, 37, 38, 43, 44] (by decide +kernel)
                simp only [f0, f1, f2, f3, f4, f5, f6, beq_iff_eq, beq_eq_false_iff_ne, decide_eq_true_eq, decide_eq_false_iff_not, ne_eq] at *
                refine congrArg (fun b => AV.c (Value.bool b)) ?_
                clear f0 f1 f2 f3 f4 f5 f6
                first
                  | (rw [inI_out (by omega)]; done)
                  | (subst s; simp [inI, hasI, *, Bool.or_assoc]; done)
                  | (subst s; simp [inI, hasI, *, Bool.or_assoc]; rw [show (n == (39 : Int)) = ((39 : Int) == n) from BEq.comm]; done)
                  | (have : s = 0 := by omega
                     subst s; simp [inI, hasI, *]; done)
                  | (have q1 : 0 ≤ s ∧ s ≤ 6 := by omega
                     have q2 : n < 32 ∨ 126 < n := by omega
                     simp [inI, q1, q2]; done)
              · clear eR
                simp only [allP, *, and_self, and_true, true_and]
                try decide
            | false =>
              cases hc24 : (s == (3 : Int) : Bool) with
              | true =>
                have eR := rin_7 s n
                refine ⟨_, _, eR.trans (congrArg (fun r => some (r, _)) ?_), ?_⟩
                · clear eR
                  have f0 := am_has h0 h1 (l := []) [] (by decide +kernel)
                  have f1 := am_has h0 h1 (l := [32, 34, 60, 62, 96]) [32, 34, 60, 62, 96] (by decide +kernel)
                  have f2 := am_has h0 h1 (l := [32, 34, 35, 60, 62]) [32, 34, 35, 60, 62] (by decide +kernel)
                  have f3 := am_has h0 h1 (l := [32, 34, 35, 60, 62, 39]) [32, 34, 35, 60, 62, 39] (by decide +kernel)
                  have f4 := am_has h0 h1 (l := [32, 34, 35, 60, 62, 63, 94, 96, 123, 125]) [32, 34, 35, 60, 62, 63, 94, 96, 123, 125] (by decide +kernel)
                  have f5 := am_has h0 h1 (l := [32, 34, 35, 60, 62, 63, 94, 96, 123, 125, 47, 58, 59, 61, 64, 91, 92, 93, 124]) [32, 34, 35, 60, 62, 63, 94, 96, 123, 125, 47, 58, 59, 61, 64, 91, 92, 93, 124] (by decide +kernel)
                  have f6 := am_has h0 h1 (l := [32, 34, 35, 60, 62, 63, 94, 96, 123, 125, 47, 58, 59, 61, 64, 91, 92, 93, 124, 36, 37, 38, 43, 44]) [32, 34, 35, 60, 62, 63, 94, 96, 123, 125, 47, 58, 59, 61, 64, 91, 92, 93, 124, 36, 37, 38, 43, 44] (by decide +kernel)
                  simp only [f0, f1, f2, f3, f4, f5, f6, beq_iff_eq, beq_eq_false_iff_ne, decide_eq_true_eq, decide_eq_false_iff_not, ne_eq] at *
                  refine congrArg (fun b => AV.c (Value.bool b)) ?_
                  clear f0 f1 f2 f3 f4 f5 f6
                  first
                    | (rw [inI_out (by omega)]; done)
                    | (subst s; simp [inI, hasI, *, Bool.or_assoc]; done)
                    | (subst s; simp [inI, hasI, *, Bool.or_assoc]; rw [show (n == (39 : Int)) = ((39 : Int) == n) from BEq.comm]; done)
                    | (have : s = 0 := by omega
                       subst s; simp [inI, hasI, *]; done)
                    | (have q1 : 0 ≤ s ∧ s ≤ 6 := by omega
                       have q2 : n < 32 ∨ 126 < n := by omega
                       simp [inI, q1, q2]; done)
                · clear eR
                  simp only [allP, *, and_self, and_true, true_and]
                  try decide
              | false =>
                cases hc26 : (s == (4 : Int) : Bool) with
                | true =>
                  have eR := rin_8 s n
                  refine ⟨_, _, eR.trans (congrArg (fun r => some (r, _)) ?_), ?_⟩
                  · clear eR
                    have f0 := am_has h0 h1 (l := []) [] (by decide +kernel)
                    have f1 := am_has h0 h1 (l := [32, 34, 60, 62, 96]) [32, 34, 60, 62, 96] (by decide +kernel)
                    have f2 := am_has h0 h1 (l := [32, 34, 35, 60, 62]) [32, 34, 35, 60, 62] (by decide +kernel)
                    have f3 := am_has h0 h1 (l := [32, 34, 35, 60, 62, 39]) [32, 34, 35, 60, 62, 39] (by decide +kernel)
                    have f4 := am_has h0 h1 (l := [32, 34, 35, 60, 62, 63, 94, 96, 123, 125]) [32, 34, 35, 60, 62, 63, 94, 96, 123, 125] (by decide +kernel)
                    have f5 := am_has h0 h1 (l := [32, 34, 35, 60, 62, 63, 94, 96, 123, 125, 47, 58, 59, 61, 64, 91, 92, 93, 124]) [32, 34, 35, 60, 62, 63, 94, 96, 123, 125, 47, 58, 59, 61, 64, 91, 92, 93, 124] (by decide +kernel)
                    have f6 := am_has h0 h1 (l := [32, 34, 35, 60, 62, 63, 94, 96, 123, 125, 47, 58, 59, 61, 64, 91, 92, 93, 124, 36, 37, 38, 43, 44]) [32, 34, 35, 60, 62, 63, 94, 96, 123, 125, 47, 58, 59, 61, 64, 91, 92, 93, 124, 36, 37, 38, 43, 44] (by decide +kernel)
                    simp only [f0, f1, f2, f3, f4, f5, f6, beq_iff_eq, beq_eq_false_iff_ne, decide_eq_true_eq, decide_eq_false_iff_not, ne_eq] at *
                    refine congrArg (fun b => AV.c (Value.bool b)) ?_
                    clear f0 f1 f2 f3 f4 f5 f6
                    first
                      | (rw [inI_out (by omega)]; done)
                      | (subst s; simp [inI, hasI, *, Bool.or_assoc]; done)
                      | (subst s; simp [inI, hasI, *, Bool.or_assoc]; rw [show (n == (39 : Int)) = ((39 : Int) == n) from BEq.comm]; done)
                      | (have : s = 0 := by omega
                         subst s; simp [inI, hasI, *]; done)
                      | (have q1 : 0 ≤ s ∧ s ≤ 6 := by omega
                         have q2 : n < 32 ∨ 126 < n := by omega
                         simp [inI, q1, q2]; done)
                  · clear eR
                    simp only [allP, *, and_self, and_true, true_and]
                    try decide
                | false =>
                  cases hc28 : (s == (5 : Int) : Bool) with
                  | true =>
                    have eR := rin_9 s n
                    refine ⟨_, _, eR.trans (congrArg (fun r => some (r, _)) ?_), ?_⟩
                    · clear eR
                      have f0 := am_has h0 h1 (l := []) [] (by decide +kernel)
                      have f1 := am_has h0 h1 (l := [32, 34, 60, 62, 96]) [32, 34, 60, 62, 96] (by decide +kernel)
                      have f2 := am_has h0 h1 (l := [32, 34, 35, 60, 62]) [32, 34, 35, 60, 62] (by decide +kernel)
                      have f3 := am_has h0 h1 (l := [32, 34, 35, 60, 62, 39]) [32, 34, 35, 60, 62, 39] (by decide +kernel)
                      have f4 := am_has h0 h1 (l := [32, 34, 35, 60, 62, 63, 94, 96, 123, 125]) [32, 34, 35, 60, 62, 63, 94, 96, 123, 125] (by decide +kernel)
                      have f5 := am_has h0 h1 (l := [32, 34, 35, 60, 62, 63, 94, 96, 123, 125, 47, 58, 59, 61, 64, 91, 92, 93, 124]) [32, 34, 35, 60, 62, 63, 94, 96, 123, 125, 47, 58, 59, 61, 64, 91, 92, 93, 124] (by decide +kernel)
                      have f6 := am_has h0 h1 (l := [32, 34, 35, 60, 62, 63, 94, 96, 123, 125, 47, 58, 59, 61, 64, 91, 92, 93, 124, 36, 37, 38, 43, 44]) [32, 34, 35, 60, 62, 63, 94, 96, 123, 125, 47, 58, 59, 61, 64, 91, 92, 93, 124, 36, 37, 38, 43, 44] (by decide +kernel)
                      simp only [f0, f1, f2, f3, f4, f5, f6, beq_iff_eq, beq_eq_false_iff_ne, decide_eq_true_eq, decide_eq_false_iff_not, ne_eq] at *
                      refine congrArg (fun b => AV.c (Value.bool b)) ?_
                      clear f0 f1 f2 f3 f4 f5 f6
                      first
                        | (rw [inI_out (by omega)]; done)
                        | (subst s; simp [inI, hasI, *, Bool.or_assoc]; done)
                        | (subst s; simp [inI, hasI, *, Bool.or_assoc]; rw [show (n == (39 : Int)) = ((39 : Int) == n) from BEq.comm]; done)
                        | (have : s = 0 := by omega
                           subst s; simp [inI, hasI, *]; done)
                        | (have q1 : 0 ≤ s ∧ s ≤ 6 := by omega
                           have q2 : n < 32 ∨ 126 < n := by omega
                           simp [inI, q1, q2]; done)
                    · clear eR
                      simp only [allP, *, and_self, and_true, true_and]
                      try decide
                  | false =>
                    cases hc30 : (s == (6 : Int) : Bool) with
                    | true =>
                      have eR := rin_10 s n
                      refine ⟨_, _, eR.trans (congrArg (fun r => some (r, _)) ?_), ?_⟩
                      · clear eR
                        have f0 := am_has h0 h1 (l := []) [] (by decide +kernel)
                        have f1 := am_has h0 h1 (l := [32, 34, 60, 62, 96]) [32, 34, 60, 62, 96] (by decide +kernel)
                        have f2 := am_has h0 h1 (l := [32, 34, 35, 60, 62]) [32, 34, 35, 60, 62] (by decide +kernel)
                        have f3 := am_has h0 h1 (l := [32, 34, 35, 60, 62, 39]) [32, 34, 35, 60, 62, 39] (by decide +kernel)
                        have f4 := am_has h0 h1 (l := [32, 34, 35, 60, 62, 63, 94, 96, 123, 125]) [32, 34, 35, 60, 62, 63, 94, 96, 123, 125] (by decide +kernel)
                        have f5 := am_has h0 h1 (l := [32, 34, 35, 60, 62, 63, 94, 96, 123, 125, 47, 58, 59, 61, 64, 91, 92, 93, 124]) [32, 34, 35, 60, 62, 63, 94, 96, 123, 125, 47, 58, 59, 61, 64, 91, 92, 93, 124] (by decide +kernel)
                        have f6 := am_has h0 h1 (l := [32, 34, 35, 60, 62, 63, 94, 96, 123, 125, 47, 58, 59, 61, 64, 91, 92, 93, 124, 36, 37, 38, 43, 44]) [32, 34, 35, 60, 62, 63, 94, 96, 123, 125, 47, 58, 59, 61, 64, 91, 92, 93, 124, 36, 37, 38, 43, 44] (by decide +kernel)
                        simp only [f0, f1, f2, f3, f4, f5, f6, beq_iff_eq, beq_eq_false_iff_ne, decide_eq_true_eq, decide_eq_false_iff_not, ne_eq] at *
                        refine congrArg (fun b => AV.c (Value.bool b)) ?_
                        clear f0 f1 f2 f3 f4 f5 f6
                        first
                          | (rw [inI_out (by omega)]; done)
                          | (subst s; simp [inI, hasI, *, Bool.or_assoc]; done)
                          | (subst s; simp [inI, hasI, *, Bool.or_assoc]; rw [show (n == (39 : Int)) = ((39 : Int) == n) from BEq.comm]; done)
                          | (have : s = 0 := by omega
                             subst s; simp [inI, hasI, *]; done)
                          | (have q1 : 0 ≤ s ∧ s ≤ 6 := by omega
                             have q2 : n < 32 ∨ 126 < n := by omega
                             simp [inI, q1, q2]; done)
                      · clear eR
                        simp only [allP, *, and_self, and_true, true_and]
                        try decide
                    | false =>
                      have eR := rin_11 s n
                      refine ⟨_, _, eR.trans (congrArg (fun r => some (r, _)) ?_), ?_⟩
                      · clear eR
                        have f0 := am_has h0 h1 (l := []) [] (by decide +kernel)
                        have f1 := am_has h0 h1 (l := [32, 34, 60, 62, 96]) [32, 34, 60, 62, 96] (by decide +kernel)
                        have f2 := am_has h0 h1 (l := [32, 34, 35, 60, 62]) [32, 34, 35, 60, 62] (by decide +kernel)
                        have f3 := am_has h0 h1 (l := [32, 34, 35, 60, 62, 39]) [32, 34, 35, 60, 62, 39] (by decide +kernel)
                        have f4 := am_has h0 h1 (l := [32, 34, 35, 60, 62, 63, 94, 96, 123, 125]) [32, 34, 35, 60, 62, 63, 94, 96, 123, 125] (by decide +kernel)
                        have f5 := am_has h0 h1 (l := [32, 34, 35, 60, 62, 63, 94, 96, 123, 125, 47, 58, 59, 61, 64, 91, 92, 93, 124]) [32, 34, 35, 60, 62, 63, 94, 96, 123, 125, 47, 58, 59, 61, 64, 91, 92, 93, 124] (by decide +kernel)
                        have f6 := am_has h0 h1 (l := [32, 34, 35, 60, 62, 63, 94, 96, 123, 125, 47, 58, 59, 61, 64, 91, 92, 93, 124, 36, 37, 38, 43, 44]) [32, 34, 35, 60, 62, 63, 94, 96, 123, 125, 47, 58, 59, 61, 64, 91, 92, 93, 124, 36, 37, 38, 43, 44] (by decide +kernel)
                        simp only [f0, f1, f2, f3, f4, f5, f6, beq_iff_eq, beq_eq_false_iff_ne, decide_eq_true_eq, decide_eq_false_iff_not, ne_eq] at *
                        refine congrArg (fun b => AV.c (Value.bool b)) ?_
                        clear f0 f1 f2 f3 f4 f5 f6
                        first
                          | (rw [inI_out (by omega)]; done)
                          | (subst s; simp [inI, hasI, *, Bool.or_assoc]; done)
                          | (subst s; simp [inI, hasI, *, Bool.or_assoc]; rw [show (n == (39 : Int)) = ((39 : Int) == n) from BEq.comm]; done)
                          | (have : s = 0 := by omega
                             subst s; simp [inI, hasI, *]; done)
                          | (have q1 : 0 ≤ s ∧ s ≤ 6 := by omega
                             have q2 : n < 32 ∨ 126 < n := by omega
                             simp [inI, q1, q2]; done)
                      · clear eR
                        simp only [allP, *, and_self, and_true, true_and]
                        try decide

theorem rin_ok : SpecOK Try.prog 10 inSpec := by
  refine spec_of mixed clM_ok fun args r q hs hq => ?_
  unfold inSpec at hs
  split at hs
  · rename_i s n
    simp only [Option.some.injEq, Prod.mk.injEq] at hs
    obtain ⟨rfl, rfl⟩ := hs
    obtain ⟨h0, h1, _⟩ := hq
    obtain ⟨h, p, e, hp⟩ := rin_all s n h0 h1
    exact ⟨_, _, _, _, lpBy_nil, e, hp⟩
  · simp at hs

end Go.Proofs.Ytfaffnemfndkfaa
