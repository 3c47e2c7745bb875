/- Bytes that are encoded: what a text tells at its front. -/
import Derived.Test.YtfaffnemfndkfabPctC
namespace Go.Proofs.Ytfaffnemfndkfab
open Go.RowKit
set_option linter.unusedVariables false
set_option linter.unusedSimpArgs false

noncomputable def cl4 : CallT := aCall Try.prog (sgBy [(5, digitSpec)]) 500 8
theorem cl4_ok : CallOK Try.prog cl4 := aCall_ok mixed (sgBy_cons digit_ok sgBy_nil) 500 8

/-- What a byte is worth in base 16, or -1. -/
def dg (c : UInt8) : Int := digitI (c.toNat : Nat) 16

theorem toNat0 : Int.toNat (0 : Int) = 0 := rfl
theorem toNat1 : Int.toNat (1 : Int) = 1 := rfl
theorem toNat2 : Int.toNat (2 : Int) = 2 := rfl
theorem dg_rng (c : UInt8) : -1 ≤ dg c ∧ dg c < 16 := by
  have : ∀ k : Fin 256, -1 ≤ digitI (k.val : Int) 16 ∧ digitI (k.val : Int) 16 < 16 := by decide +kernel
  exact this ⟨c.toNat, c.toNat_lt⟩

/-- Does a text begin with a byte that is encoded, and what is it? -/
def toldB (l : List UInt8) : Bool := decide (3 ≤ l.length) && (decide (l.getD 0 0 = 37) && (decide (0 ≤ dg (l.getD 1 0)) && decide (0 ≤ dg (l.getD 2 0))))
def toldV (l : List UInt8) : Int := if toldB l then 16 * dg (l.getD 1 0) + dg (l.getD 2 0) else 0

theorem told_if {l : List UInt8} : toldB l = true ↔ 3 ≤ l.length ∧ l.getD 0 0 = 37 ∧ 0 ≤ dg (l.getD 1 0) ∧ 0 ≤ dg (l.getD 2 0) := by
  unfold toldB
  simp only [Bool.and_eq_true, decide_eq_true_eq]
theorem toldV_yes {l : List UInt8} (h : toldB l = true) : toldV l = 16 * dg (l.getD 1 0) + dg (l.getD 2 0) := if_pos h
theorem toldV_no {l : List UInt8} (h : toldB l = false) : toldV l = 0 := by unfold toldV; rw [h]; rfl

theorem u8_37 (x : UInt8) : x = 37 ↔ ((x.toNat : Nat) : Int) = 37 := by
  constructor
  · rintro rfl; rfl
  · intro h; apply UInt8.toNat_inj.1; show x.toNat = 37; omega

theorem shl_or : ∀ a b : Fin 16, IntKind.u8.wrap (IntKind.i64.wrap (((BitVec.ofInt IntKind.i64.bits (IntKind.i64.wrap ((a.val : Int) * 2 ^ 4)) ||| BitVec.ofInt IntKind.i64.bits (b.val : Int)).toNat : Int))) = 16 * (a.val : Int) + (b.val : Int) := by decide +kernel

theorem told_1 (l : List UInt8) : outcome Try.prog 10 (aBody Try.prog cl4 ⟨true, bs [(8, true)] ++ ([(30, ⟨.c (.int .u8 (toldV l)), none⟩)])⟩ (lpBy ([])) 60 10 ([.c (str l)]) ([])) = some ((AV.tu [(AV.c ((Value.int .u8 0))),
 (AV.c ((Value.bool false)))]), [((decide ((↑l.length : Int) < (3 : Int)) : Bool)) = (true)]) := by kernel_rfl

theorem told_2 (l : List UInt8) : outcome Try.prog 10 (aBody Try.prog cl4 ⟨true, bs [(8, false), (12, true)] ++ ([(30, ⟨.c (.int .u8 (toldV l)), none⟩)])⟩ (lpBy ([])) 60 10 ([.c (str l)]) ([])) = some ((AV.tu [(AV.c ((Value.int .u8 0))),
 (AV.c ((Value.bool false)))]), [((decide ((↑l.length : Int) < (3 : Int)) : Bool)) = (false),
 (((0 : Int) : Int) ≤ ((0 : Int))),
 (((0 : Int) : Int) < ((↑l.length : Int))),
 (((↑(l.getD (Int.toNat (0 : Int)) (0 : UInt8)).toNat : Int) != (37 : Int) : Bool)) = (true)]) := by kernel_rfl

theorem told_3 (l : List UInt8) : outcome Try.prog 10 (aBody Try.prog cl4 ⟨true, bs [(8, false), (12, false), (21, true)] ++ ([(30, ⟨.c (.int .u8 (toldV l)), none⟩)])⟩ (lpBy ([])) 60 10 ([.c (str l)]) ([])) = some ((AV.tu [(AV.c ((Value.int .u8 0))),
 (AV.c ((Value.bool false)))]), [((decide ((↑l.length : Int) < (3 : Int)) : Bool)) = (false),
 (((0 : Int) : Int) ≤ ((0 : Int))),
 (((0 : Int) : Int) < ((↑l.length : Int))),
 (((↑(l.getD (Int.toNat (0 : Int)) (0 : UInt8)).toNat : Int) != (37 : Int) : Bool)) = (false),
 (((0 : Int) : Int) ≤ ((1 : Int))),
 (((1 : Int) : Int) < ((↑l.length : Int))),
 (((0 : Int) : Int) ≤ ((↑(l.getD (Int.toNat (1 : Int)) (0 : UInt8)).toNat : Int))),
 (((↑(l.getD (Int.toNat (1 : Int)) (0 : UInt8)).toNat : Int) : Int) < ((256 : Int))),
 (((0 : Int) : Int) ≤ ((2 : Int))),
 (((2 : Int) : Int) < ((↑l.length : Int))),
 (((0 : Int) : Int) ≤ ((↑(l.getD (Int.toNat (2 : Int)) (0 : UInt8)).toNat : Int))),
 (((↑(l.getD (Int.toNat (2 : Int)) (0 : UInt8)).toNat : Int) : Int) < ((256 : Int))),
 ((decide (digitI (↑(l.getD (Int.toNat (1 : Int)) (0 : UInt8)).toNat : Int) (16 : Int) < (0 : Int)) : Bool)) = (true)]) := by kernel_rfl

theorem told_4 (l : List UInt8) : outcome Try.prog 10 (aBody Try.prog cl4 ⟨true, bs [(8, false), (12, false), (21, false), (24, true)] ++ ([(30, ⟨.c (.int .u8 (toldV l)), none⟩)])⟩ (lpBy ([])) 60 10 ([.c (str l)]) ([])) = some ((AV.tu [(AV.c ((Value.int .u8 0))),
 (AV.c ((Value.bool false)))]), [((decide ((↑l.length : Int) < (3 : Int)) : Bool)) = (false),
 (((0 : Int) : Int) ≤ ((0 : Int))),
 (((0 : Int) : Int) < ((↑l.length : Int))),
 (((↑(l.getD (Int.toNat (0 : Int)) (0 : UInt8)).toNat : Int) != (37 : Int) : Bool)) = (false),
 (((0 : Int) : Int) ≤ ((1 : Int))),
 (((1 : Int) : Int) < ((↑l.length : Int))),
 (((0 : Int) : Int) ≤ ((↑(l.getD (Int.toNat (1 : Int)) (0 : UInt8)).toNat : Int))),
 (((↑(l.getD (Int.toNat (1 : Int)) (0 : UInt8)).toNat : Int) : Int) < ((256 : Int))),
 (((0 : Int) : Int) ≤ ((2 : Int))),
 (((2 : Int) : Int) < ((↑l.length : Int))),
 (((0 : Int) : Int) ≤ ((↑(l.getD (Int.toNat (2 : Int)) (0 : UInt8)).toNat : Int))),
 (((↑(l.getD (Int.toNat (2 : Int)) (0 : UInt8)).toNat : Int) : Int) < ((256 : Int))),
 ((decide (digitI (↑(l.getD (Int.toNat (1 : Int)) (0 : UInt8)).toNat : Int) (16 : Int) < (0 : Int)) : Bool)) = (false),
 ((decide (digitI (↑(l.getD (Int.toNat (2 : Int)) (0 : UInt8)).toNat : Int) (16 : Int) < (0 : Int)) : Bool)) = (true)]) := by kernel_rfl

theorem told_5 (l : List UInt8) : outcome Try.prog 10 (aBody Try.prog cl4 ⟨true, bs [(8, false), (12, false), (21, false), (24, false)] ++ ([(30, ⟨.c (.int .u8 (toldV l)), none⟩)])⟩ (lpBy ([])) 60 10 ([.c (str l)]) ([])) = some ((AV.tu [(AV.c ((Value.int .u8 (toldV l)))),
 (AV.c ((Value.bool true)))]), [((decide ((↑l.length : Int) < (3 : Int)) : Bool)) = (false),
 (((0 : Int) : Int) ≤ ((0 : Int))),
 (((0 : Int) : Int) < ((↑l.length : Int))),
 (((↑(l.getD (Int.toNat (0 : Int)) (0 : UInt8)).toNat : Int) != (37 : Int) : Bool)) = (false),
 (((0 : Int) : Int) ≤ ((1 : Int))),
 (((1 : Int) : Int) < ((↑l.length : Int))),
 (((0 : Int) : Int) ≤ ((↑(l.getD (Int.toNat (1 : Int)) (0 : UInt8)).toNat : Int))),
 (((↑(l.getD (Int.toNat (1 : Int)) (0 : UInt8)).toNat : Int) : Int) < ((256 : Int))),
 (((0 : Int) : Int) ≤ ((2 : Int))),
 (((2 : Int) : Int) < ((↑l.length : Int))),
 (((0 : Int) : Int) ≤ ((↑(l.getD (Int.toNat (2 : Int)) (0 : UInt8)).toNat : Int))),
 (((↑(l.getD (Int.toNat (2 : Int)) (0 : UInt8)).toNat : Int) : Int) < ((256 : Int))),
 ((decide (digitI (↑(l.getD (Int.toNat (1 : Int)) (0 : UInt8)).toNat : Int) (16 : Int) < (0 : Int)) : Bool)) = (false),
 ((decide (digitI (↑(l.getD (Int.toNat (2 : Int)) (0 : UInt8)).toNat : Int) (16 : Int) < (0 : Int)) : Bool)) = (false),
 ((IntKind.u8.wrap
  (IntKind.i64.wrap
    (↑(BitVec.ofInt IntKind.i64.bits
              (IntKind.i64.wrap
                (digitI (↑((sb { data := { toList := l } }).getD (Int.toNat (1 : Int)) (0 : UInt8)).toNat : Int)
                    (16 : Int) *
                  (2 : Int) ^ min (Int.toNat (4 : Int)) IntKind.i64.bits)) |||
            BitVec.ofInt IntKind.i64.bits
              (digitI (↑((sb { data := { toList := l } }).getD (Int.toNat (2 : Int)) (0 : UInt8)).toNat : Int)
                (16 : Int))).toNat :
      Int)) : Int)) = (toldV l)]) := by kernel_rfl

theorem told_all (l : List UInt8)  : ∃ (h : Hints) (p : List Prop), outcome Try.prog 10 (aBody Try.prog cl4 h (lpBy ([])) 60 10 ([.c (str l)]) ([])) = some (.tu [.c (.int .u8 (toldV l)), .c (.bool (toldB l))], p) ∧ allP p := by
  cases hc8 : (decide ((↑l.length : Int) < (3 : Int)) : Bool) with
  | true =>
    have eR := told_1 l
    refine ⟨_, _, eR.trans (congrArg (fun r => some (r, _)) ?_), ?_⟩
    · have hz : toldB l = false := by
        clear eR
        rw [← Bool.not_eq_true, told_if]
        simp only [decide_eq_true_eq, decide_eq_false_iff_not, bne_iff_ne, bne_eq_false_iff_eq, u8_37, dg] at *
        intro hh
        obtain ⟨h1, h2, h3, h4⟩ := hh
        first
          | omega
          | exact absurd h2 hc12
          | exact absurd h3 (by simp only [Int.not_le]; exact hc21)
          | exact absurd h4 (by simp only [Int.not_le]; exact hc24)
      rw [toldV_no hz, hz]
    · clear eR
      have g1 := (l.getD 1 0).toNat_lt
      have g2 := (l.getD 2 0).toNat_lt
      simp only [allP, *, and_self, and_true, true_and]
      all_goals try simp only [decide_eq_true_eq, decide_eq_false_iff_not, toNat0, toNat1, toNat2] at *
      all_goals omega
  | false =>
    cases hc12 : ((↑(l.getD (Int.toNat (0 : Int)) (0 : UInt8)).toNat : Int) != (37 : Int) : Bool) with
    | true =>
      have eR := told_2 l
      refine ⟨_, _, eR.trans (congrArg (fun r => some (r, _)) ?_), ?_⟩
      · have hz : toldB l = false := by
          clear eR
          rw [← Bool.not_eq_true, told_if]
          simp only [decide_eq_true_eq, decide_eq_false_iff_not, bne_iff_ne, bne_eq_false_iff_eq, u8_37, dg] at *
          intro hh
          obtain ⟨h1, h2, h3, h4⟩ := hh
          first
            | omega
            | exact absurd h2 hc12
            | exact absurd h3 (by simp only [Int.not_le]; exact hc21)
            | exact absurd h4 (by simp only [Int.not_le]; exact hc24)
        rw [toldV_no hz, hz]
      · clear eR
        have g1 := (l.getD 1 0).toNat_lt
        have g2 := (l.getD 2 0).toNat_lt
        simp only [allP, *, and_self, and_true, true_and]
        all_goals try simp only [decide_eq_true_eq, decide_eq_false_iff_not, toNat0, toNat1, toNat2] at *
        all_goals omega
    | false =>
      cases hc21 : (decide (digitI (↑(l.getD (Int.toNat (1 : Int)) (0 : UInt8)).toNat : Int) (16 : Int) < (0 : Int)) : Bool) with
      | true =>
        have eR := told_3 l
        refine ⟨_, _, eR.trans (congrArg (fun r => some (r, _)) ?_), ?_⟩
        · have hz : toldB l = false := by
            clear eR
            rw [← Bool.not_eq_true, told_if]
            simp only [decide_eq_true_eq, decide_eq_false_iff_not, bne_iff_ne, bne_eq_false_iff_eq, u8_37, dg] at *
            intro hh
            obtain ⟨h1, h2, h3, h4⟩ := hh
            first
              | omega
              | exact absurd h2 hc12
              | exact absurd h3 (by simp only [Int.not_le]; exact hc21)
              | exact absurd h4 (by simp only [Int.not_le]; exact hc24)
          rw [toldV_no hz, hz]
        · clear eR
          have g1 := (l.getD 1 0).toNat_lt
          have g2 := (l.getD 2 0).toNat_lt
          simp only [allP, *, and_self, and_true, true_and]
          all_goals try simp only [decide_eq_true_eq, decide_eq_false_iff_not, toNat0, toNat1, toNat2] at *
          all_goals omega
      | false =>
        cases hc24 : (decide (digitI (↑(l.getD (Int.toNat (2 : Int)) (0 : UInt8)).toNat : Int) (16 : Int) < (0 : Int)) : Bool) with
        | true =>
          have eR := told_4 l
          refine ⟨_, _, eR.trans (congrArg (fun r => some (r, _)) ?_), ?_⟩
          · have hz : toldB l = false := by
              clear eR
              rw [← Bool.not_eq_true, told_if]
              simp only [decide_eq_true_eq, decide_eq_false_iff_not, bne_iff_ne, bne_eq_false_iff_eq, u8_37, dg] at *
              intro hh
              obtain ⟨h1, h2, h3, h4⟩ := hh
              first
                | omega
                | exact absurd h2 hc12
                | exact absurd h3 (by simp only [Int.not_le]; exact hc21)
                | exact absurd h4 (by simp only [Int.not_le]; exact hc24)
            rw [toldV_no hz, hz]
          · clear eR
            have g1 := (l.getD 1 0).toNat_lt
            have g2 := (l.getD 2 0).toNat_lt
            simp only [allP, *, and_self, and_true, true_and]
            all_goals try simp only [decide_eq_true_eq, decide_eq_false_iff_not, toNat0, toNat1, toNat2] at *
            all_goals omega
        | false =>
          have eR := told_5 l
          have q1 := dg_rng (l.getD 1 0)
          have q2 := dg_rng (l.getD 2 0)
          have g1 := (l.getD 1 0).toNat_lt
          have g2 := (l.getD 2 0).toNat_lt
          have hc8' := hc8
          have hc12' := hc12
          have hc21' := hc21
          have hc24' := hc24
          simp only [decide_eq_false_iff_not, bne_eq_false_iff_eq, toNat0, toNat1, toNat2] at hc8' hc12' hc21' hc24'
          have ht : toldB l = true := told_if.2 ⟨by omega, (u8_37 _).2 hc12', Int.not_lt.1 hc21', Int.not_lt.1 hc24'⟩
          have hv := toldV_yes ht
          refine ⟨_, _, eR.trans (congrArg (fun r => some (r, _)) (by rw [ht])), ?_⟩
          have sh := shl_or ⟨(dg (l.getD 1 0)).toNat, by omega⟩ ⟨(dg (l.getD 2 0)).toNat, by omega⟩
          have k1 : ((dg (l.getD 1 0)).toNat : Int) = dg (l.getD 1 0) := Int.toNat_of_nonneg (Int.not_lt.1 hc21')
          have k2 : ((dg (l.getD 2 0)).toNat : Int) = dg (l.getD 2 0) := Int.toNat_of_nonneg (Int.not_lt.1 hc24')
          simp only [k1, k2] at sh
          clear eR
          refine ⟨hc8, by omega, by omega, hc12, by omega, by omega, by omega, ?_, by omega, by omega, by omega, ?_, hc21, hc24, ?_, trivial⟩
          · simp only [toNat1]; omega
          · simp only [toNat2]; omega
          · rw [hv]; exact sh

def toldSpec : Spec
  | [.c (.string s)] => some (.tu [.c (.int .u8 (toldV (sb s))), .c (.bool (toldB (sb s)))], [])
  | _ => none

theorem told_ok : SpecOK Try.prog 10 toldSpec := by
  refine spec_of mixed cl4_ok fun args r q hs hq => ?_
  unfold toldSpec at hs
  split at hs
  · rename_i s
    simp only [Option.some.injEq, Prod.mk.injEq] at hs
    obtain ⟨rfl, rfl⟩ := hs
    obtain ⟨⟨⟨l⟩⟩, rfl⟩ : ∃ b : ByteArray, b = s := ⟨s, rfl⟩
    obtain ⟨h, p, e, hp⟩ := told_all l
    exact ⟨_, _, _, _, lpBy_nil, e, hp⟩
  · simp at hs

/-- What is decoded. -/
def unescG : Nat → List UInt8 → List UInt8
  | 0, _ => []
  | f + 1, l => match l with
    | [] => []
    | c :: r => if toldB (c :: r) then UInt8.ofNat (toldV (c :: r)).toNat :: unescG f (r.drop 2) else c :: unescG f r
def unescF (l : List UInt8) : List UInt8 := unescG l.length l

theorem unescG_fuel : ∀ (f g : Nat) (l : List UInt8), l.length ≤ f → l.length ≤ g → unescG f l = unescG g l
  | 0, 0, _, _, _ => rfl
  | 0, _ + 1, [], _, _ => rfl
  | 0, _ + 1, _ :: _, h, _ => by simp at h
  | _ + 1, 0, [], _, _ => rfl
  | _ + 1, 0, _ :: _, _, h => by simp at h
  | _ + 1, _ + 1, [], _, _ => rfl
  | f + 1, g + 1, c :: r, h, h2 => by
    simp only [List.length_cons] at h h2
    unfold unescG
    simp only
    rw [unescG_fuel f g r (by omega) (by omega), unescG_fuel f g (r.drop 2) (by rw [List.length_drop]; omega) (by rw [List.length_drop]; omega)]

theorem unesc_nil : unescF [] = [] := rfl
theorem unesc_told {c : UInt8} {r : List UInt8} (h : toldB (c :: r) = true) : unescF (c :: r) = UInt8.ofNat (toldV (c :: r)).toNat :: unescF (r.drop 2) := by
  unfold unescF
  rw [List.length_cons]
  conv => lhs; unfold unescG
  simp only
  rw [if_pos h, unescG_fuel _ (r.drop 2).length _ (by rw [List.length_drop]; omega) (Nat.le_refl _)]
theorem unesc_not {c : UInt8} {r : List UInt8} (h : toldB (c :: r) = false) : unescF (c :: r) = c :: unescF r := by
  unfold unescF
  rw [List.length_cons]
  conv => lhs; unfold unescG
  simp only
  rw [if_neg (by simp [h])]
theorem unescG_len : ∀ (f : Nat) (l : List UInt8), (unescG f l).length ≤ l.length
  | 0, _ => by simp [unescG]
  | _ + 1, [] => by simp [unescG]
  | f + 1, c :: r => by
    unfold unescG
    simp only
    split
    · have := unescG_len f (r.drop 2)
      rw [List.length_drop] at this
      simp only [List.length_cons]; omega
    · have := unescG_len f r
      simp only [List.length_cons]; omega
theorem unesc_len (l : List UInt8) : (unescF l).length ≤ l.length := unescG_len _ l

theorem told_len {l : List UInt8} (h : toldB l = true) : 3 ≤ l.length := (told_if.1 h).1
theorem toldV_rng {l : List UInt8} (h : toldB l = true) : 0 ≤ toldV l ∧ toldV l < 256 := by
  have h1 := told_if.1 h
  have h2 := dg_rng (l.getD 1 0)
  have h3 := dg_rng (l.getD 2 0)
  rw [toldV_yes h]
  omega

noncomputable def cl5 : CallT := aCall Try.prog (sgBy [(10, toldSpec)]) 500 8
theorem cl5_ok : CallOK Try.prog cl5 := aCall_ok mixed (sgBy_cons told_ok sgBy_nil) 500 8

def decG (l : List UInt8) (i n : Nat) (L : List AV) : St := ⟨frame 37 [(0, .c (str l)), (3, .sl 0 0 n), (4, .c (.int .i64 i))], [some ⟨5, false, L⟩]⟩
def rdecG (l : List UInt8) (i n : Nat) (L : List AV) : St := ⟨frame 63 [(0, .c (str l)), (3, .sl 0 0 n), (4, .c (.int .i64 i))], [some ⟨5, false, L⟩]⟩

theorem decr_1 (l : List UInt8) (i : Nat) (out : List UInt8) : roundOut (⟨[], [0, 3, 4], [2]⟩) (aCode Try.prog cl5 ⟨true, bs [(13, true), (22, true)] ++ ([])⟩ (lpBy ([])) 60 (lbody Try.prog 6 3) (decG l i out.length (byts out))) = some (.normal, decG l (i + 3) (out.length + 1) (List.take out.length (byts out) ++ [.c (.int .u8 (toldV (List.drop i (List.take l.length l))))]), [((decide ((↑i : Int) < (↑l.length : Int)) : Bool)) = (true),
 (((0 : Int) : Int) ≤ ((↑i : Int))),
 (((↑i : Int) : Int) ≤ ((↑l.length : Int))),
 (((↑l.length : Int) : Int) ≤ ((↑l.length : Int))),
 ((toldB (List.drop i (List.take l.length l)) : Bool)) = (true),
 (((1 : Nat) : Nat) ≤ ((1 : Nat))),
 (((out.length + (1 : Nat)) * (1 : Nat) : Nat) ≤ ((140737488355328 : Nat))),
 ((out.length + (1 : Nat) : Nat) ≤ ((4611686018427387904 : Nat))),
 ((out.length : Nat) ≤ ((byts out).length)),
 ((IntKind.i64.min : Int) ≤ ((↑i : Int) + (2 : Int))),
 (((↑i : Int) + (2 : Int) : Int) ≤ (IntKind.i64.max)),
 ((IntKind.i64.min : Int) ≤ ((↑i : Int) + (2 : Int) + (1 : Int))),
 (((↑i : Int) + (2 : Int) + (1 : Int) : Int) ≤ (IntKind.i64.max))]) := by kernel_rfl

theorem decr_2 (l : List UInt8) (i : Nat) (out : List UInt8) : roundOut (⟨[], [0, 3, 4], [2]⟩) (aCode Try.prog cl5 ⟨true, bs [(13, true), (22, false)] ++ ([])⟩ (lpBy ([])) 60 (lbody Try.prog 6 3) (decG l i out.length (byts out))) = some (.normal, decG l (i + 1) (out.length + 1) (List.take out.length (byts out) ++ [byteC (l.getD i 0)]), [((decide ((↑i : Int) < (↑l.length : Int)) : Bool)) = (true),
 (((0 : Int) : Int) ≤ ((↑i : Int))),
 (((↑i : Int) : Int) ≤ ((↑l.length : Int))),
 (((↑l.length : Int) : Int) ≤ ((↑l.length : Int))),
 ((toldB (List.drop i (List.take l.length l)) : Bool)) = (false),
 (((0 : Int) : Int) ≤ ((↑i : Int))),
 (((↑i : Int) : Int) < ((↑l.length : Int))),
 (((1 : Nat) : Nat) ≤ ((1 : Nat))),
 (((out.length + (1 : Nat)) * (1 : Nat) : Nat) ≤ ((140737488355328 : Nat))),
 ((out.length + (1 : Nat) : Nat) ≤ ((4611686018427387904 : Nat))),
 ((out.length : Nat) ≤ ((byts out).length)),
 ((IntKind.i64.min : Int) ≤ ((↑i : Int) + (1 : Int))),
 (((↑i : Int) + (1 : Int) : Int) ≤ (IntKind.i64.max))]) := by kernel_rfl

theorem decr_3 (l : List UInt8) (i : Nat) (out : List UInt8) : roundOut (⟨[], [0, 3, 4], [0]⟩) (aCode Try.prog cl5 ⟨true, bs [(13, false)] ++ ([])⟩ (lpBy ([])) 60 (lbody Try.prog 6 3) (decG l i out.length (byts out))) = some (.exit 0, decG l i out.length (byts out), [((decide ((↑i : Int) < (↑l.length : Int)) : Bool)) = (false)]) := by kernel_rfl

theorem drop_getB (l : List UInt8) (i j : Nat) : (l.drop i).getD j 0 = l.getD (i + j) 0 := by
  simp [List.getD, List.getElem?_drop]

theorem byteC_of {v : Int} (h : 0 ≤ v ∧ v < 256) : AV.c (.int .u8 v) = byteC (UInt8.ofNat v.toNat) := by
  unfold byteC
  rw [UInt8.toNat_ofNat']
  have : ((v.toNat % 2 ^ 8 : Nat) : Int) = v := by omega
  rw [this]

/-- One step of what is decoded. -/
theorem unesc_at (l : List UInt8) (i : Nat) (h : i < l.length) : unescF (l.drop i) = if toldB (l.drop i) then UInt8.ofNat (toldV (l.drop i)).toNat :: unescF (l.drop (i + 3)) else l.getD i 0 :: unescF (l.drop (i + 1)) := by
  have e := drop_cons l i h
  split
  · rename_i ht
    rw [e] at ht ⊢
    rw [unesc_told ht, List.drop_drop]
  · rename_i ht
    rw [e] at ht ⊢
    rw [unesc_not (by simpa using ht)]

def DecInv (l : List UInt8) (x : Nat × List UInt8) : Prop := x.1 ≤ l.length ∧ x.2.length ≤ x.1 ∧ x.2 ++ unescF (l.drop x.1) = unescF l

theorem dec_told {l : List UInt8} {i : Nat} {out : List UInt8} (h : DecInv l (i, out)) (hi : i < l.length) (ht : toldB (l.drop i) = true) : DecInv l (i + 3, out ++ [UInt8.ofNat (toldV (l.drop i)).toNat]) ∧ i + 3 ≤ l.length := by
  obtain ⟨h1, h2, h3⟩ := h
  have hl := told_len ht
  rw [List.length_drop] at hl
  refine ⟨⟨by simp only; omega, by simp only [List.length_append, List.length_cons, List.length_nil] at *; omega, ?_⟩, by omega⟩
  simp only at h3 ⊢
  rw [← h3, unesc_at l i hi, if_pos ht, List.append_assoc]
  rfl
theorem dec_not {l : List UInt8} {i : Nat} {out : List UInt8} (h : DecInv l (i, out)) (hi : i < l.length) (ht : toldB (l.drop i) = false) : DecInv l (i + 1, out ++ [l.getD i 0]) := by
  obtain ⟨h1, h2, h3⟩ := h
  refine ⟨by simp only; omega, by simp only [List.length_append, List.length_cons, List.length_nil] at *; omega, ?_⟩
  simp only at h3 ⊢
  rw [← h3, unesc_at l i hi, if_neg (by simp [ht]), List.append_assoc]
  rfl
theorem dec_end {l : List UInt8} {i : Nat} {out : List UInt8} (h : DecInv l (i, out)) (hi : ¬ i < l.length) : out = unescF l ∧ i = l.length := by
  obtain ⟨h1, h2, h3⟩ := h
  simp only at h1 h3
  have : i = l.length := by omega
  subst this
  rw [List.drop_length, unesc_nil, List.append_nil] at h3
  exact ⟨h3, rfl⟩

theorem dec_loop (l : List UInt8) (hl : l.length ≤ 1000000000) : Tri Ext0 Try.prog (.loop (lbody Try.prog 6 3)) (decG l 0 0 []) (.exit 0) (decG l l.length (unescF l).length (byts (unescF l))) := by
  refine loop_inv mixed cl5_ok (fun x : Nat × List UInt8 => decG l x.1 x.2.length (byts x.2)) (DecInv l) (fun x => l.length - x.1) ?_ (0, []) ⟨Nat.zero_le _, Nat.zero_le _, rfl⟩
  rintro ⟨i, out⟩ hinv
  have h2 := hinv.2.1
  simp only at h2 ⊢
  by_cases hi : i < l.length
  · cases ht : toldB (l.drop i) with
    | true =>
      obtain ⟨k1, k2⟩ := dec_told hinv hi ht
      refine .inl ⟨(i + 3, out ++ [UInt8.ofNat (toldV (l.drop i)).toNat]), k1, by simp only; omega, ?_⟩
      simp only
      rw [List.length_append, ← byts_put, ← byts_single, ← byteC_of (toldV_rng ht)]
      have e : List.drop i (List.take l.length l) = l.drop i := by rw [List.take_length]
      have hr := decr_1 l i out
      rw [e] at hr
      refine ⟨_, _, _, _, _, lpBy_nil, by decide, hr, ?_⟩
      simp only [allP, ht, byts_length, and_true, true_and, decide_eq_true_eq, i64_min, i64_max]
      omega
    | false =>
      refine .inl ⟨(i + 1, out ++ [l.getD i 0]), dec_not hinv hi ht, by simp only; omega, ?_⟩
      simp only
      rw [List.length_append, ← byts_put, ← byts_single]
      have e : List.drop i (List.take l.length l) = l.drop i := by rw [List.take_length]
      have hr := decr_2 l i out
      rw [e] at hr
      refine ⟨_, _, _, _, _, lpBy_nil, by decide, hr, ?_⟩
      simp only [allP, ht, byts_length, and_true, true_and, decide_eq_true_eq, i64_min, i64_max]
      omega
  · obtain ⟨k1, k2⟩ := dec_end hinv hi
    subst k1 k2
    refine .inr ⟨by simp, _, _, _, _, _, lpBy_nil, by decide, decr_3 l l.length (unescF l), ?_⟩
    simp [allP]

def declFi : Fi := ⟨[], [0, 3, 4], [0]⟩
def rdeclFi : Fi := ⟨[(3, 5)], [0, 3, 4], [0]⟩
noncomputable def decLp (l : List UInt8) : List (Nat × Lp) := [(3, ⟨lbody Try.prog 6 3, declFi, decG l 0 0 [], .exit 0, decG l l.length (unescF l).length (byts (unescF l))⟩)]

theorem dec_1 (l : List UInt8) : outcome Try.prog 6 (aBody Try.prog cl5 ⟨true, bs [] ++ ([])⟩ (lpBy (decLp l)) 60 6 ([.c (str l)]) ([])) = some ((AV.fs 1 ((unescF l).length) (byts (unescF l))), [(((0 : Int) : Int) ≤ ((0 : Int))),
 (((0 : Int) : Int) ≤ ((↑l.length : Int))),
 (((↑l.length : Int) * (↑(1 : Nat) : Int) : Int) ≤ ((140737488355328 : Int))),
 (((↑l.length : Int) : Int) ≤ ((4611686018427387904 : Int))),
 ((lbody Try.prog (6 : FuncId) (3 : Nat) : Go.Code)) = (lbody Try.prog (6 : FuncId) (3 : Nat)),
 ((decG l (0 : Nat) (0 : Nat) [] : Go.Proofs.Ytfaffnemfndkfab.St)) = (decG l (0 : Nat) (0 : Nat) [])]) := by kernel_rfl

theorem dec_all (l : List UInt8) (h0 : l.length ≤ 1000000000) : ∃ (h : Hints) (p : List Prop), outcome Try.prog 6 (aBody Try.prog cl5 h (lpBy (decLp l)) 60 6 ([.c (str l)]) ([])) = some (.fs 1 (unescF l).length (byts (unescF l)), p) ∧ allP p := by
  have eR := dec_1 l
  refine ⟨_, _, eR.trans (congrArg (fun r => some (r, _)) ?_), ?_⟩
  · rfl
  · simp only [allP, and_true, true_and]
    repeat' apply And.intro
    all_goals first | omega | rfl

theorem dec_ok : SpecOK Try.prog 6 (fun args => match args with
  | [.c (.string t)] => some (.fs 1 (unescF (sb t)).length (byts (unescF (sb t))), [(sb t).length ≤ 1000000000])
  | _ => none) := by
  refine spec_of mixed cl5_ok fun args r q hs hq => ?_
  split at hs
  · rename_i t
    simp only [Option.some.injEq, Prod.mk.injEq] at hs
    obtain ⟨rfl, rfl⟩ := hs
    obtain ⟨⟨⟨l⟩⟩, rfl⟩ : ∃ b : ByteArray, b = t := ⟨t, rfl⟩
    obtain ⟨hh, p, e, hp⟩ := dec_all l hq.1
    exact ⟨_, _, _, _, lpBy_cons lpBy_nil (show declFi.m.Nodup by decide) (dec_loop l hq.1), e, hp⟩
  · simp at hs

end Go.Proofs.Ytfaffnemfndkfab
