/- How long a sign's beginning is: FullRuneInString. -/
import Derived.Test.YtfaffnemfndkfaaDoorBldB
import Derived.Lib.DecodeN
namespace Go.Proofs.YtfaffnemfndkfaaDoor
open Go.RowKit
set_option linter.unusedVariables false
set_option linter.unusedSimpArgs false

/-- A byte of a row (0 beyond it). -/
def bN (l : List UInt8) (i : Nat) : Nat := (l.getD i 0).toNat

/-- Are these bytes a whole sign, or none, at their front? -/
def fullF (l : List UInt8) : Bool :=
  if l.length = 0 then false
  else if Lib.firstT (bN l 0) % 8 ≤ l.length then true
  else if 1 < l.length ∧ (bN l 1 < Lib.accLo (Lib.firstT (bN l 0) / 16) ∨ Lib.accHi (Lib.firstT (bN l 0) / 16) < bN l 1) then true
  else if 2 < l.length ∧ (bN l 2 < 128 ∨ 191 < bN l 2) then true
  else false

theorem firstT_lt (b : Nat) : Lib.firstT b < 256 := by
  unfold Lib.firstT
  repeat' split
  all_goals omega

theorem firstAV_len : firstAV.length = 256 := by simp [firstAV]

theorem firstAV_at {c : Nat} (h : c < 256) : avEq ((List.drop c firstAV).headD .any) (.c (.int .u8 (Lib.firstT c))) := by
  have e : (List.drop c firstAV).headD .any = .c (.int .u8 (Lib.firstT c)) := by
    have h1 : (List.drop c firstAV).headD .any = firstAV.getD c .any := by
      have h2 : List.drop c firstAV = firstAV[c]'(by rw [firstAV_len]; exact h) :: List.drop (c + 1) firstAV := List.drop_eq_getElem_cons (by rw [firstAV_len]; exact h)
      rw [h2]
      simp [List.getD, firstAV_len, h]
    rw [h1]
    simp [firstAV, List.getD, h]
  rw [e]
  exact avEq_refl _

theorem and7 {x : Nat} (h : x < 256) : IntKind.i64.wrap (IntKind.u8.wrap ((BitVec.ofInt IntKind.u8.bits (x : Int) &&& BitVec.ofInt IntKind.u8.bits 7).toNat : Int)) = ((x % 8 : Nat) : Int) := by
  have k : ∀ y : Fin 256, IntKind.i64.wrap (IntKind.u8.wrap ((BitVec.ofInt IntKind.u8.bits (y.val : Int) &&& BitVec.ofInt IntKind.u8.bits 7).toNat : Int)) = ((y.val % 8 : Nat) : Int) := by decide +kernel
  exact k ⟨x, h⟩

theorem shr4 (x : Nat) : ((x : Nat) : Int).fdiv (2 ^ 4) = ((x / 16 : Nat) : Int) := by
  rw [Int.fdiv_eq_ediv_of_nonneg _ (by decide)]
  omega

theorem acceptAV_len : acceptAV.length = 32 := by decide

theorem acceptAV_at {i : Nat} (h : i < 16) : avEq (.ag (List.take 2 (List.drop (i * 2) acceptAV))) (.ag [.c (.int .u8 (Lib.accLo i)), .c (.int .u8 (Lib.accHi i))]) := by
  have e : List.take 2 (List.drop (i * 2) acceptAV) = [.c (.int .u8 (Lib.accLo i)), .c (.int .u8 (Lib.accHi i))] := by
    have h16 : i = 0 ∨ i = 1 ∨ i = 2 ∨ i = 3 ∨ i = 4 ∨ i = 5 ∨ i = 6 ∨ i = 7 ∨ i = 8 ∨ i = 9 ∨ i = 10 ∨ i = 11 ∨ i = 12 ∨ i = 13 ∨ i = 14 ∨ i = 15 := by omega
    rcases h16 with rfl | rfl | rfl | rfl | rfl | rfl | rfl | rfl | rfl | rfl | rfl | rfl | rfl | rfl | rfl | rfl <;> rfl
  rw [e]
  exact avEq_refl _

theorem bN_eq (l : List UInt8) (i : Nat) : (l.getD i 0).toNat = bN l i := rfl
theorem bN_lt (l : List UInt8) (i : Nat) : bN l i < 256 := UInt8.toNat_lt _
theorem toNat0 : Int.toNat (0 : Int) = 0 := rfl
theorem toNat1 : Int.toNat (1 : Int) = 1 := rfl
theorem toNat2 : Int.toNat (2 : Int) = 2 := rfl

theorem full_1 (l : List UInt8) (n : Nat) : outcome Tryd.prog 29 (aBody Tryd.prog cl0 ⟨true, bs [(9, true)] ++ ([(13, ⟨.c (.int .u8 (Lib.firstT (bN l 0))), none⟩), (17, ⟨.c (.int .i64 ((Lib.firstT (bN l 0) % 8 : Nat) : Int)), none⟩), (20, ⟨.c (.int .u8 ((Lib.firstT (bN l 0) / 16 : Nat) : Int)), none⟩), (22, ⟨.ag [.c (.int .u8 (Lib.accLo (Lib.firstT (bN l 0) / 16))), .c (.int .u8 (Lib.accHi (Lib.firstT (bN l 0) / 16)))], none⟩)])⟩ (lpBy ([])) 60 29 ([.c (str l)]) ([])) = some ((AV.c ((Value.bool false))), [(((↑l.length : Int) == (0 : Int) : Bool)) = (true)]) := by kernel_rfl

theorem full_2 (l : List UInt8) (n : Nat) : outcome Tryd.prog 29 (aBody Tryd.prog cl0 ⟨true, bs [(9, false), (18, true)] ++ ([(13, ⟨.c (.int .u8 (Lib.firstT (bN l 0))), none⟩), (17, ⟨.c (.int .i64 ((Lib.firstT (bN l 0) % 8 : Nat) : Int)), none⟩), (20, ⟨.c (.int .u8 ((Lib.firstT (bN l 0) / 16 : Nat) : Int)), none⟩), (22, ⟨.ag [.c (.int .u8 (Lib.accLo (Lib.firstT (bN l 0) / 16))), .c (.int .u8 (Lib.accHi (Lib.firstT (bN l 0) / 16)))], none⟩)])⟩ (lpBy ([])) 60 29 ([.c (str l)]) ([])) = some ((AV.c ((Value.bool true))), [(((↑l.length : Int) == (0 : Int) : Bool)) = (false),
 (((0 : Int) : Int) ≤ ((0 : Int))),
 (((0 : Int) : Int) < ((↑l.length : Int))),
 (((0 : Int) : Int) ≤ ((↑(l.getD (Int.toNat (0 : Int)) (0 : UInt8)).toNat : Int))),
 (((↑(l.getD (Int.toNat (0 : Int)) (0 : UInt8)).toNat : Int) : Int) < ((↑(256 : Nat) : Int))),
 (((0 : Nat) : Nat) < ((List.drop (l.getD (Int.toNat (0 : Int)) (0 : UInt8)).toNat firstAV).length)),
 avEq ((List.drop (l.getD (Int.toNat (0 : Int)) (0 : UInt8)).toNat firstAV).headD AV.any) ((AV.c ((Value.int .u8 ((↑(Lib.firstT (bN l (0 : Nat))) : Int)))))),
 ((IntKind.i64.wrap
  (IntKind.u8.wrap
    (↑(BitVec.ofInt IntKind.u8.bits (↑(Lib.firstT (bN l (0 : Nat))) : Int) &&&
            BitVec.ofInt IntKind.u8.bits (7 : Int)).toNat :
      Int)) : Int)) = ((↑(Lib.firstT (bN l (0 : Nat)) % (8 : Nat)) : Int)),
 ((decide ((↑l.length : Int) ≥ (↑(Lib.firstT (bN l (0 : Nat)) % (8 : Nat)) : Int)) : Bool)) = (true)]) := by kernel_rfl

theorem full_3 (l : List UInt8) (n : Nat) : outcome Tryd.prog 29 (aBody Tryd.prog cl0 ⟨true, bs [(9, false), (18, false), (24, true), (30, true)] ++ ([(13, ⟨.c (.int .u8 (Lib.firstT (bN l 0))), none⟩), (17, ⟨.c (.int .i64 ((Lib.firstT (bN l 0) % 8 : Nat) : Int)), none⟩), (20, ⟨.c (.int .u8 ((Lib.firstT (bN l 0) / 16 : Nat) : Int)), none⟩), (22, ⟨.ag [.c (.int .u8 (Lib.accLo (Lib.firstT (bN l 0) / 16))), .c (.int .u8 (Lib.accHi (Lib.firstT (bN l 0) / 16)))], none⟩)])⟩ (lpBy ([])) 60 29 ([.c (str l)]) ([])) = some ((AV.c ((Value.bool true))), [(((↑l.length : Int) == (0 : Int) : Bool)) = (false),
 (((0 : Int) : Int) ≤ ((0 : Int))),
 (((0 : Int) : Int) < ((↑l.length : Int))),
 (((0 : Int) : Int) ≤ ((↑(l.getD (Int.toNat (0 : Int)) (0 : UInt8)).toNat : Int))),
 (((↑(l.getD (Int.toNat (0 : Int)) (0 : UInt8)).toNat : Int) : Int) < ((↑(256 : Nat) : Int))),
 (((0 : Nat) : Nat) < ((List.drop (l.getD (Int.toNat (0 : Int)) (0 : UInt8)).toNat firstAV).length)),
 avEq ((List.drop (l.getD (Int.toNat (0 : Int)) (0 : UInt8)).toNat firstAV).headD AV.any) ((AV.c ((Value.int .u8 ((↑(Lib.firstT (bN l (0 : Nat))) : Int)))))),
 ((IntKind.i64.wrap
  (IntKind.u8.wrap
    (↑(BitVec.ofInt IntKind.u8.bits (↑(Lib.firstT (bN l (0 : Nat))) : Int) &&&
            BitVec.ofInt IntKind.u8.bits (7 : Int)).toNat :
      Int)) : Int)) = ((↑(Lib.firstT (bN l (0 : Nat)) % (8 : Nat)) : Int)),
 ((decide ((↑l.length : Int) ≥ (↑(Lib.firstT (bN l (0 : Nat)) % (8 : Nat)) : Int)) : Bool)) = (false),
 (((↑(Lib.firstT (bN l (0 : Nat))) : Int).fdiv ((2 : Int) ^ (4 : Nat)) : Int)) = ((↑(Lib.firstT (bN l (0 : Nat)) / (16 : Nat)) : Int)),
 (((0 : Int) : Int) ≤ ((↑(Lib.firstT (bN l (0 : Nat)) / (16 : Nat)) : Int))),
 (((↑(Lib.firstT (bN l (0 : Nat)) / (16 : Nat)) : Int) : Int) < ((↑(16 : Nat) : Int))),
 (((2 : Nat) : Nat) ≤ ((List.drop (Lib.firstT (bN l (0 : Nat)) / (16 : Nat) * nat_lit 2) acceptAV).length)),
 avEq ((AV.ag (List.take (2 : Nat) (List.drop (Lib.firstT (bN l (0 : Nat)) / (16 : Nat) * nat_lit 2) acceptAV)))) ((AV.ag [(AV.c ((Value.int .u8 ((↑(Lib.accLo (Lib.firstT (bN l (0 : Nat)) / (16 : Nat))) : Int))))),
 (AV.c ((Value.int .u8 ((↑(Lib.accHi (Lib.firstT (bN l (0 : Nat)) / (16 : Nat))) : Int)))))])),
 (((2 : Nat) : Nat) ≤ ((2 : Nat))),
 ((decide ((↑l.length : Int) > (1 : Int)) : Bool)) = (true),
 (((0 : Int) : Int) ≤ ((1 : Int))),
 (((1 : Int) : Int) < ((↑l.length : Int))),
 (((0 : Nat) : Nat) < ((2 : Nat))),
 ((decide
  ((↑(l.getD (Int.toNat (1 : Int)) (0 : UInt8)).toNat : Int) <
    (↑(Lib.accLo (Lib.firstT (bN l (0 : Nat)) / (16 : Nat))) : Int)) : Bool)) = (true)]) := by kernel_rfl

theorem full_4 (l : List UInt8) (n : Nat) : outcome Tryd.prog 29 (aBody Tryd.prog cl0 ⟨true, bs [(9, false), (18, false), (24, true), (30, false), (36, true)] ++ ([(13, ⟨.c (.int .u8 (Lib.firstT (bN l 0))), none⟩), (17, ⟨.c (.int .i64 ((Lib.firstT (bN l 0) % 8 : Nat) : Int)), none⟩), (20, ⟨.c (.int .u8 ((Lib.firstT (bN l 0) / 16 : Nat) : Int)), none⟩), (22, ⟨.ag [.c (.int .u8 (Lib.accLo (Lib.firstT (bN l 0) / 16))), .c (.int .u8 (Lib.accHi (Lib.firstT (bN l 0) / 16)))], none⟩)])⟩ (lpBy ([])) 60 29 ([.c (str l)]) ([])) = some ((AV.c ((Value.bool true))), [(((↑l.length : Int) == (0 : Int) : Bool)) = (false),
 (((0 : Int) : Int) ≤ ((0 : Int))),
 (((0 : Int) : Int) < ((↑l.length : Int))),
 (((0 : Int) : Int) ≤ ((↑(l.getD (Int.toNat (0 : Int)) (0 : UInt8)).toNat : Int))),
 (((↑(l.getD (Int.toNat (0 : Int)) (0 : UInt8)).toNat : Int) : Int) < ((↑(256 : Nat) : Int))),
 (((0 : Nat) : Nat) < ((List.drop (l.getD (Int.toNat (0 : Int)) (0 : UInt8)).toNat firstAV).length)),
 avEq ((List.drop (l.getD (Int.toNat (0 : Int)) (0 : UInt8)).toNat firstAV).headD AV.any) ((AV.c ((Value.int .u8 ((↑(Lib.firstT (bN l (0 : Nat))) : Int)))))),
 ((IntKind.i64.wrap
  (IntKind.u8.wrap
    (↑(BitVec.ofInt IntKind.u8.bits (↑(Lib.firstT (bN l (0 : Nat))) : Int) &&&
            BitVec.ofInt IntKind.u8.bits (7 : Int)).toNat :
      Int)) : Int)) = ((↑(Lib.firstT (bN l (0 : Nat)) % (8 : Nat)) : Int)),
 ((decide ((↑l.length : Int) ≥ (↑(Lib.firstT (bN l (0 : Nat)) % (8 : Nat)) : Int)) : Bool)) = (false),
 (((↑(Lib.firstT (bN l (0 : Nat))) : Int).fdiv ((2 : Int) ^ (4 : Nat)) : Int)) = ((↑(Lib.firstT (bN l (0 : Nat)) / (16 : Nat)) : Int)),
 (((0 : Int) : Int) ≤ ((↑(Lib.firstT (bN l (0 : Nat)) / (16 : Nat)) : Int))),
 (((↑(Lib.firstT (bN l (0 : Nat)) / (16 : Nat)) : Int) : Int) < ((↑(16 : Nat) : Int))),
 (((2 : Nat) : Nat) ≤ ((List.drop (Lib.firstT (bN l (0 : Nat)) / (16 : Nat) * nat_lit 2) acceptAV).length)),
 avEq ((AV.ag (List.take (2 : Nat) (List.drop (Lib.firstT (bN l (0 : Nat)) / (16 : Nat) * nat_lit 2) acceptAV)))) ((AV.ag [(AV.c ((Value.int .u8 ((↑(Lib.accLo (Lib.firstT (bN l (0 : Nat)) / (16 : Nat))) : Int))))),
 (AV.c ((Value.int .u8 ((↑(Lib.accHi (Lib.firstT (bN l (0 : Nat)) / (16 : Nat))) : Int)))))])),
 (((2 : Nat) : Nat) ≤ ((2 : Nat))),
 ((decide ((↑l.length : Int) > (1 : Int)) : Bool)) = (true),
 (((0 : Int) : Int) ≤ ((1 : Int))),
 (((1 : Int) : Int) < ((↑l.length : Int))),
 (((0 : Nat) : Nat) < ((2 : Nat))),
 ((decide
  ((↑(l.getD (Int.toNat (1 : Int)) (0 : UInt8)).toNat : Int) <
    (↑(Lib.accLo (Lib.firstT (bN l (0 : Nat)) / (16 : Nat))) : Int)) : Bool)) = (false),
 (((0 : Nat) : Nat) < ((1 : Nat))),
 (((0 : Int) : Int) ≤ ((1 : Int))),
 (((1 : Int) : Int) < ((↑l.length : Int))),
 ((decide
  ((↑(Lib.accHi (Lib.firstT (bN l (0 : Nat)) / (16 : Nat))) : Int) <
    (↑(l.getD (Int.toNat (1 : Int)) (0 : UInt8)).toNat : Int)) : Bool)) = (true)]) := by kernel_rfl

theorem full_5 (l : List UInt8) (n : Nat) : outcome Tryd.prog 29 (aBody Tryd.prog cl0 ⟨true, bs [(9, false), (18, false), (24, true), (30, false), (36, false), (40, true), (44, true)] ++ ([(13, ⟨.c (.int .u8 (Lib.firstT (bN l 0))), none⟩), (17, ⟨.c (.int .i64 ((Lib.firstT (bN l 0) % 8 : Nat) : Int)), none⟩), (20, ⟨.c (.int .u8 ((Lib.firstT (bN l 0) / 16 : Nat) : Int)), none⟩), (22, ⟨.ag [.c (.int .u8 (Lib.accLo (Lib.firstT (bN l 0) / 16))), .c (.int .u8 (Lib.accHi (Lib.firstT (bN l 0) / 16)))], none⟩)])⟩ (lpBy ([])) 60 29 ([.c (str l)]) ([])) = some ((AV.c ((Value.bool true))), [(((↑l.length : Int) == (0 : Int) : Bool)) = (false),
 (((0 : Int) : Int) ≤ ((0 : Int))),
 (((0 : Int) : Int) < ((↑l.length : Int))),
 (((0 : Int) : Int) ≤ ((↑(l.getD (Int.toNat (0 : Int)) (0 : UInt8)).toNat : Int))),
 (((↑(l.getD (Int.toNat (0 : Int)) (0 : UInt8)).toNat : Int) : Int) < ((↑(256 : Nat) : Int))),
 (((0 : Nat) : Nat) < ((List.drop (l.getD (Int.toNat (0 : Int)) (0 : UInt8)).toNat firstAV).length)),
 avEq ((List.drop (l.getD (Int.toNat (0 : Int)) (0 : UInt8)).toNat firstAV).headD AV.any) ((AV.c ((Value.int .u8 ((↑(Lib.firstT (bN l (0 : Nat))) : Int)))))),
 ((IntKind.i64.wrap
  (IntKind.u8.wrap
    (↑(BitVec.ofInt IntKind.u8.bits (↑(Lib.firstT (bN l (0 : Nat))) : Int) &&&
            BitVec.ofInt IntKind.u8.bits (7 : Int)).toNat :
      Int)) : Int)) = ((↑(Lib.firstT (bN l (0 : Nat)) % (8 : Nat)) : Int)),
 ((decide ((↑l.length : Int) ≥ (↑(Lib.firstT (bN l (0 : Nat)) % (8 : Nat)) : Int)) : Bool)) = (false),
 (((↑(Lib.firstT (bN l (0 : Nat))) : Int).fdiv ((2 : Int) ^ (4 : Nat)) : Int)) = ((↑(Lib.firstT (bN l (0 : Nat)) / (16 : Nat)) : Int)),
 (((0 : Int) : Int) ≤ ((↑(Lib.firstT (bN l (0 : Nat)) / (16 : Nat)) : Int))),
 (((↑(Lib.firstT (bN l (0 : Nat)) / (16 : Nat)) : Int) : Int) < ((↑(16 : Nat) : Int))),
 (((2 : Nat) : Nat) ≤ ((List.drop (Lib.firstT (bN l (0 : Nat)) / (16 : Nat) * nat_lit 2) acceptAV).length)),
 avEq ((AV.ag (List.take (2 : Nat) (List.drop (Lib.firstT (bN l (0 : Nat)) / (16 : Nat) * nat_lit 2) acceptAV)))) ((AV.ag [(AV.c ((Value.int .u8 ((↑(Lib.accLo (Lib.firstT (bN l (0 : Nat)) / (16 : Nat))) : Int))))),
 (AV.c ((Value.int .u8 ((↑(Lib.accHi (Lib.firstT (bN l (0 : Nat)) / (16 : Nat))) : Int)))))])),
 (((2 : Nat) : Nat) ≤ ((2 : Nat))),
 ((decide ((↑l.length : Int) > (1 : Int)) : Bool)) = (true),
 (((0 : Int) : Int) ≤ ((1 : Int))),
 (((1 : Int) : Int) < ((↑l.length : Int))),
 (((0 : Nat) : Nat) < ((2 : Nat))),
 ((decide
  ((↑(l.getD (Int.toNat (1 : Int)) (0 : UInt8)).toNat : Int) <
    (↑(Lib.accLo (Lib.firstT (bN l (0 : Nat)) / (16 : Nat))) : Int)) : Bool)) = (false),
 (((0 : Nat) : Nat) < ((1 : Nat))),
 (((0 : Int) : Int) ≤ ((1 : Int))),
 (((1 : Int) : Int) < ((↑l.length : Int))),
 ((decide
  ((↑(Lib.accHi (Lib.firstT (bN l (0 : Nat)) / (16 : Nat))) : Int) <
    (↑(l.getD (Int.toNat (1 : Int)) (0 : UInt8)).toNat : Int)) : Bool)) = (false),
 ((decide ((↑l.length : Int) > (2 : Int)) : Bool)) = (true),
 (((0 : Int) : Int) ≤ ((2 : Int))),
 (((2 : Int) : Int) < ((↑l.length : Int))),
 ((decide ((↑(l.getD (Int.toNat (2 : Int)) (0 : UInt8)).toNat : Int) < (128 : Int)) : Bool)) = (true)]) := by kernel_rfl

theorem full_6 (l : List UInt8) (n : Nat) : outcome Tryd.prog 29 (aBody Tryd.prog cl0 ⟨true, bs [(9, false), (18, false), (24, true), (30, false), (36, false), (40, true), (44, false), (48, true)] ++ ([(13, ⟨.c (.int .u8 (Lib.firstT (bN l 0))), none⟩), (17, ⟨.c (.int .i64 ((Lib.firstT (bN l 0) % 8 : Nat) : Int)), none⟩), (20, ⟨.c (.int .u8 ((Lib.firstT (bN l 0) / 16 : Nat) : Int)), none⟩), (22, ⟨.ag [.c (.int .u8 (Lib.accLo (Lib.firstT (bN l 0) / 16))), .c (.int .u8 (Lib.accHi (Lib.firstT (bN l 0) / 16)))], none⟩)])⟩ (lpBy ([])) 60 29 ([.c (str l)]) ([])) = some ((AV.c ((Value.bool true))), [(((↑l.length : Int) == (0 : Int) : Bool)) = (false),
 (((0 : Int) : Int) ≤ ((0 : Int))),
 (((0 : Int) : Int) < ((↑l.length : Int))),
 (((0 : Int) : Int) ≤ ((↑(l.getD (Int.toNat (0 : Int)) (0 : UInt8)).toNat : Int))),
 (((↑(l.getD (Int.toNat (0 : Int)) (0 : UInt8)).toNat : Int) : Int) < ((↑(256 : Nat) : Int))),
 (((0 : Nat) : Nat) < ((List.drop (l.getD (Int.toNat (0 : Int)) (0 : UInt8)).toNat firstAV).length)),
 avEq ((List.drop (l.getD (Int.toNat (0 : Int)) (0 : UInt8)).toNat firstAV).headD AV.any) ((AV.c ((Value.int .u8 ((↑(Lib.firstT (bN l (0 : Nat))) : Int)))))),
 ((IntKind.i64.wrap
  (IntKind.u8.wrap
    (↑(BitVec.ofInt IntKind.u8.bits (↑(Lib.firstT (bN l (0 : Nat))) : Int) &&&
            BitVec.ofInt IntKind.u8.bits (7 : Int)).toNat :
      Int)) : Int)) = ((↑(Lib.firstT (bN l (0 : Nat)) % (8 : Nat)) : Int)),
 ((decide ((↑l.length : Int) ≥ (↑(Lib.firstT (bN l (0 : Nat)) % (8 : Nat)) : Int)) : Bool)) = (false),
 (((↑(Lib.firstT (bN l (0 : Nat))) : Int).fdiv ((2 : Int) ^ (4 : Nat)) : Int)) = ((↑(Lib.firstT (bN l (0 : Nat)) / (16 : Nat)) : Int)),
 (((0 : Int) : Int) ≤ ((↑(Lib.firstT (bN l (0 : Nat)) / (16 : Nat)) : Int))),
 (((↑(Lib.firstT (bN l (0 : Nat)) / (16 : Nat)) : Int) : Int) < ((↑(16 : Nat) : Int))),
 (((2 : Nat) : Nat) ≤ ((List.drop (Lib.firstT (bN l (0 : Nat)) / (16 : Nat) * nat_lit 2) acceptAV).length)),
 avEq ((AV.ag (List.take (2 : Nat) (List.drop (Lib.firstT (bN l (0 : Nat)) / (16 : Nat) * nat_lit 2) acceptAV)))) ((AV.ag [(AV.c ((Value.int .u8 ((↑(Lib.accLo (Lib.firstT (bN l (0 : Nat)) / (16 : Nat))) : Int))))),
 (AV.c ((Value.int .u8 ((↑(Lib.accHi (Lib.firstT (bN l (0 : Nat)) / (16 : Nat))) : Int)))))])),
 (((2 : Nat) : Nat) ≤ ((2 : Nat))),
 ((decide ((↑l.length : Int) > (1 : Int)) : Bool)) = (true),
 (((0 : Int) : Int) ≤ ((1 : Int))),
 (((1 : Int) : Int) < ((↑l.length : Int))),
 (((0 : Nat) : Nat) < ((2 : Nat))),
 ((decide
  ((↑(l.getD (Int.toNat (1 : Int)) (0 : UInt8)).toNat : Int) <
    (↑(Lib.accLo (Lib.firstT (bN l (0 : Nat)) / (16 : Nat))) : Int)) : Bool)) = (false),
 (((0 : Nat) : Nat) < ((1 : Nat))),
 (((0 : Int) : Int) ≤ ((1 : Int))),
 (((1 : Int) : Int) < ((↑l.length : Int))),
 ((decide
  ((↑(Lib.accHi (Lib.firstT (bN l (0 : Nat)) / (16 : Nat))) : Int) <
    (↑(l.getD (Int.toNat (1 : Int)) (0 : UInt8)).toNat : Int)) : Bool)) = (false),
 ((decide ((↑l.length : Int) > (2 : Int)) : Bool)) = (true),
 (((0 : Int) : Int) ≤ ((2 : Int))),
 (((2 : Int) : Int) < ((↑l.length : Int))),
 ((decide ((↑(l.getD (Int.toNat (2 : Int)) (0 : UInt8)).toNat : Int) < (128 : Int)) : Bool)) = (false),
 (((0 : Int) : Int) ≤ ((2 : Int))),
 (((2 : Int) : Int) < ((↑l.length : Int))),
 ((decide ((191 : Int) < (↑(l.getD (Int.toNat (2 : Int)) (0 : UInt8)).toNat : Int)) : Bool)) = (true)]) := by kernel_rfl

theorem full_7 (l : List UInt8) (n : Nat) : outcome Tryd.prog 29 (aBody Tryd.prog cl0 ⟨true, bs [(9, false), (18, false), (24, true), (30, false), (36, false), (40, true), (44, false), (48, false)] ++ ([(13, ⟨.c (.int .u8 (Lib.firstT (bN l 0))), none⟩), (17, ⟨.c (.int .i64 ((Lib.firstT (bN l 0) % 8 : Nat) : Int)), none⟩), (20, ⟨.c (.int .u8 ((Lib.firstT (bN l 0) / 16 : Nat) : Int)), none⟩), (22, ⟨.ag [.c (.int .u8 (Lib.accLo (Lib.firstT (bN l 0) / 16))), .c (.int .u8 (Lib.accHi (Lib.firstT (bN l 0) / 16)))], none⟩)])⟩ (lpBy ([])) 60 29 ([.c (str l)]) ([])) = some ((AV.c ((Value.bool false))), [(((↑l.length : Int) == (0 : Int) : Bool)) = (false),
 (((0 : Int) : Int) ≤ ((0 : Int))),
 (((0 : Int) : Int) < ((↑l.length : Int))),
 (((0 : Int) : Int) ≤ ((↑(l.getD (Int.toNat (0 : Int)) (0 : UInt8)).toNat : Int))),
 (((↑(l.getD (Int.toNat (0 : Int)) (0 : UInt8)).toNat : Int) : Int) < ((↑(256 : Nat) : Int))),
 (((0 : Nat) : Nat) < ((List.drop (l.getD (Int.toNat (0 : Int)) (0 : UInt8)).toNat firstAV).length)),
 avEq ((List.drop (l.getD (Int.toNat (0 : Int)) (0 : UInt8)).toNat firstAV).headD AV.any) ((AV.c ((Value.int .u8 ((↑(Lib.firstT (bN l (0 : Nat))) : Int)))))),
 ((IntKind.i64.wrap
  (IntKind.u8.wrap
    (↑(BitVec.ofInt IntKind.u8.bits (↑(Lib.firstT (bN l (0 : Nat))) : Int) &&&
            BitVec.ofInt IntKind.u8.bits (7 : Int)).toNat :
      Int)) : Int)) = ((↑(Lib.firstT (bN l (0 : Nat)) % (8 : Nat)) : Int)),
 ((decide ((↑l.length : Int) ≥ (↑(Lib.firstT (bN l (0 : Nat)) % (8 : Nat)) : Int)) : Bool)) = (false),
 (((↑(Lib.firstT (bN l (0 : Nat))) : Int).fdiv ((2 : Int) ^ (4 : Nat)) : Int)) = ((↑(Lib.firstT (bN l (0 : Nat)) / (16 : Nat)) : Int)),
 (((0 : Int) : Int) ≤ ((↑(Lib.firstT (bN l (0 : Nat)) / (16 : Nat)) : Int))),
 (((↑(Lib.firstT (bN l (0 : Nat)) / (16 : Nat)) : Int) : Int) < ((↑(16 : Nat) : Int))),
 (((2 : Nat) : Nat) ≤ ((List.drop (Lib.firstT (bN l (0 : Nat)) / (16 : Nat) * nat_lit 2) acceptAV).length)),
 avEq ((AV.ag (List.take (2 : Nat) (List.drop (Lib.firstT (bN l (0 : Nat)) / (16 : Nat) * nat_lit 2) acceptAV)))) ((AV.ag [(AV.c ((Value.int .u8 ((↑(Lib.accLo (Lib.firstT (bN l (0 : Nat)) / (16 : Nat))) : Int))))),
 (AV.c ((Value.int .u8 ((↑(Lib.accHi (Lib.firstT (bN l (0 : Nat)) / (16 : Nat))) : Int)))))])),
 (((2 : Nat) : Nat) ≤ ((2 : Nat))),
 ((decide ((↑l.length : Int) > (1 : Int)) : Bool)) = (true),
 (((0 : Int) : Int) ≤ ((1 : Int))),
 (((1 : Int) : Int) < ((↑l.length : Int))),
 (((0 : Nat) : Nat) < ((2 : Nat))),
 ((decide
  ((↑(l.getD (Int.toNat (1 : Int)) (0 : UInt8)).toNat : Int) <
    (↑(Lib.accLo (Lib.firstT (bN l (0 : Nat)) / (16 : Nat))) : Int)) : Bool)) = (false),
 (((0 : Nat) : Nat) < ((1 : Nat))),
 (((0 : Int) : Int) ≤ ((1 : Int))),
 (((1 : Int) : Int) < ((↑l.length : Int))),
 ((decide
  ((↑(Lib.accHi (Lib.firstT (bN l (0 : Nat)) / (16 : Nat))) : Int) <
    (↑(l.getD (Int.toNat (1 : Int)) (0 : UInt8)).toNat : Int)) : Bool)) = (false),
 ((decide ((↑l.length : Int) > (2 : Int)) : Bool)) = (true),
 (((0 : Int) : Int) ≤ ((2 : Int))),
 (((2 : Int) : Int) < ((↑l.length : Int))),
 ((decide ((↑(l.getD (Int.toNat (2 : Int)) (0 : UInt8)).toNat : Int) < (128 : Int)) : Bool)) = (false),
 (((0 : Int) : Int) ≤ ((2 : Int))),
 (((2 : Int) : Int) < ((↑l.length : Int))),
 ((decide ((191 : Int) < (↑(l.getD (Int.toNat (2 : Int)) (0 : UInt8)).toNat : Int)) : Bool)) = (false)]) := by kernel_rfl

theorem full_8 (l : List UInt8) (n : Nat) : outcome Tryd.prog 29 (aBody Tryd.prog cl0 ⟨true, bs [(9, false), (18, false), (24, true), (30, false), (36, false), (40, false)] ++ ([(13, ⟨.c (.int .u8 (Lib.firstT (bN l 0))), none⟩), (17, ⟨.c (.int .i64 ((Lib.firstT (bN l 0) % 8 : Nat) : Int)), none⟩), (20, ⟨.c (.int .u8 ((Lib.firstT (bN l 0) / 16 : Nat) : Int)), none⟩), (22, ⟨.ag [.c (.int .u8 (Lib.accLo (Lib.firstT (bN l 0) / 16))), .c (.int .u8 (Lib.accHi (Lib.firstT (bN l 0) / 16)))], none⟩)])⟩ (lpBy ([])) 60 29 ([.c (str l)]) ([])) = some ((AV.c ((Value.bool false))), [(((↑l.length : Int) == (0 : Int) : Bool)) = (false),
 (((0 : Int) : Int) ≤ ((0 : Int))),
 (((0 : Int) : Int) < ((↑l.length : Int))),
 (((0 : Int) : Int) ≤ ((↑(l.getD (Int.toNat (0 : Int)) (0 : UInt8)).toNat : Int))),
 (((↑(l.getD (Int.toNat (0 : Int)) (0 : UInt8)).toNat : Int) : Int) < ((↑(256 : Nat) : Int))),
 (((0 : Nat) : Nat) < ((List.drop (l.getD (Int.toNat (0 : Int)) (0 : UInt8)).toNat firstAV).length)),
 avEq ((List.drop (l.getD (Int.toNat (0 : Int)) (0 : UInt8)).toNat firstAV).headD AV.any) ((AV.c ((Value.int .u8 ((↑(Lib.firstT (bN l (0 : Nat))) : Int)))))),
 ((IntKind.i64.wrap
  (IntKind.u8.wrap
    (↑(BitVec.ofInt IntKind.u8.bits (↑(Lib.firstT (bN l (0 : Nat))) : Int) &&&
            BitVec.ofInt IntKind.u8.bits (7 : Int)).toNat :
      Int)) : Int)) = ((↑(Lib.firstT (bN l (0 : Nat)) % (8 : Nat)) : Int)),
 ((decide ((↑l.length : Int) ≥ (↑(Lib.firstT (bN l (0 : Nat)) % (8 : Nat)) : Int)) : Bool)) = (false),
 (((↑(Lib.firstT (bN l (0 : Nat))) : Int).fdiv ((2 : Int) ^ (4 : Nat)) : Int)) = ((↑(Lib.firstT (bN l (0 : Nat)) / (16 : Nat)) : Int)),
 (((0 : Int) : Int) ≤ ((↑(Lib.firstT (bN l (0 : Nat)) / (16 : Nat)) : Int))),
 (((↑(Lib.firstT (bN l (0 : Nat)) / (16 : Nat)) : Int) : Int) < ((↑(16 : Nat) : Int))),
 (((2 : Nat) : Nat) ≤ ((List.drop (Lib.firstT (bN l (0 : Nat)) / (16 : Nat) * nat_lit 2) acceptAV).length)),
 avEq ((AV.ag (List.take (2 : Nat) (List.drop (Lib.firstT (bN l (0 : Nat)) / (16 : Nat) * nat_lit 2) acceptAV)))) ((AV.ag [(AV.c ((Value.int .u8 ((↑(Lib.accLo (Lib.firstT (bN l (0 : Nat)) / (16 : Nat))) : Int))))),
 (AV.c ((Value.int .u8 ((↑(Lib.accHi (Lib.firstT (bN l (0 : Nat)) / (16 : Nat))) : Int)))))])),
 (((2 : Nat) : Nat) ≤ ((2 : Nat))),
 ((decide ((↑l.length : Int) > (1 : Int)) : Bool)) = (true),
 (((0 : Int) : Int) ≤ ((1 : Int))),
 (((1 : Int) : Int) < ((↑l.length : Int))),
 (((0 : Nat) : Nat) < ((2 : Nat))),
 ((decide
  ((↑(l.getD (Int.toNat (1 : Int)) (0 : UInt8)).toNat : Int) <
    (↑(Lib.accLo (Lib.firstT (bN l (0 : Nat)) / (16 : Nat))) : Int)) : Bool)) = (false),
 (((0 : Nat) : Nat) < ((1 : Nat))),
 (((0 : Int) : Int) ≤ ((1 : Int))),
 (((1 : Int) : Int) < ((↑l.length : Int))),
 ((decide
  ((↑(Lib.accHi (Lib.firstT (bN l (0 : Nat)) / (16 : Nat))) : Int) <
    (↑(l.getD (Int.toNat (1 : Int)) (0 : UInt8)).toNat : Int)) : Bool)) = (false),
 ((decide ((↑l.length : Int) > (2 : Int)) : Bool)) = (false)]) := by kernel_rfl

theorem full_9 (l : List UInt8) (n : Nat) : outcome Tryd.prog 29 (aBody Tryd.prog cl0 ⟨true, bs [(9, false), (18, false), (24, false), (40, false)] ++ ([(13, ⟨.c (.int .u8 (Lib.firstT (bN l 0))), none⟩), (17, ⟨.c (.int .i64 ((Lib.firstT (bN l 0) % 8 : Nat) : Int)), none⟩), (20, ⟨.c (.int .u8 ((Lib.firstT (bN l 0) / 16 : Nat) : Int)), none⟩), (22, ⟨.ag [.c (.int .u8 (Lib.accLo (Lib.firstT (bN l 0) / 16))), .c (.int .u8 (Lib.accHi (Lib.firstT (bN l 0) / 16)))], none⟩)])⟩ (lpBy ([])) 60 29 ([.c (str l)]) ([])) = some ((AV.c ((Value.bool false))), [(((↑l.length : Int) == (0 : Int) : Bool)) = (false),
 (((0 : Int) : Int) ≤ ((0 : Int))),
 (((0 : Int) : Int) < ((↑l.length : Int))),
 (((0 : Int) : Int) ≤ ((↑(l.getD (Int.toNat (0 : Int)) (0 : UInt8)).toNat : Int))),
 (((↑(l.getD (Int.toNat (0 : Int)) (0 : UInt8)).toNat : Int) : Int) < ((↑(256 : Nat) : Int))),
 (((0 : Nat) : Nat) < ((List.drop (l.getD (Int.toNat (0 : Int)) (0 : UInt8)).toNat firstAV).length)),
 avEq ((List.drop (l.getD (Int.toNat (0 : Int)) (0 : UInt8)).toNat firstAV).headD AV.any) ((AV.c ((Value.int .u8 ((↑(Lib.firstT (bN l (0 : Nat))) : Int)))))),
 ((IntKind.i64.wrap
  (IntKind.u8.wrap
    (↑(BitVec.ofInt IntKind.u8.bits (↑(Lib.firstT (bN l (0 : Nat))) : Int) &&&
            BitVec.ofInt IntKind.u8.bits (7 : Int)).toNat :
      Int)) : Int)) = ((↑(Lib.firstT (bN l (0 : Nat)) % (8 : Nat)) : Int)),
 ((decide ((↑l.length : Int) ≥ (↑(Lib.firstT (bN l (0 : Nat)) % (8 : Nat)) : Int)) : Bool)) = (false),
 (((↑(Lib.firstT (bN l (0 : Nat))) : Int).fdiv ((2 : Int) ^ (4 : Nat)) : Int)) = ((↑(Lib.firstT (bN l (0 : Nat)) / (16 : Nat)) : Int)),
 (((0 : Int) : Int) ≤ ((↑(Lib.firstT (bN l (0 : Nat)) / (16 : Nat)) : Int))),
 (((↑(Lib.firstT (bN l (0 : Nat)) / (16 : Nat)) : Int) : Int) < ((↑(16 : Nat) : Int))),
 (((2 : Nat) : Nat) ≤ ((List.drop (Lib.firstT (bN l (0 : Nat)) / (16 : Nat) * nat_lit 2) acceptAV).length)),
 avEq ((AV.ag (List.take (2 : Nat) (List.drop (Lib.firstT (bN l (0 : Nat)) / (16 : Nat) * nat_lit 2) acceptAV)))) ((AV.ag [(AV.c ((Value.int .u8 ((↑(Lib.accLo (Lib.firstT (bN l (0 : Nat)) / (16 : Nat))) : Int))))),
 (AV.c ((Value.int .u8 ((↑(Lib.accHi (Lib.firstT (bN l (0 : Nat)) / (16 : Nat))) : Int)))))])),
 (((2 : Nat) : Nat) ≤ ((2 : Nat))),
 ((decide ((↑l.length : Int) > (1 : Int)) : Bool)) = (false),
 ((decide ((↑l.length : Int) > (2 : Int)) : Bool)) = (false)]) := by kernel_rfl

theorem full_all (l : List UInt8) (n : Nat) (h0 : l.length = n) (h1 : 0 < n) : ∃ (h : Hints) (p : List Prop), outcome Tryd.prog 29 (aBody Tryd.prog cl0 h (lpBy ([])) 60 29 ([.c (str l)]) ([])) = some (.c (.bool (fullF l)), p) ∧ allP p := by
  cases hc9 : ((↑l.length : Int) == (0 : Int) : Bool) with
  | true =>
    have eR := full_1 l n
    refine ⟨_, _, eR.trans (congrArg (fun r => some (r, _)) ?_), ?_⟩
    · clear eR
      simp only [decide_eq_true_eq, decide_eq_false_iff_not, beq_iff_eq, beq_eq_false_iff_ne, ne_eq] at *
      try simp only [toNat1, toNat2, bN_eq] at *
      refine congrArg (fun b => AV.c (Value.bool b)) ?_
      unfold fullF
      generalize Lib.firstT (bN l 0) % 8 = x7 at *
      generalize Lib.accLo (Lib.firstT (bN l 0) / 16) = lo at *
      generalize Lib.accHi (Lib.firstT (bN l 0) / 16) = hi at *
      generalize bN l 1 = b1 at *
      generalize bN l 2 = b2 at *
      repeat' split
      all_goals first | rfl | omega
    · clear eR
      simp only [decide_eq_true_eq, decide_eq_false_iff_not, beq_iff_eq, beq_eq_false_iff_ne, ne_eq] at *
      simp only [allP, decide_eq_true_eq, decide_eq_false_iff_not, beq_iff_eq, beq_eq_false_iff_ne, ne_eq]
      try simp only [toNat0, toNat1, toNat2, bN_eq] at *
      have hb := bN_lt l 0
      have hx := firstT_lt (bN l 0)
      have f1 := firstAV_at hb
      have f2 := and7 hx
      have f3 := shr4 (Lib.firstT (bN l 0))
      have f4 := acceptAV_at (i := Lib.firstT (bN l 0) / 16) (by omega)
      simp only [f1, f2, f3, f4, toNat0, toNat1, toNat2, bN_eq, List.length_drop, firstAV_len, acceptAV_len, and_true, true_and]
      clear f1 f2 f3 f4
      repeat' apply And.intro
      all_goals omega
  | false =>
    cases hc18 : (decide ((↑l.length : Int) ≥ (↑(Lib.firstT (bN l (0 : Nat)) % (8 : Nat)) : Int)) : Bool) with
    | true =>
      have eR := full_2 l n
      refine ⟨_, _, eR.trans (congrArg (fun r => some (r, _)) ?_), ?_⟩
      · clear eR
        simp only [decide_eq_true_eq, decide_eq_false_iff_not, beq_iff_eq, beq_eq_false_iff_ne, ne_eq] at *
        try simp only [toNat1, toNat2, bN_eq] at *
        refine congrArg (fun b => AV.c (Value.bool b)) ?_
        unfold fullF
        generalize Lib.firstT (bN l 0) % 8 = x7 at *
        generalize Lib.accLo (Lib.firstT (bN l 0) / 16) = lo at *
        generalize Lib.accHi (Lib.firstT (bN l 0) / 16) = hi at *
        generalize bN l 1 = b1 at *
        generalize bN l 2 = b2 at *
        repeat' split
        all_goals first | rfl | omega
      · clear eR
        simp only [decide_eq_true_eq, decide_eq_false_iff_not, beq_iff_eq, beq_eq_false_iff_ne, ne_eq] at *
        simp only [allP, decide_eq_true_eq, decide_eq_false_iff_not, beq_iff_eq, beq_eq_false_iff_ne, ne_eq]
        try simp only [toNat0, toNat1, toNat2, bN_eq] at *
        have hb := bN_lt l 0
        have hx := firstT_lt (bN l 0)
        have f1 := firstAV_at hb
        have f2 := and7 hx
        have f3 := shr4 (Lib.firstT (bN l 0))
        have f4 := acceptAV_at (i := Lib.firstT (bN l 0) / 16) (by omega)
        simp only [f1, f2, f3, f4, toNat0, toNat1, toNat2, bN_eq, List.length_drop, firstAV_len, acceptAV_len, and_true, true_and]
        clear f1 f2 f3 f4
        repeat' apply And.intro
        all_goals omega
    | false =>
      cases hc24 : (decide ((↑l.length : Int) > (1 : Int)) : Bool) with
      | true =>
        cases hc30 : (decide   ((↑(l.getD (Int.toNat (1 : Int)) (0 : UInt8)).toNat : Int) <     (↑(Lib.accLo (Lib.firstT (bN l (0 : Nat)) / (16 : Nat))) : Int)) : Bool) with
        | true =>
          have eR := full_3 l n
          refine ⟨_, _, eR.trans (congrArg (fun r => some (r, _)) ?_), ?_⟩
          · clear eR
            simp only [decide_eq_true_eq, decide_eq_false_iff_not, beq_iff_eq, beq_eq_false_iff_ne, ne_eq] at *
            try simp only [toNat1, toNat2, bN_eq] at *
            refine congrArg (fun b => AV.c (Value.bool b)) ?_
            unfold fullF
            generalize Lib.firstT (bN l 0) % 8 = x7 at *
            generalize Lib.accLo (Lib.firstT (bN l 0) / 16) = lo at *
            generalize Lib.accHi (Lib.firstT (bN l 0) / 16) = hi at *
            generalize bN l 1 = b1 at *
            generalize bN l 2 = b2 at *
            repeat' split
            all_goals first | rfl | omega
          · clear eR
            simp only [decide_eq_true_eq, decide_eq_false_iff_not, beq_iff_eq, beq_eq_false_iff_ne, ne_eq] at *
            simp only [allP, decide_eq_true_eq, decide_eq_false_iff_not, beq_iff_eq, beq_eq_false_iff_ne, ne_eq]
            try simp only [toNat0, toNat1, toNat2, bN_eq] at *
            have hb := bN_lt l 0
            have hx := firstT_lt (bN l 0)
            have f1 := firstAV_at hb
            have f2 := and7 hx
            have f3 := shr4 (Lib.firstT (bN l 0))
            have f4 := acceptAV_at (i := Lib.firstT (bN l 0) / 16) (by omega)
            simp only [f1, f2, f3, f4, toNat0, toNat1, toNat2, bN_eq, List.length_drop, firstAV_len, acceptAV_len, and_true, true_and]
            clear f1 f2 f3 f4
            repeat' apply And.intro
            all_goals omega
        | false =>
          cases hc36 : (decide   ((↑(Lib.accHi (Lib.firstT (bN l (0 : Nat)) / (16 : Nat))) : Int) <     (↑(l.getD (Int.toNat (1 : Int)) (0 : UInt8)).toNat : Int)) : Bool) with
          | true =>
            have eR := full_4 l n
            refine ⟨_, _, eR.trans (congrArg (fun r => some (r, _)) ?_), ?_⟩
            · clear eR
              simp only [decide_eq_true_eq, decide_eq_false_iff_not, beq_iff_eq, beq_eq_false_iff_ne, ne_eq] at *
              try simp only [toNat1, toNat2, bN_eq] at *
              refine congrArg (fun b => AV.c (Value.bool b)) ?_
              unfold fullF
              generalize Lib.firstT (bN l 0) % 8 = x7 at *
              generalize Lib.accLo (Lib.firstT (bN l 0) / 16) = lo at *
              generalize Lib.accHi (Lib.firstT (bN l 0) / 16) = hi at *
              generalize bN l 1 = b1 at *
              generalize bN l 2 = b2 at *
              repeat' split
              all_goals first | rfl | omega
            · clear eR
              simp only [decide_eq_true_eq, decide_eq_false_iff_not, beq_iff_eq, beq_eq_false_iff_ne, ne_eq] at *
              simp only [allP, decide_eq_true_eq, decide_eq_false_iff_not, beq_iff_eq, beq_eq_false_iff_ne, ne_eq]
              try simp only [toNat0, toNat1, toNat2, bN_eq] at *
              have hb := bN_lt l 0
              have hx := firstT_lt (bN l 0)
              have f1 := firstAV_at hb
              have f2 := and7 hx
              have f3 := shr4 (Lib.firstT (bN l 0))
              have f4 := acceptAV_at (i := Lib.firstT (bN l 0) / 16) (by omega)
              simp only [f1, f2, f3, f4, toNat0, toNat1, toNat2, bN_eq, List.length_drop, firstAV_len, acceptAV_len, and_true, true_and]
              clear f1 f2 f3 f4
              repeat' apply And.intro
              all_goals omega
          | false =>
            cases hc40 : (decide ((↑l.length : Int) > (2 : Int)) : Bool) with
            | true =>
              cases hc44 : (decide ((↑(l.getD (Int.toNat (2 : Int)) (0 : UInt8)).toNat : Int) < (128 : Int)) : Bool) with
              | true =>
                have eR := full_5 l n
                refine ⟨_, _, eR.trans (congrArg (fun r => some (r, _)) ?_), ?_⟩
                · clear eR
                  simp only [decide_eq_true_eq, decide_eq_false_iff_not, beq_iff_eq, beq_eq_false_iff_ne, ne_eq] at *
                  try simp only [toNat1, toNat2, bN_eq] at *
                  refine congrArg (fun b => AV.c (Value.bool b)) ?_
                  unfold fullF
                  generalize Lib.firstT (bN l 0) % 8 = x7 at *
                  generalize Lib.accLo (Lib.firstT (bN l 0) / 16) = lo at *
                  generalize Lib.accHi (Lib.firstT (bN l 0) / 16) = hi at *
                  generalize bN l 1 = b1 at *
                  generalize bN l 2 = b2 at *
                  repeat' split
                  all_goals first | rfl | omega
                · clear eR
                  simp only [decide_eq_true_eq, decide_eq_false_iff_not, beq_iff_eq, beq_eq_false_iff_ne, ne_eq] at *
                  simp only [allP, decide_eq_true_eq, decide_eq_false_iff_not, beq_iff_eq, beq_eq_false_iff_ne, ne_eq]
                  try simp only [toNat0, toNat1, toNat2, bN_eq] at *
                  have hb := bN_lt l 0
                  have hx := firstT_lt (bN l 0)
                  have f1 := firstAV_at hb
                  have f2 := and7 hx
                  have f3 := shr4 (Lib.firstT (bN l 0))
                  have f4 := acceptAV_at (i := Lib.firstT (bN l 0) / 16) (by omega)
                  simp only [f1, f2, f3, f4, toNat0, toNat1, toNat2, bN_eq, List.length_drop, firstAV_len, acceptAV_len, and_true, true_and]
                  clear f1 f2 f3 f4
                  repeat' apply And.intro
                  all_goals omega
              | false =>
                cases hc48 : (decide ((191 : Int) < (↑(l.getD (Int.toNat (2 : Int)) (0 : UInt8)).toNat : Int)) : Bool) with
                | true =>
                  have eR := full_6 l n
                  refine ⟨_, _, eR.trans (congrArg (fun r => some (r, _)) ?_), ?_⟩
                  · clear eR
                    simp only [decide_eq_true_eq, decide_eq_false_iff_not, beq_iff_eq, beq_eq_false_iff_ne, ne_eq] at *
                    try simp only [toNat1, toNat2, bN_eq] at *
                    refine congrArg (fun b => AV.c (Value.bool b)) ?_
                    unfold fullF
                    generalize Lib.firstT (bN l 0) % 8 = x7 at *
                    generalize Lib.accLo (Lib.firstT (bN l 0) / 16) = lo at *
                    generalize Lib.accHi (Lib.firstT (bN l 0) / 16) = hi at *
                    generalize bN l 1 = b1 at *
                    generalize bN l 2 = b2 at *
                    repeat' split
                    all_goals first | rfl | omega
                  · clear eR
                    simp only [decide_eq_true_eq, decide_eq_false_iff_not, beq_iff_eq, beq_eq_false_iff_ne, ne_eq] at *
                    simp only [allP, decide_eq_true_eq, decide_eq_false_iff_not, beq_iff_eq, beq_eq_false_iff_ne, ne_eq]
                    try simp only [toNat0, toNat1, toNat2, bN_eq] at *
                    have hb := bN_lt l 0
                    have hx := firstT_lt (bN l 0)
                    have f1 := firstAV_at hb
                    have f2 := and7 hx
                    have f3 := shr4 (Lib.firstT (bN l 0))
                    have f4 := acceptAV_at (i := Lib.firstT (bN l 0) / 16) (by omega)
                    simp only [f1, f2, f3, f4, toNat0, toNat1, toNat2, bN_eq, List.length_drop, firstAV_len, acceptAV_len, and_true, true_and]
                    clear f1 f2 f3 f4
                    repeat' apply And.intro
                    all_goals omega
                | false =>
                  have eR := full_7 l n
                  refine ⟨_, _, eR.trans (congrArg (fun r => some (r, _)) ?_), ?_⟩
                  · clear eR
                    simp only [decide_eq_true_eq, decide_eq_false_iff_not, beq_iff_eq, beq_eq_false_iff_ne, ne_eq] at *
                    try simp only [toNat1, toNat2, bN_eq] at *
                    refine congrArg (fun b => AV.c (Value.bool b)) ?_
                    unfold fullF
                    generalize Lib.firstT (bN l 0) % 8 = x7 at *
                    generalize Lib.accLo (Lib.firstT (bN l 0) / 16) = lo at *
                    generalize Lib.accHi (Lib.firstT (bN l 0) / 16) = hi at *
                    generalize bN l 1 = b1 at *
                    generalize bN l 2 = b2 at *
                    repeat' split
                    all_goals first | rfl | omega
                  · clear eR
                    simp only [decide_eq_true_eq, decide_eq_false_iff_not, beq_iff_eq, beq_eq_false_iff_ne, ne_eq] at *
                    simp only [allP, decide_eq_true_eq, decide_eq_false_iff_not, beq_iff_eq, beq_eq_false_iff_ne, ne_eq]
                    try simp only [toNat0, toNat1, toNat2, bN_eq] at *
                    have hb := bN_lt l 0
                    have hx := firstT_lt (bN l 0)
                    have f1 := firstAV_at hb
                    have f2 := and7 hx
                    have f3 := shr4 (Lib.firstT (bN l 0))
                    have f4 := acceptAV_at (i := Lib.firstT (bN l 0) / 16) (by omega)
                    simp only [f1, f2, f3, f4, toNat0, toNat1, toNat2, bN_eq, List.length_drop, firstAV_len, acceptAV_len, and_true, true_and]
                    clear f1 f2 f3 f4
                    repeat' apply And.intro
                    all_goals omega
            | false =>
              have eR := full_8 l n
              refine ⟨_, _, eR.trans (congrArg (fun r => some (r, _)) ?_), ?_⟩
              · clear eR
                simp only [decide_eq_true_eq, decide_eq_false_iff_not, beq_iff_eq, beq_eq_false_iff_ne, ne_eq] at *
                try simp only [toNat1, toNat2, bN_eq] at *
                refine congrArg (fun b => AV.c (Value.bool b)) ?_
                unfold fullF
                generalize Lib.firstT (bN l 0) % 8 = x7 at *
                generalize Lib.accLo (Lib.firstT (bN l 0) / 16) = lo at *
                generalize Lib.accHi (Lib.firstT (bN l 0) / 16) = hi at *
                generalize bN l 1 = b1 at *
                generalize bN l 2 = b2 at *
                repeat' split
                all_goals first | rfl | omega
              · clear eR
                simp only [decide_eq_true_eq, decide_eq_false_iff_not, beq_iff_eq, beq_eq_false_iff_ne, ne_eq] at *
                simp only [allP, decide_eq_true_eq, decide_eq_false_iff_not, beq_iff_eq, beq_eq_false_iff_ne, ne_eq]
                try simp only [toNat0, toNat1, toNat2, bN_eq] at *
                have hb := bN_lt l 0
                have hx := firstT_lt (bN l 0)
                have f1 := firstAV_at hb
                have f2 := and7 hx
                have f3 := shr4 (Lib.firstT (bN l 0))
                have f4 := acceptAV_at (i := Lib.firstT (bN l 0) / 16) (by omega)
                simp only [f1, f2, f3, f4, toNat0, toNat1, toNat2, bN_eq, List.length_drop, firstAV_len, acceptAV_len, and_true, true_and]
                clear f1 f2 f3 f4
                repeat' apply And.intro
                all_goals omega
      | false =>
        have eR := full_9 l n
        refine ⟨_, _, eR.trans (congrArg (fun r => some (r, _)) ?_), ?_⟩
        · clear eR
          simp only [decide_eq_true_eq, decide_eq_false_iff_not, beq_iff_eq, beq_eq_false_iff_ne, ne_eq] at *
          try simp only [toNat1, toNat2, bN_eq] at *
          refine congrArg (fun b => AV.c (Value.bool b)) ?_
          unfold fullF
          generalize Lib.firstT (bN l 0) % 8 = x7 at *
          generalize Lib.accLo (Lib.firstT (bN l 0) / 16) = lo at *
          generalize Lib.accHi (Lib.firstT (bN l 0) / 16) = hi at *
          generalize bN l 1 = b1 at *
          generalize bN l 2 = b2 at *
          repeat' split
          all_goals first | rfl | omega
        · clear eR
          simp only [decide_eq_true_eq, decide_eq_false_iff_not, beq_iff_eq, beq_eq_false_iff_ne, ne_eq] at *
          simp only [allP, decide_eq_true_eq, decide_eq_false_iff_not, beq_iff_eq, beq_eq_false_iff_ne, ne_eq]
          try simp only [toNat0, toNat1, toNat2, bN_eq] at *
          have hb := bN_lt l 0
          have hx := firstT_lt (bN l 0)
          have f1 := firstAV_at hb
          have f2 := and7 hx
          have f3 := shr4 (Lib.firstT (bN l 0))
          have f4 := acceptAV_at (i := Lib.firstT (bN l 0) / 16) (by omega)
          simp only [f1, f2, f3, f4, toNat0, toNat1, toNat2, bN_eq, List.length_drop, firstAV_len, acceptAV_len, and_true, true_and]
          clear f1 f2 f3 f4
          repeat' apply And.intro
          all_goals omega

end Go.Proofs.YtfaffnemfndkfaaDoor
