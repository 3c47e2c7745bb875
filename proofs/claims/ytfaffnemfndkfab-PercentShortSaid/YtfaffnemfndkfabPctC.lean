/- Bytes that are encoded: Encode, the document's and the program's. -/
import Derived.Test.YtfaffnemfndkfabPctB
namespace Go.Proofs.Ytfaffnemfndkfab
open Go.RowKit
set_option linter.unusedVariables false
set_option linter.unusedSimpArgs false

/-- A digit in base 16. -/
def hexB (n : Nat) : UInt8 := if n < 10 then UInt8.ofNat (48 + n) else UInt8.ofNat (55 + n)

def inB (s : Int) (c : UInt8) : Bool := inI s (c.toNat : Nat)

def enc1F (s : Int) (c : UInt8) : List UInt8 := if inB s c then [37, hexB (c.toNat / 16), hexB (c.toNat % 16)] else [c]
def encF (s : Int) (l : List UInt8) : List UInt8 := l.flatMap (enc1F s)

noncomputable def cl3 : CallT := aCall Try.prog (sgBy [(7, inSpec)]) 500 8
theorem cl3_ok : CallOK Try.prog cl3 := aCall_ok mixed (sgBy_cons in_ok sgBy_nil) 500 8

def encG (l : List UInt8) (s : Int) (i n : Nat) (L : List AV) : St := ⟨frame 38 [(0, .c (str l)), (1, .c (.int .i64 s)), (5, .sl 0 0 n), (6, .c (.int .i64 i))], [some ⟨5, false, L⟩]⟩
def rencG (l : List UInt8) (s : Int) (i n : Nat) (L : List AV) : St := ⟨frame 42 [(0, .c (str l)), (1, .c (.int .i64 s)), (5, .c (str [48, 49, 50, 51, 52, 53, 54, 55, 56, 57, 65, 66, 67, 68, 69, 70])), (6, .sl 0 0 n), (7, .c (.int .i64 i))], [some ⟨5, false, L⟩]⟩

theorem encr_1 (l : List UInt8) (s : Int) (i : Nat) (out : List UInt8) : roundOut (⟨[], [0, 1, 5, 6], [1]⟩) (aCode Try.prog cl3 ⟨true, bs [(14, true), (22, true)] ++ ([(26, ⟨byteC (hexB ((l.getD i 0).toNat / 16)), none⟩), (29, ⟨byteC (hexB ((l.getD i 0).toNat % 16)), none⟩)])⟩ (lpBy ([])) 60 (lbody Try.prog 8 3) (encG l s i out.length (byts out))) = some (.normal, encG l s (i + 1) (out.length + 3) (List.take out.length (byts out) ++ [byteC 37, byteC (hexB ((l.getD i 0).toNat / 16)), byteC (hexB ((l.getD i 0).toNat % 16))]), [((decide ((↑i : Int) < (↑l.length : Int)) : Bool)) = (true),
 (((0 : Int) : Int) ≤ ((↑i : Int))),
 (((↑i : Int) : Int) < ((↑l.length : Int))),
 (((0 : Int) : Int) ≤ ((↑(l.getD i (0 : UInt8)).toNat : Int))),
 (((↑(l.getD i (0 : UInt8)).toNat : Int) : Int) < ((256 : Int))),
 ((inI s (↑(l.getD i (0 : UInt8)).toNat : Int) : Bool)) = (true),
 (((0 : Int) : Int) ≤ ((↑(l.getD i (0 : UInt8)).toNat : Int).fdiv ((2 : Int) ^ (4 : Nat)))),
 (((↑(l.getD i (0 : UInt8)).toNat : Int).fdiv ((2 : Int) ^ (4 : Nat)) : Int) < ((↑(16 : Nat) : Int))),
 (((↑([(48 : UInt8), (49 : UInt8), (50 : UInt8), (51 : UInt8), (52 : UInt8), (53 : UInt8), (54 : UInt8), (55 : UInt8),
            (56 : UInt8), (57 : UInt8), (65 : UInt8), (66 : UInt8), (67 : UInt8), (68 : UInt8), (69 : UInt8),
            (70 : UInt8)].getD
        ((↑(l.getD i (0 : UInt8)).toNat : Int).fdiv ((2 : Int) ^ (4 : Nat))).toNat (0 : UInt8)).toNat :
  Int) : Int)) = ((↑(hexB ((l.getD i (0 : UInt8)).toNat / (16 : Nat))).toNat : Int)),
 (((0 : Int) : Int) ≤ (IntKind.u8.wrap
  (↑(BitVec.ofInt IntKind.u8.bits
            (↑((sb { data := { toList := l } }).getD (↑i : Int).toNat (0 : UInt8)).toNat : Int) &&&
          BitVec.ofInt IntKind.u8.bits (15 : Int)).toNat :
    Int))),
 ((IntKind.u8.wrap
  (↑(BitVec.ofInt IntKind.u8.bits
            (↑((sb { data := { toList := l } }).getD (↑i : Int).toNat (0 : UInt8)).toNat : Int) &&&
          BitVec.ofInt IntKind.u8.bits (15 : Int)).toNat :
    Int) : Int) < ((↑(16 : Nat) : Int))),
 (((↑([(48 : UInt8), (49 : UInt8), (50 : UInt8), (51 : UInt8), (52 : UInt8), (53 : UInt8), (54 : UInt8), (55 : UInt8),
            (56 : UInt8), (57 : UInt8), (65 : UInt8), (66 : UInt8), (67 : UInt8), (68 : UInt8), (69 : UInt8),
            (70 : UInt8)].getD
        (IntKind.u8.wrap
            (↑(BitVec.ofInt IntKind.u8.bits
                      (↑((sb { data := { toList := l } }).getD (↑i : Int).toNat (0 : UInt8)).toNat : Int) &&&
                    BitVec.ofInt IntKind.u8.bits (15 : Int)).toNat :
              Int)).toNat
        (0 : UInt8)).toNat :
  Int) : Int)) = ((↑(hexB ((l.getD i (0 : UInt8)).toNat % (16 : Nat))).toNat : Int)),
 (((3 : Nat) : Nat)) = ((3 : Nat)),
 (((out.length + (3 : Nat)) * (1 : Nat) : Nat) ≤ ((140737488355328 : Nat))),
 ((out.length + (3 : Nat) : Nat) ≤ ((4611686018427387904 : Nat))),
 ((out.length : Nat) ≤ ((byts out).length)),
 ((IntKind.i64.min : Int) ≤ ((↑i : Int) + (1 : Int))),
 (((↑i : Int) + (1 : Int) : Int) ≤ (IntKind.i64.max))]) := by kernel_rfl

theorem encr_2 (l : List UInt8) (s : Int) (i : Nat) (out : List UInt8) : roundOut (⟨[], [0, 1, 5, 6], [2]⟩) (aCode Try.prog cl3 ⟨true, bs [(14, true), (22, false)] ++ ([(26, ⟨byteC (hexB ((l.getD i 0).toNat / 16)), none⟩), (29, ⟨byteC (hexB ((l.getD i 0).toNat % 16)), none⟩)])⟩ (lpBy ([])) 60 (lbody Try.prog 8 3) (encG l s i out.length (byts out))) = some (.normal, encG l s (i + 1) (out.length + 1) (List.take out.length (byts out) ++ [byteC (l.getD i 0)]), [((decide ((↑i : Int) < (↑l.length : Int)) : Bool)) = (true),
 (((0 : Int) : Int) ≤ ((↑i : Int))),
 (((↑i : Int) : Int) < ((↑l.length : Int))),
 (((0 : Int) : Int) ≤ ((↑(l.getD i (0 : UInt8)).toNat : Int))),
 (((↑(l.getD i (0 : UInt8)).toNat : Int) : Int) < ((256 : Int))),
 ((inI s (↑(l.getD i (0 : UInt8)).toNat : Int) : Bool)) = (false),
 (((1 : Nat) : Nat) ≤ ((1 : Nat))),
 (((out.length + (1 : Nat)) * (1 : Nat) : Nat) ≤ ((140737488355328 : Nat))),
 ((out.length + (1 : Nat) : Nat) ≤ ((4611686018427387904 : Nat))),
 ((out.length : Nat) ≤ ((byts out).length)),
 ((IntKind.i64.min : Int) ≤ ((↑i : Int) + (1 : Int))),
 (((↑i : Int) + (1 : Int) : Int) ≤ (IntKind.i64.max))]) := by kernel_rfl

theorem encr_3 (l : List UInt8) (s : Int) (i : Nat) (out : List UInt8) : roundOut (⟨[], [0, 1, 5, 6], [0]⟩) (aCode Try.prog cl3 ⟨true, bs [(14, false)] ++ ([(26, ⟨byteC (hexB ((l.getD i 0).toNat / 16)), none⟩), (29, ⟨byteC (hexB ((l.getD i 0).toNat % 16)), none⟩)])⟩ (lpBy ([])) 60 (lbody Try.prog 8 3) (encG l s i out.length (byts out))) = some (.exit 0, encG l s i out.length (byts out), [((decide ((↑i : Int) < (↑l.length : Int)) : Bool)) = (false)]) := by kernel_rfl

theorem byts_put (out x : List UInt8) : (byts out).take out.length ++ byts x = byts (out ++ x) := by
  rw [List.take_of_length_le (by rw [byts_length]; exact Nat.le_refl _), byts_append]

theorem encF_next (s : Int) (l : List UInt8) (i : Nat) (h : i < l.length) : encF s (l.take (i + 1)) = encF s (l.take i) ++ enc1F s (l.getD i 0) := by
  rw [take_succ_getD l i 0 h]
  simp [encF]

theorem encF_len (s : Int) (l : List UInt8) : (encF s l).length ≤ 3 * l.length := by
  induction l with
  | nil => simp [encF]
  | cons x r ih =>
    simp only [encF, List.flatMap_cons, List.length_append, List.length_cons] at ih ⊢
    have : (enc1F s x).length ≤ 3 := by unfold enc1F; split <;> simp
    omega

def hexT : List UInt8 := [48, 49, 50, 51, 52, 53, 54, 55, 56, 57, 65, 66, 67, 68, 69, 70]
theorem hexT_at {k : Nat} (h : k < 16) : hexT.getD k 0 = hexB k := by
  have : ∀ k : Fin 16, hexT.getD k.val 0 = hexB k.val := by decide +kernel
  exact this ⟨k, h⟩
theorem shr4 (x : Nat) : ((x : Nat) : Int).fdiv ((2 : Int) ^ (4 : Nat)) = ((x / 16 : Nat) : Int) := by
  rw [Int.fdiv_eq_ediv_of_nonneg _ (by decide)]
  omega
theorem and15 {x : Nat} (h : x < 256) : IntKind.u8.wrap ((BitVec.ofInt IntKind.u8.bits (x : Int) &&& BitVec.ofInt IntKind.u8.bits 15).toNat : Int) = ((x % 16 : Nat) : Int) := by
  have k : ∀ y : Fin 256, IntKind.u8.wrap ((BitVec.ofInt IntKind.u8.bits (y.val : Int) &&& BitVec.ofInt IntKind.u8.bits 15).toNat : Int) = ((y.val % 16 : Nat) : Int) := by decide +kernel
  exact k ⟨x, h⟩
theorem tdv16 {x : Nat} (h : x < 256) : IntKind.u8.wrap (Int.tdiv (x : Int) 16) = ((x / 16 : Nat) : Int) := by
  rw [tdN (by omega), u8_wrap (by omega) (by omega)]; omega
theorem tmd16' (x : Nat) : Int.tmod (x : Int) 16 = ((x % 16 : Nat) : Int) := by
  rw [tmN (by omega)]; omega
theorem sb_mk (l : List UInt8) : sb ⟨⟨l⟩⟩ = l := rfl
theorem tmd16 {x : Nat} (h : x < 256) : IntKind.u8.wrap (Int.tmod (x : Int) 16) = ((x % 16 : Nat) : Int) := by
  rw [tmN (by omega), u8_wrap (by omega) (by omega)]; omega

theorem enc_loop (l : List UInt8) (s : Int) (hl : l.length ≤ 1000000000) : Tri Ext0 Try.prog (.loop (lbody Try.prog 8 3)) (encG l s 0 0 []) (.exit 0) (encG l s l.length (encF s l).length (byts (encF s l))) := by
  have key := loop_up mixed cl3_ok (fun i => encG l s i (encF s (l.take i)).length (byts (encF s (l.take i)))) l.length (e := .exit 0) (R := encG l s l.length (encF s l).length (byts (encF s l))) (b := lbody Try.prog 8 3) (by simp) ?_ ?_ 0 (Nat.zero_le _)
  · exact key
  · intro i hi
    have hx := (l.getD i 0).toNat_lt
    have hlen := encF_len s (l.take i)
    rw [List.length_take] at hlen
    try simp only
    rw [encF_next s l i hi]
    generalize encF s (l.take i) = out at *
    have h1 := hexT_at (k := (l.getD i 0).toNat / 16) (by omega)
    have h2 := hexT_at (k := (l.getD i 0).toNat % 16) (by omega)
    have h3 := shr4 (l.getD i 0).toNat
    have h4 := and15 hx
    have h5 := tdv16 hx
    have h6 := tmd16 hx
    unfold hexT at h1 h2
    cases hb : inB s (l.getD i 0) with
    | true =>
      have e1 : enc1F s (l.getD i 0) = [37, hexB ((l.getD i 0).toNat / 16), hexB ((l.getD i 0).toNat % 16)] := by unfold enc1F; rw [if_pos hb]
      rw [e1, List.length_append, ← byts_put]
      refine ⟨_, _, _, _, _, lpBy_nil, by decide, encr_1 l s i out, ?_⟩
      unfold inB at hb
      simp only [allP, hb, sb_mk, h3, h4, h5, h6, tmd16', Int.toNat_natCast, h1, h2, byts_length, and_true, true_and, decide_eq_true_eq, i64_min, i64_max]
      repeat' apply And.intro
      all_goals omega
    | false =>
      have e1 : enc1F s (l.getD i 0) = [l.getD i 0] := by unfold enc1F; rw [hb]; rfl
      rw [e1, List.length_append, ← byts_put]
      refine ⟨_, _, _, _, _, lpBy_nil, by decide, encr_2 l s i out, ?_⟩
      unfold inB at hb
      simp only [allP, hb, byts_length, and_true, true_and, decide_eq_true_eq, i64_min, i64_max]
      repeat' apply And.intro
      all_goals omega
  · simp only [List.take_length]
    refine ⟨_, _, _, _, _, lpBy_nil, by decide, encr_3 l s l.length (encF s l), ?_⟩
    simp [allP]

def enclFi : Fi := ⟨[], [0, 1, 5, 6], [0]⟩
def renclFi : Fi := ⟨[(6, 5)], [0, 1, 5, 6, 7], [0]⟩
noncomputable def encLp (l : List UInt8) (s : Int) : List (Nat × Lp) := [(3, ⟨lbody Try.prog 8 3, enclFi, encG l s 0 0 [], .exit 0, encG l s l.length (encF s l).length (byts (encF s l))⟩)]

theorem enc_1 (l : List UInt8) (s : Int) : outcome Try.prog 8 (aBody Try.prog cl3 ⟨true, bs [] ++ ([])⟩ (lpBy (encLp l s)) 60 8 ([.c (str l), .c (.int .i64 s)]) ([])) = some ((AV.c ((str (unbyts (List.take (encF s l).length (List.drop (0 : Nat) (byts (encF s l)))))))), [(((0 : Int) : Int) ≤ ((0 : Int))),
 (((0 : Int) : Int) ≤ ((↑l.length : Int))),
 (((↑l.length : Int) * (↑(1 : Nat) : Int) : Int) ≤ ((140737488355328 : Int))),
 (((↑l.length : Int) : Int) ≤ ((4611686018427387904 : Int))),
 ((lbody Try.prog (8 : FuncId) (3 : Nat) : Go.Code)) = (lbody Try.prog (8 : FuncId) (3 : Nat)),
 ((encG l s (0 : Nat) (0 : Nat) [] : Go.Proofs.Ytfaffnemfndkfab.St)) = (encG l s (0 : Nat) (0 : Nat) []),
 (((encF s l).length + (0 : Nat) : Nat) ≤ ((byts (encF s l)).length)),
 bytesOK (List.take (encF s l).length (List.drop (0 : Nat) (byts (encF s l))))]) := by kernel_rfl

theorem enc_all (l : List UInt8) (s : Int) (h0 : l.length ≤ 1000000000) : ∃ (h : Hints) (p : List Prop), outcome Try.prog 8 (aBody Try.prog cl3 h (lpBy (encLp l s)) 60 8 ([.c (str l), .c (.int .i64 s)]) ([])) = some (.c (str (encF s l)), p) ∧ allP p := by
  have eR := enc_1 l s
  refine ⟨_, _, eR.trans (congrArg (fun r => some (r, _)) ?_), ?_⟩
  · rw [List.drop_zero, ← byts_length, List.take_length, unbyts_byts]
  · have e : List.take (encF s l).length (List.drop 0 (byts (encF s l))) = byts (encF s l) := by rw [List.drop_zero, ← byts_length, List.take_length]
    simp only [allP, e, Nat.add_zero, byts_length, and_true, true_and]
    repeat' apply And.intro
    all_goals first | omega | exact bytesOK_byts _ | rfl

theorem enc_ok : SpecOK Try.prog 8 (fun args => match args with
  | [.c (.string t), .c (.int .i64 s)] => some (.c (str (encF s (sb t))), [(sb t).length ≤ 1000000000])
  | _ => none) := by
  refine spec_of mixed cl3_ok fun args r q hs hq => ?_
  split at hs
  · rename_i t s
    simp only [Option.some.injEq, Prod.mk.injEq] at hs
    obtain ⟨rfl, rfl⟩ := hs
    obtain ⟨⟨⟨l⟩⟩, rfl⟩ : ∃ b : ByteArray, b = t := ⟨t, rfl⟩
    obtain ⟨hh, p, e, hp⟩ := enc_all l s hq.1
    exact ⟨_, _, _, _, lpBy_cons lpBy_nil (show enclFi.m.Nodup by decide) (enc_loop l s hq.1), e, hp⟩
  · simp at hs

end Go.Proofs.Ytfaffnemfndkfab
