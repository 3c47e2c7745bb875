/- The laws of signs as letters. -/
import Derived.Test.YtljgmgbjfjhjmaaPnyW
import Derived.Test.YtljgmgbjfjhjmaaLow
import Derived.Test.YtljgmgbjfjhjmaaLevR
namespace Go.Proofs.Ytljgmgbjfjhjmaa
open Go.RowKit Pny
set_option linter.unusedVariables false
set_option linter.unusedSimpArgs false

def natsZ (N : List Nat) : List Int := N.map fun n : Nat => (n : Int)
theorem unI_nats (N : List Nat) : unI (nats N) = natsZ N := by
  unfold unI nats natsZ
  rw [List.map_map]
  rfl
theorem rowN_natsZ (N : List Nat) : rowN (natsZ N) = nats N := by
  unfold rowN nats natsZ
  rw [List.map_map]
  rfl
theorem natsZ_length (N : List Nat) : (natsZ N).length = N.length := by simp [natsZ]
theorem nats_tk (N : List Nat) : List.take N.length (nats N) = nats N := List.take_of_length_le (by rw [nats_length]; exact Nat.le_refl _)
theorem decL_le (s : List UInt8) : (decL s).length ≤ 255 := by
  unfold decL decP
  split
  · split
    · split
      · rename_i h; simpa using h
      · simp
    · simp
  · simp
theorem mayI_P {L : List Int} (h : mayI L = true) : mayP (natL L) = true ∧ L.length ≤ 255 ∧ L.all okI = true := by
  unfold mayI at h
  rw [Bool.and_eq_true, decide_eq_true_eq] at h
  refine ⟨?_, h⟩
  unfold mayP
  rw [Bool.and_eq_true, decide_eq_true_eq, List.all_eq_true]
  exact ⟨by simp only [natL, List.length_map]; exact h.1, natL_ok h.2⟩

theorem encV_len (L : List Int) : (encV L).length ≤ 2500 := by
  unfold encV
  split
  · rename_i h
    obtain ⟨h1, h2, _⟩ := mayI_P h
    obtain ⟨w, e, _, _, k1, k2⟩ := enc_shape h1
    have hn : (natL L).length = L.length := by simp [natL]
    have hh : (hyp (bas (natL L)).length).length ≤ 1 := by unfold hyp; split <;> simp
    rw [e, List.length_append, List.length_append]
    have : (byt (bas (natL L))).length = (bas (natL L)).length := by simp [byt]
    omega
  · simp

noncomputable def clPs : CallT := aCallH Try.prog (sgBy [(9, enc7Spec), (13, intsSpec2)]) (hsgBy [(11, dec7Spec)]) 500 8

theorem clPs_ok : CallOK Try.prog clPs := aCallH_ok mixed (sgBy_cons penc_ok (sgBy_cons ints2_ok sgBy_nil)) (hsgBy_cons pdec_ok hsgBy_nil) 500 8

noncomputable def lsm_X  (h_ : List (Nat × Bool)) := outcome Try.prog 8 (aBody Try.prog clPs ⟨true, bs h_ ++ (bs [(21, true), (25, true), (30, true), (34, true), (38, false), (42, false), (47, false), (51, true), (53, true), (63, true), (67, true), (78, true), (98, true)])⟩ (lpBy ([])) 60 8 ([]) ([]))

theorem lsm_1  : lsm_X  [] = some ((AV.c ((Value.bool true))), [(((1 : Nat) : Nat)) = ((1 : Nat)),
 ((List.take (6 : Nat) (List.drop (0 : Nat) ([AV.c (Value.int IntKind.i64 (98 : Int))] ++ ([AV.c (Value.int IntKind.i64 (252 : Int))] ++ ([AV.c (Value.int IntKind.i64 (99 : Int))] ++ ([AV.c (Value.int IntKind.i64 (104 : Int))] ++ ([AV.c (Value.int IntKind.i64 (101 : Int))] ++ ([AV.c (Value.int IntKind.i64 (114 : Int))] ++ []))))))) : List AV)) = (rowN (unI (List.take (6 : Nat) (List.drop (0 : Nat) ([AV.c (Value.int IntKind.i64 (98 : Int))] ++ ([AV.c (Value.int IntKind.i64 (252 : Int))] ++ ([AV.c (Value.int IntKind.i64 (99 : Int))] ++ ([AV.c (Value.int IntKind.i64 (104 : Int))] ++ ([AV.c (Value.int IntKind.i64 (101 : Int))] ++ ([AV.c (Value.int IntKind.i64 (114 : Int))] ++ [])))))))))),
 (((6 : Nat) : Nat)) = ((6 : Nat)),
 (flatV [] (AV.tu [AV.c (str (encV (unI (List.take (6 : Nat) (List.drop (0 : Nat) ([AV.c (Value.int IntKind.i64 (98 : Int))] ++ ([AV.c (Value.int IntKind.i64 (252 : Int))] ++ ([AV.c (Value.int IntKind.i64 (99 : Int))] ++ ([AV.c (Value.int IntKind.i64 (104 : Int))] ++ ([AV.c (Value.int IntKind.i64 (101 : Int))] ++ ([AV.c (Value.int IntKind.i64 (114 : Int))] ++ []))))))))))), AV.c (Value.bool (mayI (unI (List.take (6 : Nat) (List.drop (0 : Nat) ([AV.c (Value.int IntKind.i64 (98 : Int))] ++ ([AV.c (Value.int IntKind.i64 (252 : Int))] ++ ([AV.c (Value.int IntKind.i64 (99 : Int))] ++ ([AV.c (Value.int IntKind.i64 (104 : Int))] ++ ([AV.c (Value.int IntKind.i64 (101 : Int))] ++ ([AV.c (Value.int IntKind.i64 (114 : Int))] ++ [])))))))))))])) = true,
 (true) = true,
 (((9 : Nat) : Nat) ≤ ((100000 : Nat))),
 (true) = true,
 (((1 : Nat) : Nat)) = ((1 : Nat)),
 ((List.take (2 : Nat) (List.drop (0 : Nat) ([AV.c (Value.int IntKind.i64 (97 : Int))] ++ ([AV.c (Value.int IntKind.i64 (98 : Int))] ++ []))) : List AV)) = (rowN (unI (List.take (2 : Nat) (List.drop (0 : Nat) ([AV.c (Value.int IntKind.i64 (97 : Int))] ++ ([AV.c (Value.int IntKind.i64 (98 : Int))] ++ [])))))),
 (((2 : Nat) : Nat)) = ((2 : Nat)),
 (flatV [] (AV.tu [AV.c (str (encV (unI (List.take (2 : Nat) (List.drop (0 : Nat) ([AV.c (Value.int IntKind.i64 (97 : Int))] ++ ([AV.c (Value.int IntKind.i64 (98 : Int))] ++ []))))))), AV.c (Value.bool (mayI (unI (List.take (2 : Nat) (List.drop (0 : Nat) ([AV.c (Value.int IntKind.i64 (97 : Int))] ++ ([AV.c (Value.int IntKind.i64 (98 : Int))] ++ [])))))))])) = true,
 (true) = true,
 (((24 : Nat) : Nat) ≤ ((100000 : Nat))),
 (true) = true,
 (((4 : Nat) : Nat) ≤ ((100000 : Nat))),
 (false) = false,
 (((9 : Nat) : Nat) ≤ ((100000 : Nat))),
 (false) = false,
 (((1 : Nat) : Nat)) = ((1 : Nat)),
 ((List.take (1 : Nat) (List.drop (0 : Nat) ([AV.c (Value.int IntKind.i64 (55296 : Int))] ++ [])) : List AV)) = (rowN (unI (List.take (1 : Nat) (List.drop (0 : Nat) ([AV.c (Value.int IntKind.i64 (55296 : Int))] ++ []))))),
 (((1 : Nat) : Nat)) = ((1 : Nat)),
 (flatV [] (AV.tu [AV.c (str (encV (unI (List.take (1 : Nat) (List.drop (0 : Nat) ([AV.c (Value.int IntKind.i64 (55296 : Int))] ++ [])))))), AV.c (Value.bool (mayI (unI (List.take (1 : Nat) (List.drop (0 : Nat) ([AV.c (Value.int IntKind.i64 (55296 : Int))] ++ []))))))])) = true,
 (false) = false,
 (((0 : Nat) : Nat) ≤ ((100000 : Nat))),
 (true) = true,
 (true) = true,
 (((1 : Nat) : Nat)) = ((1 : Nat)),
 ((List.take (6 : Nat) (List.drop (0 : Nat) (nats (decL [(98 : UInt8), (99 : UInt8), (104 : UInt8), (101 : UInt8), (114 : UInt8), (45 : UInt8), (75 : UInt8), (86 : UInt8), (65 : UInt8)]))) : List AV)) = (rowN (unI (List.take (6 : Nat) (List.drop (0 : Nat) (nats (decL [(98 : UInt8), (99 : UInt8), (104 : UInt8), (101 : UInt8), (114 : UInt8), (45 : UInt8), (75 : UInt8), (86 : UInt8), (65 : UInt8)])))))),
 (((6 : Nat) : Nat)) = ((6 : Nat)),
 (((1 : Nat) : Nat)) = ((1 : Nat)),
 ((List.take (6 : Nat) (List.drop (0 : Nat) ([AV.c (Value.int IntKind.i64 (98 : Int))] ++ ([AV.c (Value.int IntKind.i64 (252 : Int))] ++ ([AV.c (Value.int IntKind.i64 (99 : Int))] ++ ([AV.c (Value.int IntKind.i64 (104 : Int))] ++ ([AV.c (Value.int IntKind.i64 (101 : Int))] ++ ([AV.c (Value.int IntKind.i64 (114 : Int))] ++ []))))))) : List AV)) = (rowN (unI (List.take (6 : Nat) (List.drop (0 : Nat) ([AV.c (Value.int IntKind.i64 (98 : Int))] ++ ([AV.c (Value.int IntKind.i64 (252 : Int))] ++ ([AV.c (Value.int IntKind.i64 (99 : Int))] ++ ([AV.c (Value.int IntKind.i64 (104 : Int))] ++ ([AV.c (Value.int IntKind.i64 (101 : Int))] ++ ([AV.c (Value.int IntKind.i64 (114 : Int))] ++ [])))))))))),
 (((6 : Nat) : Nat)) = ((6 : Nat)),
 (((6 : Nat) : Nat) ≤ ((1000000000 : Nat))),
 (flatV [] (AV.c (Value.bool (decide (unI (List.take (6 : Nat) (List.drop (0 : Nat) (nats (decL [(98 : UInt8), (99 : UInt8), (104 : UInt8), (101 : UInt8), (114 : UInt8), (45 : UInt8), (75 : UInt8), (86 : UInt8), (65 : UInt8)])))) = unI (List.take (6 : Nat) (List.drop (0 : Nat) ([AV.c (Value.int IntKind.i64 (98 : Int))] ++ ([AV.c (Value.int IntKind.i64 (252 : Int))] ++ ([AV.c (Value.int IntKind.i64 (99 : Int))] ++ ([AV.c (Value.int IntKind.i64 (104 : Int))] ++ ([AV.c (Value.int IntKind.i64 (101 : Int))] ++ ([AV.c (Value.int IntKind.i64 (114 : Int))] ++ []))))))))))))) = true,
 (true) = true,
 (true) = true,
 (((1 : Nat) : Nat)) = ((1 : Nat)),
 ((List.take (9 : Nat) (List.drop (0 : Nat) (nats (decL [(105 : UInt8), (104 : UInt8), (113 : UInt8), (119 : UInt8), (99 : UInt8), (114 : UInt8), (98 : UInt8), (52 : UInt8), (99 : UInt8), (118 : UInt8), (56 : UInt8), (97 : UInt8), (56 : UInt8), (100 : UInt8), (113 : UInt8), (103 : UInt8), (48 : UInt8), (53 : UInt8), (54 : UInt8), (112 : UInt8), (113 : UInt8), (106 : UInt8), (121 : UInt8), (101 : UInt8)]))) : List AV)) = (rowN (unI (List.take (9 : Nat) (List.drop (0 : Nat) (nats (decL [(105 : UInt8), (104 : UInt8), (113 : UInt8), (119 : UInt8), (99 : UInt8), (114 : UInt8), (98 : UInt8), (52 : UInt8), (99 : UInt8), (118 : UInt8), (56 : UInt8), (97 : UInt8), (56 : UInt8), (100 : UInt8), (113 : UInt8), (103 : UInt8), (48 : UInt8), (53 : UInt8), (54 : UInt8), (112 : UInt8), (113 : UInt8), (106 : UInt8), (121 : UInt8), (101 : UInt8)])))))),
 (((9 : Nat) : Nat)) = ((9 : Nat)),
 (((1 : Nat) : Nat)) = ((1 : Nat)),
 ((List.take (9 : Nat) (List.drop (0 : Nat) ([AV.c (Value.int IntKind.i64 (20182 : Int))] ++ ([AV.c (Value.int IntKind.i64 (20204 : Int))] ++ ([AV.c (Value.int IntKind.i64 (20026 : Int))] ++ ([AV.c (Value.int IntKind.i64 (20160 : Int))] ++ ([AV.c (Value.int IntKind.i64 (20040 : Int))] ++ ([AV.c (Value.int IntKind.i64 (19981 : Int))] ++ ([AV.c (Value.int IntKind.i64 (35828 : Int))] ++ ([AV.c (Value.int IntKind.i64 (20013 : Int))] ++ ([AV.c (Value.int IntKind.i64 (25991 : Int))] ++ [])))))))))) : List AV)) = (rowN (unI (List.take (9 : Nat) (List.drop (0 : Nat) ([AV.c (Value.int IntKind.i64 (20182 : Int))] ++ ([AV.c (Value.int IntKind.i64 (20204 : Int))] ++ ([AV.c (Value.int IntKind.i64 (20026 : Int))] ++ ([AV.c (Value.int IntKind.i64 (20160 : Int))] ++ ([AV.c (Value.int IntKind.i64 (20040 : Int))] ++ ([AV.c (Value.int IntKind.i64 (19981 : Int))] ++ ([AV.c (Value.int IntKind.i64 (35828 : Int))] ++ ([AV.c (Value.int IntKind.i64 (20013 : Int))] ++ ([AV.c (Value.int IntKind.i64 (25991 : Int))] ++ []))))))))))))),
 (((9 : Nat) : Nat)) = ((9 : Nat)),
 (((9 : Nat) : Nat) ≤ ((1000000000 : Nat))),
 (flatV [] (AV.c (Value.bool (decide (unI (List.take (9 : Nat) (List.drop (0 : Nat) (nats (decL [(105 : UInt8), (104 : UInt8), (113 : UInt8), (119 : UInt8), (99 : UInt8), (114 : UInt8), (98 : UInt8), (52 : UInt8), (99 : UInt8), (118 : UInt8), (56 : UInt8), (97 : UInt8), (56 : UInt8), (100 : UInt8), (113 : UInt8), (103 : UInt8), (48 : UInt8), (53 : UInt8), (54 : UInt8), (112 : UInt8), (113 : UInt8), (106 : UInt8), (121 : UInt8), (101 : UInt8)])))) = unI (List.take (9 : Nat) (List.drop (0 : Nat) ([AV.c (Value.int IntKind.i64 (20182 : Int))] ++ ([AV.c (Value.int IntKind.i64 (20204 : Int))] ++ ([AV.c (Value.int IntKind.i64 (20026 : Int))] ++ ([AV.c (Value.int IntKind.i64 (20160 : Int))] ++ ([AV.c (Value.int IntKind.i64 (20040 : Int))] ++ ([AV.c (Value.int IntKind.i64 (19981 : Int))] ++ ([AV.c (Value.int IntKind.i64 (35828 : Int))] ++ ([AV.c (Value.int IntKind.i64 (20013 : Int))] ++ ([AV.c (Value.int IntKind.i64 (25991 : Int))] ++ [])))))))))))))))) = true,
 (true) = true,
 (true) = true]) := by kernel_rfl

theorem lsm_all   : ∃ (h : Hints) (p : List Prop), outcome Try.prog 8 (aBody Try.prog clPs h (lpBy ([])) 60 8 ([]) ([])) = some (.c (.bool true), p) ∧ allP p := by
  have eR := lsm_1 
  refine ⟨_, _, eR.trans (congrArg (fun r => some (r, _)) ?_), ?_⟩
  · rfl
  · simp only [allP]
    repeat' apply And.intro
    all_goals first | exact True.intro | kernel_rfl | decide +kernel

def small7Spec : Spec
  | [] => some (.c (.bool true), [])
  | _ => none

theorem small7_ok : SpecOK Try.prog 8 small7Spec := by
  refine spec_of mixed clPs_ok fun args r q hs hq => ?_
  unfold small7Spec at hs
  split at hs
  · simp only [Option.some.injEq, Prod.mk.injEq] at hs
    obtain ⟨rfl, rfl⟩ := hs
    obtain ⟨hh, p, e, hp⟩ := lsm_all
    exact ⟨_, _, _, _, lpBy_nil, e, hp⟩
  · simp at hs

noncomputable def clPl : CallT := aCallH Try.prog (sgBy [(8, small7Spec), (9, enc7Spec), (10, enc7Spec), (13, intsSpec2), (14, lowSpec), (15, digitSpec)]) (hsgBy [(11, dec7Spec), (12, dec7Spec)]) 500 8

theorem clPl_ok : CallOK Try.prog clPl := aCallH_ok mixed (sgBy_cons small7_ok (sgBy_cons penc_ok (sgBy_cons renc_ok (sgBy_cons ints2_ok (sgBy_cons lower_ok (sgBy_cons digit_ok sgBy_nil)))))) (hsgBy_cons pdec_ok (hsgBy_cons rdec_ok hsgBy_nil)) 500 8

/-! Both are as the document says. -/
theorem tell0_all (L : List Int) (s : List UInt8) (h0 : (L.length : Int) > 300 ∨ (s.length : Int) > 400) : ∃ (h : Hints) (p : List Prop), lawOut (aBody Try.prog clPl h (lpBy ([])) 60 3 ([.fs 1 L.length (rowN L), .c (str s)]) ([])) = some (.c (.bool true), p) ∧ allP p := by
  refine bcase (decide ((↑L.length : Int) > (300 : Int))) (fun hc17 => ⟨⟨true, bs [(17, true)]⟩, [decide ((↑L.length : Int) > 300) = true], by kernel_rfl, ?_⟩)
    (fun hc17 => ⟨⟨true, bs [(17, false), (21, true)]⟩, [decide ((↑L.length : Int) > 300) = false,
 decide ((↑s.length : Int) > 400) = true], by kernel_rfl, ?_⟩)
  all_goals try simp only [dz] at hc17
  all_goals try simp (disch := omega) only [std]
  all_goals repeat' apply And.intro
  all_goals first | exact True.intro | omega | with_reducible rfl | with_reducible assumption | rfl

theorem tell1_all (L : List Int) (s : List UInt8) (h0 : L.length ≤ 300) (h1 : s.length ≤ 400) (h2 : (decL s).length ≤ 255) : ∃ (h : Hints) (p : List Prop), lawOut (aBody Try.prog clPl h (lpBy ([])) 60 3 ([.fs 1 L.length (rowN L), .c (str s)]) ([])) = some (.c (.bool true), p) ∧ allP p := by
  refine ⟨⟨true, (bs [(17, false), (21, false), (48, true), (53, true), (58, true), (63, true)])⟩, [decide ((↑L.length : Int) > 300) = false,
 decide ((↑s.length : Int) > 400) = false,
 (((1 : Nat) : Nat)) = ((1 : Nat)),
 ((rowN L : List AV)) = (rowN (unI (rowN L))),
 ((L.length : Nat)) = ((unI (rowN L)).length),
 (((1 : Nat) : Nat)) = ((1 : Nat)),
 ((rowN L : List AV)) = (rowN (unI (rowN L))),
 ((L.length : Nat)) = ((unI (rowN L)).length),
 ((s.length : Nat) ≤ ((100000 : Nat))),
 ((s.length : Nat) ≤ ((100000 : Nat))),
 (encV (unI (rowN L)) == encV (unI (rowN L))) = true,
 (mayI (unI (rowN L)) == mayI (unI (rowN L))) = true,
 ((Try.prog.cellsOf (3 : TypeId) : Nat)) = ((1 : Nat)),
 ((List.take (decL s).length (List.drop (0 : Nat) (nats (decL s))) : List AV)) = (rowN (unI (List.take (decL s).length (List.drop (0 : Nat) (nats (decL s)))))),
 (((decL s).length : Nat)) = ((unI (List.take (decL s).length (List.drop (0 : Nat) (nats (decL s))))).length),
 ((Try.prog.cellsOf (3 : TypeId) : Nat)) = ((1 : Nat)),
 ((List.take (decL s).length (List.drop (0 : Nat) (nats (decL s))) : List AV)) = (rowN (unI (List.take (decL s).length (List.drop (0 : Nat) (nats (decL s)))))),
 (((decL s).length : Nat)) = ((unI (List.take (decL s).length (List.drop (0 : Nat) (nats (decL s))))).length),
 (((decL s).length : Nat) ≤ ((1000000000 : Nat))),
 (flatV [] (AV.c (Value.bool (decide (unI (List.take (decL s).length (List.drop (0 : Nat) (nats (decL s)))) = unI (List.take (decL s).length (List.drop (0 : Nat) (nats (decL s))))))))) = true,
 (decide (unI (List.take (decL s).length (List.drop (0 : Nat) (nats (decL s)))) = unI (List.take (decL s).length (List.drop (0 : Nat) (nats (decL s)))))) = true,
 ((decP (sb { data := { toList := s } })).isSome == (decP (sb { data := { toList := s } })).isSome) = true], by kernel_rfl, ?_⟩
  all_goals try simp (disch := omega) only [std, beq_self_eq_true, unI_rowN, unI_nats, rowN_natsZ, natsZ_length, nats_tk, nats_length]
  all_goals repeat' apply And.intro
  all_goals first | exact True.intro | omega | with_reducible rfl | with_reducible assumption | rfl

/-! What was written is read. -/
def bkS (C : List AV) (k : Nat) (s : List UInt8) (ok m : Bool) (i : Nat) : St := ⟨frame 87 [(0, .fs 1 k C), (3, .c (.bool true)), (4, .c (str s)), (5, .c (.bool ok)), (6, .c (.bool m)), (7, .c (.int .i64 i))], []⟩

noncomputable def bkA_B (C : List AV) (k : Nat) (s : List UInt8) (ok m m1 : Bool) (i : Nat) (z : Int) : List (Nat × Hint) := bs [(22, true), (25, true)] ++ [(34, ⟨.c (.int .i64 z), none⟩), (41, ⟨.c (.int .i64 z), none⟩), (48, ⟨.c (.int .i64 z), none⟩), (54, ⟨.c (.int .i64 z), none⟩), (57, ⟨.c (.bool m1), none⟩)]

theorem bkA_all (C : List AV) (k : Nat) (s : List UInt8) (ok m m1 : Bool) (i : Nat) (z : Int) (hi : i < k) (hi3 : i < 300) (hat : avEq ((C.drop i).headD .any) (.c (.int .i64 z))) (hm1 : (m && okI z) = m1) (hl : k ≤ 9223372036854775807) (hC : C.length = k) : Round Ext0 Try.prog cl0 (lbody Try.prog 4 5) (bkS C k s ok m i) (.normal) (bkS C k s ok m1 (i + 1)) := by
  refine bcase (m) (fun hc30 => bcase (decide (z ≥ (0 : Int))) (fun hc35 => bcase (decide (z ≤ (1114111 : Int))) (fun hc42 => bcase (decide (z < (55296 : Int))) (fun hc49 => ⟨⟨true, bs [(30, true), (35, true), (42, true), (49, true)] ++ bkA_B C k s ok m m1 i z⟩, _, 60, ⟨[], [0, 3, 4, 5, 6, 7], []⟩, [decide ((↑i : Int) < ↑k) = true,
 decide ((↑i : Int) < 300) = true,
 (m) = true,
 (0 : Int) ≤ ↑i,
 (↑i : Int) < ↑k,
 (((0 : Nat) : Nat) < ((List.drop i C).length)),
 avEq ((List.drop i C).headD AV.any) ((AV.c ((Value.int .i64 z)))),
 decide ((z : Int) ≥ 0) = true,
 (0 : Int) ≤ ↑i,
 (↑i : Int) < ↑k,
 (((0 : Nat) : Nat) < ((List.drop i C).length)),
 avEq ((List.drop i C).headD AV.any) ((AV.c ((Value.int .i64 z)))),
 decide ((z : Int) ≤ 1114111) = true,
 (0 : Int) ≤ ↑i,
 (↑i : Int) < ↑k,
 (((0 : Nat) : Nat) < ((List.drop i C).length)),
 avEq ((List.drop i C).headD AV.any) ((AV.c ((Value.int .i64 z)))),
 decide ((z : Int) < 55296) = true,
 ((true : Bool)) = (m1),
 (IntKind.i64.min : Int) ≤ ↑i + 1,
 (↑i + 1 : Int) ≤ IntKind.i64.max], lpBy_nil, by decide, by kernel_rfl, ?_⟩)
    (fun hc49 => ⟨⟨true, bs [(30, true), (35, true), (42, true), (49, false)] ++ bkA_B C k s ok m m1 i z⟩, _, 60, ⟨[], [0, 3, 4, 5, 6, 7], []⟩, [decide ((↑i : Int) < ↑k) = true,
 decide ((↑i : Int) < 300) = true,
 (m) = true,
 (0 : Int) ≤ ↑i,
 (↑i : Int) < ↑k,
 (((0 : Nat) : Nat) < ((List.drop i C).length)),
 avEq ((List.drop i C).headD AV.any) ((AV.c ((Value.int .i64 z)))),
 decide ((z : Int) ≥ 0) = true,
 (0 : Int) ≤ ↑i,
 (↑i : Int) < ↑k,
 (((0 : Nat) : Nat) < ((List.drop i C).length)),
 avEq ((List.drop i C).headD AV.any) ((AV.c ((Value.int .i64 z)))),
 decide ((z : Int) ≤ 1114111) = true,
 (0 : Int) ≤ ↑i,
 (↑i : Int) < ↑k,
 (((0 : Nat) : Nat) < ((List.drop i C).length)),
 avEq ((List.drop i C).headD AV.any) ((AV.c ((Value.int .i64 z)))),
 decide ((z : Int) < 55296) = false,
 (0 : Int) ≤ ↑i,
 (↑i : Int) < ↑k,
 (((0 : Nat) : Nat) < ((List.drop i C).length)),
 avEq ((List.drop i C).headD AV.any) ((AV.c ((Value.int .i64 z)))),
 ((decide (z > (57343 : Int)) : Bool)) = (m1),
 (IntKind.i64.min : Int) ≤ ↑i + 1,
 (↑i + 1 : Int) ≤ IntKind.i64.max], lpBy_nil, by decide, by kernel_rfl, ?_⟩))
    (fun hc42 => ⟨⟨true, bs [(30, true), (35, true), (42, false)] ++ bkA_B C k s ok m m1 i z⟩, _, 60, ⟨[], [0, 3, 4, 5, 6, 7], []⟩, [decide ((↑i : Int) < ↑k) = true,
 decide ((↑i : Int) < 300) = true,
 (m) = true,
 (0 : Int) ≤ ↑i,
 (↑i : Int) < ↑k,
 (((0 : Nat) : Nat) < ((List.drop i C).length)),
 avEq ((List.drop i C).headD AV.any) ((AV.c ((Value.int .i64 z)))),
 decide ((z : Int) ≥ 0) = true,
 (0 : Int) ≤ ↑i,
 (↑i : Int) < ↑k,
 (((0 : Nat) : Nat) < ((List.drop i C).length)),
 avEq ((List.drop i C).headD AV.any) ((AV.c ((Value.int .i64 z)))),
 decide ((z : Int) ≤ 1114111) = false,
 ((false : Bool)) = (m1),
 (IntKind.i64.min : Int) ≤ ↑i + 1,
 (↑i + 1 : Int) ≤ IntKind.i64.max], lpBy_nil, by decide, by kernel_rfl, ?_⟩))
    (fun hc35 => ⟨⟨true, bs [(30, true), (35, false)] ++ bkA_B C k s ok m m1 i z⟩, _, 60, ⟨[], [0, 3, 4, 5, 6, 7], []⟩, [decide ((↑i : Int) < ↑k) = true,
 decide ((↑i : Int) < 300) = true,
 (m) = true,
 (0 : Int) ≤ ↑i,
 (↑i : Int) < ↑k,
 (((0 : Nat) : Nat) < ((List.drop i C).length)),
 avEq ((List.drop i C).headD AV.any) ((AV.c ((Value.int .i64 z)))),
 decide ((z : Int) ≥ 0) = false,
 ((false : Bool)) = (m1),
 (IntKind.i64.min : Int) ≤ ↑i + 1,
 (↑i + 1 : Int) ≤ IntKind.i64.max], lpBy_nil, by decide, by kernel_rfl, ?_⟩))
    (fun hc30 => ⟨⟨true, bs [(30, false)] ++ bkA_B C k s ok m m1 i z⟩, _, 60, ⟨[], [0, 3, 4, 5, 6, 7], []⟩, [decide ((↑i : Int) < ↑k) = true,
 decide ((↑i : Int) < 300) = true,
 (m) = false,
 ((false : Bool)) = (m1),
 (IntKind.i64.min : Int) ≤ ↑i + 1,
 (↑i + 1 : Int) ≤ IntKind.i64.max], lpBy_nil, by decide, by kernel_rfl, ?_⟩)
  all_goals try simp only [dz] at hc30
  all_goals try simp only [dz] at hc35
  all_goals try simp only [dz] at hc42
  all_goals try simp only [dz] at hc49
  all_goals try simp (disch := omega) only [std, List.length_drop, hC]
  all_goals repeat' apply And.intro
  all_goals first | exact True.intro | omega | with_reducible rfl | with_reducible assumption | (rw [← hm1, okI_eq, decide_eq_true hc35, decide_eq_true hc42, decide_eq_true hc49, hc30]; rfl) | (rw [← hm1, okI_eq, decide_eq_true hc35, decide_eq_true hc42, decide_eq_false hc49, hc30]; rfl) | (rw [← hm1, okI_eq, decide_eq_true hc35, decide_eq_false hc42, hc30]; rfl) | (rw [← hm1, okI_eq, decide_eq_false hc35, hc30]; rfl) | (rw [← hm1, hc30]; rfl) | exact hat | exact hm1 | exact hC | rfl


theorem bkZ_all (C : List AV) (k : Nat) (s : List UInt8) (ok m m1 : Bool) (i : Nat) (z : Int) (hi : ¬ (i < k ∧ i < 300)) (hl : k ≤ 9223372036854775807) (hC : C.length = k) : Round Ext0 Try.prog cl0 (lbody Try.prog 4 5) (bkS C k s ok m i) (.exit 0) (bkS C k s ok m i) := by
  refine bcase (decide ((↑i : Int) < (↑k : Int))) (fun hc22 => ⟨⟨true, bs [(22, true)] ++ (bs [(26, false)] ++ [(34, ⟨.c (.int .i64 z), none⟩), (41, ⟨.c (.int .i64 z), none⟩), (48, ⟨.c (.int .i64 z), none⟩), (54, ⟨.c (.int .i64 z), none⟩), (57, ⟨.c (.bool m1), none⟩)])⟩, _, 60, ⟨[], [0, 3, 4, 5, 6, 7], []⟩, [decide ((↑i : Int) < ↑k) = true,
 decide ((↑i : Int) < 300) = false], lpBy_nil, by decide, by kernel_rfl, ?_⟩)
    (fun hc22 => ⟨⟨true, bs [(22, false)] ++ (bs [(26, false)] ++ [(34, ⟨.c (.int .i64 z), none⟩), (41, ⟨.c (.int .i64 z), none⟩), (48, ⟨.c (.int .i64 z), none⟩), (54, ⟨.c (.int .i64 z), none⟩), (57, ⟨.c (.bool m1), none⟩)])⟩, _, 60, ⟨[], [0, 3, 4, 5, 6, 7], []⟩, [decide ((↑i : Int) < ↑k) = false,
 (false) = false], lpBy_nil, by decide, by kernel_rfl, ?_⟩)
  all_goals try simp only [dz] at hc22
  all_goals try simp (disch := omega) only [std, List.length_drop, hC]
  all_goals repeat' apply And.intro
  all_goals first | exact True.intro | omega | with_reducible rfl | with_reducible assumption | (rw [← hm1, okI_eq, decide_eq_true hc35, decide_eq_true hc42, decide_eq_true hc49, hc30]; rfl) | (rw [← hm1, okI_eq, decide_eq_true hc35, decide_eq_true hc42, decide_eq_false hc49, hc30]; rfl) | (rw [← hm1, okI_eq, decide_eq_true hc35, decide_eq_false hc42, hc30]; rfl) | (rw [← hm1, okI_eq, decide_eq_false hc35, hc30]; rfl) | (rw [← hm1, hc30]; rfl) | exact hC | rfl

theorem bk_walk (L : List Int) (s : List UInt8) (ok m : Bool) (hl : L.length ≤ 9223372036854775807) : Tri Ext0 Try.prog (.loop (lbody Try.prog 4 5)) (bkS (rowN L) L.length s ok m 0) (.exit 0) (bkS (rowN L) L.length s ok (m && (L.take 300).all okI) (min L.length 300)) := by
  have h := loop_up mixed cl0_ok (b := lbody Try.prog 4 5) (fun i => bkS (rowN L) L.length s ok (m && (L.take i).all okI) i) (min L.length 300) (e := .exit 0) (R := bkS (rowN L) L.length s ok (m && (L.take 300).all okI) (min L.length 300)) (by simp) (fun i hi => by
    have hat : avEq (((rowN L).drop i).headD .any) (.c (.int .i64 (L.getD i 0))) := by rw [rowN_at L i (by omega)]; exact avEq_refl _
    refine bkA_all (rowN L) L.length s ok _ _ i (L.getD i 0) (by omega) (by omega) hat ?_ hl (rowN_length L)
    rw [take_succ_getD L i 0 (by omega), List.all_append, Bool.and_assoc]
    simp) (by
    have e : L.take (min L.length 300) = L.take 300 := by
      by_cases hk : L.length ≤ 300
      · rw [Nat.min_eq_left hk, List.take_length, List.take_of_length_le hk]
      · rw [Nat.min_eq_right (by omega)]
    rw [e]
    exact bkZ_all (rowN L) L.length s ok _ true _ 0 (by omega) hl (rowN_length L)) 0 (Nat.zero_le _)
  simpa using h

noncomputable def bkLp (L : List Int) (s : List UInt8) (ok m m2 : Bool) : List (Nat × Lp) := [(5, ⟨lbody Try.prog 4 5, ⟨[], [0, 3, 4, 5, 6, 7], []⟩, bkS (rowN L) L.length s ok m 0, .exit 0, bkS (rowN L) L.length s ok m2 (min L.length 300)⟩)]

theorem backT_all (L : List Int) (s : List UInt8) (m : Bool) (hN : L = natsZ (decL s)) (h255 : L.length ≤ 255) (he : encV L = s) (hm : mayI L = true) (hmd : decide ((L.length : Int) ≤ 255) = m) (hl : L.length ≤ 9223372036854775807) (hsl : s.length ≤ 2500) (hd5 : (decL s).length ≤ 255) (hso : (decP s).isSome = true) : ∃ (h : Hints) (p : List Prop), lawOut (aBody Try.prog clPl h (lpBy (bkLp L s true m true)) 60 4 ([.fs 1 L.length (rowN L)]) ([])) = some (.c (.bool true), p) ∧ allP p := by
  refine ⟨⟨true, (bs [(68, false), (73, true), (85, true)] ++ [(14, ⟨.c (str s), none⟩), (15, ⟨.c (.bool true), none⟩), (18, ⟨.c (.bool m), none⟩)])⟩, [(((1 : Nat) : Nat)) = ((1 : Nat)),
 ((rowN L : List AV)) = (rowN (unI (rowN L))),
 ((L.length : Nat)) = ((unI (rowN L)).length),
 ((encV (unI (rowN L)) : List UInt8)) = (s),
 (mayI (unI (rowN L))) = true,
 ((decide ((↑L.length : Int) ≤ (255 : Int)) : Bool)) = (m),
 ((lbody Try.prog (4 : FuncId) (5 : Nat) : Go.Code)) = (lbody Try.prog (4 : FuncId) (5 : Nat)),
 ((bkS (rowN L) L.length s true m (0 : Nat) : Go.Proofs.Ytljgmgbjfjhjmaa.St)) = (bkS (rowN L) L.length s true m (0 : Nat)),
 (false) = false,
 ((s.length : Nat) ≤ ((100000 : Nat))),
 ((decP (sb { data := { toList := s } })).isSome) = true,
 (((1 : Nat) : Nat)) = ((1 : Nat)),
 ((rowN L : List AV)) = (rowN (unI (rowN L))),
 ((L.length : Nat)) = ((unI (rowN L)).length),
 ((Try.prog.cellsOf (3 : TypeId) : Nat)) = ((1 : Nat)),
 ((List.take (decL s).length (List.drop (0 : Nat) (nats (decL s))) : List AV)) = (rowN (unI (List.take (decL s).length (List.drop (0 : Nat) (nats (decL s)))))),
 (((decL s).length : Nat)) = ((unI (List.take (decL s).length (List.drop (0 : Nat) (nats (decL s))))).length),
 ((L.length : Nat) ≤ ((1000000000 : Nat))),
 (flatV [] (AV.c (Value.bool (decide (unI (rowN L) = unI (List.take (decL s).length (List.drop (0 : Nat) (nats (decL s))))))))) = true,
 (decide (unI (rowN L) = unI (List.take (decL s).length (List.drop (0 : Nat) (nats (decL s)))))) = true], by kernel_rfl, ?_⟩
  all_goals try simp (disch := omega) only [std, beq_self_eq_true, unI_rowN, unI_nats, rowN_natsZ, natsZ_length, nats_tk, nats_length]
  all_goals repeat' apply And.intro
  all_goals first | exact True.intro | omega | with_reducible rfl | with_reducible assumption | exact hN | exact he | exact hm | exact hso | rfl


theorem backF_all (L : List Int) (s : List UInt8) (m : Bool) (hs : (!s == []) = false) (he : encV L = s) (hm : mayI L = false) (hmd : decide ((L.length : Int) ≤ 255) = m) (hl : L.length ≤ 9223372036854775807) (hsl : s.length ≤ 2500) (hd5 : (decL s).length ≤ 255) (hso : (decP s).isSome = true) : ∃ (h : Hints) (p : List Prop), lawOut (aBody Try.prog clPl h (lpBy (bkLp L s false m false)) 60 4 ([.fs 1 L.length (rowN L)]) ([])) = some (.c (.bool true), p) ∧ allP p := by
  refine ⟨⟨true, (bs [(68, false), (77, true)] ++ [(14, ⟨.c (str s), none⟩), (15, ⟨.c (.bool false), none⟩), (18, ⟨.c (.bool m), none⟩)])⟩, [(((1 : Nat) : Nat)) = ((1 : Nat)),
 ((rowN L : List AV)) = (rowN (unI (rowN L))),
 ((L.length : Nat)) = ((unI (rowN L)).length),
 ((encV (unI (rowN L)) : List UInt8)) = (s),
 (mayI (unI (rowN L))) = false,
 ((decide ((↑L.length : Int) ≤ (255 : Int)) : Bool)) = (m),
 ((lbody Try.prog (4 : FuncId) (5 : Nat) : Go.Code)) = (lbody Try.prog (4 : FuncId) (5 : Nat)),
 ((bkS (rowN L) L.length s false m (0 : Nat) : Go.Proofs.Ytljgmgbjfjhjmaa.St)) = (bkS (rowN L) L.length s false m (0 : Nat)),
 (!s == []) = false,
 ((s.length : Nat) ≤ ((100000 : Nat))),
 (true) = true], by kernel_rfl, ?_⟩
  all_goals try simp (disch := omega) only [std, beq_self_eq_true, unI_rowN, unI_nats, rowN_natsZ, natsZ_length, nats_tk, nats_length]
  all_goals repeat' apply And.intro
  all_goals first | exact True.intro | omega | with_reducible rfl | with_reducible assumption | exact hs | exact he | exact hm | exact hso | rfl

theorem natL_Z {L : List Int} (h : L.all okI = true) : L = natsZ (natL L) := by
  unfold natsZ natL
  rw [List.map_map]
  conv => lhs; rw [← List.map_id L]
  apply List.map_congr_left
  intro z hz
  have := okI_ge (List.all_eq_true.1 h z hz)
  show z = ((z.toNat : Nat) : Int)
  omega

/-- What a row's text is read as. -/
theorem enc_back {L : List Int} (h : mayI L = true) : decP (encV L) = some (natL L) ∧ L = natsZ (natL L) := by
  obtain ⟨h1, h2, h3⟩ := mayI_P h
  refine ⟨?_, natL_Z h3⟩
  unfold encV
  rw [if_pos h]
  exact dec_enc h1

theorem back_law (L : List Int) (hl : L.length ≤ 9223372036854775807) : ∃ hs lp fuel p, LpOK Ext0 Try.prog lp ∧ lawOut (aBody Try.prog clPl hs lp fuel 4 [.fs 1 L.length (rowN L)] []) = some (.c (.bool true), p) ∧ allP p := by
  have h255 : decide ((L.length : Int) ≤ 255) = decide (L.length ≤ 255) := decide_eq_decide.2 (by omega)
  have hm : (decide (L.length ≤ 255) && (L.take 300).all okI) = mayI L := by
    unfold mayI
    by_cases h : L.length ≤ 255
    · rw [List.take_of_length_le (by omega)]
    · rw [decide_eq_false h]; rfl
  have w := bk_walk L (encV L) (mayI L) (decide (L.length ≤ 255)) hl
  rw [hm] at w
  have hlen := encV_len L
  cases h : mayI L with
  | true =>
    rw [h] at w
    obtain ⟨e1, e2⟩ := enc_back h
    obtain ⟨hh, p, e, hp⟩ := backT_all L (encV L) (decide (L.length ≤ 255)) (by unfold decL; rw [e1]; exact e2) (mayI_P h).2.1 rfl h h255 hl hlen (decL_le _) (by rw [e1]; rfl)
    exact ⟨_, _, _, _, lpBy_cons lpBy_nil List.nodup_nil w, e, hp⟩
  | false =>
    rw [h] at w
    have hv : encV L = [] := by unfold encV; rw [h]; rfl
    rw [hv] at w
    obtain ⟨hh, p, e, hp⟩ := backF_all L [] (decide (L.length ≤ 255)) rfl hv h h255 hl (by simp) (decL_le _) (by decide +kernel)
    exact ⟨_, _, _, _, lpBy_cons lpBy_nil List.nodup_nil w, e, hp⟩

theorem tells_law (L : List Int) (s : List UInt8) : ∃ hs lp fuel p, LpOK Ext0 Try.prog lp ∧ lawOut (aBody Try.prog clPl hs lp fuel 3 [.fs 1 L.length (rowN L), .c (str s)] []) = some (.c (.bool true), p) ∧ allP p := by
  by_cases h : (L.length : Int) > 300 ∨ (s.length : Int) > 400
  · obtain ⟨hh, p, e, hp⟩ := tell0_all L s h
    exact ⟨_, _, _, _, lpBy_nil, e, hp⟩
  · obtain ⟨hh, p, e, hp⟩ := tell1_all L s (by omega) (by omega) (decL_le s)
    exact ⟨_, _, _, _, lpBy_nil, e, hp⟩

/-! Unlike rows have unlike texts. -/
theorem apart_all (L M : List Int) (s t : List UInt8) (x y : Bool) (hx : mayI L = x) (hy : mayI M = y) (hs : encV L = s) (ht : encV M = t) (hLM : x = true → y = true → ((s == t) == decide (L = M)) = true) (h1 : x = true → L.length ≤ 255) (h2 : y = true → M.length ≤ 255) : ∃ (h : Hints) (p : List Prop), lawOut (aBody Try.prog clPl h (lpBy ([])) 60 7 ([.fs 1 L.length (rowN L), .fs 1 M.length (rowN M)]) ([])) = some (.c (.bool true), p) ∧ allP p := by
  refine bcase (!x) (fun hc24 => ⟨⟨true, bs [(24, true)] ++ (bs [(37, true)] ++ [(14, ⟨.c (str s), none⟩), (15, ⟨.c (.bool x), none⟩), (19, ⟨.c (str t), none⟩), (20, ⟨.c (.bool y), none⟩)])⟩, [(((1 : Nat) : Nat)) = ((1 : Nat)),
 ((rowN L : List AV)) = (rowN (unI (rowN L))),
 ((L.length : Nat)) = ((unI (rowN L)).length),
 ((encV (unI (rowN L)) : List UInt8)) = (s),
 ((mayI (unI (rowN L)) : Bool)) = (x),
 (((1 : Nat) : Nat)) = ((1 : Nat)),
 ((rowN M : List AV)) = (rowN (unI (rowN M))),
 ((M.length : Nat)) = ((unI (rowN M)).length),
 ((encV (unI (rowN M)) : List UInt8)) = (t),
 ((mayI (unI (rowN M)) : Bool)) = (y),
 (!x) = true,
 (true) = true], by kernel_rfl, ?_⟩)
    (fun hc24 => bcase (!y) (fun hc27 => ⟨⟨true, bs [(24, false), (27, true)] ++ (bs [(37, true)] ++ [(14, ⟨.c (str s), none⟩), (15, ⟨.c (.bool x), none⟩), (19, ⟨.c (str t), none⟩), (20, ⟨.c (.bool y), none⟩)])⟩, [(((1 : Nat) : Nat)) = ((1 : Nat)),
 ((rowN L : List AV)) = (rowN (unI (rowN L))),
 ((L.length : Nat)) = ((unI (rowN L)).length),
 ((encV (unI (rowN L)) : List UInt8)) = (s),
 ((mayI (unI (rowN L)) : Bool)) = (x),
 (((1 : Nat) : Nat)) = ((1 : Nat)),
 ((rowN M : List AV)) = (rowN (unI (rowN M))),
 ((M.length : Nat)) = ((unI (rowN M)).length),
 ((encV (unI (rowN M)) : List UInt8)) = (t),
 ((mayI (unI (rowN M)) : Bool)) = (y),
 (!x) = false,
 (!y) = true,
 (true) = true], by kernel_rfl, ?_⟩)
    (fun hc27 => ⟨⟨true, bs [(24, false), (27, false)] ++ (bs [(37, true)] ++ [(14, ⟨.c (str s), none⟩), (15, ⟨.c (.bool x), none⟩), (19, ⟨.c (str t), none⟩), (20, ⟨.c (.bool y), none⟩)])⟩, [(((1 : Nat) : Nat)) = ((1 : Nat)),
 ((rowN L : List AV)) = (rowN (unI (rowN L))),
 ((L.length : Nat)) = ((unI (rowN L)).length),
 ((encV (unI (rowN L)) : List UInt8)) = (s),
 ((mayI (unI (rowN L)) : Bool)) = (x),
 (((1 : Nat) : Nat)) = ((1 : Nat)),
 ((rowN M : List AV)) = (rowN (unI (rowN M))),
 ((M.length : Nat)) = ((unI (rowN M)).length),
 ((encV (unI (rowN M)) : List UInt8)) = (t),
 ((mayI (unI (rowN M)) : Bool)) = (y),
 (!x) = false,
 (!y) = false,
 (((1 : Nat) : Nat)) = ((1 : Nat)),
 ((rowN L : List AV)) = (rowN (unI (rowN L))),
 ((L.length : Nat)) = ((unI (rowN L)).length),
 (((1 : Nat) : Nat)) = ((1 : Nat)),
 ((rowN M : List AV)) = (rowN (unI (rowN M))),
 ((M.length : Nat)) = ((unI (rowN M)).length),
 ((L.length : Nat) ≤ ((1000000000 : Nat))),
 ((s == t) == decide (unI (rowN L) = unI (rowN M))) = true], by kernel_rfl, ?_⟩))
  all_goals try simp only [dz] at hc24
  all_goals try simp only [dz] at hc27
  all_goals try simp (disch := omega) only [std, beq_self_eq_true, unI_rowN, unI_nats, rowN_natsZ, natsZ_length, nats_tk, nats_length]
  all_goals repeat' apply And.intro
  all_goals first | exact True.intro | omega | with_reducible rfl | with_reducible assumption | exact hLM (notb1 hc24) (notb1 hc27) | exact beq_iff_eq.1 (hLM (notb1 hc24) (notb1 hc27)) | exact h1 (notb1 hc24) | exact Nat.le_trans (h1 (notb1 hc24)) (by omega) | exact hx | exact hy | exact hs | exact ht | exact hLM | rfl

theorem apart_law (L M : List Int) : ∃ hs lp fuel p, LpOK Ext0 Try.prog lp ∧ lawOut (aBody Try.prog clPl hs lp fuel 7 [.fs 1 L.length (rowN L), .fs 1 M.length (rowN M)] []) = some (.c (.bool true), p) ∧ allP p := by
  obtain ⟨hh, p, e, hp⟩ := apart_all L M _ _ _ _ rfl rfl rfl rfl (fun h1 h2 => by
    rw [beq_iff_eq]
    obtain ⟨a1, a2⟩ := enc_back h1
    obtain ⟨b1, b2⟩ := enc_back h2
    by_cases he : L = M
    · subst he; simp
    · rw [decide_eq_false he]
      refine beq_eq_false_iff_ne.2 fun h => he ?_
      rw [h, b1] at a1
      rw [a2, b2, Option.some.inj a1]) (fun h => (mayI_P h).2.1) (fun h => (mayI_P h).2.1)
  exact ⟨_, _, _, _, lpBy_nil, e, hp⟩

/-! What is read is written just so. -/
def onS (s t : List UInt8) (N : List Nat) (n : Nat) : St := ⟨frame 87 [(0, .c (str s)), (3, .c (.bool true)), (4, .sl 0 0 N.length), (6, .c (str t)), (8, .c (.int .i64 n))], [some ⟨3, false, nats N⟩]⟩

theorem onA_all (s t : List UInt8) (N : List Nat) (n : Nat) (h1 : n < N.length) (h2 : n < s.length) (h3 : (((t.getD n 0).toNat : Nat) : Int) = (((s.getD n 0).toNat : Nat) : Int)) (hts : t.length = s.length) (hl : s.length ≤ 400) : Round Ext0 Try.prog cl0 (lbody Try.prog 5 11) (onS s t N n) (.normal) (onS s t N (n + 1)) := by
  refine ⟨⟨true, bs [(44, true), (49, true)] ++ (bs [(59, true)])⟩, _, 60, ⟨[], [0, 3, 4, 6, 8], [0]⟩, [decide ((↑n : Int) < ↑N.length) = true,
 decide ((↑n : Int) < ↑s.length) = true,
 (0 : Int) ≤ ↑n,
 (↑n : Int) < ↑t.length,
 (0 : Int) ≤ ↑n,
 (↑n : Int) < ↑s.length,
 ((↑(t.getD n 0).toNat : Int) == (↑(s.getD n 0).toNat : Int)) = true,
 (IntKind.i64.min : Int) ≤ ↑n + 1,
 (↑n + 1 : Int) ≤ IntKind.i64.max], lpBy_nil, by decide, by kernel_rfl, ?_⟩
  all_goals try simp (disch := omega) only [std]
  all_goals repeat' apply And.intro
  all_goals first | exact True.intro | omega | with_reducible rfl | with_reducible assumption | (intro e; exact hn ⟨by omega, by omega, e⟩) | exact h3 | exact hts | rfl


theorem onZ_all (s t : List UInt8) (N : List Nat) (n : Nat) (hn : ¬ (n < N.length ∧ n < s.length ∧ (((t.getD n 0).toNat : Nat) : Int) = (((s.getD n 0).toNat : Nat) : Int))) (hts : t.length = s.length) (hl : s.length ≤ 400) : Round Ext0 Try.prog cl0 (lbody Try.prog 5 11) (onS s t N n) (.exit 0) (onS s t N n) := by
  refine bcase (decide ((↑n : Int) < (↑N.length : Int))) (fun hc44 => bcase (decide ((↑n : Int) < (↑s.length : Int))) (fun hc49 => ⟨⟨true, bs [(44, true), (49, true)] ++ (bs [(59, false)])⟩, _, 60, ⟨[], [0, 3, 4, 6, 8], [0]⟩, [decide ((↑n : Int) < ↑N.length) = true,
 decide ((↑n : Int) < ↑s.length) = true,
 (0 : Int) ≤ ↑n,
 (↑n : Int) < ↑t.length,
 (0 : Int) ≤ ↑n,
 (↑n : Int) < ↑s.length,
 ((↑(t.getD n 0).toNat : Int) == (↑(s.getD n 0).toNat : Int)) = false], lpBy_nil, by decide, by kernel_rfl, ?_⟩)
    (fun hc49 => ⟨⟨true, bs [(44, true), (49, false)] ++ (bs [(59, false)])⟩, _, 60, ⟨[], [0, 3, 4, 6, 8], [0]⟩, [decide ((↑n : Int) < ↑N.length) = true,
 decide ((↑n : Int) < ↑s.length) = false,
 (false) = false], lpBy_nil, by decide, by kernel_rfl, ?_⟩))
    (fun hc44 => ⟨⟨true, bs [(44, false)] ++ (bs [(59, false)])⟩, _, 60, ⟨[], [0, 3, 4, 6, 8], [0]⟩, [decide ((↑n : Int) < ↑N.length) = false,
 (false) = false], lpBy_nil, by decide, by kernel_rfl, ?_⟩)
  all_goals try simp only [dz] at hc44
  all_goals try simp only [dz] at hc49
  all_goals try simp (disch := omega) only [std]
  all_goals repeat' apply And.intro
  all_goals first | exact True.intro | omega | with_reducible rfl | with_reducible assumption | (intro e; exact hn ⟨by omega, by omega, e⟩) | exact hts | rfl

def onG (s t : List UInt8) (k : Nat) : Nat → Nat → Nat
  | 0, n => n
  | f + 1, n => if n < k ∧ n < s.length ∧ (((t.getD n 0).toNat : Nat) : Int) = (((s.getD n 0).toNat : Nat) : Int) then onG s t k f (n + 1) else n

theorem onG_le (s t : List UInt8) (k : Nat) : ∀ (f n : Nat), n ≤ k → n ≤ s.length → onG s t k f n ≤ k ∧ onG s t k f n ≤ s.length
  | 0, n, h1, h2 => ⟨h1, h2⟩
  | f + 1, n, h1, h2 => by
    unfold onG
    split
    · exact onG_le s t k f (n + 1) (by omega) (by omega)
    · exact ⟨h1, h2⟩

theorem on_walk (s t : List UInt8) (N : List Nat) (hts : t.length = s.length) (hl : s.length ≤ 400) : Tri Ext0 Try.prog (.loop (lbody Try.prog 5 11)) (onS s t N 0) (.exit 0) (onS s t N (onG s t N.length s.length 0)) := by
  refine loop_inv mixed cl0_ok (fun n => onS s t N n) (fun n => n ≤ s.length ∧ onG s t N.length (s.length - n) n = onG s t N.length s.length 0) (fun n => s.length - n) (fun n hx => ?_) 0 ⟨Nat.zero_le _, rfl⟩
  obtain ⟨h1, h2⟩ := hx
  generalize onG s t N.length s.length 0 = z at *
  by_cases hc : n < N.length ∧ n < s.length ∧ (((t.getD n 0).toNat : Nat) : Int) = (((s.getD n 0).toNat : Nat) : Int)
  · obtain ⟨c1, c2, c3⟩ := hc
    obtain ⟨f, hf⟩ : ∃ f, s.length - n = f + 1 := ⟨s.length - n - 1, by omega⟩
    rw [hf] at h2
    unfold onG at h2
    rw [if_pos ⟨c1, c2, c3⟩] at h2
    exact .inl ⟨n + 1, ⟨c2, by rw [show s.length - (n + 1) = f by omega]; exact h2⟩, by omega, onA_all s t N n c1 c2 c3 hts hl⟩
  · have e : onG s t N.length (s.length - n) n = n := by
      cases s.length - n with
      | zero => rfl
      | succ f => unfold onG; rw [if_neg hc]
    rw [e] at h2
    rw [← h2]
    exact .inr ⟨by simp, onZ_all s t N n hc hts hl⟩

noncomputable def onLp (s t : List UInt8) (N : List Nat) (n : Nat) : List (Nat × Lp) := [(11, ⟨lbody Try.prog 5 11, ⟨[], [0, 3, 4, 6, 8], [0]⟩, onS s t N 0, .exit 0, onS s t N n⟩)]

theorem once0_all (s : List UInt8) (h0 : (s.length : Int) > 400) : ∃ (h : Hints) (p : List Prop), lawOut (aBody Try.prog clPl h (lpBy ([])) 60 5 ([.c (str s)]) ([])) = some (.c (.bool true), p) ∧ allP p := by
  refine ⟨⟨true, (bs [(12, true)])⟩, [decide ((↑s.length : Int) > 400) = true], by kernel_rfl, ?_⟩
  all_goals try simp (disch := omega) only [std]
  all_goals repeat' apply And.intro
  all_goals first | exact True.intro | omega | with_reducible rfl | with_reducible assumption | rfl

theorem once1_all (s : List UInt8) (h0 : s.length ≤ 400) (h1 : (decP s).isSome = false) (h2 : (decL s).length = 0) : ∃ (h : Hints) (p : List Prop), lawOut (aBody Try.prog clPl h (lpBy ([])) 60 5 ([.c (str s)]) ([])) = some (.c (.bool true), p) ∧ allP p := by
  refine ⟨⟨true, (bs [(12, false), (18, false), (25, true)])⟩, [decide ((↑s.length : Int) > 400) = false,
 ((s.length : Nat) ≤ ((100000 : Nat))),
 ((decP (sb { data := { toList := s } })).isSome) = false,
 ((↑(decL s).length : Int) == (0 : Int)) = true], by kernel_rfl, ?_⟩
  all_goals try simp (disch := omega) only [std, h2]
  all_goals repeat' apply And.intro
  all_goals first | exact True.intro | omega | with_reducible rfl | with_reducible assumption | exact h1 | exact h2 | rfl

theorem once2_all (s t a b u : List UInt8) (n : Nat) (h0 : s.length ≤ 400) (h1 : (decP s).isSome = true) (hk : (decL s).length ≤ 255) (hm : mayI (natsZ (decL s)) = true) (ht : encV (natsZ (decL s)) = t) (hts : t.length = s.length) (hn1 : n ≤ (decL s).length) (hn2 : n ≤ s.length) (ha : t.drop n = a) (hb : s.drop n = b) (hau : a.map lowB = u) (hbu : b.map lowB = u) (hal : a.length ≤ 400) (hbl : b.length ≤ 400) : ∃ (h : Hints) (p : List Prop), lawOut (aBody Try.prog clPl h (lpBy (onLp s t (decL s) n)) 60 5 ([.c (str s)]) ([])) = some (.c (.bool true), p) ∧ allP p := by
  refine bcase (decide ((↑n : Int) < (↑(decL s).length : Int))) (fun hc78 => ⟨⟨true, bs [(72, true), (78, true)] ++ (bs [(12, false), (18, true), (31, true), (39, false), (84, true)] ++ [(30, ⟨.c (str t), none⟩), (66, ⟨.c (str a), none⟩), (67, ⟨.c (str u), none⟩), (70, ⟨.c (str b), none⟩), (71, ⟨.c (str u), none⟩)])⟩, [decide ((↑s.length : Int) > 400) = false,
 ((s.length : Nat) ≤ ((100000 : Nat))),
 ((decP (sb { data := { toList := s } })).isSome) = true,
 ((Try.prog.cellsOf (3 : TypeId) : Nat)) = ((1 : Nat)),
 ((List.take (decL s).length (List.drop (0 : Nat) (nats (decL s))) : List AV)) = (rowN (unI (List.take (decL s).length (List.drop (0 : Nat) (nats (decL s)))))),
 (((decL s).length : Nat)) = ((unI (List.take (decL s).length (List.drop (0 : Nat) (nats (decL s))))).length),
 (flatV [] (AV.tu [AV.c (str (encV (unI (List.take (decL s).length (List.drop (0 : Nat) (nats (decL s))))))), AV.c (Value.bool (mayI (unI (List.take (decL s).length (List.drop (0 : Nat) (nats (decL s)))))))])) = true,
 ((encV (unI (List.take (decL s).length (List.drop (0 : Nat) (nats (decL s))))) : List UInt8)) = (t),
 (mayI (unI (List.take (decL s).length (List.drop (0 : Nat) (nats (decL s)))))) = true,
 ((↑t.length : Int) != (↑s.length : Int)) = false,
 ((lbody Try.prog (5 : FuncId) (11 : Nat) : Go.Code)) = (lbody Try.prog (5 : FuncId) (11 : Nat)),
 ((onS s t (decL s) (0 : Nat) : Go.Proofs.Ytljgmgbjfjhjmaa.St)) = (onS s t (decL s) (0 : Nat)),
 (0 : Int) ≤ ↑n,
 (↑n : Int) ≤ ↑t.length,
 (↑t.length : Int) ≤ ↑t.length,
 ((List.drop n (List.take t.length t) : List UInt8)) = (a),
 ((a.length : Nat) ≤ ((1000000000 : Nat))),
 ((List.map lowB a : List UInt8)) = (u),
 (0 : Int) ≤ ↑n,
 (↑n : Int) ≤ ↑s.length,
 (↑s.length : Int) ≤ ↑s.length,
 ((List.drop n (List.take s.length s) : List UInt8)) = (b),
 ((b.length : Nat) ≤ ((1000000000 : Nat))),
 ((List.map lowB b : List UInt8)) = (u),
 (u == u) = true,
 (decide ((↑n : Int) < (↑(decL s).length : Int))) = true], by kernel_rfl, ?_⟩)
    (fun hc78 => ⟨⟨true, bs [(72, true), (78, false)] ++ (bs [(12, false), (18, true), (31, true), (39, false), (84, true)] ++ [(30, ⟨.c (str t), none⟩), (66, ⟨.c (str a), none⟩), (67, ⟨.c (str u), none⟩), (70, ⟨.c (str b), none⟩), (71, ⟨.c (str u), none⟩)])⟩, [decide ((↑s.length : Int) > 400) = false,
 ((s.length : Nat) ≤ ((100000 : Nat))),
 ((decP (sb { data := { toList := s } })).isSome) = true,
 ((Try.prog.cellsOf (3 : TypeId) : Nat)) = ((1 : Nat)),
 ((List.take (decL s).length (List.drop (0 : Nat) (nats (decL s))) : List AV)) = (rowN (unI (List.take (decL s).length (List.drop (0 : Nat) (nats (decL s)))))),
 (((decL s).length : Nat)) = ((unI (List.take (decL s).length (List.drop (0 : Nat) (nats (decL s))))).length),
 (flatV [] (AV.tu [AV.c (str (encV (unI (List.take (decL s).length (List.drop (0 : Nat) (nats (decL s))))))), AV.c (Value.bool (mayI (unI (List.take (decL s).length (List.drop (0 : Nat) (nats (decL s)))))))])) = true,
 ((encV (unI (List.take (decL s).length (List.drop (0 : Nat) (nats (decL s))))) : List UInt8)) = (t),
 (mayI (unI (List.take (decL s).length (List.drop (0 : Nat) (nats (decL s)))))) = true,
 ((↑t.length : Int) != (↑s.length : Int)) = false,
 ((lbody Try.prog (5 : FuncId) (11 : Nat) : Go.Code)) = (lbody Try.prog (5 : FuncId) (11 : Nat)),
 ((onS s t (decL s) (0 : Nat) : Go.Proofs.Ytljgmgbjfjhjmaa.St)) = (onS s t (decL s) (0 : Nat)),
 (0 : Int) ≤ ↑n,
 (↑n : Int) ≤ ↑t.length,
 (↑t.length : Int) ≤ ↑t.length,
 ((List.drop n (List.take t.length t) : List UInt8)) = (a),
 ((a.length : Nat) ≤ ((1000000000 : Nat))),
 ((List.map lowB a : List UInt8)) = (u),
 (0 : Int) ≤ ↑n,
 (↑n : Int) ≤ ↑s.length,
 (↑s.length : Int) ≤ ↑s.length,
 ((List.drop n (List.take s.length s) : List UInt8)) = (b),
 ((b.length : Nat) ≤ ((1000000000 : Nat))),
 ((List.map lowB b : List UInt8)) = (u),
 (u == u) = true,
 (decide ((↑n : Int) < (↑(decL s).length : Int))) = false,
 (decide ((↑(decL s).length : Int) ≤ (↑s.length : Int))) = true], by kernel_rfl, ?_⟩)
  all_goals try simp only [dz] at hc78
  all_goals try simp (disch := omega) only [std, beq_self_eq_true, unI_rowN, unI_nats, rowN_natsZ, natsZ_length, nats_tk, nats_length]
  all_goals repeat' apply And.intro
  all_goals first | exact True.intro | omega | with_reducible rfl | with_reducible assumption | exact h1 | exact hm | exact ht | exact hts | exact ha | exact hb | exact hau | exact hbu | rfl

theorem low_twice (c : UInt8) : lowB (lowB c) = lowB c := by
  revert c
  refine byte_all ?_
  decide +kernel
theorem low_same (c : UInt8) : low c = lowB c := rfl
theorem map_low (w : List UInt8) : (w.map low).map lowB = w.map lowB := by
  rw [List.map_map]
  apply List.map_congr_left
  intro c _
  exact low_twice c

theorem natL_natsZ (N : List Nat) : natL (natsZ N) = N := by
  unfold natL natsZ
  rw [List.map_map]
  conv => rhs; rw [← List.map_id N]
  apply List.map_congr_left
  intro n _
  show ((n : Nat) : Int).toNat = n
  omega

theorem mayP_I {N : List Nat} (h : mayP N = true) : mayI (natsZ N) = true := by
  unfold mayP at h
  rw [Bool.and_eq_true, decide_eq_true_eq, List.all_eq_true] at h
  unfold mayI
  rw [Bool.and_eq_true, decide_eq_true_eq, natsZ_length, List.all_eq_true]
  refine ⟨h.1, fun z hz => ?_⟩
  obtain ⟨n, hn, rfl⟩ := List.mem_map.1 hz
  rw [okI_nat]
  exact h.2 n hn

theorem once_law (s : List UInt8) : ∃ hs lp fuel p, LpOK Ext0 Try.prog lp ∧ lawOut (aBody Try.prog clPl hs lp fuel 5 [.c (str s)] []) = some (.c (.bool true), p) ∧ allP p := by
  by_cases h : (s.length : Int) > 400
  · obtain ⟨hh, p, e, hp⟩ := once0_all s h
    exact ⟨_, _, _, _, lpBy_nil, e, hp⟩
  · cases hd : decP s with
    | none =>
      obtain ⟨hh, p, e, hp⟩ := once1_all s (by omega) (by rw [hd]; rfl) (by unfold decL; rw [hd]; rfl)
      exact ⟨_, _, _, _, lpBy_nil, e, hp⟩
    | some N =>
      obtain ⟨h1, a, w, e1, e2, e3⟩ := enc_dec (by omega) hd
      have hN : decL s = N := by unfold decL; rw [hd]; rfl
      have hm := mayP_I h1
      have ht : encV (natsZ (decL s)) = encP N := by rw [hN]; unfold encV; rw [if_pos hm, natL_natsZ]
      have hlen : (encP N).length = s.length := by rw [e1, e2]; simp
      have hlow : (encP N).map lowB = s.map lowB := by rw [e1, e2]; simp only [List.map_append, map_low]
      have hw := on_walk s (encP N) (decL s) hlen (by omega)
      obtain ⟨g1, g2⟩ := onG_le s (encP N) (decL s).length s.length 0 (Nat.zero_le _) (Nat.zero_le _)
      generalize onG s (encP N) (decL s).length s.length 0 = n at *
      have hau : ((encP N).drop n).map lowB = (s.map lowB).drop n := by rw [List.map_drop, hlow]
      have hbu : (s.drop n).map lowB = (s.map lowB).drop n := by rw [List.map_drop]
      obtain ⟨hh, p, e, hp⟩ := once2_all s (encP N) _ _ _ n (by omega) (by rw [hd]; rfl) (decL_le s) (by rw [hN]; exact hm) ht hlen g1 g2 rfl rfl hau hbu (by rw [List.length_drop]; omega) (by rw [List.length_drop]; omega)
      exact ⟨_, _, _, _, lpBy_cons lpBy_nil nd0 hw, e, hp⟩

/-! First signs stand at the beginning. -/
def plS (C : List AV) (k : Nat) (s F : List UInt8) (i : Nat) : St := ⟨frame 123 [(0, .fs 1 k C), (3, .c (.bool true)), (4, .c (str s)), (6, .sl 0 0 F.length), (7, .c (.int .i64 i))], [some ⟨5, false, byts F⟩]⟩
def plE (C : List AV) (k : Nat) (s F : List UInt8) : St := ⟨frame 123 [(0, .fs 1 k C), (3, .c (.bool true)), (4, .c (str s)), (6, .sl 0 0 F.length)], [some ⟨5, false, byts F⟩]⟩

theorem plA_all (C : List AV) (k : Nat) (s F F2 : List UInt8) (i : Nat) (z : Int) (w : UInt8) (hi : i < k) (hat : avEq ((C.drop i).headD .any) (.c (.int .i64 z))) (hz0 : 0 ≤ z) (hz : z < 128) (hF : F ++ [w] = F2) (hw : z = ((w.toNat : Nat) : Int)) (hFl : F.length + 1 = F2.length) (hst : List.take F.length (byts F) ++ [byteC w] = byts F2) (hl : k ≤ 255) (hC : C.length = k) (hFk : F.length ≤ 255) : Round Ext0 Try.prog cl0 (lbody Try.prog 6 7) (plS C k s F i) (.normal) (plS C k s F2 (i + 1)) := by
  refine ⟨⟨true, (bs [(22, true), (29, true)] ++ [(28, ⟨.c (.int .i64 z), none⟩), (34, ⟨.c (.int .i64 z), none⟩)] ++ [(35, ⟨byteC w, none⟩), (37, ⟨.sl 2 0 F2.length, some (byts F2)⟩)])⟩, _, 60, ⟨[], [0, 3, 4, 6, 7], [2]⟩, [decide ((↑i : Int) < ↑k) = true,
 (0 : Int) ≤ ↑i,
 (↑i : Int) < ↑k,
 (((0 : Nat) : Nat) < ((List.drop i C).length)),
 avEq ((List.drop i C).headD AV.any) ((AV.c ((Value.int .i64 z)))),
 decide ((z : Int) < 128) = true,
 (0 : Int) ≤ ↑i,
 (↑i : Int) < ↑k,
 (((0 : Nat) : Nat) < ((List.drop i C).length)),
 avEq ((List.drop i C).headD AV.any) ((AV.c ((Value.int .i64 z)))),
 ((IntKind.u8.wrap z : Int)) = ((↑w.toNat : Int)),
 (((1 : Nat) : Nat) ≤ ((1 : Nat))),
 (((F.length + (1 : Nat)) * (1 : Nat) : Nat) ≤ ((140737488355328 : Nat))),
 ((F.length + (1 : Nat) : Nat) ≤ ((4611686018427387904 : Nat))),
 ((F.length : Nat) ≤ ((byts F).length)),
 avEq ((AV.sl 2 0 (F.length + (1 : Nat)))) ((AV.sl 2 0 F2.length)),
 ((List.take F.length (byts F) ++ List.take (1 : Nat) (List.drop (0 : Nat) ([AV.c (Value.int IntKind.u8 (↑w.toNat : Int))] ++ [])) : List AV)) = (byts F2),
 (IntKind.i64.min : Int) ≤ ↑i + 1,
 (↑i + 1 : Int) ≤ IntKind.i64.max], lpBy_nil, by decide, by kernel_rfl, ?_⟩
  all_goals try simp (disch := omega) only [std, List.length_drop, hC, byts_length]
  all_goals repeat' apply And.intro
  all_goals first | exact True.intro | omega | with_reducible rfl | with_reducible assumption | exact hw | exact sl_eq hFl | exact hst | exact hat | exact hF | exact hw | exact hFl | exact hst | exact hC | rfl


theorem plB_all (C : List AV) (k : Nat) (s F F2 : List UInt8) (i : Nat) (z : Int) (w : UInt8) (hi : i < k) (hat : avEq ((C.drop i).headD .any) (.c (.int .i64 z))) (hz : ¬ z < 128) (hl : k ≤ 255) (hC : C.length = k) (hFk : F.length ≤ 255) : Round Ext0 Try.prog cl0 (lbody Try.prog 6 7) (plS C k s F i) (.normal) (plS C k s F (i + 1)) := by
  refine ⟨⟨true, (bs [(22, true), (29, false)] ++ [(28, ⟨.c (.int .i64 z), none⟩), (34, ⟨.c (.int .i64 z), none⟩)] ++ [])⟩, _, 60, ⟨[], [0, 3, 4, 6, 7], [0]⟩, [decide ((↑i : Int) < ↑k) = true,
 (0 : Int) ≤ ↑i,
 (↑i : Int) < ↑k,
 (((0 : Nat) : Nat) < ((List.drop i C).length)),
 avEq ((List.drop i C).headD AV.any) ((AV.c ((Value.int .i64 z)))),
 decide ((z : Int) < 128) = false,
 (IntKind.i64.min : Int) ≤ ↑i + 1,
 (↑i + 1 : Int) ≤ IntKind.i64.max], lpBy_nil, by decide, by kernel_rfl, ?_⟩
  all_goals try simp (disch := omega) only [std, List.length_drop, hC, byts_length]
  all_goals repeat' apply And.intro
  all_goals first | exact True.intro | omega | with_reducible rfl | with_reducible assumption | exact hw | exact sl_eq hFl | exact hst | exact hat | exact hC | rfl


theorem plZ_all (C : List AV) (k : Nat) (s F F2 : List UInt8) (i : Nat) (z : Int) (w : UInt8) (hi : i = k) (hl : k ≤ 255) (hC : C.length = k) (hFk : F.length ≤ 255) : Round Ext0 Try.prog cl0 (lbody Try.prog 6 7) (plS C k s F i) (.exit 0) (plE C k s F) := by
  refine ⟨⟨true, (bs [(22, false)] ++ [(28, ⟨.c (.int .i64 z), none⟩), (34, ⟨.c (.int .i64 z), none⟩)] ++ [])⟩, _, 60, ⟨[], [0, 3, 4, 6], [0]⟩, [decide ((↑i : Int) < ↑k) = false], lpBy_nil, by decide, by kernel_rfl, ?_⟩
  all_goals try simp (disch := omega) only [std, List.length_drop, hC, byts_length]
  all_goals repeat' apply And.intro
  all_goals first | exact True.intro | omega | with_reducible rfl | with_reducible assumption | exact hw | exact sl_eq hFl | exact hst | exact hi | exact hC | rfl

theorem pl_walk (L : List Int) (s : List UInt8) (hok : L.all okI = true) (hl : L.length ≤ 255) : Tri Ext0 Try.prog (.loop (lbody Try.prog 6 7)) (plS (rowN L) L.length s [] 0) (.exit 0) (plE (rowN L) L.length s (fsB L)) := by
  have h := loop_up mixed cl0_ok (b := lbody Try.prog 6 7) (fun i => plS (rowN L) L.length s (fsB (L.take i)) i) L.length (e := .exit 0) (R := plE (rowN L) L.length s (fsB L)) (by simp) (fun i hi => by
    have hat : avEq (((rowN L).drop i).headD .any) (.c (.int .i64 (L.getD i 0))) := by rw [rowN_at L i hi]; exact avEq_refl _
    have hb := fsB_len L i
    have h0 := okI_ge (List.all_eq_true.1 hok (L.getD i 0) (by
      have : L[i] = L.getD i 0 := by simp [List.getD, hi]
      rw [← this]; exact List.getElem_mem _))
    rw [fsB_snoc L i hi h0]
    by_cases hz : L.getD i 0 < 128
    · rw [if_pos hz]
      have hw : L.getD i 0 = (((UInt8.ofNat (L.getD i 0).toNat).toNat : Nat) : Int) := by rw [UInt8.toNat_ofNat']; omega
      refine plA_all (rowN L) L.length s _ _ i _ _ hi hat h0 hz rfl hw (by simp) ?_ hl (rowN_length L) (by omega)
      rw [byts_append, List.take_of_length_le (by rw [byts_length]; exact Nat.le_refl _)]
      rfl
    · rw [if_neg hz]
      exact plB_all (rowN L) L.length s _ [] i _ 0 hi hat hz hl (rowN_length L) (by omega)) (by
    have hb := fsB_len L L.length
    rw [List.take_length] at hb ⊢
    exact plZ_all (rowN L) L.length s (fsB L) [] L.length 0 0 rfl hl (rowN_length L) (by omega)) 0 (Nat.zero_le _)
  exact h

def pmS (C : List AV) (k : Nat) (s F : List UInt8) (n i : Nat) : St := ⟨frame 123 [(0, .fs 1 k C), (3, .c (.bool true)), (4, .c (str s)), (6, .sl 0 0 F.length), (8, .c (.int .i64 n)), (9, .c (.int .i64 i))], [some ⟨5, false, byts F⟩]⟩

theorem pmA_all (C : List AV) (k : Nat) (s F : List UInt8) (n i : Nat) (d : Int) (hi : i < s.length) (h1 : ¬ (65 ≤ (((s.getD i 0).toNat : Nat) : Int) ∧ (((s.getD i 0).toNat : Nat) : Int) ≤ 90)) (hd : digitI (((s.getD i 0).toNat : Nat) : Int) 36 = d) (hd0 : 0 ≤ d) (hl : s.length ≤ 2500) (h5 : (s.getD i 0).toNat < 256) : Round Ext0 Try.prog clPl (lbody Try.prog 6 17) (pmS C k s F n i) (.normal) (pmS C k s F n (i + 1)) := by
  refine bcase (decide ((↑(s.getD i (0 : UInt8)).toNat : Int) ≥ (65 : Int))) (fun hc83 => ⟨⟨true, bs [(83, true)] ++ (bs [(77, true), (89, false), (95, false)] ++ [(94, ⟨.c (.int .i64 d), none⟩)])⟩, _, 60, ⟨[], [0, 3, 4, 6, 8, 9], [0]⟩, [decide ((↑i : Int) < ↑s.length) = true,
 (0 : Int) ≤ ↑i,
 (↑i : Int) < ↑s.length,
 (decide ((↑(s.getD i 0).toNat : Int) ≥ (65 : Int))) = true,
 (0 : Int) ≤ ↑i,
 (↑i : Int) < ↑s.length,
 (decide ((↑(s.getD i 0).toNat : Int) ≤ (90 : Int))) = false,
 (0 : Int) ≤ ↑i,
 (↑i : Int) < ↑s.length,
 (((0 : Int) : Int) ≤ ((↑(s.getD i 0).toNat : Int))),
 (((↑(s.getD i 0).toNat : Int) : Int) < ((256 : Int))),
 ((digitI (↑(s.getD i 0).toNat : Int) (36 : Int) : Int)) = (d),
 decide ((d : Int) < 0) = false,
 (IntKind.i64.min : Int) ≤ ↑i + 1,
 (↑i + 1 : Int) ≤ IntKind.i64.max], lpBy_nil, by decide, by kernel_rfl, ?_⟩)
    (fun hc83 => ⟨⟨true, bs [(83, false)] ++ (bs [(77, true), (89, false), (95, false)] ++ [(94, ⟨.c (.int .i64 d), none⟩)])⟩, _, 60, ⟨[], [0, 3, 4, 6, 8, 9], [0]⟩, [decide ((↑i : Int) < ↑s.length) = true,
 (0 : Int) ≤ ↑i,
 (↑i : Int) < ↑s.length,
 (decide ((↑(s.getD i 0).toNat : Int) ≥ (65 : Int))) = false,
 (false) = false,
 (0 : Int) ≤ ↑i,
 (↑i : Int) < ↑s.length,
 (((0 : Int) : Int) ≤ ((↑(s.getD i 0).toNat : Int))),
 (((↑(s.getD i 0).toNat : Int) : Int) < ((256 : Int))),
 ((digitI (↑(s.getD i 0).toNat : Int) (36 : Int) : Int)) = (d),
 decide ((d : Int) < 0) = false,
 (IntKind.i64.min : Int) ≤ ↑i + 1,
 (↑i + 1 : Int) ≤ IntKind.i64.max], lpBy_nil, by decide, by kernel_rfl, ?_⟩)
  all_goals try simp only [dz] at hc83
  all_goals try simp (disch := omega) only [std]
  all_goals repeat' apply And.intro
  all_goals first | exact True.intro | omega | with_reducible rfl | with_reducible assumption | exact hd | rfl


theorem pmZ_all (C : List AV) (k : Nat) (s F : List UInt8) (n i : Nat) (d : Int) (hi : i = s.length) (hl : s.length ≤ 2500) (h5 : (s.getD i 0).toNat < 256) : Round Ext0 Try.prog clPl (lbody Try.prog 6 17) (pmS C k s F n i) (.exit 2) (pmS C k s F n i) := by
  refine ⟨⟨true, (bs [(77, false)] ++ [(94, ⟨.c (.int .i64 d), none⟩)])⟩, _, 60, ⟨[], [0, 3, 4, 6, 8, 9], [0]⟩, [decide ((↑i : Int) < ↑s.length) = false], lpBy_nil, by decide, by kernel_rfl, ?_⟩
  all_goals try simp (disch := omega) only [std]
  all_goals repeat' apply And.intro
  all_goals first | exact True.intro | omega | with_reducible rfl | with_reducible assumption | exact hi | rfl

theorem pm_walk (C : List AV) (k : Nat) (s F : List UInt8) (n : Nat) (hn : n ≤ s.length) (hl : s.length ≤ 2500) (h : ∀ i, n ≤ i → i < s.length → ∃ j, j < 36 ∧ s.getD i 0 = chr j) : Tri Ext0 Try.prog (.loop (lbody Try.prog 6 17)) (pmS C k s F n n) (.exit 2) (pmS C k s F n s.length) := by
  refine loop_inv mixed clPl_ok (fun i => pmS C k s F n i) (fun i => n ≤ i ∧ i ≤ s.length) (fun i => s.length - i) (fun i hx => ?_) n ⟨Nat.le_refl _, hn⟩
  obtain ⟨h1, h2⟩ := hx
  by_cases hi : i < s.length
  · obtain ⟨j, j1, j2⟩ := h i h1 hi
    obtain ⟨_, _, c3, c4⟩ := chr_no j1
    rw [← j2] at c3 c4
    have hd : 0 ≤ digitI (((s.getD i 0).toNat : Nat) : Int) 36 := by
      unfold wo at c4
      split at c4
      · omega
      · split at c4
        · omega
        · omega
    exact .inl ⟨i + 1, ⟨by omega, hi⟩, by omega, pmA_all C k s F n i _ hi (by omega) rfl hd hl (UInt8.toNat_lt _)⟩
  · have he : i = s.length := by omega
    subst he
    exact .inr ⟨by simp, pmZ_all C k s F n s.length 0 rfl hl (UInt8.toNat_lt _)⟩

noncomputable def plLp (C : List AV) (k : Nat) (s F : List UInt8) (n : Nat) : List (Nat × Lp) :=
  [(7, ⟨lbody Try.prog 6 7, ⟨[(6, 5)], [0, 3, 4, 6, 7], [0]⟩, plS C k s [] 0, .exit 0, plE C k s F⟩),
   (17, ⟨lbody Try.prog 6 17, ⟨[], [0, 3, 4, 6, 8, 9], [0]⟩, pmS C k s F n n, .exit 2, pmS C k s F n s.length⟩)]

theorem plain0_all (L : List Int) (hm : mayI L = false) : ∃ (h : Hints) (p : List Prop), lawOut (aBody Try.prog clPl h (lpBy ([])) 60 6 ([.fs 1 L.length (rowN L)]) ([])) = some (.c (.bool true), p) ∧ allP p := by
  refine ⟨⟨true, (bs [(15, false)])⟩, [(((1 : Nat) : Nat)) = ((1 : Nat)),
 ((rowN L : List AV)) = (rowN (unI (rowN L))),
 ((L.length : Nat)) = ((unI (rowN L)).length),
 (mayI (unI (rowN L))) = false], by kernel_rfl, ?_⟩
  all_goals try simp (disch := omega) only [std, unI_rowN]
  all_goals repeat' apply And.intro
  all_goals first | exact True.intro | omega | with_reducible rfl | with_reducible assumption | exact hm | rfl

theorem plainT_all (L : List Int) (s F : List UInt8) (hF0 : 0 < F.length) (hs1 : F.length < s.length) (h45 : (((s.getD F.length 0).toNat : Nat) : Int) = 45) (hm : mayI L = true) (hs : encV L = s) (hl : L.length ≤ 255) (hFl : F.length ≤ 255) (hFs : F.length ≤ s.length) (htk : s.take F.length = F) (hsl : s.length ≤ 2500) (hiff : (((F.length + 1) : Nat) : Int) < (s.length : Int) ↔ (F.length : Int) < (L.length : Int)) (h8 : (s.length : Int) - (((F.length + 1) : Nat) : Int) ≤ 8 * ((L.length : Int) - (F.length : Int))) : ∃ (h : Hints) (p : List Prop), lawOut (aBody Try.prog clPl h (lpBy (plLp (rowN L) L.length s F (F.length + 1))) 60 6 ([.fs 1 L.length (rowN L)]) ([])) = some (.c (.bool true), p) ∧ allP p := by
  refine ⟨⟨true, bs [(60, false)] ++ (bs [(15, true), (43, false), (50, false), (54, true), (68, false), (70, true), (108, true), (121, true)] ++ [(14, ⟨.c (str s), none⟩), (47, ⟨.c (str F), none⟩), (49, ⟨.c (str F), none⟩)])⟩, [(((1 : Nat) : Nat)) = ((1 : Nat)),
 ((rowN L : List AV)) = (rowN (unI (rowN L))),
 ((L.length : Nat)) = ((unI (rowN L)).length),
 ((encV (unI (rowN L)) : List UInt8)) = (s),
 (mayI (unI (rowN L))) = true,
 ((lbody Try.prog (6 : FuncId) (7 : Nat) : Go.Code)) = (lbody Try.prog (6 : FuncId) (7 : Nat)),
 ((plS (rowN L) L.length s [] (0 : Nat) : Go.Proofs.Ytljgmgbjfjhjmaa.St)) = (plS (rowN L) L.length s [] (0 : Nat)),
 decide ((↑s.length : Int) < ↑F.length) = false,
 (0 : Int) ≤ 0,
 (0 : Int) ≤ ↑F.length,
 (↑F.length : Int) ≤ ↑s.length,
 ((List.drop (Int.toNat (0 : Int)) (List.take F.length s) : List UInt8)) = (F),
 ((F.length + (0 : Nat) : Nat) ≤ ((byts F).length)),
 bytesOK (List.take F.length (List.drop (0 : Nat) (byts F))),
 ((unbyts (List.take F.length (List.drop (0 : Nat) (byts F))) : List UInt8)) = (F),
 (!F == F) = false,
 decide ((↑F.length : Int) > 0) = true,
 (IntKind.i64.min : Int) ≤ ↑F.length + 1,
 (↑F.length + 1 : Int) ≤ IntKind.i64.max,
 decide ((↑s.length : Int) < ↑F.length + 1) = false,
 (0 : Int) ≤ ↑F.length,
 (↑F.length : Int) < ↑s.length,
 ((↑(s.getD F.length 0).toNat : Int) != (45 : Int)) = false,
 decide ((↑F.length : Int) > 0) = true,
 (IntKind.i64.min : Int) ≤ ↑F.length + 1,
 (↑F.length + 1 : Int) ≤ IntKind.i64.max,
 ((lbody Try.prog (6 : FuncId) (17 : Nat) : Go.Code)) = (lbody Try.prog (6 : FuncId) (17 : Nat)),
 ((pmS (rowN L) L.length s F (F.length + (1 : Nat)) (F.length + (1 : Nat)) : Go.Proofs.Ytljgmgbjfjhjmaa.St)) = (pmS (rowN L) L.length s F (F.length + (1 : Nat)) (F.length + (1 : Nat))),
 (decide ((↑(F.length + (1 : Nat)) : Int) < (↑s.length : Int)) == decide ((↑F.length : Int) < (↑L.length : Int))) = true,
 (IntKind.i64.min : Int) ≤ ↑s.length - ↑(F.length + 1),
 (↑s.length - ↑(F.length + 1) : Int) ≤ IntKind.i64.max,
 (IntKind.i64.min : Int) ≤ ↑L.length - ↑F.length,
 (↑L.length - ↑F.length : Int) ≤ IntKind.i64.max,
 (IntKind.i64.min : Int) ≤ 8 * (↑L.length - ↑F.length),
 (8 * (↑L.length - ↑F.length) : Int) ≤ IntKind.i64.max,
 decide ((↑s.length - ↑(F.length + 1) : Int) ≤ 8 * (↑L.length - ↑F.length)) = true], by kernel_rfl, ?_⟩
  all_goals try simp (disch := omega) only [std, beq_self_eq_true, unI_rowN, byts_length, byts_tk, unbyts_byts]
  all_goals repeat' apply And.intro
  all_goals first | exact True.intro | omega | with_reducible rfl | with_reducible assumption | exact bytesOK_byts _ | (rw [beq_iff_eq]; exact decide_eq_decide.2 hiff) | exact decide_eq_decide.2 hiff | exact h45 | exact hm | exact hs | exact htk | rfl


theorem plainF_all (L : List Int) (s F : List UInt8) (hF0 : F.length = 0) (hm : mayI L = true) (hs : encV L = s) (hl : L.length ≤ 255) (hFl : F.length ≤ 255) (hFs : F.length ≤ s.length) (htk : s.take F.length = F) (hsl : s.length ≤ 2500) (hiff : ((F.length : Nat) : Int) < (s.length : Int) ↔ (F.length : Int) < (L.length : Int)) (h8 : (s.length : Int) - ((F.length : Nat) : Int) ≤ 8 * ((L.length : Int) - (F.length : Int))) : ∃ (h : Hints) (p : List Prop), lawOut (aBody Try.prog clPl h (lpBy (plLp (rowN L) L.length s F F.length)) 60 6 ([.fs 1 L.length (rowN L)]) ([])) = some (.c (.bool true), p) ∧ allP p := by
  refine ⟨⟨true, (bs [(15, true), (43, false), (50, false), (54, false), (68, false), (70, false), (108, true), (121, true)] ++ [(14, ⟨.c (str s), none⟩), (47, ⟨.c (str F), none⟩), (49, ⟨.c (str F), none⟩)])⟩, [(((1 : Nat) : Nat)) = ((1 : Nat)),
 ((rowN L : List AV)) = (rowN (unI (rowN L))),
 ((L.length : Nat)) = ((unI (rowN L)).length),
 ((encV (unI (rowN L)) : List UInt8)) = (s),
 (mayI (unI (rowN L))) = true,
 ((lbody Try.prog (6 : FuncId) (7 : Nat) : Go.Code)) = (lbody Try.prog (6 : FuncId) (7 : Nat)),
 ((plS (rowN L) L.length s [] (0 : Nat) : Go.Proofs.Ytljgmgbjfjhjmaa.St)) = (plS (rowN L) L.length s [] (0 : Nat)),
 decide ((↑s.length : Int) < ↑F.length) = false,
 (0 : Int) ≤ 0,
 (0 : Int) ≤ ↑F.length,
 (↑F.length : Int) ≤ ↑s.length,
 ((List.drop (Int.toNat (0 : Int)) (List.take F.length s) : List UInt8)) = (F),
 ((F.length + (0 : Nat) : Nat) ≤ ((byts F).length)),
 bytesOK (List.take F.length (List.drop (0 : Nat) (byts F))),
 ((unbyts (List.take F.length (List.drop (0 : Nat) (byts F))) : List UInt8)) = (F),
 (!F == F) = false,
 decide ((↑F.length : Int) > 0) = false,
 (false) = false,
 decide ((↑F.length : Int) > 0) = false,
 ((lbody Try.prog (6 : FuncId) (17 : Nat) : Go.Code)) = (lbody Try.prog (6 : FuncId) (17 : Nat)),
 ((pmS (rowN L) L.length s F F.length F.length : Go.Proofs.Ytljgmgbjfjhjmaa.St)) = (pmS (rowN L) L.length s F F.length F.length),
 (decide ((↑F.length : Int) < (↑s.length : Int)) == decide ((↑F.length : Int) < (↑L.length : Int))) = true,
 (IntKind.i64.min : Int) ≤ ↑s.length - ↑F.length,
 (↑s.length - ↑F.length : Int) ≤ IntKind.i64.max,
 (IntKind.i64.min : Int) ≤ ↑L.length - ↑F.length,
 (↑L.length - ↑F.length : Int) ≤ IntKind.i64.max,
 (IntKind.i64.min : Int) ≤ 8 * (↑L.length - ↑F.length),
 (8 * (↑L.length - ↑F.length) : Int) ≤ IntKind.i64.max,
 decide ((↑s.length - ↑F.length : Int) ≤ 8 * (↑L.length - ↑F.length)) = true], by kernel_rfl, ?_⟩
  all_goals try simp (disch := omega) only [std, beq_self_eq_true, unI_rowN, byts_length, byts_tk, unbyts_byts]
  all_goals repeat' apply And.intro
  all_goals first | exact True.intro | omega | with_reducible rfl | with_reducible assumption | exact bytesOK_byts _ | (rw [beq_iff_eq]; exact decide_eq_decide.2 hiff) | exact decide_eq_decide.2 hiff | exact hF0 | exact hm | exact hs | exact htk | rfl

theorem plain_law (L : List Int) : ∃ hs lp fuel p, LpOK Ext0 Try.prog lp ∧ lawOut (aBody Try.prog clPl hs lp fuel 6 [.fs 1 L.length (rowN L)] []) = some (.c (.bool true), p) ∧ allP p := by
  cases hm : mayI L with
  | false =>
    obtain ⟨hh, p, e, hp⟩ := plain0_all L hm
    exact ⟨_, _, _, _, lpBy_nil, e, hp⟩
  | true =>
    obtain ⟨k1, k2, k3⟩ := mayI_P hm
    obtain ⟨w, e1, e2, e3, e4, e5⟩ := enc_shape k1
    have hs : encV L = encP (natL L) := by unfold encV; rw [if_pos hm]
    have hn : (natL L).length = L.length := by simp [natL]
    have hFb : fsB L = byt (bas (natL L)) := rfl
    have hFl : (fsB L).length = (bas (natL L)).length := by rw [hFb]; simp [byt]
    have hsl := encV_len L
    have w1 := pl_walk L (encV L) k3 k2
    rw [hs] at hsl w1
    rw [← hFb] at e1
    rw [← hFl] at e1 e3 e4 e5
    rw [hn] at e3 e4 e5
    generalize encP (natL L) = s at *
    generalize fsB L = F at *
    have htk : s.take F.length = F := by rw [e1]; exact List.take_left
    by_cases h0 : 0 < F.length
    · have hh : hyp F.length = [45] := by unfold hyp; rw [if_pos h0]
      rw [hh] at e1
      have hlen : s.length = F.length + 1 + w.length := by rw [e1]; simp only [List.length_append, List.length_singleton]; omega
      have h45 : s.getD F.length 0 = 45 := by rw [e1]; simp [List.getD]
      have hdig : ∀ i, F.length + 1 ≤ i → i < s.length → ∃ j, j < 36 ∧ s.getD i 0 = chr j := fun i h1 h2 => by
        have : s.getD i 0 = w.getD (i - (F.length + 1)) 0 := by
          rw [e1, ← List.append_assoc]
          simp only [List.getD]
          rw [List.getElem?_append_right (by simp only [List.length_append, List.length_singleton]; omega)]
          simp
        rw [this]
        exact e2 _ (by
          have hj : i - (F.length + 1) < w.length := by omega
          have e : w[i - (F.length + 1)] = w.getD (i - (F.length + 1)) 0 := by simp [List.getD, hj]
          rw [← e]; exact List.getElem_mem _)
      have w2 := pm_walk (rowN L) L.length s F (F.length + 1) (by omega) hsl hdig
      obtain ⟨hh, p, e, hp⟩ := plainT_all L s F h0 (by omega) (by rw [h45]; rfl) hm hs k2 (by omega) (by omega) htk hsl (by omega) (by omega)
      exact ⟨_, _, _, _, lpBy_cons (lpBy_cons lpBy_nil nd0 w2) nd0 w1, e, hp⟩
    · have hh : hyp F.length = [] := by unfold hyp; rw [if_neg h0]
      rw [hh, List.nil_append] at e1
      have hlen : s.length = F.length + w.length := by rw [e1]; simp only [List.length_append]
      have hdig : ∀ i, F.length ≤ i → i < s.length → ∃ j, j < 36 ∧ s.getD i 0 = chr j := fun i h1 h2 => by
        have : s.getD i 0 = w.getD (i - F.length) 0 := by
          rw [e1]
          simp only [List.getD]
          rw [List.getElem?_append_right (by omega)]
        rw [this]
        exact e2 _ (by
          have hj : i - F.length < w.length := by omega
          have e : w[i - F.length] = w.getD (i - F.length) 0 := by simp [List.getD, hj]
          rw [← e]; exact List.getElem_mem _)
      have w2 := pm_walk (rowN L) L.length s F F.length (by omega) hsl hdig
      obtain ⟨hh, p, e, hp⟩ := plainF_all L s F (by omega) hm hs k2 (by omega) (by omega) htk hsl (by omega) (by omega)
      exact ⟨_, _, _, _, lpBy_cons (lpBy_cons lpBy_nil nd0 w2) nd0 w1, e, hp⟩

end Go.Proofs.Ytljgmgbjfjhjmaa
