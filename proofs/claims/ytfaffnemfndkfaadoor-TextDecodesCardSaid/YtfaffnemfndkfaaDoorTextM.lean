/- The laws of what is decoded once, and of what is broken. -/
import Derived.Test.YtfaffnemfndkfaaDoorTextV
import Derived.Test.YtfaffnemfndkfaaDoorLevR
namespace Go.Proofs.YtfaffnemfndkfaaDoor
open Go.RowKit U8
set_option linter.unusedVariables false
set_option linter.unusedSimpArgs false

noncomputable def sgU : Specs := sgBy [(10, smallSpec), (18, signSpec), (11, decSpec), (14, rightSpec), (12, signsSpec), (16, intsSpec)]
noncomputable def clU : CallT := aCall Tryd.prog sgU 500 8
theorem clU_ok : CallOK Tryd.prog clU := aCall_ok mixed (sgBy_cons small_ok (sgBy_cons sign_ok (sgBy_cons dec_ok (sgBy_cons right_ok (sgBy_cons signs_ok (sgBy_cons ints_ok sgBy_nil)))))) 500 8

theorem byts_all (l : List UInt8) : List.take l.length (List.drop 0 (byts l)) = byts l := by
  rw [List.drop_zero, List.take_of_length_le (by rw [byts_length]; exact Nat.le_refl _)]
theorem byts_tk (l : List UInt8) : List.take l.length (byts l) = byts l := List.take_of_length_le (by rw [byts_length]; exact Nat.le_refl _)
theorem fix_valid (l : List UInt8) : Lib.validD (fixF l) = true := by rw [valid_eq, fix_fix]; simp

theorem once_1 (l : List UInt8) : lawOut (aBody Tryd.prog clU ⟨true, bs [(8, true)] ++ (bs [(15, true), (22, true), (32, true), (40, true)])⟩ (lpBy ([])) 60 6 ([.fs 1 l.length (byts l)]) ([])) = some ((AV.c ((Value.bool true))), [((decide ((↑l.length : Int) > (1000 : Int)) : Bool)) = (true)]) := by kernel_rfl

theorem once_2 (l : List UInt8) : lawOut (aBody Tryd.prog clU ⟨true, bs [(8, false)] ++ (bs [(15, true), (22, true), (32, true), (40, true)])⟩ (lpBy ([])) 60 6 ([.fs 1 l.length (byts l)]) ([])) = some ((AV.c ((Value.bool true))), [((decide ((↑l.length : Int) > (1000 : Int)) : Bool)) = (false),
 (((1 : Nat) : Nat)) = ((1 : Nat)),
 ((byts l : List AV)) = (byts (unbyts (byts l))),
 ((l.length : Nat)) = ((unbyts (byts l)).length),
 ((l.length : Nat) ≤ ((1000000000 : Nat))),
 (((decF (unbyts (byts l))).length : Nat) ≤ ((1000000000 : Nat))),
 ((Lib.validD (decF (unbyts (byts l))) : Bool)) = (true),
 (((decF (unbyts (byts l))).length : Nat) ≤ ((140737488355328 : Nat))),
 ((Tryd.prog.cellsOf (5 : Nat) : Nat)) = ((1 : Nat)),
 ((List.take (decF (unbyts (byts l))).length (byts (decF (unbyts (byts l)))) : List AV)) = (byts (unbyts (List.take (decF (unbyts (byts l))).length (byts (decF (unbyts (byts l))))))),
 (((decF (unbyts (byts l))).length : Nat)) = ((unbyts (List.take (decF (unbyts (byts l))).length (byts (decF (unbyts (byts l)))))).length),
 (((decF (unbyts (byts l))).length : Nat) ≤ ((1000000000 : Nat))),
 ((decF (unbyts (List.take (decF (unbyts (byts l))).length (byts (decF (unbyts (byts l)))))) == decF (unbyts (byts l)) : Bool)) = (true),
 (((byts l).length : Nat)) = (l.length),
 bytesOK (byts l),
 (((unbyts (byts l)).length : Nat) ≤ ((1000000000 : Nat))),
 (((byts l).length : Nat)) = (l.length),
 bytesOK (byts l),
 ((Lib.validD (unbyts (byts l)) == (decF (unbyts (byts l)) == unbyts (byts l)) : Bool)) = (true),
 ((IntKind.i64.min : Int) ≤ ((3 : Int) * (↑l.length : Int))),
 (((3 : Int) * (↑l.length : Int) : Int) ≤ (IntKind.i64.max)),
 ((decide ((↑(decF (unbyts (byts l))).length : Int) ≤ (3 : Int) * (↑l.length : Int)) : Bool)) = (true)]) := by kernel_rfl

theorem once_all (l : List UInt8)  : ∃ (h : Hints) (p : List Prop), lawOut (aBody Tryd.prog clU h (lpBy ([])) 60 6 ([.fs 1 l.length (byts l)]) ([])) = some (.c (.bool true), p) ∧ allP p := by
  cases hc8 : (decide ((↑l.length : Int) > (1000 : Int)) : Bool) with
  | true =>
    have eR := once_1 l
    refine ⟨_, _, eR.trans (congrArg (fun r => some (r, _)) ?_), ?_⟩
    · rfl
    · clear eR
      have k1 := fix_len l
      have k2 := fix_fix l
      have k3 := fix_valid l
      have k4 := valid_eq l
      simp only [allP, decF_eq, byts_all, byts_tk, byts_length, unbyts_byts, and_true, true_and, i64_min, i64_max]
      try simp only [decide_eq_true_eq, decide_eq_false_iff_not] at *
      repeat' apply And.intro
      all_goals first
        | omega
        | exact bytesOK_byts _
        | rfl
        | exact k3
        | exact beq_iff_eq.2 k2
        | (rw [k4]; by_cases q : fixF l = l <;> simp [q, avEq]; done)
  | false =>
    have eR := once_2 l
    refine ⟨_, _, eR.trans (congrArg (fun r => some (r, _)) ?_), ?_⟩
    · rfl
    · clear eR
      have k1 := fix_len l
      have k2 := fix_fix l
      have k3 := fix_valid l
      have k4 := valid_eq l
      simp only [allP, decF_eq, byts_all, byts_tk, byts_length, unbyts_byts, and_true, true_and, i64_min, i64_max]
      try simp only [decide_eq_true_eq, decide_eq_false_iff_not] at *
      repeat' apply And.intro
      all_goals first
        | omega
        | exact bytesOK_byts _
        | rfl
        | exact k3
        | exact beq_iff_eq.2 k2
        | (rw [k4]; by_cases q : fixF l = l <;> simp [q, avEq]; done)

/-! A byte that is broken among bytes that are not. -/

def hiK (l : List UInt8) : Nat := l.findIdx fun x => decide (128 ≤ x.toNat)
theorem hi_lt {l : List UInt8} {i : Nat} (h : i < hiK l) : (l.getD i 0).toNat < 128 := by
  have := List.not_of_lt_findIdx h
  have hl : i < l.length := Nat.lt_of_lt_of_le h (List.findIdx_le_length)
  have e : l.getD i 0 = l[i] := by simp [List.getD, hl]
  rw [e]
  simpa using this
theorem hi_at {l : List UInt8} (h : hiK l < l.length) : 128 ≤ (l.getD (hiK l) 0).toNat := by
  have := List.findIdx_getElem (w := h)
  have e : l.getD (hiK l) 0 = l[hiK l] := by simp [List.getD, h]
  rw [e]
  exact of_decide_eq_true this
theorem hi_le (l : List UInt8) : hiK l ≤ l.length := List.findIdx_le_length
theorem hi_plain {l : List UInt8} (h : ¬ hiK l < l.length) : ∀ x ∈ l, x.toNat < 128 := by
  have e : hiK l = l.length := by have := hi_le l; omega
  intro x hx
  obtain ⟨i, hi, rfl⟩ := List.getElem_of_mem hx
  have := hi_lt (l := l) (i := i) (by omega)
  have e : l.getD i 0 = l[i] := by simp [List.getD, hi]
  rwa [e] at this

def br1S (a b : List UInt8) (c : Int) (i : Nat) : St := ⟨frame 95 [(0, .fs 1 a.length (byts a)), (1, .c (.int .u8 c)), (2, .fs 1 b.length (byts b)), (7, .c (.bool true)), (8, .c (.int .i64 i))], []⟩
def br2S (a b : List UInt8) (c : Int) (i : Nat) : St := ⟨frame 95 [(0, .fs 1 a.length (byts a)), (1, .c (.int .u8 c)), (2, .fs 1 b.length (byts b)), (7, .c (.bool true)), (9, .c (.int .i64 i))], []⟩
def brT : St := ⟨frame 95 [(6, .c (.bool true))], []⟩

theorem br1_1 (a b : List UInt8) (c : Int) (i : Nat) : roundOut (⟨[], [6], []⟩) (aCode Tryd.prog clU ⟨true, bs [(29, true), (36, true)] ++ ([(35, ⟨byteC (a.getD i 0), none⟩)])⟩ (lpBy ([])) 60 (lbody Tryd.prog 9 5) (br1S a b c i)) = some (.ret, brT, [((decide ((↑i : Int) < (↑a.length : Int)) : Bool)) = (true),
 (((0 : Int) : Int) ≤ ((↑i : Int))),
 (((↑i : Int) : Int) < ((↑a.length : Int))),
 (((0 : Nat) : Nat) < ((List.drop i (byts a)).length)),
 avEq ((List.drop i (byts a)).headD AV.any) ((AV.c ((Value.int .u8 ((↑(a.getD i (0 : UInt8)).toNat : Int)))))),
 ((decide ((↑(a.getD i (0 : UInt8)).toNat : Int) ≥ (128 : Int)) : Bool)) = (true)]) := by kernel_rfl

theorem br1_2 (a b : List UInt8) (c : Int) (i : Nat) : roundOut (⟨[], [0, 1, 2, 7, 8], []⟩) (aCode Tryd.prog clU ⟨true, bs [(29, true), (36, false)] ++ ([(35, ⟨byteC (a.getD i 0), none⟩)])⟩ (lpBy ([])) 60 (lbody Tryd.prog 9 5) (br1S a b c i)) = some (.normal, br1S a b c (i + 1), [((decide ((↑i : Int) < (↑a.length : Int)) : Bool)) = (true),
 (((0 : Int) : Int) ≤ ((↑i : Int))),
 (((↑i : Int) : Int) < ((↑a.length : Int))),
 (((0 : Nat) : Nat) < ((List.drop i (byts a)).length)),
 avEq ((List.drop i (byts a)).headD AV.any) ((AV.c ((Value.int .u8 ((↑(a.getD i (0 : UInt8)).toNat : Int)))))),
 ((decide ((↑(a.getD i (0 : UInt8)).toNat : Int) ≥ (128 : Int)) : Bool)) = (false),
 ((IntKind.i64.min : Int) ≤ ((↑i : Int) + (1 : Int))),
 (((↑i : Int) + (1 : Int) : Int) ≤ (IntKind.i64.max))]) := by kernel_rfl

theorem br1_3 (a b : List UInt8) (c : Int) (i : Nat) : roundOut (⟨[], [0, 1, 2, 7, 8], []⟩) (aCode Tryd.prog clU ⟨true, bs [(29, false)] ++ ([(35, ⟨byteC (a.getD i 0), none⟩)])⟩ (lpBy ([])) 60 (lbody Tryd.prog 9 5) (br1S a b c i)) = some (.exit (if 1 = 1 then 0 else 2), br1S a b c i, [((decide ((↑i : Int) < (↑a.length : Int)) : Bool)) = (false)]) := by kernel_rfl

theorem br1_go (a b : List UInt8) (c : Int) (hl : a.length ≤ 1000000000) (i : Nat) (h : i < hiK a) : Round Ext0 Tryd.prog clU (lbody Tryd.prog 9 5) (br1S a b c i) .normal (br1S a b c (i + 1)) := by
  have h1 := hi_lt h
  have h2 := hi_le a
  have h3 := byts_headD a i (by omega)
  refine ⟨_, _, _, _, _, lpBy_nil, by decide, br1_2 a b c i, ?_⟩
  simp only [allP, h3, byteC, avEq_refl, byts_length, List.length_drop, and_true, true_and, decide_eq_true_eq, decide_eq_false_iff_not, i64_min, i64_max]
  omega
theorem br1_yes (a b : List UInt8) (c : Int) (hl : a.length ≤ 1000000000) (h : hiK a < a.length) : Tri Ext0 Tryd.prog (.loop (lbody Tryd.prog 9 5)) (br1S a b c 0) .ret brT := by
  refine loop_up mixed clU_ok (br1S a b c) (hiK a) (by simp) (br1_go a b c hl) ?_ 0 (Nat.zero_le _)
  have h1 := hi_at h
  have h3 := byts_headD a (hiK a) h
  refine ⟨_, _, _, _, _, lpBy_nil, by decide, br1_1 a b c (hiK a), ?_⟩
  simp only [allP, h3, byteC, avEq_refl, byts_length, List.length_drop, and_true, true_and, decide_eq_true_eq, decide_eq_false_iff_not, i64_min, i64_max]
  omega
theorem br1_no (a b : List UInt8) (c : Int) (hl : a.length ≤ 1000000000) (h : ¬ hiK a < a.length) : Tri Ext0 Tryd.prog (.loop (lbody Tryd.prog 9 5)) (br1S a b c 0) (.exit (if 1 = 1 then 0 else 2)) (br1S a b c (hiK a)) := by
  refine loop_up mixed clU_ok (br1S a b c) (hiK a) (by simp) (br1_go a b c hl) ?_ 0 (Nat.zero_le _)
  refine ⟨_, _, _, _, _, lpBy_nil, by decide, br1_3 a b c (hiK a), ?_⟩
  simp only [allP, and_true, decide_eq_false_iff_not]
  omega


theorem br2_1 (a b : List UInt8) (c : Int) (i : Nat) : roundOut (⟨[], [6], []⟩) (aCode Tryd.prog clU ⟨true, bs [(41, true), (48, true)] ++ ([(47, ⟨byteC (b.getD i 0), none⟩)])⟩ (lpBy ([])) 60 (lbody Tryd.prog 9 10) (br2S a b c i)) = some (.ret, brT, [((decide ((↑i : Int) < (↑b.length : Int)) : Bool)) = (true),
 (((0 : Int) : Int) ≤ ((↑i : Int))),
 (((↑i : Int) : Int) < ((↑b.length : Int))),
 (((0 : Nat) : Nat) < ((List.drop i (byts b)).length)),
 avEq ((List.drop i (byts b)).headD AV.any) ((AV.c ((Value.int .u8 ((↑(b.getD i (0 : UInt8)).toNat : Int)))))),
 ((decide ((↑(b.getD i (0 : UInt8)).toNat : Int) ≥ (128 : Int)) : Bool)) = (true)]) := by kernel_rfl

theorem br2_2 (a b : List UInt8) (c : Int) (i : Nat) : roundOut (⟨[], [0, 1, 2, 7, 9], []⟩) (aCode Tryd.prog clU ⟨true, bs [(41, true), (48, false)] ++ ([(47, ⟨byteC (b.getD i 0), none⟩)])⟩ (lpBy ([])) 60 (lbody Tryd.prog 9 10) (br2S a b c i)) = some (.normal, br2S a b c (i + 1), [((decide ((↑i : Int) < (↑b.length : Int)) : Bool)) = (true),
 (((0 : Int) : Int) ≤ ((↑i : Int))),
 (((↑i : Int) : Int) < ((↑b.length : Int))),
 (((0 : Nat) : Nat) < ((List.drop i (byts b)).length)),
 avEq ((List.drop i (byts b)).headD AV.any) ((AV.c ((Value.int .u8 ((↑(b.getD i (0 : UInt8)).toNat : Int)))))),
 ((decide ((↑(b.getD i (0 : UInt8)).toNat : Int) ≥ (128 : Int)) : Bool)) = (false),
 ((IntKind.i64.min : Int) ≤ ((↑i : Int) + (1 : Int))),
 (((↑i : Int) + (1 : Int) : Int) ≤ (IntKind.i64.max))]) := by kernel_rfl

theorem br2_3 (a b : List UInt8) (c : Int) (i : Nat) : roundOut (⟨[], [0, 1, 2, 7, 9], []⟩) (aCode Tryd.prog clU ⟨true, bs [(41, false)] ++ ([(47, ⟨byteC (b.getD i 0), none⟩)])⟩ (lpBy ([])) 60 (lbody Tryd.prog 9 10) (br2S a b c i)) = some (.exit (if 2 = 1 then 0 else 2), br2S a b c i, [((decide ((↑i : Int) < (↑b.length : Int)) : Bool)) = (false)]) := by kernel_rfl

theorem br2_go (a b : List UInt8) (c : Int) (hl : b.length ≤ 1000000000) (i : Nat) (h : i < hiK b) : Round Ext0 Tryd.prog clU (lbody Tryd.prog 9 10) (br2S a b c i) .normal (br2S a b c (i + 1)) := by
  have h1 := hi_lt h
  have h2 := hi_le b
  have h3 := byts_headD b i (by omega)
  refine ⟨_, _, _, _, _, lpBy_nil, by decide, br2_2 a b c i, ?_⟩
  simp only [allP, h3, byteC, avEq_refl, byts_length, List.length_drop, and_true, true_and, decide_eq_true_eq, decide_eq_false_iff_not, i64_min, i64_max]
  omega
theorem br2_yes (a b : List UInt8) (c : Int) (hl : b.length ≤ 1000000000) (h : hiK b < b.length) : Tri Ext0 Tryd.prog (.loop (lbody Tryd.prog 9 10)) (br2S a b c 0) .ret brT := by
  refine loop_up mixed clU_ok (br2S a b c) (hiK b) (by simp) (br2_go a b c hl) ?_ 0 (Nat.zero_le _)
  have h1 := hi_at h
  have h3 := byts_headD b (hiK b) h
  refine ⟨_, _, _, _, _, lpBy_nil, by decide, br2_1 a b c (hiK b), ?_⟩
  simp only [allP, h3, byteC, avEq_refl, byts_length, List.length_drop, and_true, true_and, decide_eq_true_eq, decide_eq_false_iff_not, i64_min, i64_max]
  omega
theorem br2_no (a b : List UInt8) (c : Int) (hl : b.length ≤ 1000000000) (h : ¬ hiK b < b.length) : Tri Ext0 Tryd.prog (.loop (lbody Tryd.prog 9 10)) (br2S a b c 0) (.exit (if 2 = 1 then 0 else 2)) (br2S a b c (hiK b)) := by
  refine loop_up mixed clU_ok (br2S a b c) (hiK b) (by simp) (br2_go a b c hl) ?_ 0 (Nat.zero_le _)
  refine ⟨_, _, _, _, _, lpBy_nil, by decide, br2_3 a b c (hiK b), ?_⟩
  simp only [allP, and_true, decide_eq_false_iff_not]
  omega

def br1Fi : Fi := ⟨[], [0, 1, 2, 7, 8], []⟩
def br2Fi : Fi := ⟨[], [0, 1, 2, 7, 9], []⟩
noncomputable def brL1 (a b : List UInt8) (c : Int) : List (Nat × Lp) := [(5, ⟨lbody Tryd.prog 9 5, br1Fi, br1S a b c 0, .ret, brT⟩)]
noncomputable def brL2 (a b : List UInt8) (c : Int) : List (Nat × Lp) := [(5, ⟨lbody Tryd.prog 9 5, br1Fi, br1S a b c 0, .exit 0, br1S a b c (hiK a)⟩), (10, ⟨lbody Tryd.prog 9 10, br2Fi, br2S a b c 0, .ret, brT⟩)]
noncomputable def brL3 (a b : List UInt8) (c : Int) : List (Nat × Lp) := [(5, ⟨lbody Tryd.prog 9 5, br1Fi, br1S a b c 0, .exit 0, br1S a b c (hiK a)⟩), (10, ⟨lbody Tryd.prog 9 10, br2Fi, br2S a b c 0, .exit 2, br2S a b c (hiK b)⟩)]

theorem broken_fix {a b : List UInt8} {c : UInt8} (ha : ∀ x ∈ a, x.toNat < 128) (hb : ∀ x ∈ b, x.toNat < 128) (hc : 128 ≤ c.toNat) :
    fixF (a ++ [c] ++ b) = a ++ [239, 191, 189] ++ b ∧ fixF (a ++ [128, c] ++ b) = a ++ [239, 191, 189, 239, 191, 189] ++ b := by
  have e := fix_app _ (plain_ok a ha)
  rw [plain_join a ha] at e
  have hl := fix_lone (c := c) hc (plain_fresh hb)
  rw [plain_fix hb] at hl
  constructor
  · rw [List.append_assoc, e]
    show a ++ fixF (c :: b) = _
    rw [hl, List.append_assoc]
    rfl
  · rw [List.append_assoc, e]
    show a ++ fixF (128 :: (c :: b)) = _
    rw [fix_none (c := 128) (.inl (by decide)), hl, List.append_assoc]
    rfl

theorem broken1_1 (a b : List UInt8) (c : UInt8) : lawOut (aBody Tryd.prog clU ⟨true, bs [(15, true)] ++ (bs [(76, true), (87, true), (93, true)])⟩ (lpBy (brL1 a b (c.toNat : Nat))) 60 9 ([.fs 1 a.length (byts a), .c (.int .u8 (c.toNat : Nat)), .fs 1 b.length (byts b)]) ([])) = some ((AV.c ((Value.bool true))), [((decide ((↑a.length : Int) > (200 : Int)) : Bool)) = (true)]) := by kernel_rfl

theorem broken1_2 (a b : List UInt8) (c : UInt8) : lawOut (aBody Tryd.prog clU ⟨true, bs [(15, false), (19, true)] ++ (bs [(76, true), (87, true), (93, true)])⟩ (lpBy (brL1 a b (c.toNat : Nat))) 60 9 ([.fs 1 a.length (byts a), .c (.int .u8 (c.toNat : Nat)), .fs 1 b.length (byts b)]) ([])) = some ((AV.c ((Value.bool true))), [((decide ((↑a.length : Int) > (200 : Int)) : Bool)) = (false),
 ((decide ((↑b.length : Int) > (200 : Int)) : Bool)) = (true)]) := by kernel_rfl

theorem broken1_3 (a b : List UInt8) (c : UInt8) : lawOut (aBody Tryd.prog clU ⟨true, bs [(15, false), (19, false), (23, true)] ++ (bs [(76, true), (87, true), (93, true)])⟩ (lpBy (brL1 a b (c.toNat : Nat))) 60 9 ([.fs 1 a.length (byts a), .c (.int .u8 (c.toNat : Nat)), .fs 1 b.length (byts b)]) ([])) = some ((AV.c ((Value.bool true))), [((decide ((↑a.length : Int) > (200 : Int)) : Bool)) = (false),
 ((decide ((↑b.length : Int) > (200 : Int)) : Bool)) = (false),
 ((decide ((↑c.toNat : Int) < (128 : Int)) : Bool)) = (true)]) := by kernel_rfl

theorem broken1_4 (a b : List UInt8) (c : UInt8) : lawOut (aBody Tryd.prog clU ⟨true, bs [(15, false), (19, false), (23, false)] ++ (bs [(76, true), (87, true), (93, true)])⟩ (lpBy (brL1 a b (c.toNat : Nat))) 60 9 ([.fs 1 a.length (byts a), .c (.int .u8 (c.toNat : Nat)), .fs 1 b.length (byts b)]) ([])) = some ((AV.c ((Value.bool true))), [((decide ((↑a.length : Int) > (200 : Int)) : Bool)) = (false),
 ((decide ((↑b.length : Int) > (200 : Int)) : Bool)) = (false),
 ((decide ((↑c.toNat : Int) < (128 : Int)) : Bool)) = (false),
 ((lbody Tryd.prog (9 : FuncId) (5 : Nat) : Go.Code)) = (lbody Tryd.prog (9 : FuncId) (5 : Nat)),
 ((br1S a b (↑c.toNat : Int) (0 : Nat) : Go.Proofs.YtfaffnemfndkfaaDoor.St)) = (br1S a b (↑c.toNat : Int) (0 : Nat))]) := by kernel_rfl

theorem broken1_all (a b : List UInt8) (c : UInt8)  : ∃ (h : Hints) (p : List Prop), lawOut (aBody Tryd.prog clU h (lpBy (brL1 a b (c.toNat : Nat))) 60 9 ([.fs 1 a.length (byts a), .c (.int .u8 (c.toNat : Nat)), .fs 1 b.length (byts b)]) ([])) = some (.c (.bool true), p) ∧ allP p := by
  cases hc15 : (decide ((↑a.length : Int) > (200 : Int)) : Bool) with
  | true =>
    have eR := broken1_1 a b c
    refine ⟨_, _, eR.trans (congrArg (fun r => some (r, _)) ?_), ?_⟩
    · rfl
    · clear eR
      simp only [allP, *, and_true, true_and]
      try rfl
  | false =>
    cases hc19 : (decide ((↑b.length : Int) > (200 : Int)) : Bool) with
    | true =>
      have eR := broken1_2 a b c
      refine ⟨_, _, eR.trans (congrArg (fun r => some (r, _)) ?_), ?_⟩
      · rfl
      · clear eR
        simp only [allP, *, and_true, true_and]
        try rfl
    | false =>
      cases hc23 : (decide ((↑c.toNat : Int) < (128 : Int)) : Bool) with
      | true =>
        have eR := broken1_3 a b c
        refine ⟨_, _, eR.trans (congrArg (fun r => some (r, _)) ?_), ?_⟩
        · rfl
        · clear eR
          simp only [allP, *, and_true, true_and]
          try rfl
      | false =>
        have eR := broken1_4 a b c
        refine ⟨_, _, eR.trans (congrArg (fun r => some (r, _)) ?_), ?_⟩
        · rfl
        · clear eR
          simp only [allP, *, and_true, true_and]
          try rfl


theorem broken2_1 (a b : List UInt8) (c : UInt8) : lawOut (aBody Tryd.prog clU ⟨true, bs [(15, true)] ++ (bs [(76, true), (87, true), (93, true)])⟩ (lpBy (brL2 a b (c.toNat : Nat))) 60 9 ([.fs 1 a.length (byts a), .c (.int .u8 (c.toNat : Nat)), .fs 1 b.length (byts b)]) ([])) = some ((AV.c ((Value.bool true))), [((decide ((↑a.length : Int) > (200 : Int)) : Bool)) = (true)]) := by kernel_rfl

theorem broken2_2 (a b : List UInt8) (c : UInt8) : lawOut (aBody Tryd.prog clU ⟨true, bs [(15, false), (19, true)] ++ (bs [(76, true), (87, true), (93, true)])⟩ (lpBy (brL2 a b (c.toNat : Nat))) 60 9 ([.fs 1 a.length (byts a), .c (.int .u8 (c.toNat : Nat)), .fs 1 b.length (byts b)]) ([])) = some ((AV.c ((Value.bool true))), [((decide ((↑a.length : Int) > (200 : Int)) : Bool)) = (false),
 ((decide ((↑b.length : Int) > (200 : Int)) : Bool)) = (true)]) := by kernel_rfl

theorem broken2_3 (a b : List UInt8) (c : UInt8) : lawOut (aBody Tryd.prog clU ⟨true, bs [(15, false), (19, false), (23, true)] ++ (bs [(76, true), (87, true), (93, true)])⟩ (lpBy (brL2 a b (c.toNat : Nat))) 60 9 ([.fs 1 a.length (byts a), .c (.int .u8 (c.toNat : Nat)), .fs 1 b.length (byts b)]) ([])) = some ((AV.c ((Value.bool true))), [((decide ((↑a.length : Int) > (200 : Int)) : Bool)) = (false),
 ((decide ((↑b.length : Int) > (200 : Int)) : Bool)) = (false),
 ((decide ((↑c.toNat : Int) < (128 : Int)) : Bool)) = (true)]) := by kernel_rfl

theorem broken2_4 (a b : List UInt8) (c : UInt8) : lawOut (aBody Tryd.prog clU ⟨true, bs [(15, false), (19, false), (23, false)] ++ (bs [(76, true), (87, true), (93, true)])⟩ (lpBy (brL2 a b (c.toNat : Nat))) 60 9 ([.fs 1 a.length (byts a), .c (.int .u8 (c.toNat : Nat)), .fs 1 b.length (byts b)]) ([])) = some ((AV.c ((Value.bool true))), [((decide ((↑a.length : Int) > (200 : Int)) : Bool)) = (false),
 ((decide ((↑b.length : Int) > (200 : Int)) : Bool)) = (false),
 ((decide ((↑c.toNat : Int) < (128 : Int)) : Bool)) = (false),
 ((lbody Tryd.prog (9 : FuncId) (5 : Nat) : Go.Code)) = (lbody Tryd.prog (9 : FuncId) (5 : Nat)),
 ((br1S a b (↑c.toNat : Int) (0 : Nat) : Go.Proofs.YtfaffnemfndkfaaDoor.St)) = (br1S a b (↑c.toNat : Int) (0 : Nat)),
 ((lbody Tryd.prog (9 : FuncId) (10 : Nat) : Go.Code)) = (lbody Tryd.prog (9 : FuncId) (10 : Nat)),
 ((br2S a b (↑c.toNat : Int) (0 : Nat) : Go.Proofs.YtfaffnemfndkfaaDoor.St)) = (br2S a b (↑c.toNat : Int) (0 : Nat))]) := by kernel_rfl

theorem broken2_all (a b : List UInt8) (c : UInt8)  : ∃ (h : Hints) (p : List Prop), lawOut (aBody Tryd.prog clU h (lpBy (brL2 a b (c.toNat : Nat))) 60 9 ([.fs 1 a.length (byts a), .c (.int .u8 (c.toNat : Nat)), .fs 1 b.length (byts b)]) ([])) = some (.c (.bool true), p) ∧ allP p := by
  cases hc15 : (decide ((↑a.length : Int) > (200 : Int)) : Bool) with
  | true =>
    have eR := broken2_1 a b c
    refine ⟨_, _, eR.trans (congrArg (fun r => some (r, _)) ?_), ?_⟩
    · rfl
    · clear eR
      simp only [allP, *, and_true, true_and]
      try rfl
  | false =>
    cases hc19 : (decide ((↑b.length : Int) > (200 : Int)) : Bool) with
    | true =>
      have eR := broken2_2 a b c
      refine ⟨_, _, eR.trans (congrArg (fun r => some (r, _)) ?_), ?_⟩
      · rfl
      · clear eR
        simp only [allP, *, and_true, true_and]
        try rfl
    | false =>
      cases hc23 : (decide ((↑c.toNat : Int) < (128 : Int)) : Bool) with
      | true =>
        have eR := broken2_3 a b c
        refine ⟨_, _, eR.trans (congrArg (fun r => some (r, _)) ?_), ?_⟩
        · rfl
        · clear eR
          simp only [allP, *, and_true, true_and]
          try rfl
      | false =>
        have eR := broken2_4 a b c
        refine ⟨_, _, eR.trans (congrArg (fun r => some (r, _)) ?_), ?_⟩
        · rfl
        · clear eR
          simp only [allP, *, and_true, true_and]
          try rfl

theorem app0 (l : List UInt8) : List.take (0 + l.length) (List.take 0 [] ++ byts l) = byts l := by
  rw [Nat.zero_add, List.take_zero, List.nil_append, byts_tk]

theorem broken3_1 (a b : List UInt8) (c : UInt8) : lawOut (aBody Tryd.prog clU ⟨true, bs [(15, true)] ++ (bs [(76, true), (87, true), (93, true)] ++ [(57, ⟨.sl 4 0 (a ++ [c] ++ b).length, some (byts (a ++ [c] ++ b))⟩), (65, ⟨.sl 9 0 (a ++ [128, c] ++ b).length, some (byts (a ++ [128, c] ++ b))⟩)])⟩ (lpBy (brL3 a b (c.toNat : Nat))) 60 9 ([.fs 1 a.length (byts a), .c (.int .u8 (c.toNat : Nat)), .fs 1 b.length (byts b)]) ([])) = some ((AV.c ((Value.bool true))), [((decide ((↑a.length : Int) > (200 : Int)) : Bool)) = (true)]) := by kernel_rfl

theorem broken3_2 (a b : List UInt8) (c : UInt8) : lawOut (aBody Tryd.prog clU ⟨true, bs [(15, false), (19, true)] ++ (bs [(76, true), (87, true), (93, true)] ++ [(57, ⟨.sl 4 0 (a ++ [c] ++ b).length, some (byts (a ++ [c] ++ b))⟩), (65, ⟨.sl 9 0 (a ++ [128, c] ++ b).length, some (byts (a ++ [128, c] ++ b))⟩)])⟩ (lpBy (brL3 a b (c.toNat : Nat))) 60 9 ([.fs 1 a.length (byts a), .c (.int .u8 (c.toNat : Nat)), .fs 1 b.length (byts b)]) ([])) = some ((AV.c ((Value.bool true))), [((decide ((↑a.length : Int) > (200 : Int)) : Bool)) = (false),
 ((decide ((↑b.length : Int) > (200 : Int)) : Bool)) = (true)]) := by kernel_rfl

theorem broken3_3 (a b : List UInt8) (c : UInt8) : lawOut (aBody Tryd.prog clU ⟨true, bs [(15, false), (19, false), (23, true)] ++ (bs [(76, true), (87, true), (93, true)] ++ [(57, ⟨.sl 4 0 (a ++ [c] ++ b).length, some (byts (a ++ [c] ++ b))⟩), (65, ⟨.sl 9 0 (a ++ [128, c] ++ b).length, some (byts (a ++ [128, c] ++ b))⟩)])⟩ (lpBy (brL3 a b (c.toNat : Nat))) 60 9 ([.fs 1 a.length (byts a), .c (.int .u8 (c.toNat : Nat)), .fs 1 b.length (byts b)]) ([])) = some ((AV.c ((Value.bool true))), [((decide ((↑a.length : Int) > (200 : Int)) : Bool)) = (false),
 ((decide ((↑b.length : Int) > (200 : Int)) : Bool)) = (false),
 ((decide ((↑c.toNat : Int) < (128 : Int)) : Bool)) = (true)]) := by kernel_rfl

theorem broken3_4 (a b : List UInt8) (c : UInt8) : lawOut (aBody Tryd.prog clU ⟨true, bs [(15, false), (19, false), (23, false)] ++ (bs [(76, true), (87, true), (93, true)] ++ [(57, ⟨.sl 4 0 (a ++ [c] ++ b).length, some (byts (a ++ [c] ++ b))⟩), (65, ⟨.sl 9 0 (a ++ [128, c] ++ b).length, some (byts (a ++ [128, c] ++ b))⟩)])⟩ (lpBy (brL3 a b (c.toNat : Nat))) 60 9 ([.fs 1 a.length (byts a), .c (.int .u8 (c.toNat : Nat)), .fs 1 b.length (byts b)]) ([])) = some ((AV.c ((Value.bool true))), [((decide ((↑a.length : Int) > (200 : Int)) : Bool)) = (false),
 ((decide ((↑b.length : Int) > (200 : Int)) : Bool)) = (false),
 ((decide ((↑c.toNat : Int) < (128 : Int)) : Bool)) = (false),
 ((lbody Tryd.prog (9 : FuncId) (5 : Nat) : Go.Code)) = (lbody Tryd.prog (9 : FuncId) (5 : Nat)),
 ((br1S a b (↑c.toNat : Int) (0 : Nat) : Go.Proofs.YtfaffnemfndkfaaDoor.St)) = (br1S a b (↑c.toNat : Int) (0 : Nat)),
 ((lbody Tryd.prog (9 : FuncId) (10 : Nat) : Go.Code)) = (lbody Tryd.prog (9 : FuncId) (10 : Nat)),
 ((br2S a b (↑c.toNat : Int) (0 : Nat) : Go.Proofs.YtfaffnemfndkfaaDoor.St)) = (br2S a b (↑c.toNat : Int) (0 : Nat)),
 (((byts a).length : Nat)) = (a.length),
 ((((0 : Nat) + a.length) * (1 : Nat) : Nat) ≤ ((140737488355328 : Nat))),
 (((0 : Nat) + a.length : Nat) ≤ ((4611686018427387904 : Nat))),
 (((0 : Nat) : Nat) ≤ ((0 : Nat))),
 (((1 : Nat) : Nat) ≤ ((1 : Nat))),
 ((((0 : Nat) + a.length + (1 : Nat)) * (1 : Nat) : Nat) ≤ ((140737488355328 : Nat))),
 (((0 : Nat) + a.length + (1 : Nat) : Nat) ≤ ((4611686018427387904 : Nat))),
 (((0 : Nat) + a.length : Nat) ≤ ((List.take (0 : Nat) [] ++ byts a).length)),
 (((byts b).length : Nat)) = (b.length),
 ((((0 : Nat) + a.length + (1 : Nat) + b.length) * (1 : Nat) : Nat) ≤ ((140737488355328 : Nat))),
 (((0 : Nat) + a.length + (1 : Nat) + b.length : Nat) ≤ ((4611686018427387904 : Nat))),
 (((0 : Nat) + a.length + (1 : Nat) : Nat) ≤ ((List.take ((0 : Nat) + a.length) (List.take (0 : Nat) [] ++ byts a) ++
    List.take (1 : Nat) (List.drop (0 : Nat) ([AV.c (Value.int IntKind.u8 (↑c.toNat : Int))] ++ []))).length)),
 avEq ((AV.sl 4 0 ((0 : Nat) + a.length + (1 : Nat) + b.length))) ((AV.sl 4 0 ((a ++ [c] ++ b).length))),
 ((List.take ((0 : Nat) + a.length + (1 : Nat))
    (List.take ((0 : Nat) + a.length) (List.take (0 : Nat) [] ++ byts a) ++
      List.take (1 : Nat) (List.drop (0 : Nat) ([AV.c (Value.int IntKind.u8 (↑c.toNat : Int))] ++ []))) ++
  byts b : List AV)) = (byts (a ++ [c] ++ b)),
 (((byts a).length : Nat)) = (a.length),
 ((((0 : Nat) + a.length) * (1 : Nat) : Nat) ≤ ((140737488355328 : Nat))),
 (((0 : Nat) + a.length : Nat) ≤ ((4611686018427387904 : Nat))),
 (((0 : Nat) : Nat) ≤ ((0 : Nat))),
 (((2 : Nat) : Nat) ≤ ((2 : Nat))),
 ((((0 : Nat) + a.length + (2 : Nat)) * (1 : Nat) : Nat) ≤ ((140737488355328 : Nat))),
 (((0 : Nat) + a.length + (2 : Nat) : Nat) ≤ ((4611686018427387904 : Nat))),
 (((0 : Nat) + a.length : Nat) ≤ ((List.take (0 : Nat) [] ++ byts a).length)),
 (((byts b).length : Nat)) = (b.length),
 ((((0 : Nat) + a.length + (2 : Nat) + b.length) * (1 : Nat) : Nat) ≤ ((140737488355328 : Nat))),
 (((0 : Nat) + a.length + (2 : Nat) + b.length : Nat) ≤ ((4611686018427387904 : Nat))),
 (((0 : Nat) + a.length + (2 : Nat) : Nat) ≤ ((List.take ((0 : Nat) + a.length) (List.take (0 : Nat) [] ++ byts a) ++
    List.take (2 : Nat)
      (List.drop (0 : Nat)
        ([AV.c (Value.int IntKind.u8 (128 : Int))] ++ ([AV.c (Value.int IntKind.u8 (↑c.toNat : Int))] ++ [])))).length)),
 avEq ((AV.sl 9 0 ((0 : Nat) + a.length + (2 : Nat) + b.length))) ((AV.sl 9 0 ((a ++ [(128 : UInt8), c] ++ b).length))),
 ((List.take ((0 : Nat) + a.length + (2 : Nat))
    (List.take ((0 : Nat) + a.length) (List.take (0 : Nat) [] ++ byts a) ++
      List.take (2 : Nat)
        (List.drop (0 : Nat)
          ([AV.c (Value.int IntKind.u8 (128 : Int))] ++ ([AV.c (Value.int IntKind.u8 (↑c.toNat : Int))] ++ [])))) ++
  byts b : List AV)) = (byts (a ++ [(128 : UInt8), c] ++ b)),
 ((Tryd.prog.cellsOf (5 : Nat) : Nat)) = ((1 : Nat)),
 ((List.take (a ++ [c] ++ b).length (List.drop (0 : Nat) (byts (a ++ [c] ++ b))) : List AV)) = (byts (unbyts (List.take (a ++ [c] ++ b).length (List.drop (0 : Nat) (byts (a ++ [c] ++ b)))))),
 (((a ++ [c] ++ b).length : Nat)) = ((unbyts (List.take (a ++ [c] ++ b).length (List.drop (0 : Nat) (byts (a ++ [c] ++ b))))).length),
 (((a ++ [c] ++ b).length : Nat) ≤ ((1000000000 : Nat))),
 (((byts a).length : Nat)) = (a.length),
 bytesOK (byts a),
 (((unbyts (byts a)).length + (3 : Nat) : Nat) ≤ ((9223372036854775807 : Nat))),
 (((byts b).length : Nat)) = (b.length),
 bytesOK (byts b),
 (((unbyts (byts a) ++ [(239 : UInt8), (191 : UInt8), (189 : UInt8)]).length + (unbyts (byts b)).length : Nat) ≤ ((9223372036854775807 : Nat))),
 ((decF (unbyts (List.take (a ++ [c] ++ b).length (List.drop (0 : Nat) (byts (a ++ [c] ++ b))))) ==
  unbyts (byts a) ++ [(239 : UInt8), (191 : UInt8), (189 : UInt8)] ++ unbyts (byts b) : Bool)) = (true),
 ((Tryd.prog.cellsOf (5 : Nat) : Nat)) = ((1 : Nat)),
 ((List.take (a ++ [(128 : UInt8), c] ++ b).length (List.drop (0 : Nat) (byts (a ++ [(128 : UInt8), c] ++ b))) : List AV)) = (byts
  (unbyts (List.take (a ++ [(128 : UInt8), c] ++ b).length (List.drop (0 : Nat) (byts (a ++ [(128 : UInt8), c] ++ b)))))),
 (((a ++ [(128 : UInt8), c] ++ b).length : Nat)) = ((unbyts
    (List.take (a ++ [(128 : UInt8), c] ++ b).length
      (List.drop (0 : Nat) (byts (a ++ [(128 : UInt8), c] ++ b))))).length),
 (((a ++ [(128 : UInt8), c] ++ b).length : Nat) ≤ ((1000000000 : Nat))),
 (((byts a).length : Nat)) = (a.length),
 bytesOK (byts a),
 (((unbyts (byts a)).length + (6 : Nat) : Nat) ≤ ((9223372036854775807 : Nat))),
 (((byts b).length : Nat)) = (b.length),
 bytesOK (byts b),
 (((unbyts (byts a) ++ [(239 : UInt8), (191 : UInt8), (189 : UInt8), (239 : UInt8), (191 : UInt8), (189 : UInt8)]).length +
  (unbyts (byts b)).length : Nat) ≤ ((9223372036854775807 : Nat))),
 ((decF
    (unbyts
      (List.take (a ++ [(128 : UInt8), c] ++ b).length (List.drop (0 : Nat) (byts (a ++ [(128 : UInt8), c] ++ b))))) ==
  unbyts (byts a) ++ [(239 : UInt8), (191 : UInt8), (189 : UInt8), (239 : UInt8), (191 : UInt8), (189 : UInt8)] ++
    unbyts (byts b) : Bool)) = (true),
 (((a ++ [c] ++ b).length + (0 : Nat) : Nat) ≤ ((byts (a ++ [c] ++ b)).length)),
 bytesOK (List.take (a ++ [c] ++ b).length (List.drop (0 : Nat) (byts (a ++ [c] ++ b)))),
 (((unbyts (List.take (a ++ [c] ++ b).length (List.drop (0 : Nat) (byts (a ++ [c] ++ b))))).length : Nat) ≤ ((1000000000 : Nat))),
 ((!Lib.validD (unbyts (List.take (a ++ [c] ++ b).length (List.drop (0 : Nat) (byts (a ++ [c] ++ b))))) : Bool)) = (true)]) := by kernel_rfl

theorem broken3_all (a b : List UInt8) (c : UInt8) (ha : ∀ x ∈ a, x.toNat < 128) (hb : ∀ x ∈ b, x.toNat < 128) : ∃ (h : Hints) (p : List Prop), lawOut (aBody Tryd.prog clU h (lpBy (brL3 a b (c.toNat : Nat))) 60 9 ([.fs 1 a.length (byts a), .c (.int .u8 (c.toNat : Nat)), .fs 1 b.length (byts b)]) ([])) = some (.c (.bool true), p) ∧ allP p := by
  cases hc15 : (decide ((↑a.length : Int) > (200 : Int)) : Bool) with
  | true =>
    have eR := broken3_1 a b c
    refine ⟨_, _, eR.trans (congrArg (fun r => some (r, _)) ?_), ?_⟩
    · rfl
    · clear eR
      simp only [decide_eq_true_eq, decide_eq_false_iff_not] at *
      simp only [allP, and_true, true_and]
      repeat' apply And.intro
      all_goals first | assumption | rfl
  | false =>
    cases hc19 : (decide ((↑b.length : Int) > (200 : Int)) : Bool) with
    | true =>
      have eR := broken3_2 a b c
      refine ⟨_, _, eR.trans (congrArg (fun r => some (r, _)) ?_), ?_⟩
      · rfl
      · clear eR
        simp only [decide_eq_true_eq, decide_eq_false_iff_not] at *
        simp only [allP, and_true, true_and]
        repeat' apply And.intro
        all_goals first | assumption | rfl
    | false =>
      cases hc23 : (decide ((↑c.toNat : Int) < (128 : Int)) : Bool) with
      | true =>
        have eR := broken3_3 a b c
        refine ⟨_, _, eR.trans (congrArg (fun r => some (r, _)) ?_), ?_⟩
        · rfl
        · clear eR
          simp only [decide_eq_true_eq, decide_eq_false_iff_not] at *
          simp only [allP, and_true, true_and]
          repeat' apply And.intro
          all_goals first | assumption | rfl
      | false =>
        have eR := broken3_4 a b c
        refine ⟨_, _, eR, ?_⟩
        clear eR
        simp only [decide_eq_true_eq, decide_eq_false_iff_not] at *
        obtain ⟨k1, k2⟩ := broken_fix (c := c) ha hb (by omega)
        have k3 := valid_eq (a ++ [c] ++ b)
        have q1 : List.take (0 + a.length + 1) (byts a ++ List.take 1 (List.drop 0 ([AV.c (Value.int IntKind.u8 ((c.toNat : Nat) : Int))] ++ []))) ++ byts b = byts (a ++ [c] ++ b) := by
          rw [List.take_of_length_le (by simp [byts])]; simp [byts, byteC]
        have q2 : List.take (0 + a.length + 2) (byts a ++ List.take 2 (List.drop 0 ([AV.c (Value.int IntKind.u8 128)] ++ ([AV.c (Value.int IntKind.u8 ((c.toNat : Nat) : Int))] ++ [])))) ++ byts b = byts (a ++ [128, c] ++ b) := by
          rw [List.take_of_length_le (by simp [byts])]; simp [byts, byteC]
        have hl1 : (a ++ [c] ++ b).length = a.length + 1 + b.length := by simp only [List.length_append, List.length_cons, List.length_nil]
        have hl2 : (a ++ [128, c] ++ b).length = a.length + 2 + b.length := by simp only [List.length_append, List.length_cons, List.length_nil]
        have k4 : fixF (a ++ [c] ++ b) ≠ a ++ [c] ++ b := by
          rw [k1]
          intro e
          have := congrArg List.length e
          simp only [List.length_append, List.length_cons, List.length_nil] at this
          omega
        rw [decide_eq_false k4] at k3
        simp only [allP, app0, q1, q2, decF_eq, byts_all, byts_tk, byts_length, unbyts_byts, k1, k2, k3, and_true, true_and, i64_min, i64_max]
        repeat' apply And.intro
        all_goals first | omega | exact bytesOK_byts _ | exact sl_eq (by omega) | rfl | (simp only [List.length_append, List.length_cons, List.length_nil, byts_length, List.take_zero, List.nil_append]; omega) | (simp [byts_length] <;> omega)

end Go.Proofs.YtfaffnemfndkfaaDoor
