/- The laws of signs that were laid, and of the parts of a text. -/
import Derived.Test.YtfaffnemfndkfaaDoorTextM
namespace Go.Proofs.YtfaffnemfndkfaaDoor
open Go.RowKit U8
set_option linter.unusedVariables false
set_option linter.unusedSimpArgs false

def sgL (L : List Int) : List Nat := L.map sgn
theorem sgn_good (c : Int) : okC (sgn c) := by
  unfold sgn okC
  split <;> omega
theorem sgL_good (L : List Int) : ∀ c ∈ sgL L, okC c := by
  intro c hc
  obtain ⟨x, _, rfl⟩ := List.mem_map.1 hc
  exact sgn_good x
theorem int_next (L : List Int) (i : Nat) (h : i < L.length) : L.take (i + 1) = L.take i ++ [L.getD i 0] := take_succ_getD L i 0 h
theorem sgL_app (a b : List Int) : sgL (a ++ b) = sgL a ++ sgL b := by simp [sgL]
theorem join_len : ∀ cs : List Nat, (join cs).length ≤ 4 * cs.length
  | [] => by simp [join]
  | c :: r => by
    have := (U8.enc_len c).2
    have := join_len r
    rw [join_cons, List.length_append, List.length_cons]
    omega
theorem byts_put (out x : List UInt8) : (byts out).take out.length ++ byts x = byts (out ++ x) := by
  rw [byts_tk, byts_append]
theorem ints_put (out : List Int) (x : Int) : (ints out).take out.length ++ [AV.c (Value.int IntKind.i64 x)] = ints (out ++ [x]) := by
  rw [List.take_of_length_le (by rw [ints_length]; exact Nat.le_refl _)]
  simp [ints]

theorem ints_all (l : List Int) (n : Nat) (h : n = l.length) : List.take n (List.drop 0 (ints l)) = ints l := by
  rw [List.drop_zero, List.take_of_length_le (by rw [ints_length]; omega)]
theorem unints_ints (l : List Int) : unints (ints l) = l := by
  induction l with
  | nil => rfl
  | cons x r ih =>
    simp only [unints, ints, List.map_cons] at ih ⊢
    rw [ih]

def bkG (L : List Int) (i n4 : Nat) (L4 : List AV) (n5 : Nat) (L5 : List AV) : St := ⟨frame 65 [(0, .fs 1 L.length (ints L)), (3, .c (.bool true)), (4, .sl 0 0 n4), (5, .sl 1 0 n5), (6, .c (.int .i64 i))], [some ⟨5, false, L4⟩, some ⟨3, false, L5⟩]⟩

theorem bkr_1 (L : List Int) (i : Nat) (out : List UInt8) (W : List Int) (c : Int) : roundOut (⟨[], [0, 3, 4, 5, 6], [2, 4]⟩) (aCode Tryd.prog clU ⟨true, bs [(17, true), (29, true)] ++ ([(23, ⟨.c (.int .i64 c), none⟩)])⟩ (lpBy ([])) 60 (lbody Tryd.prog 5 7) (bkG L i out.length (byts out) W.length (ints W))) = some (.normal, bkG L (i + 1) (out.length + (encN (sgn c)).length) (List.take out.length (byts out) ++ byts (encN (sgn c))) (W.length + 1) (List.take W.length (ints W) ++ [.c (.int .i64 65533)]), [((decide ((↑i : Int) < (↑L.length : Int)) : Bool)) = (true),
 (((0 : Int) : Int) ≤ ((↑i : Int))),
 (((↑i : Int) : Int) < ((↑L.length : Int))),
 (((0 : Nat) : Nat) < ((List.drop i (ints L)).length)),
 avEq ((List.drop i (ints L)).headD AV.any) ((AV.c ((Value.int .i64 c)))),
 (((-9223372036854775808 : Int) : Int) ≤ (c)),
 ((c : Int) ≤ ((9223372036854775807 : Int))),
 (((out.length + (encN (sgn c)).length) * (1 : Nat) : Nat) ≤ ((140737488355328 : Nat))),
 ((out.length + (encN (sgn c)).length : Nat) ≤ ((4611686018427387904 : Nat))),
 ((out.length : Nat) ≤ ((byts out).length)),
 ((decide (c < (0 : Int)) : Bool)) = (true),
 (((1 : Nat) : Nat) ≤ ((1 : Nat))),
 (((W.length + (1 : Nat)) * (8 : Nat) : Nat) ≤ ((140737488355328 : Nat))),
 ((W.length + (1 : Nat) : Nat) ≤ ((4611686018427387904 : Nat))),
 ((W.length : Nat) ≤ ((ints W).length)),
 ((IntKind.i64.min : Int) ≤ ((↑i : Int) + (1 : Int))),
 (((↑i : Int) + (1 : Int) : Int) ≤ (IntKind.i64.max))]) := by kernel_rfl

theorem bkr_2 (L : List Int) (i : Nat) (out : List UInt8) (W : List Int) (c : Int) : roundOut (⟨[], [0, 3, 4, 5, 6], [2, 4]⟩) (aCode Tryd.prog clU ⟨true, bs [(17, true), (29, false), (32, true)] ++ ([(23, ⟨.c (.int .i64 c), none⟩)])⟩ (lpBy ([])) 60 (lbody Tryd.prog 5 7) (bkG L i out.length (byts out) W.length (ints W))) = some (.normal, bkG L (i + 1) (out.length + (encN (sgn c)).length) (List.take out.length (byts out) ++ byts (encN (sgn c))) (W.length + 1) (List.take W.length (ints W) ++ [.c (.int .i64 65533)]), [((decide ((↑i : Int) < (↑L.length : Int)) : Bool)) = (true),
 (((0 : Int) : Int) ≤ ((↑i : Int))),
 (((↑i : Int) : Int) < ((↑L.length : Int))),
 (((0 : Nat) : Nat) < ((List.drop i (ints L)).length)),
 avEq ((List.drop i (ints L)).headD AV.any) ((AV.c ((Value.int .i64 c)))),
 (((-9223372036854775808 : Int) : Int) ≤ (c)),
 ((c : Int) ≤ ((9223372036854775807 : Int))),
 (((out.length + (encN (sgn c)).length) * (1 : Nat) : Nat) ≤ ((140737488355328 : Nat))),
 ((out.length + (encN (sgn c)).length : Nat) ≤ ((4611686018427387904 : Nat))),
 ((out.length : Nat) ≤ ((byts out).length)),
 ((decide (c < (0 : Int)) : Bool)) = (false),
 ((decide (c > (1114111 : Int)) : Bool)) = (true),
 (((1 : Nat) : Nat) ≤ ((1 : Nat))),
 (((W.length + (1 : Nat)) * (8 : Nat) : Nat) ≤ ((140737488355328 : Nat))),
 ((W.length + (1 : Nat) : Nat) ≤ ((4611686018427387904 : Nat))),
 ((W.length : Nat) ≤ ((ints W).length)),
 ((IntKind.i64.min : Int) ≤ ((↑i : Int) + (1 : Int))),
 (((↑i : Int) + (1 : Int) : Int) ≤ (IntKind.i64.max))]) := by kernel_rfl

theorem bkr_3 (L : List Int) (i : Nat) (out : List UInt8) (W : List Int) (c : Int) : roundOut (⟨[], [0, 3, 4, 5, 6], [2, 4]⟩) (aCode Tryd.prog clU ⟨true, bs [(17, true), (29, false), (32, false), (36, true), (39, true)] ++ ([(23, ⟨.c (.int .i64 c), none⟩)])⟩ (lpBy ([])) 60 (lbody Tryd.prog 5 7) (bkG L i out.length (byts out) W.length (ints W))) = some (.normal, bkG L (i + 1) (out.length + (encN (sgn c)).length) (List.take out.length (byts out) ++ byts (encN (sgn c))) (W.length + 1) (List.take W.length (ints W) ++ [.c (.int .i64 65533)]), [((decide ((↑i : Int) < (↑L.length : Int)) : Bool)) = (true),
 (((0 : Int) : Int) ≤ ((↑i : Int))),
 (((↑i : Int) : Int) < ((↑L.length : Int))),
 (((0 : Nat) : Nat) < ((List.drop i (ints L)).length)),
 avEq ((List.drop i (ints L)).headD AV.any) ((AV.c ((Value.int .i64 c)))),
 (((-9223372036854775808 : Int) : Int) ≤ (c)),
 ((c : Int) ≤ ((9223372036854775807 : Int))),
 (((out.length + (encN (sgn c)).length) * (1 : Nat) : Nat) ≤ ((140737488355328 : Nat))),
 ((out.length + (encN (sgn c)).length : Nat) ≤ ((4611686018427387904 : Nat))),
 ((out.length : Nat) ≤ ((byts out).length)),
 ((decide (c < (0 : Int)) : Bool)) = (false),
 ((decide (c > (1114111 : Int)) : Bool)) = (false),
 ((decide (c ≥ (55296 : Int)) : Bool)) = (true),
 ((decide (c ≤ (57343 : Int)) : Bool)) = (true),
 (((1 : Nat) : Nat) ≤ ((1 : Nat))),
 (((W.length + (1 : Nat)) * (8 : Nat) : Nat) ≤ ((140737488355328 : Nat))),
 ((W.length + (1 : Nat) : Nat) ≤ ((4611686018427387904 : Nat))),
 ((W.length : Nat) ≤ ((ints W).length)),
 ((IntKind.i64.min : Int) ≤ ((↑i : Int) + (1 : Int))),
 (((↑i : Int) + (1 : Int) : Int) ≤ (IntKind.i64.max))]) := by kernel_rfl

theorem bkr_4 (L : List Int) (i : Nat) (out : List UInt8) (W : List Int) (c : Int) : roundOut (⟨[], [0, 3, 4, 5, 6], [2, 4]⟩) (aCode Tryd.prog clU ⟨true, bs [(17, true), (29, false), (32, false), (36, true), (39, false)] ++ ([(23, ⟨.c (.int .i64 c), none⟩)])⟩ (lpBy ([])) 60 (lbody Tryd.prog 5 7) (bkG L i out.length (byts out) W.length (ints W))) = some (.normal, bkG L (i + 1) (out.length + (encN (sgn c)).length) (List.take out.length (byts out) ++ byts (encN (sgn c))) (W.length + 1) (List.take W.length (ints W) ++ [.c (.int .i64 c)]), [((decide ((↑i : Int) < (↑L.length : Int)) : Bool)) = (true),
 (((0 : Int) : Int) ≤ ((↑i : Int))),
 (((↑i : Int) : Int) < ((↑L.length : Int))),
 (((0 : Nat) : Nat) < ((List.drop i (ints L)).length)),
 avEq ((List.drop i (ints L)).headD AV.any) ((AV.c ((Value.int .i64 c)))),
 (((-9223372036854775808 : Int) : Int) ≤ (c)),
 ((c : Int) ≤ ((9223372036854775807 : Int))),
 (((out.length + (encN (sgn c)).length) * (1 : Nat) : Nat) ≤ ((140737488355328 : Nat))),
 ((out.length + (encN (sgn c)).length : Nat) ≤ ((4611686018427387904 : Nat))),
 ((out.length : Nat) ≤ ((byts out).length)),
 ((decide (c < (0 : Int)) : Bool)) = (false),
 ((decide (c > (1114111 : Int)) : Bool)) = (false),
 ((decide (c ≥ (55296 : Int)) : Bool)) = (true),
 ((decide (c ≤ (57343 : Int)) : Bool)) = (false),
 (((1 : Nat) : Nat) ≤ ((1 : Nat))),
 (((W.length + (1 : Nat)) * (8 : Nat) : Nat) ≤ ((140737488355328 : Nat))),
 ((W.length + (1 : Nat) : Nat) ≤ ((4611686018427387904 : Nat))),
 ((W.length : Nat) ≤ ((ints W).length)),
 ((IntKind.i64.min : Int) ≤ ((↑i : Int) + (1 : Int))),
 (((↑i : Int) + (1 : Int) : Int) ≤ (IntKind.i64.max))]) := by kernel_rfl

theorem bkr_5 (L : List Int) (i : Nat) (out : List UInt8) (W : List Int) (c : Int) : roundOut (⟨[], [0, 3, 4, 5, 6], [2, 4]⟩) (aCode Tryd.prog clU ⟨true, bs [(17, true), (29, false), (32, false), (36, false)] ++ ([(23, ⟨.c (.int .i64 c), none⟩)])⟩ (lpBy ([])) 60 (lbody Tryd.prog 5 7) (bkG L i out.length (byts out) W.length (ints W))) = some (.normal, bkG L (i + 1) (out.length + (encN (sgn c)).length) (List.take out.length (byts out) ++ byts (encN (sgn c))) (W.length + 1) (List.take W.length (ints W) ++ [.c (.int .i64 c)]), [((decide ((↑i : Int) < (↑L.length : Int)) : Bool)) = (true),
 (((0 : Int) : Int) ≤ ((↑i : Int))),
 (((↑i : Int) : Int) < ((↑L.length : Int))),
 (((0 : Nat) : Nat) < ((List.drop i (ints L)).length)),
 avEq ((List.drop i (ints L)).headD AV.any) ((AV.c ((Value.int .i64 c)))),
 (((-9223372036854775808 : Int) : Int) ≤ (c)),
 ((c : Int) ≤ ((9223372036854775807 : Int))),
 (((out.length + (encN (sgn c)).length) * (1 : Nat) : Nat) ≤ ((140737488355328 : Nat))),
 ((out.length + (encN (sgn c)).length : Nat) ≤ ((4611686018427387904 : Nat))),
 ((out.length : Nat) ≤ ((byts out).length)),
 ((decide (c < (0 : Int)) : Bool)) = (false),
 ((decide (c > (1114111 : Int)) : Bool)) = (false),
 ((decide (c ≥ (55296 : Int)) : Bool)) = (false),
 (((1 : Nat) : Nat) ≤ ((1 : Nat))),
 (((W.length + (1 : Nat)) * (8 : Nat) : Nat) ≤ ((140737488355328 : Nat))),
 ((W.length + (1 : Nat) : Nat) ≤ ((4611686018427387904 : Nat))),
 ((W.length : Nat) ≤ ((ints W).length)),
 ((IntKind.i64.min : Int) ≤ ((↑i : Int) + (1 : Int))),
 (((↑i : Int) + (1 : Int) : Int) ≤ (IntKind.i64.max))]) := by kernel_rfl

theorem bkr_6 (L : List Int) (i : Nat) (out : List UInt8) (W : List Int) (c : Int) : roundOut (⟨[], [0, 3, 4, 5, 6], [0, 1]⟩) (aCode Tryd.prog clU ⟨true, bs [(17, false)] ++ ([(23, ⟨.c (.int .i64 c), none⟩)])⟩ (lpBy ([])) 60 (lbody Tryd.prog 5 7) (bkG L i out.length (byts out) W.length (ints W))) = some (.exit 0, bkG L i out.length (byts out) W.length (ints W), [((decide ((↑i : Int) < (↑L.length : Int)) : Bool)) = (false)]) := by kernel_rfl

theorem natI_app (a b : List Nat) : natI (a ++ b) = natI a ++ natI b := by simp [natI]
theorem natI_len (a : List Nat) : (natI a).length = a.length := by simp [natI]

def bkS (L : List Int) (i : Nat) : St := bkG L i (join (sgL (L.take i))).length (byts (join (sgL (L.take i)))) (natI (sgL (L.take i))).length (ints (natI (sgL (L.take i))))

theorem bk_loop (L : List Int) (hl : L.length ≤ 1000000) (hL : ∀ n ∈ L, -9223372036854775808 ≤ n ∧ n ≤ 9223372036854775807) : Tri Ext0 Tryd.prog (.loop (lbody Tryd.prog 5 7)) (bkS L 0) (.exit 0) (bkS L L.length) := by
  refine loop_up mixed clU_ok (bkS L) L.length (by simp) ?_ ?_ 0 (Nat.zero_le _)
  · intro i hi
    have h1 := join_len (sgL (L.take i))
    have h2 : (sgL (L.take i)).length = i := by simp [sgL]; omega
    have h3 := natI_len (sgL (L.take i))
    have h4 := (U8.enc_len (sgn (L.getD i 0)))
    have h5 := ints_headD L i hi
    have hc := hL (L.getD i 0) (by simp [List.getD, hi])
    have h6 : sgL (L.take (i + 1)) = sgL (L.take i) ++ [sgn (L.getD i 0)] := by rw [int_next L i hi, sgL_app]; rfl
    have h7 : join (sgL (L.take (i + 1))) = join (sgL (L.take i)) ++ encN (sgn (L.getD i 0)) := by rw [h6, join_app, join_cons]; simp [join]
    have h8 : natI (sgL (L.take (i + 1))) = natI (sgL (L.take i)) ++ [((sgn (L.getD i 0) : Nat) : Int)] := by rw [h6, natI_app]; rfl
    unfold bkS
    rw [h7, h8]
    generalize join (sgL (L.take i)) = out at *
    generalize natI (sgL (L.take i)) = W at *
    rw [List.length_append, List.length_append, ← byts_put, ← ints_put]
    generalize L.getD i 0 = c at *
    have fin : ∀ {h : List (Nat × Hint)} {S' : St} {p : List Prop} (e : roundOut ⟨[], [0, 3, 4, 5, 6], [2, 4]⟩ (aCode Tryd.prog clU ⟨true, h⟩ (lpBy []) 60 (lbody Tryd.prog 5 7) (bkG L i out.length (byts out) W.length (ints W))) = some (.normal, S', p)), allP p → Round Ext0 Tryd.prog clU (lbody Tryd.prog 5 7) (bkG L i out.length (byts out) W.length (ints W)) .normal S' := fun e hp => ⟨_, _, _, _, _, lpBy_nil, by decide, e, hp⟩
    by_cases c1 : c < 0
    · have hs : sgn c = 65533 := sgn_bad (.inl c1)
      have hr := fin (bkr_1 L i out W c)
      rw [hs] at hr h4 ⊢
      refine hr ?_
      simp only [allP, h5, hs, avEq_refl, byts_length, ints_length, List.length_drop, and_true, true_and, decide_eq_true_eq, decide_eq_false_iff_not, i64_min, i64_max]
      repeat' apply And.intro
      all_goals first | omega | exact bytesOK_byts _ | rfl
    · by_cases c2 : c > 1114111
      · have hs : sgn c = 65533 := sgn_bad (.inr (.inl c2))
        have hr := fin (bkr_2 L i out W c)
        rw [hs] at hr h4 ⊢
        refine hr ?_
        simp only [allP, h5, hs, avEq_refl, byts_length, ints_length, List.length_drop, and_true, true_and, decide_eq_true_eq, decide_eq_false_iff_not, i64_min, i64_max]
        repeat' apply And.intro
        all_goals first | omega | exact bytesOK_byts _ | rfl
      · by_cases c3 : c ≥ 55296
        · by_cases c4 : c ≤ 57343
          · have hs : sgn c = 65533 := sgn_bad (.inr (.inr ⟨c3, c4⟩))
            have hr := fin (bkr_3 L i out W c)
            rw [hs] at hr h4 ⊢
            refine hr ?_
            simp only [allP, h5, hs, avEq_refl, byts_length, ints_length, List.length_drop, and_true, true_and, decide_eq_true_eq, decide_eq_false_iff_not, i64_min, i64_max]
            repeat' apply And.intro
            all_goals first | omega | exact bytesOK_byts _ | rfl
          · have hs : ((sgn c : Nat) : Int) = c := by rw [sgn_ok (by omega)]; omega
            have hr := fin (bkr_4 L i out W c)
            rw [hs]
            refine hr ?_
            simp only [allP, h5, avEq_refl, byts_length, ints_length, List.length_drop, and_true, true_and, decide_eq_true_eq, decide_eq_false_iff_not, i64_min, i64_max]
            repeat' apply And.intro
            all_goals first | omega | exact bytesOK_byts _ | rfl
        · have hs : ((sgn c : Nat) : Int) = c := by rw [sgn_ok (by omega)]; omega
          have hr := fin (bkr_5 L i out W c)
          rw [hs]
          refine hr ?_
          simp only [allP, h5, avEq_refl, byts_length, ints_length, List.length_drop, and_true, true_and, decide_eq_true_eq, decide_eq_false_iff_not, i64_min, i64_max]
          repeat' apply And.intro
          all_goals first | omega | exact bytesOK_byts _ | rfl
  · unfold bkS
    refine ⟨_, _, _, _, _, lpBy_nil, by decide, bkr_6 L L.length _ _ 0, ?_⟩
    simp [allP]

def bkFi : Fi := ⟨[(4, 5), (5, 3)], [0, 3, 4, 5, 6], [0, 1]⟩
noncomputable def bkLp (L : List Int) : List (Nat × Lp) := [(7, ⟨lbody Tryd.prog 5 7, bkFi, bkS L 0, .exit 0, bkS L L.length⟩)]
noncomputable def bkLp' (L : List Int) : List (Nat × Lp) := [(7, ⟨lbody Tryd.prog 5 7, bkFi, bkG L 0 0 [] 0 [], .exit 0, bkG L L.length (join (sgL L)).length (byts (join (sgL L))) (natI (sgL L)).length (ints (natI (sgL L)))⟩)]
theorem bkLp_eq (L : List Int) : bkLp L = bkLp' L := by
  unfold bkLp bkLp' bkS
  rw [List.take_length]
  rfl

theorem back_1 (L : List Int) : lawOut (aBody Tryd.prog clU ⟨true, bs [(12, true)] ++ (bs [(51, true), (57, true), (63, true)])⟩ (lpBy (bkLp' L)) 60 5 ([.fs 1 L.length (ints L)]) ([])) = some ((AV.c ((Value.bool true))), [((decide ((↑L.length : Int) > (200 : Int)) : Bool)) = (true)]) := by kernel_rfl

theorem back_2 (L : List Int) : lawOut (aBody Tryd.prog clU ⟨true, bs [(12, false)] ++ (bs [(51, true), (57, true), (63, true)])⟩ (lpBy (bkLp' L)) 60 5 ([.fs 1 L.length (ints L)]) ([])) = some ((AV.c ((Value.bool true))), [((decide ((↑L.length : Int) > (200 : Int)) : Bool)) = (false),
 ((lbody Tryd.prog (5 : FuncId) (7 : Nat) : Go.Code)) = (lbody Tryd.prog (5 : FuncId) (7 : Nat)),
 ((bkG L (0 : Nat) (0 : Nat) [] (0 : Nat) [] : Go.Proofs.YtfaffnemfndkfaaDoor.St)) = (bkG L (0 : Nat) (0 : Nat) [] (0 : Nat) []),
 (((join (sgL L)).length + (0 : Nat) : Nat) ≤ ((byts (join (sgL L))).length)),
 bytesOK (List.take (join (sgL L)).length (List.drop (0 : Nat) (byts (join (sgL L))))),
 (((unbyts (List.take (join (sgL L)).length (List.drop (0 : Nat) (byts (join (sgL L)))))).length : Nat) ≤ ((1000000000 : Nat))),
 ((Lib.validD (unbyts (List.take (join (sgL L)).length (List.drop (0 : Nat) (byts (join (sgL L)))))) : Bool)) = (true),
 ((Tryd.prog.cellsOf (5 : TypeId) : Nat)) = ((1 : Nat)),
 ((List.take (join (sgL L)).length (List.drop (0 : Nat) (byts (join (sgL L)))) : List AV)) = (byts (unbyts (List.take (join (sgL L)).length (List.drop (0 : Nat) (byts (join (sgL L))))))),
 (((join (sgL L)).length : Nat)) = ((unbyts (List.take (join (sgL L)).length (List.drop (0 : Nat) (byts (join (sgL L)))))).length),
 (((join (sgL L)).length : Nat) ≤ ((1000000000 : Nat))),
 ((flatV [] (AV.c (str (decF (unbyts (List.take (join (sgL L)).length (List.drop (0 : Nat) (byts (join (sgL L))))))))) : Bool)) = (true),
 ((decF (unbyts (List.take (join (sgL L)).length (List.drop (0 : Nat) (byts (join (sgL L)))))) ==
  unbyts (List.take (join (sgL L)).length (List.drop (0 : Nat) (byts (join (sgL L))))) : Bool)) = (true),
 (((unbyts (List.take (join (sgL L)).length (List.drop (0 : Nat) (byts (join (sgL L)))))).length : Nat) ≤ ((1000000000 : Nat))),
 ((Tryd.prog.cellsOf (3 : Nat) : Nat)) = ((1 : Nat)),
 ((Tryd.prog.cellsOf (3 : TypeId) : Nat)) = ((1 : Nat)),
 (((natI (sgL L)).length : Nat)) = ((sigF (decF (unbyts (List.take (join (sgL L)).length (List.drop (0 : Nat) (byts (join (sgL L)))))))).length),
 ((List.take (natI (sgL L)).length (List.drop (0 : Nat) (ints (natI (sgL L)))) : List AV)) = (List.take (sigF (decF (unbyts (List.take (join (sgL L)).length (List.drop (0 : Nat) (byts (join (sgL L)))))))).length
  (List.drop (0 : Nat)
    (ints (sigF (decF (unbyts (List.take (join (sgL L)).length (List.drop (0 : Nat) (byts (join (sgL L))))))))))),
 ((List.take (sigF (decF (unbyts (List.take (join (sgL L)).length (List.drop (0 : Nat) (byts (join (sgL L)))))))).length
  (List.drop (0 : Nat)
    (ints (sigF (decF (unbyts (List.take (join (sgL L)).length (List.drop (0 : Nat) (byts (join (sgL L)))))))))) : List AV)) = (ints
  (unints
    (List.take
      (sigF (decF (unbyts (List.take (join (sgL L)).length (List.drop (0 : Nat) (byts (join (sgL L)))))))).length
      (List.drop (0 : Nat)
        (ints (sigF (decF (unbyts (List.take (join (sgL L)).length (List.drop (0 : Nat) (byts (join (sgL L))))))))))))),
 (((sigF (decF (unbyts (List.take (join (sgL L)).length (List.drop (0 : Nat) (byts (join (sgL L)))))))).length : Nat)) = ((unints
    (List.take
      (sigF (decF (unbyts (List.take (join (sgL L)).length (List.drop (0 : Nat) (byts (join (sgL L)))))))).length
      (List.drop (0 : Nat)
        (ints
          (sigF
            (decF (unbyts (List.take (join (sgL L)).length (List.drop (0 : Nat) (byts (join (sgL L)))))))))))).length),
 (((sigF (decF (unbyts (List.take (join (sgL L)).length (List.drop (0 : Nat) (byts (join (sgL L)))))))).length : Nat) ≤ ((1000000000 : Nat))),
 ((flatV [] (AV.c (Value.bool true)) : Bool)) = (true),
 ((true : Bool)) = (true)]) := by kernel_rfl

theorem back_all (L : List Int)  : ∃ (h : Hints) (p : List Prop), lawOut (aBody Tryd.prog clU h (lpBy (bkLp' L)) 60 5 ([.fs 1 L.length (ints L)]) ([])) = some (.c (.bool true), p) ∧ allP p := by
  cases hc12 : (decide ((↑L.length : Int) > (200 : Int)) : Bool) with
  | true =>
    have eR := back_1 L
    refine ⟨_, _, eR.trans (congrArg (fun r => some (r, _)) ?_), ?_⟩
    · rfl
    · clear eR
      have k1 := fix_join _ (sgL_good L)
      have k2 := signs_join _ (sgL_good L)
      have k3 := valid_eq (join (sgL L))
      have k4 := join_len (sgL L)
      have k5 : (sgL L).length = L.length := by simp [sgL]
      have k6 := sigF_eq (join (sgL L))
      rw [k2, decF_eq] at k6
      rw [k1] at k6 k3
      simp only [decide_true] at k3
      simp only [allP, decF_eq, k1, k3, k6, natI_len, byts_all, byts_tk, byts_length, unbyts_byts, and_true, true_and, i64_min, i64_max]
      try simp only [decide_eq_true_eq, decide_eq_false_iff_not] at *
      repeat' apply And.intro
      all_goals first
        | assumption
        | omega
        | exact bytesOK_byts _
        | (rw [ints_all _ _ (natI_len _).symm, unints_ints]; done)
        | (rw [ints_all _ _ (natI_len _).symm, unints_ints, natI_len]; done)
        | exact beq_self_eq_true _
        | rfl
        | kernel_rfl
  | false =>
    have eR := back_2 L
    refine ⟨_, _, eR.trans (congrArg (fun r => some (r, _)) ?_), ?_⟩
    · rfl
    · clear eR
      have k1 := fix_join _ (sgL_good L)
      have k2 := signs_join _ (sgL_good L)
      have k3 := valid_eq (join (sgL L))
      have k4 := join_len (sgL L)
      have k5 : (sgL L).length = L.length := by simp [sgL]
      have k6 := sigF_eq (join (sgL L))
      rw [k2, decF_eq] at k6
      rw [k1] at k6 k3
      simp only [decide_true] at k3
      simp only [allP, decF_eq, k1, k3, k6, natI_len, byts_all, byts_tk, byts_length, unbyts_byts, and_true, true_and, i64_min, i64_max]
      try simp only [decide_eq_true_eq, decide_eq_false_iff_not] at *
      repeat' apply And.intro
      all_goals first
        | assumption
        | omega
        | exact bytesOK_byts _
        | (rw [ints_all _ _ (natI_len _).symm, unints_ints]; done)
        | (rw [ints_all _ _ (natI_len _).symm, unints_ints, natI_len]; done)
        | exact beq_self_eq_true _
        | rfl
        | kernel_rfl

/-! The parts of a text. -/

def pt1G (L M : List Int) (b : List UInt8) (i n : Nat) (X : List AV) : St := ⟨frame 75 [(0, .fs 1 L.length (ints L)), (1, .fs 1 b.length (byts b)), (2, .fs 1 M.length (ints M)), (7, .c (.bool true)), (8, .sl 0 0 n), (9, .c (.int .i64 i))], [some ⟨5, false, X⟩]⟩
def pt2G (b : List UInt8) (M : List Int) (x : List UInt8) (i n : Nat) (Y : List AV) : St := ⟨frame 75 [(1, .fs 1 b.length (byts b)), (2, .fs 1 M.length (ints M)), (7, .c (.bool true)), (8, .sl 0 0 x.length), (10, .sl 1 0 n), (11, .c (.int .i64 i))], [some ⟨5, false, byts x⟩, some ⟨5, false, Y⟩]⟩

theorem pt1_1 (L M : List Int) (b : List UInt8) (i : Nat) (out : List UInt8) (c : Int) : roundOut (⟨[], [0, 1, 2, 7, 8, 9], [1]⟩) (aCode Tryd.prog clU ⟨true, bs [(31, true)] ++ ([(38, ⟨.c (.int .i64 c), none⟩)])⟩ (lpBy ([])) 60 (lbody Tryd.prog 7 6) (pt1G L M b i out.length (byts out))) = some (.normal, pt1G L M b (i + 1) (out.length + (encN (sgn c)).length) (List.take out.length (byts out) ++ byts (encN (sgn c))), [((decide ((↑i : Int) < (↑L.length : Int)) : Bool)) = (true),
 (((0 : Int) : Int) ≤ ((↑i : Int))),
 (((↑i : Int) : Int) < ((↑L.length : Int))),
 (((0 : Nat) : Nat) < ((List.drop i (ints L)).length)),
 avEq ((List.drop i (ints L)).headD AV.any) ((AV.c ((Value.int .i64 c)))),
 (((-9223372036854775808 : Int) : Int) ≤ (c)),
 ((c : Int) ≤ ((9223372036854775807 : Int))),
 (((out.length + (encN (sgn c)).length) * (1 : Nat) : Nat) ≤ ((140737488355328 : Nat))),
 ((out.length + (encN (sgn c)).length : Nat) ≤ ((4611686018427387904 : Nat))),
 ((out.length : Nat) ≤ ((byts out).length)),
 ((IntKind.i64.min : Int) ≤ ((↑i : Int) + (1 : Int))),
 (((↑i : Int) + (1 : Int) : Int) ≤ (IntKind.i64.max))]) := by kernel_rfl

theorem pt1_2 (L M : List Int) (b : List UInt8) (i : Nat) (out : List UInt8) (c : Int) : roundOut (⟨[], [0, 1, 2, 7, 8, 9], [0]⟩) (aCode Tryd.prog clU ⟨true, bs [(31, false)] ++ ([(38, ⟨.c (.int .i64 c), none⟩)])⟩ (lpBy ([])) 60 (lbody Tryd.prog 7 6) (pt1G L M b i out.length (byts out))) = some (.exit 0, pt1G L M b i out.length (byts out), [((decide ((↑i : Int) < (↑L.length : Int)) : Bool)) = (false)]) := by kernel_rfl

theorem pt2_1 (b : List UInt8) (M : List Int) (x : List UInt8) (i : Nat) (out : List UInt8) (c : Int) : roundOut (⟨[], [1, 2, 7, 8, 10, 11], [0, 2]⟩) (aCode Tryd.prog clU ⟨true, bs [(44, true)] ++ ([(51, ⟨.c (.int .i64 c), none⟩)])⟩ (lpBy ([])) 60 (lbody Tryd.prog 7 11) (pt2G b M x i out.length (byts out))) = some (.normal, pt2G b M x (i + 1) (out.length + (encN (sgn c)).length) (List.take out.length (byts out) ++ byts (encN (sgn c))), [((decide ((↑i : Int) < (↑M.length : Int)) : Bool)) = (true),
 (((0 : Int) : Int) ≤ ((↑i : Int))),
 (((↑i : Int) : Int) < ((↑M.length : Int))),
 (((0 : Nat) : Nat) < ((List.drop i (ints M)).length)),
 avEq ((List.drop i (ints M)).headD AV.any) ((AV.c ((Value.int .i64 c)))),
 (((-9223372036854775808 : Int) : Int) ≤ (c)),
 ((c : Int) ≤ ((9223372036854775807 : Int))),
 (((out.length + (encN (sgn c)).length) * (1 : Nat) : Nat) ≤ ((140737488355328 : Nat))),
 ((out.length + (encN (sgn c)).length : Nat) ≤ ((4611686018427387904 : Nat))),
 ((out.length : Nat) ≤ ((byts out).length)),
 ((IntKind.i64.min : Int) ≤ ((↑i : Int) + (1 : Int))),
 (((↑i : Int) + (1 : Int) : Int) ≤ (IntKind.i64.max))]) := by kernel_rfl

theorem pt2_2 (b : List UInt8) (M : List Int) (x : List UInt8) (i : Nat) (out : List UInt8) (c : Int) : roundOut (⟨[], [1, 2, 7, 8, 10, 11], [0, 1]⟩) (aCode Tryd.prog clU ⟨true, bs [(44, false)] ++ ([(51, ⟨.c (.int .i64 c), none⟩)])⟩ (lpBy ([])) 60 (lbody Tryd.prog 7 11) (pt2G b M x i out.length (byts out))) = some (.exit 2, pt2G b M x i out.length (byts out), [((decide ((↑i : Int) < (↑M.length : Int)) : Bool)) = (false)]) := by kernel_rfl

theorem join_next (L : List Int) (i : Nat) (h : i < L.length) : join (sgL (L.take (i + 1))) = join (sgL (L.take i)) ++ encN (sgn (L.getD i 0)) := by
  rw [int_next L i h, sgL_app, join_app]
  congr 1
  simp [sgL, join]

def pt1S (L M : List Int) (b : List UInt8) (i : Nat) : St := pt1G L M b i (join (sgL (L.take i))).length (byts (join (sgL (L.take i))))
def pt2S (b : List UInt8) (M : List Int) (x : List UInt8) (i : Nat) : St := pt2G b M x i (join (sgL (M.take i))).length (byts (join (sgL (M.take i))))

theorem pt1_loop (L M : List Int) (b : List UInt8) (hl : L.length ≤ 1000000) (hL : ∀ n ∈ L, -9223372036854775808 ≤ n ∧ n ≤ 9223372036854775807) : Tri Ext0 Tryd.prog (.loop (lbody Tryd.prog 7 6)) (pt1S L M b 0) (.exit 0) (pt1S L M b L.length) := by
  refine loop_up mixed clU_ok (pt1S L M b) L.length (by simp) ?_ ?_ 0 (Nat.zero_le _)
  · intro i hi
    have h1 := join_len (sgL (L.take i))
    have h2 : (sgL (L.take i)).length = i := by simp [sgL]; omega
    have h4 := (U8.enc_len (sgn (L.getD i 0)))
    have h5 := ints_headD L i hi
    have hc := hL (L.getD i 0) (by simp [List.getD, hi])
    unfold pt1S
    rw [join_next L i hi]
    generalize join (sgL (L.take i)) = out at *
    rw [List.length_append, ← byts_put]
    refine ⟨_, _, _, _, _, lpBy_nil, by decide, pt1_1 L M b i out (L.getD i 0), ?_⟩
    simp only [allP, h5, avEq_refl, byts_length, ints_length, List.length_drop, and_true, true_and, decide_eq_true_eq, decide_eq_false_iff_not, i64_min, i64_max]
    repeat' apply And.intro
    all_goals first | omega | exact bytesOK_byts _ | rfl
  · unfold pt1S
    refine ⟨_, _, _, _, _, lpBy_nil, by decide, pt1_2 L M b L.length _ 0, ?_⟩
    simp [allP]


theorem pt2_loop (b : List UInt8) (M : List Int) (x : List UInt8) (hl : M.length ≤ 1000000) (hL : ∀ n ∈ M, -9223372036854775808 ≤ n ∧ n ≤ 9223372036854775807) : Tri Ext0 Tryd.prog (.loop (lbody Tryd.prog 7 11)) (pt2S b M x 0) (.exit 2) (pt2S b M x M.length) := by
  refine loop_up mixed clU_ok (pt2S b M x) M.length (by simp) ?_ ?_ 0 (Nat.zero_le _)
  · intro i hi
    have h1 := join_len (sgL (M.take i))
    have h2 : (sgL (M.take i)).length = i := by simp [sgL]; omega
    have h4 := (U8.enc_len (sgn (M.getD i 0)))
    have h5 := ints_headD M i hi
    have hc := hL (M.getD i 0) (by simp [List.getD, hi])
    unfold pt2S
    rw [join_next M i hi]
    generalize join (sgL (M.take i)) = out at *
    rw [List.length_append, ← byts_put]
    refine ⟨_, _, _, _, _, lpBy_nil, by decide, pt2_1 b M x i out (M.getD i 0), ?_⟩
    simp only [allP, h5, avEq_refl, byts_length, ints_length, List.length_drop, and_true, true_and, decide_eq_true_eq, decide_eq_false_iff_not, i64_min, i64_max]
    repeat' apply And.intro
    all_goals first | omega | exact bytesOK_byts _ | rfl
  · unfold pt2S
    refine ⟨_, _, _, _, _, lpBy_nil, by decide, pt2_2 b M x M.length _ 0, ?_⟩
    simp [allP]

def pt1Fi : Fi := ⟨[(8, 5)], [0, 1, 2, 7, 8, 9], [0]⟩
def pt2Fi : Fi := ⟨[(10, 5)], [1, 2, 7, 8, 10, 11], [0, 1]⟩
noncomputable def ptLp (L M : List Int) (b : List UInt8) : List (Nat × Lp) := [(6, ⟨lbody Tryd.prog 7 6, pt1Fi, pt1S L M b 0, .exit 0, pt1S L M b L.length⟩), (11, ⟨lbody Tryd.prog 7 11, pt2Fi, pt2S b M (join (sgL L)) 0, .exit 2, pt2S b M (join (sgL L)) M.length⟩)]
noncomputable def ptLp' (L M : List Int) (b : List UInt8) : List (Nat × Lp) := [(6, ⟨lbody Tryd.prog 7 6, pt1Fi, pt1G L M b 0 0 [], .exit 0, pt1G L M b L.length (join (sgL L)).length (byts (join (sgL L)))⟩), (11, ⟨lbody Tryd.prog 7 11, pt2Fi, pt2G b M (join (sgL L)) 0 0 [], .exit 2, pt2G b M (join (sgL L)) M.length (join (sgL M)).length (byts (join (sgL M)))⟩)]
theorem ptLp_eq (L M : List Int) (b : List UInt8) : ptLp L M b = ptLp' L M b := by
  unfold ptLp ptLp' pt1S pt2S
  rw [List.take_length, List.take_length]
  rfl

theorem app3 (x b y : List UInt8) : List.take (0 + x.length + b.length) (List.take (0 + x.length) (List.take 0 [] ++ byts x) ++ byts b) ++ byts y = byts (x ++ b ++ y) := by
  rw [app0, List.take_of_length_le (by rw [List.length_append, byts_length, byts_length]; omega), byts_append, byts_append]

theorem parts_fix (L M : List Int) (b : List UInt8) : fixF (join (sgL L) ++ b ++ join (sgL M)) = join (sgL L) ++ fixF b ++ join (sgL M) := by
  rw [List.append_assoc, fix_app _ (sgL_good L), fix_split (fresh_join _ (sgL_good M)), fix_join _ (sgL_good M), List.append_assoc]

theorem parts_1 (L M : List Int) (b : List UInt8) : lawOut (aBody Tryd.prog clU ⟨true, bs [(16, true)] ++ (bs [(73, true)] ++ [(60, ⟨.sl 5 0 (join (sgL L) ++ b ++ join (sgL M)).length, some (byts (join (sgL L) ++ b ++ join (sgL M)))⟩)])⟩ (lpBy (ptLp' L M b)) 60 7 ([.fs 1 L.length (ints L), .fs 1 b.length (byts b), .fs 1 M.length (ints M)]) ([])) = some ((AV.c ((Value.bool true))), [((decide ((↑L.length : Int) > (50 : Int)) : Bool)) = (true)]) := by kernel_rfl

theorem parts_2 (L M : List Int) (b : List UInt8) : lawOut (aBody Tryd.prog clU ⟨true, bs [(16, false), (20, true)] ++ (bs [(73, true)] ++ [(60, ⟨.sl 5 0 (join (sgL L) ++ b ++ join (sgL M)).length, some (byts (join (sgL L) ++ b ++ join (sgL M)))⟩)])⟩ (lpBy (ptLp' L M b)) 60 7 ([.fs 1 L.length (ints L), .fs 1 b.length (byts b), .fs 1 M.length (ints M)]) ([])) = some ((AV.c ((Value.bool true))), [((decide ((↑L.length : Int) > (50 : Int)) : Bool)) = (false),
 ((decide ((↑M.length : Int) > (50 : Int)) : Bool)) = (true)]) := by kernel_rfl

theorem parts_3 (L M : List Int) (b : List UInt8) : lawOut (aBody Tryd.prog clU ⟨true, bs [(16, false), (20, false), (25, true)] ++ (bs [(73, true)] ++ [(60, ⟨.sl 5 0 (join (sgL L) ++ b ++ join (sgL M)).length, some (byts (join (sgL L) ++ b ++ join (sgL M)))⟩)])⟩ (lpBy (ptLp' L M b)) 60 7 ([.fs 1 L.length (ints L), .fs 1 b.length (byts b), .fs 1 M.length (ints M)]) ([])) = some ((AV.c ((Value.bool true))), [((decide ((↑L.length : Int) > (50 : Int)) : Bool)) = (false),
 ((decide ((↑M.length : Int) > (50 : Int)) : Bool)) = (false),
 ((decide ((↑b.length : Int) > (300 : Int)) : Bool)) = (true)]) := by kernel_rfl

theorem parts_4 (L M : List Int) (b : List UInt8) : lawOut (aBody Tryd.prog clU ⟨true, bs [(16, false), (20, false), (25, false)] ++ (bs [(73, true)] ++ [(60, ⟨.sl 5 0 (join (sgL L) ++ b ++ join (sgL M)).length, some (byts (join (sgL L) ++ b ++ join (sgL M)))⟩)])⟩ (lpBy (ptLp' L M b)) 60 7 ([.fs 1 L.length (ints L), .fs 1 b.length (byts b), .fs 1 M.length (ints M)]) ([])) = some ((AV.c ((Value.bool true))), [((decide ((↑L.length : Int) > (50 : Int)) : Bool)) = (false),
 ((decide ((↑M.length : Int) > (50 : Int)) : Bool)) = (false),
 ((decide ((↑b.length : Int) > (300 : Int)) : Bool)) = (false),
 ((lbody Tryd.prog (7 : FuncId) (6 : Nat) : Go.Code)) = (lbody Tryd.prog (7 : FuncId) (6 : Nat)),
 ((pt1G L M b (0 : Nat) (0 : Nat) [] : Go.Proofs.YtfaffnemfndkfaaDoor.St)) = (pt1G L M b (0 : Nat) (0 : Nat) []),
 ((lbody Tryd.prog (7 : FuncId) (11 : Nat) : Go.Code)) = (lbody Tryd.prog (7 : FuncId) (11 : Nat)),
 ((pt2G b M (join (sgL L)) (0 : Nat) (0 : Nat) [] : Go.Proofs.YtfaffnemfndkfaaDoor.St)) = (pt2G b M (join (sgL L)) (0 : Nat) (0 : Nat) []),
 (((join (sgL L)).length + (0 : Nat) : Nat) ≤ ((byts (join (sgL L))).length)),
 ((((0 : Nat) + (join (sgL L)).length) * (1 : Nat) : Nat) ≤ ((140737488355328 : Nat))),
 (((0 : Nat) + (join (sgL L)).length : Nat) ≤ ((4611686018427387904 : Nat))),
 (((0 : Nat) : Nat) ≤ ((0 : Nat))),
 (((byts b).length : Nat)) = (b.length),
 ((((0 : Nat) + (join (sgL L)).length + b.length) * (1 : Nat) : Nat) ≤ ((140737488355328 : Nat))),
 (((0 : Nat) + (join (sgL L)).length + b.length : Nat) ≤ ((4611686018427387904 : Nat))),
 (((0 : Nat) + (join (sgL L)).length : Nat) ≤ ((List.take (0 : Nat) [] ++ List.take (join (sgL L)).length (List.drop (0 : Nat) (byts (join (sgL L))))).length)),
 (((join (sgL M)).length + (0 : Nat) : Nat) ≤ ((byts (join (sgL M))).length)),
 ((((0 : Nat) + (join (sgL L)).length + b.length + (join (sgL M)).length) * (1 : Nat) : Nat) ≤ ((140737488355328 : Nat))),
 (((0 : Nat) + (join (sgL L)).length + b.length + (join (sgL M)).length : Nat) ≤ ((4611686018427387904 : Nat))),
 (((0 : Nat) + (join (sgL L)).length + b.length : Nat) ≤ ((List.take ((0 : Nat) + (join (sgL L)).length)
      (List.take (0 : Nat) [] ++ List.take (join (sgL L)).length (List.drop (0 : Nat) (byts (join (sgL L))))) ++
    byts b).length)),
 avEq ((AV.sl 5 0 ((0 : Nat) + (join (sgL L)).length + b.length + (join (sgL M)).length))) ((AV.sl 5 0 ((join (sgL L) ++ b ++ join (sgL M)).length))),
 ((List.take ((0 : Nat) + (join (sgL L)).length + b.length)
    (List.take ((0 : Nat) + (join (sgL L)).length)
        (List.take (0 : Nat) [] ++ List.take (join (sgL L)).length (List.drop (0 : Nat) (byts (join (sgL L))))) ++
      byts b) ++
  List.take (join (sgL M)).length (List.drop (0 : Nat) (byts (join (sgL M)))) : List AV)) = (byts (join (sgL L) ++ b ++ join (sgL M))),
 ((Tryd.prog.cellsOf (5 : Nat) : Nat)) = ((1 : Nat)),
 ((List.take (join (sgL L) ++ b ++ join (sgL M)).length (List.drop (0 : Nat) (byts (join (sgL L) ++ b ++ join (sgL M)))) : List AV)) = (byts
  (unbyts
    (List.take (join (sgL L) ++ b ++ join (sgL M)).length
      (List.drop (0 : Nat) (byts (join (sgL L) ++ b ++ join (sgL M))))))),
 (((join (sgL L) ++ b ++ join (sgL M)).length : Nat)) = ((unbyts
    (List.take (join (sgL L) ++ b ++ join (sgL M)).length
      (List.drop (0 : Nat) (byts (join (sgL L) ++ b ++ join (sgL M)))))).length),
 (((join (sgL L) ++ b ++ join (sgL M)).length : Nat) ≤ ((1000000000 : Nat))),
 (((join (sgL L)).length + (0 : Nat) : Nat) ≤ ((byts (join (sgL L))).length)),
 bytesOK (List.take (join (sgL L)).length (List.drop (0 : Nat) (byts (join (sgL L))))),
 (((1 : Nat) : Nat)) = ((1 : Nat)),
 ((byts b : List AV)) = (byts (unbyts (byts b))),
 ((b.length : Nat)) = ((unbyts (byts b)).length),
 ((b.length : Nat) ≤ ((1000000000 : Nat))),
 (((unbyts (List.take (join (sgL L)).length (List.drop (0 : Nat) (byts (join (sgL L)))))).length +
  (decF (unbyts (byts b))).length : Nat) ≤ ((9223372036854775807 : Nat))),
 (((join (sgL M)).length + (0 : Nat) : Nat) ≤ ((byts (join (sgL M))).length)),
 bytesOK (List.take (join (sgL M)).length (List.drop (0 : Nat) (byts (join (sgL M))))),
 (((unbyts (List.take (join (sgL L)).length (List.drop (0 : Nat) (byts (join (sgL L))))) ++
      decF (unbyts (byts b))).length +
  (unbyts (List.take (join (sgL M)).length (List.drop (0 : Nat) (byts (join (sgL M)))))).length : Nat) ≤ ((9223372036854775807 : Nat))),
 ((decF
    (unbyts
      (List.take (join (sgL L) ++ b ++ join (sgL M)).length
        (List.drop (0 : Nat) (byts (join (sgL L) ++ b ++ join (sgL M)))))) ==
  unbyts (List.take (join (sgL L)).length (List.drop (0 : Nat) (byts (join (sgL L))))) ++ decF (unbyts (byts b)) ++
    unbyts (List.take (join (sgL M)).length (List.drop (0 : Nat) (byts (join (sgL M))))) : Bool)) = (true)]) := by kernel_rfl

theorem parts_all (L M : List Int) (b : List UInt8)  : ∃ (h : Hints) (p : List Prop), lawOut (aBody Tryd.prog clU h (lpBy (ptLp' L M b)) 60 7 ([.fs 1 L.length (ints L), .fs 1 b.length (byts b), .fs 1 M.length (ints M)]) ([])) = some (.c (.bool true), p) ∧ allP p := by
  cases hc16 : (decide ((↑L.length : Int) > (50 : Int)) : Bool) with
  | true =>
    have eR := parts_1 L M b
    refine ⟨_, _, eR.trans (congrArg (fun r => some (r, _)) ?_), ?_⟩
    · rfl
    · clear eR
      have k1 := parts_fix L M b
      have k2 := join_len (sgL L)
      have k3 := join_len (sgL M)
      have k4 := fix_len b
      have k5 : (sgL L).length = L.length := by simp [sgL]
      have k6 : (sgL M).length = M.length := by simp [sgL]
      have hl : (join (sgL L) ++ b ++ join (sgL M)).length = (join (sgL L)).length + b.length + (join (sgL M)).length := by simp only [List.length_append]
      simp only [allP, decF_eq, k1, byts_all, byts_tk, byts_length, unbyts_byts, and_true, true_and, i64_min, i64_max]
      try simp only [decide_eq_true_eq, decide_eq_false_iff_not] at *
      repeat' apply And.intro
      all_goals first
        | assumption
        | omega
        | exact bytesOK_byts _
        | exact sl_eq (by omega)
        | exact beq_self_eq_true _
        | (rw [app0]; simp only [List.length_append, byts_length]; omega)
        | (rw [app0, byts_length]; omega)
        | exact app3 _ _ _
        | (simp only [List.length_append, byts_length, List.take_zero, List.nil_append]; omega)
        | kernel_rfl
  | false =>
    cases hc20 : (decide ((↑M.length : Int) > (50 : Int)) : Bool) with
    | true =>
      have eR := parts_2 L M b
      refine ⟨_, _, eR.trans (congrArg (fun r => some (r, _)) ?_), ?_⟩
      · rfl
      · clear eR
        have k1 := parts_fix L M b
        have k2 := join_len (sgL L)
        have k3 := join_len (sgL M)
        have k4 := fix_len b
        have k5 : (sgL L).length = L.length := by simp [sgL]
        have k6 : (sgL M).length = M.length := by simp [sgL]
        have hl : (join (sgL L) ++ b ++ join (sgL M)).length = (join (sgL L)).length + b.length + (join (sgL M)).length := by simp only [List.length_append]
        simp only [allP, decF_eq, k1, byts_all, byts_tk, byts_length, unbyts_byts, and_true, true_and, i64_min, i64_max]
        try simp only [decide_eq_true_eq, decide_eq_false_iff_not] at *
        repeat' apply And.intro
        all_goals first
          | assumption
          | omega
          | exact bytesOK_byts _
          | exact sl_eq (by omega)
          | exact beq_self_eq_true _
          | (rw [app0]; simp only [List.length_append, byts_length]; omega)
          | (rw [app0, byts_length]; omega)
          | exact app3 _ _ _
          | (simp only [List.length_append, byts_length, List.take_zero, List.nil_append]; omega)
          | kernel_rfl
    | false =>
      cases hc25 : (decide ((↑b.length : Int) > (300 : Int)) : Bool) with
      | true =>
        have eR := parts_3 L M b
        refine ⟨_, _, eR.trans (congrArg (fun r => some (r, _)) ?_), ?_⟩
        · rfl
        · clear eR
          have k1 := parts_fix L M b
          have k2 := join_len (sgL L)
          have k3 := join_len (sgL M)
          have k4 := fix_len b
          have k5 : (sgL L).length = L.length := by simp [sgL]
          have k6 : (sgL M).length = M.length := by simp [sgL]
          have hl : (join (sgL L) ++ b ++ join (sgL M)).length = (join (sgL L)).length + b.length + (join (sgL M)).length := by simp only [List.length_append]
          simp only [allP, decF_eq, k1, byts_all, byts_tk, byts_length, unbyts_byts, and_true, true_and, i64_min, i64_max]
          try simp only [decide_eq_true_eq, decide_eq_false_iff_not] at *
          repeat' apply And.intro
          all_goals first
            | assumption
            | omega
            | exact bytesOK_byts _
            | exact sl_eq (by omega)
            | exact beq_self_eq_true _
            | (rw [app0]; simp only [List.length_append, byts_length]; omega)
            | (rw [app0, byts_length]; omega)
            | exact app3 _ _ _
            | (simp only [List.length_append, byts_length, List.take_zero, List.nil_append]; omega)
            | kernel_rfl
      | false =>
        have eR := parts_4 L M b
        refine ⟨_, _, eR.trans (congrArg (fun r => some (r, _)) ?_), ?_⟩
        · rfl
        · clear eR
          have k1 := parts_fix L M b
          have k2 := join_len (sgL L)
          have k3 := join_len (sgL M)
          have k4 := fix_len b
          have k5 : (sgL L).length = L.length := by simp [sgL]
          have k6 : (sgL M).length = M.length := by simp [sgL]
          have hl : (join (sgL L) ++ b ++ join (sgL M)).length = (join (sgL L)).length + b.length + (join (sgL M)).length := by simp only [List.length_append]
          simp only [allP, decF_eq, k1, byts_all, byts_tk, byts_length, unbyts_byts, and_true, true_and, i64_min, i64_max]
          try simp only [decide_eq_true_eq, decide_eq_false_iff_not] at *
          repeat' apply And.intro
          all_goals first
            | assumption
            | omega
            | exact bytesOK_byts _
            | exact sl_eq (by omega)
            | exact beq_self_eq_true _
            | (rw [app0]; simp only [List.length_append, byts_length]; omega)
            | (rw [app0, byts_length]; omega)
            | exact app3 _ _ _
            | (simp only [List.length_append, byts_length, List.take_zero, List.nil_append]; omega)
            | kernel_rfl

end Go.Proofs.YtfaffnemfndkfaaDoor
