/- The library's stable sort at rows of numbers: the whole. -/
import Derived.Test.YtljgmgbjfjhjmaaSrtG
namespace Go.Proofs.Ytljgmgbjfjhjmaa
open Go.RowKit Srt
set_option linter.unusedVariables false
set_option linter.unusedSimpArgs false

noncomputable def clSt : CallT := aCallH Try.prog (sgBy []) (hsgBy [(51, insSpec), (52, symSpec 256)]) 500 8
theorem clSt_ok : CallOK Try.prog clSt := aCallH_ok mixed sgBy_nil (hsgBy_cons ins_ok (hsgBy_cons (sym_ok 256) hsgBy_nil)) 500 8

def stF (D : List Nat) (n w : Nat) (L : List Int) (l : List (Nat × AV)) : St := ⟨frame 63 ([(0, .sl 0 0 n), (1, .c (.int .i64 n)), (2, srF), (6, .c (.int .i64 w))] ++ l), srH D L.length (rowN L)⟩
def stS (D : List Nat) (n w a b : Nat) (L : List Int) : St := stF D n w L [(7, .c (.int .i64 a)), (8, .c (.int .i64 b))]
def soS (D : List Nat) (n w : Nat) (L : List Int) : St := stF D n w L []

theorem st1A_all (D : List Nat) (n a b : Nat) (L : List Int) (hn : n ≤ 255) (hbn : b ≤ n) (hab : a ≤ b) (hD : D.length = n) (hsm : SmI L) (hbd : BdR D L.length) (hi : IncR D a b) : RoundK 2 Try.prog clSt (lbody Try.prog 46 2) (stS D n 20 a b L) (.normal) (stS (soD L D a b) n 20 b (b + 20) L) := by
  refine ⟨⟨true, (bs [(13, true)] ++ [(22, ⟨.c (.int .i64 (b + 20 : Nat)), none⟩)])⟩, _, 60, ⟨[], [0, 1, 2, 6, 7, 8], [0, 1]⟩, [decide ((↑b : Int) ≤ ↑n) = true,
 ((nats D : List AV)) = (nats (unnats (nats D))),
 (((unnats (nats D)).length : Nat)) = (n),
 ((n : Nat) ≤ ((255 : Nat))),
 (0 : Int) ≤ ↑a,
 (↑a : Int) ≤ ↑b,
 (↑b : Int) ≤ ↑n,
 ((rowN L : List AV)) = (rowN (unI (rowN L))),
 ((L.length : Nat)) = ((unI (rowN L)).length),
 SmI (unI (rowN L)),
 BdR (unnats (nats D)) L.length,
 IncR (unnats (nats D)) a b,
 (IntKind.i64.min : Int) ≤ ↑b + ↑(20 : Nat),
 (↑b + ↑(20 : Nat) : Int) ≤ IntKind.i64.max,
 (↑b + ↑(20 : Nat) : Int) = ↑(b + 20)], lpBy_nilK, by decide, Eq.trans (b := some ((.normal : Exit), ⟨frame 63 [(0, (AV.sl 0 0 n)), (1, (AV.c ((Value.int .i64 ((↑n : Int)))))), (2, (AV.fn 37 [(AV.pt 1 0)])), (6, (AV.c ((Value.int .i64 20)))), (7, (AV.c ((Value.int .i64 ((↑b : Int)))))), (8, (AV.c ((Value.int .i64 ((↑(b + (20 : Nat)) : Int))))))], [(.some ⟨3, false, (nats (put (unnats (nats D)) a b (so (keyL (unI (rowN L))) (seg (unnats (nats D)) a b))))⟩),
 (.some ⟨22, true, [(AV.fs 1 L.length (rowN L))]⟩)]⟩, _)) (by kernel_rfl) (congrArg (fun S : St => some ((.normal : Exit), S, _)) (by first | rfl | (simp (disch := omega) only [std, unnats_nats, unI_rowN]; first | done | rfl))), ?_⟩
  all_goals try simp (disch := omega) only [std, unnats_nats, unI_rowN]
  all_goals repeat' apply And.intro
  all_goals first | exact True.intro | omega | with_reducible rfl | with_reducible assumption | exact hD | exact hsm | exact hbd | exact hi | rfl

theorem st1Z_all (D : List Nat) (n a b : Nat) (L : List Int) (hbn : ¬ b ≤ n) : RoundK 2 Try.prog clSt (lbody Try.prog 46 2) (stS D n 20 a b L) (.exit 0) (stS D n 20 a b L) := by
  refine ⟨⟨true, (bs [(13, false)])⟩, _, 60, ⟨[], [0, 1, 2, 6, 7, 8], [0, 1]⟩, [decide ((↑b : Int) ≤ ↑n) = false], lpBy_nilK, by decide, by kernel_rfl, ?_⟩
  all_goals try simp (disch := omega) only [std]
  all_goals repeat' apply And.intro
  all_goals first | exact True.intro | omega | with_reducible rfl | with_reducible assumption | rfl

theorem st3A_all (D : List Nat) (n w a m b : Nat) (L : List Int) (hn : n ≤ 255) (hbs : w ≤ 1000) (hb0 : 0 < w) (hm : a + w = m) (hmb : m + w = b) (hbn : b ≤ n) (hD : D.length = n) (hsm : SmI L) (hbd : BdR D L.length) (k1 : SorR L D a m) (k2 : SorR L D m b) (k3 : LtR D a m b) : RoundK 2 Try.prog clSt (lbody Try.prog 46 9) (stS D n w a b L) (.normal) (stS (soD L D a b) n w b (b + 2 * w) L) := by
  refine ⟨⟨true, (bs [(35, true)] ++ [(40, ⟨.c (.int .i64 m), none⟩), (47, ⟨.c (.int .i64 (2 * w : Nat)), none⟩), (48, ⟨.c (.int .i64 (b + 2 * w : Nat)), none⟩)])⟩, _, 60, ⟨[], [0, 1, 2, 6, 7, 8], [0, 1]⟩, [decide ((↑b : Int) ≤ ↑n) = true,
 (IntKind.i64.min : Int) ≤ ↑a + ↑w,
 (↑a + ↑w : Int) ≤ IntKind.i64.max,
 (↑a + ↑w : Int) = ↑m,
 ((nats D : List AV)) = (nats (unnats (nats D))),
 (((unnats (nats D)).length : Nat)) = (n),
 ((n : Nat) ≤ ((255 : Nat))),
 (0 : Int) ≤ ↑a,
 (↑a : Int) < ↑m,
 (↑m : Int) < ↑b,
 (↑b : Int) ≤ ↑n,
 ((rowN L : List AV)) = (rowN (unI (rowN L))),
 ((L.length : Nat)) = ((unI (rowN L)).length),
 SmI (unI (rowN L)),
 BdR (unnats (nats D)) L.length,
 SorR (unI (rowN L)) (unnats (nats D)) a m,
 SorR (unI (rowN L)) (unnats (nats D)) m b,
 LtR (unnats (nats D)) a m b,
 (↑b - ↑a : Int) < ↑(256 : Nat),
 (IntKind.i64.min : Int) ≤ 2 * ↑w,
 (2 * ↑w : Int) ≤ IntKind.i64.max,
 (2 * ↑w : Int) = ↑(2 * w),
 (IntKind.i64.min : Int) ≤ ↑b + ↑(2 * w),
 (↑b + ↑(2 * w) : Int) ≤ IntKind.i64.max,
 (↑b + ↑(2 * w) : Int) = ↑(b + 2 * w)], lpBy_nilK, by decide, Eq.trans (b := some ((.normal : Exit), ⟨frame 63 [(0, (AV.sl 0 0 n)), (1, (AV.c ((Value.int .i64 ((↑n : Int)))))), (2, (AV.fn 37 [(AV.pt 1 0)])), (6, (AV.c ((Value.int .i64 ((↑w : Int)))))), (7, (AV.c ((Value.int .i64 ((↑b : Int)))))), (8, (AV.c ((Value.int .i64 ((↑(b + (2 : Nat) * w) : Int))))))], [(.some ⟨3, false, (nats (soD (unI (rowN L)) (unnats (nats D)) a b))⟩),
 (.some ⟨22, true, [(AV.fs 1 L.length (rowN L))]⟩)]⟩, _)) (by kernel_rfl) (congrArg (fun S : St => some ((.normal : Exit), S, _)) (by first | rfl | (simp (disch := omega) only [std, unnats_nats, unI_rowN]; first | done | rfl))), ?_⟩
  all_goals try simp (disch := omega) only [std, unnats_nats, unI_rowN]
  all_goals repeat' apply And.intro
  all_goals first | exact True.intro | omega | with_reducible rfl | with_reducible assumption | exact hm | exact hmb | exact hD | exact hsm | exact hbd | exact k1 | exact k2 | exact k3 | rfl

theorem st3Z_all (D : List Nat) (n w a b : Nat) (L : List Int) (hbn : ¬ b ≤ n) : RoundK 2 Try.prog clSt (lbody Try.prog 46 9) (stS D n w a b L) (.exit 4) (stS D n w a b L) := by
  refine ⟨⟨true, (bs [(35, false)])⟩, _, 60, ⟨[], [0, 1, 2, 6, 7, 8], [0, 1]⟩, [decide ((↑b : Int) ≤ ↑n) = false], lpBy_nilK, by decide, by kernel_rfl, ?_⟩
  all_goals try simp (disch := omega) only [std]
  all_goals repeat' apply And.intro
  all_goals first | exact True.intro | omega | with_reducible rfl | with_reducible assumption | rfl

noncomputable def st3Lp (D D3 : List Nat) (n w a b : Nat) (L : List Int) : List (Nat × Lp) := [(9, ⟨lbody Try.prog 46 9, ⟨[], [0, 1, 2, 6, 7, 8], [0, 1]⟩, stS D n w 0 (2 * w) L, .exit 4, stS D3 n w a b L⟩)]

theorem st2A_all (D D3 : List Nat) (n w a m b : Nat) (L : List Int) (hlp : LpOK (ExtK 2) Try.prog (lpBy (st3Lp D D3 n w a b L))) (hn : n ≤ 255) (hbn : w < n) (ham : a + w = m) (han : a ≤ n) (hm : m < n) (hD : D3.length = n) (hsm : SmI L) (hbd : BdR D3 L.length) (k1 : SorR L D3 a m) (k2 : SorR L D3 m n) (k3 : LtR D3 a m n) (hb0 : 0 < w) : RoundK 2 Try.prog clSt (lbody Try.prog 46 7) (soS D n w L) (.normal) (soS (soD L D3 a n) n (2 * w) L) := by
  refine ⟨⟨true, (bs [(30, true), (54, true)] ++ [(32, ⟨.c (.int .i64 (2 * w : Nat)), none⟩), (51, ⟨.c (.int .i64 m), none⟩), (62, ⟨.c (.int .i64 (2 * w : Nat)), none⟩)])⟩, _, 60, ⟨[], [0, 1, 2, 6], [0, 1]⟩, [decide ((↑w : Int) < ↑n) = true,
 (IntKind.i64.min : Int) ≤ 2 * ↑w,
 (2 * ↑w : Int) ≤ IntKind.i64.max,
 (2 * ↑w : Int) = ↑(2 * w),
 ((lbody Try.prog (46 : FuncId) (9 : Nat) : Go.Code)) = (lbody Try.prog (46 : FuncId) (9 : Nat)),
 ((stS D n w (0 : Nat) ((2 : Nat) * w) L : Go.Proofs.Ytljgmgbjfjhjmaa.St)) = (stS D n w (0 : Nat) ((2 : Nat) * w) L),
 (IntKind.i64.min : Int) ≤ ↑a + ↑w,
 (↑a + ↑w : Int) ≤ IntKind.i64.max,
 (↑a + ↑w : Int) = ↑m,
 decide ((↑m : Int) < ↑n) = true,
 ((nats D3 : List AV)) = (nats (unnats (nats D3))),
 (((unnats (nats D3)).length : Nat)) = (n),
 ((n : Nat) ≤ ((255 : Nat))),
 (0 : Int) ≤ ↑a,
 (↑a : Int) < ↑m,
 (↑m : Int) < ↑n,
 (↑n : Int) ≤ ↑n,
 ((rowN L : List AV)) = (rowN (unI (rowN L))),
 ((L.length : Nat)) = ((unI (rowN L)).length),
 SmI (unI (rowN L)),
 BdR (unnats (nats D3)) L.length,
 SorR (unI (rowN L)) (unnats (nats D3)) a m,
 SorR (unI (rowN L)) (unnats (nats D3)) m n,
 LtR (unnats (nats D3)) a m n,
 (↑n - ↑a : Int) < ↑(256 : Nat),
 (IntKind.i64.min : Int) ≤ ↑w * 2,
 (↑w * 2 : Int) ≤ IntKind.i64.max,
 (↑w * 2 : Int) = ↑(2 * w)], hlp, by decide, Eq.trans (b := some ((.normal : Exit), ⟨frame 63 [(0, (AV.sl 0 0 n)), (1, (AV.c ((Value.int .i64 ((↑n : Int)))))), (2, (AV.fn 37 [(AV.pt 1 0)])), (6, (AV.c ((Value.int .i64 ((↑((2 : Nat) * w) : Int))))))], [(.some ⟨3, false, (nats (soD (unI (rowN L)) (unnats (nats D3)) a n))⟩),
 (.some ⟨22, true, [(AV.fs 1 L.length (rowN L))]⟩)]⟩, _)) (by kernel_rfl) (congrArg (fun S : St => some ((.normal : Exit), S, _)) (by first | rfl | (simp (disch := omega) only [std, unnats_nats, unI_rowN]; first | done | rfl))), ?_⟩
  all_goals try simp (disch := omega) only [std, unnats_nats, unI_rowN]
  all_goals repeat' apply And.intro
  all_goals first | exact True.intro | omega | with_reducible rfl | with_reducible assumption | exact hlp | exact ham | exact hD | exact hsm | exact hbd | exact k1 | exact k2 | exact k3 | rfl


theorem st2B_all (D D3 : List Nat) (n w a m b : Nat) (L : List Int) (hlp : LpOK (ExtK 2) Try.prog (lpBy (st3Lp D D3 n w a b L))) (hn : n ≤ 255) (hbn : w < n) (ham : a + w = m) (han : a ≤ n) (hm : ¬ m < n) : RoundK 2 Try.prog clSt (lbody Try.prog 46 7) (soS D n w L) (.normal) (soS D3 n (2 * w) L) := by
  refine ⟨⟨true, (bs [(30, true), (54, false)] ++ [(32, ⟨.c (.int .i64 (2 * w : Nat)), none⟩), (51, ⟨.c (.int .i64 m), none⟩), (62, ⟨.c (.int .i64 (2 * w : Nat)), none⟩)])⟩, _, 60, ⟨[], [0, 1, 2, 6], [0, 1]⟩, [decide ((↑w : Int) < ↑n) = true,
 (IntKind.i64.min : Int) ≤ 2 * ↑w,
 (2 * ↑w : Int) ≤ IntKind.i64.max,
 (2 * ↑w : Int) = ↑(2 * w),
 ((lbody Try.prog (46 : FuncId) (9 : Nat) : Go.Code)) = (lbody Try.prog (46 : FuncId) (9 : Nat)),
 ((stS D n w (0 : Nat) ((2 : Nat) * w) L : Go.Proofs.Ytljgmgbjfjhjmaa.St)) = (stS D n w (0 : Nat) ((2 : Nat) * w) L),
 (IntKind.i64.min : Int) ≤ ↑a + ↑w,
 (↑a + ↑w : Int) ≤ IntKind.i64.max,
 (↑a + ↑w : Int) = ↑m,
 decide ((↑m : Int) < ↑n) = false,
 (IntKind.i64.min : Int) ≤ ↑w * 2,
 (↑w * 2 : Int) ≤ IntKind.i64.max,
 (↑w * 2 : Int) = ↑(2 * w)], hlp, by decide, by kernel_rfl, ?_⟩
  all_goals try simp (disch := omega) only [std, unnats_nats, unI_rowN]
  all_goals repeat' apply And.intro
  all_goals first | exact True.intro | omega | with_reducible rfl | with_reducible assumption | exact hlp | exact ham | rfl

theorem st2Z_all (D : List Nat) (n w : Nat) (L : List Int) (hbn : ¬ w < n) : RoundK 2 Try.prog clSt (lbody Try.prog 46 7) (soS D n w L) (.exit 2) (soS D n w L) := by
  refine ⟨⟨true, (bs [(30, false)])⟩, _, 60, ⟨[], [0, 1, 2, 6], [0, 1]⟩, [decide ((↑w : Int) < ↑n) = false], lpBy_nilK, by decide, by kernel_rfl, ?_⟩
  all_goals try simp (disch := omega) only [std]
  all_goals repeat' apply And.intro
  all_goals first | exact True.intro | omega | with_reducible rfl | with_reducible assumption | rfl

noncomputable def stLp (D D1 D3 : List Nat) (n a b w : Nat) (L : List Int) : List (Nat × Lp) := [(2, ⟨lbody Try.prog 46 2, ⟨[], [0, 1, 2, 6, 7, 8], [0, 1]⟩, stS D n 20 0 20 L, .exit 0, stS D1 n 20 a b L⟩), (7, ⟨lbody Try.prog 46 7, ⟨[], [0, 1, 2, 6], [0, 1]⟩, soS (soD (unI (rowN L)) (unnats (nats D1)) a n) n 20 L, .exit 2, soS D3 n w L⟩)]

theorem stb_all (D D1 D3 : List Nat) (n a b w : Nat) (L : List Int) (hn : n ≤ 255) (han : a ≤ n) (hD : D1.length = n) (hsm : SmI L) (hbd : BdR D1 L.length) (hi : IncR D1 a n) : ∃ (h : Hints) (p : List Prop), outKill [] (aBody Try.prog clSt h (lpBy (stLp D D1 D3 n a b w L)) 60 46 ([.sl 0 0 n, .c (.int .i64 n), srF]) (srH D L.length (rowN L))) = some (.tu [], srH D3 L.length (rowN L), p) ∧ allP p := by
  refine ⟨⟨true, bs []⟩, [((lbody Try.prog (46 : FuncId) (2 : Nat) : Go.Code)) = (lbody Try.prog (46 : FuncId) (2 : Nat)),
 ((stS D n (20 : Nat) (0 : Nat) (20 : Nat) L : Go.Proofs.Ytljgmgbjfjhjmaa.St)) = (stS D n (20 : Nat) (0 : Nat) (20 : Nat) L),
 ((nats D1 : List AV)) = (nats (unnats (nats D1))),
 (((unnats (nats D1)).length : Nat)) = (n),
 ((n : Nat) ≤ ((255 : Nat))),
 (0 : Int) ≤ ↑a,
 (↑a : Int) ≤ ↑n,
 (↑n : Int) ≤ ↑n,
 ((rowN L : List AV)) = (rowN (unI (rowN L))),
 ((L.length : Nat)) = ((unI (rowN L)).length),
 SmI (unI (rowN L)),
 BdR (unnats (nats D1)) L.length,
 IncR (unnats (nats D1)) a n,
 ((lbody Try.prog (46 : FuncId) (7 : Nat) : Go.Code)) = (lbody Try.prog (46 : FuncId) (7 : Nat)),
 ((soS (soD (unI (rowN L)) (unnats (nats D1)) a n) n (20 : Nat) L : Go.Proofs.Ytljgmgbjfjhjmaa.St)) = (soS (soD (unI (rowN L)) (unnats (nats D1)) a n) n (20 : Nat) L)], by kernel_rfl, ?_⟩
  all_goals try simp (disch := omega) only [std, unnats_nats, unI_rowN]
  all_goals repeat' apply And.intro
  all_goals first | exact True.intro | omega | with_reducible rfl | with_reducible assumption | exact hD | exact hsm | exact hbd | exact hi | rfl

/-! Plain rows. -/
theorem inc_seg {X : List Nat} (h : X.Pairwise (· < ·)) (i j : Nat) : (seg X i j).Pairwise (· < ·) := by
  unfold seg
  exact (h.sublist (List.take_sublist _ _)).sublist (List.drop_sublist _ _)
theorem inc_app {A B : List Nat} (h : (A ++ B).Pairwise (· < ·)) : ∀ x ∈ A, ∀ y ∈ B, x < y := (List.pairwise_append.1 h).2.2

/-- The first loop's row. -/
def stR (L : List Int) (X : List Nat) (a : Nat) : List Nat := chunks (keyL L) 20 (X.take a) ++ X.drop a
theorem chunks_length (κ : Nat → Int) {w : Nat} (h : 0 < w) (l : List Nat) : (chunks κ w l).length = l.length := chunks_len κ h _ l (Nat.le_refl _)
theorem chunks_mem {κ : Nat → Int} {w : Nat} (h : 0 < w) : ∀ (n : Nat) (l : List Nat), l.length ≤ n → ∀ z, z ∈ chunks κ w l ↔ z ∈ l
  | 0, l, hl, z => by
    have : l = [] := List.eq_nil_of_length_eq_zero (by omega)
    subst this; rw [chunks_nil]
  | n + 1, l, hl, z => by
    by_cases he : l = []
    · subst he; rw [chunks_nil]
    · have h0 : l.length ≠ 0 := fun e => he (List.eq_nil_of_length_eq_zero e)
      rw [chunks_step κ h, List.mem_append, so_mem, chunks_mem h n (l.drop w) (by rw [List.length_drop]; omega), ← List.mem_append, List.take_append_drop]
theorem stR_len (L : List Int) (X : List Nat) (a : Nat) : (stR L X a).length = X.length := by
  unfold stR
  rw [List.length_append, chunks_length _ (by decide), List.length_take, List.length_drop]; omega
theorem stR_bd {L : List Int} {X : List Nat} (h : BdR X L.length) (a : Nat) : BdR (stR L X a) L.length := by
  intro z hz
  unfold stR at hz
  rcases List.mem_append.1 hz with h1 | h1
  · exact h z (List.mem_of_mem_take ((chunks_mem (by decide) _ _ (Nat.le_refl _) z).1 h1))
  · exact h z (List.mem_of_mem_drop h1)
/-- From a on up to b: what stands there, and what stands behind. -/
theorem stR_form (L : List Int) (X : List Nat) {a b : Nat} (h : a ≤ b) : stR L X a = chunks (keyL L) 20 (X.take a) ++ (seg X a b ++ X.drop b) ∧ X.take b = X.take a ++ seg X a b := by
  have e : X.take b = X.take a ++ seg X a b := by
    unfold seg
    conv => lhs; rw [← List.take_append_drop a (X.take b)]
    rw [List.take_take, Nat.min_eq_left h]
  refine ⟨?_, e⟩
  unfold stR
  congr 1
  have := List.take_append_drop b X
  rw [e, List.append_assoc] at this
  conv => lhs; rw [← this]
  by_cases ha : a ≤ X.length
  · rw [List.drop_append_of_le_length (by rw [List.length_take]; omega), List.drop_of_length_le (by rw [List.length_take]; omega), List.nil_append]
  · have k1 : seg X a b = [] := by unfold seg; exact List.drop_of_length_le (by rw [List.length_take]; omega)
    have k2 : X.drop b = [] := List.drop_of_length_le (by omega)
    rw [k1, k2, List.append_nil, List.append_nil, List.drop_of_length_le (by rw [List.length_take]; omega)]
theorem stR_step (L : List Int) (X : List Nat) {q a b : Nat} (ha : a = q * 20) (hb : b ≤ X.length) (hab : a ≤ b) (hb2 : b ≤ a + 20) : soD L (stR L X a) a b = chunks (keyL L) 20 (X.take b) ++ X.drop b ∧ seg (stR L X a) a b = seg X a b := by
  obtain ⟨e1, e2⟩ := stR_form L X hab
  have l1 : (chunks (keyL L) 20 (X.take a)).length = a := by rw [chunks_length _ (by decide), List.length_take]; omega
  have l2 := seg_len X (i := a) hb
  have k : seg (stR L X a) a b = seg X a b := by rw [e1]; exact seg_at l1 (by omega)
  refine ⟨?_, k⟩
  unfold soD
  rw [k, e1, put_at l1 (by omega), e2, chunks_app (keyL L) (by decide) q _ _ (by rw [List.length_take]; omega), chunks_small (keyL L) (l := seg X a b) (by decide) (by omega), List.append_assoc]

theorem st1_walk (X : List Nat) (L : List Int) {n : Nat} (hn : X.length = n) (hn2 : n ≤ 255) (hX : X.Pairwise (· < ·)) (hsm : SmI L) (hb : BdR X L.length) :
    Tri (ExtK 2) Try.prog (.loop (lbody Try.prog 46 2)) (stS X n 20 0 20 L) (.exit 0) (stS (stR L X (n / 20 * 20)) n 20 (n / 20 * 20) (n / 20 * 20 + 20) L) := by
  have e0 : X = stR L X 0 := by unfold stR; rw [List.take_zero, chunks_nil]; rfl
  have h := loop_upK (k := 2) mixed clSt_ok (b := lbody Try.prog 46 2) (fun q => stS (stR L X (q * 20)) n 20 (q * 20) (q * 20 + 20) L) (n / 20) (e := .exit 0) (R := stS (stR L X (n / 20 * 20)) n 20 (n / 20 * 20) (n / 20 * 20 + 20) L) (by simp) (fun q hq => ?_) ?_ 0 (Nat.zero_le _)
  · simp only [Nat.zero_mul, Nat.zero_add] at h
    rw [← e0] at h
    exact h
  · obtain ⟨k1, k2⟩ := stR_step L X (q := q) (a := q * 20) (b := q * 20 + 20) rfl (by omega) (by omega) (by omega)
    have := st1A_all (stR L X (q * 20)) n (q * 20) (q * 20 + 20) L hn2 (by omega) (by omega) (by rw [stR_len]; exact hn) hsm (stR_bd hb _) (by unfold IncR; rw [k2]; exact inc_seg hX _ _)
    rw [k1] at this
    rw [Nat.succ_mul]
    exact this
  · exact st1Z_all _ n _ _ L (by omega)

/-- The second loops' row. -/
def mgR (L : List Int) (X : List Nat) (w a : Nat) : List Nat := chunks (keyL L) (2 * w) (X.take a) ++ chunks (keyL L) w (X.drop a)
theorem mgR_len (L : List Int) (X : List Nat) {w : Nat} (hw : 0 < w) (a : Nat) : (mgR L X w a).length = X.length := by
  unfold mgR
  rw [List.length_append, chunks_length _ (by omega), chunks_length _ hw, List.length_take, List.length_drop]; omega
theorem mgR_bd {L : List Int} {X : List Nat} (h : BdR X L.length) {w : Nat} (hw : 0 < w) (a : Nat) : BdR (mgR L X w a) L.length := by
  intro z hz
  unfold mgR at hz
  rcases List.mem_append.1 hz with h1 | h1
  · exact h z (List.mem_of_mem_take ((chunks_mem (by omega) _ _ (Nat.le_refl _) z).1 h1))
  · exact h z (List.mem_of_mem_drop ((chunks_mem hw _ _ (Nat.le_refl _) z).1 h1))

theorem take_drop_app (X : List Nat) {a b : Nat} (h : a ≤ b) : X.take b = X.take a ++ (X.drop a).take (b - a) := by
  have : b = a + (b - a) := by omega
  conv => lhs; rw [this]
  exact List.take_add

/-- Two blocks, side by side, made one. -/
theorem mgR_step (L : List Int) (X : List Nat) {w q a m b : Nat} (hw : 0 < w) (ha : a = q * (2 * w)) (hm : m = a + w) (hmb : m ≤ b) (hb2 : b ≤ a + 2 * w) (hb : b ≤ X.length) (hX : X.Pairwise (· < ·)) :
    soD L (mgR L X w a) a b = chunks (keyL L) (2 * w) (X.take b) ++ chunks (keyL L) w ((X.drop m).drop (b - m)) ∧ SorR L (mgR L X w a) a m ∧ ((b - m = w ∨ b = X.length) → SorR L (mgR L X w a) m b ∧ LtR (mgR L X w a) a m b) ∨ ¬ (b - m = w ∨ b = X.length) := by
  by_cases hc : b - m = w ∨ b = X.length
  · left
    have l1 : (chunks (keyL L) (2 * w) (X.take a)).length = a := by rw [chunks_length _ (by omega), List.length_take]; omega
    have e1 : mgR L X w a = chunks (keyL L) (2 * w) (X.take a) ++ (so (keyL L) ((X.drop a).take w) ++ (so (keyL L) ((X.drop m).take w) ++ chunks (keyL L) w ((X.drop m).drop w))) := by
      unfold mgR
      rw [chunks_step _ hw (X.drop a), chunks_step _ hw ((X.drop a).drop w), List.drop_drop, ← hm]
    have e2 : (X.drop m).take w = (X.drop m).take (b - m) := by
      rcases hc with h | h
      · rw [h]
      · rw [List.take_of_length_le (by rw [List.length_drop]; omega), List.take_of_length_le (by rw [List.length_drop]; omega)]
    have e3 : (X.drop m).drop w = (X.drop m).drop (b - m) := by
      rcases hc with h | h
      · rw [h]
      · rw [List.drop_of_length_le (by rw [List.length_drop]; omega), List.drop_of_length_le (by rw [List.length_drop]; omega)]
    rw [e2, e3] at e1
    have y1 : (so (keyL L) ((X.drop a).take w)).length = w := by rw [so_len, List.length_take, List.length_drop]; omega
    have y2 : (so (keyL L) ((X.drop m).take (b - m))).length = b - m := by rw [so_len, List.length_take, List.length_drop]; omega
    have s1 : seg (mgR L X w a) a m = so (keyL L) ((X.drop a).take w) := by rw [e1]; exact seg_at l1 (by omega)
    have s2 : seg (mgR L X w a) m b = so (keyL L) ((X.drop m).take (b - m)) := by rw [e1, ← List.append_assoc]; exact seg_at (by rw [List.length_append]; omega) (by omega)
    have s3 : seg (mgR L X w a) a b = so (keyL L) ((X.drop a).take w) ++ so (keyL L) ((X.drop m).take (b - m)) := by rw [e1, ← List.append_assoc (so _ _)]; exact seg_at l1 (by rw [List.length_append]; omega)
    have hsplit : (X.drop a).take (b - a) = (X.drop a).take w ++ (X.drop m).take (b - m) := by
      rw [take_drop_app (X.drop a) (a := w) (b := b - a) (by omega), List.drop_drop, ← hm, show b - a - w = b - m by omega]
    refine ⟨?_, ?_, fun _ => ⟨?_, ?_⟩⟩
    · unfold soD
      rw [s3, e1, ← List.append_assoc (so _ _), put_at l1 (by rw [List.length_append]; omega)]
      rw [take_drop_app X (show a ≤ b by omega), chunks_app (keyL L) (by omega) q _ _ (by rw [List.length_take]; omega), chunks_small (keyL L) (l := (X.drop a).take (b - a)) (by omega) (by rw [List.length_take]; omega), List.append_assoc]
      congr 2
      rw [hsplit]
      exact so_same ((so_perm _ _).append (so_perm _ _))
    · unfold SorR; rw [s1]; exact so_sor _ _
    · unfold SorR; rw [s2]; exact so_sor _ _
    · intro x hx y hy
      rw [s1, so_mem] at hx
      rw [s2, so_mem] at hy
      have hp : ((X.drop a).take w ++ (X.drop m).take (b - m)).Pairwise (· < ·) := by
        rw [← hsplit]
        exact (hX.sublist (List.drop_sublist _ _)).sublist (List.take_sublist _ _)
      exact inc_app hp x hx y hy
  · exact .inr hc

theorem st3_walk (X : List Nat) (L : List Int) {n w : Nat} (hw : 0 < w) (hw2 : w ≤ 1000) (hn : X.length = n) (hn2 : n ≤ 255) (hX : X.Pairwise (· < ·)) (hsm : SmI L) (hb : BdR X L.length) :
    Tri (ExtK 2) Try.prog (.loop (lbody Try.prog 46 9)) (stS (chunks (keyL L) w X) n w 0 (2 * w) L) (.exit 4) (stS (mgR L X w (n / (2 * w) * (2 * w))) n w (n / (2 * w) * (2 * w)) (n / (2 * w) * (2 * w) + 2 * w) L) := by
  have e0 : chunks (keyL L) w X = mgR L X w 0 := by unfold mgR; rw [List.take_zero, chunks_nil]; rfl
  have hdiv : n / (2 * w) * (2 * w) ≤ n := Nat.div_mul_le_self _ _
  have hlt : n < n / (2 * w) * (2 * w) + 2 * w := by
    have := Nat.lt_div_mul_add (a := n) (b := 2 * w) (by omega)
    omega
  have h := loop_upK (k := 2) mixed clSt_ok (b := lbody Try.prog 46 9) (fun q => stS (mgR L X w (q * (2 * w))) n w (q * (2 * w)) (q * (2 * w) + 2 * w) L) (n / (2 * w)) (e := .exit 4) (R := stS (mgR L X w (n / (2 * w) * (2 * w))) n w (n / (2 * w) * (2 * w)) (n / (2 * w) * (2 * w) + 2 * w) L) (by simp) (fun q hq => ?_) ?_ 0 (Nat.zero_le _)
  · simp only [Nat.zero_mul, Nat.zero_add] at h
    rw [← e0] at h
    exact h
  · have hq2 : (q + 1) * (2 * w) ≤ n / (2 * w) * (2 * w) := Nat.mul_le_mul_right _ hq
    have hs : (q + 1) * (2 * w) = q * (2 * w) + 2 * w := Nat.succ_mul _ _
    rw [hs] at hq2 ⊢
    generalize hqa : q * (2 * w) = a at *
    rcases mgR_step L X (q := q) (a := a) (m := a + w) (b := a + 2 * w) hw hqa.symm rfl (by omega) (Nat.le_refl _) (by omega) hX with ⟨k1, k2, k3⟩ | k
    · obtain ⟨k3, k4⟩ := k3 (.inl (by omega))
      have := st3A_all (mgR L X w a) n w a (a + w) (a + 2 * w) L hn2 hw2 hw rfl (by omega) (by omega) (by rw [mgR_len _ _ hw]; exact hn) hsm (mgR_bd hb hw _) k2 k3 k4
      rw [k1, List.drop_drop, show a + w + (a + 2 * w - (a + w)) = a + 2 * w by omega] at this
      exact this
    · exact absurd (.inl (by omega)) k
  · exact st3Z_all _ n w _ _ L (by omega)

/-- How large the blocks are in the end. -/
def endW (n : Nat) : Nat → Nat → Nat
  | 0, w => w
  | f + 1, w => if w < n then endW n f (2 * w) else w

theorem st2_walk (X : List Nat) (L : List Int) {n : Nat} (hn : X.length = n) (hn2 : n ≤ 255) (hX : X.Pairwise (· < ·)) (hsm : SmI L) (hb : BdR X L.length) :
    ∃ w, Tri (ExtK 2) Try.prog (.loop (lbody Try.prog 46 7)) (soS (chunks (keyL L) 20 X) n 20 L) (.exit 2) (soS (so (keyL L) X) n w L) := by
  refine ⟨endW n 300 20, ?_⟩
  obtain ⟨W, hW⟩ : ∃ W, endW n 300 20 = W := ⟨_, rfl⟩
  rw [hW]
  refine loop_invK mixed clSt_ok (fun x : Nat × Nat => soS (chunks (keyL L) x.2 X) n x.2 L) (fun x => endW n x.1 x.2 = W ∧ (20 ≤ x.2 ∧ x.2 ≤ 510) ∧ n - x.2 ≤ x.1) (fun x => n - x.2) (fun x hx => ?_) (300, 20) ⟨hW, ⟨Nat.le_refl _, by simp⟩, by simp only; omega⟩
  obtain ⟨f, w⟩ := x
  obtain ⟨h1, ⟨h2, h3⟩, h4⟩ := hx
  simp only at h1 h2 h3 h4 ⊢
  have hw : 0 < w := by omega
  by_cases hwn : w < n
  · obtain ⟨f, rfl⟩ : ∃ g, f = g + 1 := ⟨f - 1, by omega⟩
    unfold endW at h1
    rw [if_pos hwn] at h1
    have w3 := st3_walk X L hw (by omega) hn hn2 hX hsm hb
    have hdiv : n / (2 * w) * (2 * w) ≤ n := Nat.div_mul_le_self _ _
    have hlt : n < n / (2 * w) * (2 * w) + 2 * w := by
      have := Nat.lt_div_mul_add (a := n) (b := 2 * w) (by omega)
      omega
    have lp := lpBy_consK (m := 9) lpBy_nilK (L := ⟨lbody Try.prog 46 9, ⟨[], [0, 1, 2, 6, 7, 8], [0, 1]⟩, _, .exit 4, _⟩) kp2 w3
    refine .inl ⟨(f, 2 * w), ⟨h1, ⟨by simp only; omega, by simp only; omega⟩, by simp only; omega⟩, by simp only; omega, ?_⟩
    generalize hqa : n / (2 * w) * (2 * w) = a at *
    by_cases hm : a + w < n
    · rcases mgR_step L X (q := n / (2 * w)) (a := a) (m := a + w) (b := n) hw hqa.symm rfl (by omega) (by omega) (by omega) hX with ⟨k1, k2, k3⟩ | k
      · obtain ⟨k3, k4⟩ := k3 (.inr hn.symm)
        have := st2A_all (chunks (keyL L) w X) (mgR L X w a) n w a (a + w) (a + 2 * w) L lp hn2 hwn rfl hdiv hm (by rw [mgR_len _ _ hw]; exact hn) hsm (mgR_bd hb hw _) k2 k3 k4 hw
        rw [k1, ← hn, List.take_length, List.drop_of_length_le (l := X.drop (a + w)) (by rw [List.length_drop]; omega), chunks_nil, List.append_nil] at this
        rw [← hn]
        exact this
      · exact absurd (.inr hn.symm) k
    · have := st2B_all (chunks (keyL L) w X) (mgR L X w a) n w a (a + w) (a + 2 * w) L lp hn2 hwn rfl hdiv hm
      have e : mgR L X w a = chunks (keyL L) (2 * w) X := by
        unfold mgR
        have := chunks_app (keyL L) (bs := 2 * w) (by omega) (n / (2 * w)) (X.take a) (X.drop a) (by rw [List.length_take, hqa]; omega)
        rw [List.take_append_drop] at this
        rw [this, chunks_small (keyL L) (bs := w) (l := X.drop a) hw (by rw [List.length_drop]; omega), chunks_small (keyL L) (bs := 2 * w) (l := X.drop a) (by omega) (by rw [List.length_drop]; omega)]
      rw [e] at this
      exact this
  · have e : w = W := by
      rw [← h1]
      cases f with
      | zero => rfl
      | succ f => unfold endW; rw [if_neg hwn]
    have es : chunks (keyL L) w X = so (keyL L) X := chunks_small _ hw (by omega)
    rw [es, ← e]
    exact .inr ⟨by simp, st2Z_all (so (keyL L) X) n w L hwn⟩

def IncA (X : List Nat) : Prop := X.Pairwise (· < ·)
def stbSpec : HSpec
  | [.sl 0 0 n, .c (.int .i64 n2), .fn f [.pt 1 0]], [some ⟨t, false, C⟩, some ⟨t2, true, [.fs s k l]⟩] => if (t = 3 ∧ t2 = 22) ∧ (f = 37 ∧ s = 1) then
      some (.tu [], srH (so (keyL (unI l)) (unnats C)) k l, [C = nats (unnats C), (unnats C).length = n, n ≤ 255, n2 = n, l = rowN (unI l), k = (unI l).length, SmI (unI l), BdR (unnats C) k, IncA (unnats C)]) else none
  | _, _ => none

theorem stb_ok : HSpecOK Try.prog 46 stbSpec := by
  refine hspec_lp mixed clSt_ok fun args hp r hp' q hs hq => ?_
  unfold stbSpec at hs
  split at hs
  · rename_i n n2 f t C t2 s k l
    split at hs
    · rename_i hc
      obtain ⟨⟨rfl, rfl⟩, rfl, rfl⟩ := hc
      simp only [Option.some.injEq, Prod.mk.injEq] at hs
      obtain ⟨rfl, rfl, rfl⟩ := hs
      obtain ⟨h1, h2, h3, h4, h5, h6, h7, h8, h9, _⟩ := hq
      generalize unI l = L at *
      generalize unnats C = X at *
      subst h1 h4 h5 h6
      have w1 := st1_walk X L h2 h3 h9 h7 h8
      obtain ⟨w, w2⟩ := st2_walk X L h2 h3 h9 h7 h8
      have hdiv : n / 20 * 20 ≤ n := Nat.div_mul_le_self _ _
      have hlt : n < n / 20 * 20 + 20 := by omega
      obtain ⟨k1, k2⟩ := stR_step L X (q := n / 20) (a := n / 20 * 20) (b := n) rfl (by omega) hdiv (by omega)
      rw [← h2, List.take_length, List.drop_length, List.append_nil, h2] at k1
      obtain ⟨hh, p, e, hp⟩ := stb_all X (stR L X (n / 20 * 20)) (so (keyL L) X) n (n / 20 * 20) (n / 20 * 20 + 20) w L h3 hdiv (by rw [stR_len]; exact h2) h7 (stR_bd h8 _) (by unfold IncR; rw [k2]; exact inc_seg h9 _ _)
      rw [← k1] at w2
      have ex : soS (soD L (stR L X (n / 20 * 20)) (n / 20 * 20) n) n 20 L = soS (soD (unI (rowN L)) (unnats (nats (stR L X (n / 20 * 20)))) (n / 20 * 20) n) n 20 L := by rw [unI_rowN, unnats_nats]
      rw [ex] at w2
      exact ⟨_, _, _, _, _, lpBy_consK (lpBy_consK lpBy_nilK kp2 w2) kp2 w1, e, hp⟩
    · simp at hs
  · simp at hs

def sstSpec : HSpec
  | [.sl 0 0 n, .fn f [.pt 1 0]], [some ⟨t, false, C⟩, some ⟨t2, true, [.fs s k l]⟩] => if (t = 3 ∧ t2 = 22) ∧ (f = 37 ∧ s = 1) then
      some (.tu [], srH (so (keyL (unI l)) (unnats C)) k l, [C = nats (unnats C), (unnats C).length = n, n ≤ 255, l = rowN (unI l), k = (unI l).length, SmI (unI l), BdR (unnats C) k, IncA (unnats C)]) else none
  | _, _ => none

noncomputable def clSs : CallT := aCallH Try.prog (sgBy []) (hsgBy [(46, stbSpec)]) 500 8
theorem clSs_ok : CallOK Try.prog clSs := aCallH_ok mixed sgBy_nil (hsgBy_cons stb_ok hsgBy_nil) 500 8

theorem sst_all (D : List Nat) (n : Nat) (L : List Int) (hn : n ≤ 255) (hD : D.length = n) (hsm : SmI L) (hbd : BdR D L.length) (hi : IncA D) : ∃ (h : Hints) (p : List Prop), outKill [] (aBody Try.prog clSs h (lpBy ([])) 60 36 ([.sl 0 0 n, srF]) (srH D L.length (rowN L))) = some (.tu [], srH (so (keyL L) D) L.length (rowN L), p) ∧ allP p := by
  refine ⟨⟨true, bs []⟩, [((nats D : List AV)) = (nats (unnats (nats D))),
 (((unnats (nats D)).length : Nat)) = (n),
 ((n : Nat) ≤ ((255 : Nat))),
 (↑n : Int) = ↑n,
 ((rowN L : List AV)) = (rowN (unI (rowN L))),
 ((L.length : Nat)) = ((unI (rowN L)).length),
 SmI (unI (rowN L)),
 BdR (unnats (nats D)) L.length,
 IncA (unnats (nats D))], Eq.trans (b := some ((AV.tu []), [(.some ⟨3, false, (nats (so (keyL (unI (rowN L))) (unnats (nats D))))⟩),
 (.some ⟨22, true, [(AV.fs 1 L.length (rowN L))]⟩)], _)) (by kernel_rfl) (congrArg (fun r : AV × Heap => some (r.1, r.2, _)) (a₁ := (_, _)) (a₂ := (_, _)) (by first | rfl | (simp (disch := omega) only [std, unnats_nats, unI_rowN]; first | done | rfl))), ?_⟩
  all_goals try simp (disch := omega) only [std, unnats_nats, unI_rowN]
  all_goals repeat' apply And.intro
  all_goals first | exact True.intro | omega | with_reducible rfl | with_reducible assumption | exact hD | exact hsm | exact hbd | exact hi | rfl

theorem sst_ok : HSpecOK Try.prog 36 sstSpec := by
  refine hspec_lp mixed clSs_ok fun args hp r hp' q hs hq => ?_
  unfold sstSpec at hs
  split at hs
  · rename_i n f t C t2 s k l
    split at hs
    · rename_i hc
      obtain ⟨⟨rfl, rfl⟩, rfl, rfl⟩ := hc
      simp only [Option.some.injEq, Prod.mk.injEq] at hs
      obtain ⟨rfl, rfl, rfl⟩ := hs
      obtain ⟨h1, h2, h3, h5, h6, h7, h8, h9, _⟩ := hq
      generalize unI l = L at *
      generalize unnats C = X at *
      subst h1 h5 h6
      obtain ⟨hh, p, e, hp⟩ := sst_all X n L h3 h2 h7 h8 h9
      exact ⟨_, _, _, _, _, lpBy_nilK, e, hp⟩
    · simp at hs
  · simp at hs

end Go.Proofs.Ytljgmgbjfjhjmaa
