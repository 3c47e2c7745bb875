/- The library's stable sort at rows of numbers: pieces turned round; blocks sorted by insertion. -/
import Derived.Test.YtljgmgbjfjhjmaaSrtA
namespace Go.Proofs.Ytljgmgbjfjhjmaa
open Go.RowKit Srt
set_option linter.unusedVariables false
set_option linter.unusedSimpArgs false

noncomputable def clSw : CallT := aCallH Try.prog (sgBy []) (hsgBy [(57, swSpec)]) 500 8
theorem clSw_ok : CallOK Try.prog clSw := aCallH_ok mixed sgBy_nil (hsgBy_cons sw_ok hsgBy_nil) 500 8

/-! Two pieces, one behind the other, that change places. -/
def rtS (D : List Nat) (n k a m b i j : Nat) (C : List AV) : St := ⟨frame 58 [(0, .sl 0 0 n), (1, .c (.int .i64 a)), (2, .c (.int .i64 m)), (3, .c (.int .i64 b)), (4, srF), (10, .c (.int .i64 i)), (11, .c (.int .i64 j))], srH D k C⟩

theorem rtA_all (D : List Nat) (n k a m b i j : Nat) (C : List AV) (hij : j < i) (hn : n ≤ 255) (hD : D.length = n) (him : i ≤ m) (hj : m + j ≤ n) (hu : unnats (nats D) = D) : RoundK 2 Try.prog clSw (lbody Try.prog 55 2) (rtS D n k a m b i j C) (.normal) (rtS (swD D (m - i) m j) n k a m b (i - j) j C) := by
  refine ⟨⟨true, (bs [(20, true), (23, true)] ++ [(27, ⟨.c (.int .i64 (m - i : Nat)), none⟩), (34, ⟨.c (.int .i64 (i - j : Nat)), none⟩), (38, ⟨.c (.int .i64 (m - i : Nat)), none⟩), (41, ⟨.c (.int .i64 (m + j : Nat)), none⟩), (43, ⟨.c (.int .i64 (m + j - i : Nat)), none⟩), (49, ⟨.c (.int .i64 (j - i : Nat)), none⟩)])⟩, _, 60, ⟨[], [0, 1, 2, 3, 4, 10, 11], [0, 1]⟩, [((↑i : Int) != (↑j : Int)) = true,
 decide ((↑i : Int) > ↑j) = true,
 (IntKind.i64.min : Int) ≤ ↑m - ↑i,
 (↑m - ↑i : Int) ≤ IntKind.i64.max,
 (↑m - ↑i : Int) = ↑(m - i),
 ((nats D : List AV)) = (nats (unnats (nats D))),
 (((unnats (nats D)).length : Nat)) = (n),
 ((n : Nat) ≤ ((255 : Nat))),
 (0 : Int) ≤ ↑(m - i),
 (0 : Int) ≤ ↑j,
 (↑(m - i) + ↑j : Int) ≤ ↑m,
 (↑m + ↑j : Int) ≤ ↑n,
 (IntKind.i64.min : Int) ≤ ↑i - ↑j,
 (↑i - ↑j : Int) ≤ IntKind.i64.max,
 (↑i - ↑j : Int) = ↑(i - j)], lpBy_nilK, by decide, Eq.trans (b := some ((.normal : Exit), ⟨frame 58 [(0, (AV.sl 0 0 n)), (1, (AV.c ((Value.int .i64 ((↑a : Int)))))), (2, (AV.c ((Value.int .i64 ((↑m : Int)))))), (3, (AV.c ((Value.int .i64 ((↑b : Int)))))), (4, (AV.fn 37 [(AV.pt 1 0)])), (10, (AV.c ((Value.int .i64 ((↑(i - j) : Int)))))), (11, (AV.c ((Value.int .i64 ((↑j : Int))))))], [(.some ⟨3, false, (nats (swD (unnats (nats D)) (m - i) m j))⟩),
 (.some ⟨22, true, [(AV.fs 1 k C)]⟩)]⟩, _)) (by kernel_rfl) (congrArg (fun S : St => some ((.normal : Exit), S, _)) (by first | rfl | (simp (disch := omega) only [std, hu]; first | done | rfl))), ?_⟩
  all_goals try simp (disch := omega) only [std, hu]
  all_goals repeat' apply And.intro
  all_goals first | exact True.intro | omega | with_reducible rfl | with_reducible assumption | exact hD | exact hu | rfl


theorem rtB_all (D : List Nat) (n k a m b i j : Nat) (C : List AV) (hij : i < j) (hn : n ≤ 255) (hD : D.length = n) (him : i ≤ m) (hj : m + j ≤ n) (hu : unnats (nats D) = D) : RoundK 2 Try.prog clSw (lbody Try.prog 55 2) (rtS D n k a m b i j C) (.normal) (rtS (swD D (m - i) (m + j - i) i) n k a m b i (j - i) C) := by
  refine ⟨⟨true, (bs [(20, true), (23, false)] ++ [(27, ⟨.c (.int .i64 (m - i : Nat)), none⟩), (34, ⟨.c (.int .i64 (i - j : Nat)), none⟩), (38, ⟨.c (.int .i64 (m - i : Nat)), none⟩), (41, ⟨.c (.int .i64 (m + j : Nat)), none⟩), (43, ⟨.c (.int .i64 (m + j - i : Nat)), none⟩), (49, ⟨.c (.int .i64 (j - i : Nat)), none⟩)])⟩, _, 60, ⟨[], [0, 1, 2, 3, 4, 10, 11], [0, 1]⟩, [((↑i : Int) != (↑j : Int)) = true,
 decide ((↑i : Int) > ↑j) = false,
 (IntKind.i64.min : Int) ≤ ↑m - ↑i,
 (↑m - ↑i : Int) ≤ IntKind.i64.max,
 (↑m - ↑i : Int) = ↑(m - i),
 (IntKind.i64.min : Int) ≤ ↑m + ↑j,
 (↑m + ↑j : Int) ≤ IntKind.i64.max,
 (↑m + ↑j : Int) = ↑(m + j),
 (IntKind.i64.min : Int) ≤ ↑(m + j) - ↑i,
 (↑(m + j) - ↑i : Int) ≤ IntKind.i64.max,
 (↑(m + j) - ↑i : Int) = ↑(m + j - i),
 ((nats D : List AV)) = (nats (unnats (nats D))),
 (((unnats (nats D)).length : Nat)) = (n),
 ((n : Nat) ≤ ((255 : Nat))),
 (0 : Int) ≤ ↑(m - i),
 (0 : Int) ≤ ↑i,
 (↑(m - i) + ↑i : Int) ≤ ↑(m + j - i),
 (↑(m + j - i) + ↑i : Int) ≤ ↑n,
 (IntKind.i64.min : Int) ≤ ↑j - ↑i,
 (↑j - ↑i : Int) ≤ IntKind.i64.max,
 (↑j - ↑i : Int) = ↑(j - i)], lpBy_nilK, by decide, Eq.trans (b := some ((.normal : Exit), ⟨frame 58 [(0, (AV.sl 0 0 n)), (1, (AV.c ((Value.int .i64 ((↑a : Int)))))), (2, (AV.c ((Value.int .i64 ((↑m : Int)))))), (3, (AV.c ((Value.int .i64 ((↑b : Int)))))), (4, (AV.fn 37 [(AV.pt 1 0)])), (10, (AV.c ((Value.int .i64 ((↑i : Int)))))), (11, (AV.c ((Value.int .i64 ((↑(j - i) : Int))))))], [(.some ⟨3, false, (nats (swD (unnats (nats D)) (m - i) (m + j - i) i))⟩),
 (.some ⟨22, true, [(AV.fs 1 k C)]⟩)]⟩, _)) (by kernel_rfl) (congrArg (fun S : St => some ((.normal : Exit), S, _)) (by first | rfl | (simp (disch := omega) only [std, hu]; first | done | rfl))), ?_⟩
  all_goals try simp (disch := omega) only [std, hu]
  all_goals repeat' apply And.intro
  all_goals first | exact True.intro | omega | with_reducible rfl | with_reducible assumption | exact hD | exact hu | rfl


theorem rtZ_all (D : List Nat) (n k a m b i j : Nat) (C : List AV) (hij : i = j) (hn : n ≤ 255) (hD : D.length = n) (him : i ≤ m) (hj : m + j ≤ n) (hu : unnats (nats D) = D) : RoundK 2 Try.prog clSw (lbody Try.prog 55 2) (rtS D n k a m b i j C) (.exit 0) (rtS D n k a m b i j C) := by
  refine ⟨⟨true, (bs [(20, false)] ++ [(27, ⟨.c (.int .i64 (m - i : Nat)), none⟩), (34, ⟨.c (.int .i64 (i - j : Nat)), none⟩), (38, ⟨.c (.int .i64 (m - i : Nat)), none⟩), (41, ⟨.c (.int .i64 (m + j : Nat)), none⟩), (43, ⟨.c (.int .i64 (m + j - i : Nat)), none⟩), (49, ⟨.c (.int .i64 (j - i : Nat)), none⟩)])⟩, _, 60, ⟨[], [0, 1, 2, 3, 4, 10, 11], [0, 1]⟩, [((↑i : Int) != (↑j : Int)) = false], lpBy_nilK, by decide, by kernel_rfl, ?_⟩
  all_goals try simp (disch := omega) only [std, hu]
  all_goals repeat' apply And.intro
  all_goals first | exact True.intro | omega | with_reducible rfl | with_reducible assumption | exact hij | exact hD | exact hu | rfl

/-- How the turning goes on. -/
def rotG (m : Nat) : Nat → List Nat → Nat → Nat → List Nat × Nat
  | 0, D, i, j => (D, i)
  | f + 1, D, i, j => if i = j then (D, i) else if j < i then rotG m f (swD D (m - i) m j) (i - j) j else rotG m f (swD D (m - i) (m + j - i) i) i (j - i)

theorem rotG_is : ∀ (f m i j : Nat) (P U V Q : List Nat), U.length = i → V.length = j → P.length + i = m → i + j ≤ f → 0 < i → 0 < j →
    ∃ D' g, rotG m f (P ++ (U ++ (V ++ Q))) i j = (D', g) ∧ D'.length = P.length + i + j + Q.length ∧ g ≤ i ∧ g ≤ j ∧ swD D' (m - g) m g = P ++ (V ++ (U ++ Q))
  | 0, m, i, j, P, U, V, Q, h1, h2, h3, h4, h5, h6 => by omega
  | f + 1, m, i, j, P, U, V, Q, h1, h2, h3, h4, h5, h6 => by
    unfold rotG
    by_cases hij : i = j
    · rw [if_pos hij]
      refine ⟨_, _, rfl, by simp only [List.length_append]; omega, Nat.le_refl _, by omega, ?_⟩
      have := exch_is P U [] V Q (by omega)
      rw [exch_all (by omega)] at this
      rw [show m - i = P.length by omega, show m = P.length + U.length + ([] : List Nat).length by simp; omega, ← h1]
      exact this
    · rw [if_neg hij]
      by_cases hlt : j < i
      · rw [if_pos hlt]
        obtain ⟨U1, U2, rfl, hU1⟩ : ∃ U1 U2, U = U1 ++ U2 ∧ U1.length = j := ⟨U.take j, U.drop j, (List.take_append_drop j U).symm, by rw [List.length_take]; omega⟩
        rw [List.length_append] at h1
        have := exch_is P U1 U2 V Q (by omega)
        rw [exch_all (by omega)] at this
        have e : swD (P ++ (U1 ++ U2 ++ (V ++ Q))) (m - i) m j = (P ++ V) ++ (U2 ++ (U1 ++ Q)) := by
          rw [show m - i = P.length by omega, show m = P.length + U1.length + U2.length by omega, ← hU1, List.append_assoc U1, this, List.append_assoc]
        rw [e]
        obtain ⟨D', g, k1, k2, k3, k4, k5⟩ := rotG_is f m (i - j) j (P ++ V) U2 U1 Q (by omega) hU1 (by rw [List.length_append]; omega) (by omega) (by omega) h6
        rw [List.length_append] at k2
        exact ⟨D', g, k1, by omega, by omega, k4, by rw [k5]; simp⟩
      · rw [if_neg hlt]
        obtain ⟨V1, V2, rfl, hV2⟩ : ∃ V1 V2, V = V1 ++ V2 ∧ V2.length = i := ⟨V.take (j - i), V.drop (j - i), (List.take_append_drop _ V).symm, by rw [List.length_drop]; omega⟩
        rw [List.length_append] at h2
        have := exch_is P U V1 V2 Q (by omega)
        rw [exch_all (by omega)] at this
        have e : swD (P ++ (U ++ (V1 ++ V2 ++ Q))) (m - i) (m + j - i) i = P ++ (V2 ++ (V1 ++ (U ++ Q))) := by
          rw [show m - i = P.length by omega, show m + j - i = P.length + U.length + V1.length by omega, ← h1, List.append_assoc V1, this]
        rw [e]
        obtain ⟨D', g, k1, k2, k3, k4, k5⟩ := rotG_is f m i (j - i) P V2 V1 (U ++ Q) hV2 (by omega) h3 (by omega) h5 (by omega)
        rw [List.length_append] at k2
        exact ⟨D', g, k1, by omega, k3, by omega, by rw [k5]; simp⟩

theorem swD_len (D : List Nat) {a b c : Nat} (h1 : a + c ≤ b) (h2 : b + c ≤ D.length) : (swD D a b c).length = D.length := by
  unfold swD
  simp only [List.length_append, List.length_take, List.length_drop]
  rw [seg_len D (by omega), seg_len D (by omega), seg_len D (by omega)]
  omega

theorem rt_walk (n k a m b : Nat) (C : List AV) (hn : n ≤ 255) (f0 : Nat) (D0 : List Nat) (i0 j0 : Nat) (h0 : D0.length = n) (h1 : i0 + j0 ≤ f0) (h2 : 0 < i0) (h3 : 0 < j0) (h4 : i0 ≤ m) (h5 : m + j0 ≤ n) :
    Tri (ExtK 2) Try.prog (.loop (lbody Try.prog 55 2)) (rtS D0 n k a m b i0 j0 C) (.exit 0) (rtS (rotG m f0 D0 i0 j0).1 n k a m b (rotG m f0 D0 i0 j0).2 (rotG m f0 D0 i0 j0).2 C) := by
  obtain ⟨G, hG⟩ : ∃ G, rotG m f0 D0 i0 j0 = G := ⟨_, rfl⟩
  rw [hG]
  refine loop_invK mixed clSw_ok (fun x : Nat × List Nat × Nat × Nat => rtS x.2.1 n k a m b x.2.2.1 x.2.2.2 C) (fun x => (x.2.1.length = n ∧ rotG m x.1 x.2.1 x.2.2.1 x.2.2.2 = G) ∧ (x.2.2.1 + x.2.2.2 ≤ x.1 ∧ 0 < x.2.2.1 ∧ 0 < x.2.2.2) ∧ x.2.2.1 ≤ m ∧ m + x.2.2.2 ≤ n) (fun x => x.1) (fun x hx => ?_) (f0, D0, i0, j0) ⟨⟨h0, hG⟩, ⟨h1, h2, h3⟩, h4, h5⟩
  obtain ⟨f, D, i, j⟩ := x
  obtain ⟨⟨g0, g1⟩, ⟨g2, g3, g4⟩, g5, g6⟩ := hx
  simp only at g0 g1 g2 g3 g4 g5 g6 ⊢
  obtain ⟨f, rfl⟩ : ∃ e, f = e + 1 := ⟨f - 1, by omega⟩
  unfold rotG at g1
  by_cases hij : i = j
  · rw [if_pos hij] at g1
    rw [← g1]
    subst hij
    exact .inr ⟨by simp, rtZ_all D n k a m b i i C rfl hn g0 g5 g6 (unnats_nats D)⟩
  · rw [if_neg hij] at g1
    by_cases hlt : j < i
    · rw [if_pos hlt] at g1
      exact .inl ⟨(f, swD D (m - i) m j, i - j, j), ⟨⟨(swD_len D (by omega) (by omega)).trans g0, g1⟩, ⟨by simp only; omega, by simp only; omega, g4⟩, by simp only; omega, g6⟩, by simp, rtA_all D n k a m b i j C hlt hn g0 g5 g6 (unnats_nats D)⟩
    · rw [if_neg hlt] at g1
      exact .inl ⟨(f, swD D (m - i) (m + j - i) i, i, j - i), ⟨⟨(swD_len D (by omega) (by omega)).trans g0, g1⟩, ⟨by simp only; omega, g3, by simp only; omega⟩, g5, by simp only; omega⟩, by simp, rtB_all D n k a m b i j C (by omega) hn g0 g5 g6 (unnats_nats D)⟩

noncomputable def rtLp (D D2 : List Nat) (n k a m b i j g : Nat) (C : List AV) : List (Nat × Lp) := [(2, ⟨lbody Try.prog 55 2, ⟨[], [0, 1, 2, 3, 4, 10, 11], [0, 1]⟩, rtS D n k a m b i j C, .exit 0, rtS D2 n k a m b g g C⟩)]

theorem rtb_all (D D2 : List Nat) (n k a m b g : Nat) (C : List AV) (hn : n ≤ 255) (h1 : a ≤ m) (h2 : m ≤ b) (h3 : b ≤ n) (hD : D2.length = n) (hg : g ≤ m) (hg2 : m + g ≤ n) (hu : unnats (nats D2) = D2) : ∃ (h : Hints) (p : List Prop), outKill [] (aBody Try.prog clSw h (lpBy (rtLp D D2 n k a m b (m - a) (b - m) g C)) 60 55 ([.sl 0 0 n, .c (.int .i64 a), .c (.int .i64 m), .c (.int .i64 b), srF]) (srH D k C)) = some (.tu [], srH (swD D2 (m - g) m g) k C, p) ∧ allP p := by
  refine ⟨⟨true, ([(14, ⟨.c (.int .i64 (m - a : Nat)), none⟩), (17, ⟨.c (.int .i64 (b - m : Nat)), none⟩), (53, ⟨.c (.int .i64 (m - g : Nat)), none⟩)])⟩, [(IntKind.i64.min : Int) ≤ ↑m - ↑a,
 (↑m - ↑a : Int) ≤ IntKind.i64.max,
 (↑m - ↑a : Int) = ↑(m - a),
 (IntKind.i64.min : Int) ≤ ↑b - ↑m,
 (↑b - ↑m : Int) ≤ IntKind.i64.max,
 (↑b - ↑m : Int) = ↑(b - m),
 ((lbody Try.prog (55 : FuncId) (2 : Nat) : Go.Code)) = (lbody Try.prog (55 : FuncId) (2 : Nat)),
 ((rtS D n k a m b (m - a) (b - m) C : Go.Proofs.Ytljgmgbjfjhjmaa.St)) = (rtS D n k a m b (m - a) (b - m) C),
 (IntKind.i64.min : Int) ≤ ↑m - ↑g,
 (↑m - ↑g : Int) ≤ IntKind.i64.max,
 (↑m - ↑g : Int) = ↑(m - g),
 ((nats D2 : List AV)) = (nats (unnats (nats D2))),
 (((unnats (nats D2)).length : Nat)) = (n),
 ((n : Nat) ≤ ((255 : Nat))),
 (0 : Int) ≤ ↑(m - g),
 (0 : Int) ≤ ↑g,
 (↑(m - g) + ↑g : Int) ≤ ↑m,
 (↑m + ↑g : Int) ≤ ↑n], Eq.trans (b := some ((AV.tu []), [(.some ⟨3, false, (nats (swD (unnats (nats D2)) (m - g) m g))⟩),
 (.some ⟨22, true, [(AV.fs 1 k C)]⟩)], _)) (by kernel_rfl) (congrArg (fun r : AV × Heap => some (r.1, r.2, _)) (a₁ := (_, _)) (a₂ := (_, _)) (by first | rfl | (simp (disch := omega) only [std, hu]; first | done | rfl))), ?_⟩
  all_goals try simp (disch := omega) only [std, hu]
  all_goals repeat' apply And.intro
  all_goals first | exact True.intro | omega | with_reducible rfl | with_reducible assumption | exact hD | exact hu | rfl

/-- What the turning makes of a row. -/
def rotD (D : List Nat) (a m b : Nat) : List Nat := put D a b (seg D m b ++ seg D a m)
def rotSpec : HSpec
  | [.sl 0 0 n, .c (.int .i64 a), .c (.int .i64 m), .c (.int .i64 b), .fn f [.pt 1 0]], [some ⟨t, false, C⟩, some ⟨t2, true, [.fs s k l]⟩] => if (t = 3 ∧ t2 = 22) ∧ (f = 37 ∧ s = 1) then
      some (.tu [], srH (rotD (unnats C) a.toNat m.toNat b.toNat) k l, [C = nats (unnats C), (unnats C).length = n, n ≤ 255, 0 ≤ a, a < m, m < b, b ≤ n]) else none
  | _, _ => none

theorem rot_ok : HSpecOK Try.prog 55 rotSpec := by
  refine hspec_lp mixed clSw_ok fun args hp r hp' q hs hq => ?_
  unfold rotSpec at hs
  split at hs
  · rename_i n a m b f t C t2 s k l
    split at hs
    · rename_i hc
      obtain ⟨⟨rfl, rfl⟩, rfl, rfl⟩ := hc
      simp only [Option.some.injEq, Prod.mk.injEq] at hs
      obtain ⟨rfl, rfl, rfl⟩ := hs
      obtain ⟨h1, h2, h3, h4, h5, h6, h7, _⟩ := hq
      obtain ⟨a, rfl⟩ : ∃ k : Nat, a = (k : Int) := ⟨a.toNat, by omega⟩
      obtain ⟨m, rfl⟩ : ∃ k : Nat, m = (k : Int) := ⟨m.toNat, by omega⟩
      obtain ⟨b, rfl⟩ : ∃ k : Nat, b = (k : Int) := ⟨b.toNat, by omega⟩
      simp only [Int.toNat_natCast]
      generalize unnats C = D at *
      subst h1
      obtain ⟨D', g, k1, k2, k3, k4, k5⟩ := rotG_is (m - a + (b - m)) m (m - a) (b - m) (D.take a) (seg D a m) (seg D m b) (D.drop b) (seg_len D (by omega)) (seg_len D (by omega)) (by rw [List.length_take]; omega) (Nat.le_refl _) (by omega) (by omega)
      have eD : D.take a ++ (seg D a m ++ (seg D m b ++ D.drop b)) = D := by
        have e1 := seg_put D (a := a) (b := m) (by omega)
        have e2 : seg D m b ++ D.drop b = D.drop m := by
          have := congrArg (List.drop m) (seg_put D (a := m) (b := b) (by omega))
          unfold put at this
          rw [List.drop_append_of_le_length (by rw [List.length_take]; omega), List.drop_of_length_le (by rw [List.length_take]; omega), List.nil_append] at this
          exact this
        rw [e2]; exact e1
      rw [eD] at k1
      rw [List.length_take, List.length_drop] at k2
      have w := rt_walk n k a m b l h3 (m - a + (b - m)) D (m - a) (b - m) h2 (Nat.le_refl _) (by omega) (by omega) (by omega) (by omega)
      rw [k1] at w
      have eR : rotD D a m b = swD D' (m - g) m g := by
        rw [k5]; unfold rotD put; rw [List.append_assoc]
      rw [eR]
      obtain ⟨hh, p, e, hp⟩ := rtb_all D D' n k a m b g l h3 (by omega) (by omega) (by omega) (by omega) (by omega) (by omega) (unnats_nats D')
      exact ⟨_, _, _, _, _, lpBy_consK lpBy_nilK kp2 w, e, hp⟩
    · simp at hs
  · simp at hs

end Go.Proofs.Ytljgmgbjfjhjmaa
