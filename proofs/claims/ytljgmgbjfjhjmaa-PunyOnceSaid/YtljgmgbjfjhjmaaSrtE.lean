/- The library's stable sort at rows of numbers: two sorted blocks made one: the walks. -/
import Derived.Test.YtljgmgbjfjhjmaaSrtD
namespace Go.Proofs.Ytljgmgbjfjhjmaa
open Go.RowKit Srt
set_option linter.unusedVariables false
set_option linter.unusedSimpArgs false

/-- A loop that halves. -/
theorem bs_walk {cl : CallT} (hcl : CallOK Try.prog cl) {b : Code} (S : Nat → Nat → St) (t : Nat → Bool) (lo hi : Nat) {e : Exit} (he : e ≠ .normal)
    (hA : ∀ i j h, lo ≤ i → i < j → j ≤ hi → (i + j) / 2 = h → t h = true → RoundK 2 Try.prog cl b (S i j) .normal (S (h + 1) j))
    (hB : ∀ i j h, lo ≤ i → i < j → j ≤ hi → (i + j) / 2 = h → t h = false → RoundK 2 Try.prog cl b (S i j) .normal (S i h))
    (hZ : ∀ i j, ¬ i < j → RoundK 2 Try.prog cl b (S i j) e (S i j)) (hlh : lo ≤ hi) : Tri (ExtK 2) Try.prog (.loop b) (S lo hi) e (S (bsr t (hi - lo) lo hi) (bsr t (hi - lo) lo hi)) := by
  obtain ⟨s, hs⟩ : ∃ s, bsr t (hi - lo) lo hi = s := ⟨_, rfl⟩
  rw [hs]
  refine loop_invK mixed hcl (fun x : Nat × Nat × Nat => S x.2.1 x.2.2) (fun x => (lo ≤ x.2.1 ∧ x.2.1 ≤ x.2.2) ∧ x.2.2 ≤ hi ∧ x.2.2 - x.2.1 ≤ x.1 ∧ bsr t x.1 x.2.1 x.2.2 = s) (fun x => x.2.2 - x.2.1) (fun x hx => ?_) (hi - lo, lo, hi) ⟨⟨Nat.le_refl _, hlh⟩, Nat.le_refl _, Nat.le_refl _, hs⟩
  obtain ⟨f, i, j⟩ := x
  obtain ⟨⟨h1, h2⟩, h3, h4, h5⟩ := hx
  simp only at h1 h2 h3 h4 h5 ⊢
  by_cases hij : i < j
  · obtain ⟨f, rfl⟩ : ∃ g, f = g + 1 := ⟨f - 1, by omega⟩
    unfold bsr at h5
    rw [if_pos hij] at h5
    cases ht : t ((i + j) / 2) with
    | true =>
      rw [if_pos ht] at h5
      exact .inl ⟨(f, (i + j) / 2 + 1, j), ⟨⟨by simp only; omega, by simp only; omega⟩, h3, by simp only; omega, h5⟩, by simp only; omega, hA i j _ h1 hij h3 rfl ht⟩
    | false =>
      rw [if_neg (by rw [ht]; simp)] at h5
      exact .inl ⟨(f, i, (i + j) / 2), ⟨⟨h1, by simp only; omega⟩, by simp only; omega, by simp only; omega, h5⟩, by simp only; omega, hB i j _ h1 hij h3 rfl ht⟩
  · have e : i = s := by
      rw [← h5]
      cases f with
      | zero => rfl
      | succ f => unfold bsr; rw [if_neg hij]
    have e2 : j = i := by omega
    subst e2
    rw [← e]
    exact .inr ⟨he, hZ j j hij⟩

theorem bd_at {D : List Nat} {k i : Nat} (h : BdR D k) (hi : i < D.length) : D.getD i 0 < k := by
  have e : D.getD i 0 = D[i] := by simp [List.getD, hi]
  rw [e]; exact h _ (List.getElem_mem hi)

/-- Is the key at c less than the one at d? -/
def ltK (L : List Int) (D : List Nat) (c d : Nat) : Bool := decide (keyL L (D.getD c 0) < keyL L (D.getD d 0))

theorem ltK_t {L : List Int} {D : List Nat} {c d : Nat} (h : ltK L D c d = true) : L.getD (D.getD c 0) 0 - L.getD (D.getD d 0) 0 < 0 := by
  have h : keyL L (D.getD c 0) < keyL L (D.getD d 0) := of_decide_eq_true h
  unfold keyL at h; omega
theorem ltK_f {L : List Int} {D : List Nat} {c d : Nat} (h : ltK L D c d = false) : ¬ L.getD (D.getD c 0) 0 - L.getD (D.getD d 0) 0 < 0 := by
  have h : ¬ keyL L (D.getD c 0) < keyL L (D.getD d 0) := of_decide_eq_false h
  unfold keyL at h; omega

theorem sa_walk (D : List Nat) (n a m b : Nat) (L : List Int) (hn : n ≤ 255) (hD : D.length = n) (hsm : SmI L) (hb : BdR D L.length) (ha : a < n) (hmb : m ≤ b) (hbn : b ≤ n) :
    Tri (ExtK 2) Try.prog (.loop (lbody Try.prog 52 3)) (saS D n a m b m b L) (.exit 0) (saS D n a m b (bsr (fun c => ltK L D c a) (b - m) m b) (bsr (fun c => ltK L D c a) (b - m) m b) L) := by
  have hDn : (nats D).length = n := by rw [nats_length]; exact hD
  refine bs_walk clCm_ok (fun i j => saS D n a m b i j L) (fun c => ltK L D c a) m b (by simp) (fun i j h h1 h2 h3 h4 h5 => ?_) (fun i j h h1 h2 h3 h4 h5 => ?_) (fun i j h => saZ_all D n a m b i j L h) hmb
  · exact saA_all D n a m b i j h _ _ _ L h2 (ltK_t h5) hn (by omega) ha h4 (nats_av (by omega) rfl) (nats_av (by omega) rfl) rfl (bd_at hb (by omega)) (bd_at hb (by omega)) hsm hDn
  · exact saB_all D n a m b i j h _ _ _ L h2 (ltK_f h5) hn (by omega) ha h4 (nats_av (by omega) rfl) (nats_av (by omega) rfl) rfl (bd_at hb (by omega)) (bd_at hb (by omega)) hsm hDn

theorem sb_walk (D : List Nat) (n a m b : Nat) (L : List Int) (hn : n ≤ 255) (hD : D.length = n) (hsm : SmI L) (hb : BdR D L.length) (ha : a ≤ m) (hmn : m < n) :
    Tri (ExtK 2) Try.prog (.loop (lbody Try.prog 52 15)) (sbS D n a m b a m L) (.exit 4) (sbS D n a m b (bsr (fun c => !ltK L D m c) (m - a) a m) (bsr (fun c => !ltK L D m c) (m - a) a m) L) := by
  have hDn : (nats D).length = n := by rw [nats_length]; exact hD
  refine bs_walk clCm_ok (fun i j => sbS D n a m b i j L) (fun c => !ltK L D m c) a m (by simp) (fun i j h h1 h2 h3 h4 h5 => ?_) (fun i j h h1 h2 h3 h4 h5 => ?_) (fun i j h => sbZ_all D n a m b i j L h) ha
  · exact sbA_all D n a m b i j h _ _ _ L h2 (ltK_f (by simpa using h5)) hn (by omega) hmn h4 (nats_av (by omega) rfl) (nats_av (by omega) rfl) rfl (bd_at hb (by omega)) (bd_at hb (by omega)) hsm hDn
  · exact sbB_all D n a m b i j h _ _ _ L h2 (ltK_t (by simpa using h5)) hn (by omega) hmn h4 (nats_av (by omega) rfl) (nats_av (by omega) rfl) rfl (bd_at hb (by omega)) (bd_at hb (by omega)) hsm hDn

theorem se_walk (D : List Nat) (n a m b mid lo hi : Nat) (L : List Int) (hn : n ≤ 255) (hD : D.length = n) (hsm : SmI L) (hb : BdR D L.length) (hlh : lo ≤ hi) (h1 : hi ≤ n) (h2 : hi ≤ mid + m) (h3 : mid + m ≤ n + lo) :
    Tri (ExtK 2) Try.prog (.loop (lbody Try.prog 52 33)) (seS D n a m b mid lo hi L) (.exit 8) (seS D n a m b mid (bsr (fun c => !ltK L D (mid + m - 1 - c) c) (hi - lo) lo hi) (bsr (fun c => !ltK L D (mid + m - 1 - c) c) (hi - lo) lo hi) L) := by
  have hDn : (nats D).length = n := by rw [nats_length]; exact hD
  refine bs_walk clCm_ok (fun i j => seS D n a m b mid i j L) (fun c => !ltK L D (mid + m - 1 - c) c) lo hi (by simp) (fun i j h g1 g2 g3 g4 g5 => ?_) (fun i j h g1 g2 g3 g4 g5 => ?_) (fun i j h => seZ_all D n a m b mid i j L h) hlh
  · exact seA_all D n a m b mid i j h _ _ _ L g2 (ltK_f (by simpa using g5)) hn (by omega) (by omega) (by omega) g4 (nats_av (by omega) rfl) (nats_av (by omega) rfl) rfl (bd_at hb (by omega)) (bd_at hb (by omega)) hsm hDn
  · exact seB_all D n a m b mid i j h _ _ _ L g2 (ltK_t (by simpa using g5)) hn (by omega) (by omega) (by omega) g4 (nats_av (by omega) rfl) (nats_av (by omega) rfl) rfl (bd_at hb (by omega)) (bd_at hb (by omega)) hsm hDn

theorem mu_walk (P V R : List Nat) (y : Nat) (n a m b v : Nat) (L : List Int) (hn : n ≤ 255) (hl : P.length + V.length + 1 + R.length = n) (ha : P.length = a) (hv : v ≤ V.length) :
    Tri (ExtK 2) Try.prog (.loop (lbody Try.prog 52 9)) (muS (hop P V y R 0) n a m b (a + v + 1) a L) (.exit 2) (muS (hop P V y R v) n a m b (a + v + 1) (a + v) L) := by
  have h := loop_upK (k := 2) mixed cl0_ok (b := lbody Try.prog 52 9) (fun u => muS (hop P V y R u) n a m b (a + v + 1) (a + u) L) v (e := .exit 2) (R := muS (hop P V y R v) n a m b (a + v + 1) (a + v) L) (by simp) (fun u hu => ?_) ?_ 0 (Nat.zero_le _)
  · exact h
  · have hl1 := hop_len P V y R u
    have e1 := hop_at (P := P) (U := V) (R := R) (y := y) (u := u) (i := a + u) (by omega) (by omega)
    have e2 := hop_next (P := P) (U := V) (R := R) (y := y) (u := u) (i := a + u + 1) (by omega) (by omega)
    have e3 := hop_up (P := P) (U := V) (R := R) (y := y) (u := u) (i := a + u) (by omega) (by omega)
    refine muA_all (hop P V y R u) ((hop P V y R u).set (a + u) (V.getD u 0)) (hop P V y R (u + 1)) n a m b (a + v + 1) (a + u) y (V.getD u 0) L (by omega) hn (by omega) (nats_av (by omega) e1) (nats_av (by omega) e2) (nats_set _ _ _ (by omega)) ?_ (by rw [nats_length]; omega) (by rw [nats_length, List.length_set]; omega)
    rw [nats_set _ _ _ (by rw [List.length_set]; omega), e3]
  · have hl1 := hop_len P V y R v
    exact muZ_all (hop P V y R v) n a m b (a + v + 1) (a + v) L rfl (by omega)

theorem md_walk (P U R : List Nat) (y : Nat) (n a m b v : Nat) (L : List Int) (hn : n ≤ 255) (hl : P.length + U.length + 1 + R.length = n) (ha : P.length = a) (hm : a + U.length = m) (hv : v ≤ U.length) :
    Tri (ExtK 2) Try.prog (.loop (lbody Try.prog 52 21)) (mdS (hop P U y R U.length) n a m b (a + v) m L) (.exit 6) (mdS (hop P U y R v) n a m b (a + v) (a + v) L) := by
  subst hm
  refine loop_invK mixed cl0_ok (fun u => mdS (hop P U y R u) n a (a + U.length) b (a + v) (a + u) L) (fun u => v ≤ u ∧ u ≤ U.length) (fun u => u) (fun u hu => ?_) U.length ⟨hv, Nat.le_refl _⟩
  obtain ⟨h1, h2⟩ := hu
  by_cases hu : v < u
  · obtain ⟨u, rfl⟩ : ∃ w, u = w + 1 := ⟨u - 1, by omega⟩
    have hl1 := hop_len P U y R (u + 1)
    have e1 := hop_at (P := P) (U := U) (R := R) (y := y) (u := u + 1) (i := a + (u + 1)) (by omega) (by omega)
    have e2 := hop_back (P := P) (U := U) (R := R) (y := y) (u := u) (i := a + (u + 1) - 1) (by omega) (by omega)
    have e3 := hop_down (P := P) (U := U) (R := R) (y := y) (u := u) (i := a + u) (by omega) (by omega)
    refine .inl ⟨u, ⟨by omega, by omega⟩, by omega, ?_⟩
    refine mdA_all (hop P U y R (u + 1)) ((hop P U y R (u + 1)).set (a + u + 1) (U.getD u 0)) (hop P U y R u) n a (a + U.length) b (a + v) (a + (u + 1)) y (U.getD u 0) L (by omega) hn (by omega) (nats_av (by omega) e1) (nats_av (by omega) e2) (nats_set _ _ _ (by omega)) ?_ (by rw [nats_length]; omega) (by rw [nats_length, List.length_set]; omega)
    have := nats_set ((hop P U y R (u + 1)).set (a + u + 1) (U.getD u 0)) (a + u) y (by rw [List.length_set]; omega)
    rw [e3] at this
    exact this
  · have : u = v := by omega
    subst this
    exact .inr ⟨by simp, mdZ_all (hop P U y R u) n a (a + U.length) b (a + u) (a + u) L rfl⟩

noncomputable def saLp (D : List Nat) (n a m b s : Nat) (L : List Int) : Nat × Lp := (3, ⟨lbody Try.prog 52 3, ⟨[], [0, 1, 2, 3, 4, 10, 11], [0, 1]⟩, saS D n a m b m b L, .exit 0, saS D n a m b s s L⟩)
noncomputable def muLp (D D2 : List Nat) (n a m b i k : Nat) (L : List Int) : Nat × Lp := (9, ⟨lbody Try.prog 52 9, ⟨[], [0, 1, 2, 3, 4, 10, 13], [0, 1]⟩, muS D n a m b i a L, .exit 2, muS D2 n a m b i k L⟩)
noncomputable def sbLp (D : List Nat) (n a m b s : Nat) (L : List Int) : Nat × Lp := (15, ⟨lbody Try.prog 52 15, ⟨[], [0, 1, 2, 3, 4, 14, 15], [0, 1]⟩, sbS D n a m b a m L, .exit 4, sbS D n a m b s s L⟩)
noncomputable def mdLp (D D2 : List Nat) (n a m b i : Nat) (L : List Int) : Nat × Lp := (21, ⟨lbody Try.prog 52 21, ⟨[], [0, 1, 2, 3, 4, 14, 17], [0, 1]⟩, mdS D n a m b i m L, .exit 6, mdS D2 n a m b i i L⟩)
noncomputable def seLp (D : List Nat) (n a m b mid lo hi s : Nat) (L : List Int) : Nat × Lp := (33, ⟨lbody Try.prog 52 33, ⟨[], [0, 1, 2, 3, 4, 18, 19, 20, 21, 22], [0, 1]⟩, seS D n a m b mid lo hi L, .exit 8, seS D n a m b mid s s L⟩)

theorem sy1_all (D D2 : List Nat) (n a m b s k : Nat) (L : List Int) (hn : n ≤ 255) (h1 : a + 1 = m) (h2 : m ≤ n) : ∃ (h : Hints) (p : List Prop), outKill [] (aBody Try.prog cl0 h (lpBy ([saLp D n a m b s L, muLp D D2 n a m b s k L])) 60 52 ([.sl 0 0 n, .c (.int .i64 a), .c (.int .i64 m), .c (.int .i64 b), srF]) (srH D L.length (rowN L))) = some (.tu [], srH D2 L.length (rowN L), p) ∧ allP p := by
  refine ⟨⟨true, (bs [(28, true)])⟩, [(IntKind.i64.min : Int) ≤ ↑m - ↑a,
 (↑m - ↑a : Int) ≤ IntKind.i64.max,
 ((↑m : Int) - (↑a : Int) == (1 : Int)) = true,
 ((lbody Try.prog (52 : FuncId) (3 : Nat) : Go.Code)) = (lbody Try.prog (52 : FuncId) (3 : Nat)),
 ((saS D n a m b m b L : Go.Proofs.Ytljgmgbjfjhjmaa.St)) = (saS D n a m b m b L),
 ((lbody Try.prog (52 : FuncId) (9 : Nat) : Go.Code)) = (lbody Try.prog (52 : FuncId) (9 : Nat)),
 ((muS D n a m b s a L : Go.Proofs.Ytljgmgbjfjhjmaa.St)) = (muS D n a m b s a L)], by kernel_rfl, ?_⟩
  all_goals try simp (disch := omega) only [std]
  all_goals repeat' apply And.intro
  all_goals first | exact True.intro | omega | with_reducible rfl | with_reducible assumption | exact h1 | rfl

theorem sy2_all (D D2 : List Nat) (n a m b s : Nat) (L : List Int) (hn : n ≤ 255) (h1 : ¬ a + 1 = m) (h0 : a ≤ m) (h2 : m + 1 = b) (h3 : b ≤ n) : ∃ (h : Hints) (p : List Prop), outKill [] (aBody Try.prog cl0 h (lpBy ([sbLp D n a m b s L, mdLp D D2 n a m b s L])) 60 52 ([.sl 0 0 n, .c (.int .i64 a), .c (.int .i64 m), .c (.int .i64 b), srF]) (srH D L.length (rowN L))) = some (.tu [], srH D2 L.length (rowN L), p) ∧ allP p := by
  refine ⟨⟨true, (bs [(28, false), (80, true)])⟩, [(IntKind.i64.min : Int) ≤ ↑m - ↑a,
 (↑m - ↑a : Int) ≤ IntKind.i64.max,
 ((↑m : Int) - (↑a : Int) == (1 : Int)) = false,
 (IntKind.i64.min : Int) ≤ ↑b - ↑m,
 (↑b - ↑m : Int) ≤ IntKind.i64.max,
 ((↑b : Int) - (↑m : Int) == (1 : Int)) = true,
 ((lbody Try.prog (52 : FuncId) (15 : Nat) : Go.Code)) = (lbody Try.prog (52 : FuncId) (15 : Nat)),
 ((sbS D n a m b a m L : Go.Proofs.Ytljgmgbjfjhjmaa.St)) = (sbS D n a m b a m L),
 ((lbody Try.prog (52 : FuncId) (21 : Nat) : Go.Code)) = (lbody Try.prog (52 : FuncId) (21 : Nat)),
 ((mdS D n a m b s m L : Go.Proofs.Ytljgmgbjfjhjmaa.St)) = (mdS D n a m b s m L)], by kernel_rfl, ?_⟩
  all_goals try simp (disch := omega) only [std]
  all_goals repeat' apply And.intro
  all_goals first | exact True.intro | omega | with_reducible rfl | with_reducible assumption | exact h1 | exact h2 | rfl

end Go.Proofs.Ytljgmgbjfjhjmaa
